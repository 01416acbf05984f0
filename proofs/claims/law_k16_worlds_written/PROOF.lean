import PyProof.Rows.All
import Wide.All
import OpenK.AllK
import Wide.FinOn
import Lean
import PyProof.EqAt
import PyProof.EqKinds
import PyProof.TupleCall
import PyProof.StrCalls
import PyProof.StrCalls2
import PyProof.FitsReplace
import PyProof.StrOps2
import PyProof.StrCalls6
import PyProof.ToksMono
import PyProof.StationsW
import PyProof.PassesOwn
import PyProof.Rows.CatchOwn
import PyProof.Rows.CatchBare
import PyProof.Rows.Own
import PyProof.ExcAttrAll.ValueError
import PyProof.ExcBaseAll.ValueError
import KE.RegKIsAll
import PyProof.FString4
import PyProof.StrLawsRepr
import PyProof.StrLawsReplace
import PyProof.NeKinds
import PyProof.ConsumeWalk
import PyProof.SumWalkG
import PyProof.ListRange
import KE.KTab
import PyProof.EnumFor
import PyProof.EnumStmt
import PyProof.EnumMake
import PyProof.TupleIter
import PyProof.ZipIter
import PyProof.Rows.ZipGen
import PyProof.MeetsDict
import PyProof.DictList
import PyProof.FactsAll.dict
import PyProof.DictIter
import PyProof.DictWalks
import PyProof.MeetsDictList
import PyProof.Rows.SortShellK
import PyProof.Rows.SortStr
import PyProof.FactsAll.tuple_2
import PyProof.DictRoadsH
import PyProof.AutoListH
import PyProof.Conv_int_bool
import PyProof.Rows.StrCut
import PySem.Challenge.RW_boxproof_k16_worlds_written
set_option compiler.extract_closed false
set_option Elab.async false
set_option linter.all false
set_option maxRecDepth 100000
namespace L2
open PySem PySem.Spec PyProof.Rows
abbrev Key := Sum Int Str
def keyIs : Key → Value → Bool
  | .inl k, v => Value.isInt k v
  | .inr x, v => Value.isStrOf x v
def keyH (w : World) : Key → Int
  | .inl k => hashInt k
  | .inr x => hashStr w x
theorem keyIs_shape : ∀ {k : Key} {v : Value}, keyIs k v = true → (∃ i t, k = Sum.inl i ∧ v = Value.int i t) ∨ (∃ x t, k = Sum.inr x ∧ v = Value.str x t)
  | .inl i, v, h => by
    obtain ⟨t, e⟩ := Value.isInt_shape (k := i) (v := v) h
    exact .inl ⟨i, t, rfl, e⟩
  | .inr x, v, h => by
    obtain ⟨t, e⟩ := Value.isStrOf_shape (x := x) (v := v) h
    exact .inr ⟨x, t, rfl, e⟩
theorem keyIs_str (x : Str) (t : Tok) : keyIs (.inr x) (.str x t) = true := by simp [keyIs, Value.isStrOf]
theorem key_ll (a b : Int) : decide ((Sum.inl a : Key) = Sum.inl b) = (a == b) := by
  by_cases e : a = b
  · subst e; simp
  · have h : ¬ (Sum.inl a : Key) = Sum.inl b := fun q => e (Sum.inl.inj q)
    rw [decide_eq_false h]
    exact (beq_eq_false_iff_ne.mpr e).symm
theorem key_rr (a b : Str) : decide ((Sum.inr a : Key) = Sum.inr b) = decide (a = b) := by
  by_cases e : a = b
  · subst e; simp
  · have h : ¬ (Sum.inr a : Key) = Sum.inr b := fun q => e (Sum.inr.inj q)
    rw [decide_eq_false h, decide_eq_false e]
theorem key_lr (a : Int) (b : Str) : decide ((Sum.inl a : Key) = Sum.inr b) = false := decide_eq_false (fun q => nomatch q)
theorem key_rl (a : Str) (b : Int) : decide ((Sum.inr a : Key) = Sum.inl b) = false := decide_eq_false (fun q => nomatch q)
def mixKind (prog : Program) (w : World) : PySem.KeyKind prog w Key where
  is := keyIs
  hash := keyH w
  inj := fun v a b ha hb => by
    rcases keyIs_shape ha with ⟨i, t, rfl, rfl⟩ | ⟨x, t, rfl, rfl⟩
    · rcases keyIs_shape hb with ⟨j, u, rfl, e⟩ | ⟨y, u, rfl, e⟩
      · injection e with e1 _; rw [e1]
      · exact nomatch e
    · rcases keyIs_shape hb with ⟨j, u, rfl, e⟩ | ⟨y, u, rfl, e⟩
      · exact nomatch e
      · injection e with e1 _; rw [e1]
  byValue := fun k v h => by
    rcases keyIs_shape h with ⟨i, t, rfl, rfl⟩ | ⟨x, t, rfl, rfl⟩ <;> rfl
  pyHash := fun hv h => by
    rcases keyIs_shape hv with ⟨i, t, rfl, rfl⟩ | ⟨x, t, rfl, rfl⟩
    · exact wpAny_pyHash_int h
    · exact wpAny_pyHash_str h
  eqBool := fun hu hv h => by
    rcases keyIs_shape hu with ⟨i, t, rfl, rfl⟩ | ⟨x, t, rfl, rfl⟩
    · rcases keyIs_shape hv with ⟨j, u, rfl, rfl⟩ | ⟨y, u, rfl, rfl⟩
      · rw [key_ll] at h; exact wpAny_eqBool_int h
      · rw [key_lr] at h; exact SeqAt.EqAt.int_str i t y u _ _ _ _ h
    · rcases keyIs_shape hv with ⟨j, u, rfl, rfl⟩ | ⟨y, u, rfl, rfl⟩
      · rw [key_rl] at h; exact SeqAt.EqAt.str_int x t j u _ _ _ _ h
      · rw [key_rr] at h; exact wpAny_eqBool_str h
  «strs» := fun k x t v h => by
    rcases keyIs_shape h with ⟨i, u, rfl, e⟩ | ⟨y, u, rfl, e⟩
    · exact nomatch e
    · injection e with e1 _
      subst e1
      cases v <;> rfl
theorem mixKind_str (prog : Program) (w : World) (x : Str) (t : Tok) : (mixKind prog w).is (.inr x) (.str x t) = true := keyIs_str x t
end L2
namespace L2
open PySem PySem.Spec PyProof.Rows
inductive V where
  | non | bl (b : Bool) | int (i : Int) | str (x : Str) | byt (b : Array UInt8) | flt (b : UInt64) | ref (a : Addr) | ty (n : String)
  deriving DecidableEq
def RelV : V → Value → Prop
  | .non, u => u = Value.none
  | .bl b, u => u = Value.bool b
  | .int i, u => ∃ t, u = Value.int i t
  | .str x, u => ∃ t, u = Value.str x t
  | .byt b, u => ∃ t, u = Value.bytes b t
  | .flt b, u => ∃ t, u = Value.float b t
  | .ref a, u => u = Value.ref a
  | .ty n, u => u = Value.type n
abbrev Vals : List V → List Value → Prop := Paired RelV
theorem Vals.length {xs : List V} {us : List Value} (r : Vals xs us) : xs.length = us.length := Paired.length r
theorem Vals.get : ∀ {xs : List V} {us : List Value} {i : Nat} {x : V}, Vals xs us → xs[i]? = some x → ∃ u, us[i]? = some u ∧ RelV x u
  | _, _, _, _, .nil, e => by simp at e
  | _, _, 0, _, .cons r _, e => by simp at e; subst e; exact ⟨_, rfl, r⟩
  | _, _, i + 1, x, .cons _ t, e => by
    obtain ⟨u, h1, h2⟩ := Vals.get (i := i) (x := x) t (by simpa using e)
    exact ⟨u, by simpa using h1, h2⟩
theorem Vals.set {x : V} {u : Value} (r : RelV x u) : ∀ {xs : List V} {us : List Value} (i : Nat), Vals xs us → Vals (xs.set i x) (us.set i u)
  | _, _, _, .nil => .nil
  | _, _, 0, .cons _ t => .cons r t
  | _, _, i + 1, .cons q t => .cons q (Vals.set r i t)
theorem Vals.append : ∀ {xs ys : List V} {us ws : List Value}, Vals xs us → Vals ys ws → Vals (xs ++ ys) (us ++ ws)
  | _, _, _, _, .nil, s => s
  | _, _, _, _, .cons r t, s => .cons r (Vals.append t s)
theorem Vals.take : ∀ {xs : List V} {us : List Value} (n : Nat), Vals xs us → Vals (xs.take n) (us.take n)
  | _, _, 0, _ => .nil
  | _, _, _ + 1, .nil => .nil
  | _, _, n + 1, .cons r t => .cons r (Vals.take n t)
theorem Vals.drop : ∀ {xs : List V} {us : List Value} (n : Nat), Vals xs us → Vals (xs.drop n) (us.drop n)
  | _, _, 0, r => r
  | _, _, _ + 1, .nil => .nil
  | _, _, n + 1, .cons _ t => Vals.drop n t
def RelO : Option V → Option Value → Prop
  | some v, some u => RelV v u
  | none, none => True
  | _, _ => False
def KV {κ : Type} : List (κ × V) → List (κ × Value) → Prop := Paired fun (p : κ × V) (q : κ × Value) => p.1 = q.1 ∧ RelV p.2 q.2
def kV : Key → V
  | .inl i => .int i
  | .inr x => .str x
inductive HO where
  | lst (xs : List V)
  | tup (xs : List V)
  | dK (kvs : List (Key × V)) | dT (kvs : List (List Key × V))
  | set (S : Int → Bool) (n : Nat)
  | ins (C dx : Addr) (fs : List (Str × V))
  | own (x : Addr)
  | xd (fs : List (Str × V))
  | met (f x : Addr)
  | rng (lo hi : Int)
  | frz (o : Obj) (u : HO)
  | tbl (ps : Array Value)
  | ext (φ : Heap → Prop)
abbrev Hp := Addr → Option HO
def upd (H : Hp) (a : Addr) (o : HO) : Hp := fun b => if b = a then some o else H b
theorem upd_same {H : Hp} {a : Addr} {o : HO} : upd H a o a = some o := by unfold upd; rw [if_pos rfl]
theorem upd_ne {H : Hp} {a b : Addr} {o : HO} (h : b ≠ a) : upd H a o b = H b := by unfold upd; rw [if_neg h]
theorem upd_upd {H : Hp} {a : Addr} {o u : HO} : upd (upd H a o) a u = upd H a u := by
  funext b; unfold upd; split <;> rfl
theorem ne_of_none {H : Hp} {a b : Addr} {o : HO} (h : H a = some o) (h' : H b = none) : a ≠ b := by
  intro e; subst e; rw [h] at h'; cases h'
section
variable (P : Program) (w : World)
def ObjOk (H : Hp) (h : Heap) (a : Addr) : HO → Prop
  | .lst xs => xs.length ≤ sizeLine ∧ ∃ (its : List Value) (n : Nat), Vals xs its ∧ h.get? a = some { cls := .type "list", data := .seq its.toArray n }
  | .tup xs => xs.length ≤ sizeLine ∧ ∃ its : List Value, Vals xs its ∧ IsTup h a its.toArray
  | .dK kvs => kvs.length ≤ sizeLine ∧ (a == sysModules) = false ∧ ∃ vs, KV kvs vs ∧ h.DictOf (mixKind P w) a vs
  | .dT kvs => kvs.length ≤ sizeLine ∧ (a == sysModules) = false ∧ ∃ xs : List (List Key × Addr × Value),
      Paired (fun (p : List Key × V) (q : List Key × Addr × Value) => p.1 = q.1 ∧ H q.2.1 = some (.tup (p.1.map kV)) ∧ RelV p.2 q.2.2) kvs xs ∧
      ∃ o es ep, h.get? a = some o ∧ o.ExactDict ∧ o.data = .dict es ep ∧ es.toList = xs.map (entryOfKey (tupleKind (mixKind P w))) ∧ (xs.map (·.1)).Nodup
  | .set S n => h.SetOf (intKind P w) a S n
  | .ins C dx fs => H dx = some (.own a) ∧ fs.length ≤ 1000 ∧ dx ≠ a ∧ h.get? a = some (PySem.W.instObj C dx) ∧
      ∃ mA, h.Ns1 dx mA ∧ (∀ f, RelO (fs.lookup f) (mA f)) ∧ PySem.Within mA (fs.map (·.1))
  | .own _ => ∃ o, h.get? a = some o
  | .xd fs => ∃ mA, h.Ns1 a mA ∧ ∀ f, RelO (fs.lookup f) (mA f)
  | .rng lo hi => ∃ t u v, h.get? a = some { cls := .type "range", data := .fields #[.int lo t, .int hi u, .int 1 v] }
  | .frz o u => h.get? a = some o ∧ ObjOk H h a u
  | .tbl ps => h.get? a = some { cls := .none, data := .fields ps }
  | .met f x => h.get? a = some (PySem.W.methodObj (.ref f) (.ref x))
  | .ext φ => φ h ∧ (∃ o, h.get? a = some o) ∧ ∀ h1 h2 : Heap, φ h1 → (∀ o, h1.get? a = some o → h2.get? a = some o) → φ h2
def HOk (H : Hp) (h : Heap) : Prop := ∀ a o, H a = some o → ObjOk P w H h a o
end
section
variable {P : Program} {w : World} {H H' : Hp} {h h' : Heap} {a : Addr} {o : HO}
theorem ObjOk.lt (x : ObjOk P w H h a o) : a < h.objs.size := by
  cases o with
  | lst xs => obtain ⟨_, _, _, _, e⟩ := x; exact Heap.lt_size e
  | tup xs => obtain ⟨_, _, _, p⟩ := x; exact p.lt
  | dK kvs => obtain ⟨_, _, _, _, o, _, _, e, _⟩ := x; exact Heap.lt_size e
  | dT kvs => obtain ⟨_, _, _, _, o, _, _, e, _⟩ := x; exact Heap.lt_size e
  | set S n => obtain ⟨o, _, _, _, e, _⟩ := x; exact Heap.lt_size e
  | ins C dx fs => obtain ⟨_, _, _, e, _⟩ := x; exact Heap.lt_size e
  | own y => obtain ⟨_, e⟩ := x; exact Heap.lt_size e
  | xd fs => obtain ⟨_, ⟨_, _, _, e, _⟩, _⟩ := x; exact Heap.lt_size e
  | rng lo hi => obtain ⟨_, _, _, e⟩ := x; exact Heap.lt_size e
  | frz ob u => obtain ⟨e, _⟩ := x; exact Heap.lt_size e
  | tbl ps => exact Heap.lt_size (show h.get? a = some _ from x)
  | met f y => exact Heap.lt_size (show h.get? a = some _ from x)
  | ext φ => obtain ⟨_, ⟨_, e⟩, _⟩ := x; exact Heap.lt_size e
theorem Paired.mapP {α β : Type} {F G : α → β → Prop} : ∀ {l₁ : List α} {l₂ : List β}, Paired F l₁ l₂ → (∀ a b, F a b → G a b) → Paired G l₁ l₂
  | _, _, .nil, _ => .nil
  | _, _, .cons r t, f => .cons (f _ _ r) (Paired.mapP t f)
theorem ObjOk.stay (x : ObjOk P w H h a o) (k : ∀ b u, (b = a ∨ H b = some (.own a)) → h.get? b = some u → h'.get? b = some u)
    (ho : ∀ b, H b = some (.own a) → H' b = some (.own a)) (ht : ∀ b xs, H b = some (.tup xs) → H' b = some (.tup xs)) : ObjOk P w H' h' a o := by
  induction o with
  | lst xs => obtain ⟨z, its, n, r, e⟩ := x; exact ⟨z, its, n, r, k _ _ (.inl rfl) e⟩
  | tup xs => obtain ⟨z, its, r, ob, e, c⟩ := x; exact ⟨z, its, r, ob, k _ _ (.inl rfl) e, c⟩
  | dK kvs => obtain ⟨z, y, vs, r, ob, es, ep, e, c⟩ := x; exact ⟨z, y, vs, r, ob, es, ep, k _ _ (.inl rfl) e, c⟩
  | dT kvs =>
    obtain ⟨z, y, xs, r, ob, es, ep, e, c⟩ := x
    exact ⟨z, y, xs, Paired.mapP r fun p q z => ⟨z.1, ht _ _ z.2.1, z.2.2⟩, ob, es, ep, k _ _ (.inl rfl) e, c⟩
  | set S n => obtain ⟨ob, es, ep, t, e, c⟩ := x; exact ⟨ob, es, ep, t, k _ _ (.inl rfl) e, c⟩
  | ins C dx fs =>
    obtain ⟨d, z, ne, e, mA, ⟨od, es, ep, e2, c⟩, r⟩ := x
    exact ⟨ho _ d, z, ne, k _ _ (.inl rfl) e, mA, ⟨od, es, ep, k _ _ (.inr d) e2, c⟩, r⟩
  | own y => obtain ⟨ob, e⟩ := x; exact ⟨ob, k _ _ (.inl rfl) e⟩
  | xd fs => obtain ⟨mA, ⟨od, es, ep, e, c⟩, r⟩ := x; exact ⟨mA, ⟨od, es, ep, k _ _ (.inl rfl) e, c⟩, r⟩
  | rng lo hi => obtain ⟨t, u, v, e⟩ := x; exact ⟨t, u, v, k _ _ (.inl rfl) e⟩
  | frz ob u ih => obtain ⟨e, q⟩ := x; exact ⟨k _ _ (.inl rfl) e, ih q⟩
  | tbl ps =>
    have e : h.get? a = some { cls := .none, data := .fields ps } := x
    show h'.get? a = some { cls := .none, data := .fields ps }
    exact k a _ (.inl rfl) e
  | met f y =>
    have e : h.get? a = some (PySem.W.methodObj (.ref f) (.ref y)) := x
    show h'.get? a = some (PySem.W.methodObj (.ref f) (.ref y))
    exact k a _ (.inl rfl) e
  | ext φ => obtain ⟨p, ⟨o, e⟩, st⟩ := x; exact ⟨st _ _ p fun o q => k _ _ (.inl rfl) q, ⟨o, k _ _ (.inl rfl) e⟩, st⟩
theorem HOk.lt (x : HOk P w H h) (e : H a = some o) : a < h.objs.size := (x a o e).lt
theorem HOk.fresh (x : HOk P w H h) (e : h.objs.size ≤ a) : H a = none := by
  cases q : H a with
  | none => rfl
  | some u => exact absurd (Nat.lt_of_lt_of_le (x.lt q) e) (Nat.lt_irrefl _)
theorem HOk.kept (x : HOk P w H h) (k : ∀ b u, h.get? b = some u → h'.get? b = some u) : HOk P w H h' := fun a o e =>
  (x a o e).stay (fun b u _ q => k b u q) (fun _ q => q) fun _ _ q => q
theorem HOk.laid (x : HOk P w H h) (k : ∀ b u, h.get? b = some u → h'.get? b = some u) (hp : h.objs.size ≤ a) (new : ObjOk P w (upd H a o) h' a o) : HOk P w (upd H a o) h' := fun b u e => by
  have hn := x.fresh hp
  by_cases hb : b = a
  · subst hb; rw [upd_same] at e; cases e; exact new
  · rw [upd_ne hb] at e
    exact (x b u e).stay (fun c v _ q => k c v q) (fun c q => by rw [upd_ne (ne_of_none q hn)]; exact q) fun c xs q => by rw [upd_ne (ne_of_none q hn)]; exact q
end
def Rd (H : Hp) (a : Addr) (u : HO) : Prop := H a = some u ∨ ∃ o, H a = some (.frz o u)
theorem Rd.ok {P : Program} {w : World} {H : Hp} {h : Heap} {a : Addr} {u : HO} (r : Rd H a u) (x : HOk P w H h) : ObjOk P w H h a u := by
  rcases r with r | ⟨o, r⟩
  · exact x a u r
  · obtain ⟨_, q⟩ := x a _ r
    exact q
def Mut : Option HO → Prop
  | some (.lst _) => True
  | some (.dK _) => True
  | some (.dT _) => True
  | some (.set _ _) => True
  | some (.ins _ _ _) => True
  | some (.ext _) => True
  | _ => False
section
variable {P : Program} {w : World} {H : Hp} {h h' : Heap} {x e : Addr} {o' : HO}
theorem HOk.write (ok : HOk P w H h) (mu : Mut (H x)) (he : e = x ∨ H e = some (.own x)) (k : ∀ b u, b ≠ e → h.get? b = some u → h'.get? b = some u) (heo : ∃ u, h'.get? e = some u)
    (new : ObjOk P w (upd H x o') h' x o') : HOk P w (upd H x o') h' := fun b u q => by
  have nown : ∀ c y, H c = some (.own y) → c ≠ x := fun c y r z => by subst z; rw [r] at mu; exact mu
  have ntup : ∀ c xs, H c = some (.tup xs) → c ≠ x := fun c xs r z => by subst z; rw [r] at mu; exact mu
  by_cases hb : b = x
  · subst hb; rw [upd_same] at q; cases q; exact new
  · rw [upd_ne hb] at q
    by_cases hbe : b = e
    · have q' : H b = some (.own x) := by
        rcases he with z | z
        · exact absurd (hbe.trans z) hb
        · rw [hbe]; exact z
      rw [q] at q'; cases q'
      obtain ⟨v, hv⟩ := heo
      exact ⟨v, by rw [hbe]; exact hv⟩
    · refine (ok b u q).stay (fun c v hc r => k c v ?_ r) (fun c r => by rw [upd_ne (nown c b r)]; exact r) fun c xs r => by rw [upd_ne (ntup c xs r)]; exact r
      rcases hc with rfl | hc
      · exact hbe
      · rintro rfl
        rcases he with z | z
        · exact nown c b hc z
        · rw [hc] at z; cases z; exact hb rfl
end
structure Un (fs ex : List Addr) (H H' : Hp) (h h' : Heap) : Prop where
  keep : ∀ b o, h.get? b = some o → H b = none → b ∉ fs → b ∉ ex → h'.get? b = some o
  slot : ∀ b o, h.get? b = some o → H b = none → b ∈ fs → b ∉ ex → ∃ sl, h'.get? b = some { o with slots := sl }
  free : ∀ b o, h.get? b = some o → H b = none → b ∉ ex → H' b = none
  there : ∀ b o, h.get? b = some o → b ∉ ex → ∃ o', h'.get? b = some o'
  tups : ∀ b xs, H b = some (.tup xs) → H' b = some (.tup xs)
  frzs : ∀ b o u, H b = some (.frz o u) → H' b = some (.frz o u)
  tbls : ∀ b ps, H b = some (.tbl ps) → ∃ more, H' b = some (.tbl (ps ++ more))
section
variable {fs fs' ex ex' : List Addr} {H H1 H2 : Hp} {h h1 h2 h' : Heap} {a x e : Addr} {o : HO}
theorem Un.any (u : Un fs ex H H1 h h1) {b : Addr} {ob : Obj} (q : h.get? b = some ob) (n : H b = none) (hx : b ∉ ex) : ∃ sl, h1.get? b = some { ob with slots := sl } := by
  by_cases hb : b ∈ fs
  · exact u.slot b ob q n hb hx
  · exact ⟨ob.slots, u.keep b ob q n hb hx⟩
theorem Un.kept (k : ∀ b u, h.get? b = some u → h'.get? b = some u) : Un fs ex H H h h' :=
  ⟨fun b ob q _ _ _ => k b ob q, fun b ob q _ _ _ => ⟨ob.slots, k b ob q⟩, fun _ _ _ n _ => n, fun b ob q _ => ⟨ob, k b ob q⟩, fun _ _ q => q, fun _ _ _ q => q, fun _ ps q => ⟨#[], by rw [q]; simp⟩⟩
theorem Un.refl : Un fs ex H H h h := Un.kept fun _ _ q => q
theorem Un.laid (k : ∀ b u, h.get? b = some u → h'.get? b = some u) (hp : h.objs.size ≤ a) (hn : H a = none) : Un fs ex H (upd H a o) h h' where
  keep := fun b u q _ _ _ => k b u q
  slot := fun b u q _ _ _ => ⟨u.slots, k b u q⟩
  free := fun b u q n _ => by rw [upd_ne (Nat.ne_of_lt (Nat.lt_of_lt_of_le (Heap.lt_size q) hp))]; exact n
  there := fun b u q _ => ⟨u, k b u q⟩
  tups := fun b xs q => by rw [upd_ne (ne_of_none q hn)]; exact q
  frzs := fun b u xs q => by rw [upd_ne (ne_of_none q hn)]; exact q
  tbls := fun b ps q => ⟨#[], by rw [upd_ne (ne_of_none q hn), q]; simp⟩
theorem Un.write (mu : Mut (H x)) (he : e = x ∨ H e = some (.own x)) (k : ∀ b u, b ≠ e → h.get? b = some u → h'.get? b = some u) (heo : ∃ u, h'.get? e = some u) : Un fs ex H (upd H x o) h h' := by
  have hx : ∀ b, H b = none → b ≠ x := fun b n z => by subst z; rw [n] at mu; exact mu
  have hb : ∀ b, H b = none → b ≠ e := fun b n z => by
    subst z
    rcases he with r | r
    · exact hx b n r
    · rw [n] at r; cases r
  have hm : ∀ b u, H b = some u → ¬ Mut (some u) → b ≠ x := fun b u q nm z => by subst z; rw [q] at mu; exact nm mu
  refine ⟨fun b u q n _ _ => k b u (hb b n) q, fun b u q n _ _ => ⟨u.slots, k b u (hb b n) q⟩, fun b u q n _ => by rw [upd_ne (hx b n)]; exact n, fun b u q _ => ?_,
    fun b xs q => by rw [upd_ne (hm b _ q fun z => z)]; exact q, fun b u xs q => by rw [upd_ne (hm b _ q fun z => z)]; exact q, fun b ps q => ⟨#[], by rw [upd_ne (hm b _ q fun z => z), q]; simp⟩⟩
  by_cases hbe : b = e
  · subst hbe; exact heo
  · exact ⟨u, k b u hbe q⟩
end
def trk (h : Heap) (H : Hp) : List Addr := (List.range h.objs.size).filter fun a => (H a).isSome
def hidT (h : Heap) (H : Hp) : Heap := PySem.W.hideAll h (trk h H)
theorem hidT_size (h : Heap) (H : Hp) : (hidT h H).objs.size = h.objs.size := PySem.W.hideAll_size _ _
theorem hidT_get {h : Heap} {H : Hp} {b : Addr} {o : Obj} (e : h.get? b = some o) (n : H b = none) : (hidT h H).get? b = some o :=
  PySem.W.hideAll_get _ e fun hm => by
    have q : (H b).isSome = true := (List.mem_filter.mp hm).2
    rw [n] at q; simp at q
theorem of_hidT {h : Heap} {H : Hp} {b : Addr} {o : Obj} (e : (hidT h H).get? b = some o) : h.get? b = some o ∧ H b = none := by
  have e' : h.get? b = some o := PySem.W.of_hideAll (trk h H) e
  refine ⟨e', ?_⟩
  cases q : H b with
  | none => rfl
  | some x =>
    have hm : b ∈ trk h H := List.mem_filter.mpr ⟨List.mem_range.mpr (Heap.lt_size e'), by simp [q]⟩
    have z : (hidT h H).get? b = none := PySem.W.hideAll_none (trk h H) hm
    rw [z] at e; cases e
end L2
namespace L2
open PySem PySem.Spec PyProof.Rows
structure Mod (K : PySem.W.Frag) (mg : Str → Option Value) (base : Heap) : Prop where
  kin : K.In base
  glob : base.Ns mainGlobals mg
  blt : ∃ mb, base.Ns builtinsNs mb ∧ ∀ x : Str, x ≠ "__name__" → mb x = bootBuiltins x
  nolimit : base.NoLimit
structure Cx where
  prog : Program
  w : World
  K : PySem.W.Frag
  mg : Str → Option Value
  base : Heap
  A : Around
  N : List Str
  s₀ : Shared
  H₀ : Hp
  env : Env
  outer : List Env
  stack : List Env
  ex : List Addr
  fn : Str → Bool
  calm : Bool
  pn : List (Addr × Obj)
  xe : Value → Shared → Prop
def frs (l : List Env) : List Addr := l.filterMap (·.frame)
abbrev Cx.fs (X : Cx) : List Addr := frs X.outer
def Vis (sc : Scope) (x : Str) : Prop := sc.names.lookup x = some .local ∨ sc.names.lookup x = some .cell ∨ sc.names.lookup x = some .free
def Loc (sc : Scope) (x : Str) : Prop := sc.names.lookup x = some .local ∨ sc.names.lookup x = some .cell
def Look (env : Env) (h : Heap) (m : Str → Option Value) (x : Str) (u : Value) : Prop :=
  (env.kindOf x = some .local ∧ m x = some u) ∨ ((env.kindOf x = some .cell ∨ env.kindOf x = some .free) ∧ ∃ c, env.cells.lookup x = some c ∧ h.IsCell c (some u))
structure Cx.Ok (X : Cx) : Prop where
  mod : Mod X.K X.mg X.base
  kind : X.env.scope.kind = .function
  glob : X.env.globals = mainGlobals
  blt : X.env.builtins = builtinsNs
  above : X.s₀.heap.objs.size ≤ X.env.locals
  inj : ∀ x y c, X.env.cells.lookup x = some c → X.env.cells.lookup y = some c → x = y
  has : ∀ x, (X.env.kindOf x = some .cell ∨ X.env.kindOf x = some .free) → ∃ c, X.env.cells.lookup x = some c
  cab : ∀ x c, X.fn x = true → X.env.cells.lookup x = some c → X.s₀.heap.objs.size ≤ c
  hd : X.calm = true → X.A.handled = none
  frames : X.A.frames = some X.stack
  stk : X.stack = X.outer ∨ (X.stack = X.env :: X.outer ∧ X.env.frame = some X.env.locals)
  exf : ∀ b ∈ X.ex, b ≠ X.env.locals ∧ ∀ x c, X.env.cells.lookup x = some c → c ≠ b
  bs : ∀ b o, X.base.get? b = some o → X.s₀.heap.get? b = some o ∧ X.H₀ b = none
  bsz : X.base.objs.size ≤ X.s₀.heap.objs.size
  noex : ∀ b o, X.base.get? b = some o → b ∉ X.ex
  exfs : ∀ b ∈ X.ex, b ∉ X.fs
  funs : X.s₀.heap.FunFrames X.base X.outer
  frf : ∀ b ∈ X.fs, X.H₀ b = none
structure Inv (X : Cx) (pins : List (Addr × Obj)) (σ : List (Option V)) (H : Hp) (s : Shared) : Prop where
  ok : X.Ok
  os : s.os = X.s₀.os
  bare : AllBare s.gens
  base : Un X.fs X.ex X.H₀ H X.s₀.heap s.heap
  loc : ∃ m, s.heap.Ns X.env.locals m ∧ ∀ (i : Nat) (x : Str) (v : V), X.N[i]? = some x → σ[i]? = some (some v) → Vis X.env.scope x → ∃ u, RelV v u ∧ Look X.env s.heap m x u
  cell : ∀ x c, X.env.cells.lookup x = some c → ∃ v, s.heap.IsCell c v
  free : H X.env.locals = none
  freeC : ∀ x c, X.env.cells.lookup x = some c → H c = none
  pin : ∀ p ∈ X.pn ++ pins, s.heap.get? p.1 = some p.2 ∧ H p.1 = none ∧ p.1 ≠ X.env.locals ∧ p.1 ∉ X.fs ∧ ∀ v, p.2.data ≠ .cell v
  hok : HOk X.prog X.w H s.heap
  len : σ.length = X.N.length
section
variable {X : Cx} {pins : List (Addr × Obj)} {σ : List (Option V)} {H H' : Hp} {s : Shared} {h' : Heap}
theorem Cx.Ok.nofr (ok : X.Ok) {b : Addr} {o : Obj} (e : X.base.get? b = some o) : b ∉ X.fs := fun hb => by
  have := (ok.funs.mem hb).1
  rw [e] at this; cases this
theorem Inv.bs (I : Inv X pins σ H s) : ∀ b o, X.base.get? b = some o → s.heap.get? b = some o ∧ H b = none := fun b o e =>
  ⟨I.base.keep b o (I.ok.bs b o e).1 (I.ok.bs b o e).2 (I.ok.nofr e) (I.ok.noex b o e), I.base.free b o (I.ok.bs b o e).1 (I.ok.bs b o e).2 (I.ok.noex b o e)⟩
theorem Inv.bk (I : Inv X pins σ H s) : ∀ b o, X.base.get? b = some o → s.heap.get? b = some o := fun b o e => (I.bs b o e).1
theorem Inv.mod (I : Inv X pins σ H s) : Mod X.K X.mg X.base := I.ok.mod
theorem Inv.kIn (I : Inv X pins σ H s) : X.K.In s.heap := I.ok.mod.kin.keeps I.bk
theorem Inv.fr (I : Inv X pins σ H s) : ∃ m, Fr X.base X.env.locals s.heap m :=
  let ⟨m, hn, _⟩ := I.loc
  ⟨m, hn, I.bk, Nat.le_trans I.ok.bsz I.ok.above⟩
theorem Inv.lt (I : Inv X pins σ H s) : X.env.locals < s.heap.objs.size := let ⟨_, hn, _⟩ := I.loc; hn.lt
theorem Inv.sz (I : Inv X pins σ H s) : X.s₀.heap.objs.size ≤ s.heap.objs.size := Nat.le_trans I.ok.above (Nat.le_of_lt I.lt)
theorem Inv.nofs (I : Inv X pins σ H s) {a : Addr} (h : s.heap.objs.size ≤ a) : a ∉ X.fs := fun hb => by
  obtain ⟨_, o, ho, _⟩ := I.ok.funs.mem hb
  exact absurd (Nat.lt_of_lt_of_le (Heap.lt_size ho) (Nat.le_trans I.sz h)) (Nat.lt_irrefl _)
theorem Inv.cne (I : Inv X pins σ H s) : ∀ x c, X.env.cells.lookup x = some c → c ≠ X.env.locals := fun x c e z => by
  obtain ⟨v, o, ho, hd⟩ := I.cell x c e
  obtain ⟨m, ⟨o', es, ep, ho', hd', _⟩, _⟩ := I.loc
  rw [z, ho'] at ho; cases ho; rw [hd'] at hd; cases hd
theorem Inv.funs (I : Inv X pins σ H s) : s.heap.FunFrames X.base X.outer := by
  have all : ∀ (l : List Env), (∀ b ∈ frs l, b ∈ X.fs) → X.s₀.heap.FunFrames X.base l → s.heap.FunFrames X.base l := by
    intro l
    induction l with
    | nil => intro _ _; trivial
    | cons env r ih =>
      intro hs hl
      obtain ⟨hk, ⟨L, o, hf, hn, ho, hd⟩, hr⟩ := hl
      have hL : L ∈ X.fs := hs L (by unfold frs; rw [List.filterMap_cons, hf]; exact List.mem_cons_self)
      obtain ⟨sl, e⟩ := I.base.slot L o ho (I.ok.frf L hL) hL fun z => I.ok.exfs L z hL
      exact ⟨hk, ⟨L, _, hf, hn, e, hd⟩, ih (fun b hb => hs b (by unfold frs; rw [List.filterMap_cons, hf]; exact List.mem_cons_of_mem _ hb)) hr⟩
  exact all X.outer (fun _ hb => hb) I.ok.funs
theorem Inv.stack (I : Inv X pins σ H s) : s.heap.FunFrames X.base X.stack := by
  rcases I.ok.stk with e | ⟨e, hf⟩
  · rw [e]; exact I.funs
  · rw [e]
    obtain ⟨m, hn, _⟩ := I.loc
    refine .cons (by rw [I.ok.kind]; decide) hf hn ?_ I.funs
    exact Heap.get?_none_of_le (Nat.le_trans I.ok.bsz I.ok.above)
theorem Inv.stkSub (I : Inv X pins σ H s) : ∀ b ∈ frs X.stack, b ∈ X.env.locals :: X.fs := fun b hb => by
  rcases I.ok.stk with e | ⟨e, hf⟩
  · rw [e] at hb; exact List.mem_cons_of_mem _ hb
  · rw [e] at hb
    unfold frs at hb
    rw [List.filterMap_cons, hf] at hb
    exact hb
theorem Inv.stkFree (I : Inv X pins σ H s) : ∀ b ∈ frs X.stack, H b = none := fun b hb => by
  rcases List.mem_cons.mp (I.stkSub b hb) with e | hb
  · rw [e]; exact I.free
  · obtain ⟨_, o, ho, _⟩ := I.ok.funs.mem hb
    exact I.base.free b o ho (I.ok.frf b hb) fun z => I.ok.exfs b z hb
theorem Inv.step {g' : Array GenState} {t' : Nat} {d' : Drawn} {ch : List Addr} (I : Inv X pins σ H s)
    (hch : ∀ b ∈ ch, (b ∈ X.ex ∨ X.s₀.heap.objs.size ≤ b) ∧ b ≠ X.env.locals ∧ (∀ x c, X.env.cells.lookup x = some c → c ≠ b) ∧ ∀ p ∈ X.pn ++ pins, p.1 ≠ b)
    (keep : ∀ b o, b ≠ X.env.locals → b ∉ X.fs → b ∉ ch → s.heap.get? b = some o → H b = none → h'.get? b = some o)
    (slot : ∀ b o, b ≠ X.env.locals → b ∈ X.fs → b ∉ ch → s.heap.get? b = some o → H b = none → ∃ sl, h'.get? b = some { o with slots := sl }) (free : ∀ b o, b ∉ ch → s.heap.get? b = some o → H b = none → H' b = none)
    (there : ∀ b o, b ∉ ch → s.heap.get? b = some o → ∃ o', h'.get? b = some o')
    (tups : ∀ b xs, H b = some (.tup xs) → H' b = some (.tup xs)) (frzs : ∀ b o u, H b = some (.frz o u) → H' b = some (.frz o u)) (tbls : ∀ b ps, H b = some (.tbl ps) → ∃ more, H' b = some (.tbl (ps ++ more)))
    (ns : ∀ m, s.heap.Ns X.env.locals m → h'.Ns X.env.locals m) (hok : HOk X.prog X.w H' h') (hg : AllBare g') :
    Inv X pins σ H' { s with heap := h', gens := g', drawn := d', toks := t' } := by
  have neL : ∀ b o, X.s₀.heap.get? b = some o → b ≠ X.env.locals := fun b o e => Nat.ne_of_lt (Nat.lt_of_lt_of_le (Heap.lt_size e) I.ok.above)
  have neC : ∀ b o, X.s₀.heap.get? b = some o → b ∉ X.ex → b ∉ ch := fun b o e hx hb => by
    rcases (hch b hb).1 with z | z
    · exact hx z
    · exact absurd (Nat.lt_of_lt_of_le (Heap.lt_size e) z) (Nat.lt_irrefl _)
  have cellK : ∀ x c, X.env.cells.lookup x = some c → ∀ v, s.heap.IsCell c v → h'.IsCell c v := fun x c e v ⟨o, ho, hd⟩ => by
    have nch : c ∉ ch := fun z => (hch c z).2.2.1 x c e rfl
    by_cases hc : c ∈ X.fs
    · obtain ⟨sl, q⟩ := slot c o (I.cne x c e) hc nch ho (I.freeC x c e)
      exact ⟨_, q, hd⟩
    · exact ⟨o, keep c o (I.cne x c e) hc nch ho (I.freeC x c e), hd⟩
  refine ⟨I.ok, I.os, hg, ⟨fun b o e n hb hx => ?_, fun b o e n hb hx => ?_, fun b o e n hx => ?_, fun b o e hx => ?_, fun b xs e => tups b xs (I.base.tups b xs e), fun b o xs e => frzs b o xs (I.base.frzs b o xs e), fun b ps e => ?_⟩, ?_, fun x c e => ?_, ?_, fun x c e => ?_, fun p hp => ?_, hok, I.len⟩
  · exact keep b o (neL b o e) hb (neC b o e hx) (I.base.keep b o e n hb hx) (I.base.free b o e n hx)
  · obtain ⟨sl, e1⟩ := I.base.slot b o e n hb hx
    obtain ⟨sl', e2⟩ := slot b _ (neL b o e) hb (neC b o e hx) e1 (I.base.free b o e n hx)
    exact ⟨sl', e2⟩
  · obtain ⟨o', e1⟩ := I.base.there b o e hx
    exact free b o' (neC b o e hx) e1 (I.base.free b o e n hx)
  · obtain ⟨o', e1⟩ := I.base.there b o e hx
    exact there b o' (neC b o e hx) e1
  · obtain ⟨m1, e1⟩ := I.base.tbls b ps e
    obtain ⟨m2, e2⟩ := tbls b _ e1
    exact ⟨m1 ++ m2, by rw [e2, Array.append_assoc]⟩
  · obtain ⟨m, hn, hl⟩ := I.loc
    refine ⟨m, ns m hn, fun i x v e1 e2 e3 => ?_⟩
    obtain ⟨u, r, l⟩ := hl i x v e1 e2 e3
    refine ⟨u, r, ?_⟩
    rcases l with l | ⟨k, c, e, z⟩
    · exact .inl l
    · exact .inr ⟨k, c, e, cellK x c e _ z⟩
  · obtain ⟨v, z⟩ := I.cell x c e
    exact ⟨v, cellK x c e v z⟩
  · obtain ⟨m, ⟨o, _, _, ho, _⟩, _⟩ := I.loc
    exact free _ o (fun z => (hch _ z).2.1 rfl) ho I.free
  · obtain ⟨v, o, ho, hd⟩ := I.cell x c e
    exact free c o (fun z => (hch c z).2.2.1 x c e rfl) ho (I.freeC x c e)
  · obtain ⟨e, n, ne, nf, d⟩ := I.pin p hp
    have nch : p.1 ∉ ch := fun z => (hch p.1 z).2.2.2 p hp rfl
    exact ⟨keep p.1 p.2 ne nf nch e n, free p.1 p.2 nch e n, ne, nf, d⟩
theorem Inv.un {t' : Nat} (I : Inv X pins σ H s) (u : Un X.fs [] H H' s.heap h') (hok : HOk X.prog X.w H' h') : Inv X pins σ H' { s with heap := h', toks := t' } := by
  obtain ⟨m, ⟨o, es, ep, ho, r⟩, _⟩ := id I.loc
  obtain ⟨sl, hL⟩ := u.any ho I.free (by simp)
  exact I.step (g' := s.gens) (d' := s.drawn) (ch := []) (fun _ z => nomatch z) (fun b o _ hb _ e n => u.keep b o e n hb (by simp)) (fun b o _ hb _ e n => u.slot b o e n hb (by simp)) (fun b o _ e n => u.free b o e n (by simp)) (fun b o _ e => u.there b o e (by simp)) u.tups u.frzs u.tbls (fun m' hm => by
    obtain ⟨o', es', ep', ho', r'⟩ := hm
    rw [ho] at ho'; cases ho'
    exact ⟨_, es', ep', hL, r'⟩) hok I.bare
theorem Inv.call {g' : Array GenState} {t' : Nat} {d' : Drawn} {ch : List Addr} (I : Inv X pins σ H s) (u : Un (frs X.stack) ch H H' s.heap h') (hok : HOk X.prog X.w H' h') (hg : AllBare g')
    (hch : ∀ b ∈ ch, (b ∈ X.ex ∨ X.s₀.heap.objs.size ≤ b) ∧ b ≠ X.env.locals ∧ (∀ x c, X.env.cells.lookup x = some c → c ≠ b) ∧ ∀ p ∈ X.pn ++ pins, p.1 ≠ b) :
    Inv X pins σ H' { s with heap := h', gens := g', drawn := d', toks := t' } := by
  obtain ⟨m, ⟨o, es, ep, ho, r⟩, _⟩ := id I.loc
  obtain ⟨sl, hL⟩ := u.any ho I.free fun z => (hch _ z).2.1 rfl
  exact I.step (ch := ch) hch (fun b o hL hb hc e n => u.keep b o e n (fun z => (List.mem_cons.mp (I.stkSub b z)).elim hL hb) hc) (fun b o _ _ hc e n => u.any e n hc) (fun b o hc e n => u.free b o e n hc) (fun b o hc e => u.there b o e hc) u.tups u.frzs u.tbls (fun m' hm => by
    obtain ⟨o', es', ep', ho', r'⟩ := hm
    rw [ho] at ho'; cases ho'
    exact ⟨_, es', ep', hL, r'⟩) hok hg
theorem Inv.turned {t' : Nat} {it : Addr} (I : Inv X pins σ H s) (k : ∀ b o, b ≠ it → s.heap.get? b = some o → h'.get? b = some o) (hn : H it = none) (hL : it ≠ X.env.locals)
    (h1 : it ∈ X.ex ∨ X.s₀.heap.objs.size ≤ it) (h2 : ∀ x c, X.env.cells.lookup x = some c → c ≠ it) (h3 : ∀ p ∈ X.pn ++ pins, p.1 ≠ it) : Inv X pins σ H { s with heap := h', toks := t' } := by
  have nit : ∀ b u, H b = some u → b ≠ it := fun b u e z => by rw [z, hn] at e; cases e
  refine I.step (g' := s.gens) (d' := s.drawn) (ch := [it]) (fun b hb => ?_) (fun b o _ _ hc e _ => k b o (fun z => hc (by simp [z])) e) (fun b o _ _ hc e _ => ⟨o.slots, k b o (fun z => hc (by simp [z])) e⟩) (fun _ _ _ _ n => n)
    (fun b o hc e => ⟨o, k b o (fun z => hc (by simp [z])) e⟩) (fun _ _ e => e) (fun _ _ _ e => e) (fun b ps e => ⟨#[], by rw [e]; simp⟩) (fun m hm => ?_) (fun b u e => ?_) I.bare
  · have e : b = it := by simpa using hb
    subst e
    exact ⟨h1, hL, h2, h3⟩
  · obtain ⟨o, es, ep, ho, r⟩ := hm
    exact ⟨o, es, ep, k _ o (Ne.symm hL) ho, r⟩
  · refine (I.hok b u e).stay (fun c v hc q => k c v ?_ q) (fun _ q => q) fun _ _ q => q
    rcases hc with z | z
    · rw [z]; exact nit b u e
    · exact nit c _ z
theorem Inv.tok (I : Inv X pins σ H s) (t : Nat) : Inv X pins σ H { s with toks := t } := I.un (h' := s.heap) (t' := t) Un.refl I.hok
theorem Inv.kept {t' : Nat} (I : Inv X pins σ H s) (k : ∀ b u, s.heap.get? b = some u → h'.get? b = some u) : Inv X pins σ H { s with heap := h', toks := t' } := I.un (Un.kept k) (I.hok.kept k)
theorem Inv.laid {a : Addr} {o : HO} {t' : Nat} (I : Inv X pins σ H s) (k : ∀ b u, s.heap.get? b = some u → h'.get? b = some u) (hp : s.heap.objs.size ≤ a) (new : ObjOk X.prog X.w (upd H a o) h' a o) :
    Inv X pins σ (upd H a o) { s with heap := h', toks := t' } := I.un (Un.laid k hp (I.hok.fresh hp)) (I.hok.laid k hp new)
theorem Inv.write {x e : Addr} {o : HO} {t' : Nat} (I : Inv X pins σ H s) (mu : Mut (H x)) (he : e = x ∨ H e = some (.own x)) (k : ∀ b u, b ≠ e → s.heap.get? b = some u → h'.get? b = some u) (heo : ∃ u, h'.get? e = some u)
    (new : ObjOk X.prog X.w (upd H x o) h' x o) : Inv X pins σ (upd H x o) { s with heap := h', toks := t' } := I.un (Un.write mu he k heo) (I.hok.write mu he k heo new)
theorem Inv.weak {σ' : List (Option V)} (I : Inv X pins σ H s) (hl : σ'.length = σ.length) (w : ∀ (i : Nat) v, σ'[i]? = some (some v) → σ[i]? = some (some v)) : Inv X pins σ' H s :=
  ⟨I.ok, I.os, I.bare, I.base, let ⟨m, hn, hl'⟩ := I.loc; ⟨m, hn, fun i x v e1 e2 e3 => hl' i x v e1 (w i v e2) e3⟩, I.cell, I.free, I.freeC, I.pin, I.hok, hl.trans I.len⟩
theorem Inv.pins_of {pins' : List (Addr × Obj)} (I : Inv X pins σ H s) (h : ∀ p ∈ pins', s.heap.get? p.1 = some p.2 ∧ H p.1 = none ∧ p.1 ≠ X.env.locals ∧ p.1 ∉ X.fs ∧ ∀ v, p.2.data ≠ .cell v) : Inv X pins' σ H s :=
  ⟨I.ok, I.os, I.bare, I.base, I.loc, I.cell, I.free, I.freeC, fun p hp => (List.mem_append.mp hp).elim (fun z => I.pin p (List.mem_append_left _ z)) (h p), I.hok, I.len⟩
theorem nodup_ix {N : List Str} (hN : N.Nodup) {i j : Nat} {x : Str} (a : N[i]? = some x) (b : N[j]? = some x) : i = j := by
  obtain ⟨h1, e1⟩ := List.getElem?_eq_some_iff.mp a
  obtain ⟨h2, e2⟩ := List.getElem?_eq_some_iff.mp b
  exact (List.getElem_inj hN).mp (e1.trans e2.symm)
theorem store_ok2 {M : Model} {A : Around} {E : Value → Shared → Prop} {i : Nat} {x : Str} {v : V} {u : Value} {Q : Unit → Shared → Prop} (I : Inv X pins σ H s) (hN : X.N.Nodup) (hi : X.N[i]? = some x) (hx : Loc X.env.scope x) (r : RelV v u)
    (h : ∀ s', Inv X pins (σ.set i (some v)) H s' → (∃ a, Heap.SameBut a s.heap s'.heap ∧ (a = X.env.locals ∨ X.env.cells.lookup x = some a)) → Q () s') (hf : X.fn x = true ∨ X.env.scope.names.lookup x = some .local := by first | exact .inl rfl | exact .inr rfl | assumption) : wpAny M A (storeName X.env x u) Q E s := by
  obtain ⟨m, hn, hl⟩ := id I.loc
  have hcls : (X.env.scope.kind == .class || (X.env.scope.kind == .module && X.env.locals != X.env.globals)) = false := by rw [I.ok.kind]; rfl
  have hiσ : i < σ.length := by rw [I.len]; exact (List.getElem?_eq_some_iff.mp hi).1
  have cne := I.cne
  have tracked : ∀ {a : Addr} {h' : Heap}, (∃ o, s.heap.get? a = some o ∧ H a = none) → Heap.SameBut a s.heap h' → HOk X.prog X.w H h' := fun {a h'} ha hs b ob e => by
    obtain ⟨_, _, hfree⟩ := ha
    refine (I.hok b ob e).stay (fun c w' hc q => (hs.2 c ?_).trans q) (fun _ q => q) fun _ _ q => q
    rintro rfl
    rcases hc with rfl | hc
    · rw [hfree] at e; cases e
    · rw [hfree] at hc; cases hc
  rcases hx with hk | hk
  · refine wpAny_storeName_local hk hn (fun h' hn' hs => ?_) hcls
    obtain ⟨oL, _, _, hoL, _⟩ := id hn
    refine h _ ⟨I.ok, I.os, I.bare, ⟨fun b o e n hb hx => ?_, fun b o e n hb hx => ?_, I.base.free, fun b o e hx => ?_, I.base.tups, I.base.frzs, I.base.tbls⟩, ⟨_, hn', fun j y v' e1 e2 e3 => ?_⟩, fun y c e => ?_, I.free, I.freeC, fun p hp => ?_, tracked ⟨oL, hoL, I.free⟩ hs, by simpa using I.len⟩ ⟨_, hs, .inl rfl⟩
    · exact (hs.2 b (Nat.ne_of_lt (Nat.lt_of_lt_of_le (Heap.lt_size e) I.ok.above))).trans (I.base.keep b o e n hb hx)
    · obtain ⟨sl, e1⟩ := I.base.slot b o e n hb hx
      exact ⟨sl, (hs.2 b (Nat.ne_of_lt (Nat.lt_of_lt_of_le (Heap.lt_size e) I.ok.above))).trans e1⟩
    · obtain ⟨o', e1⟩ := I.base.there b o e hx
      exact ⟨o', (hs.2 b (Nat.ne_of_lt (Nat.lt_of_lt_of_le (Heap.lt_size e) I.ok.above))).trans e1⟩
    · by_cases hj : j = i
      · subst hj
        rw [hi] at e1; cases e1
        rw [List.getElem?_set_self hiσ] at e2
        cases e2
        exact ⟨u, r, .inl ⟨hk, by simp⟩⟩
      · rw [List.getElem?_set_ne (Ne.symm hj)] at e2
        obtain ⟨u', r', q⟩ := hl j y v' e1 e2 e3
        refine ⟨u', r', ?_⟩
        rcases q with ⟨k, e⟩ | ⟨k, c, e, z⟩
        · refine .inl ⟨k, ?_⟩
          have : y ≠ x := fun e => hj (nodup_ix hN e1 (e ▸ hi))
          simp [this, e]
        · exact .inr ⟨k, c, e, z.sameBut hs (cne y c e)⟩
    · obtain ⟨w', z⟩ := I.cell y c e
      exact ⟨w', z.sameBut hs (cne y c e)⟩
    · obtain ⟨e, n, ne, nf, d⟩ := I.pin p hp
      exact ⟨(hs.2 p.1 ne).trans e, n, ne, nf, d⟩
  · have hfn : X.fn x = true := by
      rcases hf with z | z
      · exact z
      · rw [z] at hk; cases hk
    obtain ⟨c, hc⟩ := I.ok.has x (.inl hk)
    obtain ⟨w', z⟩ := I.cell x c hc
    refine wpAny_storeName_cell I.ok.kind hk hc z (fun h' hc' hs => ?_)
    obtain ⟨oc, hoc, hocd⟩ := id z
    refine h { s with heap := h' } ⟨I.ok, I.os, I.bare, ⟨fun b o e n hb hx => ?_, fun b o e n hb hx => ?_, I.base.free, fun b o e hx => ?_, I.base.tups, I.base.frzs, I.base.tbls⟩, ⟨m, hn.sameBut hs (Ne.symm (cne x c hc)), fun j y v' e1 e2 e3 => ?_⟩, fun y c' e => ?_, I.free, I.freeC, fun p hp => ?_, tracked ⟨oc, hoc, I.freeC x c hc⟩ hs, by simpa using I.len⟩ ⟨c, hs, .inr hc⟩
    · exact (hs.2 b (Nat.ne_of_lt (Nat.lt_of_lt_of_le (Heap.lt_size e) (I.ok.cab x c hfn hc)))).trans (I.base.keep b o e n hb hx)
    · obtain ⟨sl, e1⟩ := I.base.slot b o e n hb hx
      exact ⟨sl, (hs.2 b (Nat.ne_of_lt (Nat.lt_of_lt_of_le (Heap.lt_size e) (I.ok.cab x c hfn hc)))).trans e1⟩
    · obtain ⟨o', e1⟩ := I.base.there b o e hx
      exact ⟨o', (hs.2 b (Nat.ne_of_lt (Nat.lt_of_lt_of_le (Heap.lt_size e) (I.ok.cab x c hfn hc)))).trans e1⟩
    · by_cases hj : j = i
      · subst hj
        rw [hi] at e1; cases e1
        rw [List.getElem?_set_self hiσ] at e2
        cases e2
        exact ⟨u, r, .inr ⟨.inl hk, c, hc, hc'⟩⟩
      · rw [List.getElem?_set_ne (Ne.symm hj)] at e2
        obtain ⟨u', r', q⟩ := hl j y v' e1 e2 e3
        refine ⟨u', r', ?_⟩
        rcases q with q | ⟨k, c', e, z'⟩
        · exact .inl q
        · refine .inr ⟨k, c', e, z'.sameBut hs ?_⟩
          rintro rfl
          exact hj (nodup_ix hN e1 (I.ok.inj _ _ _ e hc ▸ hi))
    · by_cases hcc : c' = c
      · subst hcc; exact ⟨_, hc'⟩
      · obtain ⟨w2, z2⟩ := I.cell y c' e
        exact ⟨w2, z2.sameBut hs hcc⟩
    · obtain ⟨e, n, ne, nf, d⟩ := I.pin p hp
      refine ⟨(hs.2 p.1 ?_).trans e, n, ne, nf, d⟩
      intro q
      rw [q, hoc] at e
      have q' : oc = p.2 := Option.some.inj e
      exact d w' (by rw [← q']; exact hocd)
theorem store_ok {M : Model} {A : Around} {E : Value → Shared → Prop} {i : Nat} {x : Str} {v : V} {u : Value} {Q : Unit → Shared → Prop} (I : Inv X pins σ H s) (hN : X.N.Nodup) (hi : X.N[i]? = some x) (hx : Loc X.env.scope x) (r : RelV v u)
    (h : ∀ s', Inv X pins (σ.set i (some v)) H s' → Q () s') (hf : X.fn x = true ∨ X.env.scope.names.lookup x = some .local := by first | exact .inl rfl | exact .inr rfl | assumption) : wpAny M A (storeName X.env x u) Q E s :=
  store_ok2 I hN hi hx r (fun s' I' _ => h s' I') hf
theorem Inv.call' {s' : Shared} {ch : List Addr} (I : Inv X pins σ H s) (ho : s'.os = s.os) (u : Un (frs X.stack) ch H H' s.heap s'.heap) (hok : HOk X.prog X.w H' s'.heap) (hg : AllBare s'.gens)
    (hch : ∀ b ∈ ch, (b ∈ X.ex ∨ X.s₀.heap.objs.size ≤ b) ∧ b ≠ X.env.locals ∧ (∀ x c, X.env.cells.lookup x = some c → c ≠ b) ∧ ∀ p ∈ X.pn ++ pins, p.1 ≠ b) : Inv X pins σ H' s' := by
  obtain ⟨h', g', d', t', o'⟩ := s'
  have e : o' = s.os := ho
  subst e
  exact I.call (g' := g') (t' := t') (d' := d') u hok hg hch
end
abbrev XK := Value → Option Addr → Hp → Prop
abbrev St := List (Option V)
abbrev VK := V → Hp → Prop
abbrev TE := St → Hp → VK → Prop
abbrev TT := St → Hp → (Bool → Hp → Prop) → Prop
abbrev TA := St → Hp → (List V → Hp → Prop) → Prop
structure Ends where
  nx : St → Hp → Prop
  rt : VK
  bk : St → Hp → Prop := fun _ _ => False
  ct : St → Hp → Prop := fun _ _ => False
abbrev TS := Ends → St → Hp → Prop
def EP (X : Cx) (pins : List (Addr × Obj)) (σ : St) (Q : VK) (u : Value) (s' : Shared) : Prop := ∃ v H', Inv X pins σ H' s' ∧ RelV v u ∧ Q v H'
def TP (X : Cx) (pins : List (Addr × Obj)) (σ : St) (Q : Bool → Hp → Prop) (b : Bool) (s' : Shared) : Prop := ∃ H', Inv X pins σ H' s' ∧ Q b H'
def AP (X : Cx) (pins : List (Addr × Obj)) (σ : St) (Q : List V → Hp → Prop) (us : List Value) (s' : Shared) : Prop := ∃ vs H', Inv X pins σ H' s' ∧ Vals vs us ∧ Q vs H'
def SP (X : Cx) (pins : List (Addr × Obj)) (D : Ends) (f : Flow) (s' : Shared) : Prop :=
  match f with
  | .next => ∃ σ' H', Inv X pins σ' H' s' ∧ D.nx σ' H'
  | .brk => ∃ σ' H', Inv X pins σ' H' s' ∧ D.bk σ' H'
  | .cont => ∃ σ' H', Inv X pins σ' H' s' ∧ D.ct σ' H'
  | .ret u => ∃ v σ' H', Inv X pins σ' H' s' ∧ RelV v u ∧ D.rt v H'
def PE (X : Cx) (e : Expr) (t : TE) : Prop :=
  ∀ (pins : List (Addr × Obj)) (s : Shared) (σ : St) (H : Hp) (Q : VK), Inv X pins σ H s → t σ H Q → wpAny (model X.prog X.w) X.A (eval e X.env) (EP X pins σ Q) X.xe s
def PT (X : Cx) (e : Expr) (t : TT) : Prop :=
  ∀ (pins : List (Addr × Obj)) (s : Shared) (σ : St) (H : Hp) (Q : Bool → Hp → Prop), Inv X pins σ H s → t σ H Q → wpAny (model X.prog X.w) X.A (isTrue e X.env (eval e X.env)) (TP X pins σ Q) X.xe s
def PW (X : Cx) (e : Expr) (t : TT) : Prop :=
  ∀ (whole : Sem Value) (pins : List (Addr × Obj)) (s : Shared) (σ : St) (H : Hp) (Q : Bool → Hp → Prop), Inv X pins σ H s → t σ H Q → wpAny (model X.prog X.w) X.A (isTrue e X.env whole) (TP X pins σ Q) X.xe s
theorem PW.pt {X : Cx} {e : Expr} {t : TT} (h : PW X e t) : PT X e t := h _
def PA (X : Cx) (es : List Expr) (t : TA) : Prop :=
  ∀ (pos : Pos) (pins : List (Addr × Obj)) (s : Shared) (σ : St) (H : Hp) (Q : List V → Hp → Prop), Inv X pins σ H s → t σ H Q → wpAny (model X.prog X.w) X.A (spliced (backTo pos (starEach es X.env))) (AP X pins σ Q) X.xe s
def PS (X : Cx) (st : Stmt) (t : TS) : Prop :=
  ∀ (pins : List (Addr × Obj)) (s : Shared) (σ : St) (H : Hp) (D : Ends), Inv X pins σ H s → t D σ H → wpAny (model X.prog X.w) X.A (exec st X.env) (SP X pins D) X.xe s
def PSs (X : Cx) (st : List Stmt) (t : TS) : Prop :=
  ∀ (pins : List (Addr × Obj)) (s : Shared) (σ : St) (H : Hp) (D : Ends), Inv X pins σ H s → t D σ H → wpAny (model X.prog X.w) X.A (execs st X.env) (SP X pins D) X.xe s
theorem thn {α : Type} {t : Sem α} {Q Q' : α → Shared → Prop} {M : Model} {A : Around} {E : Value → Shared → Prop} {s : Shared} (h : wpAny M A t Q E s) (hQ : ∀ a s, Q a s → Q' a s) : wpAny M A t Q' E s := wpAny_mono h hQ fun _ _ x => x
end L2
namespace L2
open PySem PySem.Spec PyProof.Rows
section
variable {X : Cx}
theorem bin {a b : Expr} {ta tb : TE} (ha : PE X a ta) (hb : PE X b tb) {pins : List (Addr × Obj)} {s : Shared} {σ : St} {H : Hp} {R : V → V → Hp → Prop} (I : Inv X pins σ H s) (h : ta σ H fun x H1 => tb σ H1 fun y H2 => R x y H2)
    {α : Type} {Q : α → Shared → Prop} {f : Value → Value → Sem α}
    (hf : ∀ v u s2 x y H2, Inv X pins σ H2 s2 → RelV x v → RelV y u → R x y H2 → wpAny (model X.prog X.w) X.A (f v u) Q X.xe s2) :
    wpAny (model X.prog X.w) X.A (eval a X.env) (fun v s₁ => wpAny (model X.prog X.w) X.A (eval b X.env) (fun u s₂ => wpAny (model X.prog X.w) X.A (f v u) Q X.xe s₂) X.xe s₁) X.xe s := by
  refine thn (ha pins s σ H _ I h) fun v s1 ⟨x, H1, I1, r1, q1⟩ => ?_
  refine thn (hb pins s1 σ H1 _ I1 q1) fun u s2 ⟨y, H2, I2, r2, q2⟩ => ?_
  exact hf v u s2 x y H2 I2 r1 r2 q2
def tVar (i : Nat) : TE := fun σ H Q => ∃ v, σ[i]? = some (some v) ∧ Q v H
def tC (v : V) : TE := fun _ H Q => Q v H
theorem pe_var {i : Nat} {x : Str} {pos : Pos} (hN : X.N[i]? = some x) (hv : Vis X.env.scope x) (hd : (x == ("__debug__" : Str)) = false := by decide) (hcd : (x == ("__classdict__" : Str)) = false := by decide) : PE X (.Name x pos) (tVar i) := by
  intro pins s σ H Q I h
  obtain ⟨v, e, h⟩ := h
  obtain ⟨m, hn, hl⟩ := I.loc
  obtain ⟨u, r, l⟩ := hl i x v hN e hv
  have fin : EP X pins σ Q u s := ⟨v, H, I, r, h⟩
  rcases l with ⟨hk, hm⟩ | ⟨hk, c, hc, hcell⟩
  · exact wpAny_Name (wpAny_loadName_local I.ok.kind hk hn hm fin) hd
  · rcases hk with hk | hk
    · exact wpAny_Name (wpAny_loadName_cell I.ok.kind hk hc hcell fin) hd
    · exact wpAny_Name (wpAny_loadName_free I.ok.kind hk hc hcell fin hcd) hd
theorem pe_int {i j pos} : PE X (.Constant (.int i) j pos) (tC (.int i)) := fun _ _ _ H _ I h => wpAny_Constant_int ⟨.int i, H, I.tok _, ⟨_, rfl⟩, h⟩
theorem pe_bl {b j pos} : PE X (.Constant (.bool b) j pos) (tC (.bl b)) := fun _ _ _ H _ I h => Constant_bool ⟨.bl b, H, I, rfl, h⟩
theorem pe_non {j pos} : PE X (.Constant .none j pos) (tC .non) := fun _ _ _ H _ I h => Constant_none ⟨.non, H, I, rfl, h⟩
theorem pe_str {x j pos} : PE X (.Constant (.str x) j pos) (tC (.str x)) := fun _ _ _ H _ I h => Calls.Constant_str ⟨.str x, H, I.tok _, ⟨_, rfl⟩, h⟩
def Gl (X : Cx) (x : Str) : Prop := X.env.kindOf x = some .globalImplicit
theorem ld_glob {E : Value → Shared → Prop} {pins : List (Addr × Obj)} {s : Shared} {σ : St} {H : Hp} {x : Str} {u : Value} {pos : Pos} {Q : Value → Shared → Prop} (I : Inv X pins σ H s) (hg : Gl X x) (hm : X.mg x = some u) (h : Q u s)
    (hd : (x == ("__debug__" : Str)) = false := by decide) : wpAny (model X.prog X.w) X.A (eval (.Name x pos) X.env) Q E s :=
  Calls.Name_function_global I.ok.kind hg (Calls.loadGlobal_global (by rw [I.ok.glob]; exact I.mod.glob.keeps I.bk) hm h) hd
theorem ld_blt {E : Value → Shared → Prop} {pins : List (Addr × Obj)} {s : Shared} {σ : St} {H : Hp} {x : Str} {u : Value} {pos : Pos} {Q : Value → Shared → Prop} (I : Inv X pins σ H s) (hg : Gl X x) (hm : X.mg x = none) (hv : bootBuiltins x = some u) (h : Q u s)
    (hn : x ≠ "__name__" := by decide) (hd : (x == ("__debug__" : Str)) = false := by decide) : wpAny (model X.prog X.w) X.A (eval (.Name x pos) X.env) Q E s := by
  obtain ⟨mb, h1, h2⟩ := I.mod.blt
  exact Calls.Name_function_global I.ok.kind hg (Calls.loadGlobal_builtin (by rw [I.ok.glob]; exact I.mod.glob.keeps I.bk) hm (by rw [I.ok.blt]; exact h1.keeps I.bk) ((h2 x hn).trans hv) h) hd
theorem pe_glob {x : Str} {v : V} {u : Value} {pos : Pos} (hg : Gl X x) (hm : X.mg x = some u) (r : RelV v u) (hd : (x == ("__debug__" : Str)) = false := by decide) : PE X (.Name x pos) (tC v) :=
  fun _ _ _ H _ I h => ld_glob I hg hm ⟨v, H, I, r, h⟩ hd
theorem pe_bltn {x : Str} {v : V} {u : Value} {pos : Pos} (hg : Gl X x) (hm : X.mg x = none) (hv : bootBuiltins x = some u) (r : RelV v u) (hn : x ≠ "__name__" := by decide) (hd : (x == ("__debug__" : Str)) = false := by decide) : PE X (.Name x pos) (tC v) :=
  fun _ _ _ H _ I h => ld_blt I hg hm hv ⟨v, H, I, r, h⟩ hn hd
variable {a b : Expr} {ta tb : TE} {pos : Pos}
def PC (X : Cx) (op : CmpOp) (a b : Expr) (t : TE) : Prop :=
  ∀ (pins : List (Addr × Obj)) (s : Shared) (σ : St) (H : Hp) (Q : VK), Inv X pins σ H s → t σ H Q →
    wpAny (model X.prog X.w) X.A (eval a X.env) (fun v s₁ => wpAny (model X.prog X.w) X.A (eval b X.env) (fun u s₂ => wpAny (model X.prog X.w) X.A (compareOp op v u) (EP X pins σ Q) X.xe s₂) X.xe s₁) X.xe s
theorem nobehind (b : Expr) {op : CmpOp} (h : op ≠ .In) (h2 : op ≠ .NotIn) : behindInMarks op b = false := by
  have e1 : (op == CmpOp.In) = false := by cases op <;> first | rfl | exact absurd rfl h
  have e2 : (op == CmpOp.NotIn) = false := by cases op <;> first | rfl | exact absurd rfl h2
  cases b <;> simp [behindInMarks, e1, e2]
def tB (t : TE) : TT := fun σ H Q => t σ H fun x H1 => ∃ c, x = .bl c ∧ Q c H1
theorem pt_cmp {op : CmpOp} {t : TE} (h : PC X op a b t) (h1 : behindInMarks op b = false := by first | exact nobehind _ (by decide) (by decide) | rfl) : PT X (.Compare a [op] [b] pos) (tB t) := by
  intro pins s σ H Q I hw
  refine wpAny_isTrue_Compare1 (thn (h pins s σ H _ I hw) fun v s1 h1 => thn h1 fun u s2 h2 => thn h2 fun c s3 ⟨x, H1, I1, r1, q1⟩ => ?_) h1
  obtain ⟨d, rfl, q⟩ := q1
  cases r1
  exact wpAny_truthy_bool ⟨H1, I1, q⟩
theorem pt_val {e : Expr} {t : TE} (h : PE X e t) (he : ∀ whole, isTrue e X.env whole = (do let v ← whole; standAt e.pos; holding [v] (truthy v)) := by intro _; rfl) : PT X e (tB t) := by
  intro pins s σ H Q I hw
  refine isTrue_plain (thn (h pins s σ H _ I hw) fun v s1 ⟨x, H1, I1, r1, q1⟩ => ?_) (he _)
  obtain ⟨d, rfl, q⟩ := q1
  cases r1
  exact wpAny_truthy_bool ⟨H1, I1, q⟩
variable {tA tB' : TT} {rest : List Expr}
def tAnd (t u : TT) : TT := fun σ H Q => t σ H fun c H1 => if c = true then u σ H1 Q else Q false H1
def tOr (t u : TT) : TT := fun σ H Q => t σ H fun c H1 => if c = true then Q true H1 else u σ H1 Q
def tNot (t : TT) : TT := fun σ H Q => t σ H fun c H1 => Q (!c) H1
theorem pw_and1 (ha : PT X a tA) : PW X (.BoolOp .And [a] pos) tA := by
  intro wh pins s σ H Q I h
  refine isTrue_and (thn (ha pins s σ H Q I h) fun c s1 e => ?_)
  cases c with
  | true => exact isTrue_and_nil e
  | false => exact e
theorem pw_or1 (ha : PT X a tA) : PW X (.BoolOp .Or [a] pos) tA := by
  intro wh pins s σ H Q I h
  refine isTrue_or (thn (ha pins s σ H Q I h) fun c s1 e => ?_)
  cases c with
  | false => exact isTrue_or_nil e
  | true => exact e
theorem pw_and (ha : PT X a tA) (hb : PW X (.BoolOp .And (b :: rest) pos) tB') : PW X (.BoolOp .And (a :: b :: rest) pos) (tAnd tA tB') := by
  intro wh pins s σ H Q I h
  refine isTrue_and (thn (ha pins s σ H _ I h) fun c s1 ⟨H1, I1, q1⟩ => ?_)
  cases c with
  | true => exact hb wh pins s1 σ H1 Q I1 q1
  | false => exact ⟨H1, I1, q1⟩
theorem pw_or (ha : PT X a tA) (hb : PW X (.BoolOp .Or (b :: rest) pos) tB') : PW X (.BoolOp .Or (a :: b :: rest) pos) (tOr tA tB') := by
  intro wh pins s σ H Q I h
  refine isTrue_or (thn (ha pins s σ H _ I h) fun c s1 ⟨H1, I1, q1⟩ => ?_)
  cases c with
  | true => exact ⟨H1, I1, q1⟩
  | false => exact hb wh pins s1 σ H1 Q I1 q1
theorem pt_not (ha : PT X a tA) : PT X (.UnaryOp .Not a pos) (tNot tA) := by
  intro pins s σ H Q I h
  exact isTrue_not (ha pins s σ H (fun c H1 => Q (!c) H1) I h)
def tAndV (ta tb : TE) : TE := fun σ H Q => ta σ H fun x H1 => ∃ c, x = .bl c ∧ if c = true then tb σ H1 Q else Q (.bl false) H1
def tNotV (ta : TE) : TE := fun σ H Q => ta σ H fun x H1 => ∃ c, x = .bl c ∧ Q (.bl (!c)) H1
theorem pe_one {op} {t : TE} (h : PE X a t) : PE X (.BoolOp op [a] pos) t := fun pins s σ H Q I hw => BoolOp_one (h pins s σ H Q I hw)
theorem pe_and (ha : PE X a ta) (hb : PE X (.BoolOp .And (b :: rest) pos) tb) : PE X (.BoolOp .And (a :: b :: rest) pos) (tAndV ta tb) := by
  intro pins s σ H Q I h
  refine BoolOp_and (thn (ha pins s σ H _ I h) fun v s1 ⟨x, H1, I1, r1, q1⟩ => ?_)
  obtain ⟨c, rfl, q1⟩ := q1
  cases r1
  refine wpAny_truthy_bool ?_
  cases c with
  | true => exact hb pins s1 σ H1 Q I1 q1
  | false => exact ⟨.bl false, H1, I1, rfl, q1⟩
theorem pe_not (ha : PE X a ta) : PE X (.UnaryOp .Not a pos) (tNotV ta) := by
  intro pins s σ H Q I h
  refine UnaryOp_ (thn (ha pins s σ H _ I h) fun v s1 ⟨x, H1, I1, r1, q1⟩ => ?_)
  obtain ⟨c, rfl, q1⟩ := q1
  cases r1
  exact not_of (wpAny_truthy_bool ⟨.bl (!c), H1, I1, rfl, q1⟩)
end
end L2
namespace L2
open PySem PySem.Spec PyProof.Rows
def SqL (K : PySem.W.Frag) (H : Hp) (a : Addr) (xs : List V) : Prop :=
  Rd H a (.lst xs) ∨
    ∃ (o : Obj) (its : Array Value) (n : Nat), K.lookup a = some o ∧ o.cls = .type "list" ∧ o.dict = none ∧ o.data = .seq its n ∧ its.size ≤ sizeLine ∧ Vals xs its.toList
def SqT (K : PySem.W.Frag) (H : Hp) (a : Addr) (xs : List V) : Prop :=
  Rd H a (.tup xs) ∨
    ∃ (o : Obj) (its : Array Value) (n : Nat), K.lookup a = some o ∧ o.cls = .type "tuple" ∧ o.data = .seq its n ∧ its.size ≤ sizeLine ∧ Vals xs its.toList
def absV : Value → Option V
  | .none => some .non
  | .bool b => some (.bl b)
  | .int i _ => some (.int i)
  | .str x _ => some (.str x)
  | .bytes b _ => some (.byt b)
  | .float b _ => some (.flt b)
  | .ref a => some (.ref a)
  | .type n => some (.ty n)
  | _ => none
theorem RelV.abs {x : V} {u : Value} (r : RelV x u) : absV u = some x := by
  cases x with
  | non => cases r; rfl
  | bl _ => cases r; rfl
  | int _ => obtain ⟨t, rfl⟩ := r; rfl
  | str _ => obtain ⟨t, rfl⟩ := r; rfl
  | byt _ => obtain ⟨t, rfl⟩ := r; rfl
  | flt _ => obtain ⟨t, rfl⟩ := r; rfl
  | ref _ => cases r; rfl
  | ty _ => cases r; rfl
theorem RelV.inj {x y : V} {u : Value} (r : RelV x u) (q : RelV y u) : x = y := Option.some.inj (r.abs.symm.trans q.abs)
theorem Vals.inj : ∀ {xs ys : List V} {us : List Value}, Vals xs us → Vals ys us → xs = ys
  | _, _, _, .nil, .nil => rfl
  | _, _, _, .cons r t, .cons r' t' => by rw [r.inj r', Vals.inj t t']
section
variable {X : Cx} {pins : List (Addr × Obj)} {σ : St} {H : Hp} {s : Shared} {a : Addr} {xs ys : List V}
theorem SqL.of {K : PySem.W.Frag} (h : H a = some (.lst xs)) : SqL K H a xs := .inl (.inl h)
theorem SqT.of {K : PySem.W.Frag} (h : H a = some (.tup xs)) : SqT K H a xs := .inl (.inl h)
theorem Inv.list (I : Inv X pins σ H s) (h : SqL X.K H a xs) : ∃ its : List Value, Vals xs its ∧ PlainL s.heap a its.toArray ∧ xs.length ≤ sizeLine := by
  rcases h with h | ⟨o, its, n, hk, hc, hd, hs, hz, r⟩
  · obtain ⟨z, its, n, r, e⟩ := h.ok I.hok
    exact ⟨its, r, ⟨_, n, e, rfl, rfl, rfl⟩, z⟩
  · refine ⟨its.toList, r, ⟨o, n, I.kIn a o hk, hc, hd, by simpa using hs⟩, ?_⟩
    have e := r.length
    simp only [Array.length_toList] at e
    omega
theorem Inv.tuple (I : Inv X pins σ H s) (h : SqT X.K H a xs) : ∃ its : List Value, Vals xs its ∧ IsTup s.heap a its.toArray ∧ xs.length ≤ sizeLine := by
  rcases h with h | ⟨o, its, n, hk, hc, hs, hz, r⟩
  · obtain ⟨z, its, r, p⟩ := h.ok I.hok
    exact ⟨its, r, p, z⟩
  · refine ⟨its.toList, r, ⟨o, I.kIn a o hk, hc, n, by simpa using hs⟩, ?_⟩
    have e := r.length
    simp only [Array.length_toList] at e
    omega
theorem Inv.list_inj (I : Inv X pins σ H s) (h : SqL X.K H a xs) (h' : SqL X.K H a ys) : xs = ys := by
  obtain ⟨its, r, ⟨o, n, e, _, _, d⟩, _⟩ := I.list h
  obtain ⟨its', r', ⟨o', n', e', _, _, d'⟩, _⟩ := I.list h'
  rw [e] at e'; cases e'
  rw [d] at d'
  injection d' with d1 _
  have : its = its' := by simpa using congrArg Array.toList d1
  subst this
  exact r.inj r'
theorem Inv.tuple_inj (I : Inv X pins σ H s) (h : SqT X.K H a xs) (h' : SqT X.K H a ys) : xs = ys := by
  obtain ⟨its, r, ⟨o, e, _, n, d⟩, _⟩ := I.tuple h
  obtain ⟨its', r', ⟨o', e', _, n', d'⟩, _⟩ := I.tuple h'
  rw [e] at e'; cases e'
  rw [d] at d'
  injection d' with d1 _
  have : its = its' := by simpa using congrArg Array.toList d1
  subst this
  exact r.inj r'
end
abbrev Cx.wish (X : Cx) (E : Value → Shared → Prop) : Cx := { X with xe := E }
abbrev Cx.nox (X : Cx) : Cx := X.wish fun _ _ => False
theorem Cx.Ok.wish {X : Cx} (ok : X.Ok) (E : Value → Shared → Prop) : (X.wish E).Ok :=
  ⟨ok.mod, ok.kind, ok.glob, ok.blt, ok.above, ok.inj, ok.has, ok.cab, ok.hd, ok.frames, ok.stk, ok.exf, ok.bs, ok.bsz, ok.noex, ok.exfs, ok.funs, ok.frf⟩
theorem Cx.Ok.unwish {X : Cx} {E : Value → Shared → Prop} (ok : (X.wish E).Ok) : X.Ok :=
  ⟨ok.mod, ok.kind, ok.glob, ok.blt, ok.above, ok.inj, ok.has, ok.cab, ok.hd, ok.frames, ok.stk, ok.exf, ok.bs, ok.bsz, ok.noex, ok.exfs, ok.funs, ok.frf⟩
section
variable {X : Cx} {pins : List (Addr × Obj)} {σ : St} {H : Hp} {s : Shared} {E : Value → Shared → Prop}
theorem Inv.wish (I : Inv X pins σ H s) (E : Value → Shared → Prop) : Inv (X.wish E) pins σ H s := ⟨I.ok.wish E, I.os, I.bare, I.base, I.loc, I.cell, I.free, I.freeC, I.pin, I.hok, I.len⟩
theorem Inv.unwish (I : Inv (X.wish E) pins σ H s) : Inv X pins σ H s := ⟨I.ok.unwish, I.os, I.bare, I.base, I.loc, I.cell, I.free, I.freeC, I.pin, I.hok, I.len⟩
theorem SP.unwish {D : Ends} {f : Flow} {s' : Shared} (h : SP (X.wish E) pins D f s') : SP X pins D f s' := by
  cases f with
  | next => obtain ⟨σ', H', I, q⟩ := h; exact ⟨σ', H', I.unwish, q⟩
  | brk => obtain ⟨σ', H', I, q⟩ := h; exact ⟨σ', H', I.unwish, q⟩
  | cont => obtain ⟨σ', H', I, q⟩ := h; exact ⟨σ', H', I.unwish, q⟩
  | ret u => obtain ⟨v, σ', H', I, r, q⟩ := h; exact ⟨v, σ', H', I.unwish, r, q⟩
theorem PSs.nox {st : List Stmt} {t : TS} (h : PSs X.nox st t) : PSs X st t := fun pins s σ H D I hw =>
  wpAny_mono (h pins s σ H D (I.wish _) hw) (fun _ _ q => q.unwish) fun _ _ z => False.elim z
end
section
variable {X : Cx} {st : Stmt} {rest : List Stmt} {t u : TS} {e : Expr} {te : TE} {pos : Pos}
def tNext : TS := fun D σ H => D.nx σ H
def tSeq (t u : TS) : TS := fun D σ H => t { D with nx := u D } σ H
theorem pss_nil : PSs X [] tNext := fun _ _ σ H _ I h => wpAny_execs_nil ⟨σ, H, I, h⟩
theorem pss_cons (h1 : PS X st t) (h2 : PSs X rest u) : PSs X (st :: rest) (tSeq t u) := by
  intro pins s σ H D I h
  refine wpAny_execs_cons (thn (h1 pins s σ H { D with nx := u D } I h) fun f s1 q => ?_)
  cases f with
  | next =>
    obtain ⟨σ', H', I', q⟩ := q
    exact h2 pins s1 σ' H' D I' q
  | ret v => exact q
  | brk => exact q
  | cont => exact q
theorem pss_one (h1 : PS X st t) : PSs X [st] t := by
  intro pins s σ H D I h
  refine wpAny_execs_cons (thn (h1 pins s σ H D I h) fun f s1 q => ?_)
  cases f with
  | next => exact wpAny_execs_nil q
  | ret v => exact q
  | brk => exact q
  | cont => exact q
theorem Inv.quiet {pins : List (Addr × Obj)} {σ : St} {H : Hp} {s : Shared} (I : Inv X pins σ H s) : interactive X.env = false := by simp [interactive, I.ok.kind]
def tDrop (te : TE) : TS := fun D σ H => te σ H fun _ H1 => D.nx σ H1
theorem ps_expr (he : PE X e te) (hs : swapsWith e none pos.line X.env = pure false := by rfl) : PS X (.Expr e pos) (tDrop te) := by
  intro pins s σ H D I h
  exact wpAny_Expr_any (thn (he pins s σ H _ I h) fun v s1 ⟨x, H1, I1, r1, q1⟩ => ⟨σ, H1, I1, q1⟩) I.quiet hs
def tRet (te : TE) : TS := fun D σ H => te σ H D.rt
theorem ps_ret (he : PE X e te) : PS X (.Return (some e) pos) (tRet te) := by
  intro pins s σ H D I h
  exact wpAny_Return_some (thn (he pins s σ H _ I h) fun v s1 ⟨x, H1, I1, r1, q1⟩ => ⟨x, σ, H1, I1, r1, q1⟩)
def tIfS (c : TT) (t u : TS) : TS := fun D σ H => c σ H fun b H1 => if b = true then t D σ H1 else u D σ H1
theorem ps_if {c : Expr} {a b : List Stmt} {tc : TT} (hc : PT X c tc) (ha : PSs X a t) (hb : PSs X b u) : PS X (.If c a b pos) (tIfS tc t u) := by
  intro pins s σ H D I h
  refine wpAny_If (thn (hc pins s σ H _ I h) fun d s1 ⟨H1, I1, q1⟩ => ?_)
  cases d with
  | true => exact ha pins s1 σ H1 D I1 q1
  | false => exact hb pins s1 σ H1 D I1 q1
def tNever : TS := fun _ _ _ => False
theorem ps_never : PS X st tNever := fun _ _ _ _ _ _ h => h.elim
end
abbrev TG := V → St → Hp → (St → Hp → Prop) → Prop
abbrev TGs := List V → St → Hp → (St → Hp → Prop) → Prop
def PG (X : Cx) (target : Expr) (t : TG) : Prop :=
  ∀ (pins : List (Addr × Obj)) (s : Shared) (σ : St) (H : Hp) (v : V) (u : Value) (Q : St → Hp → Prop), Inv X pins σ H s → RelV v u → t v σ H Q →
    wpAny (model X.prog X.w) X.A (assign target X.env u) (fun _ s' => ∃ σ' H', Inv X pins σ' H' s' ∧ Q σ' H') X.xe s
def PGs (X : Cx) (ts : List Expr) (t : TGs) : Prop :=
  ∀ (pins : List (Addr × Obj)) (s : Shared) (σ : St) (H : Hp) (vs : List V) (us : List Value) (Q : St → Hp → Prop), Inv X pins σ H s → Vals vs us → t vs σ H Q →
    wpAny (model X.prog X.w) X.A (assignInOrder ((assignEach ts X.env).map (·.2)) us) (fun _ s' => ∃ σ' H', Inv X pins σ' H' s' ∧ Q σ' H') X.xe s
abbrev TSet := V → V → V → Hp → (Hp → Prop) → Prop
def PSet (X : Cx) (t : TSet) : Prop :=
  ∀ (pins : List (Addr × Obj)) (s : Shared) (σ : St) (H : Hp) (o i v : V) (ov iv u : Value) (Q : Hp → Prop), Inv X pins σ H s → RelV o ov → RelV i iv → RelV v u → t o i v H Q →
    wpAny (model X.prog X.w) X.A (setItem ov iv u) (fun _ s' => ∃ H', Inv X pins σ H' s' ∧ Q H') X.xe s
abbrev TIp := V → V → Hp → VK → Prop
def PIp (X : Cx) (op : Operator) (t : TIp) : Prop :=
  ∀ (pins : List (Addr × Obj)) (s : Shared) (σ : St) (H : Hp) (x y : V) (v u : Value) (Q : VK), Inv X pins σ H s → RelV x v → RelV y u → t x y H Q →
    wpAny (model X.prog X.w) X.A (inplaceOp op v u) (EP X pins σ Q) X.xe s
section
variable {X : Cx} {pos : Pos}
def gName (i : Nat) : TG := fun v σ H Q => Q (σ.set i (some v)) H
theorem pg_name {i : Nat} {x : Str} (hN : X.N.Nodup) (hi : X.N[i]? = some x) (hx : Loc X.env.scope x) (hf : X.fn x = true ∨ X.env.scope.names.lookup x = some .local := by first | exact .inl rfl | exact .inr rfl | assumption) : PG X (.Name x pos) (gName i) := by
  intro pins s σ H v u Q I r h
  exact wpAny_assign_Name (store_ok I hN hi hx r (fun s' I' => ⟨_, H, I', h⟩) hf)
def gNil : TGs := fun vs σ H Q => vs = [] ∧ Q σ H
def gCons (t : TG) (u : TGs) : TGs := fun vs σ H Q => ∃ v r, vs = v :: r ∧ t v σ H fun σ' H' => u r σ' H' Q
theorem pgs_nil : PGs X [] gNil := by
  intro pins s σ H vs us Q I r h
  obtain ⟨e, h⟩ := h
  subst e
  cases r
  exact assignInOrder_nil ⟨σ, H, I, h⟩
theorem pgs_cons {e : Expr} {es : List Expr} {t : TG} {u : TGs} (h1 : PG X e t) (h2 : PGs X es u)
    (hs : (assignEach (e :: es) X.env).map (·.2) = assign e X.env :: (assignEach es X.env).map (·.2) := by rfl) : PGs X (e :: es) (gCons t u) := by
  intro pins s σ H vs us Q I r h
  obtain ⟨v, vr, e1, h⟩ := h
  subst e1
  cases r with
  | cons r rr =>
    rw [hs]
    refine assignInOrder_cons (thn (h1 pins s σ H _ _ _ I r h) fun _ s1 ⟨σ1, H1, I1, q1⟩ => ?_)
    exact h2 pins s1 σ1 H1 _ _ Q I1 rr q1
def gTup (K : PySem.W.Frag) (n : Nat) (t : TGs) : TG := fun v σ H Q => ∃ a xs, v = .ref a ∧ SqT K H a xs ∧ xs.length = n ∧ t xs σ H Q
theorem pg_tup {es : List Expr} {k : Nat} {t : TGs} {n : Nat} (hc : X.calm = true) (h : PGs X es t)
    (hn : (assignEach es X.env).length = n := by rfl) (hst : (assignEach es X.env).findIdx? (·.1) = none := by rfl) : PG X (.Tuple es k pos) (gTup X.K n t) := by
  intro pins s σ H v u Q I r hw
  obtain ⟨a, xs, e1, hq, hl, hw⟩ := hw
  subst e1
  cases r
  obtain ⟨its, rv, ht, hz⟩ := I.tuple hq
  refine assign_Tuple_tuple (I.ok.hd hc) ht (by simp [hn, ← hl, rv.length]) hst fun h' hx => ?_
  have I1 : Inv X pins σ H { s with heap := h' } := I.kept (t' := s.toks) fun b o e => hx b o (Nat.ne_of_lt (Heap.lt_size e)) e
  exact h pins _ σ H xs _ Q I1 (by simpa using rv) hw
def gSub (to ti : TE) (t : TSet) : TG := fun v σ H Q => to σ H fun o H1 => ti σ H1 fun i H2 => t o i v H2 fun H3 => Q σ H3
theorem pg_sub {o i : Expr} {to ti : TE} {t : TSet} (ho : PE X o to) (hi : PE X i ti) (hs : PSet X t)
    (ha : ∀ v, assign (.Subscript o i pos) X.env v = (do
      let ov ← holding [v] (eval o X.env)
      let iv ← holding [v, ov] (eval i X.env)
      standAt pos
      holding [v, ov, iv] (setItem ov iv v)
      release [v, ov, iv] []) := by intro _; rfl) : PG X (.Subscript o i pos) (gSub to ti t) := by
  intro pins s σ H v u Q I r h
  rw [ha]
  refine wpAny_bind (wpAny_holding (thn (ho pins s σ H _ I h) fun ov s1 ⟨x, H1, I1, r1, q1⟩ => ?_))
  refine wpAny_bind (wpAny_holding (thn (hi pins s1 σ H1 _ I1 q1) fun iv s2 ⟨y, H2, I2, r2, q2⟩ => ?_))
  refine wpAny_bind (wpAny_standAt (wpAny_bind (wpAny_holding (thn (hs pins s2 σ H2 x y v ov iv u _ I2 r1 r2 r q2) fun _ s3 ⟨H3, I3, q3⟩ => ?_))))
  exact wpAny_release ⟨σ, H3, I3, q3⟩
def tAsg (te : TE) (g : TG) : TS := fun D σ H => te σ H fun x H1 => g x σ H1 D.nx
theorem ps_asg {tg e : Expr} {te : TE} {g : TG} (he : PE X e te) (hg : PG X tg g) (hs : swapsWithSole [tg] e pos.line X.env = pure false := by rfl) (hw : swappedStores [tg] e X.env = pure none := by rfl)
    (h1 : (assignEach [tg] X.env).map (·.2) = [assign tg X.env] := by rfl) : PS X (.Assign [tg] e pos) (tAsg te g) := by
  intro pins s σ H D I h
  refine wpAny_Assign_stores (thn (he pins s σ H _ I h) fun v s1 ⟨x, H1, I1, r1, q1⟩ => ?_) hs hw
  rw [h1]
  exact thn (hg pins s1 σ H1 x v _ I1 r1 q1) fun _ s2 q => q
theorem ps_set {i : Nat} {x : Str} {e : Expr} {te : TE} {pos' : Pos} (hN : X.N.Nodup) (hi : X.N[i]? = some x) (hx : Loc X.env.scope x) (he : PE X e te) (hs : swapsWith e (some (.Name x pos')) pos.line X.env = pure false := by rfl) (hf : X.fn x = true ∨ X.env.scope.names.lookup x = some .local := by first | exact .inl rfl | exact .inr rfl | assumption) :
    PS X (.Assign [.Name x pos'] e pos) (tAsg te (gName i)) := by
  intro pins s σ H D I h
  refine wpAny_Assign_Name (thn (he pins s σ H _ I h) fun v s1 ⟨y, H1, I1, r1, q1⟩ => ?_) hs
  exact store_ok I1 hN hi hx r1 (fun s2 I2 => ⟨_, H1, I2, q1⟩) hf
def tAug (i : Nat) (te : TE) (ti : TIp) : TS := fun D σ H => ∃ x, σ[i]? = some (some x) ∧ te σ H fun y H1 => ti x y H1 fun z H2 => D.nx (σ.set i (some z)) H2
theorem ps_aug {i : Nat} {x : Str} {e : Expr} {te : TE} {op : Operator} {ti : TIp} {pos' : Pos} (hN : X.N.Nodup) (hi : X.N[i]? = some x) (hx : Loc X.env.scope x) (he : PE X e te) (ho : PIp X op ti) (hf : X.fn x = true ∨ X.env.scope.names.lookup x = some .local := by first | exact .inl rfl | exact .inr rfl | assumption) :
    PS X (.AugAssign (.Name x pos') op e pos) (tAug i te ti) := by
  intro pins s σ H D I h
  obtain ⟨v, e1, h⟩ := h
  obtain ⟨m, hn, hl⟩ := I.loc
  have vis : Vis X.env.scope x := by rcases hx with k | k; exact .inl k; exact .inr (.inl k)
  obtain ⟨u, r, l⟩ := hl i x v hi e1 vis
  refine wpAny_AugAssign_Name ?_
  have go : wpAny (model X.prog X.w) X.A (eval e X.env) (fun w s₂ => wpAny (model X.prog X.w) X.A (inplaceOp op u w) (fun r s₃ => wpAny (model X.prog X.w) X.A (storeName X.env x r) (fun _ => SP X pins D .next) X.xe s₃) X.xe s₂) X.xe s := by
    refine thn (he pins s σ H _ I h) fun w s1 ⟨y, H1, I1, r1, q1⟩ => ?_
    refine thn (ho pins s1 σ H1 v y u w _ I1 r r1 q1) fun z s2 ⟨zv, H2, I2, r2, q2⟩ => ?_
    exact store_ok I2 hN hi hx r2 (fun s3 I3 => ⟨_, H2, I3, q2⟩) hf
  rcases l with ⟨hk, hm⟩ | ⟨hk, c, hc, hcell⟩
  · exact wpAny_loadName_local I.ok.kind hk hn hm go
  · rcases hk with hk | hk
    · exact wpAny_loadName_cell I.ok.kind hk hc hcell go
    · rcases hx with k | k
      · have : X.env.scope.names.lookup x = some .free := hk
        rw [k] at this; cases this
      · have : X.env.scope.names.lookup x = some .free := hk
        rw [k] at this; cases this
def ipI (f : Int → Int → Int) : TIp := fun x y H Q => ∃ i j, x = .int i ∧ y = .int j ∧ Q (.int (f i j)) H
theorem ip_add : PIp X .Add (ipI fun i j => i + j) := by
  intro pins s σ H x y v u Q I r1 r2 h
  obtain ⟨i, j, e1, e2, q⟩ := h
  subst e1; subst e2
  obtain ⟨t, rfl⟩ := r1
  obtain ⟨t', rfl⟩ := r2
  exact iadd_int ⟨.int _, H, I.tok _, ⟨_, rfl⟩, q⟩
end
section
variable {X : Cx} {pos : Pos}
def tWhile (c : TT) (tb : TS) : TS := fun D σ H => ∃ W : Nat → St → Hp → Prop, (∃ m, W m σ H) ∧ ∀ m σ H, W m σ H →
  c σ H fun b H1 => if b = true then ∃ N : St → Hp → Prop, (∀ σ' H', N σ' H' → ∃ m', m' < m ∧ W m' σ' H') ∧ tb { D with nx := N, ct := N, bk := D.nx } σ H1 else D.nx σ H1
theorem ps_while {c : Expr} {body : List Stmt} {tc : TT} {tb : TS} (hp : PassesOwn (model X.prog X.w) X.A X.env X.xe) (hc : PT X c tc) (hb : PSs X body tb) : PS X (.While c body [] pos) (tWhile tc tb) := by
  intro pins s σ H D I h
  obtain ⟨W, ⟨m0, w0⟩, turn⟩ := h
  refine wpAny_While (codeAny_whileLoop (fun n s' => ∃ σ' H', Inv X pins σ' H' s' ∧ W n σ' H') ?_ m0 ⟨σ, H, I, w0⟩)
  rintro n s1 ⟨σ1, H1, I1, w1⟩
  refine wpAny_passesOwn hp (thn (hc pins s1 σ1 H1 _ I1 (turn n σ1 H1 w1)) fun b s2 ⟨H2, I2, q2⟩ => ?_)
  cases b with
  | true =>
    obtain ⟨N, hN, q2⟩ := q2
    rw [if_pos rfl]
    refine wpAny_passesOwn hp (thn (hb pins s2 σ1 H2 _ I2 q2) fun f s3 q3 => ?_)
    cases f with
    | next =>
      obtain ⟨σ3, H3, I3, n3⟩ := q3
      obtain ⟨m', hm, w3⟩ := hN σ3 H3 n3
      exact ⟨m', hm, σ3, H3, I3, w3⟩
    | cont =>
      obtain ⟨σ3, H3, I3, n3⟩ := q3
      obtain ⟨m', hm, w3⟩ := hN σ3 H3 n3
      exact ⟨m', hm, σ3, H3, I3, w3⟩
    | brk => exact q3
    | ret v => exact q3
  | false =>
    rw [if_neg Bool.false_ne_true]
    exact wpAny_execs_nil ⟨σ1, H2, I2, q2⟩
end
structure It where
  go : Nat → Hp → Prop
  yld : Nat → Hp → V → Hp → Prop
  stop : Nat → Hp → Prop
def FpOk (X : Cx) (pins : List (Addr × Obj)) (H : Hp) (b : Addr) : Prop :=
  H b = none ∧ b ≠ X.env.locals ∧ b ∉ X.fs ∧ (b ∈ X.ex ∨ X.s₀.heap.objs.size ≤ b) ∧ (∀ x c, X.env.cells.lookup x = some c → c ≠ b) ∧ ∀ p ∈ X.pn ++ pins, p.1 ≠ b
theorem Inv.fpOk {X : Cx} {pins : List (Addr × Obj)} {σ : St} {H H' : Hp} {s : Shared} {b : Addr} (I : Inv X pins σ H s) (hb : s.heap.objs.size ≤ b) (hn : H' b = none) : FpOk X pins H' b := by
  refine ⟨hn, Nat.ne_of_gt (Nat.lt_of_lt_of_le I.lt hb), I.nofs hb, .inr (Nat.le_trans I.sz hb), fun x c e z => ?_, fun p hp z => ?_⟩
  · obtain ⟨v, q⟩ := I.cell x c e
    exact absurd (Nat.lt_of_lt_of_le q.lt (by rw [z]; exact hb)) (Nat.lt_irrefl _)
  · exact absurd (Nat.lt_of_lt_of_le (Heap.lt_size (I.pin p hp).1) (by rw [z]; exact hb)) (Nat.lt_irrefl _)
structure Turn (P : Program) (w : World) (K : PySem.W.Frag) (tg : Expr) (J : It) (fp : List Addr) (it : Addr) (tn : Nat → Heap → Prop) : Prop where
  mem : it ∈ fp
  obj : ∀ i h, tn i h → ∀ b ∈ fp, ∃ o, h.get? b = some o ∧ ∀ v, o.data ≠ .cell v
  keep : ∀ i h h', tn i h → (∀ b ∈ fp, ∀ o, h.get? b = some o → h'.get? b = some o) → tn i h'
  item : ∀ (X : Cx), X.prog = P → X.w = w → X.K = K → X.calm = true → ∀ (i : Nat) (pins : List (Addr × Obj)) (s : Shared) (σ : St) (H : Hp) (E : Value → Shared → Prop), Inv X pins σ H s → (∀ b ∈ fp, FpOk X pins H b) → tn i s.heap → J.go i H →
    wpAny (model P w) X.A (pyNext (.ref it)) (fun r s1 => ∃ u, r = some u ∧
      wpAny (model P w) X.A (letOwnedTupleGo tg (.ref it) u) (fun _ s2 => ∃ x H', Inv X pins σ H' s2 ∧ RelV x u ∧ J.yld i H x H' ∧ tn (i + 1) s2.heap ∧ ∀ b ∈ fp, H' b = none) E s1) E s
  done : ∀ (X : Cx), X.prog = P → X.w = w → X.K = K → X.calm = true → ∀ (i : Nat) (pins : List (Addr × Obj)) (s : Shared) (σ : St) (H : Hp) (E : Value → Shared → Prop), Inv X pins σ H s → (∀ b ∈ fp, FpOk X pins H b) → tn i s.heap → J.stop i H →
    wpAny (model P w) X.A (pyNext (.ref it)) (fun r s1 => r = none ∧ Inv X pins σ H s1) E s
  self : ∀ (A : Around) (i : Nat) (s : Shared) (Q : Value → Shared → Prop) (E : Value → Shared → Prop), tn i s.heap → Q (.ref it) s → wpAny (model P w) A (pyIter (.ref it)) Q E s
abbrev TI := St → Hp → (It → Hp → Prop) → Prop
def PIE (X : Cx) (pins : List (Addr × Obj)) (σ : St) (tg : Expr) (R : It → Hp → Prop) (itv : Value) (s2 : Shared) : Prop :=
  ∃ (it : Addr) (fp : List Addr) (tn : Nat → Heap → Prop) (J : It) (H' : Hp), itv = .ref it ∧ Inv X pins σ H' s2 ∧ Turn X.prog X.w X.K tg J fp it tn ∧ tn 0 s2.heap ∧ (∀ b ∈ fp, FpOk X pins H' b) ∧ R J H'
def PI (X : Cx) (tg iter : Expr) (wi : TI) : Prop :=
  ∀ (pins : List (Addr × Obj)) (s : Shared) (σ : St) (H : Hp) (R : It → Hp → Prop), Inv X pins σ H s → wi σ H R →
    wpAny (model X.prog X.w) X.A (eval iter X.env) (fun v s1 => wpAny (model X.prog X.w) X.A (pyIter v) (PIE X pins σ tg R) X.xe s1) X.xe s
theorem go_of {M : Model} {A : Around} {E : Value → Shared → Prop} {s : Shared} {tg : Expr} {it : Addr} {u : Value} {o : Obj} {n : String} {vs : Array Value} {Q : Unit → Shared → Prop} (ho : s.heap.get? it = some o) (hc : o.cls = .type n) (hd : o.data = .fields vs)
    (hn : ["enumerate", "zip", "dict_itemiterator", "dict_reverseitemiterator", "odict_iterator", "itertools.zip_longest", "itertools.pairwise"].contains n = false) (hQ : Q () s) : wpAny M A (letOwnedTupleGo tg (.ref it) u) Q E s := by
  unfold letOwnedTupleGo
  cases tg <;> first
    | exact wpAny_pure hQ
    | (cases u <;> first
        | exact wpAny_pure hQ
        | (refine wpAny_bind (wpAny_load ho ?_)
           rw [hc, hd]
           show wpAny M A (if (["enumerate", "zip", "dict_itemiterator", "dict_reverseitemiterator", "odict_iterator", "itertools.zip_longest", "itertools.pairwise"].contains n && vs[0]? == some (rawInt _)) = true then _ else _) Q E s
           rw [if_neg (by intro h; rw [hn, Bool.false_and] at h; cases h)]
           exact wpAny_pure hQ))
def Itl (K : PySem.W.Frag) (a : Addr) : It :=
  ⟨fun i H => ∃ xs x, SqL K H a xs ∧ xs[i]? = some x, fun i H x H' => H' = H ∧ ∀ xs, SqL K H a xs → xs[i]? = some x, fun i H => ∃ xs, SqL K H a xs ∧ xs.length ≤ i⟩
def Itt (K : PySem.W.Frag) (a : Addr) : It :=
  ⟨fun i H => ∃ xs x, SqT K H a xs ∧ xs[i]? = some x, fun i H x H' => H' = H ∧ ∀ xs, SqT K H a xs → xs[i]? = some x, fun i H => ∃ xs, SqT K H a xs ∧ xs.length ≤ i⟩
def Itr (lo : Int) (n : Nat) : It := ⟨fun i _ => i < n, fun i H x H' => H' = H ∧ x = .int (lo + i), fun i _ => n ≤ i⟩
theorem turn_list {P : Program} {w : World} {K : PySem.W.Frag} {tg : Expr} (a it : Addr) : Turn P w K tg (Itl K a) [it] it (fun i h => h.IsListIter it a i) where
  mem := by simp
  obj := fun i h st b hb => by
    have e : b = it := by simpa using hb
    subst e
    obtain ⟨o, e, c, d⟩ := st
    exact ⟨o, e, fun v z => by rw [d] at z; cases z⟩
  keep := fun i h h' st k => st.at fun o e => k it (by simp) o e
  item := by
    intro X hP hw hK hc i pins s σ H E I hf st hg
    subst hP hw hK
    obtain ⟨xs, x, hq, hx⟩ := hg
    obtain ⟨its, rv, p, hz⟩ := I.list hq
    obtain ⟨u, hu, ru⟩ := rv.get hx
    obtain ⟨f0, f1, f2, f3, f4, f5⟩ := hf it (by simp)
    refine wpAny_pyNext_list_item st p.isList (x := u) (by simpa using hu) fun h' st' sb => ?_
    have I1 : Inv X pins σ H { s with heap := h' } := I.turned (t' := s.toks) (fun b o hb e => (sb.2 b hb).trans e) f0 f1 f3 f4 f5
    obtain ⟨o, e, c, d⟩ := id st'
    exact ⟨u, rfl, go_of (s := { s with heap := h' }) e c d (by decide) ⟨x, H, I1, ru, ⟨rfl, fun ys hy => by rw [I.list_inj hy hq]; exact hx⟩, st', fun b hb => (hf b hb).1⟩⟩
  done := by
    intro X hP hw hK hc i pins s σ H E I hf st hg
    subst hP hw hK
    obtain ⟨xs, hq, hx⟩ := hg
    obtain ⟨its, rv, p, hz⟩ := I.list hq
    obtain ⟨f0, f1, f2, f3, f4, f5⟩ := hf it (by simp)
    have hl := rv.length
    exact wpAny_pyNext_list_end (I.ok.hd hc) st p.isList (by simp; omega) fun h' eb => ⟨rfl, I.turned (t' := s.toks) (fun b o hb e => eb b o hb e) f0 f1 f3 f4 f5⟩
  self := fun _ _ _ _ _ st h => wpAny_pyIter_listiter st h
theorem turn_tuple {P : Program} {w : World} {K : PySem.W.Frag} {tg : Expr} (a it : Addr) : Turn P w K tg (Itt K a) [it] it (fun i h => h.IsTupleIter it a i) where
  mem := by simp
  obj := fun i h st b hb => by
    have e : b = it := by simpa using hb
    subst e
    obtain ⟨o, e, c, d⟩ := st
    exact ⟨o, e, fun v z => by rw [d] at z; cases z⟩
  keep := fun i h h' st k => st.at fun o e => k it (by simp) o e
  item := by
    intro X hP hw hK hc i pins s σ H E I hf st hg
    subst hP hw hK
    obtain ⟨xs, x, hq, hx⟩ := hg
    obtain ⟨its, rv, p, hz⟩ := I.tuple hq
    obtain ⟨u, hu, ru⟩ := rv.get hx
    obtain ⟨f0, f1, f2, f3, f4, f5⟩ := hf it (by simp)
    refine wpAny_pyNext_tuple_item st (show s.heap.IsTuple a its.toArray from p) (x := u) (by simpa using hu) fun h' st' sb => ?_
    have I1 : Inv X pins σ H { s with heap := h' } := I.turned (t' := s.toks) (fun b o hb e => (sb.2 b hb).trans e) f0 f1 f3 f4 f5
    obtain ⟨o, e, c, d⟩ := id st'
    exact ⟨u, rfl, go_of (s := { s with heap := h' }) e c d (by decide) ⟨x, H, I1, ru, ⟨rfl, fun ys hy => by rw [I.tuple_inj hy hq]; exact hx⟩, st', fun b hb => (hf b hb).1⟩⟩
  done := by
    intro X hP hw hK hc i pins s σ H E I hf st hg
    subst hP hw hK
    obtain ⟨xs, hq, hx⟩ := hg
    obtain ⟨its, rv, p, hz⟩ := I.tuple hq
    obtain ⟨f0, f1, f2, f3, f4, f5⟩ := hf it (by simp)
    have hl := rv.length
    exact wpAny_pyNext_tuple_end (I.ok.hd hc) st (show s.heap.IsTuple a its.toArray from p) (by simp; omega) fun h' eb => ⟨rfl, I.turned (t' := s.toks) (fun b o hb e => eb b o hb e) f0 f1 f3 f4 f5⟩
  self := fun _ _ _ _ _ st h => wpAny_pyIter_tupleiter st h
theorem turn_range {P : Program} {w : World} {K : PySem.W.Frag} {tg : Expr} (it : Addr) (lo : Int) (n : Nat) : Turn P w K tg (Itr lo n) [it] it (fun i h => IsRangeIter h it (lo + (i : Nat) * 1) ((n : Int) - (i : Nat)) 1) where
  mem := by simp
  obj := fun i h st b hb => by
    have e : b = it := by simpa using hb
    subst e
    exact ⟨_, st, fun v z => by
      have z' : Data.fields _ = Data.cell v := z
      cases z'⟩
  keep := fun i h h' st k => k it (by simp) _ st
  item := by
    intro X hP hw hK hc i pins s σ H E I hf st hg
    subst hP hw hK
    obtain ⟨f0, f1, f2, f3, f4, f5⟩ := hf it (by simp)
    have W := Walks.range (prog := X.prog) (w := X.w) (I.ok.hd hc) it lo 1 n
    refine W.item i s _ _ hg st fun v h' tk hv st' kk => ?_
    obtain ⟨t, rfl⟩ := hv
    have I1 : Inv X pins σ H { s with heap := h', toks := tk } := I.turned (fun b o hb e => kk b o (by simpa using hb) e) f0 f1 f3 f4 f5
    refine ⟨_, rfl, go_of (s := { s with heap := h', toks := tk }) (n := "range_iterator") st' rfl rfl (by decide) ⟨.int (lo + i), H, I1, ⟨t, ?_⟩, ⟨rfl, rfl⟩, st', fun b hb => (hf b hb).1⟩⟩
    rw [Int.mul_one]
  done := by
    intro X hP hw hK hc i pins s σ H E I hf st hg
    subst hP hw hK
    obtain ⟨f0, f1, f2, f3, f4, f5⟩ := hf it (by simp)
    exact wpAny_pyNext_range_end (I.ok.hd hc) st (by have : n ≤ i := hg; omega) fun h' eb => ⟨rfl, I.turned (t' := s.toks) (fun b o hb e => eb b o hb e) f0 f1 f3 f4 f5⟩
  self := fun _ _ _ _ _ st h => wpAny_pyIter_rangeiter st h
end L2
namespace L2
open PySem PySem.Spec PyProof.Rows
section
variable {X : Cx} {tg : Expr}
theorem range_it {pins : List (Addr × Obj)} {σ : St} {H : Hp} {s : Shared} {R : It → Hp → Prop} {E : Value → Shared → Prop} {lo hi : Int} {t u v : Tok} {tk : Nat} (I : Inv X pins σ H s) (h1 : -(2 ^ 62) ≤ lo) (h2 : lo < 2 ^ 62) (h3 : -(2 ^ 62) ≤ hi) (h4 : hi < 2 ^ 62)
    (q : R (Itr lo (hi - lo).toNat) H) : wpAny (model X.prog X.w) X.A (pyIter (.ref s.heap.objs.size)) (PIE X pins σ tg R) E { s with heap := s.heap.push { cls := .type "range", data := .fields #[.int lo t, .int hi u, .int 1 v] }, toks := tk } := by
  refine wpAny_pyIter_range (IsRange.new ..) (small_one h1 h2 h3 h4) ?_
  have I1 : Inv X pins σ H { s with heap := s.heap.push { cls := .type "range", data := .fields #[.int lo t, .int hi u, .int 1 v] }, toks := tk } := I.kept fun b o e => Heap.get?_push_of_some _ e
  refine ⟨(s.heap.push { cls := .type "range", data := .fields #[.int lo t, .int hi u, .int 1 v] }).objs.size, [(s.heap.push { cls := .type "range", data := .fields #[.int lo t, .int hi u, .int 1 v] }).objs.size], _, _, H, rfl,
    I1.kept (t' := tk) fun b o e => Heap.get?_push_of_some _ e, turn_range _ lo (hi - lo).toNat, ?_, fun b hb => ?_, q⟩
  · have e1 : lo + ((0 : Nat) : Int) * 1 = lo := by simp
    have e2 : (((hi - lo).toNat : Nat) : Int) - ((0 : Nat) : Int) = Builtin.Range.rangeSize lo hi 1 := by rw [rangeSize_one]; split <;> omega
    show IsRangeIter _ _ (lo + ((0 : Nat) : Int) * 1) ((((hi - lo).toNat : Nat) : Int) - ((0 : Nat) : Int)) 1
    rw [e1, e2]
    exact Heap.get?_push_size _ rfl
  · have e : b = (s.heap.push { cls := .type "range", data := .fields #[.int lo t, .int hi u, .int 1 v] }).objs.size := by simpa using hb
    subst e
    exact I1.fpOk (Nat.le_refl _) (I1.hok.fresh (Nat.le_refl _))
def iRng1 (ta : TA) : TI := fun σ H R => ta σ H fun vs H1 => ∃ j : Int, vs = [.int j] ∧ -(2 ^ 62) ≤ j ∧ j < 2 ^ 62 ∧ R (Itr 0 j.toNat) H1
theorem pi_range1 {a : Expr} {ta : TA} {p pos : Pos} (hg : Gl X "range") (hm : X.mg "range" = none) (ha : PA X [a] ta) (hs : starEach [a] X.env = [(false, eval a X.env)] := by rfl) : PI X tg (.Call (.Name "range" p) [a] [] pos) (iRng1 ta) := by
  intro pins s σ H R I h
  refine Call_ (ld_blt I hg hm boot_range (PyProof.Rows.callWith_type1 (thn (ha pos pins s σ H _ I h) fun us s1 ⟨vs, H1, I1, r1, q1⟩ => ?_) hs rfl))
  obtain ⟨j, e, q1, q2, q⟩ := q1
  subst e
  cases r1 with
  | cons r rr =>
    cases rr
    obtain ⟨t, rfl⟩ := r
    exact call_range_1 (range_it I1 (by omega) (by omega) q1 q2 (by simpa using q))
def tFor (wi : TI) (g : TG) (tb : TS) : TS := fun D σ H => wi σ H fun J H1 => ∃ W : Nat → Nat → St → Hp → Prop, (∃ m, W 0 m σ H1) ∧ ∀ i m σ H, W i m σ H →
  (J.stop i H ∧ D.nx σ H) ∨ (J.go i H ∧ ∃ N : St → Hp → Prop, (∀ σ' H', N σ' H' → ∃ m', m' < m ∧ W (i + 1) m' σ' H') ∧ ∀ x H', J.yld i H x H' → g x σ H' fun σ2 H2 => tb { D with nx := N, ct := N, bk := D.nx } σ2 H2)
def pinsAt (fp : List Addr) (h : Heap) : List (Addr × Obj) := fp.filterMap fun b => (h.get? b).map fun o => (b, o)
theorem mem_pinsAt {fp : List Addr} {h : Heap} {b : Addr} {o : Obj} (hb : b ∈ fp) (e : h.get? b = some o) : (b, o) ∈ pinsAt fp h := List.mem_filterMap.mpr ⟨b, hb, by rw [e]; rfl⟩
theorem of_pinsAt {fp : List Addr} {h : Heap} {p : Addr × Obj} (hp : p ∈ pinsAt fp h) : p.1 ∈ fp ∧ h.get? p.1 = some p.2 := by
  obtain ⟨b, hb, e⟩ := List.mem_filterMap.mp hp
  cases q : h.get? b with
  | none => rw [q] at e; cases e
  | some o =>
    rw [q] at e
    have e' : (b, o) = p := Option.some.inj e
    subst e'
    exact ⟨hb, q⟩
theorem Inv.pinned {pins : List (Addr × Obj)} {σ : St} {H : Hp} {s : Shared} {fp : List Addr} (I : Inv X pins σ H s) (hf : ∀ b ∈ fp, FpOk X pins H b) (ho : ∀ b ∈ fp, ∃ o, s.heap.get? b = some o ∧ ∀ v, o.data ≠ .cell v) : Inv X (pins ++ pinsAt fp s.heap) σ H s :=
  I.pins_of fun p hp => (List.mem_append.mp hp).elim (fun z => I.pin p (List.mem_append_right _ z)) fun z => by
    obtain ⟨hb, e⟩ := of_pinsAt z
    obtain ⟨f0, f1, f2, _⟩ := hf p.1 hb
    obtain ⟨o, e', d⟩ := ho p.1 hb
    rw [e] at e'; cases e'
    exact ⟨e, f0, f1, f2, d⟩
theorem Inv.unpinned {pins pl : List (Addr × Obj)} {σ : St} {H : Hp} {s : Shared} (I : Inv X (pins ++ pl) σ H s) : Inv X pins σ H s := I.pins_of fun p hp => I.pin p (List.mem_append_right _ (List.mem_append_left _ hp))
theorem ps_for {iter : Expr} {body : List Stmt} {wi : TI} {g : TG} {tb : TS} {pos : Pos} (hp : PassesOwn (model X.prog X.w) X.A X.env X.xe) (hc : X.calm = true) (hi : PI X tg iter wi) (hg : PG X tg g) (hb : PSs X body tb)
    (hs : ∀ x, foldedSetIterable iter X.env x = pure x := by intro _; rfl) : PS X (.For tg iter body [] pos) (tFor wi g tb) := by
  intro pins s σ H D I h
  refine wpAny_For (thn (hi pins s σ H _ I h) fun v s1 h1 => thn h1 fun itv s2 h2 => ?_) hs
  obtain ⟨it, fp, tn, J, H2, e, I2, T, st2, f2, W, ⟨m0, w0⟩, turn⟩ := h2
  subst e
  have stat : ∀ {H' : Hp}, (∀ b ∈ fp, H' b = none) → ∀ b ∈ fp, FpOk X pins H' b := fun hn b hb => ⟨hn b hb, (f2 b hb).2⟩
  refine codeAny_forLoop_any (fun n s' => ∃ i σ' H', Inv X pins σ' H' s' ∧ tn i s'.heap ∧ (∀ b ∈ fp, H' b = none) ∧ W i n σ' H') ?_ m0 ⟨0, σ, H2, I2, st2, fun b hb => (f2 b hb).1, w0⟩
  rintro n s3 ⟨i, σ3, H3, I3, st3, fr3, w3⟩
  rcases turn i n σ3 H3 w3 with ⟨stop, qn⟩ | ⟨go, N, hN, step⟩
  · refine wpAny_passesOwn hp (thn (T.done X rfl rfl rfl hc i pins s3 σ3 H3 X.xe I3 (stat fr3) st3 stop) fun r s4 ⟨hr, I4⟩ => ?_)
    subst hr
    exact wpAny_execs_nil ⟨σ3, H3, I4, qn⟩
  · refine wpAny_passesOwn hp (thn (T.item X rfl rfl rfl hc i pins s3 σ3 H3 X.xe I3 (stat fr3) st3 go) fun r s4 ⟨u, hr, h4⟩ => ?_)
    subst hr
    refine wpAny_passesOwn hp (thn h4 fun _ s5 ⟨x, H5, I5, r5, y5, st5, fr5⟩ => ?_)
    have I5' := I5.pinned (stat fr5) (T.obj _ _ st5)
    refine wpAny_passesOwn hp (thn (hg _ s5 σ3 H5 x u _ I5' r5 (step x H5 y5)) fun _ s6 ⟨σ6, H6, I6, q6⟩ => ?_)
    refine wpAny_passesOwn hp (thn (hb _ s6 σ6 H6 _ I6 q6) fun f s7 q7 => ?_)
    have again : ∀ {σ7 : St} {H7 : Hp}, Inv X (pins ++ pinsAt fp s5.heap) σ7 H7 s7 → N σ7 H7 → ∃ m, m < n ∧ ∃ i σ' H', Inv X pins σ' H' s7 ∧ tn i s7.heap ∧ (∀ b ∈ fp, H' b = none) ∧ W i m σ' H' := fun {σ7 H7} I7 n7 => by
      obtain ⟨m', hm, w7⟩ := hN σ7 H7 n7
      refine ⟨m', hm, i + 1, σ7, H7, I7.unpinned, T.keep _ _ _ st5 fun b hb o e => (I7.pin (b, o) (List.mem_append_right _ (List.mem_append_right _ (mem_pinsAt hb e)))).1, fun b hb => ?_, w7⟩
      obtain ⟨o, e, d⟩ := T.obj _ _ st5 b hb
      exact (I7.pin (b, o) (List.mem_append_right _ (List.mem_append_right _ (mem_pinsAt hb e)))).2.1
    cases f with
    | next => obtain ⟨σ7, H7, I7, n7⟩ := q7; exact again I7 n7
    | cont => obtain ⟨σ7, H7, I7, n7⟩ := q7; exact again I7 n7
    | brk => obtain ⟨σ7, H7, I7, q7⟩ := q7; exact ⟨σ7, H7, I7.unpinned, q7⟩
    | ret v => obtain ⟨x7, σ7, H7, I7, r7, q7⟩ := q7; exact ⟨x7, σ7, H7, I7.unpinned, r7, q7⟩
end
theorem for_list {K : PySem.W.Frag} {a : Addr} {xs : List V} {g : TG} {tb : TS} {D : Ends} {σ : St} {H : Hp} (Pv : Nat → St → Hp → Prop) (h0 : Pv 0 σ H) (hl : ∀ i σ H, i ≤ xs.length → Pv i σ H → SqL K H a xs)
    (hs : ∀ i x σ H, xs[i]? = some x → Pv i σ H → g x σ H fun σ2 H2 => tb { D with nx := Pv (i + 1), ct := Pv (i + 1), bk := D.nx } σ2 H2) (hd : ∀ σ H, Pv xs.length σ H → D.nx σ H) :
    ∃ W : Nat → Nat → St → Hp → Prop, (∃ m, W 0 m σ H) ∧ ∀ i m σ H, W i m σ H →
      ((Itl K a).stop i H ∧ D.nx σ H) ∨ ((Itl K a).go i H ∧ ∃ N : St → Hp → Prop, (∀ σ' H', N σ' H' → ∃ m', m' < m ∧ W (i + 1) m' σ' H') ∧ ∀ x H', (Itl K a).yld i H x H' → g x σ H' fun σ2 H2 => tb { D with nx := N, ct := N, bk := D.nx } σ2 H2) := by
  refine ⟨fun i m σ H => m = xs.length - i ∧ i ≤ xs.length ∧ Pv i σ H, ⟨xs.length, by simp, Nat.zero_le _, h0⟩, ?_⟩
  rintro i m σ H ⟨rfl, hi, p⟩
  have q := hl i σ H hi p
  by_cases hlt : i < xs.length
  · refine .inr ⟨⟨xs, xs[i], q, by simp [hlt]⟩, Pv (i + 1), fun σ' H' p' => ⟨xs.length - (i + 1), by omega, rfl, hlt, p'⟩, fun x H' y => ?_⟩
    obtain ⟨e, y⟩ := y
    subst e
    exact hs i x σ _ (y xs q) p
  · have e : i = xs.length := by omega
    subst e
    exact .inl ⟨⟨xs, q, Nat.le_refl _⟩, hd σ H p⟩
theorem for_tup {K : PySem.W.Frag} {a : Addr} {xs : List V} {g : TG} {tb : TS} {D : Ends} {σ : St} {H : Hp} (Pv : Nat → St → Hp → Prop) (h0 : Pv 0 σ H) (hl : ∀ i σ H, i ≤ xs.length → Pv i σ H → SqT K H a xs)
    (hs : ∀ i x σ H, xs[i]? = some x → Pv i σ H → g x σ H fun σ2 H2 => tb { D with nx := Pv (i + 1), ct := Pv (i + 1), bk := D.nx } σ2 H2) (hd : ∀ σ H, Pv xs.length σ H → D.nx σ H) :
    ∃ W : Nat → Nat → St → Hp → Prop, (∃ m, W 0 m σ H) ∧ ∀ i m σ H, W i m σ H →
      ((Itt K a).stop i H ∧ D.nx σ H) ∨ ((Itt K a).go i H ∧ ∃ N : St → Hp → Prop, (∀ σ' H', N σ' H' → ∃ m', m' < m ∧ W (i + 1) m' σ' H') ∧ ∀ x H', (Itt K a).yld i H x H' → g x σ H' fun σ2 H2 => tb { D with nx := N, ct := N, bk := D.nx } σ2 H2) := by
  refine ⟨fun i m σ H => m = xs.length - i ∧ i ≤ xs.length ∧ Pv i σ H, ⟨xs.length, by simp, Nat.zero_le _, h0⟩, ?_⟩
  rintro i m σ H ⟨rfl, hi, p⟩
  have q := hl i σ H hi p
  by_cases hlt : i < xs.length
  · refine .inr ⟨⟨xs, xs[i], q, by simp [hlt]⟩, Pv (i + 1), fun σ' H' p' => ⟨xs.length - (i + 1), by omega, rfl, hlt, p'⟩, fun x H' y => ?_⟩
    obtain ⟨e, y⟩ := y
    subst e
    exact hs i x σ _ (y xs q) p
  · have e : i = xs.length := by omega
    subst e
    exact .inl ⟨⟨xs, q, Nat.le_refl _⟩, hd σ H p⟩
theorem for_range {lo : Int} {n : Nat} {g : TG} {tb : TS} {D : Ends} {σ : St} {H : Hp} (Pv : Nat → St → Hp → Prop) (h0 : Pv 0 σ H)
    (hs : ∀ i σ H, i < n → Pv i σ H → g (.int (lo + i)) σ H fun σ2 H2 => tb { D with nx := Pv (i + 1), ct := Pv (i + 1), bk := D.nx } σ2 H2) (hd : ∀ σ H, Pv n σ H → D.nx σ H) :
    ∃ W : Nat → Nat → St → Hp → Prop, (∃ m, W 0 m σ H) ∧ ∀ i m σ H, W i m σ H →
      ((Itr lo n).stop i H ∧ D.nx σ H) ∨ ((Itr lo n).go i H ∧ ∃ N : St → Hp → Prop, (∀ σ' H', N σ' H' → ∃ m', m' < m ∧ W (i + 1) m' σ' H') ∧ ∀ x H', (Itr lo n).yld i H x H' → g x σ H' fun σ2 H2 => tb { D with nx := N, ct := N, bk := D.nx } σ2 H2) := by
  refine ⟨fun i m σ H => m = n - i ∧ i ≤ n ∧ Pv i σ H, ⟨n, by simp, Nat.zero_le _, h0⟩, ?_⟩
  rintro i m σ H ⟨rfl, hi, p⟩
  by_cases hlt : i < n
  · refine .inr ⟨hlt, Pv (i + 1), fun σ' H' p' => ⟨n - (i + 1), by omega, rfl, hlt, p'⟩, fun x H' y => ?_⟩
    obtain ⟨e, y⟩ := y
    subst e y
    exact hs i σ _ hlt p
  · have e : i = n := by omega
    subst e
    exact .inl ⟨Nat.le_refl _, hd σ H p⟩
end L2
namespace L2
open PySem PySem.Spec PyProof.Rows
abbrev R2 := V → V → Hp → VK → Prop
def OpR (X : Cx) (f : Value → Value → Sem Value) (r : R2) : Prop :=
  ∀ (pins : List (Addr × Obj)) (s : Shared) (σ : St) (H : Hp) (x y : V) (v u : Value) (Q : VK), Inv X pins σ H s → RelV x v → RelV y u → r x y H Q →
    wpAny (model X.prog X.w) X.A (f v u) (EP X pins σ Q) X.xe s
def CallR (X : Cx) (f : Value) (r : List V → Hp → VK → Prop) : Prop :=
  ∀ (pins : List (Addr × Obj)) (s : Shared) (σ : St) (H : Hp) (xs : List V) (us : List Value) (Q : VK), Inv X pins σ H s → Vals xs us → r xs H Q →
    wpAny (model X.prog X.w) X.A (call f us) (EP X pins σ Q) X.xe s
def TruR (X : Cx) (r : V → Hp → (Bool → Hp → Prop) → Prop) : Prop :=
  ∀ (pins : List (Addr × Obj)) (s : Shared) (σ : St) (H : Hp) (x : V) (v : Value) (Q : Bool → Hp → Prop), Inv X pins σ H s → RelV x v → r x H Q →
    wpAny (model X.prog X.w) X.A (truthy v) (TP X pins σ Q) X.xe s
def tOp (r : R2) (ta tb : TE) : TE := fun σ H Q => ta σ H fun x H1 => tb σ H1 fun y H2 => r x y H2 Q
def rI (C : Int → Int → Prop) (g : Int → Int → V) : R2 := fun x y H Q => ∃ i j, x = .int i ∧ y = .int j ∧ C i j ∧ Q (g i j) H
def rI0 (g : Int → Int → V) : R2 := fun x y H Q => ∃ i j, x = .int i ∧ y = .int j ∧ Q (g i j) H
section
variable {X : Cx} {a b c : Expr} {ta tb tc : TE} {pos : Pos}
theorem binT (ha : PE X a ta) (hb : PE X b tb) {pins : List (Addr × Obj)} {s : Shared} {σ : St} {H : Hp} {R : V → V → Hp → Prop} (I : Inv X pins σ H s)
    (h : ta σ H fun x H1 => tb σ H1 fun y H2 => R x y H2) {Q : Value → Shared → Prop} {f : Value → Value → Sem Value}
    (hf : ∀ v u s2 x y H2, Inv X pins σ H2 s2 → RelV x v → RelV y u → R x y H2 → wpAny (model X.prog X.w) X.A (f v u) Q X.xe s2) :
    wpAny (model X.prog X.w) X.A (eval a X.env) (fun v s₁ => wpAny (model X.prog X.w) X.A (eval b X.env) (fun u s₂ => wpAny (model X.prog X.w) X.A (f v u) Q X.xe s₂) X.xe s₁) X.xe s := by
  refine thn (ha pins s σ H _ I h) fun v s1 ⟨x, H1, I1, r1, q1⟩ => ?_
  refine thn (hb pins s1 σ H1 _ I1 q1) fun u s2 ⟨y, H2, I2, r2, q2⟩ => ?_
  exact hf v u s2 x y H2 I2 r1 r2 q2
theorem pe_op {op : Operator} {r : R2} (ho : OpR X (binaryOp op) r) (ha : PE X a ta) (hb : PE X b tb) : PE X (.BinOp a op b pos) (tOp r ta tb) := by
  intro pins s σ H Q I h
  exact wpAny_BinOp (binT ha hb I h fun v u s2 x y H2 I2 rx ry q => ho pins s2 σ H2 x y v u Q I2 rx ry q)
theorem opI {f : Value → Value → Sem Value} {C : Int → Int → Prop} {g : Int → Int → Int}
    (rule : ∀ (i j : Int) (t u : Tok) (s : Shared) (Q : Value → Shared → Prop) (E : Value → Shared → Prop), C i j → Q (.int (g i j) s.toks) { s with toks := s.toks + 1 } → wpAny (model X.prog X.w) X.A (f (.int i t) (.int j u)) Q E s) :
    OpR X f (rI C fun i j => .int (g i j)) := by
  intro pins s σ H x y v u Q I rx ry h
  obtain ⟨i, j, rfl, rfl, hc, q⟩ := h
  obtain ⟨t, rfl⟩ := rx
  obtain ⟨t', rfl⟩ := ry
  exact rule i j t t' s _ _ hc ⟨.int (g i j), H, I.tok _, ⟨_, rfl⟩, q⟩
theorem opI0 {f : Value → Value → Sem Value} {g : Int → Int → Int}
    (rule : ∀ (i j : Int) (t u : Tok) (s : Shared) (Q : Value → Shared → Prop) (E : Value → Shared → Prop), Q (.int (g i j) s.toks) { s with toks := s.toks + 1 } → wpAny (model X.prog X.w) X.A (f (.int i t) (.int j u)) Q E s) :
    OpR X f (rI0 fun i j => .int (g i j)) := by
  intro pins s σ H x y v u Q I rx ry h
  obtain ⟨i, j, rfl, rfl, q⟩ := h
  obtain ⟨t, rfl⟩ := rx
  obtain ⟨t', rfl⟩ := ry
  exact rule i j t t' s _ _ ⟨.int (g i j), H, I.tok _, ⟨_, rfl⟩, q⟩
theorem opB0 {f : Value → Value → Sem Value} {g : Int → Int → Bool}
    (rule : ∀ (i j : Int) (t u : Tok) (s : Shared) (Q : Value → Shared → Prop) (E : Value → Shared → Prop), Q (.bool (g i j)) s → wpAny (model X.prog X.w) X.A (f (.int i t) (.int j u)) Q E s) :
    OpR X f (rI0 fun i j => .bl (g i j)) := by
  intro pins s σ H x y v u Q I rx ry h
  obtain ⟨i, j, rfl, rfl, q⟩ := h
  obtain ⟨t, rfl⟩ := rx
  obtain ⟨t', rfl⟩ := ry
  exact rule i j t t' s _ _ ⟨.bl (g i j), H, I, rfl, q⟩
def CDiv (i j : Int) : Prop := 0 < j ∧ j < 1073741824
def CMul (i j : Int) : Prop := (-(2 ^ 64) < i ∧ i < 2 ^ 64) ∨ (-(2 ^ 64) < j ∧ j < 2 ^ 64)
theorem CMul.ok {i j : Int} (h : CMul i j) : IntMulOk i j := by
  rcases h with ⟨h1, h2⟩ | ⟨h1, h2⟩
  · exact .of_left (intBits_le_64 h1 h2)
  · exact .of_right (intBits_le_64 h1 h2)
theorem op_add : OpR X (binaryOp .Add) (rI0 fun i j => .int (i + j)) := opI0 fun _ _ _ _ _ _ _ q => add_int q
theorem op_sub : OpR X (binaryOp .Sub) (rI0 fun i j => .int (i - j)) := opI0 fun _ _ _ _ _ _ _ q => sub_int q
theorem op_mul : OpR X (binaryOp .Mult) (rI CMul fun i j => .int (i * j)) := opI fun _ _ _ _ _ _ _ hc q => mul_int q hc.ok
theorem op_fdiv : OpR X (binaryOp .FloorDiv) (rI CDiv fun i j => .int (i / j)) := opI fun i j _ _ _ _ _ hc q => by
  have h1 : (0 : Int) < j := hc.1
  have h2 : j < 1073741824 := hc.2
  exact floordiv_int (by omega) (by rw [Int.fdiv_eq_ediv_of_nonneg i (by omega)]; exact q) (.inl (PyProof.noPylong_small (by omega)))
theorem op_mod : OpR X (binaryOp .Mod) (rI (fun _ j => 0 < j) fun i j => .int (i % j)) := opI fun i j _ _ _ _ _ hc q => by
  have h1 : (0 : Int) < j := hc
  exact mod_int' (by omega) (by rw [Int.fmod_eq_emod_of_nonneg i (by omega)]; exact q)
end
def scal : V → V → Bool
  | .non, .non => true | .non, .int _ => true | .int _, .non => true | .non, .bl _ => true | .bl _, .non => true | .non, .str _ => true | .str _, .non => true
  | .int _, .int _ => true | .bl _, .bl _ => true | .str _, .str _ => true | .byt _, .byt _ => true
  | .int _, .str _ => true | .str _, .int _ => true | .bl _, .str _ => true | .str _, .bl _ => true
  | _, _ => false
def rEq : R2 := fun x y H Q => scal x y = true ∧ Q (.bl (decide (x = y))) H
def rNe : R2 := fun x y H Q => scal x y = true ∧ Q (.bl (!decide (x = y))) H
theorem dec_int {i j : Int} : decide (V.int i = V.int j) = (i == j) := by
  rw [Bool.eq_iff_iff]
  simp
theorem dec_bl {i j : Bool} : decide (V.bl i = V.bl j) = (i == j) := by
  rw [Bool.eq_iff_iff]
  simp
theorem dec_str {i j : Str} : decide (V.str i = V.str j) = (i == j) := by
  rw [Bool.eq_iff_iff]
  simp
theorem dec_byt {i j : Array UInt8} : decide (V.byt i = V.byt j) = (i.toList == j.toList) := by
  rw [Bool.eq_iff_iff]
  cases i
  cases j
  simp
section
variable {X : Cx} {a b c : Expr} {ta tb tc : TE} {pos : Pos}
theorem fin_bl {pins : List (Addr × Obj)} {σ : St} {H : Hp} {s : Shared} {Q : VK} {k k' : Bool} (I : Inv X pins σ H s) (q : Q (.bl k) H) (e : k = k') : EP X pins σ Q (.bool k') s := by
  subst e
  exact ⟨.bl k, H, I, rfl, q⟩
theorem op_eq : OpR X (compareOp .Eq) rEq := by
  intro pins s σ H x y v u Q I rx ry h
  obtain ⟨hs, q⟩ := h
  cases x with
  | non =>
    cases rx
    cases y with
    | non => cases ry; exact PySem.EqNone.eq_none_none (fin_bl I q (by simp))
    | bl j => cases ry; exact PySem.EqNone.eq_none_bool (fin_bl I q (by simp))
    | int j => obtain ⟨t', rfl⟩ := ry; exact PySem.EqNone.eq_none_int (fin_bl I q (by simp))
    | str j => obtain ⟨t', rfl⟩ := ry; exact PySem.EqNone.eq_none_str (fin_bl I q (by simp))
    | _ => exact absurd (show false = true from hs) Bool.false_ne_true
  | bl i =>
    cases rx
    cases y with
    | non => cases ry; exact PySem.EqNone.eq_bool_none (fin_bl I q (by simp))
    | bl j => cases ry; exact eq_bool (fin_bl I q dec_bl)
    | str j => obtain ⟨t', rfl⟩ := ry; exact PySem.EqMixed.eq_bool_str (fin_bl I q (by simp))
    | _ => exact absurd (show false = true from hs) Bool.false_ne_true
  | int i =>
    obtain ⟨t, rfl⟩ := rx
    cases y with
    | non => cases ry; exact PySem.EqNone.eq_int_none (fin_bl I q (by simp))
    | int j => obtain ⟨t', rfl⟩ := ry; exact eq_int (fin_bl I q dec_int)
    | str j => obtain ⟨t', rfl⟩ := ry; exact PySem.EqMixed.eq_int_str (fin_bl I q (by simp))
    | _ => exact absurd (show false = true from hs) Bool.false_ne_true
  | str i =>
    obtain ⟨t, rfl⟩ := rx
    cases y with
    | non => cases ry; exact PySem.EqNone.eq_str_none (fin_bl I q (by simp))
    | bl j => cases ry; exact PySem.EqMixed.eq_str_bool (fin_bl I q (by simp))
    | int j => obtain ⟨t', rfl⟩ := ry; exact PySem.EqMixed.eq_str_int (fin_bl I q (by simp))
    | str j => obtain ⟨t', rfl⟩ := ry; exact eq_str (fin_bl I q dec_str)
    | _ => exact absurd (show false = true from hs) Bool.false_ne_true
  | byt i =>
    obtain ⟨t, rfl⟩ := rx
    cases y with
    | byt j => obtain ⟨t', rfl⟩ := ry; exact PySem.W.eq_bytes (fin_bl I q dec_byt)
    | _ => exact absurd (show false = true from hs) Bool.false_ne_true
  | _ => cases y <;> exact absurd (show false = true from hs) Bool.false_ne_true
theorem op_ne : OpR X (compareOp .NotEq) rNe := by
  intro pins s σ H x y v u Q I rx ry h
  obtain ⟨hs, q⟩ := h
  cases x with
  | non =>
    cases rx
    cases y with
    | non => cases ry; exact PySem.EqNone.ne_none_none (fin_bl I q (by simp))
    | bl j => cases ry; exact PySem.EqNone.ne_none_bool (fin_bl I q (by simp))
    | int j => obtain ⟨t', rfl⟩ := ry; exact PySem.EqNone.ne_none_int (fin_bl I q (by simp))
    | str j => obtain ⟨t', rfl⟩ := ry; exact PySem.EqNone.ne_none_str (fin_bl I q (by simp))
    | _ => exact absurd (show false = true from hs) Bool.false_ne_true
  | bl i =>
    cases rx
    cases y with
    | non => cases ry; exact PySem.EqNone.ne_bool_none (fin_bl I q (by simp))
    | bl j => cases ry; exact ne_bool (fin_bl I q (congrArg not dec_bl))
    | str j => obtain ⟨t', rfl⟩ := ry; exact PySem.EqMixed.ne_bool_str (fin_bl I q (by simp))
    | _ => exact absurd (show false = true from hs) Bool.false_ne_true
  | int i =>
    obtain ⟨t, rfl⟩ := rx
    cases y with
    | non => cases ry; exact PySem.EqNone.ne_int_none (fin_bl I q (by simp))
    | int j => obtain ⟨t', rfl⟩ := ry; exact ne_int (fin_bl I q (congrArg not dec_int))
    | str j => obtain ⟨t', rfl⟩ := ry; exact PySem.EqMixed.ne_int_str (fin_bl I q (by simp))
    | _ => exact absurd (show false = true from hs) Bool.false_ne_true
  | str i =>
    obtain ⟨t, rfl⟩ := rx
    cases y with
    | non => cases ry; exact PySem.EqNone.ne_str_none (fin_bl I q (by simp))
    | bl j => cases ry; exact PySem.EqMixed.ne_str_bool (fin_bl I q (by simp))
    | int j => obtain ⟨t', rfl⟩ := ry; exact PySem.EqMixed.ne_str_int (fin_bl I q (by simp))
    | str j => obtain ⟨t', rfl⟩ := ry; exact ne_str (fin_bl I q (congrArg not dec_str))
    | _ => exact absurd (show false = true from hs) Bool.false_ne_true
  | byt i =>
    obtain ⟨t, rfl⟩ := rx
    cases y with
    | byt j => obtain ⟨t', rfl⟩ := ry; exact PySem.W.ne_bytes (fin_bl I q (congrArg not dec_byt))
    | _ => exact absurd (show false = true from hs) Bool.false_ne_true
  | _ => cases y <;> exact absurd (show false = true from hs) Bool.false_ne_true
theorem op_lt : OpR X (compareOp .Lt) (rI0 fun i j => .bl (decide (i < j))) := opB0 fun _ _ _ _ _ _ _ q => lt_int q
theorem op_le : OpR X (compareOp .LtE) (rI0 fun i j => .bl (decide (i ≤ j))) := opB0 fun _ _ _ _ _ _ _ q => le_int q
theorem op_gt : OpR X (compareOp .Gt) (rI0 fun i j => .bl (decide (j < i))) := opB0 fun _ _ _ _ _ _ _ q => gt_int q
theorem op_ge : OpR X (compareOp .GtE) (rI0 fun i j => .bl (decide (j ≤ i))) := opB0 fun _ _ _ _ _ _ _ q => ge_int q
theorem op_lt_str : OpR X (compareOp .Lt) (fun x y H Q => ∃ i j, x = .str i ∧ y = .str j ∧ Q (.bl (decide (i.cps.toList < j.cps.toList))) H) := by
  intro pins s σ H x y v u Q I rx ry h
  obtain ⟨i, j, rfl, rfl, q⟩ := h
  obtain ⟨t, rfl⟩ := rx
  obtain ⟨t', rfl⟩ := ry
  exact lt_str (fin_bl I q rfl)
theorem op_in_str : OpR X (compareOp .In) (fun x y H Q => ∃ i j, x = .str i ∧ y = .str j ∧ Q (.bl (!(Builtin.Str.occurrences j i 0 j.length 1).isEmpty)) H) := by
  intro pins s σ H x y v u Q I rx ry h
  obtain ⟨i, j, rfl, rfl, q⟩ := h
  obtain ⟨t, rfl⟩ := rx
  obtain ⟨t', rfl⟩ := ry
  exact in_str (fin_bl I q rfl)
theorem OpR.or {f : Value → Value → Sem Value} {r r' : R2} (h : OpR X f r) (h' : OpR X f r') : OpR X f (fun x y H Q => r x y H Q ∨ r' x y H Q) := by
  intro pins s σ H x y v u Q I rx ry q
  rcases q with q | q
  · exact h pins s σ H x y v u Q I rx ry q
  · exact h' pins s σ H x y v u Q I rx ry q
theorem nomark (b : Expr) {op : CmpOp} (h : op ≠ .In := by decide) (h2 : op ≠ .NotIn := by decide) : behindInMarks op b = false := by
  have e1 : (op == CmpOp.In) = false := by cases op <;> first | rfl | exact absurd rfl h
  have e2 : (op == CmpOp.NotIn) = false := by cases op <;> first | rfl | exact absurd rfl h2
  cases b <;> simp [behindInMarks, e1, e2]
theorem pe_cmpR {op : CmpOp} {r : R2} (ho : OpR X (compareOp op) r) (ha : PE X a ta) (hb : PE X b tb) (hm : behindInMarks op b = false) : PE X (.Compare a [op] [b] pos) (tOp r ta tb) := by
  intro pins s σ H Q I h
  exact wpAny_Compare1 (binT ha hb I h fun v u s2 x y H2 I2 rx ry q => ho pins s2 σ H2 x y v u Q I2 rx ry q) hm
def tTest (t : TE) : TT := fun σ H Q => t σ H fun x H' => ∃ k, x = .bl k ∧ Q k H'
theorem pt_cmpR {op : CmpOp} {r : R2} (ho : OpR X (compareOp op) r) (ha : PE X a ta) (hb : PE X b tb) (hm : behindInMarks op b = false) : PT X (.Compare a [op] [b] pos) (tTest (tOp r ta tb)) := by
  intro pins s σ H Q I h
  refine wpAny_isTrue_Compare1 (thn (ha pins s σ H _ I h) fun v s1 ⟨x, H1, I1, r1, q1⟩ => thn (hb pins s1 σ H1 _ I1 q1) fun u s2 ⟨y, H2, I2, r2, q2⟩ =>
    thn (ho pins s2 σ H2 x y v u _ I2 r1 r2 q2) fun c s3 ⟨z, H3, I3, r3, k, e, q3⟩ => ?_) hm
  subst e
  cases r3
  exact wpAny_truthy_bool ⟨H3, I3, q3⟩
def TruV (K : PySem.W.Frag) (x : V) (H : Hp) (k : Bool) : Prop :=
  match x with
  | .non => k = false
  | .bl b => k = b
  | .int i => k = (i != 0)
  | .str y => y.length ≤ sizeLine ∧ k = ((y.length : Int) != 0)
  | .byt y => y.size ≤ sizeLine ∧ k = ((y.size : Int) != 0)
  | .ref p => (∃ xs, SqL K H p xs ∧ k = !xs.isEmpty) ∨ (∃ xs, SqT K H p xs ∧ k = !xs.isEmpty) ∨ ∃ kvs, H p = some (.dK kvs) ∧ k = !kvs.isEmpty
  | _ => False
theorem isEmpty_kv {κ : Type} {kvs : List (κ × V)} {vs : List (κ × Value)} (r : KV kvs vs) : (!vs.isEmpty) = !kvs.isEmpty := by
  cases r <;> rfl
theorem isEmpty_of {xs : List V} {its : List Value} (r : Vals xs its) : (!its.toArray.isEmpty) = !xs.isEmpty := by
  cases r <;> simp
theorem line63 : (sizeLine : Nat) < 2 ^ 63 := by rw [sizeLine_eq]; decide
theorem tru_ok : TruR X (fun x H Q => ∃ k, TruV X.K x H k ∧ Q k H) := by
  intro pins s σ H x v Q I rx h
  obtain ⟨k, e, q⟩ := h
  have hl := line63
  have hs : sizeLine = 16777216 := sizeLine_eq
  cases x with
  | non =>
    cases rx
    have e' : k = false := e
    subst e'
    exact truthy_none ⟨H, I, q⟩
  | bl b =>
    cases rx
    have e' : k = b := e
    subst e'
    exact wpAny_truthy_bool ⟨H, I, q⟩
  | int i =>
    obtain ⟨t, rfl⟩ := rx
    have e' : k = (i != 0) := e
    subst e'
    exact PySem.P.truthy_int ⟨H, I, q⟩
  | str y =>
    obtain ⟨t, rfl⟩ := rx
    obtain ⟨hy, e'⟩ : y.length ≤ sizeLine ∧ k = ((y.length : Int) != 0) := e
    subst e'
    exact PySem.P.truthy_str (by omega) ⟨H, I.tok _, q⟩
  | byt y =>
    obtain ⟨t, rfl⟩ := rx
    obtain ⟨hy, e'⟩ : y.size ≤ sizeLine ∧ k = ((y.size : Int) != 0) := e
    subst e'
    exact PySem.W.truthy_bytes (by omega) ⟨H, I.tok _, q⟩
  | ref p =>
    cases rx
    have e' : (∃ xs, SqL X.K H p xs ∧ k = !xs.isEmpty) ∨ (∃ xs, SqT X.K H p xs ∧ k = !xs.isEmpty) ∨ ∃ kvs, H p = some (.dK kvs) ∧ k = !kvs.isEmpty := e
    rcases e' with ⟨xs, hx, e'⟩ | ⟨xs, hx, e'⟩ | ⟨kvs, hx, e'⟩
    · subst e'
      obtain ⟨its, r, pl, hz⟩ := I.list hx
      have hlen := r.length
      exact wpAny_truthy_list pl.isList (by simp only [List.size_toArray]; omega) ⟨H, I.tok _, by rw [isEmpty_of r]; exact q⟩
    · subst e'
      obtain ⟨its, r, pl, hz⟩ := I.tuple hx
      have hlen := r.length
      exact truthy_tuple pl (by simp only [List.size_toArray]; omega) ⟨H, I.tok _, by rw [isEmpty_of r]; exact q⟩
    · subst e'
      obtain ⟨hz, hS, vs, r, m⟩ : kvs.length ≤ sizeLine ∧ (p == sysModules) = false ∧ ∃ vs, KV kvs vs ∧ s.heap.DictOf (mixKind X.prog X.w) p vs := I.hok p _ hx
      have hlen : kvs.length = vs.length := Paired.length r
      exact wpAny_truthy_dict hS m (by omega) ⟨H, I.tok _, by rw [isEmpty_kv r]; exact q⟩
  | _ => exact (show False from e).elim
theorem op_add_str : OpR X (binaryOp .Add) (fun x y H Q => ∃ i j, x = .str i ∧ y = .str j ∧ i.length + j.length ≤ sizeLine ∧ Q (.str (i ++ j)) H) := by
  intro pins s σ H x y v u Q I rx ry h
  obtain ⟨i, j, rfl, rfl, hz, q⟩ := h
  obtain ⟨t, rfl⟩ := rx
  obtain ⟨t', rfl⟩ := ry
  exact add_str (fun t' tk => ⟨.str (i ++ j), H, I.tok _, ⟨_, rfl⟩, q⟩) hz
theorem vals1 {x : V} {us : List Value} (r : Vals [x] us) : ∃ u, us = [u] ∧ RelV x u := by
  cases r with
  | cons r1 r2 => cases r2; exact ⟨_, rfl, r1⟩
theorem vals2 {x y : V} {us : List Value} (r : Vals [x, y] us) : ∃ u w', us = [u, w'] ∧ RelV x u ∧ RelV y w' := by
  cases r with
  | cons r1 r2 =>
    cases r2 with
    | cons r3 r4 => cases r4; exact ⟨_, _, rfl, r1, r3⟩
theorem call_int1 : CallR X (.type "int") (fun xs H Q => (∃ i, xs = [.int i] ∧ Q (.int i) H) ∨ ∃ k, xs = [.bl k] ∧ Q (.int (if k then 1 else 0)) H) := by
  intro pins s σ H xs us Q I r h
  rcases h with ⟨i, rfl, q⟩ | ⟨k, rfl, q⟩
  · obtain ⟨u, rfl, t, rfl⟩ := vals1 r
    exact call_int_int ⟨.int i, H, I, ⟨_, rfl⟩, q⟩
  · obtain ⟨u, rfl, r1⟩ := vals1 r
    cases r1
    exact call_int_bool ⟨.int (if k then 1 else 0), H, I.tok _, ⟨_, rfl⟩, q⟩
theorem call_str_int : CallR X (.type "str") (fun xs H Q => ∃ i, xs = [.int i] ∧ i.natAbs.log2 < 1920 ∧ Q (.str (toString i)) H) := by
  intro pins s σ H xs us Q I r h
  obtain ⟨i, rfl, hz, q⟩ := h
  obtain ⟨u, rfl, t, rfl⟩ := vals1 r
  exact PySem.P.str_of_int hz ⟨.str _, H, I.tok _, ⟨_, rfl⟩, q⟩
def LenV (K : PySem.W.Frag) (x : V) (H : Hp) (n : Nat) : Prop :=
  match x with
  | .str y => y.length ≤ sizeLine ∧ n = y.length
  | .byt y => y.size ≤ sizeLine ∧ n = y.size
  | .ref p => (∃ xs, SqL K H p xs ∧ n = xs.length) ∨ ∃ xs, SqT K H p xs ∧ n = xs.length
  | _ => False
theorem call_len : CallR X (.builtin "len") (fun xs H Q => ∃ x n, xs = [x] ∧ LenV X.K x H n ∧ Q (.int n) H) := by
  intro pins s σ H xs us Q I r h
  obtain ⟨x, n, rfl, e, q⟩ := h
  obtain ⟨u, rfl, rx⟩ := vals1 r
  have hl := line63
  have hs : sizeLine = 16777216 := sizeLine_eq
  cases x with
  | str y =>
    obtain ⟨t, rfl⟩ := rx
    obtain ⟨hy, e'⟩ : y.length ≤ sizeLine ∧ n = y.length := e
    subst e'
    exact len_str (by omega) ⟨.int _, H, I.tok _, ⟨_, rfl⟩, q⟩
  | byt y =>
    obtain ⟨t, rfl⟩ := rx
    obtain ⟨hy, e'⟩ : y.size ≤ sizeLine ∧ n = y.size := e
    subst e'
    exact PySem.W.len_bytes (by omega) ⟨.int _, H, I.tok _, ⟨_, rfl⟩, q⟩
  | ref p =>
    cases rx
    have e' : (∃ xs, SqL X.K H p xs ∧ n = xs.length) ∨ ∃ xs, SqT X.K H p xs ∧ n = xs.length := e
    rcases e' with ⟨xs, hx, e'⟩ | ⟨xs, hx, e'⟩
    · subst e'
      obtain ⟨its, r', pl, hz⟩ := I.list hx
      have hlen := r'.length
      exact Calls.call_len_list pl.isList (by simp only [List.size_toArray]; omega) ⟨.int xs.length, H, I.tok _, ⟨_, by simp only [List.size_toArray]; rw [hlen]⟩, q⟩
    · subst e'
      obtain ⟨its, r', pl, hz⟩ := I.tuple hx
      have hlen := r'.length
      exact len_tuple pl (by simp only [List.size_toArray]; omega) ⟨.int xs.length, H, I.tok _, ⟨_, by simp only [List.size_toArray]; rw [hlen]⟩, q⟩
  | _ => exact (show False from e).elim
end
end L2
namespace L2
open PySem PySem.Spec PyProof.Rows
structure ObjM (h : Heap) (x dx C : Addr) (mA : Str → Option Value) : Prop where
  obj : h.get? x = some (PySem.W.instObj C dx)
  ns : h.Ns1 dx mA
  ne : dx ≠ x
theorem lookIn_ns {h : Heap} {dx : Addr} {mA : Str → Option Value} (n : h.Ns1 dx mA) : ∃ od, h.get? dx = some od ∧ ∀ name, PySem.W.lookIn name od = some (mA name) := by
  obtain ⟨o, es, ep, ho, hd, hk, _, hm⟩ := n
  refine ⟨o, ho, fun name => ?_⟩
  have e := hm name
  unfold nsFind findBy at e
  rw [← Array.find?_toList] at e
  unfold PySem.W.lookIn
  rw [hd]
  dsimp only
  split
  · rename_i y q
    rw [q] at e
    exact congrArg some e
  · rename_i q
    rw [q] at e
    have a : es.toList.any (·.refKey) = false := by
      rw [List.any_eq_false]
      intro y hy
      obtain ⟨z, t, hkey⟩ := hk y (Array.mem_toList_iff.mp hy)
      simp [DictEntry.refKey, hkey]
    have a' : ¬ es.toList.any (·.refKey) = true := by rw [a]; exact Bool.false_ne_true
    rw [if_neg a']
    exact congrArg some e
theorem ObjM.look {h : Heap} {x dx C : Addr} {mA : Str → Option Value} (I : ObjM h x dx C mA) : ∃ od, PySem.W.InstAt h x (PySem.W.instObj C dx) C (some od) ∧ ∀ name, PySem.W.lookIn name od = some (mA name) :=
  let ⟨od, ho, hl⟩ := lookIn_ns I.ns
  ⟨od, ⟨I.obj, rfl, rfl, ho⟩, hl⟩
section
variable {prog : Program} {w : World} {A : Around} {E : Value → Shared → Prop} {s : Shared} {K : PySem.W.Frag} {x dx C f : Addr} {mA : Str → Option Value} {name : Str} {v : Value}
end
section
variable {P : Program} {w : World} {H H' : Hp} {h h' : Heap} {a C dx : Addr} {fs fs' : List (Str × V)}
theorem ins_get (hok : HOk P w H h) (e : H a = some (.ins C dx fs)) : ∃ mA, ObjM h a dx C mA ∧ (∀ f, RelO (fs.lookup f) (mA f)) ∧ PySem.Within mA (fs.map (·.1)) ∧ fs.length ≤ 1000 ∧ H dx = some (.own a) := by
  obtain ⟨d, z, ne, ob, mA, n, r, q⟩ := (show ObjOk P w H h a (.ins C dx fs) from hok a _ e)
  exact ⟨mA, ⟨ob, n, ne⟩, r, q, z, d⟩
end
structure Cls (K : PySem.W.Frag) (C : Addr) : Prop where
  pg : PySem.W.plainGet K C Str.empty = true
  hd : PySem.W.hasDictIn K C = true
  po : PySem.W.plainOver K C = true
  sa : PySem.W.findIn K (.ref C) "__setattr__" = some (some (.builtin "object.__setattr__"))
theorem Cls.get {K : PySem.W.Frag} {C : Addr} (c : Cls K C) (f : Str) : PySem.W.plainGet K C f = true := c.pg
structure Con (K : PySem.W.Frag) (C : Addr) (f : Str) (v : V) (u : Value) : Prop where
  at_ : PySem.W.findIn K (.ref C) f = some (some u)
  rel : RelV v u
  get : PySem.W.specialIn K u "__get__" = some none
  cp : PySem.W.copiedNames.contains f = false
structure Meth (K : PySem.W.Frag) (C : Addr) (m : Str) (f : Addr) : Prop where
  at_ : PySem.W.findIn K (.ref C) m = some (some (.ref f))
  fn : PySem.W.isFn K (.ref f) = true
  kp : PySem.W.keepIn K (.ref f) = true
section
variable {X : Cx} {pins : List (Addr × Obj)} {σ : St} {H : Hp} {s : Shared} {a C dx : Addr} {fs : List (Str × V)} {f : Str} {v : V} {A : Around} {E : Value → Shared → Prop}
end
section
variable {X : Cx} {o e value : Expr} {f : Str} {pos pos' tpos : Pos} {ta tv : TE}
end
section
variable {X : Cx} {pins : List (Addr × Obj)} {σ : St} {H : Hp} {s : Shared} {A : Around} {E : Value → Shared → Prop} {Q : Value → Shared → Prop} {c : Value} {b : Bool}
inductive TyOf (K : PySem.W.Frag) (H : Hp) : V → Value → Prop where
  | non : TyOf K H .non (.type "NoneType")
  | bl (x : Bool) : TyOf K H (.bl x) (.type "bool")
  | int (i : Int) : TyOf K H (.int i) (.type "int")
  | str (x : Str) : TyOf K H (.str x) (.type "str")
  | flt (x : UInt64) : TyOf K H (.flt x) (.type "float")
  | lst {a : Addr} {xs : List V} (e : H a = some (.lst xs)) : TyOf K H (.ref a) (.type "list")
  | frz {a : Addr} {o : Obj} {xs : List V} (e : H a = some (.frz o (.lst xs))) : TyOf K H (.ref a) (.type "list")
  | tup {a : Addr} {xs : List V} (e : H a = some (.tup xs)) : TyOf K H (.ref a) (.type "tuple")
  | dK {a : Addr} {kvs : List (Key × V)} (e : H a = some (.dK kvs)) : TyOf K H (.ref a) (.type "dict")
  | dT {a : Addr} {kvs : List (List Key × V)} (e : H a = some (.dT kvs)) : TyOf K H (.ref a) (.type "dict")
  | ins {a C dx : Addr} {fs : List (Str × V)} (e : H a = some (.ins C dx fs)) (cl : Cls K C) (ha : PySem.W.findIn K (.ref C) "__class__" = some (some (.builtin "object.__class__")))
      (hn : PySem.W.specialIn K (.builtin "object.__class__") "__get__" = some (some (.builtin "getset_descriptor.__get__"))) (htk : PySem.W.takesIn K (.builtin "object.__class__") = some true)
      (hm : PySem.W.mroIn K C (.type "object") = some true) : TyOf K H (.ref a) (.ref C)
theorem isinst_ok {x : V} {u t : Value} (I : Inv X pins σ H s) (rx : RelV x u) (ty : TyOf X.K H x t) (e : PySem.W.kitOne X.K t c = some b) (h : ∀ tk, Q (.bool b) { s with toks := tk }) :
    wpAny (model X.prog X.w) A (call (.builtin "isinstance") [u, c]) Q E s := by
  cases ty with
  | non => cases (show u = Value.none from rx); exact PySem.W.kia_one PySem.W.kitx_none I.kIn True.intro e (fun z => nomatch z) h
  | bl y => cases (show u = Value.bool y from rx); exact PySem.W.kia_one PySem.W.kitx_bool I.kIn True.intro e (fun z => nomatch z) h
  | int i => obtain ⟨t, q⟩ := (show ∃ t, u = Value.int i t from rx); cases q; exact PySem.W.kia_one PySem.W.kitx_int I.kIn True.intro e (fun z => nomatch z) h
  | str y => obtain ⟨t, q⟩ := (show ∃ t, u = Value.str y t from rx); cases q; exact PySem.W.kia_one PySem.W.kitx_str I.kIn True.intro e (fun z => nomatch z) h
  | flt y => obtain ⟨t, q⟩ := (show ∃ t, u = Value.float y t from rx); cases q; exact PySem.W.kia_one PySem.W.kitx_float I.kIn True.intro e (fun z => nomatch z) h
  | @lst a xs ea =>
    cases (show u = Value.ref a from rx)
    obtain ⟨_, _, n, _, h1⟩ := (show ObjOk X.prog X.w H s.heap a (.lst xs) from I.hok a _ ea)
    exact PySem.W.kia_one PySem.W.kitx_list I.kIn ⟨_, h1, rfl⟩ e (fun z => nomatch z) h
  | @frz a ob xs ea =>
    cases (show u = Value.ref a from rx)
    obtain ⟨_, _, _, n, _, h1⟩ := (show ObjOk X.prog X.w H s.heap a (.frz ob (.lst xs)) from I.hok a _ ea)
    exact PySem.W.kia_one PySem.W.kitx_list I.kIn ⟨_, h1, rfl⟩ e (fun z => nomatch z) h
  | @tup a xs ea =>
    cases (show u = Value.ref a from rx)
    obtain ⟨_, _, _, p⟩ := (show ObjOk X.prog X.w H s.heap a (.tup xs) from I.hok a _ ea)
    obtain ⟨o, h1, h2, _⟩ := p
    exact PySem.W.kia_one PySem.W.kitx_tuple I.kIn ⟨o, h1, h2⟩ e (fun z => nomatch z) h
  | @dK a kvs ea =>
    cases (show u = Value.ref a from rx)
    obtain ⟨_, _, vs, _, p⟩ := (show ObjOk X.prog X.w H s.heap a (.dK kvs) from I.hok a _ ea)
    obtain ⟨o, es, ep, h1, h2, _⟩ := p
    exact PySem.W.kia_one PySem.W.kitx_dict I.kIn ⟨o, h1, h2.1⟩ e (fun z => nomatch z) h
  | @dT a kvs ea =>
    cases (show u = Value.ref a from rx)
    obtain ⟨_, _, xs, _, o, es, ep, h1, h2, _⟩ := (show ObjOk X.prog X.w H s.heap a (.dT kvs) from I.hok a _ ea)
    exact PySem.W.kia_one PySem.W.kitx_dict I.kIn ⟨o, h1, h2.1⟩ e (fun z => nomatch z) h
  | @ins a C dx fs ea cl ha hn htk hm =>
    cases (show u = Value.ref a from rx)
    obtain ⟨mA, O, _⟩ := ins_get I.hok ea
    obtain ⟨od, J, _⟩ := O.look
    exact PySem.W.kia_one (PySem.W.kitx_own (cl.get _) cl.hd ha hn htk hm) I.kIn J e (fun z => nomatch z) h
end
end L2
namespace L2
open PySem PySem.Spec PyProof.Rows
structure Room (k : Nat) (A : Around) : Prop where
  hd : A.handled = none
  dp : A.depth + 3 * k + 5 < recursionLimit
  un : A.units + 16 * k + 200 < cLine
  gd : A.guards = some []
theorem Room.mono {j k : Nat} {A : Around} (r : Room k A) (h : j ≤ k) : Room j A := ⟨r.hd, by have := r.dp; omega, by have := r.un; omega, r.gd⟩
theorem Room.deeper {k : Nat} {A : Around} (r : Room (k + 1) A) (env : Env) : Room k (A.deeper env) :=
  ⟨r.hd, by have := r.dp; show A.depth + 1 + 3 * k + 5 < _; omega, by have := r.un; show A.units + 3 + 16 * k + 200 < _; omega, r.gd⟩
theorem Room.depth {k : Nat} {A : Around} (r : Room k A) : A.depth < recursionLimit := by have := r.dp; omega
theorem Room.units {k : Nat} {A : Around} (r : Room k A) : A.units + 64 < cLine := by have := r.un; omega
def tNil : TA := fun _ H Q => Q [] H
def tCons (ta : TE) (tr : TA) : TA := fun σ H Q => ta σ H fun x H1 => tr σ H1 fun xs H2 => Q (x :: xs) H2
section
variable {X : Cx} {e : Expr} {es : List Expr} {te : TE} {t : TA} {pos : Pos}
theorem pa_nil : PA X [] tNil := fun _ _ _ _ H Q I h => Calls.spliced_nil ⟨[], H, I, .nil, h⟩
theorem pa_cons (ha : PE X e te) (hr : PA X es t) (hs : starEach (e :: es) X.env = (false, eval e X.env) :: starEach es X.env := by rfl) : PA X (e :: es) (tCons te t) := by
  intro pos pins s σ H Q I h
  rw [hs]
  show wpAny _ _ (spliced ((false, eval e X.env) :: backTo pos (starEach es X.env))) _ _ s
  refine Calls.spliced_cons (thn (ha pins s σ H _ I h) fun u s1 ⟨x, H1, I1, r1, q1⟩ => ?_)
  exact thn (hr pos pins s1 σ H1 _ I1 q1) fun us s2 ⟨xs, H2, I2, r2, q2⟩ => ⟨x :: xs, H2, I2, .cons r1 r2, q2⟩
def tTup (t : TA) : TE := fun σ H Q => t σ H fun xs H1 => xs.length ≤ sizeLine ∧ ∀ p, H1 p = none → Q (.ref p) (upd H1 p (.tup xs))
def tLst (t : TA) : TE := fun σ H Q => t σ H fun xs H1 => xs.length ≤ sizeLine ∧ ∀ p, H1 p = none → Q (.ref p) (upd H1 p (.lst xs))
theorem pe_tup {x1} (h : PA X es t) : PE X (.Tuple es x1 pos) (tTup t) := by
  intro pins s σ H Q I hq
  refine wpAny_Tuple_spliced (thn (h pos pins s σ H _ I hq) fun us s1 ⟨xs, H1, I1, r, z, q⟩ => ⟨by rw [← r.length]; exact z, ?_⟩)
  have hf : H1 s1.heap.objs.size = none := I1.hok.fresh (Nat.le_refl _)
  refine ⟨.ref s1.heap.objs.size, upd H1 s1.heap.objs.size (.tup xs), I1.laid (t' := s1.toks) (fun b u e => Heap.get?_push_of_some _ e) (Nat.le_refl _) ?_, rfl, q _ hf⟩
  exact ⟨z, us, r, ⟨_, Heap.get?_push_size _ rfl, rfl, _, rfl⟩⟩
theorem pe_lst (h : PA X es t) : PE X (.List es pos) (tLst t) := by
  intro pins s σ H Q I hq
  refine wpAny_List_spliced (thn (h pos pins s σ H _ I hq) fun us s1 ⟨xs, H1, I1, r, z, q⟩ => ⟨by rw [← r.length]; exact z, ?_⟩)
  have hf : H1 s1.heap.objs.size = none := I1.hok.fresh (Nat.le_refl _)
  refine ⟨.ref s1.heap.objs.size, upd H1 s1.heap.objs.size (.lst xs), I1.laid (t' := s1.toks) (fun b u e => Heap.get?_push_of_some _ e) (Nat.le_refl _) ?_, rfl, q _ hf⟩
  exact ⟨z, us, 0, r, Heap.get?_push_size _ rfl⟩
end
abbrev Sp := List V → Hp → VK → XK → Prop
abbrev CXT := List Env → Hp → Shared → XK → Value → Shared → Prop
structure Env0 (P : Program) (w : World) (K : PySem.W.Frag) (mg : Str → Option Value) (base : Heap) (A : Around) (outer : List Env) (s : Shared) (H : Hp) : Prop where
  frames : A.frames = some outer
  mod : Mod K mg base
  bs : ∀ b o, base.get? b = some o → s.heap.get? b = some o ∧ H b = none
  bsz : base.objs.size ≤ s.heap.objs.size
  funs : s.heap.FunFrames base outer
  frf : ∀ b ∈ frs outer, H b = none
  hok : HOk P w H s.heap
  bare : AllBare s.gens
def CE (outer : List Env) (P : Program) (w : World) (H : Hp) (s : Shared) (Q : VK) (u : Value) (s' : Shared) : Prop :=
  ∃ v H', s'.os = s.os ∧ AllBare s'.gens ∧ Un (frs outer) [] H H' s.heap s'.heap ∧ HOk P w H' s'.heap ∧ RelV v u ∧ Q v H'
def CR (CX : CXT) (outer : List Env) (P : Program) (w : World) (H : Hp) (s : Shared) (Q : VK) (E : XK) (r : Result) (s' : Shared) : Prop :=
  match r with
  | .ok (.ret u) => CE outer P w H s Q u s'
  | .ok _ => False
  | .error e => CX outer H s E e s'
structure FnOk (P : Program) (w : World) (K : PySem.W.Frag) (mg : Str → Option Value) (base : Heap) (CX : CXT) (k : Nat) (f : Addr) (fd : FuncData) (ps : List Str) (sp : Sp) : Prop where
  len : ∀ vs H Q E, sp vs H Q E → vs.length = ps.length
  run : ∀ (A : Around) (outer : List Env) (s : Shared) (H : Hp) (args : Args) (us : List Value) (vs : List V) (Q : VK) (E : XK), Room k A → Env0 P w K mg base A outer s H → BindsTo s fd args (ps.zip us) → Vals vs us → sp vs H Q E →
    codeAny (model P w) A (.call (.ref f) args) (CR CX outer P w H s Q E) s
section
variable {X : Cx} {pins : List (Addr × Obj)} {σ : St} {H : Hp} {s s' : Shared}
theorem Inv.env0 (I : Inv X pins σ H s) : Env0 X.prog X.w X.K X.mg X.base X.A X.stack s H :=
  ⟨I.ok.frames, I.ok.mod, I.bs, Nat.le_trans I.ok.bsz I.sz, I.stack, I.stkFree, I.hok, I.bare⟩
theorem Inv.after {Q : VK} {u : Value} (I : Inv X pins σ H s) (h : CE X.stack X.prog X.w H s Q u s') : EP X pins σ Q u s' := by
  obtain ⟨v, H', os, bare, un, hok, r, q⟩ := h
  obtain ⟨hh, g, d, t, os'⟩ := s'
  obtain rfl : os' = s.os := os
  exact ⟨v, H', I.call (h' := hh) (g' := g) (d' := d) (t' := t) (ch := []) un hok bare (fun b z => absurd z (by simp)), r, q⟩
end
def tCall (sp : Sp) (dvs : List V) (E : XK) (t : TA) : TE := fun σ H Q => t σ H fun vs H1 => sp (vs ++ dvs) H1 Q E
def Binds (K : PySem.W.Frag) (fd : FuncData) (ps : List Str) (ds : List Value) : Prop :=
  ∀ (s : Shared) (us : List Value), K.In s.heap → (us ++ ds).length = ps.length → BindsTo s fd ⟨us, []⟩ (ps.zip (us ++ ds))
theorem Binds.all {K : PySem.W.Frag} {fd : FuncData} {ps : List Str} (h : ∀ us : List Value, us.length = ps.length → bindArgs fd ⟨us, []⟩ = pure (ps.zip us)) : Binds K fd ps [] := fun s us _ hl => by
  rw [List.append_nil] at hl ⊢
  exact .of_eq (h us hl)
def Passes (CX : CXT) (X : Cx) (E : XK) : Prop := ∀ (pins : List (Addr × Obj)) (σ : St) (H : Hp) (s : Shared) (e : Value) (s' : Shared), Inv X pins σ H s → CX X.stack H s E e s' → X.xe e s'
section
variable {X : Cx} {CX : CXT} {k : Nat} {f C : Addr} {fd : FuncData} {ps : List Str} {sp : Sp} {dvs : List V} {ds : List Value} {E : XK} {x m : Str} {p pos apos : Pos} {e o : Expr} {es : List Expr} {ta : TE} {t : TA}
theorem run_fn {pins : List (Addr × Obj)} {σ : St} {H : Hp} {s : Shared} {Q : VK} {us : List Value} {vs : List V} (F : FnOk X.prog X.w X.K X.mg X.base CX k f fd ps sp) (hr : Room k X.A) (hb : Binds X.K fd ps ds) (hd : Vals dvs ds) (hx : Passes CX X E)
    (I : Inv X pins σ H s) (r : Vals vs us) (h : sp (vs ++ dvs) H Q E) : wpAny (model X.prog X.w) X.A (call (.ref f) us) (EP X pins σ Q) X.xe s := by
  have r2 : Vals (vs ++ dvs) (us ++ ds) := r.append hd
  have hl : (us ++ ds).length = ps.length := by rw [← r2.length]; exact F.len _ _ _ _ h
  refine wpAny_call (codeAny_mono (F.run X.A X.stack s H ⟨us, []⟩ (us ++ ds) (vs ++ dvs) Q E hr I.env0 (hb s us I.kIn hl) r2 h) fun r s' hq => ?_)
  cases r with
  | error e => exact hx pins σ H s e s' I hq
  | ok fl =>
    cases fl with
    | ret u => exact I.after hq
    | next => exact False.elim hq
    | brk => exact False.elim hq
    | cont => exact False.elim hq
theorem pe_call (F : FnOk X.prog X.w X.K X.mg X.base CX k f fd ps sp) (hr : Room k X.A) (hg : Gl X x) (hm : X.mg x = some (.ref f)) (hk : PySem.W.keepIn X.K (.ref f) = true) (hb : Binds X.K fd ps ds) (hd : Vals dvs ds) (hx : Passes CX X E)
    (ha : PA X (e :: es) t) (hdb : (x == ("__debug__" : Str)) = false := by decide) (he : starEach (e :: es) X.env = (false, eval e X.env) :: starEach es X.env := by rfl) (hpl : (backTo pos (starEach es X.env)).any (·.1) = false := by rfl) :
    PE X (.Call (.Name x p) (e :: es) [] pos) (tCall sp dvs E t) := by
  intro pins s σ H Q I h
  refine wpAny_Call_Name_kw (ld_glob I hg hm ?_ hdb)
  refine PySem.W.callWith_K (h₀ := X.base) I.ok.mod.kin hk (thn (ha pos pins s σ H _ I h) fun us s1 ⟨vs, H1, I1, r, q⟩ => ⟨I1.kIn, ?_⟩) he hpl
  exact run_fn F hr hb hd hx I1 r q
structure Mk (K : PySem.W.Frag) (C f : Addr) : Prop where
  makes : PySem.W.makesIn K C = true
  init : PySem.W.findIn K (.ref C) "__init__" = some (some (.ref f))
  fn : PySem.W.isFn K (.ref f) = true
  kp : PySem.W.keepIn K (.ref C) = true
end
section
variable {X : Cx} {CX : CXT} {k : Nat} {f C : Addr} {fd : FuncData} {ps ks : List Str} {sp : Sp} {E : XK} {x m : Str} {p pos apos kpos : Pos} {e o : Expr} {es : List Expr} {kws : List Keyword} {te ta : TE} {t tk : TA} {nm : Option Str}
structure KBinds (K : PySem.W.Frag) (fd : FuncData) (ps ks : List Str) (g : List Value → List Value → List Value) (gV : List V → List V → List V) : Prop where
  to : ∀ (s : Shared) (us ws : List Value), K.In s.heap → (g us ws).length = ps.length → BindsTo s fd ⟨us, ks.zip ws⟩ (ps.zip (g us ws))
  rel : ∀ {vs : List V} {us : List Value} {zs : List V} {ws : List Value}, Vals vs us → Vals zs ws → Vals (gV vs zs) (g us ws)
variable {g : List Value → List Value → List Value} {gV : List V → List V → List V}
end
structure FnScope (N P : List Str) (sc : Scope) : Prop where
  kind : sc.kind = .function
  co : sc.isCoroutine = false
  gen : sc.isGenerator = false
  nd : N.Nodup
  pre : N.take P.length = P
  par : ∀ x ∈ P, sc.names.lookup x = some .local ∨ sc.names.lookup x = some .cell
  nofree : ∀ y ∈ sc.names, y.2 ≠ .free
theorem bindL_out {kindOf : Str → Option NameKind} {x : Str} : ∀ {binds : List (Str × Value)} {m : Str → Option Value}, (∀ v, (x, v) ∉ binds) → bindL kindOf binds m x = m x
  | [], _, _ => rfl
  | (n, v) :: r, m, h => by
    unfold bindL
    rw [bindL_out fun w hw => h w (List.mem_cons_of_mem _ hw)]
    split
    · have : x ≠ n := by rintro rfl; exact h v List.mem_cons_self
      simp [this]
    · rfl
theorem bindC_out {kindOf : Str → Option NameKind} {x : Str} : ∀ {binds : List (Str × Value)} {m : Str → Option Value}, (∀ v, (x, v) ∉ binds) → bindC kindOf binds m x = m x
  | [], _, _ => rfl
  | (n, v) :: r, m, h => by
    unfold bindC
    rw [bindC_out fun w hw => h w (List.mem_cons_of_mem _ hw)]
    split
    · rfl
    · have : x ≠ n := by rintro rfl; exact h v List.mem_cons_self
      simp [this]
theorem bindL_get {kindOf : Str → Option NameKind} {x : Str} {v : Value} : ∀ {P : List Str} {vs : List Value} {i : Nat} {m : Str → Option Value}, P.Nodup → P[i]? = some x → vs[i]? = some v → kindOf x = some .local →
    bindL kindOf (P.zip vs) m x = some v
  | [], _, _, _, _, h, _, _ => by simp at h
  | _ :: _, [], _, _, _, _, h, _ => by simp at h
  | p :: P, w :: vs, 0, m, nd, h1, h2, hk => by
    simp at h1 h2; subst h1; subst h2
    show bindL kindOf ((p, w) :: P.zip vs) m p = _
    unfold bindL
    rw [bindL_out fun v hv => (List.nodup_cons.mp nd).1 (List.of_mem_zip hv).1, if_pos hk]
    simp
  | p :: P, w :: vs, i + 1, m, nd, h1, h2, hk => by
    show bindL kindOf ((p, w) :: P.zip vs) m x = _
    unfold bindL
    exact bindL_get (i := i) (List.nodup_cons.mp nd).2 (by simpa using h1) (by simpa using h2) hk
theorem bindC_get {kindOf : Str → Option NameKind} {x : Str} {v : Value} : ∀ {P : List Str} {vs : List Value} {i : Nat} {m : Str → Option Value}, P.Nodup → P[i]? = some x → vs[i]? = some v → kindOf x ≠ some .local →
    bindC kindOf (P.zip vs) m x = some v
  | [], _, _, _, _, h, _, _ => by simp at h
  | _ :: _, [], _, _, _, _, h, _ => by simp at h
  | p :: P, w :: vs, 0, m, nd, h1, h2, hk => by
    simp at h1 h2; subst h1; subst h2
    show bindC kindOf ((p, w) :: P.zip vs) m p = _
    unfold bindC
    rw [bindC_out fun v hv => (List.nodup_cons.mp nd).1 (List.of_mem_zip hv).1, if_neg hk]
    simp
  | p :: P, w :: vs, i + 1, m, nd, h1, h2, hk => by
    show bindC kindOf ((p, w) :: P.zip vs) m x = _
    unfold bindC
    exact bindC_get (i := i) (List.nodup_cons.mp nd).2 (by simpa using h1) (by simpa using h2) hk
def start (N : List Str) (vs : List V) : St := vs.map some ++ List.replicate (N.length - vs.length) none
def cxOf (CX : CXT) (P : Program) (w : World) (K : PySem.W.Frag) (mg : Str → Option Value) (base : Heap) (N : List Str) (qual : Str) (scope : Scope) (f : Addr) (cd : Value) (A : Around) (outer : List Env) (s : Shared) (H : Hp) (E : XK) : Cx where
  prog := P
  w := w
  K := K
  mg := mg
  base := base
  A := A.deeper (envOfC qual scope s.heap.objs.size f cd)
  N := N
  s₀ := s
  H₀ := H
  env := envOfC qual scope s.heap.objs.size f cd
  outer := outer
  stack := envOfC qual scope s.heap.objs.size f cd :: outer
  ex := []
  calm := true
  fn := fun _ => true
  pn := []
  xe := fun e s' => wpAny (model P w) (A.deeper (envOfC qual scope s.heap.objs.size f cd)) (leaving (envOfC qual scope s.heap.objs.size f cd) e) (fun _ s'' => CX outer H s E e s'') (fun e' s'' => CX outer H s E e' s'') s'
theorem cell_has {sc : Scope} {n : Nat} {x : Str} (h : sc.names.lookup x = some .cell) : ∃ c, (cellsFrom n sc.names []).lookup x = some c := by
  have q := PySem.W.cellsFrom_some sc.names n [] (.inl h)
  exact Option.isSome_iff_exists.mp q
theorem inv_start {CX : CXT} {P : Program} {w : World} {K : PySem.W.Frag} {mg : Str → Option Value} {base : Heap} {N ps : List Str} {qual : Str} {scope : Scope} {f : Addr} {cd : Value} {A : Around} {outer : List Env} {s s1 : Shared} {H : Hp} {E : XK} {us : List Value} {vs : List V}
    (S : FnScope N ps scope) (hd : A.handled = none) (e0 : Env0 P w K mg base A outer s H) (hl : vs.length = ps.length) (r : Vals vs us)
    (x : InCallC s s.heap.objs.size (bindL (envOfC qual scope s.heap.objs.size f cd).kindOf (ps.zip us) fun _ => none) (cellsFrom (s.heap.objs.size + 1) scope.names []) (bindC (envOfC qual scope s.heap.objs.size f cd).kindOf (ps.zip us) fun _ => none) s1) :
    Inv (cxOf CX P w K mg base N qual scope f cd A outer s H E) [] (start N vs) H s1 := by
  have hpl : ps.length ≤ N.length := by have := congrArg List.length S.pre; rw [List.length_take] at this; omega
  obtain ⟨h1, tk, rfl, hk⟩ := x.done
  have noA : ∀ b : Addr, b ∉ (cxOf CX P w K mg base N qual scope f cd A outer s H E).ex := fun b z => absurd (show b ∈ ([] : List Addr) from z) (by simp)
  refine ⟨⟨e0.mod, S.kind, rfl, rfl, Nat.le_refl _, fun y z c h1 h2 => ?_, fun y hy => ?_, fun y c _ h => ?_, fun _ => hd, Around.frames_deeper e0.frames, .inr ⟨rfl, rfl⟩, fun b z => absurd z (noA b), e0.bs, e0.bsz, fun b _ _ => noA b, fun b z => absurd z (noA b), e0.funs, e0.frf⟩,
    rfl, e0.bare, Un.kept hk, ⟨_, x.toInCall.ns, fun i y v h1 h2 h3 => ?_⟩, fun y c h => ⟨_, x.cell y c h⟩, e0.hok.fresh (Nat.le_refl _), fun y c h => ?_, fun p hp => absurd (show p ∈ ([] : List (Addr × Obj)) from hp) (by simp), e0.hok.kept hk, ?_⟩
  · exact name_of_addr x.apart (PySem.mem_of_lookup h1) (PySem.mem_of_lookup h2)
  · have hy : scope.names.lookup y = some .cell ∨ scope.names.lookup y = some .free := hy
    rcases hy with hy | hy
    · exact cell_has hy
    · exact absurd rfl (S.nofree _ (PySem.mem_of_lookup hy))
  · exact Nat.le_of_lt (x.above y c (PySem.mem_of_lookup h))
  · have hi : i < vs.length := by
      unfold start at h2
      by_cases hi : i < vs.length
      · exact hi
      · rw [List.getElem?_append_right (by simpa using hi)] at h2
        rw [List.getElem?_replicate] at h2
        split at h2 <;> cases h2
    have ha : vs[i]? = some v := by
      unfold start at h2
      rw [List.getElem?_append_left (by simpa using hi), List.getElem?_map] at h2
      cases e : vs[i]? with
      | none => rw [e] at h2; cases h2
      | some a => rw [e] at h2; cases h2; rfl
    obtain ⟨u, hu, rv⟩ := r.get ha
    have hp : ps[i]? = some y := by
      rw [← S.pre, List.getElem?_take_of_lt (by omega)]; exact h1
    have ndP : ps.Nodup := by rw [← S.pre]; exact S.nd.sublist (List.take_sublist _ _)
    refine ⟨u, rv, ?_⟩
    rcases S.par y (List.mem_of_getElem? hp) with k | k
    · exact .inl ⟨k, bindL_get ndP hp hu k⟩
    · obtain ⟨c, e⟩ := cell_has (n := s.heap.objs.size + 1) k
      refine .inr ⟨.inl k, c, e, ?_⟩
      have q := x.cell y c e
      rw [bindC_get ndP hp hu (by show scope.names.lookup y ≠ _; rw [k]; decide)] at q
      exact q
  · exact e0.hok.fresh (Nat.le_of_lt (x.above y c (PySem.mem_of_lookup h)))
  · unfold start
    show _ = N.length
    rw [List.length_append, List.length_map, List.length_replicate]
    omega
theorem fn_of {CX : CXT} {P : Program} {w : World} {K : PySem.W.Frag} {mg : Str → Option Value} {base : Heap} {k : Nat} {f : Addr} {name qual : Str} {params : Arguments} {body : List Stmt} {scope : Scope} {dV kV doc pm cdv ct oc : Value} {an od : Option Addr}
    {osl : Array (Option Value)} {N ps : List Str} {sp : Sp} (lk : K.lookup f = some ⟨oc, od, .func (PySem.W.fnOf name qual params body scope dV kV doc pm an cdv ct), osl⟩) (hcd : PySem.W.codeIn K cdv qual = true) (S : FnScope N ps scope)
    (len : ∀ vs H Q E, sp vs H Q E → vs.length = ps.length)
    (hbody : ∀ (A : Around) (outer : List Env) (s : Shared) (H : Hp) (vs : List V) (Q : VK) (E : XK), Room k (A.deeper (envOfC qual scope s.heap.objs.size f cdv)) → sp vs H Q E →
      ∃ t, PSs (cxOf CX P w K mg base N qual scope f cdv A outer s H E) body t ∧ t { nx := fun _ H' => Q .non H', rt := Q } (start N vs) H) :
    FnOk P w K mg base CX (k + 1) f (PySem.W.fnOf name qual params body scope dV kV doc pm an cdv ct) ps sp := by
  refine ⟨len, fun A outer s H args us vs Q E hr e0 hb r hsp => ?_⟩
  have hl := len _ _ _ _ hsp
  have KX : K.In s.heap := e0.mod.kin.keeps fun b o e => (e0.bs b o e).1
  have lim : s.heap.NoLimit := e0.mod.nolimit.keeps fun b o e => (e0.bs b o e).1
  have hkind : ∀ y ∈ ps.zip us, scope.names.lookup y.1 = some .local ∨ (scope.names.lookup y.1 = some .cell ∧ ((cellsFrom (s.heap.objs.size + 1) scope.names []).lookup y.1).isSome = true) := fun ⟨n, v⟩ hy => by
    rcases S.par n (List.of_mem_zip hy).1 with q | q
    · exact .inl q
    · exact .inr ⟨q, PySem.W.cellsFrom_some _ _ _ (.inl q)⟩
  refine codeAny_call_function hr.depth (KX _ _ lk) rfl S.co S.gen rfl (PySem.W.codeRec_of KX hcd) (hb _ _ _ _ ?_)
  refine wpAny_newFunctionEnv_cells S.kind hkind fun env he s1 x => ?_
  subst he
  refine ⟨lim.keeps x.toInCall.keep, codeAny_func ?_⟩
  obtain ⟨t, ht, hq⟩ := hbody A outer s H vs Q E (hr.deeper _) hsp
  have I : Inv (cxOf CX P w K mg base N qual scope f cdv A outer s H E) [] (start N vs) H s1 := inv_start S hr.hd e0 hl r x
  refine wpAny_mono (ht [] s1 (start N vs) H _ I hq) (fun fl s' hs => ?_) fun e s' hs => hs
  have fin : ∀ {σ' : St} {H' : Hp} {v : V} {u : Value}, Inv (cxOf CX P w K mg base N qual scope f cdv A outer s H E) [] σ' H' s' → RelV v u → Q v H' → CE outer P w H s Q u s' :=
    fun {σ' H' v u} J rv q => ⟨v, H', J.os, J.bare, J.base, J.hok, rv, q⟩
  cases fl with
  | ret u =>
    obtain ⟨v, σ', H', J, rv, q⟩ := hs
    exact fin J rv q
  | next =>
    obtain ⟨σ', H', J, q⟩ := hs
    exact fin (v := V.non) (u := Value.none) J rfl q
  | brk =>
    obtain ⟨_, _, _, q⟩ := hs
    exact False.elim q
  | cont =>
    obtain ⟨_, _, _, q⟩ := hs
    exact False.elim q
end L2
namespace L2
open PySem PySem.Spec PyProof.Rows
section
variable {X : Cx} {x : Str} {p pos : Pos} {e : Expr} {es : List Expr} {t : TA} {id T : String} {r : List V → Hp → VK → Prop}
def tCB (r : List V → Hp → VK → Prop) (t : TA) : TE := fun σ H Q => t σ H fun vs H1 => r vs H1 Q
theorem pe_callB (hc : CallR X (.builtin id) r) (hg : Gl X x) (hm : X.mg x = none) (hv : bootBuiltins x = some (.builtin id)) (ha : PA X (e :: es) t) (hn : x ≠ "__name__" := by decide) (hdb : (x == ("__debug__" : Str)) = false := by decide)
    (he : starEach (e :: es) X.env = (false, eval e X.env) :: starEach es X.env := by rfl) (hpl : (backTo pos (starEach es X.env)).any (·.1) = false := by rfl) : PE X (.Call (.Name x p) (e :: es) [] pos) (tCB r t) := by
  intro pins s σ H Q I h
  refine wpAny_Call_Name_kw (ld_blt I hg hm hv ?_ hn hdb)
  exact PyProof.Rows.callWith_builtin1 (thn (ha pos pins s σ H _ I h) fun us s1 ⟨vs, H1, I1, r1, q1⟩ => hc pins s1 σ H1 vs us Q I1 r1 q1) he hpl
theorem pe_callTy (hc : CallR X (.type T) r) (hg : Gl X x) (hm : X.mg x = none) (hv : bootBuiltins x = some (.type T)) (ha : PA X (e :: es) t) (hn : x ≠ "__name__" := by decide) (hdb : (x == ("__debug__" : Str)) = false := by decide)
    (he : starEach (e :: es) X.env = (false, eval e X.env) :: starEach es X.env := by rfl) (hpl : (backTo pos (starEach es X.env)).any (·.1) = false := by rfl) : PE X (.Call (.Name x p) (e :: es) [] pos) (tCB r t) := by
  intro pins s σ H Q I h
  refine wpAny_Call_Name_kw (ld_blt I hg hm hv ?_ hn hdb)
  exact PyProof.Rows.callWith_type1 (thn (ha pos pins s σ H _ I h) fun us s1 ⟨vs, H1, I1, r1, q1⟩ => hc pins s1 σ H1 vs us Q I1 r1 q1) he hpl
end
end L2
namespace HT
open PySem PyProof.Rows
section
open PySem.SeqAt
open PySem.AutoSeq1 (wpAny_loadPart')
open PySem.MeetsSeq PySem.MeetsSeq2 PySem.MeetsSeq3
end
section
variable {prog : Program} {w : World} {A : Around} {E : Value → Shared → Prop} {s : Shared}
theorem cat_tup {t b : Addr} {vs ws : List Value} {Q : Value → Shared → Prop} (ht : IsTup s.heap t vs.toArray) (hb : IsTup s.heap b ws.toArray) (hv : vs ≠ [])
    (h1 : ws = [] → Q (.ref t) s) (h2 : ws ≠ [] → Q (.ref s.heap.objs.size) { s with heap := s.heap.push { cls := .type "tuple", data := .seq (vs ++ ws).toArray } })
    (hsz : vs.length + ws.length ≤ sizeLine) : wpAny (model prog w) A (binaryOp .Add (.ref t) (.ref b)) Q E s := by
  obtain ⟨⟨cls, dd, data, sl⟩, ho, hc, n, hd⟩ := id ht
  obtain ⟨⟨cls2, dd2, data2, sl2⟩, ho2, hc2, n2, hd2⟩ := id hb
  simp only at hc hd hc2 hd2
  subst hc hd hc2 hd2
  have e : vs.toArray ++ ws.toArray = (vs ++ ws).toArray := by simp
  by_cases hw : ws = []
  · exact concat_meets ⟨_, ho, rfl⟩ ⟨_, ho2, rfl⟩ noFill_tuple_add seq_tuple_add PySem.F.slot_tuple_add PySem.F.entry_tuple_add (PySem.F.args_tuple_add_2 _ _)
      (tuple_addW1 t b vs.toArray ws.toArray n n2 dd dd2 sl sl2 (by simpa using hv) (by simp [hw])) ⟨ho, ho2, h1 hw⟩
  · refine concat_meets ⟨_, ho, rfl⟩ ⟨_, ho2, rfl⟩ noFill_tuple_add seq_tuple_add PySem.F.slot_tuple_add PySem.F.entry_tuple_add (PySem.F.args_tuple_add_2 _ _)
      (tuple_addW2 t b vs.toArray ws.toArray n n2 dd dd2 sl sl2 (by simpa using hv) (by simpa using hw) (by rw [List.size_toArray, List.size_toArray]; exact hsz)) ⟨ho, ho2, ?_⟩
    rw [e]
    exact h2 hw
def sIx (n d : Nat) : Option Int → Nat
  | none => d
  | some v => if v < 0 then (v + (n : Int)).toNat else min v.toNat n
theorem sIx_none (n d : Nat) : sIx n d none = d := rfl
theorem sIx_nat (n d k : Nat) : sIx n d (some (k : Int)) = min k n := by
  show (if (k : Int) < 0 then ((k : Int) + (n : Int)).toNat else min (k : Int).toNat n) = min k n
  rw [if_neg (by omega), Int.toNat_natCast]
theorem sIx_le (n d : Nat) (hd : d ≤ n) (o : Option Int) : sIx n d o ≤ n := by
  cases o with
  | none => exact hd
  | some v =>
    show (if v < 0 then (v + (n : Int)).toNat else min v.toNat n) ≤ n
    by_cases hv : v < 0
    · rw [if_pos hv]; omega
    · rw [if_neg hv]; exact Nat.min_le_right _ _
theorem clip_eq (v : Int) (n d : Nat) : (if v < 0 then max (v + (n : Int)) 0 else min v (n : Int)) = ((sIx n d (some v) : Nat) : Int) := by
  show (if v < 0 then max (v + (n : Int)) 0 else min v (n : Int)) = (((if v < 0 then (v + (n : Int)).toNat else min v.toNat n) : Nat) : Int)
  by_cases hv : v < 0
  · simp only [if_pos hv]; omega
  · simp only [if_neg hv]; omega
theorem adjust_gen (lo hi : Option Int) (n : Nat) : Builtin.Slice.sliceAdjust lo hi 1 (n : Int) = (((sIx n 0 lo : Nat) : Int), ((sIx n n hi : Nat) : Int)) := by
  have h1 : ¬ ((1 : Int) < 0) := by omega
  unfold Builtin.Slice.sliceAdjust
  simp only [h1, if_false]
  refine Prod.ext ?_ ?_
  · cases lo with
    | none => rfl
    | some v => exact clip_eq v n 0
  · cases hi with
    | none => rfl
    | some v => exact clip_eq v n n
theorem places_gen (i j : Nat) : Builtin.Slice.slicePlaces (i : Int) (j : Int) 1 = j - i := by
  unfold Builtin.Slice.slicePlaces
  have h1 : (1 : Int) > 0 := by omega
  simp only [h1, if_true, Int.ediv_one]
  split <;> omega
theorem slicePart_ {v : Value} {o : Option Int} {Q : Option Int → Shared → Prop} (p : IsPart v o) (h : Q o s) : wpAny (model prog w) A (Builtin.Slice.slicePartIndex v) Q E s := by
  cases p with
  | none => exact slicePart_none h
  | int i t => exact slicePart_int h
theorem sliceApplied_gen {sl : Addr} {vl vu : Value} {lo hi : Option Int} {n : Nat} {Q : Int × Int × Nat → Shared → Prop} (hs : s.heap.IsSliceOf sl vl vu .none) (pl : IsPart vl lo) (pu : IsPart vu hi)
    (h : Q (((sIx n 0 lo : Nat) : Int), 1, sIx n n hi - sIx n 0 lo) s) : wpAny (model prog w) A (Builtin.Slice.sliceApplied (.ref sl) (pure (n : Int))) Q E s := by
  obtain ⟨os, hos, hcs, hds⟩ := id hs
  unfold Builtin.Slice.sliceApplied Builtin.Slice.sliceFields
  refine wpAny_bind (wpAny_bind (wpAny_field hos hds (x := vl) rfl (wpAny_bind (wpAny_field hos hds (x := vu) rfl (wpAny_bind (wpAny_field hos hds (x := .none) rfl (wpAny_pure ?_)))))))
  refine wpAny_bind (slicePart_none ?_)
  show wpAny _ _ (if ((1 : Int) == 0) = true then _ else _) _ _ s
  rw [if_neg (by decide)]
  refine wpAny_bind (slicePart_ pl (wpAny_bind (slicePart_ pu (wpAny_bind (wpAny_pure ?_)))))
  show wpAny _ _ (match Builtin.Slice.sliceAdjust lo hi 1 (n : Int) with | (lo, hi) => pure (lo, (1 : Int), Builtin.Slice.slicePlaces lo hi 1)) _ _ s
  rw [adjust_gen lo hi n]
  show wpAny _ _ (pure (((sIx n 0 lo : Nat) : Int), (1 : Int), Builtin.Slice.slicePlaces ((sIx n 0 lo : Nat) : Int) ((sIx n n hi : Nat) : Int) 1)) _ _ s
  rw [places_gen]
  exact wpAny_pure h
theorem pick_gen (xs : Array Value) (i k : Nat) : ((List.range k).filterMap fun (m : Nat) => xs[((i : Int) + (m : Int) * 1).toNat]?).toArray = ((xs.toList.drop i).take k).toArray := by
  have e : (fun (m : Nat) => xs[((i : Int) + (m : Int) * 1).toNat]?) = fun m => xs[i + m]? := by
    funext m
    have : ((i : Int) + (m : Int) * 1).toNat = i + m := by omega
    rw [this]
  rw [e]
  have := pick_run xs i k
  rw [List.filterMap_map] at this
  have e2 : ((fun x => xs[x]?) ∘ fun x => i + x) = fun m => xs[i + m]? := rfl
  rw [e2] at this
  rw [this]
theorem getItem_tuple_cut {t sl : Addr} {items : Array Value} {vl vu : Value} {lo hi : Option Int} {Q : Value → Shared → Prop} (ht : IsTup s.heap t items) (hs : s.heap.IsSliceOf sl vl vu .none) (pl : IsPart vl lo) (pu : IsPart vu hi)
    (hw : ¬ (sIx items.size 0 lo = 0 ∧ sIx items.size items.size hi = items.size))
    (h : Q (.ref s.heap.objs.size) { s with heap := s.heap.push { cls := .type "tuple", data := .seq ((items.toList.drop (sIx items.size 0 lo)).take (sIx items.size items.size hi - sIx items.size 0 lo)).toArray } })
    (hsz : items.size ≤ sizeLine) : wpAny (model prog w) A (getItem (.ref t) (.ref sl)) Q E s := by
  have htake : sizeOk (.seq ((items.toList.drop (sIx items.size 0 lo)).take (sIx items.size items.size hi - sIx items.size 0 lo)).toArray) := by
    show ((items.toList.drop (sIx items.size 0 lo)).take (sIx items.size items.size hi - sIx items.size 0 lo)).toArray.size ≤ sizeLine
    rw [List.size_toArray, List.length_take, List.length_drop, Array.length_toList]
    omega
  have hj : sIx items.size items.size hi ≤ items.size := sIx_le _ _ (Nat.le_refl _) hi
  obtain ⟨os, hos, hcs, hds⟩ := id hs
  have hTs : s.TypeIs (.ref sl) "slice" := ⟨os, hos, hcs⟩
  unfold getItem
  try with_reducible refine wpAny_holding ?_
  first | refine wpAny_bind (wpAny_pure ?_) | skip
  refine wpAny_bind (wpAny_sequenceKey ht.typeIs (by decide) ?_)
  refine wpAny_bind (wpAny_callSpecial?_slot (name := Str.ofString "__getitem__") ht.typeIs PyProof.Rows.slot_tuple_getitem
    (wpAny_call_entry PyProof.Rows.slot_tuple_getitem ht.typeIs entry_tuple_getitem ?_ (args_tuple_getitem _ _)))
  show wpAny _ _ (Builtin.Tuple.tupleItemsOf (.ref t) >>= _) _ _ s
  refine wpAny_bind (tupleItemsOf_ ht ?_)
  refine wpAny_bind (wpAny_typeOf hTs ?_)
  rw [if_pos (by decide)]
  refine wpAny_bind (sliceApplied_gen hs pl pu ?_)
  have hno : ¬ ((((sIx items.size 0 lo : Nat) : Int) == 0 && (1 : Int) == 1 && (sIx items.size items.size hi - sIx items.size 0 lo) == items.size) = true) := by
    intro q
    rw [Bool.and_eq_true, Bool.and_eq_true] at q
    have q1 : ((sIx items.size 0 lo : Nat) : Int) = 0 := eq_of_beq q.1.1
    have q2 : sIx items.size items.size hi - sIx items.size 0 lo = items.size := eq_of_beq q.2
    exact hw ⟨by omega, by omega⟩
  show wpAny _ _ (if (((sIx items.size 0 lo : Nat) : Int) == 0 && (1 : Int) == 1 && (sIx items.size items.size hi - sIx items.size 0 lo) == items.size) = true then _ else _) _ _ s
  rw [if_neg hno, pick_gen]
  first
    | exact wpAny_bind (m := Builtin.Tuple.tupleExact _) (wpAny_newObj_type (wpAny_pure ⟨_, rfl, wpAny_pure h⟩) htake)
    | exact wpAny_bind (m := Builtin.Tuple.tupleExact _) (wpAny_newObj_type (wpAny_bind (wpAny_pure (wpAny_pure ⟨_, rfl, wpAny_pure h⟩))) htake)
    | exact wpAny_bind (wpAny_bind (m := Builtin.Tuple.tupleExact _) (wpAny_newObj_type (wpAny_pure (wpAny_pure ⟨_, rfl, wpAny_pure h⟩)) htake))
    | exact wpAny_bind (wpAny_bind (m := Builtin.Tuple.tupleExact _) (wpAny_newObj_type (wpAny_pure ⟨_, rfl, wpAny_pure h⟩) htake))
end
end HT
namespace L2
open PySem PySem.Spec PyProof.Rows
abbrev TO := St → Hp → (Option Int → Hp → Prop) → Prop
def PO (X : Cx) (e : Option Expr) (t : TO) : Prop :=
  ∀ (pins : List (Addr × Obj)) (s : Shared) (σ : St) (H : Hp) (Q : Option Int → Hp → Prop), Inv X pins σ H s → t σ H Q →
    wpAny (model X.prog X.w) X.A (evalPart e X.env) (fun u s' => ∃ o H', Inv X pins σ H' s' ∧ IsPart u o ∧ Q o H') X.xe s
def tNoPart : TO := fun _ H Q => Q none H
def tPart (t : TE) : TO := fun σ H Q => t σ H fun x H1 => ∃ i, x = .int i ∧ Q (some i) H1
section
variable {X : Cx} {e : Expr} {te : TE} {lo hi : Option Expr} {tl th : TO} {pos p2 : Pos}
theorem po_none : PO X none tNoPart := by
  intro pins s σ H Q I h
  rw [evalPart_none]
  exact wpAny_pure ⟨none, H, I, .none, h⟩
theorem po_some (h : PE X e te) : PO X (some e) (tPart te) := by
  intro pins s σ H Q I hw
  rw [evalPart_some]
  refine thn (h pins s σ H _ I hw) fun u s1 ⟨x, H1, I1, r1, q1⟩ => ?_
  obtain ⟨i, rfl, q⟩ := q1
  obtain ⟨t, rfl⟩ := r1
  exact ⟨some i, H1, I1, .int i t, q⟩
def SlR (X : Cx) (r : V → Option Int → Option Int → Hp → VK → Prop) : Prop :=
  ∀ (pins : List (Addr × Obj)) (s : Shared) (σ : St) (H : Hp) (x : V) (v vl vu : Value) (lo hi : Option Int) (sl : Addr) (Q : VK), Inv X pins σ H s → RelV x v → s.heap.IsSliceOf sl vl vu .none → IsPart vl lo → IsPart vu hi → r x lo hi H Q →
    ∃ T id, typeLookup (.type T) "__getitem__" = pure (some (.builtin id)) ∧ s.TypeIs v T ∧ wpAny (model X.prog X.w) X.A (getItem v (.ref sl)) (EP X pins σ Q) X.xe s
theorem SlR.or {r r' : V → Option Int → Option Int → Hp → VK → Prop} (h : SlR X r) (h' : SlR X r') : SlR X (fun x lo hi H Q => r x lo hi H Q ∨ r' x lo hi H Q) := by
  intro pins s σ H x v vl vu lo hi sl Q I rx hs pl pu q
  rcases q with q | q
  · exact h pins s σ H x v vl vu lo hi sl Q I rx hs pl pu q
  · exact h' pins s σ H x v vl vu lo hi sl Q I rx hs pl pu q
def tSl (r : V → Option Int → Option Int → Hp → VK → Prop) (te : TE) (tl th : TO) : TE := fun σ H Q => te σ H fun x H1 => tl σ H1 fun l H2 => th σ H2 fun u H3 => r x l u H3 Q
theorem pe_slice {r : V → Option Int → Option Int → Hp → VK → Prop} (hr : SlR X r) (he : PE X e te) (hl : PO X lo tl) (hu : PO X hi th) : PE X (.Subscript e (.Slice lo hi none p2) pos) (tSl r te tl th) := by
  intro pins s σ H Q I h
  refine Subscript_ (thn (he pins s σ H _ I h) fun v s1 ⟨x, H1, I1, r1, q1⟩ => ?_)
  refine wpAny_Slice (thn (hl pins s1 σ H1 _ I1 q1) fun vl s2 ⟨l, H2, I2, pl, q2⟩ => thn (hu pins s2 σ H2 _ I2 q2) fun vu s3 ⟨u, H3, I3, pu, q3⟩ => ?_)
  rw [evalPart_none]
  refine wpAny_pure ?_
  have I4 : Inv X pins σ H3 { s3 with heap := s3.heap.push { cls := .type "slice", data := .fields #[vl, vu, .none] } } := I3.kept (t' := s3.toks) fun b ob q => Heap.get?_push_of_some _ q
  obtain ⟨T, id, hT, ht, hg⟩ := hr pins { s3 with heap := s3.heap.push { cls := .type "slice", data := .fields #[vl, vu, .none] } } σ H3 x v vl vu l u s3.heap.objs.size Q I4 r1 (Heap.IsSliceOf.new ..) pl pu q3
  show wpAny (model X.prog X.w) X.A (subscriptTail e (.Slice lo hi none p2) v (.ref s3.heap.objs.size)) (EP X pins σ Q) X.xe { s3 with heap := s3.heap.push { cls := .type "slice", data := .fields #[vl, vu, .none] } }
  exact tail_any (ops := [.ref s3.heap.objs.size, v]) ht hT hg (by with_unfolding_all rfl)
def cutV (xs : List V) (lo hi : Option Int) : List V := (xs.drop (HT.sIx xs.length 0 lo)).take (HT.sIx xs.length xs.length hi - HT.sIx xs.length 0 lo)
theorem cutV_length (xs : List V) (lo hi : Option Int) : (cutV xs lo hi).length ≤ xs.length := by
  unfold cutV
  rw [List.length_take, List.length_drop]
  omega
def rSlT (K : PySem.W.Frag) : V → Option Int → Option Int → Hp → VK → Prop := fun x lo hi H Q => ∃ a xs, x = .ref a ∧ SqT K H a xs ∧
  ¬ (HT.sIx xs.length 0 lo = 0 ∧ HT.sIx xs.length xs.length hi = xs.length) ∧ ∀ p, H p = none → Q (.ref p) (upd H p (.tup (cutV xs lo hi)))
theorem sl_tup : SlR X (rSlT X.K) := by
  intro pins s σ H x v vl vu lo hi sl Q I rx hs pl pu h
  obtain ⟨a, xs, rfl, hx, hw, q⟩ := h
  cases rx
  obtain ⟨its, r, ht, hz⟩ := I.tuple hx
  have hlen : its.toArray.size = xs.length := by rw [List.size_toArray]; exact r.length.symm
  refine ⟨"tuple", _, PyProof.Rows.slot_tuple_getitem.lookup, ht.typeIs, ?_⟩
  refine HT.getItem_tuple_cut ht hs pl pu (by rw [hlen]; exact hw) ?_ (by rw [hlen]; exact hz)
  rw [hlen]
  refine ⟨.ref s.heap.objs.size, _, I.laid (t' := s.toks) (o := .tup (cutV xs lo hi)) (fun b ob q => Heap.get?_push_of_some _ q) (Nat.le_refl _) ?_, rfl, q _ (I.hok.fresh (Nat.le_refl _))⟩
  exact ⟨Nat.le_trans (cutV_length xs lo hi) hz, _, (r.drop (HT.sIx xs.length 0 lo)).take (HT.sIx xs.length xs.length hi - HT.sIx xs.length 0 lo), IsTup.new _ _⟩
def rCatT (K : PySem.W.Frag) : R2 := fun x y H Q => ∃ a b xs ys, x = .ref a ∧ y = .ref b ∧ SqT K H a xs ∧ SqT K H b ys ∧ xs ≠ [] ∧ xs.length + ys.length ≤ sizeLine ∧
  (ys = [] → Q (.ref a) H) ∧ (ys ≠ [] → ∀ p, H p = none → Q (.ref p) (upd H p (.tup (xs ++ ys))))
theorem Vals.nil_iff {xs : List V} {us : List Value} (r : Vals xs us) : us = [] ↔ xs = [] := by
  cases r with
  | nil => simp
  | cons _ _ => simp
theorem op_catT : OpR X (binaryOp .Add) (rCatT X.K) := by
  intro pins s σ H x y v u Q I rx ry h
  obtain ⟨a, b, xs, ys, rfl, rfl, ha, hb, hx, hz, q1, q2⟩ := h
  cases rx
  cases ry
  obtain ⟨its, r1, p1, _⟩ := I.tuple ha
  obtain ⟨its2, r2, p2, _⟩ := I.tuple hb
  refine HT.cat_tup p1 p2 (fun z => hx (r1.nil_iff.mp z)) (fun z => ⟨.ref a, H, I, rfl, q1 (r2.nil_iff.mp z)⟩) (fun z => ?_) (by rw [← r1.length, ← r2.length]; exact hz)
  refine ⟨.ref s.heap.objs.size, _, I.laid (t' := s.toks) (o := .tup (xs ++ ys)) (fun b ob q => Heap.get?_push_of_some _ q) (Nat.le_refl _) ?_, rfl, q2 (fun w => z (r2.nil_iff.mpr w)) _ (I.hok.fresh (Nat.le_refl _))⟩
  exact ⟨by rw [List.length_append]; exact hz, _, r1.append r2, IsTup.new _ _⟩
end
end L2
namespace L2
open PySem PySem.Spec PyProof.Rows
def ixN (n : Nat) (i : Int) : Option Nat := if 0 ≤ i then (if i < n then some i.toNat else none) else if -(n : Int) ≤ i then some (i + n).toNat else none
def atI {α : Type} (xs : List α) (i : Int) : Option α := (ixN xs.length i).bind fun j => xs[j]?
theorem ixN_seq {n : Nat} {i : Int} {j : Nat} (h : ixN n i = some j) : seqIndex? i n = some j ∧ j < n ∧ -(n : Int) ≤ i ∧ i < n := by
  unfold ixN at h
  by_cases h0 : 0 ≤ i
  · rw [if_pos h0] at h
    by_cases h1 : i < n
    · rw [if_pos h1] at h
      have e : i.toNat = j := Option.some.inj h
      exact ⟨by rw [seqIndex_of h0 h1, e], by omega, by omega, h1⟩
    · rw [if_neg h1] at h; cases h
  · rw [if_neg h0] at h
    by_cases h1 : -(n : Int) ≤ i
    · rw [if_pos h1] at h
      have e : (i + n).toNat = j := Option.some.inj h
      exact ⟨by rw [seqIndex_neg (by omega) h1, e], by omega, h1, by omega⟩
    · rw [if_neg h1] at h; cases h
theorem atI_get {α : Type} {xs : List α} {i : Int} {v : α} (h : atI xs i = some v) : ∃ j, seqIndex? i xs.length = some j ∧ xs[j]? = some v ∧ j < xs.length ∧ -(xs.length : Int) ≤ i ∧ i < xs.length := by
  unfold atI at h
  cases e : ixN xs.length i with
  | none => rw [e] at h; cases h
  | some j =>
    rw [e] at h
    obtain ⟨h1, h2, h3, h4⟩ := ixN_seq e
    exact ⟨j, h1, h, h2, h3, h4⟩
theorem atI_nat {α : Type} {xs : List α} {j : Nat} {v : α} (h : xs[j]? = some v) : atI xs (j : Int) = some v := by
  have hj : j < xs.length := (List.getElem?_eq_some_iff.mp h).1
  have e : ixN xs.length (j : Int) = some j := by
    unfold ixN
    rw [if_pos (by omega), if_pos (by omega)]; simp
  unfold atI; rw [e]; exact h
def PlainIx (b : Expr) : Prop := ∀ o i, subscripted b false o i = operate [o, i] (getItem o i)
def IxR (X : Cx) (r : R2) : Prop :=
  ∀ (value slice : Expr) (pins : List (Addr × Obj)) (s : Shared) (σ : St) (H : Hp) (x y : V) (v u : Value) (Q : VK), Inv X pins σ H s → RelV x v → RelV y u → r x y H Q →
    subscripted slice false v u = operate [v, u] (getItem v u) → wpAny (model X.prog X.w) X.A (subscriptTail value slice v u) (EP X pins σ Q) X.xe s
def MtR (X : Cx) (id : String) (r : V → List V → Hp → VK → Prop) : Prop :=
  ∀ (pins : List (Addr × Obj)) (s : Shared) (σ : St) (H : Hp) (x : V) (xs : List V) (v : Value) (us : List Value) (Q : VK), Inv X pins σ H s → RelV x v → Vals xs us → r x xs H Q →
    wpAny (model X.prog X.w) X.A (call (.builtin id) (v :: us)) (EP X pins σ Q) X.xe s
section
variable {X : Cx} {a b : Expr} {ta tb : TE} {pos : Pos}
theorem IxR.or {r r' : R2} (h : IxR X r) (h' : IxR X r') : IxR X (fun x y H Q => r x y H Q ∨ r' x y H Q) := by
  intro value slice pins s σ H x y v u Q I rx ry q hs
  rcases q with q | q
  · exact h value slice pins s σ H x y v u Q I rx ry q hs
  · exact h' value slice pins s σ H x y v u Q I rx ry q hs
theorem pe_ix {r : R2} (hr : IxR X r) (ha : PE X a ta) (hb : PE X b tb) (hs : PlainIx b) : PE X (.Subscript a b pos) (tOp r ta tb) := by
  intro pins s σ H Q I h
  exact Subscript_ (binT ha hb I h fun v u s2 x y H2 I2 rx ry q => hr a b pins s2 σ H2 x y v u Q I2 rx ry q (hs _ _))
def rIxL (K : PySem.W.Frag) : R2 := fun x y H Q => ∃ p xs i v, x = .ref p ∧ y = .int i ∧ SqL K H p xs ∧ atI xs i = some v ∧ Q v H
def rIxT (K : PySem.W.Frag) : R2 := fun x y H Q => ∃ p xs i v, x = .ref p ∧ y = .int i ∧ SqT K H p xs ∧ atI xs i = some v ∧ Q v H
def rIxS : R2 := fun x y H Q => ∃ z i c, x = .str z ∧ y = .int i ∧ z.length ≤ sizeLine ∧ atI z.cps.toList i = some c ∧ Q (.str ⟨#[c]⟩) H
theorem ix_list : IxR X (rIxL X.K) := by
  intro value slice pins s σ H x y v u Q I rx ry h hs
  obtain ⟨p, xs, i, z, rfl, rfl, hq, he, q⟩ := h
  cases rx
  obtain ⟨t, rfl⟩ := ry
  obtain ⟨its, r, pl, hz⟩ := I.list hq
  obtain ⟨j, h1, h2, h3, h4, h5⟩ := atI_get he
  obtain ⟨w, ew, rw'⟩ := r.get h2
  have hl := r.length
  have hn := line63
  have fin : EP X pins σ Q w s := ⟨z, H, I, rw', q⟩
  by_cases h0 : 0 ≤ i
  · have hj : i.toNat = j := by
      rw [seqIndex_of h0 h5] at h1
      exact Option.some.inj h1
    exact item_listR pl.isList h0 (by omega) (by rw [hj]; simpa using ew) fin hs
  · have hj : (i + (its.toArray.size : Int)).toNat = j := by
      rw [seqIndex_neg (by omega) h4] at h1
      rw [List.size_toArray, ← hl]
      exact Option.some.inj h1
    exact subscriptTail_builtinR (x := w) pl.isList.typeIs slot_list_getitem.lookup
      (wpAny_getItem_list_neg (Q := fun r s' => r = w ∧ EP X pins σ Q r s') pl.isList (by omega) (by rw [List.size_toArray] <;> omega) (by omega) (by rw [hj]; simpa using ew) ⟨rfl, fin⟩) hs
theorem ix_tup : IxR X (rIxT X.K) := by
  intro value slice pins s σ H x y v u Q I rx ry h hs
  obtain ⟨p, xs, i, z, rfl, rfl, hq, he, q⟩ := h
  cases rx
  obtain ⟨t, rfl⟩ := ry
  obtain ⟨its, r, pl, hz⟩ := I.tuple hq
  obtain ⟨j, h1, h2, h3, h4, h5⟩ := atI_get he
  obtain ⟨w, ew, rw'⟩ := r.get h2
  have hl := r.length
  have hn := line63
  have fin : EP X pins σ Q w s := ⟨z, H, I, rw', q⟩
  exact subscriptTail_builtinR (x := w) pl.typeIs slot_tuple_getitem.lookup
    (getItem_tuple (j := j) (Q := fun r s' => r = w ∧ EP X pins σ Q r s') pl (by omega) (by omega) (by rw [List.size_toArray, ← hl]; exact h1) (by simpa using ew) ⟨rfl, fin⟩) hs
theorem ix_str : IxR X rIxS := by
  intro value slice pins s σ H x y v u Q I rx ry h hs
  obtain ⟨z, i, c, rfl, rfl, hz, he, q⟩ := h
  obtain ⟨t, rfl⟩ := rx
  obtain ⟨t', rfl⟩ := ry
  obtain ⟨j, h1, h2, h3, h4, h5⟩ := atI_get he
  have hl : z.cps.toList.length = z.length := by simp [Str.length]
  rw [hl] at h1 h4 h5
  have hn := line63
  exact tail_any (typeIs_str s z t) slot_str_getitem.lookup (getItem_str (c := c) (by
    have e1 : decide (i < -(2 ^ 63 : Int)) = false := decide_eq_false (by omega)
    have e2 : decide (i ≥ 2 ^ 63) = false := decide_eq_false (by omega)
    rw [e1, e2, Bool.or_false]) (by rw [h1]; simpa using h2) ⟨.str ⟨#[c]⟩, H, I.tok _, ⟨_, rfl⟩, q⟩) hs
def rIx (K : PySem.W.Frag) : R2 := fun x y H Q => rIxL K x y H Q ∨ rIxT K x y H Q ∨ rIxS x y H Q
theorem ix_seq : IxR X (rIx X.K) := ix_list.or (ix_tup.or ix_str)
theorem mapSeq_set (its : List Value) (n j : Nat) (u : Value) : Obj.mapSeq (·.setIfInBounds j u) { cls := .type "list", data := .seq its.toArray n } = { cls := .type "list", data := .seq (its.set j u).toArray n } := by
  simp [Obj.mapSeq]
theorem Inv.lst {pins : List (Addr × Obj)} {σ : St} {H : Hp} {s : Shared} {p : Addr} {xs : List V} (I : Inv X pins σ H s) (h : H p = some (.lst xs)) :
    ∃ (its : List Value) (n : Nat), Vals xs its ∧ s.heap.get? p = some { cls := .type "list", data := .seq its.toArray n } ∧ xs.length ≤ sizeLine := by
  obtain ⟨z, its, n, r, e⟩ := I.hok p _ h
  exact ⟨its, n, r, e, z⟩
theorem Inv.lstUpd {pins : List (Addr × Obj)} {σ : St} {H : Hp} {s : Shared} {p : Addr} {xs ys : List V} {its its' : List Value} {n n' : Nat} {f : Obj → Obj} (I : Inv X pins σ H s) (h : H p = some (.lst xs))
    (ho : s.heap.get? p = some { cls := .type "list", data := .seq its.toArray n }) (hf : f { cls := .type "list", data := .seq its.toArray n } = { cls := .type "list", data := .seq its'.toArray n' }) (r : Vals ys its') (hz : ys.length ≤ sizeLine) (t : Nat) :
    Inv X pins σ (upd H p (.lst ys)) { s with heap := s.heap.update p f, toks := t } := by
  have e : (s.heap.update p f).get? p = some { cls := .type "list", data := .seq its'.toArray n' } := by
    rw [Heap.get?_update_self f ho (by rw [hf] <;> rfl), hf]
  refine I.write (x := p) (e := p) (by rw [h]; trivial) (.inl rfl) (fun b u hb q => (Heap.get?_update_other _ _ (Ne.symm hb)).trans q) ⟨_, e⟩ ?_
  exact ⟨hz, its', n', r, e⟩
def rSetL : V → V → V → Hp → (Hp → Prop) → Prop := fun o i v H Q => ∃ p xs k j, o = .ref p ∧ i = .int k ∧ H p = some (.lst xs) ∧ ixN xs.length k = some j ∧ Q (upd H p (.lst (xs.set j v)))
theorem set_list : PSet X rSetL := by
  intro pins s σ H o i v ov iv u Q I ro ri rv h
  obtain ⟨p, xs, k, j, rfl, rfl, hp, hj, q⟩ := h
  cases ro
  obtain ⟨t, rfl⟩ := ri
  obtain ⟨its, n, r, ho, hz⟩ := I.lst hp
  obtain ⟨h1, h2, h3, h4⟩ := ixN_seq hj
  have hl := r.length
  have hn := line63
  have I' : Inv X pins σ (upd H p (.lst (xs.set j v))) { s with heap := s.heap.update p (Obj.mapSeq (·.setIfInBounds j u)) } :=
    I.lstUpd hp ho (mapSeq_set its n j u) (r.set rv j) (by rw [List.length_set]; exact hz) s.toks
  by_cases h0 : 0 ≤ k
  · have hk : k.toNat = j := by
      rw [seqIndex_of h0 h4] at h1
      exact Option.some.inj h1
    exact PySem.W.ki_setAt ho h0 (by omega) (by rw [List.size_toArray, ← hl]; exact h4) (by rw [hk]; exact ⟨_, I', q⟩)
  · have hk : (k + (its.toArray.size : Int)).toNat = j := by
      rw [seqIndex_neg (by omega) h3] at h1
      rw [List.size_toArray, ← hl]
      exact Option.some.inj h1
    exact PySem.W.ki_setBack ho (by omega) (by rw [List.size_toArray, ← hl]; exact h3) (by omega) (by rw [hk]; exact ⟨_, I', q⟩)
theorem slice_bounds (lo hi : Option Int) (n : Nat) : (sliceBounds lo hi none n).1 = ((HT.sIx n 0 lo : Nat) : Int) ∧ (sliceBounds lo hi none n).2.1 = ((HT.sIx n n hi : Nat) : Int) ∧ (sliceBounds lo hi none n).2.2 = 1 := by
  refine ⟨?_, ?_, rfl⟩
  · cases lo with
    | none => simp [sliceBounds, HT.sIx]
    | some i =>
      simp only [sliceBounds, HT.sIx, Option.getD_none, show (1 : Int) > 0 by decide, if_true]
      by_cases h : i < 0
      · simp only [h, if_true] <;> omega
      · simp only [h, if_false] <;> omega
  · cases hi with
    | none => simp [sliceBounds, HT.sIx]
    | some i =>
      simp only [sliceBounds, HT.sIx, Option.getD_none, show (1 : Int) > 0 by decide, if_true]
      by_cases h : i < 0
      · simp only [h, if_true] <;> omega
      · simp only [h, if_false] <;> omega
theorem slicePick_cut (its : List Value) (lo hi : Option Int) : slicePick its.toArray lo hi none = ((its.drop (HT.sIx its.length 0 lo)).take (HT.sIx its.length its.length hi - HT.sIx its.length 0 lo)).toArray := by
  obtain ⟨h1, h2, h3⟩ := slice_bounds lo hi its.toArray.size
  unfold slicePick
  rw [h1, h2, h3]
  simp only [sliceRange_one, pick_run, List.size_toArray] <;> rfl
def rSlL (K : PySem.W.Frag) : V → Option Int → Option Int → Hp → VK → Prop := fun x lo hi H Q => ∃ a xs, x = .ref a ∧ SqL K H a xs ∧ ∀ p, H p = none → Q (.ref p) (upd H p (.lst (cutV xs lo hi)))
theorem sl_list : SlR X (rSlL X.K) := by
  intro pins s σ H x v vl vu lo hi sl Q I rx hs pl pu h
  obtain ⟨a, xs, rfl, hx, q⟩ := h
  cases rx
  obtain ⟨its, r, ht, hz⟩ := I.list hx
  have hlen := r.length
  refine ⟨"list", _, slot_list_getitem.lookup, ht.isList.typeIs, ?_⟩
  refine wpAny_getItem_list_slice ht.isList hs pl pu .none (by simp) ?_ (by rw [List.size_toArray] <;> omega)
  rw [slicePick_cut, ← hlen]
  refine ⟨.ref s.heap.objs.size, _, I.laid (t' := s.toks) (o := .lst (cutV xs lo hi)) (fun b ob q => Heap.get?_push_of_some _ q) (Nat.le_refl _) ?_, rfl, q _ (I.hok.fresh (Nat.le_refl _))⟩
  exact ⟨Nat.le_trans (cutV_length xs lo hi) hz, _, 0, (r.drop (HT.sIx xs.length 0 lo)).take (HT.sIx xs.length xs.length hi - HT.sIx xs.length 0 lo), Heap.get?_push_size _ rfl⟩
def flatV : V → Bool
  | .non => true
  | .bl _ => true
  | .int _ => true
  | .str _ => true
  | _ => false
def eqV : V → V → Bool
  | .non, .non => true
  | .bl a, .bl b => a == b
  | .bl a, .int b => (if a then 1 else 0) == b
  | .int a, .bl b => a == (if b then 1 else 0)
  | .int a, .int b => a == b
  | .str a, .str b => a == b
  | _, _ => false
theorem eqAt_V {A : Around} {s : Shared} {y x : V} {u v : Value} (ry : RelV y u) (rx : RelV x v) (fy : flatV y = true) (fx : flatV x = true) : SeqAt.EqAt A s u v (eqV y x) := by
  cases y with
  | non =>
    cases ry
    cases x with
    | non => cases rx; exact SeqAt.EqAt.same _
    | bl b => cases rx; exact SeqAt.EqAt.none_bool b
    | int b => obtain ⟨t, rfl⟩ := rx; exact SeqAt.EqAt.none_int b t
    | str b => obtain ⟨t, rfl⟩ := rx; exact SeqAt.EqAt.none_str b t
    | _ => exact absurd (show false = true from fx) Bool.false_ne_true
  | bl a =>
    cases ry
    cases x with
    | non => cases rx; exact SeqAt.EqAt.bool_none a
    | bl b => cases rx; exact SeqAt.EqAt.bool_bool a b
    | int b => obtain ⟨t, rfl⟩ := rx; exact SeqAt.EqAt.bool_int a b t
    | str b => obtain ⟨t, rfl⟩ := rx; exact SeqAt.EqAt.bool_str a b t
    | _ => exact absurd (show false = true from fx) Bool.false_ne_true
  | int a =>
    obtain ⟨t', rfl⟩ := ry
    cases x with
    | non => cases rx; exact SeqAt.EqAt.int_none a t'
    | bl b => cases rx; exact SeqAt.EqAt.int_bool a t' b
    | int b => obtain ⟨t, rfl⟩ := rx; exact SeqAt.EqAt.int_int a t' b t
    | str b => obtain ⟨t, rfl⟩ := rx; exact SeqAt.EqAt.int_str a t' b t
    | _ => exact absurd (show false = true from fx) Bool.false_ne_true
  | str a =>
    obtain ⟨t', rfl⟩ := ry
    cases x with
    | non => cases rx; exact SeqAt.EqAt.str_none a t'
    | bl b => cases rx; exact SeqAt.EqAt.str_bool a t' b
    | int b => obtain ⟨t, rfl⟩ := rx; exact SeqAt.EqAt.str_int a t' b t
    | str b => obtain ⟨t, rfl⟩ := rx; exact SeqAt.EqAt.str_str a t' b t
    | _ => exact absurd (show false = true from fx) Bool.false_ne_true
  | _ => exact absurd (show false = true from fy) Bool.false_ne_true
def eqU (x : V) (u : Value) : Bool := match u with
  | .none => eqV .non x
  | .bool b => eqV (.bl b) x
  | .int i _ => eqV (.int i) x
  | .str z _ => eqV (.str z) x
  | _ => false
theorem eqU_of {x y : V} {u : Value} (r : RelV y u) (f : flatV y = true) : eqU x u = eqV y x := by
  cases y with
  | non => cases r; rfl
  | bl b => cases r; rfl
  | int i => obtain ⟨t, rfl⟩ := r; rfl
  | str z => obtain ⟨t, rfl⟩ := r; rfl
  | _ => exact absurd (show false = true from f) Bool.false_ne_true
theorem any_eqU {x : V} : ∀ {xs : List V} {us : List Value}, Vals xs us → xs.all flatV = true → us.any (eqU x) = xs.any fun y => eqV y x
  | _, _, .nil, _ => rfl
  | y :: xs, u :: us, .cons r t, f => by
    rw [List.all_cons, Bool.and_eq_true] at f
    rw [List.any_cons, List.any_cons, eqU_of r f.1, any_eqU t f.2]
theorem mem_eqAt {A : Around} {s : Shared} {x : V} {v : Value} (rx : RelV x v) (fx : flatV x = true) : ∀ {xs : List V} {us : List Value}, Vals xs us → xs.all flatV = true → ∀ u ∈ us, SeqAt.EqAt A s u v (eqU x u)
  | _, _, .nil, _ => fun u hu => by cases hu
  | y :: xs, u :: us, .cons r t, f => fun u' hu => by
    rw [List.all_cons, Bool.and_eq_true] at f
    rcases List.mem_cons.mp hu with rfl | hu
    · rw [eqU_of r f.1]; exact eqAt_V r rx f.1 fx
    · exact mem_eqAt rx fx t f.2 u' hu
def inV (x : V) (xs : List V) : Bool := xs.any fun y => eqV y x
def rIn (K : PySem.W.Frag) (neg : Bool) : R2 := fun x y H Q => ∃ p xs, y = .ref p ∧ (SqL K H p xs ∨ SqT K H p xs) ∧ flatV x = true ∧ xs.all flatV = true ∧ Q (.bl (if neg then !inV x xs else inV x xs)) H
theorem op_in_seq : OpR X (compareOp .In) (rIn X.K false) := by
  intro pins s σ H x y v u Q I rx ry h
  obtain ⟨p, xs, rfl, hq, fx, fs, q⟩ := h
  cases ry
  rcases hq with hq | hq
  · obtain ⟨its, r, pl, hz⟩ := I.list hq
    refine SeqAt.in_listAt (eqU x) pl.isList (fun w hw => mem_eqAt rx fx r fs w (by simpa using hw)) ⟨.bl _, H, I, rfl, ?_⟩
    rw [show its.toArray.any (eqU x) = its.any (eqU x) by simp, any_eqU r fs]
    exact q
  · obtain ⟨its, r, pl, hz⟩ := I.tuple hq
    refine SeqAt.in_tupleAt (eqU x) pl (fun w hw => mem_eqAt rx fx r fs w (by simpa using hw)) ⟨.bl _, H, I, rfl, ?_⟩
    rw [show its.toArray.any (eqU x) = its.any (eqU x) by simp, any_eqU r fs]
    exact q
theorem op_notIn_seq : OpR X (compareOp .NotIn) (rIn X.K true) := by
  intro pins s σ H x y v u Q I rx ry h
  obtain ⟨p, xs, rfl, hq, fx, fs, q⟩ := h
  cases ry
  rcases hq with hq | hq
  · obtain ⟨its, r, pl, hz⟩ := I.list hq
    refine SeqAt.notIn_listAt (eqU x) pl.isList (fun w hw => mem_eqAt rx fx r fs w (by simpa using hw)) ⟨.bl _, H, I, rfl, ?_⟩
    rw [show its.toArray.any (eqU x) = its.any (eqU x) by simp, any_eqU r fs]
    exact q
  · obtain ⟨its, r, pl, hz⟩ := I.tuple hq
    refine SeqAt.notIn_tupleAt (eqU x) pl (fun w hw => mem_eqAt rx fx r fs w (by simpa using hw)) ⟨.bl _, H, I, rfl, ?_⟩
    rw [show its.toArray.any (eqU x) = its.any (eqU x) by simp, any_eqU r fs]
    exact q
theorem op_notIn_str : OpR X (compareOp .NotIn) (fun x y H Q => ∃ i j, x = .str i ∧ y = .str j ∧ Q (.bl (!(!(Builtin.Str.occurrences j i 0 j.length 1).isEmpty))) H) := by
  intro pins s σ H x y v u Q I rx ry h
  obtain ⟨i, j, rfl, rfl, q⟩ := h
  obtain ⟨t, rfl⟩ := rx
  obtain ⟨t', rfl⟩ := ry
  exact notIn_str ⟨.bl _, H, I, rfl, q⟩
theorem call_tuple_of : CallR X (.type "tuple") (fun xs H Q => ∃ p ys, xs = [.ref p] ∧ ((SqL X.K H p ys ∧ ∀ l, H l = none → Q (.ref l) (upd H l (.tup ys))) ∨ (SqT X.K H p ys ∧ Q (.ref p) H))) := by
  intro pins s σ H xs us Q I r h
  obtain ⟨p, ys, rfl, h⟩ := h
  obtain ⟨u, rfl, rx⟩ := vals1 r
  cases rx
  rcases h with ⟨hq, q⟩ | ⟨hq, q⟩
  · obtain ⟨its, r', pl, hz⟩ := I.list hq
    have hlen := r'.length
    refine call_tuple_list pl.isList (fun h' kp => ?_) (by simp only [List.size_toArray] <;> omega)
    have I1 : Inv X pins σ H { s with heap := h' } := I.kept (t' := s.toks) kp
    have I2 : Inv X pins σ (upd H h'.objs.size (.tup ys)) { s with heap := h'.push { cls := .type "tuple", data := .seq its.toArray } } :=
      I1.laid (t' := s.toks) (fun b o e => Heap.get?_push_of_some _ e) (Nat.le_refl _) (show ObjOk X.prog X.w _ _ _ (.tup ys) from ⟨hz, its, r', IsTup.new _ _⟩)
    exact ⟨.ref h'.objs.size, _, I2, rfl, q _ (I1.hok.fresh (Nat.le_refl _))⟩
  · obtain ⟨its, r', pl, hz⟩ := I.tuple hq
    exact call_tuple_same pl ⟨.ref p, H, I, rfl, q⟩
def tyV (K : PySem.W.Frag) (T : String) (x : V) (H : Hp) : Prop := match x with
  | .str _ => T = "str"
  | .int _ => T = "int"
  | .ref p => (T = "list" ∧ ∃ xs, SqL K H p xs) ∨ (T = "tuple" ∧ ∃ o, K.lookup p = some o ∧ o.cls = .type "tuple" ∧ o.dict = none) ∨
      (T = "dict" ∧ ((∃ kvs, H p = some (.dK kvs)) ∨ ∃ kvs, H p = some (.dT kvs))) ∨ (T = "set" ∧ ∃ S n, H p = some (.set S n))
  | _ => False
theorem tyV_is {pins : List (Addr × Obj)} {σ : St} {H : Hp} {s : Shared} {T : String} {x : V} {v : Value} (I : Inv X pins σ H s) (r : RelV x v) (ty : tyV X.K T x H) :
    s.TypeIs v T ∧ ∀ a, v = .ref a → ∃ ob, s.heap.get? a = some ob ∧ ob.dict = none := by
  cases x with
  | str z =>
    obtain ⟨t, rfl⟩ := r
    cases (show T = "str" from ty)
    exact ⟨typeIs_str s z t, fun _ e => nomatch e⟩
  | int i =>
    obtain ⟨t, rfl⟩ := r
    cases (show T = "int" from ty)
    exact ⟨typeIs_int s i t, fun _ e => nomatch e⟩
  | ref p =>
    cases r
    rcases ty with ⟨rfl, xs, hq⟩ | ⟨rfl, o, hk, hc, hd⟩ | ⟨rfl, hk⟩ | ⟨rfl, S, n, hk⟩
    · obtain ⟨its, _, pl, _⟩ := I.list hq
      refine ⟨pl.isList.typeIs, fun a e => ?_⟩
      cases e
      obtain ⟨o, n, e, c, hd, _⟩ := pl
      exact ⟨o, e, hd⟩
    · refine ⟨⟨o, I.kIn p o hk, hc⟩, fun a e => ?_⟩
      cases e
      exact ⟨o, I.kIn _ o hk, hd⟩
    · have z : ∃ o, s.heap.get? p = some o ∧ o.ExactDict := by
        rcases hk with ⟨kvs, hk⟩ | ⟨kvs, hk⟩
        · obtain ⟨_, _, _, _, o, _, _, e, ex, _⟩ := I.hok p _ hk
          exact ⟨o, e, ex⟩
        · obtain ⟨_, _, _, _, o, _, _, e, ex, _⟩ := I.hok p _ hk
          exact ⟨o, e, ex⟩
      obtain ⟨o, e, ex⟩ := z
      refine ⟨⟨o, e, ex.1⟩, fun a e2 => ?_⟩
      cases e2
      exact ⟨o, e, ex.2.1⟩
    · obtain ⟨o, _, _, _, e, ex, _⟩ := I.hok p _ hk
      refine ⟨⟨o, e, ex.1⟩, fun a e2 => ?_⟩
      cases e2
      exact ⟨o, e, ex.2.1⟩
  | _ => exact False.elim ty
def tBM (K : PySem.W.Frag) (T : String) (r : V → List V → Hp → VK → Prop) (to : TE) (t : TA) : TE := fun σ H Q => to σ H fun x H1 => tyV K T x H1 ∧ t σ H1 fun xs H2 => r x xs H2 Q
variable {o e : Expr} {es : List Expr} {to : TE} {t : TA} {name : Str} {apos cpos : Pos} {T id : String} {r : V → List V → Hp → VK → Prop}
theorem pe_bm (pa : PlainAttrs T) (slot : Slot T name id) (hty : typeOf (.builtin id) = pure (.type "method_descriptor")) (hm : MtR X id r) (ho : PE X o to) (ha : PA X (e :: es) t)
    (hbase : attributeBase o name X.env (eval o X.env) = eval o X.env := by rfl)
    (hfew : ((backTo cpos (starEach (e :: es) X.env)).all (fun x => !x.1) && (backToKw cpos (keywordEach [] X.env)).all (fun x => x.1.isSome)
      && decide ((e :: es).length + ([] : List Keyword).length + (if ([] : List Keyword).isEmpty then 0 else 1) < 30)) = true := by rfl)
    (hline : (apos.endLine == cpos.line) = true := by rfl) (hs : starEach (e :: es) X.env = (false, eval e X.env) :: starEach es X.env := by rfl) (hplain : (backTo cpos (starEach es X.env)).any (·.1) = false := by rfl) :
    PE X (.Call (.Attribute o name apos) (e :: es) [] cpos) (tBM X.K T r to t) := by
  intro pins s σ H Q I h
  refine wpAny_Call_method_late hbase hfew hline rfl (thn (ho pins s σ H _ I h) fun v s1 ⟨x, H1, I1, r1, ty, q1⟩ => ?_)
  obtain ⟨h1, h2⟩ := tyV_is I1 r1 ty
  refine ⟨T, id, pa, slot, hty, h1, h2, ?_⟩
  have hA := ha cpos pins s1 σ H1 _ I1 q1
  rw [hs] at hA ⊢
  refine Calls.callWith_builtin (by show (false || (backTo cpos (starEach es X.env)).any (·.1)) = false; rw [hplain] <;> rfl) (Calls.evalArgs_plain ?_)
  exact thn hA fun us s2 ⟨vs, H2, I2, r2, q2⟩ => hm pins s2 σ H2 x vs v us Q I2 r1 r2 q2
end
end L2
namespace L2
open PySem PySem.Spec PyProof.Rows
def MtM (X : Cx) (id : String) (r : V → List V → Hp → VK → Prop) : Prop :=
  ∀ (pins : List (Addr × Obj)) (s : Shared) (σ : St) (H : Hp) (x : V) (xs : List V) (v : Value) (us : List Value) (Q : VK), Inv X pins σ H s → RelV x v → Vals xs us → r x xs H Q →
    wpAny (model X.prog X.w) X.A (call (.builtin id) (v :: us)) (EP X pins σ Q) X.xe s
theorem Vals.one : ∀ {x : V} {us : List Value}, Vals [x] us → ∃ u, us = [u] ∧ RelV x u
  | _, _, .cons r .nil => ⟨_, rfl, r⟩
theorem Vals.rep {xs : List V} {us : List Value} (h : Vals xs us) : ∀ k : Nat, Vals (List.replicate k xs).flatten (List.replicate k us).flatten
  | 0 => .nil
  | k + 1 => by
    rw [List.replicate_succ, List.replicate_succ, List.flatten_cons, List.flatten_cons]
    exact Vals.append h (Vals.rep h k)
theorem foldl_rep (its : List Value) : ∀ (k : Nat) (acc : List Value),
    List.foldl (fun x1 x2 => x1 ++ x2) acc.toArray (List.replicate k its.toArray) = (acc ++ (List.replicate k its).flatten).toArray
  | 0, acc => by simp
  | k + 1, acc => by
    have e : acc.toArray ++ its.toArray = (acc ++ its).toArray := by simp
    have e2 : (acc ++ its) ++ (List.replicate k its).flatten = acc ++ (List.replicate (k + 1) its).flatten := by
      rw [List.replicate_succ, List.flatten_cons, List.append_assoc]
    rw [← e2, ← foldl_rep its k (acc ++ its), ← e, List.replicate_succ, List.foldl_cons]
section
variable {X : Cx} {pins : List (Addr × Obj)} {σ : St} {H : Hp} {s : Shared} {l b : Addr} {xs ys zs : List V}
theorem Inv.lset {its its' : List Value} {n : Nat} {f : Array Value → Array Value} {t' : Nat} (I : Inv X pins σ H s) (hH : H l = some (.lst xs))
    (e : s.heap.get? l = some { cls := .type "list", data := .seq its.toArray n }) (hf : f its.toArray = its'.toArray) (hv : Vals ys its') (hz : ys.length ≤ sizeLine) :
    Inv X pins σ (upd H l (.lst ys)) { s with heap := s.heap.update l (Obj.mapSeq f), toks := t' } := by
  have q := PySem.IsL.update e f
  rw [hf] at q
  refine I.write (x := l) (e := l) (by rw [hH]; exact trivial) (.inl rfl) (fun b' u hb hu => (Heap.get?_update_other s.heap (Obj.mapSeq f) (Ne.symm hb)).trans hu) ⟨_, q⟩ ?_
  exact ⟨hz, its', _, hv, q⟩
theorem Inv.lnew {its : List Value} {t' : Nat} (I : Inv X pins σ H s) (hv : Vals ys its) (hz : ys.length ≤ sizeLine) :
    Inv X pins σ (upd H s.heap.objs.size (.lst ys)) { s with heap := s.heap.push { cls := .type "list", data := .seq its.toArray }, toks := t' } :=
  I.laid (fun _ _ q => Heap.get?_push_of_some _ q) (Nat.le_refl _) ⟨hz, its, 0, hv, Heap.get?_push_size _ rfl⟩
theorem Inv.fresh (I : Inv X pins σ H s) : H s.heap.objs.size = none := I.hok.fresh (Nat.le_refl _)
theorem Inv.lstM (I : Inv X pins σ H s) (hH : H l = some (.lst xs)) : xs.length ≤ sizeLine ∧ ∃ (its : List Value) (n : Nat), Vals xs its ∧ xs.length = its.length ∧ s.heap.get? l = some { cls := .type "list", data := .seq its.toArray n } := by
  obtain ⟨z, its, n, r, e⟩ := I.hok l _ hH
  exact ⟨z, its, n, r, r.length, e⟩
theorem notLongL {n : Nat} (h : n ≤ sizeLine) : Builtin.List.listTooLong n = false := by
  unfold Builtin.List.listTooLong
  exact decide_eq_false (by omega)
end
section
variable {X : Cx}
def rAppend : V → List V → Hp → VK → Prop := fun x vs H Q => ∃ l xs y, x = .ref l ∧ vs = [y] ∧ H l = some (.lst xs) ∧ xs.length < sizeLine ∧ Q .non (upd H l (.lst (xs ++ [y])))
theorem mt_append : MtM X "list.append" rAppend := by
  intro pins s σ H x vs v us Q I rx rv h
  obtain ⟨l, xs, y, rfl, rfl, hH, hz, q⟩ := h
  cases rx
  obtain ⟨u, rfl, ru⟩ := rv.one
  obtain ⟨z, its, n, r, hl, e⟩ := I.lstM hH
  refine call_meets F.slot_list_append ⟨_, e, rfl⟩ F.entry_list_append (F.args_list_append_2 _ _) (PySem.list_append l its.toArray n u (by rw [List.size_toArray]; omega)) ⟨e, ?_⟩
  refine ⟨.non, _, I.lset (its' := its ++ [u]) hH e (by simp) (r.append (.cons ru .nil)) ?_, rfl, q⟩
  rw [List.length_append, List.length_singleton]
  omega
def rExtend : V → List V → Hp → VK → Prop := fun x vs H Q => ∃ l b xs zs, x = .ref l ∧ vs = [.ref b] ∧ H l = some (.lst xs) ∧ H b = some (.lst zs) ∧ xs.length + zs.length ≤ sizeLine ∧ Q .non (upd H l (.lst (xs ++ zs)))
theorem mt_extend : MtM X "list.extend" rExtend := by
  intro pins s σ H x vs v us Q I rx rv h
  obtain ⟨l, b, xs, zs, rfl, rfl, hH, hB, hz, q⟩ := h
  cases rx
  obtain ⟨u, rfl, ru⟩ := rv.one
  cases ru
  obtain ⟨z, its, n, r, hl, e⟩ := I.lstM hH
  obtain ⟨z2, its2, n2, r2, hl2, e2⟩ := I.lstM hB
  have hsz : its.toArray.size + its2.toArray.size ≤ sizeLine := by rw [List.size_toArray, List.size_toArray]; omega
  have hlong : ¬ (!its.toArray.isEmpty && Builtin.List.listTooLong (its.toArray.size + its2.toArray.size)) = true := by
    rw [notLongL hsz, Bool.and_false]
    exact Bool.false_ne_true
  refine call_meets F.slot_list_extend ⟨_, e, rfl⟩ F.entry_list_extend (F.args_list_extend_2 _ _)
    (AutoSeq1.list_extend_list_list_0 l its.toArray n b its2.toArray n2 hlong (by rw [List.size_toArray]; omega) (by omega)) ⟨e, e2, ?_⟩
  refine ⟨.non, _, I.lset (its' := its ++ its2) hH e (by simp) (r.append r2) ?_, rfl, q⟩
  rw [List.length_append]
  omega
def rCat : R2 := fun x y H Q => ∃ l b xs zs, x = .ref l ∧ y = .ref b ∧ H l = some (.lst xs) ∧ H b = some (.lst zs) ∧ xs.length + zs.length ≤ sizeLine ∧ ∀ p, H p = none → Q (.ref p) (upd H p (.lst (xs ++ zs)))
theorem op_cat : OpR X (binaryOp .Add) rCat := by
  intro pins s σ H x y v u Q I rx ry h
  obtain ⟨l, b, xs, zs, rfl, rfl, hH, hB, hz, q⟩ := h
  cases rx
  cases ry
  obtain ⟨z, its, n, r, hl, e⟩ := I.lstM hH
  obtain ⟨z2, its2, n2, r2, hl2, e2⟩ := I.lstM hB
  refine PySem.P.add_list e e2 ?_ (by rw [List.size_toArray, List.size_toArray]; omega)
  have ea : its.toArray ++ its2.toArray = (its ++ its2).toArray := by simp
  rw [ea]
  exact ⟨.ref _, _, I.lnew (t' := s.toks) (r.append r2) (by rw [List.length_append]; omega), rfl, q _ I.fresh⟩
def rRep : R2 := fun x y H Q => ∃ l k xs, x = .ref l ∧ y = .int k ∧ H l = some (.lst xs) ∧ -(2 ^ 63) ≤ k ∧ k < 2 ^ 63 ∧ xs.length * k.toNat ≤ sizeLine ∧
  ∀ p, H p = none → Q (.ref p) (upd H p (.lst (List.replicate k.toNat xs).flatten))
theorem len_rep {α : Type} (xs : List α) (k : Nat) : (List.replicate k xs).flatten.length = k * xs.length := by
  induction k with
  | zero => simp
  | succ k ih => rw [List.replicate_succ, List.flatten_cons, List.length_append, ih, Nat.succ_mul, Nat.add_comm]
theorem op_rep : OpR X (binaryOp .Mult) rRep := by
  intro pins s σ H x y v u Q I rx ry h
  obtain ⟨l, k, xs, rfl, rfl, hH, h1, h2, hz, q⟩ := h
  cases rx
  obtain ⟨t, rfl⟩ := ry
  obtain ⟨z, its, n, r, hl, e⟩ := I.lstM hH
  have hlen : its.toArray.size * k.toNat ≤ sizeLine := by rw [List.size_toArray, ← hl]; exact hz
  have hcap : ¬ its.toArray.size * k.toNat > (2 ^ 63 - 1) / 8 := by
    have : (sizeLine : Nat) ≤ (2 ^ 63 - 1) / 8 := by decide
    omega
  have hfit : ¬ (!Builtin.List.listFitsIndex k) = true := by
    rw [fitsIndex_both h1 h2]
    exact Bool.false_ne_true
  have hlong : ¬ Builtin.List.listTooLong (its.toArray.size * k.toNat) = true := by
    rw [notLongL hlen]
    exact Bool.false_ne_true
  have hnew : List.foldl (fun x1 x2 => x1 ++ x2) #[] (List.replicate (if its.toArray.isEmpty = true then 0 else k.toNat) its.toArray) = (List.replicate k.toNat its).flatten.toArray := by
    have f0 : ∀ m : Nat, List.foldl (fun x1 x2 => x1 ++ x2) #[] (List.replicate m its.toArray) = (List.replicate m its).flatten.toArray := fun m => by
      have := foldl_rep its m []
      rw [List.nil_append] at this
      exact this
    rw [f0]
    cases its with
    | nil => simp
    | cons a r' => rw [if_neg (by simp)]
  refine wpAny_binaryOp_repeat_ref (T := "list") (U := "int") (by decide) ⟨_, e, rfl⟩ (fun s' => typeIs_int s' k t) noFill_list_mul F.fills_int_mul F.slot_int_rmul repeat_list F.slot_int_index.lookup
    (call_meets F.slot_int_rmul (typeIs_int s k t) F.entry_int_rmul (F.args_int_rmul_2 _ _) (int___rmul___int_list k t l its.toArray n)
      ⟨e, rfl, ⟨_, e, rfl⟩, call_meets F.slot_list_mul ⟨_, e, rfl⟩ F.entry_list_mul (F.args_list_mul_2 _ _) (AutoListH.list___mul___list_int_3 l its.toArray n k t hfit hcap hlong) ⟨e, ?_⟩⟩)
  rw [hnew]
  exact ⟨.ref _, _, I.lnew (t' := s.toks) (r.rep k.toNat) (by rw [len_rep, Nat.mul_comm]; exact hz), rfl, q _ I.fresh⟩
end
section
variable {prog : Program} {w : World} {A : Around} {E : Value → Shared → Prop} {s : Shared}
end
section
variable {X : Cx}
end
end L2
namespace Att
open PySem PySem.W PySem.Calls PyProof.Rows
theorem ints_of_wellAll {P : Params} {h : Heap} : ∀ (ns : List Int) (vs : List Value), WellAll P h vs (ns.map WData.int) → IntsAre vs ns := by
  intro ns
  induction ns with
  | nil =>
    intro vs w
    rw [List.map_nil] at w
    cases w
    exact .nil
  | cons n ns ih =>
    intro vs w
    rw [List.map_cons] at w
    cases w with
    | cons a b =>
      cases a
      exact .cons _ _ (ih _ b)
theorem script_of {l : OpenLaw} {n : Nat} (hn : l.most = some n) {P : Params} {h : Heap} {args : List WData} {vals : List Value}
    (hpre : l.row.toRowW.claim.pre args = true) (hwl : WellAll P h vals args) :
    ∃ a vs ns, vals = [Value.ref a] ∧ args = [WData.list (ns.map WData.int)] ∧ h.get? a = some { cls := .type "list", data := .seq vs.toArray } ∧ IntsAre vs ns ∧ ns.length ≤ n := by
  have hsh : WShape.hasAll [] args [.list .int] = true := (pre_splitW hpre).1
  have hc : l.pre.holds [] { args := args } = true := (pre_splitW hpre).2
  obtain ⟨d, r, rfl, h1, h2⟩ := hasAllW_cons hsh
  obtain rfl := hasAllW_nil h2
  obtain ⟨xs, rfl, h3⟩ := hasW_list h1
  obtain ⟨ns, rfl⟩ := items_int h3
  have hlen : ns.length ≤ n := by
    unfold OpenLaw.pre at hc
    have h4 : (WTm.not (.lt (.lit (.int (n : Int))) (.len (.arg 0)))).holds [] { args := [.list (ns.map .int)] } = true := by
      have h4 := (holds_andW hc).1
      rw [hn] at h4
      exact h4
    have h5 := condW_of h4 (w_not (w_lt w_lit (w_len_list (w_arg rfl))))
    rw [List.length_map] at h5
    refine Nat.le_of_not_lt fun q => ?_
    have q' : (n : Int) < ((ns.length : Nat) : Int) := by omega
    first
      | (rw [decide_eq_true q'] at h5; exact absurd h5 (by decide))
      | (simp at h5; omega)
  cases hwl with
  | cons w1 w2 =>
    cases w2
    cases w1 with
    | list ho hall => exact ⟨_, _, ns, rfl, rfl, ho, ints_of_wellAll ns _ hall, hlen⟩
theorem post_true (l : OpenLaw) (args : List WData) : l.row.toRowW.claim.post args (.bool true) args = true :=
  postW_of (r := l.row.toRowW) (X := (true == true))
    (show WShape.has [] (.bool true) .bool = true by first | rfl | decide | simp [WShape.has, WShape.arms, WShape.armsAll])
    (show (WTm.eq .res (.lit (.bool true))).value [] { args := args, res := some (.bool true), after := args } = some (.bool (true == true)) from w_eq_bool (w_res rfl) w_lit) rfl
theorem attach_call {l : OpenLaw} {n : Nat} {q : Program} {loose : List Str} {XP : (Str → Option Value) → Heap → Prop} {YP : World → Heap → Prop} {d : DefRec}
    (hn : l.most = some n) (hdf : d.params.defaults = [])
    (call : ∀ (w : World) (s₀ s₁ : Shared) (mg mb : Str → Option Value) (fa : Addr) (o : Obj) (pm cd doc : Value) (a : Addr) (vs : List Value) (ns : List Int),
      Ground q loose [] XP w s₀ mg mb s₁.heap → YP w s₁.heap →
      s₁.heap.get? fa = some o → o.data = .func (docDef d.name d.params d.body d.scope pm cd doc) → s₁.heap.CodeRec cd d.name → mg d.name = some (.ref fa) →
      s₁.heap.get? a = some { cls := .type "list", data := .seq vs.toArray } → IntsAre vs ns → ns.length ≤ n → s₁.gens = #[] →
      codeAny (model l.prog w) callerA (.call (.ref fa) ⟨[.ref a], []⟩) (fun r s' => r = .ok (.ret (.bool true)) ∧ OldK s₁.heap s'.heap ∧ s'.os = s₁.os ∧ AllBare s'.gens) s₁) :
    WalkO q loose XP YP l.row.toRowW d [] (fun f vs => PySem.call f vs) := by
  intro w s₀ s₁ mg mb G Y fa o pm cd doc dV kV ho hd hcd hD hmg hg args vals as hpre hlay hrd hwl hlo
  obtain rfl : dV = .none := Dflts.none hD hdf
  obtain rfl : kV = .none := Dflts.noKw hD
  obtain ⟨a, vs, ns, rfl, rfl, hobj, hints, hlen⟩ := script_of hn hpre hwl
  refine enter_call (codeAny_mono (call w s₀ s₁ mg mb fa o pm cd doc a vs ns G Y ho (fd_plain hd) hcd hmg hobj hints hlen hg) fun r s' hq => ?_)
  obtain ⟨rfl, h2, h3, h4⟩ := hq
  exact ⟨.inl ⟨.bool true, .bool true, [], rfl, fun _ => rfl, .bool true, post_true l _, fun _ => ⟨List.Pairwise.nil, fun _ hm => (nomatch hm)⟩⟩, h2, h3, h4⟩
section
variable {prog : Program} {w : World} {A : Around} {E : Value → Shared → Prop} {s : Shared} {K : Frag}
end
end Att
namespace L2
open PySem PySem.Spec PyProof.Rows
theorem vals_ints : ∀ {vs : List Value} {ns : List Int}, IntsAre vs ns → Vals (ns.map V.int) vs
  | _, _, .nil => .nil
  | _, _, .cons n t h => .cons ⟨t, rfl⟩ (vals_ints h)
def Only (H : Hp) : Prop := ∀ b, H b = none ∨ ∃ o xs, H b = some (.frz o (.lst xs))
theorem law_call {P : Program} {w : World} {K : PySem.W.Frag} {mg mb : Str → Option Value} {CX : CXT} {k : Nat} {fa a : Addr} {fd : FuncData} {x : Str} {sp : Sp} {s₁ : Shared} {vs : List Value} {ns : List Int}
    (KX : K.In s₁.heap) (hns : s₁.heap.Ns mainGlobals mg) (hb : s₁.heap.Ns builtinsNs mb) (hbb : ∀ x : Str, x ≠ "__name__" → mb x = bootBuiltins x) (hlim : s₁.heap.NoLimit) (hg : s₁.gens = #[])
    (ha : s₁.heap.get? a = some { cls := .type "list", data := .seq vs.toArray }) (hi : IntsAre vs ns) (hl : ns.length ≤ sizeLine) (hr : Room k callerA)
    (F : ∀ base : Heap, K.In base → base.Ns mainGlobals mg → FnOk P w K mg base CX k fa fd [x] sp) (hbind : ∀ (s : Shared) (u : Value), BindsTo s fd ⟨[u], []⟩ [(x, u)])
    (hsp : ∀ H : Hp, Only H → SqL K H a (ns.map V.int) → sp [.ref a] H (fun v _ => v = .bl true) fun _ _ _ => False)
    (hCX : ∀ H e s', CX [] H s₁ (fun _ _ _ => False) e s' → False) :
    codeAny (model P w) callerA (.call (.ref fa) ⟨[.ref a], []⟩) (fun r s' => r = .ok (.ret (.bool true)) ∧ OldK s₁.heap s'.heap ∧ s'.os = s₁.os ∧ AllBare s'.gens) s₁ := by
  have rv := vals_ints hi
  have lenV := hi.length
  have core : ∀ H : Hp, Only H → SqL K H a (ns.map V.int) → HOk P w H s₁.heap → (∀ b, H b ≠ none → b = a) → (H a ≠ none → K.lookup a = none) →
      codeAny (model P w) callerA (.call (.ref fa) ⟨[.ref a], []⟩) (fun r s' => r = .ok (.ret (.bool true)) ∧ OldK s₁.heap s'.heap ∧ s'.os = s₁.os ∧ AllBare s'.gens) s₁ := by
    intro H hO hS hok hA hK
    have base_of : ∀ {b : Addr} {o : Obj}, s₁.heap.get? b = some o → H b = none → (hidT s₁.heap H).get? b = some o := fun e n => hidT_get e n
    have noA : ∀ {b : Addr} {o : Obj} {es : Array DictEntry} {ep : Nat}, s₁.heap.get? b = some o → o.data = .dict es ep → H b = none := fun {b o es ep} e d => by
      cases q : H b with
      | none => rfl
      | some u =>
        have e' : b = a := hA b (by rw [q]; simp)
        subst e'
        rw [ha] at e; cases e
        have d' : Data.seq vs.toArray _ = Data.dict es ep := d
        cases d'
    have nsK : ∀ {b : Addr} {m : Str → Option Value}, s₁.heap.Ns b m → (hidT s₁.heap H).Ns b m := fun {b m} ⟨o, es, ep, e, d, r⟩ => ⟨o, es, ep, base_of e (noA e d), d, r⟩
    have hKb : K.In (hidT s₁.heap H) := fun b o e => base_of (KX b o e) (by
      cases q : H b with
      | none => rfl
      | some u =>
        have e' : b = a := hA b (by rw [q]; simp)
        subst e'
        rw [hK (by rw [q]; simp)] at e; cases e)
    have hM : Mod K mg (hidT s₁.heap H) := ⟨hKb, nsK hns, ⟨mb, nsK hb, hbb⟩, let ⟨mc, h1, h2⟩ := hlim; ⟨mc, nsK h1, h2⟩⟩
    have e0 : Env0 P w K mg (hidT s₁.heap H) callerA [] s₁ H := ⟨rfl, hM, fun b o e => of_hidT e, Nat.le_of_eq (hidT_size _ _), trivial, fun b hb => absurd (show b ∈ ([] : List Addr) from hb) (by simp), hok, .of_eq hg⟩
    refine codeAny_mono ((F _ hKb (nsK hns)).run callerA [] s₁ H ⟨[.ref a], []⟩ [.ref a] [.ref a] _ _ hr e0 (hbind s₁ (.ref a)) (.cons rfl .nil) (hsp H hO hS)) fun r s' h => ?_
    cases r with
    | error e => exact (hCX H e s' h).elim
    | ok fl =>
      cases fl with
      | next => exact False.elim h
      | brk => exact False.elim h
      | cont => exact False.elim h
      | ret u =>
        obtain ⟨v, H', os, bare, un, hok', r', q⟩ := h
        have q' : v = .bl true := q
        subst q'
        obtain rfl : u = Value.bool true := r'
        refine ⟨rfl, OldK.of_keep fun b o e => ?_, os, bare⟩
        cases q : H b with
        | none => exact un.keep b o e q (by intro z; exact absurd (show b ∈ ([] : List Addr) from z) (by simp)) (by simp)
        | some u =>
          rcases hO b with z | ⟨ob, xs, z⟩
          · rw [q] at z; cases z
          · have z2 := un.frzs b ob _ z
            obtain ⟨e1, _⟩ := hok b _ z
            obtain ⟨e2, _⟩ := hok' b _ z2
            rw [e] at e1; cases e1
            exact e2
  cases hk : K.lookup a with
  | some o =>
    have e := KX a o hk
    rw [ha] at e
    cases e
    refine core (fun _ => none) (fun _ => .inl rfl) (.inr ⟨_, vs.toArray, _, hk, rfl, rfl, rfl, by rw [List.size_toArray, lenV]; exact hl, by simpa using rv⟩) (fun b u z => by have z' : (none : Option HO) = some u := z; cases z') (fun b z => absurd rfl z) fun z => absurd rfl z
  | none =>
    refine core (fun b => if b = a then some (.frz { cls := .type "list", data := .seq vs.toArray } (.lst (ns.map V.int))) else none) (fun b => ?_) (.inl (.inr ⟨{ cls := .type "list", data := .seq vs.toArray }, if_pos rfl⟩)) (fun b u z => ?_) (fun b z => ?_) fun _ => hk
    · by_cases hb : b = a
      · exact .inr ⟨_, _, if_pos hb⟩
      · exact .inl (if_neg hb)
    · by_cases hb : b = a
      · have z' := (if_pos hb).symm.trans z
        cases z'
        subst hb
        exact ⟨ha, by rw [List.length_map]; exact hl, vs, _, rv, ha⟩
      · have z' := (if_neg hb).symm.trans z
        cases z'
    · by_cases hb : b = a
      · exact hb
      · exact absurd (if_neg hb) z
end L2
namespace L2
open PySem PySem.Spec PyProof.Rows
theorem walk_of {l : PySem.W.OpenLaw} {n k : Nat} {q : Program} {loose : List Str} {XP : (Str → Option Value) → Heap → Prop} {YP : World → Heap → Prop} {d : DefRec} {K : Params → PySem.W.Frag} {CX : World → CXT} {sp : World → Sp} {x : Str}
    (hn : l.most = some n) (hn2 : n ≤ sizeLine) (hdf : d.params.defaults = []) (hr : Room k callerA)
    (hY : ∀ (w : World) (h : Heap), YP w h → (K w.params).In h)
    (F : ∀ (w : World) (mg : Str → Option Value) (fa : Addr) (h : Heap), (K w.params).In h → h.Ns mainGlobals mg → mg d.name = some (.ref fa) →
      ∃ fd : FuncData, (∀ (s : Shared) (u : Value), BindsTo s fd ⟨[u], []⟩ [(x, u)]) ∧
        ∀ base : Heap, (K w.params).In base → base.Ns mainGlobals mg → FnOk l.prog w (K w.params) mg base (CX w) k fa fd [x] (sp w))
    (hsp : ∀ (w : World) (H : Hp) (a : Addr) (ns : List Int), ns.length ≤ n → Only H → SqL (K w.params) H a (ns.map V.int) → sp w [.ref a] H (fun v _ => v = .bl true) fun _ _ _ => False)
    (hCX : ∀ (w : World) (H : Hp) (s : Shared) (e : Value) (s' : Shared), CX w [] H s (fun _ _ _ => False) e s' → False) :
    PySem.W.WalkO q loose XP YP l.row.toRowW d [] (fun f vs => PySem.call f vs) := by
  refine Att.attach_call hn hdf fun w s₀ s₁ mg mb fa o pm cd doc a vs ns G Y ho hd hcd hmg hobj hints hlen hg => ?_
  have KX := hY w _ Y
  obtain ⟨fd, hb, hF⟩ := F w mg fa _ KX G.T.g hmg
  exact law_call KX G.T.g G.T.b G.T.builtins G.T.nolimit hg hobj hints (Nat.le_trans hlen hn2) hr hF hb (fun H hO hS => hsp w H a ns hlen hO hS) fun H e s' => hCX w H s₁ e s'
end L2
namespace L2
open PySem PySem.Spec PyProof.Rows
def defArgs (s : Stmt) : Arguments := match s with
  | .FunctionDef _ a _ _ _ _ _ _ _ _ => a
  | _ => { posonlyargs := [], args := [], vararg := none, kwonlyargs := [], kw_defaults := [], kwarg := none, defaults := [] }
def defBody (s : Stmt) : List Stmt := match s with
  | .FunctionDef _ _ b _ _ _ _ _ _ _ => b
  | _ => []
def defScope (s : Stmt) : Scope := match s with
  | .FunctionDef _ _ _ _ _ _ sc _ _ _ => sc
  | _ => { kind := .function, names := [], isGenerator := false, isCoroutine := false }
abbrev CX0 : CXT := fun _ _ _ _ _ _ => False
abbrev E0 : XK := fun _ _ _ => False
theorem pass0 {X : Cx} : Passes CX0 X E0 := fun _ _ _ _ _ _ _ h => h.elim
structure Fun (K : PySem.W.Frag) (x qual : Str) (st : Stmt) (f : Addr) (fd : FuncData) : Prop where
  ex : ∃ (oc : Value) (od : Option Addr) (kV doc pm : Value) (an : Option Addr) (cdv ct : Value) (osl : Array (Option Value)),
    fd = PySem.W.fnOf x qual (defArgs st) (defBody st) (defScope st) .none kV doc pm an cdv ct ∧ K.lookup f = some ⟨oc, od, .func fd, osl⟩ ∧ PySem.W.codeIn K cdv qual = true
  kp : PySem.W.keepIn K (.ref f) = true
section
variable {P : Program} {w : World} {K : PySem.W.Frag} {mg : Str → Option Value} {base : Heap}
theorem Fun.ok {x qual : Str} {st : Stmt} {f : Addr} {fd : FuncData} {N ps : List Str} {k : Nat} {sp : Sp} (F : Fun K x qual st f fd) (S : FnScope N ps (defScope st)) (len : ∀ vs H Q E, sp vs H Q E → vs.length = ps.length)
    (hbody : ∀ (cdv : Value) (A : Around) (outer : List Env) (s : Shared) (H : Hp) (vs : List V) (Q : VK) (E : XK), Room k (A.deeper (envOfC qual (defScope st) s.heap.objs.size f cdv)) → sp vs H Q E →
      ∃ t, PSs (cxOf CX0 P w K mg base N qual (defScope st) f cdv A outer s H E).nox (defBody st) t ∧ t { nx := fun _ H' => Q .non H', rt := Q } (start N vs) H) : FnOk P w K mg base CX0 (k + 1) f fd ps sp := by
  obtain ⟨oc, od, kV, doc, pm, an, cdv, ct, osl, rfl, lk, hcd⟩ := F.ex
  refine fn_of lk hcd S len fun A outer s H vs Q E hr hsp => ?_
  obtain ⟨t, h, q⟩ := hbody cdv A outer s H vs Q E hr hsp
  exact ⟨t, h.nox, q⟩
theorem Fun.binds {x qual : Str} {st : Stmt} {f : Addr} {fd : FuncData} {ps : List Str} (F : Fun K x qual st f fd)
    (h : ∀ (kV doc pm : Value) (an : Option Addr) (cdv ct : Value) (us : List Value), us.length = ps.length → bindArgs (PySem.W.fnOf x qual (defArgs st) (defBody st) (defScope st) .none kV doc pm an cdv ct) ⟨us, []⟩ = pure (ps.zip us)) : Binds K fd ps [] := by
  obtain ⟨oc, od, kV, doc, pm, an, cdv, ct, osl, rfl, lk, hcd⟩ := F.ex
  exact .all (h kV doc pm an cdv ct)
theorem fun_mk {x qual : Str} {st : Stmt} {f : Addr} {oc : Value} {od an : Option Addr} {osl : Array (Option Value)} {kV doc pm cdv ct : Value} (l : K.lookup f = some ⟨oc, od, .func (PySem.W.fnOf x qual (defArgs st) (defBody st) (defScope st) .none kV doc pm an cdv ct), osl⟩)
    (c : PySem.W.codeIn K cdv qual = true) (k : PySem.W.keepIn K (.ref f) = true) : Fun K x qual st f (PySem.W.fnOf x qual (defArgs st) (defBody st) (defScope st) .none kV doc pm an cdv ct) := ⟨⟨oc, od, kV, doc, pm, an, cdv, ct, osl, rfl, l, c⟩, k⟩
end
section
variable {X : Cx}
theorem pv (i : Nat) {x : Str} {pos : Pos} (hN : X.N[i]? = some x := by rfl) (hv : Vis X.env.scope x := by first | exact Or.inl rfl | exact Or.inr (Or.inl rfl) | exact Or.inr (Or.inr rfl)) (hd : (x == ("__debug__" : Str)) = false := by decide)
    (hcd : (x == ("__classdict__" : Str)) = false := by decide) : PE X (.Name x pos) (tVar i) := pe_var hN hv hd hcd
end
theorem iteF {A B : Prop} (h : B) : if false = true then A else B := by
  rw [if_neg Bool.false_ne_true]
  exact h
theorem iteT {A B : Prop} (h : A) : if true = true then A else B := by
  rw [if_pos rfl]
  exact h
theorem ite2 {c A B : Prop} [Decidable c] (h1 : c → A) (h2 : ¬ c → B) : if c then A else B := by
  by_cases h : c
  · rw [if_pos h]
    exact h1 h
  · rw [if_neg h]
    exact h2 h
def Same (H H' : Hp) : Prop := ∀ b o, H b = some o → H' b = some o
theorem Same.refl (H : Hp) : Same H H := fun _ _ h => h
theorem Same.trans {H H1 H2 : Hp} (a : Same H H1) (b : Same H1 H2) : Same H H2 := fun c o h => b c o (a c o h)
theorem Same.free {H H' : Hp} (e : Same H H') {l : Addr} (h : H' l = Option.none) : H l = Option.none := by
  cases q : H l with
  | none => rfl
  | some o =>
    rw [e l o q] at h
    cases h
theorem Same.seq {K : PySem.W.Frag} {H H' : Hp} {a : Addr} {xs : List V} (e : Same H H') (h : SqL K H a xs) : SqL K H' a xs := by
  rcases h with (h | ⟨o, h⟩) | h
  · exact .inl (.inl (e _ _ h))
  · exact .inl (.inr ⟨o, e _ _ h⟩)
  · exact .inr h
end L2
set_option Elab.async false
set_option linter.all false
set_option maxRecDepth 100000
set_option maxHeartbeats 4000000
namespace L2
open PySem PySem.Spec PyProof.Rows
theorem part_of {v : Value} {o : Option Int} (p : IsPart v o) : ∃ q : Option (Int × Tok), v = partValue q ∧ q.map (·.1) = o := by
  cases p with
  | none => exact ⟨none, rfl, rfl⟩
  | int i t => exact ⟨some (i, t), rfl, rfl⟩
def rSlS : V → Option Int → Option Int → Hp → VK → Prop := fun x lo hi H Q => ∃ z, x = .str z ∧ z.length ≤ sizeLine ∧ Q (.str (Txt.slice z lo hi)) H
theorem sl_str {X : Cx} : SlR X rSlS := by
  intro pins s σ H x v vl vu lo hi sl Q I rx hs pl pu h
  obtain ⟨z, rfl, hz, q⟩ := h
  obtain ⟨t, rfl⟩ := rx
  obtain ⟨ql, rfl, rfl⟩ := part_of pl
  obtain ⟨qu, rfl, rfl⟩ := part_of pu
  refine ⟨"str", _, F.slot_str_getitem.lookup, typeIs_str _ _ _, ?_⟩
  refine wpAny_getItem_str_slice (l := ql) (u := qu) (st := none) hs rfl ?_
  exact post_val_or_str ⟨Nat.le_trans (Txt.slice_le z _ _) hz, fun t' k => ⟨.str _, H, I.tok _, ⟨t', rfl⟩, q⟩⟩
def Its (x : Str) : It := ⟨fun i _ => i < x.cps.size, fun i H v H' => H' = H ∧ ∃ c, x.cps[i]? = some c ∧ v = .str ⟨#[c]⟩, fun i _ => x.cps.size ≤ i⟩
theorem turn_str {P : Program} {w : World} {K : PySem.W.Frag} {tg : Expr} (x : Str) (t : Tok) (it : Addr) (ty : String) (hty : ty = "str_ascii_iterator" ∨ ty = "str_iterator") :
    Turn P w K tg (Its x) [it] it (fun i h => h.IsStrIter it ty x t i) where
  mem := by simp
  obj := fun i h st b hb => by
    have e : b = it := by simpa using hb
    subst e
    obtain ⟨o, e, c, d⟩ := st
    exact ⟨o, e, fun v z => by rw [d] at z; cases z⟩
  keep := fun i h h' st k => by
    obtain ⟨o, e, r⟩ := st
    exact ⟨o, k it (by simp) o e, r⟩
  item := by
    intro X hP hw hK hc i pins s σ H E I hf st hg
    subst hP hw hK
    obtain ⟨f0, f1, f2, f3, f4, f5⟩ := hf it (by simp)
    have hg' : i < x.cps.size := hg
    have hx : x.cps[i]? = some x.cps[i] := by simp [hg']
    rcases hty with rfl | rfl
    · refine wpAny_pyNext_ascii_item st hx fun h' st' sb => ?_
      have I1 : Inv X pins σ H { s with heap := h', toks := s.toks + 1 } := I.turned (fun b o hb e => (sb.2 b hb).trans e) f0 f1 f3 f4 f5
      obtain ⟨o, e, c, d⟩ := id st'
      exact ⟨_, rfl, go_of (s := { s with heap := h', toks := s.toks + 1 }) e c d (by decide) ⟨.str ⟨#[x.cps[i]]⟩, H, I1, ⟨_, rfl⟩, ⟨rfl, _, hx, rfl⟩, st', fun b hb => (hf b hb).1⟩⟩
    · refine wpAny_pyNext_wide_item st hx fun h' st' sb => ?_
      have I1 : Inv X pins σ H { s with heap := h', toks := s.toks + 1 } := I.turned (fun b o hb e => (sb.2 b hb).trans e) f0 f1 f3 f4 f5
      obtain ⟨o, e, c, d⟩ := id st'
      exact ⟨_, rfl, go_of (s := { s with heap := h', toks := s.toks + 1 }) e c d (by decide) ⟨.str ⟨#[x.cps[i]]⟩, H, I1, ⟨_, rfl⟩, ⟨rfl, _, hx, rfl⟩, st', fun b hb => (hf b hb).1⟩⟩
  done := by
    intro X hP hw hK hc i pins s σ H E I hf st hg
    subst hP hw hK
    obtain ⟨f0, f1, f2, f3, f4, f5⟩ := hf it (by simp)
    have hx : x.cps[i]? = none := by
      have : x.cps.size ≤ i := hg
      simp [this]
    rcases hty with rfl | rfl
    · exact wpAny_pyNext_ascii_end (I.ok.hd hc) st hx fun h' eb => ⟨rfl, I.turned (t' := s.toks) (fun b o hb e => eb b o hb e) f0 f1 f3 f4 f5⟩
    · exact wpAny_pyNext_wide_end (I.ok.hd hc) st hx fun h' eb => ⟨rfl, I.turned (t' := s.toks) (fun b o hb e => eb b o hb e) f0 f1 f3 f4 f5⟩
  self := fun _ _ _ _ _ st h => by
    rcases hty with rfl | rfl
    · exact wpAny_pyIter_striter_ascii st h
    · exact wpAny_pyIter_striter_wide st h
theorem pi_str_at {X : Cx} {tg : Expr} {pins : List (Addr × Obj)} {σ : St} {H1 : Hp} {s1 : Shared} {R : It → Hp → Prop} {z : Str} {v : Value} {E : Value → Shared → Prop} (I1 : Inv X pins σ H1 s1) (r1 : RelV (.str z) v) (q : R (Its z) H1) :
    wpAny (model X.prog X.w) X.A (pyIter v) (PIE X pins σ tg R) E s1 := by
  obtain ⟨t, rfl⟩ := r1
  have fp : ∀ (b : Addr), b ∈ [s1.heap.objs.size] → FpOk X pins H1 b := fun b hb => by
    have e : b = s1.heap.objs.size := by simpa using hb
    subst e
    exact I1.fpOk (Nat.le_refl _) (I1.hok.fresh (Nat.le_refl _))
  cases ha : z.cps.all (· < 128)
  · refine wpAny_pyIter_wide ha ?_
    exact ⟨s1.heap.objs.size, [s1.heap.objs.size], _, _, H1, rfl, I1.kept (t' := s1.toks) fun b o e => Heap.get?_push_of_some _ e, turn_str z t _ "str_iterator" (.inr rfl), ⟨_, Heap.get?_push_size _ rfl, rfl, rfl⟩, fp, q⟩
  · refine wpAny_pyIter_ascii ha ?_
    exact ⟨s1.heap.objs.size, [s1.heap.objs.size], _, _, H1, rfl, I1.kept (t' := s1.toks) fun b o e => Heap.get?_push_of_some _ e, turn_str z t _ "str_ascii_iterator" (.inl rfl), ⟨_, Heap.get?_push_size _ rfl, rfl, rfl⟩, fp, q⟩
def clos (cells : List (Str × Addr)) : List (Str × NameKind) → List (Str × Addr) → List (Str × Addr)
  | [], acc => acc
  | (n, k) :: r, acc => if k == .free then clos cells r ((n, (cells.lookup n).getD 0) :: acc) else clos cells r acc
theorem closureFor_clos {scope : Scope} {env : Env} (h : ∀ y ∈ scope.names, y.2 = .free → ∃ c, env.cells.lookup y.1 = some c) : closureFor scope env = pure (clos env.cells scope.names []) := by
  have go : ∀ (names : List (Str × NameKind)) (acc : List (Str × Addr)), (∀ y ∈ names, y.2 = .free → ∃ c, env.cells.lookup y.1 = some c) →
      (forIn names acc fun (x : Str × NameKind) (r : List (Str × Addr)) => (if x.2 == NameKind.free then do let a ← cellOf env x.1; pure (ForInStep.yield ((x.1, a) :: r)) else pure (ForInStep.yield r) : Sem (ForInStep (List (Str × Addr))))) = pure (clos env.cells names acc) := by
    intro names
    induction names with
    | nil => intro acc _; rfl
    | cons x r ih =>
      intro acc hx
      obtain ⟨n, k⟩ := x
      rw [List.forIn_cons]
      have hr : ∀ y ∈ r, y.2 = .free → ∃ c, env.cells.lookup y.1 = some c := fun y hy => hx y (List.mem_cons_of_mem _ hy)
      by_cases hk : k = .free
      · subst hk
        obtain ⟨c, hc⟩ := hx (n, .free) List.mem_cons_self rfl
        have hc' : env.cells.lookup n = some c := hc
        have e : cellOf env n = pure c := by unfold cellOf; rw [hc']
        simp only [beq_self_eq_true, if_true, e, pure_bind]
        rw [ih _ hr]
        simp only [clos, beq_self_eq_true, if_true, hc', Option.getD_some]
      · have hb : (k == NameKind.free) = false := by simpa using hk
        simp only [hb, Bool.false_eq_true, if_false, pure_bind]
        rw [ih _ hr]
        simp only [clos, hb, Bool.false_eq_true, if_false]
  have := go scope.names [] h
  unfold closureFor
  first
    | (rw [this]; rfl)
    | (simp only [this, pure_bind]; rfl)
    | simpa using this
theorem clos_lookup {cells : List (Str × Addr)} : ∀ (names : List (Str × NameKind)) (acc : List (Str × Addr)) (y : Str) (c : Addr),
    (∀ z ∈ names, z.2 = .free → ∃ c, cells.lookup z.1 = some c) → (∀ d, acc.lookup y = some d → cells.lookup y = some d) → (clos cells names acc).lookup y = some c → cells.lookup y = some c
  | [], acc, y, c, _, ha, h => ha c h
  | (n, k) :: r, acc, y, c, hx, ha, h => by
    have hr : ∀ z ∈ r, z.2 = .free → ∃ c, cells.lookup z.1 = some c := fun z hz => hx z (List.mem_cons_of_mem _ hz)
    by_cases hk : k = .free
    · subst hk
      simp only [clos, beq_self_eq_true, if_true] at h
      refine clos_lookup r _ y c hr (fun d hd => ?_) h
      by_cases hy : y = n
      · subst hy
        obtain ⟨e, he⟩ := hx (y, .free) List.mem_cons_self rfl
        have he' : cells.lookup y = some e := he
        simp only [List.lookup_cons, beq_self_eq_true, he', Option.getD_some] at hd
        rw [he', hd]
      · have hb : (y == n) = false := by simpa using hy
        simp only [List.lookup_cons, hb] at hd
        exact ha d hd
    · have hb : (k == NameKind.free) = false := by simpa using hk
      simp only [clos, hb, Bool.false_eq_true, if_false] at h
      exact clos_lookup r acc y c hr ha h
theorem clos_keep {cells : List (Str × Addr)} : ∀ (names : List (Str × NameKind)) (acc : List (Str × Addr)) (y : Str), (∃ c, acc.lookup y = some c) → ∃ c, (clos cells names acc).lookup y = some c
  | [], _, _, h => h
  | (n, k) :: r, acc, y, h => by
    by_cases hk : k = .free
    · subst hk
      simp only [clos, beq_self_eq_true, if_true]
      refine clos_keep r _ y ?_
      by_cases hy : y = n
      · subst hy; exact ⟨(cells.lookup y).getD 0, by simp only [List.lookup_cons, beq_self_eq_true]⟩
      · have hb : (y == n) = false := by simpa using hy
        simp only [List.lookup_cons, hb]; exact h
    · have hb : (k == NameKind.free) = false := by simpa using hk
      simp only [clos, hb, Bool.false_eq_true, if_false]
      exact clos_keep r acc y h
theorem clos_has {cells : List (Str × Addr)} : ∀ (names : List (Str × NameKind)) (acc : List (Str × Addr)) (y : Str), (y, NameKind.free) ∈ names → ∃ c, (clos cells names acc).lookup y = some c
  | [], _, _, h => by simp at h
  | (n, k) :: r, acc, y, h => by
    rcases List.mem_cons.mp h with e | h
    · injection e with e1 e2
      subst e1 e2
      simp only [clos, beq_self_eq_true, if_true]
      exact clos_keep r _ y ⟨(cells.lookup y).getD 0, by simp only [List.lookup_cons, beq_self_eq_true]⟩
    · by_cases hk : k = .free
      · rw [hk]
        simp only [clos, beq_self_eq_true, if_true]
        exact clos_has r _ y h
      · have hb : (k == NameKind.free) = false := by simpa using hk
        simp only [clos, hb, Bool.false_eq_true, if_false]
        exact clos_has r _ y h
theorem relabel_kind {env : Env} : ∀ {names : List (Str × NameKind)} {x : Str} {k : NameKind}, (names.map fun (n, k) => if (k == NameKind.free && env.scope.kind == .function && env.kindOf n == some .cell) then (n, NameKind.cell) else (n, k)).lookup x = some k →
    names.lookup x = some k ∨ (k = .cell ∧ names.lookup x = some .free)
  | [], _, _, h => by simp at h
  | (n, j) :: r, x, k, h => by
    have ih := @relabel_kind env r x k
    have h' : List.lookup x ((if (j == NameKind.free && env.scope.kind == .function && env.kindOf n == some .cell) = true then (n, NameKind.cell) else (n, j)) ::
      (r.map fun (n, k) => if (k == NameKind.free && env.scope.kind == .function && env.kindOf n == some .cell) then (n, NameKind.cell) else (n, k))) = some k := h
    cases hx : x == n with
    | true =>
      by_cases hc : (j == NameKind.free && env.scope.kind == .function && env.kindOf n == some .cell) = true
      · rw [if_pos hc] at h'
        simp only [List.lookup_cons, hx] at h' ⊢
        have hj : j = .free := by
          have : (j == NameKind.free) = true := by
            cases q : (j == NameKind.free) with
            | true => rfl
            | false => rw [q] at hc; simp at hc
          simpa using this
        subst hj
        exact .inr ⟨(Option.some.inj h').symm, rfl⟩
      · rw [if_neg hc] at h'
        simp only [List.lookup_cons, hx] at h' ⊢
        exact .inl h'
    | false =>
      have h2 : List.lookup x (r.map fun (n, k) => if (k == NameKind.free && env.scope.kind == .function && env.kindOf n == some .cell) then (n, NameKind.cell) else (n, k)) = some k := by
        by_cases hc : (j == NameKind.free && env.scope.kind == .function && env.kindOf n == some .cell) = true
        · rw [if_pos hc] at h'; simpa only [List.lookup_cons, hx] using h'
        · rw [if_neg hc] at h'; simpa only [List.lookup_cons, hx] using h'
      rcases ih h2 with q | ⟨q1, q2⟩
      · exact .inl (by simpa only [List.lookup_cons, hx] using q)
      · exact .inr ⟨q1, by simpa only [List.lookup_cons, hx] using q2⟩
abbrev cxC (X : Cx) (NC : List Str) (scope : Scope) (C : Addr) (s : Shared) (H : Hp) (ex : List Addr) : Cx :=
  { X with N := NC, s₀ := s, H₀ := H, env := compEnvC scope (clos X.env.cells scope.names []) C X.env, outer := X.stack, stack := X.stack, ex := ex, fn := fun _ => false, pn := [], xe := fun _ _ => False }
def slotsC (nt : Nat) (is : List Nat) (σ : St) : St := List.replicate nt none ++ is.map fun i => (σ[i]?).join
theorem slotsC_len (nt : Nat) (is : List Nat) (σ : St) : (slotsC nt is σ).length = nt + is.length := by simp [slotsC]
def PIf (X : Cx) (ifs : List Expr) (t : TT) : Prop :=
  ∀ (pins : List (Addr × Obj)) (s : Shared) (σ : St) (H : Hp) (Q : Bool → Hp → Prop), Inv X pins σ H s → t σ H Q →
    wpAny (model X.prog X.w) X.A (forIn ifs true fun c r => if r = true then do let ok ← isTrue c X.env (eval c X.env); pure (ForInStep.yield ok) else pure (ForInStep.yield r)) (TP X pins σ Q) X.xe s
def tTrue : TT := fun _ H Q => Q true H
theorem pif_nil {X : Cx} : PIf X [] tTrue := fun _ _ _ H _ I h => wpAny_tests_nil ⟨H, I, h⟩
theorem pif_one {X : Cx} {c : Expr} {t : TT} (h : PT X c t) : PIf X [c] t := fun pins s σ H Q I hw => wpAny_tests_one (h pins s σ H Q I hw)
section
variable {prog : Program} {w : World} {A : Around} {R : Result → Shared → Prop} {s : Shared}
theorem compLoop_any {elt target iter : Expr} {ifs : List Expr} {scope : Scope} {pos : Pos} {it acc : Value} {env : Env} (I : Nat → Shared → Prop)
    (turn : ∀ n s, I n s → wpAny (model prog w) A (pyNext it) (fun r s₁ => match r with
      | none => R (.ok .next) s₁
      | some v => wpAny (model prog w) A (letOwnedTupleGo target it v) (fun _ s₁' => wpAny (model prog w) A (assign target env v) (fun _ s₂ =>
          wpAny (model prog w) A (forIn ifs true fun c r => if r = true then do let ok ← isTrue c env (eval c env); pure (ForInStep.yield ok) else pure (ForInStep.yield r)) (fun ok s₃ =>
            if ok = true then wpAny (model prog w) A (eval elt env) (fun x s₄ =>
              wpAny (model prog w) A (call (.builtin "list.append") [acc, x]) (fun _ s₅ => ∃ m, m < n ∧ I m s₅) (fun _ _ => False) s₄) (fun _ _ => False) s₃
            else ∃ m, m < n ∧ I m s₃) (fun _ _ => False) s₂) (fun _ _ => False) s₁') (fun _ _ => False) s₁) (fun _ _ => False) s)
    (n : Nat) (h : I n s) :
    codeAny (model prog w) A (.compLoop (.ListComp elt [⟨target, iter, ifs, 0⟩] scope pos) 0 it acc env) R s := by
  refine codeAny_loop rfl I (fun n s hI => ?_) n h
  show wpAny _ A ((compTurn (.ListComp elt [⟨target, iter, ifs, 0⟩] scope pos) 0 it acc env).onRaise (fun x => do noteFrame x env; theTreesLotGoes x)) _ _ s
  refine wpAny_noted ?_
  rw [compTurn_list]
  refine wpAny_bind (wpAny_standAt (wpAny_bind (wpAny_mono (turn n s hI) (fun r s₁ h₁ => ?_) fun _ _ h' => h'.elim)))
  cases r with
  | none => exact wpAny_pure h₁
  | some v =>
    refine wpAny_bind (wpAny_mono h₁ (fun _ s₁' h₁' => ?_) fun _ _ h' => h'.elim)
    refine wpAny_bind (wpAny_mono h₁' (fun _ s₂ h₂ => wpAny_bind (wpAny_mono h₂ (fun ok s₃ h₃ => ?_) fun _ _ h' => h'.elim)) fun _ _ h' => h'.elim)
    cases ok with
    | false => exact wpAny_pure ⟨rfl, h₃⟩
    | true =>
      exact wpAny_bind (wpAny_bind (wpAny_mono h₃ (fun x s₄ h₄ => wpAny_bind (wpAny_mono h₄ (fun _ s₅ h₅ => wpAny_pure (wpAny_pure ⟨rfl, h₅⟩)) fun _ _ h' => h'.elim)) fun _ _ h' => h'.elim))
end
def tComp (wi : TI) (nt : Nat) (is : List Nat) (g : TG) (tt : TT) (te : TE) : TE := fun σ H Q => wi σ H fun J H1 => ∃ W : Nat → Nat → List V → Hp → Prop, (∃ m, W 0 m [] H1) ∧ ∀ i m acc H, W i m acc H →
  (J.stop i H ∧ ∀ p, H p = none → Q (.ref p) (upd H p (.lst acc))) ∨
  (J.go i H ∧ acc.length < sizeLine ∧ ∃ N : List V → Hp → Prop, (∀ acc' H', N acc' H' → ∃ m', m' < m ∧ W (i + 1) m' acc' H') ∧ ∀ x H', J.yld i H x H' → g x (slotsC nt is σ) H' fun σ2 H2 => tt σ2 H2 fun b H3 =>
    if b = true then te σ2 H3 fun y H4 => N (acc ++ [y]) H4 else N acc H3)
structure CompSc (X : Cx) (NC : List Str) (nt : Nat) (is : List Nat) (csc : Scope) : Prop where
  kind : csc.kind = .function
  nocell : (csc.names.all fun y => y.2 != .cell) = true
  locs : (csc.names.all fun y => y.2 != .local || csc.names.lookup y.1 == some .local) = true
  frees : (csc.names.all fun y => y.2 != .free || (X.env.kindOf y.1 == some .cell || X.env.kindOf y.1 == some .free)) = true
  len : NC.length = nt + is.length
  slots : (NC.drop nt).map some = is.map fun i => X.N[i]?
  isfree : ((NC.drop nt).all fun y => csc.names.lookup y == some .free) = true
section
variable {X : Cx} {pins : List (Addr × Obj)} {σ : St} {H : Hp} {s : Shared} {NC : List Str} {nt : Nat} {is : List Nat} {csc : Scope}
theorem CompSc.free_kind (S : CompSc X NC nt is csc) {y : Str} (h : (y, NameKind.free) ∈ csc.names) : X.env.kindOf y = some .cell ∨ X.env.kindOf y = some .free := by
  have q := List.all_eq_true.mp S.frees _ h
  simpa using q
theorem CompSc.no_cell (S : CompSc X NC nt is csc) {y : Str} (h : (y, NameKind.cell) ∈ csc.names) : False := by
  have q := List.all_eq_true.mp S.nocell _ h
  simp at q
theorem CompSc.has_cells (S : CompSc X NC nt is csc) (I : Inv X pins σ H s) : ∀ y ∈ csc.names, y.2 = .free → ∃ c, X.env.cells.lookup y.1 = some c := fun y hy e => by
  obtain ⟨n, k⟩ := y
  have e' : k = .free := e
  subst e'
  exact I.ok.has n (S.free_kind hy)
theorem fp_lt {fp : List Addr} (ho : ∀ b ∈ fp, ∃ o, s.heap.get? b = some o) : ∀ b ∈ fp, b < s.heap.objs.size := fun b hb => let ⟨_, e⟩ := ho b hb; Heap.lt_size e
theorem inv_block (S : CompSc X NC nt is csc) (I : Inv X pins σ H s) {fp : List Addr} (hf : ∀ b ∈ fp, FpOk X pins H b) (ho : ∀ b ∈ fp, ∃ o, s.heap.get? b = some o) {h' : Heap} {C : Addr} {m : Str → Option Value} {t' : Nat}
    (hC : s.heap.objs.size ≤ C) (k : ∀ b o, s.heap.get? b = some o → h'.get? b = some o) (hn : h'.Ns C m) : Inv (cxC X NC csc C s H fp) [] (slotsC nt is σ) H { s with heap := h', toks := t' } := by
  have hcells := S.has_cells I
  have hlook : ∀ y c, (clos X.env.cells csc.names []).lookup y = some c → X.env.cells.lookup y = some c := fun y c h => clos_lookup csc.names [] y c hcells (by intro d hd; simp at hd) h
  have hlt := fp_lt ho
  have hfree : ∀ y, csc.names.lookup y = some .free → ∃ c, (clos X.env.cells csc.names []).lookup y = some c := fun y h => clos_has csc.names [] y (PySem.mem_of_lookup h)
  refine ⟨⟨I.ok.mod, S.kind, I.ok.glob, I.ok.blt, hC, fun x y c h1 h2 => I.ok.inj x y c (hlook x c h1) (hlook y c h2), fun x hx => ?_, fun x c h _ => (Bool.false_ne_true h).elim, I.ok.hd, I.ok.frames, .inl rfl,
    fun b hb => ⟨Nat.ne_of_lt (Nat.lt_of_lt_of_le (hlt b hb) hC), fun x c h => (hf b hb).2.2.2.2.1 x c (hlook x c h)⟩, I.bs, Nat.le_trans I.ok.bsz I.sz, fun b o e hb => ?_, fun b hb hs => ?_, I.stack, I.stkFree⟩,
    rfl, I.bare, Un.kept k, ⟨m, hn, fun i x v e1 e2 e3 => ?_⟩, fun x c h => ?_, I.hok.fresh hC, fun x c h => I.freeC x c (hlook x c h), fun p hp => absurd (show p ∈ ([] : List (Addr × Obj)) from hp) (by simp), I.hok.kept k, ?_⟩
  · have hx' : (relabel csc X.env).names.lookup x = some .cell ∨ (relabel csc X.env).names.lookup x = some .free := hx
    rcases hx' with h | h
    · rcases relabel_kind h with q | ⟨_, q⟩
      · exact (S.no_cell (PySem.mem_of_lookup q)).elim
      · exact hfree x q
    · rcases relabel_kind h with q | ⟨q, _⟩
      · exact hfree x q
      · cases q
  · rcases (hf b hb).2.2.2.1 with z | z
    · exact I.ok.noex b o e z
    · exact absurd (Nat.lt_of_lt_of_le (Heap.lt_size e) (Nat.le_trans I.ok.bsz z)) (Nat.lt_irrefl _)
  · rcases List.mem_cons.mp (I.stkSub b hs) with e | e
    · exact (hf b hb).2.1 e
    · exact (hf b hb).2.2.1 e
  · have hi : nt ≤ i := by
      by_cases hi : nt ≤ i
      · exact hi
      · have : (slotsC nt is σ)[i]? = some none := by
          unfold slotsC
          rw [List.getElem?_append_left (by simpa using hi), List.getElem?_replicate, if_pos (by omega)]
        rw [this] at e2; cases e2
    obtain ⟨j, rfl⟩ : ∃ j, i = nt + j := ⟨i - nt, by omega⟩
    have e2' : (is.map fun i => (σ[i]?).join)[j]? = some (some v) := by
      unfold slotsC at e2
      rw [List.getElem?_append_right (by simp)] at e2
      simpa using e2
    rw [List.getElem?_map] at e2'
    cases ej : is[j]? with
    | none => rw [ej] at e2'; cases e2'
    | some i' =>
      rw [ej] at e2'
      have e3' : (σ[i']?).join = some v := Option.some.inj e2'
      have e4 : σ[i']? = some (some v) := by
        cases q : σ[i']? with
        | none => rw [q] at e3'; cases e3'
        | some o => rw [q] at e3'; exact congrArg some e3'
      have e5 : X.N[i']? = some x := by
        have q := congrArg (fun l => l[j]?) S.slots
        simp only [List.getElem?_map, ej, Option.map_some] at q
        have q2 : (NC.drop nt)[j]? = some x := by rw [List.getElem?_drop]; exact e1
        rw [q2] at q
        simpa using q.symm
      have hxfree : csc.names.lookup x = some .free := by
        have q2 : (NC.drop nt)[j]? = some x := by rw [List.getElem?_drop]; exact e1
        have q := List.all_eq_true.mp S.isfree x (List.mem_of_getElem? q2)
        simpa using q
      have hk := S.free_kind (PySem.mem_of_lookup hxfree)
      obtain ⟨m0, _, hl⟩ := I.loc
      obtain ⟨u, r, l⟩ := hl i' x v e5 e4 (hk.elim (fun z => .inr (.inl z)) fun z => .inr (.inr z))
      refine ⟨u, r, ?_⟩
      rcases l with ⟨z, _⟩ | ⟨_, c, hc, hcell⟩
      · rw [z] at hk; rcases hk with q | q <;> cases q
      · obtain ⟨c', hc'⟩ := hfree x hxfree
        have e6 := hlook x c' hc'
        rw [hc] at e6; cases e6
        refine .inr ⟨?_, c, hc', ?_⟩
        · have e3'' : (relabel csc X.env).names.lookup x = some .local ∨ (relabel csc X.env).names.lookup x = some .cell ∨ (relabel csc X.env).names.lookup x = some .free := e3
          rcases e3'' with z | z | z
          · rcases relabel_kind z with q | ⟨q, _⟩
            · rw [hxfree] at q; cases q
            · cases q
          · exact .inl z
          · exact .inr z
        · obtain ⟨o, ho, hd⟩ := hcell
          exact ⟨o, k c o ho, hd⟩
  · obtain ⟨v, o, ho, hd⟩ := I.cell x c (hlook x c h)
    exact ⟨v, o, k c o ho, hd⟩
  · rw [slotsC_len]; exact S.len.symm
theorem inv_behind (I : Inv X pins σ H s) {fp : List Addr} (hf : ∀ b ∈ fp, FpOk X pins H b) {σ' : St} {H' : Hp} {s' : Shared} {C D : Addr} {pins' : List (Addr × Obj)} {acc : List V} {its : List Value} {n : Nat}
    (J : Inv (cxC X NC csc C s H fp) pins' σ' H' s') (hC : s.heap.objs.size ≤ C) (hD : s.heap.objs.size ≤ D) (hDo : s'.heap.get? D = some { cls := .type "list", data := .seq its.toArray n }) (hDn : H' D = none) (hv : Vals acc its)
    (hz : acc.length ≤ sizeLine) : Inv X pins σ (upd H' D (.lst acc)) s' := by
  have hne : ∀ b o, s.heap.get? b = some o → b ≠ D := fun b o e z => absurd (Nat.lt_of_lt_of_le (Heap.lt_size e) (z ▸ hD)) (Nat.lt_irrefl _)
  have hu : Un (frs X.stack) fp H H' s.heap s'.heap := J.base
  refine I.call' (ch := fp) J.os ⟨hu.keep, hu.slot, fun b o e n hx => by rw [upd_ne (hne b o e)]; exact hu.free b o e n hx, hu.there, fun b xs e => ?_, fun b o u e => ?_, fun b ps e => ?_⟩ (fun b u q => ?_) J.bare fun b hb => ?_
  · have q := hu.tups b xs e
    rw [upd_ne (ne_of_none q hDn)]; exact q
  · have q := hu.frzs b o u e
    rw [upd_ne (ne_of_none q hDn)]; exact q
  · obtain ⟨more, q⟩ := hu.tbls b ps e
    exact ⟨more, by rw [upd_ne (ne_of_none q hDn)]; exact q⟩
  · by_cases hb : b = D
    · subst hb
      rw [upd_same] at q; cases q
      exact ⟨hz, its, n, hv, hDo⟩
    · rw [upd_ne hb] at q
      exact (J.hok b u q).stay (fun _ _ _ e => e) (fun c r => by rw [upd_ne (ne_of_none r hDn)]; exact r) fun c xs r => by rw [upd_ne (ne_of_none r hDn)]; exact r
  · obtain ⟨_, f1, f2, f3, f4, f5⟩ := hf b hb
    exact ⟨f3, f1, f4, f5⟩
theorem comp_run {elt tg iter : Expr} {ifs : List Expr} {pos : Pos} {wi : TI} {g : TG} {tt : TT} {te : TE} {Q : VK} {use : Option (Value → Sem Unit)} {QQ : Value → Shared → Prop} {epos : Pos}
    (S : CompSc X NC nt is csc) (hc : X.calm = true) (hi : PI X tg iter wi)
    (hg : ∀ C s H ex, PG (cxC X NC csc C s H ex) tg g) (ht : ∀ C s H ex, PIf (cxC X NC csc C s H ex) ifs tt) (he : ∀ C s H ex, PE (cxC X NC csc C s H ex) elt te)
    (hgk : ∀ x (σ : St) H Q, g x σ H Q → g x σ H fun σ2 H2 => σ2.drop nt = σ.drop nt ∧ Q σ2 H2)
    (I : Inv X pins σ H s) (h : tComp wi nt is g tt te σ H Q)
    (fin : ∀ (s' : Shared) (C D : Addr) (H' : Hp) (m : Str → Option Value), Inv X pins σ H' s' → Q (.ref D) H' → s'.heap.Ns C m → H' C = none → C ≠ X.env.locals → X.s₀.heap.objs.size ≤ C → (∀ x c, X.env.cells.lookup x = some c → c ≠ C) → (∀ p ∈ X.pn ++ pins, p.1 ≠ C) →
      compPost (model X.prog X.w) X.A X.xe use QQ (.ref D) C (.ok .next) s')
    (hs : ∀ x, foldedSetIterable iter X.env x = pure x) :
    wpAny (model X.prog X.w) X.A (comprehension (.ListComp elt [⟨tg, iter, ifs, 0⟩] csc pos) csc X.env epos (newList []) false (eval iter X.env) use) QQ X.xe s := by
  have hcells := S.has_cells I
  have hnames : ∀ x ∈ csc.names, x.2 = .local → csc.names.lookup x.1 = some .local := fun x hx hl => by
    have q := List.all_eq_true.mp S.locs x hx
    simpa [hl] using q
  have hcell : ∀ y ∈ csc.names, y.2 ≠ .cell := fun y hy e => by
    obtain ⟨n, k⟩ := y
    have e' : k = .cell := e
    subst e'
    exact S.no_cell hy
  refine wpAny_comprehension_free (g := ⟨tg, iter, ifs, 0⟩) (gs := []) (cl := clos X.env.cells csc.names []) rfl hs (closureFor_clos hcells) S.kind hnames ?_
  refine thn (hi pins s σ H _ I h) fun v s1 h1 => thn h1 fun itv s2 h2 => ?_
  obtain ⟨it, fp, tn, J, H2, rfl, I2, T, st2, f2, W, ⟨m0, w0⟩, turn⟩ := h2
  have fo : ∀ b ∈ fp, ∃ o, s2.heap.get? b = some o := fun b hb => let ⟨o, e, _⟩ := T.obj 0 _ st2 b hb; ⟨o, e⟩
  have flt := fp_lt fo
  refine wpAny_newObj_type (wpAny_newFunctionEnv hcell (by intro y hy; simp at hy) (fun h₁ hns₁ hsb₁ => ?_) S.kind)
  dsimp only at hns₁ hsb₁ ⊢
  generalize hH2 : s2.heap.push { cls := .type "list", dict := none, data := .seq ([] : List Value).toArray } = P2 at hns₁ hsb₁ ⊢
  have hCs : P2.objs.size = s2.heap.objs.size + 1 := by rw [← hH2, Heap.size_push]
  generalize hCC : P2.objs.size = C at hns₁ hsb₁ hCs ⊢
  generalize hDD : s2.heap.objs.size = D at hCs ⊢
  have hD : s2.heap.objs.size ≤ D := Nat.le_of_eq hDD
  have hC : s2.heap.objs.size ≤ C := by omega
  have hDC : D ≠ C := by omega
  have old : ∀ b o, s2.heap.get? b = some o → h₁.get? b = some o := fun b o e => hsb₁.extBut b o (Nat.ne_of_lt (Nat.lt_of_lt_of_le (Heap.lt_size e) hC)) (Heap.get?_push_of_some _ (hH2 ▸ Heap.get?_push_of_some _ e))
  have accO : h₁.get? D = some { cls := .type "list", data := .seq ([] : List Value).toArray 0 } := by
    refine hsb₁.extBut _ _ hDC (Heap.get?_push_of_some _ ?_)
    rw [← hH2, ← hDD]
    exact Heap.get?_push_size _ rfl
  have Istart : Inv (cxC X NC csc C s2 H2 fp) [] (slotsC nt is σ) H2 { s2 with heap := h₁, toks := s2.toks + ([] : List (Str × Value)).length } := inv_block S I2 f2 fo hC old hns₁
  have HD0 : H2 D = none := I2.hok.fresh hD
  have HC0 : H2 C = none := I2.hok.fresh hC
  have fpY : ∀ {H' : Hp} {pl : List (Addr × Obj)}, (∀ b ∈ fp, H' b = none) → (∀ p ∈ pl, p.1 ∉ fp) → ∀ b ∈ fp, FpOk (cxC X NC csc C s2 H2 fp) pl H' b := fun {H' pl} hn hp b hb => by
    obtain ⟨_, g1, g2, g3, g4, g5⟩ := f2 b hb
    refine ⟨hn b hb, Nat.ne_of_lt (Nat.lt_of_lt_of_le (flt b hb) hC), fun z => ?_, .inl hb, fun x c e => g4 x c (clos_lookup csc.names [] x c hcells (by intro d hd; simp at hd) e), fun p hpp z => ?_⟩
    · rcases List.mem_cons.mp (I2.stkSub b z) with e | e
      · exact g1 e
      · exact g2 e
    · exact hp p (by simpa using hpp) (z ▸ hb)
  have dne : D ∉ fp := fun hb => absurd (flt D hb) (Nat.not_lt.mpr hD)
  have cellD : ∀ {σ' : St} {H' : Hp} {s' : Shared} {pl : List (Addr × Obj)} {its : List Value} {n : Nat}, Inv (cxC X NC csc C s2 H2 fp) pl σ' H' s' → s'.heap.get? D = some { cls := .type "list", data := .seq its.toArray n } →
      ∀ x c, (cxC X NC csc C s2 H2 fp).env.cells.lookup x = some c → c ≠ D := fun {σ' H' s' pl its n} K e x c hx z => by
    obtain ⟨v, o, ho, hd⟩ := K.cell x c hx
    rw [z, e] at ho; cases ho; cases hd
  have loop : ∀ s₃ : Shared, s₃ = { s2 with heap := h₁, toks := s2.toks + ([] : List (Str × Value)).length } →
      codeAny (model X.prog X.w) X.A (.compLoop (.ListComp elt [⟨tg, iter, ifs, 0⟩] csc pos) 0 (.ref it) (.ref D) (compEnvC csc (clos X.env.cells csc.names []) C X.env)) (compPost (model X.prog X.w) X.A X.xe use QQ (.ref D) C) s₃ := by
    rintro s₃ rfl
    refine compLoop_any (fun n s' => ∃ i H' acc its k, Inv (cxC X NC csc C s2 H2 fp) [] (slotsC nt is σ) H' s' ∧ tn i s'.heap ∧ (∀ b ∈ fp, H' b = none) ∧ s'.heap.get? D = some { cls := .type "list", data := .seq its.toArray k } ∧ H' D = none ∧
      Vals acc its ∧ acc.length ≤ sizeLine ∧ W i n acc H') ?_ m0 ⟨0, H2, [], [], 0, Istart, T.keep _ _ _ st2 (fun b hb o e => old b o e), fun b hb => (f2 b hb).1, accO, HD0, .nil, Nat.zero_le _, w0⟩
    rintro n s3 ⟨i, H3, acc, its, k, I3, st3, fr3, o3, n3, v3, z3, w3⟩
    have pinD : Inv (cxC X NC csc C s2 H2 fp) [(D, { cls := .type "list", data := .seq its.toArray k })] (slotsC nt is σ) H3 s3 := I3.pins_of fun p hp => by
      have e : p = (D, { cls := .type "list", data := .seq its.toArray k }) := by simpa using hp
      subst e
      refine ⟨o3, n3, hDC, fun z => ?_, fun v z => by cases z⟩
      rcases List.mem_cons.mp (I2.stkSub D z) with e | e
      · exact absurd I2.lt (Nat.not_lt.mpr (by rw [← e]; exact hD))
      · exact I2.nofs hD e
    have fpD : ∀ p ∈ [((D, { cls := .type "list", data := .seq its.toArray k }) : Addr × Obj)], p.1 ∉ fp := fun p hp => by
      have e : p = (D, { cls := .type "list", data := .seq its.toArray k }) := by simpa using hp
      subst e; exact dne
    rcases turn i n acc H3 w3 with ⟨stop, qn⟩ | ⟨go, hlen, N, hN, step⟩
    · refine thn (T.done (cxC X NC csc C s2 H2 fp) rfl rfl rfl hc i _ s3 _ H3 (fun _ _ => False) pinD (fpY fr3 fpD) st3 stop) fun r s4 ⟨hr, I4⟩ => ?_
      subst hr
      obtain ⟨e4, n4, _⟩ := I4.pin (D, { cls := .type "list", data := .seq its.toArray k }) (List.mem_append_right _ (List.mem_singleton.mpr rfl))
      have J := inv_behind (NC := NC) (csc := csc) I2 f2 I4 hC hD e4 n4 v3 z3
      obtain ⟨m4, hm4, _⟩ := I4.loc
      have nC : H3 C = none := I4.free
      refine fin s4 C D _ m4 J (qn D n4) hm4 (by rw [upd_ne (Ne.symm hDC)]; exact nC) (fun z => absurd I2.lt (Nat.not_lt.mpr (by rw [← z]; exact hC))) (Nat.le_trans I2.sz hC) (fun x c e z => ?_) fun p hp z => ?_
      · obtain ⟨v, o, ho, _⟩ := I2.cell x c e
        exact absurd (Heap.lt_size ho) (Nat.not_lt.mpr (by rw [z]; exact hC))
      · exact absurd (Heap.lt_size (I2.pin p hp).1) (Nat.not_lt.mpr (by rw [z]; exact hC))
    · refine thn (T.item (cxC X NC csc C s2 H2 fp) rfl rfl rfl hc i _ s3 _ H3 (fun _ _ => False) pinD (fpY fr3 fpD) st3 go) fun r s4 ⟨u, hr, h4⟩ => ?_
      subst hr
      refine thn h4 fun _ s5 ⟨x, H5, I5, r5, y5, st5, fr5⟩ => ?_
      have I5' := I5.pinned (fpY fr5 fpD) (T.obj _ _ st5)
      refine thn (hg C s2 H2 fp _ s5 _ H5 x u _ I5' r5 (hgk _ _ _ _ (step x H5 y5))) fun _ s6 ⟨σ6, H6, I6, d6, q6⟩ => ?_
      refine thn (ht C s2 H2 fp _ s6 σ6 H6 _ I6 q6) fun ok s7 ⟨H7, I7, q7⟩ => ?_
      have tnk : ∀ {σ' : St} {H' : Hp} {s' : Shared}, Inv (cxC X NC csc C s2 H2 fp) ([(D, { cls := .type "list", data := .seq its.toArray k })] ++ pinsAt fp s5.heap) σ' H' s' →
          tn (i + 1) s'.heap ∧ (∀ b ∈ fp, H' b = none) ∧ s'.heap.get? D = some { cls := .type "list", data := .seq its.toArray k } ∧ H' D = none := fun {σ' H' s'} K => by
        refine ⟨T.keep _ _ _ st5 fun b hb o e => (K.pin (b, o) (List.mem_append_right _ (List.mem_append_right _ (mem_pinsAt hb e)))).1, fun b hb => ?_, ?_, ?_⟩
        · obtain ⟨o, e, d⟩ := T.obj _ _ st5 b hb
          exact (K.pin (b, o) (List.mem_append_right _ (List.mem_append_right _ (mem_pinsAt hb e)))).2.1
        · exact (K.pin (D, { cls := .type "list", data := .seq its.toArray k }) (List.mem_append_right _ (List.mem_append_left _ (List.mem_singleton.mpr rfl)))).1
        · exact (K.pin (D, { cls := .type "list", data := .seq its.toArray k }) (List.mem_append_right _ (List.mem_append_left _ (List.mem_singleton.mpr rfl)))).2.1
      have reset : ∀ {σ' : St} {H' : Hp} {s' : Shared} {pl : List (Addr × Obj)}, σ'.drop nt = (slotsC nt is σ).drop nt → Inv (cxC X NC csc C s2 H2 fp) pl σ' H' s' → Inv (cxC X NC csc C s2 H2 fp) [] (slotsC nt is σ) H' s' := fun {σ' H' s' pl} hd K => by
        have K0 : Inv (cxC X NC csc C s2 H2 fp) [] σ' H' s' := K.pins_of fun p hp => absurd hp (by simp)
        refine K0.weak ?_ fun j v hj => ?_
        · rw [slotsC_len, K.len]; exact S.len.symm
        · by_cases hjn : j < nt
          · exfalso
            unfold slotsC at hj
            rw [List.getElem?_append_left (by simpa using hjn), List.getElem?_replicate, if_pos hjn] at hj
            cases hj
          · have q := congrArg (fun l => l[j - nt]?) hd
            simp only [List.getElem?_drop] at q
            rw [show nt + (j - nt) = j by omega] at q
            rw [q]; exact hj
      cases ok with
      | false =>
        obtain ⟨m', lt, w7⟩ : ∃ m', m' < n ∧ W (i + 1) m' acc H7 := hN _ _ q7
        obtain ⟨t7, f7, e7, n7⟩ := tnk I7
        exact ⟨m', lt, i + 1, H7, acc, its, k, reset d6 I7, t7, f7, e7, n7, v3, z3, w7⟩
      | true =>
        have q7' : te σ6 H7 fun y H4 => N (acc ++ [y]) H4 := q7
        refine thn (he C s2 H2 fp _ s7 σ6 H7 _ I7 q7') fun u8 s8 ⟨y, H8, I8, r8, qN⟩ => ?_
        obtain ⟨m', lt, w8⟩ := hN _ _ qN
        obtain ⟨t8, f8, e8, n8⟩ := tnk I8
        have I8r := reset d6 I8
        have hl := v3.length
        refine call_meets F.slot_list_append ⟨_, e8, rfl⟩ F.entry_list_append (F.args_list_append_2 _ _) (PySem.list_append D its.toArray k u8 (by rw [List.size_toArray]; omega)) ⟨e8, ?_⟩
        have q := PySem.IsL.update e8 (fun a => a.push u8)
        have hq : (its.toArray.push u8) = (its ++ [u8]).toArray := by simp
        rw [hq] at q
        have kk : ∀ b o, b ≠ D → s8.heap.get? b = some o → (s8.heap.update D (Obj.mapSeq fun a => a.push u8)).get? b = some o := fun b o hb e => (Heap.get?_update_other s8.heap _ (Ne.symm hb)).trans e
        refine ⟨m', lt, i + 1, H8, acc ++ [y], its ++ [u8], _, I8r.turned (t' := s8.toks) kk n8 hDC (.inr hD) (cellD I8r e8) (fun p hp => absurd (show p ∈ ([] : List (Addr × Obj)) from hp) (by simp)), T.keep _ _ _ t8 (fun b hb o e => kk b o (fun z => dne (z ▸ hb)) e), f8, q, n8, v3.append (.cons r8 .nil), ?_, w8⟩
        rw [List.length_append, List.length_singleton]
        omega
  exact codeAny_compStart_list (loop _ rfl) (T.self X.A 0 _ _ _ (T.keep _ _ _ st2 (fun b hb o e => old b o e)) (loop _ rfl))
theorem gName_keep {i nt : Nat} (hi : i < nt) : ∀ x (σ : St) (H : Hp) Q, gName i x σ H Q → gName i x σ H fun σ2 H2 => σ2.drop nt = σ.drop nt ∧ Q σ2 H2 := fun x σ H Q h => ⟨List.drop_set_of_lt hi, h⟩
theorem pe_comp {elt tg iter : Expr} {ifs : List Expr} {pos : Pos} {wi : TI} {g : TG} {tt : TT} {te : TE} (nt : Nat) (is : List Nat) (NC : List Str)
    (S : CompSc X NC nt is csc) (hc : X.calm = true) (hi : PI X tg iter wi)
    (hg : ∀ C s H ex, PG (cxC X NC csc C s H ex) tg g) (hgk : ∀ x (σ : St) H Q, g x σ H Q → g x σ H fun σ2 H2 => σ2.drop nt = σ.drop nt ∧ Q σ2 H2)
    (ht : ∀ C s H ex, PIf (cxC X NC csc C s H ex) ifs tt) (he : ∀ C s H ex, PE (cxC X NC csc C s H ex) elt te)
    (hs : ∀ x, foldedSetIterable iter X.env x = pure x := by intro _; rfl) : PE X (.ListComp elt [⟨tg, iter, ifs, 0⟩] csc pos) (tComp wi nt is g tt te) := by
  intro pins s σ H Q I h
  rw [eval_ListComp]
  refine comp_run S hc hi hg ht he hgk I h (fun s' C D H' m J q hm hC hL hz hcl hp => ⟨m, hm, fun h' hsb => ?_⟩) hs
  exact ⟨.ref D, H', J.turned (t' := s'.toks) (fun b o hb e => hsb.extBut b o hb e) hC hL (.inr hz) hcl hp, rfl, q⟩
theorem ps_setComp {i : Nat} {y : Str} {elt tg iter : Expr} {ifs : List Expr} {pos spos py : Pos} {wi : TI} {g : TG} {tt : TT} {te : TE} (nt : Nat) (is : List Nat) (NC : List Str) (hN : X.N.Nodup) (hy : X.N[i]? = some y) (hyl : X.env.scope.names.lookup y = some .local)
    (S : CompSc X NC nt is csc) (hc : X.calm = true) (hi : PI X tg iter wi)
    (hg : ∀ C s H ex, PG (cxC X NC csc C s H ex) tg g) (hgk : ∀ x (σ : St) H Q, g x σ H Q → g x σ H fun σ2 H2 => σ2.drop nt = σ.drop nt ∧ Q σ2 H2)
    (ht : ∀ C s H ex, PIf (cxC X NC csc C s H ex) ifs tt) (he : ∀ C s H ex, PE (cxC X NC csc C s H ex) elt te)
    (hsw : swapsWith (.ListComp elt [⟨tg, iter, ifs, 0⟩] csc pos) (some (.Name y py)) spos.line X.env = pure true := by rfl)
    (hs : ∀ x, foldedSetIterable iter X.env x = pure x := by intro _; rfl) : PS X (.Assign [.Name y py] (.ListComp elt [⟨tg, iter, ifs, 0⟩] csc pos) spos) (tAsg (tComp wi nt is g tt te) (gName i)) := by
  intro pins s σ H D I h
  rw [exec_Assign_Name_used _ _ _ _ hsw]
  refine wpAny_bind (wpAny_standAt (wpAny_bind ?_))
  show wpAny _ X.A (do let _ ← comprehension (.ListComp elt [⟨tg, iter, ifs, 0⟩] csc pos) csc X.env _ (newList []) false (eval iter X.env) (some (assign (.Name y py) X.env))) _ _ s
  refine wpAny_bind (thn (comp_run (QQ := fun _ s' => SP X pins D .next s') S hc hi hg ht he hgk I h (fun s' C Da H' m J q hm hC hL hz hcl hp => ?_) hs) fun _ s' hq => wpAny_pure (wpAny_pure hq))
  show wpAny _ X.A (assign (.Name y py) X.env (.ref Da)) _ _ _
  refine wpAny_assign_Name (store_ok2 J hN hy (.inl hyl) (v := .ref Da) rfl (fun s'' J' ⟨a, hsb, ha⟩ => ⟨m, hm.sameBut hsb (fun z => ?_), fun h3 hs3 => ?_⟩) (.inr hyl))
  · rcases ha with e | e
    · exact hL (z.trans e)
    · exact hcl y a e z.symm
  · exact ⟨_, H', J'.turned (t' := s''.toks) (fun b o hb e => hs3.extBut b o hb e) hC hL (.inr hz) hcl hp, q⟩
end
section
variable {K : PySem.W.Frag} {nt : Nat} {is : List Nat} {g : TG} {tt : TT} {te : TE} {σ : St} {H : Hp} {Q : VK}
def CompW (J : It) (nt : Nat) (is : List Nat) (g : TG) (tt : TT) (te : TE) (σ : St) (H : Hp) (Q : VK) : Prop := ∃ W : Nat → Nat → List V → Hp → Prop, (∃ m, W 0 m [] H) ∧ ∀ i m acc H, W i m acc H →
  (J.stop i H ∧ ∀ p, H p = none → Q (.ref p) (upd H p (.lst acc))) ∨
  (J.go i H ∧ acc.length < sizeLine ∧ ∃ N : List V → Hp → Prop, (∀ acc' H', N acc' H' → ∃ m', m' < m ∧ W (i + 1) m' acc' H') ∧ ∀ x H', J.yld i H x H' → g x (slotsC nt is σ) H' fun σ2 H2 => tt σ2 H2 fun b H3 =>
    if b = true then te σ2 H3 fun y H4 => N (acc ++ [y]) H4 else N acc H3)
theorem tComp_eq {wi : TI} : tComp wi nt is g tt te σ H Q = wi σ H fun J H1 => CompW J nt is g tt te σ H1 Q := rfl
theorem comp_gen {J : It} {n : Nat} (Pv : Nat → List V → Hp → Prop) (h0 : Pv 0 [] H)
    (hgo : ∀ i acc H, i < n → Pv i acc H → J.go i H ∧ acc.length < sizeLine ∧ ∀ x H', J.yld i H x H' → g x (slotsC nt is σ) H' fun σ2 H2 => tt σ2 H2 fun b H3 => if b = true then te σ2 H3 fun y H4 => Pv (i + 1) (acc ++ [y]) H4 else Pv (i + 1) acc H3)
    (hst : ∀ acc H, Pv n acc H → J.stop n H ∧ ∀ p, H p = none → Q (.ref p) (upd H p (.lst acc))) : CompW J nt is g tt te σ H Q := by
  refine ⟨fun i m acc H => m = n - i ∧ i ≤ n ∧ Pv i acc H, ⟨n, by simp, Nat.zero_le _, h0⟩, ?_⟩
  rintro i m acc H ⟨rfl, hi, p⟩
  by_cases hlt : i < n
  · obtain ⟨h1, h2, h3⟩ := hgo i acc H hlt p
    exact .inr ⟨h1, h2, Pv (i + 1), fun acc' H' q => ⟨n - (i + 1), by omega, rfl, hlt, q⟩, h3⟩
  · have e : i = n := by omega
    subst e
    exact .inl (hst acc H p)
theorem comp_range {lo : Int} {n : Nat} (Pv : Nat → List V → Hp → Prop) (h0 : Pv 0 [] H)
    (hs : ∀ i acc H, i < n → Pv i acc H → acc.length < sizeLine ∧ g (.int (lo + i)) (slotsC nt is σ) H fun σ2 H2 => tt σ2 H2 fun b H3 => if b = true then te σ2 H3 fun y H4 => Pv (i + 1) (acc ++ [y]) H4 else Pv (i + 1) acc H3)
    (hd : ∀ acc H, Pv n acc H → ∀ p, H p = none → Q (.ref p) (upd H p (.lst acc))) : CompW (Itr lo n) nt is g tt te σ H Q := by
  refine comp_gen (n := n) Pv h0 (fun i acc H hi p => ?_) fun acc H p => ⟨Nat.le_refl _, hd acc H p⟩
  obtain ⟨h1, h2⟩ := hs i acc H hi p
  refine ⟨hi, h1, fun x H' y => ?_⟩
  obtain ⟨rfl, rfl⟩ := y
  exact h2
theorem comp_str {z : Str} (Pv : Nat → List V → Hp → Prop) (h0 : Pv 0 [] H)
    (hs : ∀ i c acc H, z.cps.toList[i]? = some c → Pv i acc H → acc.length < sizeLine ∧ g (.str ⟨#[c]⟩) (slotsC nt is σ) H fun σ2 H2 => tt σ2 H2 fun b H3 => if b = true then te σ2 H3 fun y H4 => Pv (i + 1) (acc ++ [y]) H4 else Pv (i + 1) acc H3)
    (hd : ∀ acc H, Pv z.cps.toList.length acc H → ∀ p, H p = none → Q (.ref p) (upd H p (.lst acc))) : CompW (Its z) nt is g tt te σ H Q := by
  have hl : z.cps.toList.length = z.cps.size := by simp
  refine comp_gen (n := z.cps.toList.length) Pv h0 (fun i acc H hi p => ?_) fun acc H p => ⟨Nat.le_of_eq hl.symm, hd acc H p⟩
  have hx : z.cps.toList[i]? = some z.cps.toList[i] := by simp [hi]
  obtain ⟨h1, h2⟩ := hs i _ acc H hx p
  refine ⟨(by show i < z.cps.size; omega), h1, fun x H' y => ?_⟩
  obtain ⟨rfl, c, hc, rfl⟩ := y
  rw [← Array.getElem?_toList, hx] at hc
  cases hc
  exact h2
theorem comp_list {a : Addr} {xs : List V} (Pv : Nat → List V → Hp → Prop) (h0 : Pv 0 [] H) (hl : ∀ i acc H, i ≤ xs.length → Pv i acc H → SqL K H a xs)
    (hs : ∀ i x acc H, xs[i]? = some x → Pv i acc H → acc.length < sizeLine ∧ g x (slotsC nt is σ) H fun σ2 H2 => tt σ2 H2 fun b H3 => if b = true then te σ2 H3 fun y H4 => Pv (i + 1) (acc ++ [y]) H4 else Pv (i + 1) acc H3)
    (hd : ∀ acc H, Pv xs.length acc H → ∀ p, H p = none → Q (.ref p) (upd H p (.lst acc))) : CompW (Itl K a) nt is g tt te σ H Q := by
  refine comp_gen (n := xs.length) Pv h0 (fun i acc H hi p => ?_) fun acc H p => ⟨⟨xs, hl _ _ _ (Nat.le_refl _) p, Nat.le_refl _⟩, hd acc H p⟩
  have hx : xs[i]? = some xs[i] := by simp [hi]
  have q := hl i acc H (Nat.le_of_lt hi) p
  obtain ⟨h1, h2⟩ := hs i _ acc H hx p
  refine ⟨⟨xs, _, q, hx⟩, h1, fun x H' y => ?_⟩
  obtain ⟨rfl, y⟩ := y
  have e := y xs q
  rw [hx] at e
  cases e
  exact h2
theorem comp_tup {a : Addr} {xs : List V} (Pv : Nat → List V → Hp → Prop) (h0 : Pv 0 [] H) (hl : ∀ i acc H, i ≤ xs.length → Pv i acc H → SqT K H a xs)
    (hs : ∀ i x acc H, xs[i]? = some x → Pv i acc H → acc.length < sizeLine ∧ g x (slotsC nt is σ) H fun σ2 H2 => tt σ2 H2 fun b H3 => if b = true then te σ2 H3 fun y H4 => Pv (i + 1) (acc ++ [y]) H4 else Pv (i + 1) acc H3)
    (hd : ∀ acc H, Pv xs.length acc H → ∀ p, H p = none → Q (.ref p) (upd H p (.lst acc))) : CompW (Itt K a) nt is g tt te σ H Q := by
  refine comp_gen (n := xs.length) Pv h0 (fun i acc H hi p => ?_) fun acc H p => ⟨⟨xs, hl _ _ _ (Nat.le_refl _) p, Nat.le_refl _⟩, hd acc H p⟩
  have hx : xs[i]? = some xs[i] := by simp [hi]
  have q := hl i acc H (Nat.le_of_lt hi) p
  obtain ⟨h1, h2⟩ := hs i _ acc H hx p
  refine ⟨⟨xs, _, q, hx⟩, h1, fun x H' y => ?_⟩
  obtain ⟨rfl, y⟩ := y
  have e := y xs q
  rw [hx] at e
  cases e
  exact h2
end
section
variable {X : Cx}
theorem call_all (hc : X.calm = true) : CallR X (.builtin "all") (fun xs H Q => ∃ (p : Addr) (bs : List Bool), xs = [.ref p] ∧ SqL X.K H p (bs.map V.bl) ∧ Q (.bl (bs.all id)) H) := by
  intro pins s σ H xs us Q I r h
  obtain ⟨p, bs, rfl, hq, q⟩ := h
  obtain ⟨u, rfl, rx⟩ := vals1 r
  cases rx
  obtain ⟨its, rv, pl, hz⟩ := I.list hq
  have hlen : bs.length = its.length := by have := rv.length; simpa using this
  refine call_all_walk (wpAny_pyIter_list pl.isList ?_)
  have hne : p ≠ s.heap.objs.size := by
    obtain ⟨o, _, e, _⟩ := pl
    exact Nat.ne_of_lt (Heap.lt_size e)
  refine ⟨s.heap.objs.size, _, _, _, _, _, fun i => bs.getD i false, rfl, Walks.list (A := X.A.in1) (show X.A.in1.handled = none from I.ok.hd hc) _ p hne its.toArray, ⟨⟨_, Heap.get?_push_size _ rfl, rfl, rfl⟩, pl.isList.push _⟩, ?_, fun h' tk hk => ?_⟩
  · intro i v s' Q' E' hP hQ'
    have hv : its[i]? = some v := by simpa using hP
    have hi : i < bs.length := by rw [hlen]; exact (List.getElem?_eq_some_iff.mp hv).1
    obtain ⟨v', hv', rv'⟩ := rv.get (i := i) (x := V.bl bs[i]) (by simp [hi])
    rw [hv] at hv'; cases hv'
    cases (show v = Value.bool bs[i] from rv')
    have e : bs.getD i false = bs[i] := by simp [hi]
    have hQ2 : Q' (bs.getD i false) s' := hQ'
    rw [e] at hQ2
    exact wpAny_truthy_bool hQ2
  · have e : ((List.range its.toArray.size).all fun i => bs.getD i false) = bs.all id := by
      rw [List.size_toArray, ← hlen]
      rw [Bool.eq_iff_iff, List.all_eq_true, List.all_eq_true]
      constructor
      · intro h x hx
        obtain ⟨i, hi, rfl⟩ := List.mem_iff_getElem.mp hx
        have := h i (List.mem_range.mpr hi)
        simpa [hi] using this
      · intro h i hi
        have hi' := List.mem_range.mp hi
        have := h bs[i] (List.getElem_mem hi')
        simpa [hi'] using this
    rw [e]
    refine ⟨.bl (bs.all id), H, ?_, rfl, q⟩
    exact I.kept (t' := tk) fun b o e => hk b o (fun z => absurd (Heap.lt_size e) (Nat.not_lt.mpr (Nat.le_of_eq (List.mem_singleton.mp z).symm))) (Heap.get?_push_of_some _ e)
theorem strsAre_of : ∀ {ys : List Str} {us : List Value}, Vals (ys.map V.str) us → StrsAre us ys
  | [], _, r => by rw [List.map_nil] at r; cases r; exact .nil
  | y :: ys, _, r => by
    rw [List.map_cons] at r
    cases r with
    | cons r1 r2 =>
      obtain ⟨t, rfl⟩ := r1
      exact .cons y t (strsAre_of r2)
def rJoin (K : PySem.W.Frag) : V → List V → Hp → VK → Prop := fun x vs H Q => ∃ (sep : Str) (p : Addr) (ys : List Str), x = .str sep ∧ vs = [.ref p] ∧ SqL K H p (ys.map V.str) ∧ (ys.map (·.length)).sum + ys.length * sep.length ≤ 16777216 ∧ Q (.str (Txt.join sep ys)) H
theorem mt_join : MtR X "str.join" (rJoin X.K) := by
  intro pins s σ H x vs v us Q I rx rv h
  obtain ⟨sep, p, ys, rfl, rfl, hq, hz, q⟩ := h
  obtain ⟨t, rfl⟩ := rx
  obtain ⟨u, rfl, ru⟩ := vals1 rv
  cases ru
  obtain ⟨its, r', pl, _⟩ := I.list hq
  exact join_list pl.isList (by simpa using strsAre_of r') hz fun t' k => ⟨.str _, H, I.tok _, ⟨t', rfl⟩, q⟩
def rInst (K : PySem.W.Frag) (T : String) : List V → Hp → VK → Prop := fun vs H Q => ∃ x t b, vs = [x, .ty T] ∧ TyOf K H x t ∧ PySem.W.kitOne K t (.type T) = some b ∧ Q (.bl b) H
theorem call_inst {T : String} : CallR X (.builtin "isinstance") (rInst X.K T) := by
  intro pins s σ H xs us Q I r h
  obtain ⟨x, t, b, rfl, ty, e, q⟩ := h
  obtain ⟨u, u2, rfl, rx, r2⟩ := vals2 r
  cases (show u2 = Value.type T from r2)
  exact isinst_ok I rx ty e fun tk => ⟨.bl b, H, I.tok tk, rfl, q⟩
end
end L2
set_option Elab.async false
set_option linter.all false
set_option maxRecDepth 100000
set_option maxHeartbeats 4000000
namespace L2
open PySem PySem.Spec PyProof.Rows
section
variable {X : Cx} {tg l : Expr} {tl : TE} {a : Expr} {pos : Pos} {tA : TT}
theorem op_modP : OpR X (binaryOp .Mod) (rI (fun _ j => 0 < j) fun i j => .int (i % j)) := op_mod
theorem op_fdivP : OpR X (binaryOp .FloorDiv) (rI CDiv fun i j => .int (i / j)) := op_fdiv
def rAddS : R2 := fun x y H Q => ∃ i j, x = .str i ∧ y = .str j ∧ i.length + j.length ≤ sizeLine ∧ Q (.str (i ++ j)) H
def rAddA (K : PySem.W.Frag) : R2 := fun x y H Q => rI0 (fun i j => .int (i + j)) x y H Q ∨ (rAddS x y H Q ∨ (rCat x y H Q ∨ rCatT K x y H Q))
def rMulA : R2 := fun x y H Q => rI CMul (fun i j => .int (i * j)) x y H Q ∨ rRep x y H Q
theorem opA_mul : OpR X (binaryOp .Mult) rMulA := OpR.or op_mul op_rep
theorem opA_ne (hu : X.A.units + 64 < cLine) : OpR X (compareOp .NotEq) rNe := op_ne
def rLtS : R2 := fun x y H Q => ∃ i j, x = .str i ∧ y = .str j ∧ Q (.bl (decide (i.cps.toList < j.cps.toList))) H
def rLtA : R2 := fun x y H Q => rI0 (fun i j => .bl (decide (i < j))) x y H Q ∨ rLtS x y H Q
theorem opA_lt : OpR X (compareOp .Lt) rLtA := OpR.or op_lt op_lt_str
def inS (i j : Str) : Bool := !(Builtin.Str.occurrences j i 0 j.length 1).isEmpty
def rInS (neg : Bool) : R2 := fun x y H Q => ∃ i j, x = .str i ∧ y = .str j ∧ Q (.bl (if neg then !inS i j else inS i j)) H
def rInA (K : PySem.W.Frag) (neg : Bool) : R2 := fun x y H Q => rInS neg x y H Q ∨ rIn K neg x y H Q
theorem opA_in (K : PySem.W.Frag) (hK : X.K = K := by rfl) : OpR X (compareOp .In) (rInA K false) := hK ▸ (OpR.or op_in_str op_in_seq : OpR X (compareOp .In) (rInA X.K false))
theorem opA_notin (K : PySem.W.Frag) (hK : X.K = K := by rfl) : OpR X (compareOp .NotIn) (rInA K true) := hK ▸ (OpR.or op_notIn_str op_notIn_seq : OpR X (compareOp .NotIn) (rInA X.K true))
def rSlA (K : PySem.W.Frag) : V → Option Int → Option Int → Hp → VK → Prop := fun x lo hi H Q => rSlS x lo hi H Q ∨ (rSlL K x lo hi H Q ∨ rSlT K x lo hi H Q)
theorem ixA (K : PySem.W.Frag) (hK : X.K = K := by rfl) : IxR X (rIx K) := hK ▸ (ix_seq : IxR X (rIx X.K))
def iAnyV (K : PySem.W.Frag) (x : V) (H : Hp) (R : It → Hp → Prop) : Prop := (∃ z, x = .str z ∧ R (Its z) H) ∨ (∃ a, x = .ref a ∧ (∃ xs, SqL K H a xs) ∧ R (Itl K a) H) ∨ (∃ a, x = .ref a ∧ (∃ xs, SqT K H a xs) ∧ R (Itt K a) H)
def iAny (K : PySem.W.Frag) (tl : TE) : TI := fun σ H R => tl σ H fun x H1 => iAnyV K x H1 R
theorem pi_any (K : PySem.W.Frag) (hl : PE X l tl) (hK : X.K = K := by rfl) : PI X tg l (iAny K tl) := by
  subst hK
  intro pins s σ H R I h
  refine thn (hl pins s σ H _ I h) fun v s1 ⟨x, H1, I1, r1, q1⟩ => ?_
  rcases q1 with ⟨z, rfl, q⟩ | ⟨a, rfl, hq, q⟩ | ⟨a, rfl, hq, q⟩
  · exact pi_str_at I1 r1 q
  · obtain ⟨xs, hq⟩ := hq
    cases r1
    obtain ⟨its, rv, p, hz⟩ := I1.list hq
    refine wpAny_pyIter_list p.isList ?_
    refine ⟨s1.heap.objs.size, [s1.heap.objs.size], _, _, H1, rfl, I1.kept (t' := s1.toks) fun b o e => Heap.get?_push_of_some _ e, turn_list a _, ⟨_, Heap.get?_push_size _ rfl, rfl, rfl⟩, fun b hb => ?_, q⟩
    have e : b = s1.heap.objs.size := by simpa using hb
    subst e
    exact I1.fpOk (Nat.le_refl _) (I1.hok.fresh (Nat.le_refl _))
  · obtain ⟨xs, hq⟩ := hq
    cases r1
    obtain ⟨its, rv, p, hz⟩ := I1.tuple hq
    refine wpAny_pyIter_tuple (show s1.heap.IsTuple a its.toArray from p) ?_
    refine ⟨s1.heap.objs.size, [s1.heap.objs.size], _, _, H1, rfl, I1.kept (t' := s1.toks) fun b o e => Heap.get?_push_of_some _ e, turn_tuple a _, ⟨_, Heap.get?_push_size _ rfl, rfl, rfl⟩, fun b hb => ?_, q⟩
    have e : b = s1.heap.objs.size := by simpa using hb
    subst e
    exact I1.fpOk (Nat.le_refl _) (I1.hok.fresh (Nat.le_refl _))
end
section
variable {X : Cx} {o e : Expr} {es : List Expr} {to : TE} {t : TA} {name : Str} {apos cpos : Pos} {T iid : String} {r : V → List V → Hp → VK → Prop}
def rLen (K : PySem.W.Frag) : List V → Hp → VK → Prop := fun xs H Q => ∃ x n, xs = [x] ∧ LenV K x H n ∧ Q (.int n) H
theorem callA_len (K : PySem.W.Frag) (hK : X.K = K := by rfl) : CallR X (.builtin "len") (rLen K) := hK ▸ (call_len : CallR X (.builtin "len") (rLen X.K))
def rAll (K : PySem.W.Frag) : List V → Hp → VK → Prop := fun xs H Q => ∃ (p : Addr) (bs : List Bool), xs = [.ref p] ∧ SqL K H p (bs.map V.bl) ∧ Q (.bl (bs.all id)) H
theorem callA_all (K : PySem.W.Frag) (hc : X.calm = true) (hK : X.K = K := by rfl) : CallR X (.builtin "all") (rAll K) := hK ▸ (call_all hc : CallR X (.builtin "all") (rAll X.K))
def rTupleOf (K : PySem.W.Frag) : List V → Hp → VK → Prop := fun xs H Q => ∃ p ys, xs = [.ref p] ∧ ((SqL K H p ys ∧ ∀ l, H l = none → Q (.ref l) (upd H l (.tup ys))) ∨ (SqT K H p ys ∧ Q (.ref p) H))
theorem callA_tuple (K : PySem.W.Frag) (hK : X.K = K := by rfl) : CallR X (.type "tuple") (rTupleOf K) := hK ▸ (call_tuple_of : CallR X (.type "tuple") (rTupleOf X.K))
def rListOf (K : PySem.W.Frag) : List V → Hp → VK → Prop := fun xs H Q => ∃ p ys, xs = [.ref p] ∧ (SqL K H p ys ∨ SqT K H p ys) ∧ ∀ l, H l = none → Q (.ref l) (upd H l (.lst ys))
def rIntOf : List V → Hp → VK → Prop := fun xs H Q => (∃ i, xs = [.int i] ∧ Q (.int i) H) ∨ ∃ k, xs = [.bl k] ∧ Q (.int (if k then 1 else 0)) H
theorem callA_int : CallR X (.type "int") rIntOf := call_int1
theorem pe_bmA (K : PySem.W.Frag) (pa : PlainAttrs T) (slot : Slot T name iid) (hty : typeOf (.builtin iid) = pure (.type "method_descriptor")) (hm : MtR X iid r) (ho : PE X o to) (ha : PA X (e :: es) t) (hK : X.K = K := by rfl)
    (hbase : attributeBase o name X.env (eval o X.env) = eval o X.env := by rfl)
    (hfew : ((backTo cpos (starEach (e :: es) X.env)).all (fun x => !x.1) && (backToKw cpos (keywordEach [] X.env)).all (fun x => x.1.isSome)
      && decide ((e :: es).length + ([] : List Keyword).length + (if ([] : List Keyword).isEmpty then 0 else 1) < 30)) = true := by rfl)
    (hline : (apos.endLine == cpos.line) = true := by rfl) (hs : starEach (e :: es) X.env = (false, eval e X.env) :: starEach es X.env := by rfl) (hplain : (backTo cpos (starEach es X.env)).any (·.1) = false := by rfl) :
    PE X (.Call (.Attribute o name apos) (e :: es) [] cpos) (tBM K T r to t) := hK ▸ pe_bm pa slot hty hm ho ha hbase hfew hline hs hplain
end
section
variable {K : PySem.W.Frag} {g : TG} {tb : TS} {D : Ends} {σ : St} {H : Hp}
def ForW (J : It) (g : TG) (tb : TS) (D : Ends) (σ : St) (H : Hp) : Prop := ∃ W : Nat → Nat → St → Hp → Prop, (∃ m, W 0 m σ H) ∧ ∀ i m σ H, W i m σ H →
  (J.stop i H ∧ D.nx σ H) ∨ (J.go i H ∧ ∃ N : St → Hp → Prop, (∀ σ' H', N σ' H' → ∃ m', m' < m ∧ W (i + 1) m' σ' H') ∧ ∀ x H', J.yld i H x H' → g x σ H' fun σ2 H2 => tb { D with nx := N, ct := N, bk := D.nx } σ2 H2)
theorem tFor_eq {wi : TI} : tFor wi g tb D σ H = wi σ H fun J H1 => ForW J g tb D σ H1 := rfl
theorem forW_tup {a : Addr} {xs : List V} (Pv : Nat → St → Hp → Prop) (h0 : Pv 0 σ H) (hl : ∀ i σ H, i ≤ xs.length → Pv i σ H → SqT K H a xs)
    (hs : ∀ i x σ H, xs[i]? = some x → Pv i σ H → g x σ H fun σ2 H2 => tb { D with nx := Pv (i + 1), ct := Pv (i + 1), bk := D.nx } σ2 H2) (hd : ∀ σ H, Pv xs.length σ H → D.nx σ H) : ForW (Itt K a) g tb D σ H := for_tup Pv h0 hl hs hd
theorem forW_range {lo : Int} {n : Nat} (Pv : Nat → St → Hp → Prop) (h0 : Pv 0 σ H)
    (hs : ∀ i σ H, i < n → Pv i σ H → g (.int (lo + i)) σ H fun σ2 H2 => tb { D with nx := Pv (i + 1), ct := Pv (i + 1), bk := D.nx } σ2 H2) (hd : ∀ σ H, Pv n σ H → D.nx σ H) : ForW (Itr lo n) g tb D σ H := for_range Pv h0 hs hd
end
theorem sz1000 {n : Nat} (h : n ≤ 100000) : n ≤ sizeLine := Nat.le_trans h (by rw [sizeLine_eq]; decide)
theorem sz1000' {n : Nat} (h : n ≤ 100000) : n < sizeLine := Nat.lt_of_le_of_lt h (by rw [sizeLine_eq]; decide)
theorem same_new {H : Hp} {p : Addr} (h : H p = none) (o : HO) : Same H (upd H p o) := fun b u q => by rw [upd_ne (ne_of_none q h)]; exact q
theorem Same.seqT {K : PySem.W.Frag} {H H' : Hp} {a : Addr} {xs : List V} (e : Same H H') (h : SqT K H a xs) : SqT K H' a xs := by
  rcases h with (h | ⟨o, h⟩) | h
  · exact .inl (.inl (e _ _ h))
  · exact .inl (.inr ⟨o, e _ _ h⟩)
  · exact .inr h
theorem atI_some {α : Type} {xs : List α} {i : Int} (h0 : 0 ≤ i) (h1 : i < xs.length) : ∃ v, v ∈ xs ∧ atI xs i = some v := by
  have hk : i.toNat < xs.length := by omega
  have e : i = ((i.toNat : Nat) : Int) := by omega
  refine ⟨xs[i.toNat], List.getElem_mem hk, ?_⟩
  have q : atI xs ((i.toNat : Nat) : Int) = some xs[i.toNat] := atI_nat (by simp [hk])
  rw [← e] at q
  exact q
theorem atI_getD {α : Type} {xs : List α} {i : Int} {d : α} (h0 : 0 ≤ i) (h1 : i < xs.length) : atI xs i = some (xs.getD i.toNat d) := by
  have hk : i.toNat < xs.length := by omega
  have e : i = ((i.toNat : Nat) : Int) := by omega
  have q : atI xs ((i.toNat : Nat) : Int) = some xs[i.toNat] := atI_nat (by simp [hk])
  rw [← e] at q
  rw [q]; simp [hk]
def spLaw (K : PySem.W.Frag) : Sp := fun vs H Q _ => ∃ (a : Addr) (ns : List Int), vs = [.ref a] ∧ SqL K H a (ns.map V.int) ∧ ns.length ≤ 63 ∧ ∀ H', Q (.bl true) H'
end L2
set_option Elab.async false
set_option linter.all false
set_option maxRecDepth 100000
set_option maxHeartbeats 4000000
namespace L2
open PySem PySem.Spec PyProof.Rows
section
variable {K : PySem.W.Frag} {H : Hp} {Q : VK} {σ : St} {D : Ends} {ta tb tc te : TE} {tt tA tB' : TT} {t u : TS} {g : TG} {r : R2} {tl : TA} {v0 v1 v2 v3 v4 v5 v6 v7 v8 v9 v10 v11 : V}
  {o0 o1 o2 o3 o4 o5 o6 o7 o8 o9 o10 o11 : Option V} {rr : St}
theorem w_v0 : tVar 0 (some v0 :: rr) H Q = Q v0 H := by simp [tVar]
theorem w_v1 : tVar 1 (o0 :: some v1 :: rr) H Q = Q v1 H := by simp [tVar]
theorem w_v2 : tVar 2 (o0 :: o1 :: some v2 :: rr) H Q = Q v2 H := by simp [tVar]
theorem w_v3 : tVar 3 (o0 :: o1 :: o2 :: some v3 :: rr) H Q = Q v3 H := by simp [tVar]
theorem w_v4 : tVar 4 (o0 :: o1 :: o2 :: o3 :: some v4 :: rr) H Q = Q v4 H := by simp [tVar]
theorem w_v5 : tVar 5 (o0 :: o1 :: o2 :: o3 :: o4 :: some v5 :: rr) H Q = Q v5 H := by simp [tVar]
theorem w_v6 : tVar 6 (o0 :: o1 :: o2 :: o3 :: o4 :: o5 :: some v6 :: rr) H Q = Q v6 H := by simp [tVar]
theorem w_v7 : tVar 7 (o0 :: o1 :: o2 :: o3 :: o4 :: o5 :: o6 :: some v7 :: rr) H Q = Q v7 H := by simp [tVar]
theorem w_v8 : tVar 8 (o0 :: o1 :: o2 :: o3 :: o4 :: o5 :: o6 :: o7 :: some v8 :: rr) H Q = Q v8 H := by simp [tVar]
theorem w_v9 : tVar 9 (o0 :: o1 :: o2 :: o3 :: o4 :: o5 :: o6 :: o7 :: o8 :: some v9 :: rr) H Q = Q v9 H := by simp [tVar]
theorem w_v10 : tVar 10 (o0 :: o1 :: o2 :: o3 :: o4 :: o5 :: o6 :: o7 :: o8 :: o9 :: some v10 :: rr) H Q = Q v10 H := by simp [tVar]
theorem w_v11 : tVar 11 (o0 :: o1 :: o2 :: o3 :: o4 :: o5 :: o6 :: o7 :: o8 :: o9 :: o10 :: some v11 :: rr) H Q = Q v11 H := by simp [tVar]
theorem w_c {v : V} : tC v σ H Q = Q v H := rfl
theorem w_seq : tSeq t u D σ H = t { D with nx := u D } σ H := rfl
theorem w_ifS : tIfS tt t u D σ H = tt σ H fun b H1 => if b = true then t D σ H1 else u D σ H1 := rfl
theorem w_next : tNext D σ H = D.nx σ H := rfl
theorem w_ret : tRet te D σ H = te σ H D.rt := rfl
theorem w_drop : tDrop te D σ H = te σ H fun _ H1 => D.nx σ H1 := rfl
theorem w_asg : tAsg te g D σ H = te σ H fun x H1 => g x σ H1 D.nx := rfl
theorem w_gName {i : Nat} {x : V} {Qs : St → Hp → Prop} : gName i x σ H Qs = Qs (σ.set i (some x)) H := rfl
theorem w_op : tOp r ta tb σ H Q = ta σ H fun x H1 => tb σ H1 fun y H2 => r x y H2 Q := rfl
variable {Qb : Bool → Hp → Prop} {Qs : List V → Hp → Prop}
theorem w_test : tTest te σ H Qb = te σ H fun x H' => ∃ k, x = .bl k ∧ Qb k H' := rfl
theorem w_B : tB te σ H Qb = te σ H fun x H' => ∃ k, x = .bl k ∧ Qb k H' := rfl
theorem w_bl {b : Bool} {P : Bool → Prop} : (∃ k, V.bl b = .bl k ∧ P k) = P b := by
  refine propext ⟨fun ⟨k, e, h⟩ => ?_, fun h => ⟨b, rfl, h⟩⟩
  cases e; exact h
theorem w_blA {b : Bool} {P : Bool → Prop} {P2 : Bool → Prop} : (∃ k, V.bl b = .bl k ∧ if k = true then P k else P2 k) = if b = true then P b else P2 b := w_bl
theorem w_and : tAnd tA tB' σ H Qb = tA σ H fun c H1 => if c = true then tB' σ H1 Qb else Qb false H1 := rfl
theorem w_or : tOr tA tB' σ H Qb = tA σ H fun c H1 => if c = true then Qb true H1 else tB' σ H1 Qb := rfl
theorem w_not : tNot tA σ H Qb = tA σ H fun c H1 => Qb (!c) H1 := rfl
theorem w_andV : tAndV ta tb σ H Q = ta σ H fun x H1 => ∃ c, x = .bl c ∧ if c = true then tb σ H1 Q else Q (.bl false) H1 := rfl
theorem w_notV : tNotV ta σ H Q = ta σ H fun x H1 => ∃ c, x = .bl c ∧ Q (.bl (!c)) H1 := rfl
theorem w_true : tTrue σ H Qb = Qb true H := rfl
theorem w_nil : tNil σ H Qs = Qs [] H := rfl
theorem w_cons : tCons ta tl σ H Qs = ta σ H fun x H1 => tl σ H1 fun xs H2 => Qs (x :: xs) H2 := rfl
theorem w_tup : tTup tl σ H Q = tl σ H fun xs H1 => xs.length ≤ sizeLine ∧ ∀ p, H1 p = none → Q (.ref p) (upd H1 p (.tup xs)) := rfl
theorem w_lst : tLst tl σ H Q = tl σ H fun xs H1 => xs.length ≤ sizeLine ∧ ∀ p, H1 p = none → Q (.ref p) (upd H1 p (.lst xs)) := rfl
theorem w_call {sp : Sp} {dvs : List V} {E : XK} : tCall sp dvs E tl σ H Q = tl σ H fun vs H1 => sp (vs ++ dvs) H1 Q E := rfl
theorem w_CB {f : List V → Hp → VK → Prop} : tCB f tl σ H Q = tl σ H fun vs H1 => f vs H1 Q := rfl
theorem w_BM {T : String} {f : V → List V → Hp → VK → Prop} : tBM K T f te tl σ H Q = te σ H fun x H1 => tyV K T x H1 ∧ tl σ H1 fun xs H2 => f x xs H2 Q := rfl
theorem w_ty_str {T : String} {x : Str} : tyV K T (.str x) H = (T = "str") := rfl
theorem w_ty_list {T : String} {p : Addr} (h : T = "list") : tyV K T (.ref p) H = ∃ xs, SqL K H p xs := by
  subst h
  refine propext ⟨fun h => ?_, fun h => .inl ⟨rfl, h⟩⟩
  rcases h with ⟨_, h⟩ | ⟨h, _⟩ | ⟨h, _⟩ | ⟨h, _⟩
  · exact h
  · exact absurd h (by decide)
  · exact absurd h (by decide)
  · exact absurd h (by decide)
variable {tlo thi : TO} {Qo : Option Int → Hp → Prop}
theorem w_sl {f : V → Option Int → Option Int → Hp → VK → Prop} : tSl f te tlo thi σ H Q = te σ H fun x H1 => tlo σ H1 fun l H2 => thi σ H2 fun u H3 => f x l u H3 Q := rfl
theorem w_noPart : tNoPart σ H Qo = Qo none H := rfl
theorem w_part : tPart te σ H Qo = te σ H fun x H1 => ∃ i, x = .int i ∧ Qo (some i) H1 := rfl
theorem w_int {i : Int} {P : Int → Prop} : (∃ k, V.int i = .int k ∧ P k) = P i := by
  refine propext ⟨fun ⟨k, e, h⟩ => ?_, fun h => ⟨i, rfl, h⟩⟩
  cases e; exact h
variable {i j : Int} {x y : Str} {b c : Bool} {p q : Addr} {gi : Int → Int → V} {C : Int → Int → Prop}
theorem w_rI0 : rI0 gi (.int i) (.int j) H Q = Q (gi i j) H := by
  refine propext ⟨fun ⟨_, _, e1, e2, h⟩ => ?_, fun h => ⟨i, j, rfl, rfl, h⟩⟩
  cases e1; cases e2; exact h
theorem w_rI : rI C gi (.int i) (.int j) H Q = (C i j ∧ Q (gi i j) H) := by
  refine propext ⟨fun ⟨_, _, e1, e2, h⟩ => ?_, fun h => ⟨i, j, rfl, rfl, h⟩⟩
  cases e1; cases e2; exact h
theorem w_mulI : rMulA (.int i) (.int j) H Q = (CMul i j ∧ Q (.int (i * j)) H) := by
  unfold rMulA
  rw [w_rI]
  refine propext ⟨fun h => ?_, .inl⟩
  rcases h with h | ⟨_, _, _, e, _⟩
  · exact h
  · cases e
theorem w_neI : rNe (.int i) (.int j) H Q = Q (.bl (!decide (i = j))) H := by
  refine propext ⟨fun ⟨_, h⟩ => by simpa using h, fun h => ⟨rfl, by simpa using h⟩⟩
theorem w_neS : rNe (.str x) (.str y) H Q = Q (.bl (!decide (x = y))) H := by
  refine propext ⟨fun ⟨_, h⟩ => by simpa using h, fun h => ⟨rfl, by simpa using h⟩⟩
theorem w_ltI : rLtA (.int i) (.int j) H Q = Q (.bl (decide (i < j))) H := by
  unfold rLtA
  rw [w_rI0]
  refine propext ⟨fun h => ?_, .inl⟩
  rcases h with h | ⟨_, _, e, _⟩
  · exact h
  · cases e
theorem w_inS : rInA K false (.str x) (.str y) H Q = Q (.bl (inS x y)) H := by
  refine propext ⟨fun h => ?_, fun h => .inl ⟨x, y, rfl, rfl, h⟩⟩
  rcases h with ⟨_, _, e1, e2, h⟩ | ⟨_, _, e, _⟩
  · cases e1; cases e2; exact h
  · cases e
theorem w_notinS : rInA K true (.str x) (.str y) H Q = Q (.bl (!inS x y)) H := by
  refine propext ⟨fun h => ?_, fun h => .inl ⟨x, y, rfl, rfl, h⟩⟩
  rcases h with ⟨_, _, e1, e2, h⟩ | ⟨_, _, e, _⟩
  · cases e1; cases e2; exact h
  · cases e
theorem w_inR {v : V} : rInA K false v (.ref p) H Q = ∃ xs, (SqL K H p xs ∨ SqT K H p xs) ∧ flatV v = true ∧ xs.all flatV = true ∧ Q (.bl (inV v xs)) H := by
  refine propext ⟨fun h => ?_, fun ⟨xs, h⟩ => .inr ⟨p, xs, rfl, h⟩⟩
  rcases h with ⟨_, _, _, e2, _⟩ | ⟨_, xs, e, h⟩
  · cases e2
  · cases e; exact ⟨xs, h⟩
theorem w_notinR {v : V} : rInA K true v (.ref p) H Q = ∃ xs, (SqL K H p xs ∨ SqT K H p xs) ∧ flatV v = true ∧ xs.all flatV = true ∧ Q (.bl (!inV v xs)) H := by
  refine propext ⟨fun h => ?_, fun ⟨xs, h⟩ => .inr ⟨p, xs, rfl, h⟩⟩
  rcases h with ⟨_, _, _, e2, _⟩ | ⟨_, xs, e, h⟩
  · cases e2
  · cases e; exact ⟨xs, h⟩
theorem w_ixS : rIx K (.str x) (.int i) H Q = (x.length ≤ sizeLine ∧ ∃ c, atI x.cps.toList i = some c ∧ Q (.str ⟨#[c]⟩) H) := by
  refine propext ⟨fun h => ?_, fun ⟨h1, c, h2, h3⟩ => .inr (.inr ⟨x, i, c, rfl, rfl, h1, h2, h3⟩)⟩
  rcases h with ⟨_, _, _, _, e, _⟩ | ⟨_, _, _, _, e, _⟩ | ⟨_, _, c, e1, e2, h1, h2, h3⟩
  · cases e
  · cases e
  · cases e1; cases e2; exact ⟨h1, c, h2, h3⟩
theorem w_ixR : rIx K (.ref p) (.int i) H Q = ∃ xs, (SqL K H p xs ∨ SqT K H p xs) ∧ ∃ v, atI xs i = some v ∧ Q v H := by
  refine propext ⟨fun h => ?_, fun ⟨xs, h, v, e, q⟩ => ?_⟩
  · rcases h with ⟨_, xs, _, v, e1, e2, h1, h2, h3⟩ | ⟨_, xs, _, v, e1, e2, h1, h2, h3⟩ | ⟨_, _, _, e, _⟩
    · cases e1; cases e2; exact ⟨xs, .inl h1, v, h2, h3⟩
    · cases e1; cases e2; exact ⟨xs, .inr h1, v, h2, h3⟩
    · cases e
  · rcases h with h | h
    · exact .inl ⟨p, xs, i, v, rfl, rfl, h, e, q⟩
    · exact .inr (.inl ⟨p, xs, i, v, rfl, rfl, h, e, q⟩)
theorem w_lenS : rLen K [.str x] H Q = (x.length ≤ sizeLine ∧ Q (.int x.length) H) := by
  refine propext ⟨fun ⟨_, n, e, h, q⟩ => ?_, fun ⟨h, q⟩ => ⟨_, _, rfl, ⟨h, rfl⟩, q⟩⟩
  cases e
  obtain ⟨h1, rfl⟩ := h
  exact ⟨h1, q⟩
theorem w_lenR : rLen K [.ref p] H Q = ∃ xs, (SqL K H p xs ∨ SqT K H p xs) ∧ Q (.int (xs.length : Nat)) H := by
  refine propext ⟨fun ⟨_, n, e, h, q⟩ => ?_, fun ⟨xs, h, q⟩ => ?_⟩
  · cases e
    rcases h with ⟨xs, h, rfl⟩ | ⟨xs, h, rfl⟩
    · exact ⟨xs, .inl h, q⟩
    · exact ⟨xs, .inr h, q⟩
  · rcases h with h | h
    · exact ⟨_, _, rfl, .inl ⟨xs, h, rfl⟩, q⟩
    · exact ⟨_, _, rfl, .inr ⟨xs, h, rfl⟩, q⟩
theorem w_all : rAll K [.ref p] H Q = ∃ bs : List Bool, SqL K H p (bs.map V.bl) ∧ Q (.bl (bs.all id)) H := by
  refine propext ⟨fun ⟨_, bs, e, h⟩ => ?_, fun ⟨bs, h⟩ => ⟨p, bs, rfl, h⟩⟩
  cases e; exact ⟨bs, h⟩
theorem w_join {sep : Str} : rJoin K (.str sep) [.ref p] H Q = ∃ ys : List Str, SqL K H p (ys.map V.str) ∧ (ys.map (·.length)).sum + ys.length * sep.length ≤ 16777216 ∧ Q (.str (Txt.join sep ys)) H := by
  refine propext ⟨fun ⟨_, _, ys, e1, e2, h⟩ => ?_, fun ⟨ys, h⟩ => ⟨sep, p, ys, rfl, rfl, h⟩⟩
  cases e1; cases e2; exact ⟨ys, h⟩
theorem w_intB {b : Bool} : rIntOf [.bl b] H Q = Q (.int (if b then 1 else 0)) H := by
  refine propext ⟨fun h => ?_, fun h => .inr ⟨b, rfl, h⟩⟩
  rcases h with ⟨_, e, _⟩ | ⟨_, e, h⟩
  · cases e
  · cases e; exact h
theorem w_intI : rIntOf [.int i] H Q = Q (.int i) H := by
  refine propext ⟨fun h => ?_, fun h => .inl ⟨i, rfl, h⟩⟩
  rcases h with ⟨_, e, h⟩ | ⟨_, e, _⟩
  · cases e; exact h
  · cases e
variable {R : It → Hp → Prop}
theorem w_itS : iAnyV K (.str x) H R = R (Its x) H := by
  refine propext ⟨fun h => ?_, fun h => .inl ⟨x, rfl, h⟩⟩
  rcases h with ⟨_, e, h⟩ | ⟨_, e, _⟩ | ⟨_, e, _⟩
  · cases e; exact h
  · cases e
  · cases e
theorem w_itR : iAnyV K (.ref p) H R = (((∃ xs, SqL K H p xs) ∧ R (Itl K p) H) ∨ ((∃ xs, SqT K H p xs) ∧ R (Itt K p) H)) := by
  refine propext ⟨fun h => ?_, fun h => ?_⟩
  · rcases h with ⟨_, e, _⟩ | ⟨_, e, h⟩ | ⟨_, e, h⟩
    · cases e
    · cases e; exact .inl h
    · cases e; exact .inr h
  · rcases h with h | h
    · exact .inr (.inl ⟨p, rfl, h⟩)
    · exact .inr (.inr ⟨p, rfl, h⟩)
theorem w_iAny : iAny K te σ H R = te σ H fun x H1 => iAnyV K x H1 R := rfl
theorem w_rng1 : iRng1 tl σ H R = tl σ H fun vs H1 => ∃ j : Int, vs = [.int j] ∧ -(2 ^ 62) ≤ j ∧ j < 2 ^ 62 ∧ R (Itr 0 j.toNat) H1 := rfl
theorem w_rngI {P : Int → Prop} : (∃ j : Int, [V.int i] = [.int j] ∧ P j) = P i := by
  refine propext ⟨fun ⟨_, e, h⟩ => ?_, fun h => ⟨i, rfl, h⟩⟩
  cases e; exact h
end
end L2
set_option Elab.async false
set_option linter.all false
set_option maxRecDepth 100000
set_option maxHeartbeats 4000000
namespace L2
open PySem PySem.Spec PyProof.Rows
section
variable {K : PySem.W.Frag} {H : Hp} {Q : VK} {σ : St} {D : Ends} {ta tb tc te ti to : TE} {i j : Int} {x y : Str} {p q : Addr} {v : V} {T : String} {lo hi : Option Int}
theorem w_ints2 {P : Int → Int → Prop} : (∃ i' j', [V.int i, V.int j] = [V.int i', V.int j'] ∧ P i' j') = P i j := by
  refine propext ⟨fun ⟨_, _, e, h⟩ => ?_, fun h => ⟨i, j, rfl, h⟩⟩
  cases e; exact h
theorem w_tupleOf : rTupleOf K [.ref p] H Q = ∃ ys, (SqL K H p ys ∧ ∀ l, H l = none → Q (.ref l) (upd H l (.tup ys))) ∨ (SqT K H p ys ∧ Q (.ref p) H) := by
  refine propext ⟨fun ⟨_, ys, e, h⟩ => ?_, fun ⟨ys, h⟩ => ⟨p, ys, rfl, h⟩⟩
  cases e; exact ⟨ys, h⟩
theorem w_listOf : rListOf K [.ref p] H Q = ∃ ys, (SqL K H p ys ∨ SqT K H p ys) ∧ ∀ l, H l = none → Q (.ref l) (upd H l (.lst ys)) := by
  refine propext ⟨fun ⟨_, ys, e, h⟩ => ?_, fun ⟨ys, h⟩ => ⟨p, ys, rfl, h⟩⟩
  cases e; exact ⟨ys, h⟩
theorem w_append : rAppend (.ref p) [v] H Q = ∃ xs, H p = some (.lst xs) ∧ xs.length < sizeLine ∧ Q .non (upd H p (.lst (xs ++ [v]))) := by
  refine propext ⟨fun ⟨_, xs, _, e1, e2, h⟩ => ?_, fun ⟨xs, h⟩ => ⟨p, xs, v, rfl, rfl, h⟩⟩
  cases e1; cases e2; exact ⟨xs, h⟩
theorem w_extend : rExtend (.ref p) [.ref q] H Q = ∃ xs zs, H p = some (.lst xs) ∧ H q = some (.lst zs) ∧ xs.length + zs.length ≤ sizeLine ∧ Q .non (upd H p (.lst (xs ++ zs))) := by
  refine propext ⟨fun ⟨_, _, xs, zs, e1, e2, h⟩ => ?_, fun ⟨xs, zs, h⟩ => ⟨p, q, xs, zs, rfl, rfl, h⟩⟩
  cases e1; cases e2; exact ⟨xs, zs, h⟩
theorem w_setL {Qh : Hp → Prop} : rSetL (.ref p) (.int i) v H Qh = ∃ xs j, H p = some (.lst xs) ∧ ixN xs.length i = some j ∧ Qh (upd H p (.lst (xs.set j v))) := by
  refine propext ⟨fun ⟨_, xs, _, j, e1, e2, h⟩ => ?_, fun ⟨xs, j, h⟩ => ⟨p, xs, i, j, rfl, rfl, h⟩⟩
  cases e1; cases e2; exact ⟨xs, j, h⟩
theorem w_gSub {t : TSet} {Qs : St → Hp → Prop} : gSub to ti t v σ H Qs = to σ H fun o H1 => ti σ H1 fun i H2 => t o i v H2 fun H3 => Qs σ H3 := rfl
theorem w_instInt : rInst K T [.int i, .ty T] H Q = ∃ b, PySem.W.kitOne K (.type "int") (.type T) = some b ∧ Q (.bl b) H := by
  refine propext ⟨fun ⟨_, _, b, e, t, h⟩ => ?_, fun ⟨b, h⟩ => ⟨_, _, b, rfl, .int i, h⟩⟩
  cases e; cases t; exact ⟨b, h⟩
theorem w_instStr : rInst K T [.str x, .ty T] H Q = ∃ b, PySem.W.kitOne K (.type "str") (.type T) = some b ∧ Q (.bl b) H := by
  refine propext ⟨fun ⟨_, _, b, e, t, h⟩ => ?_, fun ⟨b, h⟩ => ⟨_, _, b, rfl, .str x, h⟩⟩
  cases e; cases t; exact ⟨b, h⟩
theorem w_slR : rSlA K (.ref p) lo hi H Q = ∃ xs, (SqL K H p xs ∧ ∀ q, H q = none → Q (.ref q) (upd H q (.lst (cutV xs lo hi)))) ∨
    (SqT K H p xs ∧ ¬ (HT.sIx xs.length 0 lo = 0 ∧ HT.sIx xs.length xs.length hi = xs.length) ∧ ∀ q, H q = none → Q (.ref q) (upd H q (.tup (cutV xs lo hi)))) := by
  refine propext ⟨fun h => ?_, fun ⟨xs, h⟩ => ?_⟩
  · rcases h with ⟨_, e, _⟩ | ⟨_, xs, e, h⟩ | ⟨_, xs, e, h⟩
    · cases e
    · cases e; exact ⟨xs, .inl h⟩
    · cases e; exact ⟨xs, .inr h⟩
  · rcases h with h | h
    · exact .inr (.inl ⟨p, xs, rfl, h⟩)
    · exact .inr (.inr ⟨p, xs, rfl, h⟩)
theorem w_catR : rAddA K (.ref p) (.ref q) H Q = ∃ xs zs, (H p = some (.lst xs) ∧ H q = some (.lst zs) ∧ xs.length + zs.length ≤ sizeLine ∧ ∀ r, H r = none → Q (.ref r) (upd H r (.lst (xs ++ zs)))) ∨
    (SqT K H p xs ∧ SqT K H q zs ∧ xs ≠ [] ∧ xs.length + zs.length ≤ sizeLine ∧ (zs = [] → Q (.ref p) H) ∧ (zs ≠ [] → ∀ r, H r = none → Q (.ref r) (upd H r (.tup (xs ++ zs))))) := by
  refine propext ⟨fun h => ?_, fun ⟨xs, zs, h⟩ => ?_⟩
  · rcases h with ⟨_, _, e, _⟩ | ⟨_, _, e, _⟩ | ⟨_, _, xs, zs, e1, e2, h⟩ | ⟨_, _, xs, zs, e1, e2, h⟩
    · cases e
    · cases e
    · cases e1; cases e2; exact ⟨xs, zs, .inl h⟩
    · cases e1; cases e2; exact ⟨xs, zs, .inr h⟩
  · rcases h with h | h
    · exact .inr (.inr (.inl ⟨p, q, xs, zs, rfl, rfl, h⟩))
    · exact .inr (.inr (.inr ⟨p, q, xs, zs, rfl, rfl, h⟩))
end
theorem mtR_append {X : Cx} : MtR X "list.append" rAppend := mt_append
theorem Same.upd {H0 H : Hp} {p : Addr} {o : HO} (s : Same H0 H) (h : H0 p = none) : Same H0 (upd H p o) := fun b u q => by rw [upd_ne (ne_of_none q h)]; exact s b u q
theorem keep1 {H : Hp} {p a : Addr} {o u : HO} (hn : H p = none) (h : H a = some u) : upd H p o a = some u := by rw [upd_ne (ne_of_none h hn)]; exact h
inductive Bi where | and | or | thn
  deriving DecidableEq
inductive Stm where
  | is (w : Str) (ts : List Str) | fls | neg (A : Stm) | bi (o : Bi) (A B : Stm) | qu (q : Bool) (X : Str) (A : Stm)
  deriving DecidableEq
namespace Stm
def parts : Stm → List Stm
  | .is _ _ => [] | .fls => [] | .neg A => [A] | .bi _ A B => [A, B] | .qu _ _ A => [A]
end Stm
def smallS : Str := "abcdefghijklmnopqrstuvwxyz"
def greatS : Str := "ABCDEFGHIJKLMNOPQRSTUVWXYZ"
def sofS : Str := "abcdefghijklmnopqrstuvwxyz0123456789"
def keptW : List Str := ["not", "and", "or", "then", "all", "some", "false"]
def Nm (f x : Str) : Prop := ∃ c r, x.cps.toList = c :: r ∧ c ∈ f.cps.toList ∧ (∀ d ∈ r, d ∈ sofS.cps.toList) ∧ r.length ≤ 7 ∧ x ∉ keptW
def cellI (ns : List Int) (k : Int) : Int := if k < (ns.length : Int) then ns.getD k.toNat 0 else 0
def spCell (K : PySem.W.Frag) : Sp := fun vs H Q _ => ∃ (a : Addr) (ns : List Int) (k : Int), vs = [.ref a, .int k] ∧ SqL K H a (ns.map V.int) ∧ 0 ≤ k ∧ Q (.int (cellI ns k)) H
def spNameBy : Sp := fun vs H Q _ => ∃ n f t, vs = [.int n, .str f, .int t] ∧ (f = smallS ∨ f = greatS) ∧ ∀ x H', Same H H' → Nm f x → Q (.str x) H'
theorem cps_append' (x y : Str) : (x ++ y).cps.toList = x.cps.toList ++ y.cps.toList := by
  rw [Str.cps_append]; simp
theorem len_cps (x : Str) : x.cps.toList.length = x.length := by simp [Str.length]
theorem join_signs : ∀ cs : List Nat, (Txt.join "" (cs.map fun c => (⟨#[c]⟩ : Str))).cps.toList = cs := by
  intro cs
  show (Builtin.Str.glued "" _).cps.toList = cs
  rw [StrLaws.glued_eq_join]
  induction cs with
  | nil => rfl
  | cons c r ih =>
    cases r with
    | nil => rfl
    | cons d r =>
      show ((⟨#[c]⟩ : Str) ++ "" ++ Str.join "" _).cps.toList = _
      rw [cps_append', cps_append', ih]
      rfl
theorem range_ix (p q : Int) (a b : Nat) (hp : p = a) (hq : q = b) : sliceRange p q 1 = (List.range (b - a)).map fun k => a + k := by
  subst hp hq
  unfold sliceRange
  simp only [show (1 : Int) > 0 by decide, if_true]
  by_cases hab : a < b
  · rw [if_pos (by omega)]
    have e : (((b : Int) - a + 1 - 1) / 1).toNat = b - a := by omega
    rw [e]
    refine List.map_congr_left fun k _ => ?_
    omega
  · rw [if_neg (by omega), show b - a = 0 by omega]
    rfl
theorem slice_ix (lo hi : Option Int) (n : Nat) : Builtin.Str.strSliceIndices lo hi 1 n = (List.range (HT.sIx n n hi - HT.sIx n 0 lo)).map fun k => HT.sIx n 0 lo + k := by
  have cl : ∀ (v : Int) (d : Nat), max 0 (min (if v < 0 then v + (n : Int) else v) (n : Int)) = ((HT.sIx n d (some v) : Nat) : Int) := fun v d => by
    rw [← HT.clip_eq]; split <;> omega
  refine range_ix _ _ _ _ ?_ ?_
  · cases lo with
    | none => rfl
    | some v => exact cl v 0
  · cases hi with
    | none => rfl
    | some v => exact cl v n
theorem slice_cps (x : Str) (lo hi : Option Int) : (Txt.slice x lo hi).cps.toList = (x.cps.toList.drop (HT.sIx x.length 0 lo)).take (HT.sIx x.length x.length hi - HT.sIx x.length 0 lo) := by
  have hl := len_cps x
  have ha : HT.sIx x.length 0 lo ≤ x.length := HT.sIx_le _ 0 (Nat.zero_le _) lo
  have hb : HT.sIx x.length x.length hi ≤ x.length := HT.sIx_le _ _ (Nat.le_refl _) hi
  unfold Txt.slice
  rw [slice_ix]
  generalize HT.sIx x.length 0 lo = a at *
  generalize HT.sIx x.length x.length hi = b at *
  split
  · rename_i h
    simp at h
    have : a = 0 ∧ b = x.length ∨ x.length = 0 := by omega
    rcases this with ⟨rfl, rfl⟩ | h0
    · rw [List.drop_zero, Nat.sub_zero, List.take_of_length_le (by omega)]
    · have : x.cps.toList = [] := List.eq_nil_of_length_eq_zero (by omega)
      rw [this]; simp
  · by_cases hab : a ≤ b
    · have h := StrLaws.picks x.cps.toList (b - a) a (by rw [hl]; omega)
      rw [← h]
      simp only [List.toList_toArray]
      congr 1
      funext k
      simp
    · rw [show b - a = 0 by omega]; simp
theorem slice_to (x : Str) (n : Nat) : (Txt.slice x none (some (n : Int))).cps.toList = x.cps.toList.take n := by
  have hl := len_cps x
  rw [slice_cps, HT.sIx_nat, HT.sIx_none, List.drop_zero, Nat.sub_zero, ← hl, List.take_eq_take_iff]
  simp
theorem slice_from (x : Str) (n : Nat) : (Txt.slice x (some (n : Int)) none).cps.toList = x.cps.toList.drop n := by
  have hl := len_cps x
  rw [slice_cps, HT.sIx_nat, HT.sIx_none]
  rw [List.take_of_length_le (by rw [List.length_drop]; omega)]
  by_cases h : n ≤ x.length
  · rw [Nat.min_eq_left h]
  · rw [List.drop_eq_nil_of_le (by omega), List.drop_eq_nil_of_le (by omega)]
theorem cdiv {i j : Int} (h : 0 < j := by decide) (h2 : j < 1073741824 := by decide) : CDiv i j := ⟨h, h2⟩
theorem cmulL {i j : Int} (h : -(2 ^ 64) < i ∧ i < 2 ^ 64 := by decide) : CMul i j := .inl h
theorem cmulR {i j : Int} (h : -(2 ^ 64) < j ∧ j < 2 ^ 64 := by decide) : CMul i j := .inr h
theorem atI_ints {ns : List Int} {i : Int} (h0 : 0 ≤ i) (h1 : i < (ns.length : Int)) : atI (ns.map V.int) i = some (.int (ns.getD i.toNat 0)) := by
  have hk : i.toNat < ns.length := by omega
  rw [atI_getD (d := .int 0) h0 (by simpa using h1)]
  simp [hk]
theorem pickI {ts : List Int} {i : Int} (h0 : 0 ≤ i) (h1 : i < (ts.length : Int)) : ∃ z, z ∈ ts ∧ atI (ts.map V.int) i = some (.int z) := by
  have hk : i.toNat < ts.length := by omega
  refine ⟨ts[i.toNat], List.getElem_mem hk, ?_⟩
  rw [atI_getD (d := .non) h0 (by simpa using h1)]
  simp [hk]
theorem ixN_in {n : Nat} {i : Int} (h0 : 0 ≤ i) (h1 : i < n) : ixN n i = some i.toNat := by
  unfold ixN; rw [if_pos h0, if_pos h1]
theorem signs_len : ∀ cs : List Nat, ((cs.map fun c => (⟨#[c]⟩ : Str)).map (·.length)).sum = cs.length
  | [] => rfl
  | c :: r => by rw [List.map_cons, List.map_cons, List.sum_cons, signs_len r, List.length_cons]; show 1 + _ = _; omega
theorem inS_one (c : Nat) (x : Str) : inS ⟨#[c]⟩ x = decide (c ∈ x.cps.toList) := StrLaws.found_one x c
theorem inV_strs (x : Str) : ∀ ts : List Str, inV (.str x) (ts.map V.str) = decide (x ∈ ts)
  | [] => by simp [inV]
  | t :: ts => by
    have ih := inV_strs x ts
    unfold inV at ih ⊢
    rw [List.map_cons, List.any_cons, ih]
    have e : eqV (V.str t) (V.str x) = decide (x = t) := by
      show (t == x) = decide (x = t)
      by_cases h : x = t
      · subst h; simp
      · have h' : ¬ t = x := fun e => h e.symm
        simp [h, h']
    rw [e]
    simp
theorem flat_strs (ts : List Str) : (ts.map V.str).all flatV = true := by
  rw [List.all_map, List.all_eq_true]; intro t _; rfl
def GoodS (f : Str) (cs : List Nat) : Prop := ∃ c r, cs = c :: r ∧ c ∈ f.cps.toList ∧ (∀ d ∈ r, d ∈ sofS.cps.toList) ∧ r.length ≤ 7
theorem good_0 {f : Str} {cs : List Nat} {c0 c1 : Nat} (hl : 1 ≤ cs.length) (hl' : cs.length ≤ 8) (hcs : ∀ c ∈ cs, c ∈ sofS.cps.toList) (h1 : c1 ∈ f.cps.toList) : GoodS f ((cs.set 0 c0).set 0 c1) := by
  cases cs with
  | nil => simp at hl
  | cons d r => exact ⟨c1, r, rfl, h1, fun e he => hcs e (List.mem_cons_of_mem _ he), by simpa using hl'⟩
theorem good_n {f : Str} {cs : List Nat} {c0 c1 j : Nat} (hj : j ≠ 0) (hl : 1 ≤ cs.length) (hl' : cs.length ≤ 8) (hcs : ∀ c ∈ cs, c ∈ sofS.cps.toList) (h0 : c0 ∈ f.cps.toList) (h1 : c1 ∈ sofS.cps.toList) : GoodS f ((cs.set 0 c0).set j c1) := by
  cases cs with
  | nil => simp at hl
  | cons d r =>
    cases j with
    | zero => exact absurd rfl hj
    | succ j =>
      refine ⟨c0, r.set j c1, rfl, h0, fun e he => ?_, by simpa using hl'⟩
      rcases List.mem_or_eq_of_mem_set he with he | rfl
      · exact hcs e (List.mem_cons_of_mem _ he)
      · exact h1
theorem kept_small : ∀ z ∈ keptW, 1 ≤ z.length ∧ z.length ≤ 5 ∧ ∀ c ∈ z.cps.toList, c ∈ smallS.cps.toList := by decide +kernel
theorem kept_last : ∀ y ∈ keptW, y.cps.toList.getLast? ≠ some 48 := by decide +kernel
theorem nm_plain {f x : Str} {cs : List Nat} (g : GoodS f cs) (e : x.cps.toList = cs) (h : x ∉ keptW) : Nm f x := by
  obtain ⟨c, r, rfl, h1, h2, h3⟩ := g
  exact ⟨c, r, e, h1, h2, h3, h⟩
theorem nm_nought {f x y : Str} {cs : List Nat} (g : GoodS f cs) (e : x.cps.toList = cs) (h : x ∈ keptW) (ey : y = x ++ "0") : Nm f y := by
  obtain ⟨c, r, rfl, h1, h2, h3⟩ := g
  have hl := (kept_small x h).2.1
  rw [← len_cps, e, List.length_cons] at hl
  have e2 : y.cps.toList = c :: (r ++ [48]) := by
    rw [ey, cps_append', e]; rfl
  refine ⟨c, r ++ [48], e2, h1, fun d hd => ?_, by rw [List.length_append, List.length_singleton]; omega, fun hy => ?_⟩
  · rcases List.mem_append.mp hd with q | q
    · exact h2 d q
    · rw [List.mem_singleton.mp q]; decide +kernel
  · refine kept_last y hy ?_
    rw [e2, ← List.cons_append, List.getLast?_concat]
end L2
set_option Elab.async false
set_option linter.all false
set_option maxRecDepth 100000
set_option maxHeartbeats 4000000
namespace L2
open PySem PySem.Spec PyProof.Rows
section
variable {X : Cx} {K : PySem.W.Frag} {H : Hp} {Q : VK} {p q : Addr}
def rJoinA (K : PySem.W.Frag) : V → List V → Hp → VK → Prop := fun x vs H Q => ∃ (sep : Str) (p : Addr) (ys : List Str), x = .str sep ∧ vs = [.ref p] ∧ (SqL K H p (ys.map V.str) ∨ SqT K H p (ys.map V.str)) ∧ (ys.map (·.length)).sum + ys.length * sep.length ≤ 16777216 ∧ Q (.str (Txt.join sep ys)) H
theorem mt_joinA : MtR X "str.join" (rJoinA X.K) := by
  intro pins s σ H x vs v us Q I rx rv h
  obtain ⟨sep, p, ys, rfl, rfl, hq, hz, q⟩ := h
  rcases hq with hq | hq
  · exact mt_join pins s σ H _ _ v us Q I rx rv ⟨sep, p, ys, rfl, rfl, hq, hz, q⟩
  · obtain ⟨t, rfl⟩ := rx
    obtain ⟨u, rfl, ru⟩ := vals1 rv
    cases ru
    obtain ⟨its, r', pl, _⟩ := I.tuple hq
    exact join_tuple pl (by simpa using strsAre_of r') hz fun t' k => ⟨.str _, H, I.tok _, ⟨t', rfl⟩, q⟩
theorem mtB_join (K : PySem.W.Frag) (hK : X.K = K := by rfl) : MtR X "str.join" (rJoinA K) := hK ▸ (mt_joinA : MtR X "str.join" (rJoinA X.K))
theorem w_joinA {sep : Str} : rJoinA K (.str sep) [.ref p] H Q = ∃ ys : List Str, (SqL K H p (ys.map V.str) ∨ SqT K H p (ys.map V.str)) ∧ (ys.map (·.length)).sum + ys.length * sep.length ≤ 16777216 ∧ Q (.str (Txt.join sep ys)) H := by
  refine propext ⟨fun ⟨_, _, ys, e1, e2, h⟩ => ?_, fun ⟨ys, h⟩ => ⟨sep, p, ys, rfl, rfl, h⟩⟩
  cases e1; cases e2; exact ⟨ys, h⟩
end
inductive EqD (K : PySem.W.Frag) (H : Hp) : Nat → V → V → Bool → Prop
  | flat {n : Nat} {x y : V} (hx : flatV x = true) (hy : flatV y = true) : EqD K H n x y (eqV x y)
  | tups {n : Nat} {a b : Addr} {xs ys : List V} (e : Nat → Bool) (ha : SqT K H a xs) (hb : SqT K H b ys) (he : ∀ (j : Nat) x y, xs[j]? = some x → ys[j]? = some y → EqD K H n x y (e j)) :
      EqD K H (n + 1) (.ref a) (.ref b) ((List.range (min xs.length ys.length)).all e && xs.length == ys.length)
  | lsts {n : Nat} {a b : Addr} {xs ys : List V} (e : Nat → Bool) (ha : SqL K H a xs) (hb : SqL K H b ys) (hl : xs.length = ys.length) (he : ∀ (j : Nat) x y, xs[j]? = some x → ys[j]? = some y → EqD K H n x y (e j)) :
      EqD K H (n + 1) (.ref a) (.ref b) ((List.range xs.length).all e)
  | lstsN {n : Nat} {a b : Addr} {xs ys : List V} (ha : SqL K H a xs) (hb : SqL K H b ys) (hl : xs.length ≠ ys.length) : EqD K H (n + 1) (.ref a) (.ref b) false
  | strTup {n : Nat} {a : Addr} {x : Str} {xs : List V} (ha : SqT K H a xs) : EqD K H (n + 1) (.str x) (.ref a) false
  | tupStr {n : Nat} {a : Addr} {x : Str} {xs : List V} (ha : SqT K H a xs) : EqD K H (n + 1) (.ref a) (.str x) false
  | nonTup {n : Nat} {a : Addr} {xs : List V} (ha : SqT K H a xs) : EqD K H (n + 1) .non (.ref a) false
  | tupNon {n : Nat} {a : Addr} {xs : List V} (ha : SqT K H a xs) : EqD K H (n + 1) (.ref a) .non false
section
variable {X : Cx} {pins : List (Addr × Obj)} {σ : St} {H : Hp} {s : Shared}
theorem eqV_self {x : V} (h : flatV x = true) : eqV x x = true := by
  cases x <;> simp_all [flatV, eqV]
theorem EqD.self (I : Inv X pins σ H s) {n : Nat} {x y : V} {b : Bool} (h : EqD X.K H n x y b) : x = y → b = true := by
  induction h with
  | flat hx hy => rintro rfl; exact eqV_self hx
  | @tups n a b xs ys e ha hb he ih =>
    intro q
    cases q
    have := I.tuple_inj ha hb
    subst this
    rw [Bool.and_eq_true]
    refine ⟨List.all_eq_true.mpr fun j hj => ?_, by simp⟩
    have hj' : j < xs.length := by simpa using hj
    exact ih j xs[j] xs[j] (by simp [hj']) (by simp [hj']) rfl
  | @lsts n a b xs ys e ha hb hl he ih =>
    intro q
    cases q
    have := I.list_inj ha hb
    subst this
    refine List.all_eq_true.mpr fun j hj => ?_
    have hj' : j < xs.length := by simpa using hj
    exact ih j xs[j] xs[j] (by simp [hj']) (by simp [hj']) rfl
  | lstsN ha hb hl =>
    intro q
    cases q
    exact absurd (congrArg List.length (I.list_inj ha hb)) hl
  | strTup => intro q; cases q
  | tupStr => intro q; cases q
  | nonTup => intro q; cases q
  | tupNon => intro q; cases q
theorem getD_some {xs : List V} {its : List Value} (r : Vals xs its) {j : Nat} (h : j < its.toArray.size) : ∃ x, xs[j]? = some x ∧ RelV x its.toArray[j] := by
  have h' : j < its.length := by simpa using h
  have hx : j < xs.length := by rw [r.length]; exact h'
  obtain ⟨u, e, ru⟩ := r.get (i := j) (x := xs[j]) (by simp [hx])
  have : its[j]? = some its[j] := by simp [h']
  rw [this] at e
  cases e
  exact ⟨xs[j], by simp [hx], by simpa using ru⟩
theorem EqD.at (I : Inv X pins σ H s) {n : Nat} {x y : V} {b : Bool} (h : EqD X.K H n x y b) : ∀ {A : Around} {u v : Value}, A.units + n < cLine → RelV x u → RelV y v →
    SeqAt.EqAt A s u v b ∧ ((flatV x = false ∨ flatV y = false) → SeqAt.RcAt A s u v b) := by
  induction h with
  | flat hx hy =>
    intro A u v _ ru rv
    exact ⟨eqAt_V ru rv hx hy, fun e => by rw [hx, hy] at e; simp at e⟩
  | @tups n a b xs ys e ha hb he ih =>
    intro A u v hu ru rv
    cases ru; cases rv
    obtain ⟨its, r1, p1, _⟩ := I.tuple ha
    obtain ⟨its2, r2, p2, _⟩ := I.tuple hb
    have l1 : its.toArray.size = xs.length := by rw [List.size_toArray]; exact r1.length.symm
    have l2 : its2.toArray.size = ys.length := by rw [List.size_toArray]; exact r2.length.symm
    have rc : SeqAt.RcAt A s (.ref a) (.ref b) ((List.range (min xs.length ys.length)).all e && xs.length == ys.length) := by
      have := SeqAt.RcAt.tuples (A := A) (e := e) p1 p2 (by omega) (fun j h1 h2 => by
        obtain ⟨x, ex, rx⟩ := getD_some r1 h1
        obtain ⟨y, ey, ry⟩ := getD_some r2 h2
        exact (ih j x y ex ey (A := A.in1) (by show A.units + 1 + n < cLine; omega) rx ry).1)
      rw [l1, l2] at this
      exact this
    refine ⟨?_, fun _ => rc⟩
    by_cases hab : a = b
    · subst hab
      have := EqD.self I (.tups e ha hb he) rfl
      rw [this]
      exact SeqAt.EqAt.same _
    · exact SeqAt.EqAt.of_refs hab rc
  | @lsts n a b xs ys e ha hb hl he ih =>
    intro A u v hu ru rv
    cases ru; cases rv
    obtain ⟨its, r1, p1, _⟩ := I.list ha
    obtain ⟨its2, r2, p2, _⟩ := I.list hb
    have l1 : its.toArray.size = xs.length := by rw [List.size_toArray]; exact r1.length.symm
    have l2 : its2.toArray.size = ys.length := by rw [List.size_toArray]; exact r2.length.symm
    have rc : SeqAt.RcAt A s (.ref a) (.ref b) ((List.range xs.length).all e) := by
      have := SeqAt.RcAt.lists (A := A) (e := e) p1.isList p2.isList (by omega) (by omega) (fun j h1 h2 => by
        obtain ⟨x, ex, rx⟩ := getD_some r1 h1
        obtain ⟨y, ey, ry⟩ := getD_some r2 h2
        exact (ih j x y ex ey (A := A.in1) (by show A.units + 1 + n < cLine; omega) rx ry).1)
      rw [l1] at this
      exact this
    refine ⟨?_, fun _ => rc⟩
    by_cases hab : a = b
    · subst hab
      have := EqD.self I (.lsts e ha hb hl he) rfl
      rw [this]
      exact SeqAt.EqAt.same _
    · exact SeqAt.EqAt.of_refs hab rc
  | @lstsN n a b xs ys ha hb hl =>
    intro A u v hu ru rv
    cases ru; cases rv
    obtain ⟨its, r1, p1, _⟩ := I.list ha
    obtain ⟨its2, r2, p2, _⟩ := I.list hb
    have l1 : its.toArray.size = xs.length := by rw [List.size_toArray]; exact r1.length.symm
    have l2 : its2.toArray.size = ys.length := by rw [List.size_toArray]; exact r2.length.symm
    have rc := SeqAt.RcAt.lists_lengths (A := A) p1.isList p2.isList (by rw [l1, l2]; simpa using hl) (by omega)
    refine ⟨?_, fun _ => rc⟩
    by_cases hab : a = b
    · subst hab
      exact absurd (congrArg List.length (I.list_inj ha hb)) hl
    · exact SeqAt.EqAt.of_refs hab rc
  | strTup ha =>
    intro A u v hu ru rv
    cases rv; obtain ⟨t, rfl⟩ := ru
    obtain ⟨its, r1, p1, _⟩ := I.tuple ha
    exact ⟨SeqAt.EqAt.str_tuple _ _ p1 (by omega), fun _ => SeqAt.RcAt.str_tuple _ _ p1 (by omega)⟩
  | tupStr ha =>
    intro A u v hu ru rv
    cases ru; obtain ⟨t, rfl⟩ := rv
    obtain ⟨its, r1, p1, _⟩ := I.tuple ha
    exact ⟨SeqAt.EqAt.tuple_str _ _ p1 (by omega), fun _ => SeqAt.RcAt.tuple_str _ _ p1 (by omega)⟩
  | nonTup ha =>
    intro A u v hu ru rv
    cases rv; cases ru
    obtain ⟨its, r1, p1, _⟩ := I.tuple ha
    exact ⟨SeqAt.EqAt.none_tuple p1 (by omega), fun _ => SeqAt.RcAt.none_tuple p1 (by omega)⟩
  | tupNon ha =>
    intro A u v hu ru rv
    cases ru; cases rv
    obtain ⟨its, r1, p1, _⟩ := I.tuple ha
    exact ⟨SeqAt.EqAt.tuple_none p1 (by omega), fun _ => SeqAt.RcAt.tuple_none p1 (by omega)⟩
end
section
variable {X : Cx} {K : PySem.W.Frag} {H : Hp} {Q : VK} {p q : Addr} {i j : Int} {x y : Str}
def rEqD (K : PySem.W.Frag) : R2 := fun x y H Q => ∃ d b, d ≤ 60 ∧ (flatV x = false ∨ flatV y = false) ∧ EqD K H d x y b ∧ Q (.bl b) H
theorem op_eqD (hu : X.A.units + 64 < cLine) : OpR X (compareOp .Eq) (rEqD X.K) := by
  intro pins s σ H x y v u Q I rx ry h
  obtain ⟨d, b, hd, e, h, k⟩ := h
  exact (h.at I (A := X.A) (by omega) rx ry).2 e X.prog X.w X.xe _ ⟨.bl b, H, I, rfl, k⟩
def rEqB (K : PySem.W.Frag) : R2 := fun x y H Q => rEq x y H Q ∨ rEqD K x y H Q
theorem opB_eq (K : PySem.W.Frag) (hu : X.A.units + 64 < cLine) (hK : X.K = K := by rfl) : OpR X (compareOp .Eq) (rEqB K) := hK ▸ (OpR.or op_eq (op_eqD hu) : OpR X (compareOp .Eq) (rEqB X.K))
theorem w_eqIB : rEqB K (.int i) (.int j) H Q = Q (.bl (decide (i = j))) H := by
  refine propext ⟨fun h => ?_, fun h => .inl ⟨rfl, by simpa using h⟩⟩
  rcases h with ⟨_, h⟩ | ⟨_, _, _, e, _⟩
  · simpa using h
  · rcases e with e | e <;> cases e
theorem w_eqSB : rEqB K (.str x) (.str y) H Q = Q (.bl (decide (x = y))) H := by
  refine propext ⟨fun h => ?_, fun h => .inl ⟨rfl, by simpa using h⟩⟩
  rcases h with ⟨_, h⟩ | ⟨_, _, _, e, _⟩
  · simpa using h
  · rcases e with e | e <;> cases e
theorem w_eqR_ {u : V} : rEqB K (.ref p) u H Q = ∃ d b, d ≤ 60 ∧ EqD K H d (.ref p) u b ∧ Q (.bl b) H := by
  refine propext ⟨fun h => ?_, fun ⟨d, b, hd, h, k⟩ => .inr ⟨d, b, hd, .inl rfl, h, k⟩⟩
  rcases h with ⟨e, _⟩ | ⟨d, b, hd, _, h, k⟩
  · cases u <;> cases e
  · exact ⟨d, b, hd, h, k⟩
theorem w_eq_R {u : V} : rEqB K u (.ref p) H Q = ∃ d b, d ≤ 60 ∧ EqD K H d u (.ref p) b ∧ Q (.bl b) H := by
  refine propext ⟨fun h => ?_, fun ⟨d, b, hd, h, k⟩ => .inr ⟨d, b, hd, .inr rfl, h, k⟩⟩
  rcases h with ⟨e, _⟩ | ⟨d, b, hd, _, h, k⟩
  · cases u <;> cases e
  · exact ⟨d, b, hd, h, k⟩
inductive TyB (K : PySem.W.Frag) (H : Hp) : V → Value → Prop where
  | of {x : V} {t : Value} (h : TyOf K H x t) : TyB K H x t
  | tup {a : Addr} {xs : List V} (h : SqT K H a xs) : TyB K H (.ref a) (.type "tuple")
  | lst {a : Addr} {xs : List V} (h : SqL K H a xs) : TyB K H (.ref a) (.type "list")
def rInstB (K : PySem.W.Frag) (T : String) : List V → Hp → VK → Prop := fun vs H Q => ∃ x t b, vs = [x, .ty T] ∧ TyB K H x t ∧ PySem.W.kitOne K t (.type T) = some b ∧ Q (.bl b) H
theorem call_instB {T : String} : CallR X (.builtin "isinstance") (rInstB X.K T) := by
  intro pins s σ H xs us Q I r h
  obtain ⟨x, t, b, rfl, ty, e, q⟩ := h
  cases ty with
  | of ty => exact call_inst pins s σ H _ us Q I r ⟨x, t, b, rfl, ty, e, q⟩
  | tup hq =>
    obtain ⟨u, u2, rfl, rx, r2⟩ := vals2 r
    cases (show u2 = Value.type T from r2)
    cases rx
    obtain ⟨its, _, ⟨o, h1, h2, _⟩, _⟩ := I.tuple hq
    exact PySem.W.kia_one PySem.W.kitx_tuple I.kIn ⟨o, h1, h2⟩ e (fun z => nomatch z) fun tk => ⟨.bl b, H, I.tok tk, rfl, q⟩
  | lst hq =>
    obtain ⟨u, u2, rfl, rx, r2⟩ := vals2 r
    cases (show u2 = Value.type T from r2)
    cases rx
    obtain ⟨its, _, pl, _⟩ := I.list hq
    obtain ⟨o, h1, h2, _⟩ := pl.isList
    exact PySem.W.kia_one PySem.W.kitx_list I.kIn ⟨o, h1, h2⟩ e (fun z => nomatch z) fun tk => ⟨.bl b, H, I.tok tk, rfl, q⟩
theorem callB_inst (K : PySem.W.Frag) (T : String) (hK : X.K = K := by rfl) : CallR X (.builtin "isinstance") (rInstB K T) := hK ▸ (call_instB : CallR X (.builtin "isinstance") (rInstB X.K T))
theorem w_instIntB {T : String} : rInstB K T [.int i, .ty T] H Q = ∃ b, PySem.W.kitOne K (.type "int") (.type T) = some b ∧ Q (.bl b) H := by
  refine propext ⟨fun ⟨_, _, b, e, t, h⟩ => ?_, fun ⟨b, h⟩ => ⟨_, _, b, rfl, .of (.int i), h⟩⟩
  cases e
  rcases t with t | t | t
  cases t; exact ⟨b, h⟩
theorem w_instStrB {T : String} : rInstB K T [.str x, .ty T] H Q = ∃ b, PySem.W.kitOne K (.type "str") (.type T) = some b ∧ Q (.bl b) H := by
  refine propext ⟨fun ⟨_, _, b, e, t, h⟩ => ?_, fun ⟨b, h⟩ => ⟨_, _, b, rfl, .of (.str x), h⟩⟩
  cases e
  rcases t with t | t | t
  cases t; exact ⟨b, h⟩
theorem w_instRB {T : String} : rInstB K T [.ref p, .ty T] H Q = ∃ t b, TyB K H (.ref p) t ∧ PySem.W.kitOne K t (.type T) = some b ∧ Q (.bl b) H := by
  refine propext ⟨fun ⟨_, t, b, e, ty, h⟩ => ?_, fun ⟨t, b, ty, h⟩ => ⟨_, t, b, rfl, ty, h⟩⟩
  cases e; exact ⟨t, b, ty, h⟩
end
theorem join_len (sep : Str) (ts : List Str) : (Txt.join sep ts).length ≤ (ts.map (·.length)).sum + ts.length * sep.length := by
  have h := StrLaws.join_length_le sep ts
  rw [← StrLaws.glued_eq_join] at h
  exact h
end L2
set_option Elab.async false
set_option linter.all false
set_option maxRecDepth 100000
set_option maxHeartbeats 4000000
namespace L2
open PySem PySem.Spec PyProof.Rows
section
variable {t : SetTable} {es : Array (Int × Value)} {h : Int} {x : Value} {n : Nat}
end
def svT : Value → Str
  | .str x _ => x
  | _ => ""
def setTexts (es : Array (Int × Value)) : List Str := es.toList.map fun e => svT e.2
def byText (w : World) : Bool := w.params.followText "set-order"
def SetS (prog : Program) (w : World) (h : Heap) (a : Addr) (us : List Str) : Prop :=
  ∃ o es ep tb, h.get? a = some o ∧ o.ExactSet ∧ o.data = .set es ep tb ∧ ElemsOf (PySem.strKind prog w) es.toList ∧ setTexts es = us ∧ us.Nodup ∧ es.size < scanBound ∧ tb.fits es.size = true ∧ tb.led = !byText w ∧ (us ≠ [] → tb.plain = false)
section
variable {prog : Program} {w : World} {A : Around} {E : Value → Shared → Prop} {s : Shared}
end
section
variable {prog : Program} {w : World} {A : Around} {E : Value → Shared → Prop} {s : Shared}
end
section
variable {prog : Program} {w : World} {A : Around} {R : Result → Shared → Prop} {I : Addr} {fp wr : List Addr} {G : Array GenState → Array GenState → Prop} {n : Nat} {P : Nat → Value → Prop} {St : Nat → Shared → Prop}
end
section
variable {prog : Program} {w : World} {A : Around} {E : Value → Shared → Prop} {s : Shared}
end
end L2
set_option Elab.async false
set_option linter.all false
set_option maxRecDepth 100000
set_option maxHeartbeats 4000000
namespace L2
open PySem PySem.Spec PyProof.Rows
end L2
set_option Elab.async false
set_option linter.all false
set_option maxRecDepth 100000
set_option maxHeartbeats 4000000
namespace L2
open PySem PySem.Spec PyProof.Rows
section
variable {prog : Program} {w : World} {A : Around} {E : Value → Shared → Prop} {s : Shared}
variable {I S T : Addr} {first : Value} {i n ep slot : Nat} {o : Obj} {es : Array (Int × Value)} {tb : SetTable} {Q : Option Value → Shared → Prop}
end
end L2
set_option Elab.async false
set_option linter.all false
set_option maxRecDepth 100000
set_option maxHeartbeats 4000000
namespace L2
open PySem PySem.Spec PyProof.Rows
section
variable {prog : Program} {w : World} {A : Around} {E : Value → Shared → Prop} {s : Shared} {S : Addr} {i n ep slot : Nat} {o : Obj} {es : Array (Int × Value)} {tb : SetTable}
end
section
variable {prog : Program} {w : World} {A : Around} {E : Value → Shared → Prop} {s : Shared}
end
end L2
set_option Elab.async false
set_option linter.all false
set_option maxRecDepth 100000
set_option maxHeartbeats 4000000
namespace L2
open PySem PySem.Spec PyProof.Rows
structure Ready (prog : Program) (w : World) (s : Shared) (S : Addr) (us : List Str) (I : Addr) (s' : Shared) (vs : List Value) (fp : List Addr) (St : Nat → Heap → Prop) : Prop where
  heap : ∀ b o, s.heap.get? b = some o → s'.heap.get? b = some o
  rest : ∃ d, s' = { s with heap := s'.heap, drawn := d }
  new : s.heap.objs.size ≤ I
  fps : ∀ b ∈ fp, b = S ∨ s.heap.objs.size ≤ b
  lt : ∀ b ∈ fp, b < s'.heap.objs.size
  mem : I ∈ fp
  txts : ∃ us', StrsAre vs us' ∧ us'.Perm us
  st : St 0 s'.heap
  walk : ∀ A : Around, A.handled = none → WalksS prog w A I fp [I] Eq vs.length (fun i v => vs[i]? = some v) (fun i s => St i s.heap)
section
variable {prog : Program} {w : World} {A : Around} {E : Value → Shared → Prop} {s : Shared}
end
end L2
set_option Elab.async false
set_option linter.all false
set_option maxRecDepth 100000
set_option maxHeartbeats 4000000
namespace L2
open PySem PySem.Spec PyProof.Rows
section
variable {prog : Program} {w : World} {A : Around} {E : Value → Shared → Prop} {s : Shared}
end
end L2
set_option Elab.async false
set_option linter.all false
set_option maxRecDepth 100000
set_option maxHeartbeats 4000000
namespace L2
open PySem PySem.Spec PyProof.Rows
def SetO (prog : Program) (w : World) (S : Addr) (us : List Str) : HO := .ext fun h => SetS prog w h S us
section
variable {X : Cx} {pins : List (Addr × Obj)} {σ : St} {H : Hp} {s : Shared}
theorem Inv.draw (I : Inv X pins σ H s) (d : Drawn) : Inv X pins σ H { s with drawn := d } := ⟨I.ok, I.os, I.bare, I.base, I.loc, I.cell, I.free, I.freeC, I.pin, I.hok, I.len⟩
def rSetOf (P : Program) (w : World) (K : PySem.W.Frag) : List V → Hp → VK → Prop := fun xs H Q => ∃ (a : Addr) (ts : List Str), xs = [.ref a] ∧ SqL K H a (ts.map V.str) ∧ ts.length < 4000 ∧
  ∀ S us, H S = none → us.Nodup → us.length ≤ ts.length → (∀ x, x ∈ us ↔ x ∈ ts) → Q (.ref S) (upd H S (SetO P w S us))
def rSorted (P : Program) (w : World) (K : PySem.W.Frag) : List V → Hp → VK → Prop := fun xs H Q => ∃ (a : Addr) (us : List Str), xs = [.ref a] ∧ (H a = some (SetO P w a us) ∨ SqL K H a (us.map V.str)) ∧ us.length < 64 ∧
  ∀ l vs, H l = none → sortedS vs = true → vs.Perm us → Q (.ref l) (upd H l (.lst (vs.map V.str)))
variable {P : Program} {w : World} {K : PySem.W.Frag} {Q : VK} {p : Addr}
theorem w_setOf : rSetOf P w K [.ref p] H Q = ∃ ts : List Str, SqL K H p (ts.map V.str) ∧ ts.length < 4000 ∧ ∀ S us, H S = none → us.Nodup → us.length ≤ ts.length → (∀ x, x ∈ us ↔ x ∈ ts) → Q (.ref S) (upd H S (SetO P w S us)) := by
  refine propext ⟨fun ⟨_, ts, e, h⟩ => ?_, fun ⟨ts, h⟩ => ⟨p, ts, rfl, h⟩⟩
  cases e; exact ⟨ts, h⟩
theorem w_sorted : rSorted P w K [.ref p] H Q = ∃ us : List Str, (H p = some (SetO P w p us) ∨ SqL K H p (us.map V.str)) ∧ us.length < 64 ∧ ∀ l vs, H l = none → sortedS vs = true → vs.Perm us → Q (.ref l) (upd H l (.lst (vs.map V.str))) := by
  refine propext ⟨fun ⟨_, us, e, h⟩ => ?_, fun ⟨us, h⟩ => ⟨p, us, rfl, h⟩⟩
  cases e; exact ⟨us, h⟩
end
end L2
set_option Elab.async false
set_option linter.all false
set_option maxRecDepth 100000
set_option maxHeartbeats 4000000
namespace L2
open PySem PySem.Spec PyProof.Rows
open PySem.Builtin PySem.Builtin.Str
section
variable {X : Cx}
def rIs (f : Str → Bool) : V → List V → Hp → VK → Prop := fun x vs H Q => ∃ z, x = .str z ∧ vs = [] ∧ Q (.bl (f z)) H
def rIs2 (f : Str → Str → Bool) : V → List V → Hp → VK → Prop := fun x vs H Q => ∃ z y, x = .str z ∧ vs = [.str y] ∧ Q (.bl (f z y)) H
def rStrip : V → List V → Hp → VK → Prop := fun x vs H Q => ∃ z, x = .str z ∧ vs = [] ∧ z.length ≤ sizeLine ∧ Q (.str (Txt.strip z)) H
theorem valsSp : ∀ (l : List (Str × Tok)), Vals ((l.map (·.1)).map V.str) (strValues l)
  | [] => .nil
  | (x, t) :: r => .cons ⟨t, rfl⟩ (valsSp r)
theorem split1x {prog : Program} {w : World} {A : Around} {E : Value → Shared → Prop} {s : Shared} {x y : Str} {t u : Tok} {Q : Value → Shared → Prop} (hy : (y.length == 0) = false)
    (hq : ∀ (its : List Value) tk, Vals ((Txt.split x y).map V.str) its → Q (.ref s.heap.objs.size) { s with heap := s.heap.push { cls := .type "list", data := .seq its.toArray }, toks := tk })
    (hsz : x.length ≤ sizeLine) (hsz2 : (partsBetween x (occurrences x y 0 x.length (x.length + 1)) y.length).length ≤ sizeLine) :
    wpAny (model prog w) A (call (.builtin "str.split") [.str x t, .str y u]) Q E s := by
  cases h1 : (decide (x.length < y.length) || decide (strKind x < strKind y))
  · cases hf : (occurrences x y 0 x.length (x.length + 1)).isEmpty
    · refine call_meets F.slot_str_split (typeIs_str _ _ _) F.entry_str_split (F.args_str_split_2 _ _) (meets_str_split_sep x y t u h1 hy hf hsz hsz2) ?_
      show wants Q E _ { s with toks := _, heap := s.heap.push { cls := .type "list", data := .seq (strsFrom s.toks (partsBetween x (occurrences x y 0 x.length (x.length + 1)) y.length)).toArray } }
      rw [strsFrom_eq]
      refine hq _ _ ?_
      have e : (numbered s.toks (partsBetween x (occurrences x y 0 x.length (x.length + 1)) y.length)).map (·.1) = Txt.split x y := (numbered_texts _ _).trans ((if_neg (ne_true_of_eq_false h1)).trans (if_neg (ne_true_of_eq_false hf))).symm
      rw [← e]
      exact valsSp _
    · refine call_meets F.slot_str_split (typeIs_str _ _ _) F.entry_str_split (F.args_str_split_2 _ _) (meets_str_split_not_found x y t u h1 hy hf) ?_
      have e : [x] = Txt.split x y := ((if_neg (ne_true_of_eq_false h1)).trans (if_pos hf)).symm
      refine hq [.str x t] s.toks ?_
      rw [← e]
      exact .cons ⟨t, rfl⟩ .nil
  · refine call_meets F.slot_str_split (typeIs_str _ _ _) F.entry_str_split (F.args_str_split_2 _ _) (meets_str_split_cannot_occur x y t u h1) ?_
    have e : [x] = Txt.split x y := (if_pos h1).symm
    refine hq [.str x t] s.toks ?_
    rw [← e]
    exact .cons ⟨t, rfl⟩ .nil
def rSplit : V → List V → Hp → VK → Prop := fun x vs H Q => ∃ z y, x = .str z ∧ vs = [.str y] ∧ y ≠ Str.empty ∧ z.length ≤ 1000000 ∧ ∀ p, H p = none → Q (.ref p) (upd H p (.lst ((Txt.split z y).map V.str)))
theorem split_len (x y : Str) : (Txt.split x y).length ≤ x.length + 2 := by
  unfold Txt.split
  split
  · simp
  · split
    · simp
    · rw [length_partsBetween]
      have := StrLaws.occ_length_le x y 0 x.length (x.length + 1)
      omega
theorem mt_split : MtR X "str.split" rSplit := by
  intro pins s σ H x vs v us Q I rx rv ⟨z, y, e1, e2, hy, hz, q⟩
  subst e1 e2
  obtain ⟨t, rfl⟩ := (show ∃ t, v = Value.str z t from rx)
  obtain ⟨u, rfl, ru⟩ := vals1 rv
  obtain ⟨t', rfl⟩ := (show ∃ t, u = Value.str y t from ru)
  have hy' : (y.length == 0) = false := by
    cases e : (y.length == 0) with
    | false => rfl
    | true =>
      have h0 : y.length = 0 := by simpa using e
      have : y.cps.size = 0 := h0
      have : y.cps = #[] := Array.eq_empty_of_size_eq_zero this
      obtain ⟨c⟩ := y
      simp only at this
      subst this
      exact absurd rfl hy
  refine split1x hy' (fun its tk hv => ⟨.ref _, _, I.lnew hv (by rw [List.length_map]; have := split_len z y; rw [sizeLine_eq]; omega), rfl, q _ I.fresh⟩) (by rw [sizeLine_eq]; omega) ?_
  rw [length_partsBetween]
  have := StrLaws.occ_length_le z y 0 z.length (z.length + 1)
  rw [sizeLine_eq]
  omega
def timesS (z : Str) (n : Nat) : Str := ⟨(List.replicate n z.cps).foldl (· ++ ·) #[]⟩
def rMulS : R2 := fun x y H Q => ∃ z n, x = .str z ∧ y = .int n ∧ n < 1000 ∧ -1000 < n ∧ z.length ≤ 1000 ∧ Q (.str (timesS z n.toNat)) H
end
section
variable {K : PySem.W.Frag} {H : Hp} {Q : VK} {x y : Str} {f : Str → Bool} {g : Str → Str → Bool}
theorem w_mulS {n : Int} : rMulS (.str x) (.int n) H Q = (n < 1000 ∧ -1000 < n ∧ x.length ≤ 1000 ∧ Q (.str (timesS x n.toNat)) H) := propext ⟨fun ⟨_, _, e, e', h⟩ => by cases e; cases e'; exact h, fun h => ⟨x, n, rfl, rfl, h⟩⟩
theorem w_is : rIs f (.str x) [] H Q = Q (.bl (f x)) H := propext ⟨fun ⟨_, e, _, h⟩ => by cases e; exact h, fun h => ⟨x, rfl, rfl, h⟩⟩
theorem w_is2 : rIs2 g (.str x) [.str y] H Q = Q (.bl (g x y)) H := propext ⟨fun ⟨_, _, e, e', h⟩ => by cases e; cases e'; exact h, fun h => ⟨x, y, rfl, rfl, h⟩⟩
theorem w_strip : rStrip (.str x) [] H Q = (x.length ≤ sizeLine ∧ Q (.str (Txt.strip x)) H) := propext ⟨fun ⟨_, e, _, h⟩ => by cases e; exact h, fun h => ⟨x, rfl, rfl, h⟩⟩
theorem w_split : rSplit (.str x) [.str y] H Q = (y ≠ Str.empty ∧ x.length ≤ 1000000 ∧ ∀ p, H p = none → Q (.ref p) (upd H p (.lst ((Txt.split x y).map V.str)))) := propext ⟨fun ⟨_, _, e, e', h⟩ => by cases e; cases e'; exact h, fun h => ⟨x, y, rfl, rfl, h⟩⟩
end
end L2
namespace L2
open PySem PySem.Spec PyProof.Rows
section
variable {X : Cx} {o : Expr} {name : Str} {to : TE} {T iid : String} {r : V → List V → Hp → VK → Prop} {apos cpos : Pos}
end
end L2
set_option Elab.async false
set_option linter.all false
set_option maxRecDepth 100000
set_option maxHeartbeats 4000000
namespace L2
open PySem PySem.Spec PyProof.Rows
section
variable {X : Cx} {pins : List (Addr × Obj)} {σ : St} {H : Hp} {s : Shared}
end
end L2
namespace L2
open PySem PySem.Spec PyProof.Rows
section
variable {X : Cx}
end
end L2
set_option Elab.async false
set_option linter.all false
set_option maxRecDepth 100000
set_option maxHeartbeats 4000000
namespace L2
open PySem PySem.Spec PyProof.Rows
def Air (h : Heap) (e C : Addr) (fl : Option Value) (l : List Addr) : Prop :=
  ∃ oe vs a0, h.get? e = some oe ∧ oe.cls = .ref C ∧ oe.data = .fields vs ∧ vs[0]? = some a0 ∧
    match fl with
    | none => l = [e] ∧ vs[1]? = some .none
    | some f => ∃ T oT ts, l = [e, T] ∧ vs[1]? = some (.ref T) ∧ T ≠ e ∧ h.get? T = some oT ∧ oT.data = .fields ts ∧ ts[3]? = some f
theorem Air.flds {h : Heap} {e C : Addr} {fl : Option Value} {l : List Addr} (a : Air h e C fl l) : ∀ b ∈ l, ∃ o vs, h.get? b = some o ∧ o.data = .fields vs := by
  intro b hb
  obtain ⟨oe, vs, a0, h1, h2, h3, h4, h5⟩ := a
  cases fl with
  | none =>
    obtain ⟨rfl, _⟩ := h5
    obtain rfl := List.mem_singleton.mp hb
    exact ⟨oe, vs, h1, h3⟩
  | some f =>
    obtain ⟨T, oT, ts, rfl, q1, q2, q3, q4, q5⟩ := h5
    rcases List.mem_cons.mp hb with rfl | hb
    · exact ⟨oe, vs, h1, h3⟩
    · obtain rfl := List.mem_singleton.mp hb
      exact ⟨oT, ts, q3, q4⟩
theorem Air.first {h : Heap} {e C : Addr} {fl : Option Value} {l : List Addr} (a : Air h e C fl l) : e ∈ l := by
  obtain ⟨oe, vs, a0, h1, h2, h3, h4, h5⟩ := a
  cases fl with
  | none => obtain ⟨rfl, _⟩ := h5; exact List.mem_singleton.mpr rfl
  | some f => obtain ⟨T, oT, ts, rfl, _⟩ := h5; exact List.mem_cons_self ..
theorem ObjOk.there {P : Program} {w : World} {H : Hp} {h : Heap} {a : Addr} {o : HO} (x : ObjOk P w H h a o) : ∃ ob, h.get? a = some ob := by
  cases o with
  | lst xs => obtain ⟨_, _, _, _, e⟩ := x; exact ⟨_, e⟩
  | tup xs => obtain ⟨_, _, _, p⟩ := x; obtain ⟨o, e, _⟩ := p; exact ⟨_, e⟩
  | dK kvs => obtain ⟨_, _, _, _, o, _, _, e, _⟩ := x; exact ⟨_, e⟩
  | dT kvs => obtain ⟨_, _, _, _, o, _, _, e, _⟩ := x; exact ⟨_, e⟩
  | set S n => obtain ⟨o, _, _, _, e, _⟩ := x; exact ⟨_, e⟩
  | ins C dx fs => obtain ⟨_, _, _, e, _⟩ := x; exact ⟨_, e⟩
  | own y => obtain ⟨_, e⟩ := x; exact ⟨_, e⟩
  | xd fs => obtain ⟨_, ⟨_, _, _, e, _⟩, _⟩ := x; exact ⟨_, e⟩
  | rng lo hi => obtain ⟨_, _, _, e⟩ := x; exact ⟨_, e⟩
  | frz ob u => obtain ⟨e, _⟩ := x; exact ⟨_, e⟩
  | tbl ps => exact ⟨_, (show h.get? a = some _ from x)⟩
  | met f y => exact ⟨_, (show h.get? a = some _ from x)⟩
  | ext φ => obtain ⟨_, ⟨_, e⟩, _⟩ := x; exact ⟨_, e⟩
structure Fnc (X : Cx) : Prop where
  stk : X.stack = X.env :: X.outer
  fr : X.env.frame = some X.env.locals
  ex : X.ex = []
theorem fnc_of {CX : CXT} {P : Program} {w : World} {K : PySem.W.Frag} {mg : Str → Option Value} {base : Heap} {N : List Str} {qual : Str} {scope : Scope} {f : Addr} {cd : Value} {A : Around} {outer : List Env} {s : Shared} {H : Hp} {E : XK} :
    Fnc (cxOf CX P w K mg base N qual scope f cd A outer s H E) := ⟨rfl, rfl, rfl⟩
theorem Fnc.wish {X : Cx} (F : Fnc X) (E : Value → Shared → Prop) : Fnc (X.wish E) := ⟨F.stk, F.fr, F.ex⟩
theorem rebase {h b b' : Heap} {l : List Env} (x : h.FunFrames b l) (n : ∀ a ∈ frs l, b'.get? a = none) : h.FunFrames b' l := by
  induction l with
  | nil => trivial
  | cons env rest ih =>
    obtain ⟨hk, ⟨L, o, hf, hn, ho, hd⟩, hr⟩ := x
    refine ⟨hk, ⟨L, o, hf, n L (by unfold frs; rw [List.filterMap_cons, hf]; exact List.mem_cons_self ..), ho, hd⟩, ih hr fun a ha => n a ?_⟩
    unfold frs at ha ⊢
    rw [List.filterMap_cons, hf]
    exact List.mem_cons_of_mem _ ha
def bsOf (X : Cx) (h : Heap) (l : List Addr) : Heap := PySem.W.hideAll h (l ++ frs X.stack)
section
variable {X : Cx} {σ : St} {H : Hp} {s : Shared} {l : List Addr} {e C : Addr} {fl : Option Value}
theorem bs_stay : (bsOf X s.heap l).StaysIn s.heap := fun b o e => PySem.W.of_hideAll _ e
theorem bs_none {b : Addr} (h : b ∈ l) : (bsOf X s.heap l).get? b = none := PySem.W.hideAll_none _ (List.mem_append_left _ h)
theorem bs_get {b : Addr} {o : Obj} (h : s.heap.get? b = some o) (n : b ∉ l) (n' : b ∉ frs X.stack) : (bsOf X s.heap l).get? b = some o :=
  PySem.W.hideAll_get _ h fun z => (List.mem_append.mp z).elim n n'
theorem bs_fun (I : Inv X [] σ H s) : s.heap.FunFrames (bsOf X s.heap l) X.stack := rebase I.stack fun a ha => PySem.W.hideAll_none _ (List.mem_append_right _ ha)
theorem land (F : Fnc X) (I : Inv X [] σ H s) (hl : ∀ b ∈ l, X.s₀.heap.get? b = none ∧ H b = none ∧ ∀ p ∈ X.pn, p.1 ≠ b) (hf : ∀ b ∈ l, ∃ o vs, s.heap.get? b = some o ∧ o.data = .fields vs) {h' : Heap}
    (st : (bsOf X s.heap l).StaysIn h') (up : s.heap.UpToSlots h') : Inv X [] σ H { s with heap := h' } := by
  have frD : ∀ b ∈ frs X.stack, ∃ o, s.heap.get? b = some o ∧ ∀ vs, o.data ≠ .fields vs := fun b hb => (I.stack.mem hb).2
  have nin : ∀ b ∈ l, b ∉ frs X.stack := fun b hb hz => by
    obtain ⟨o, vs, h1, h2⟩ := hf b hb
    obtain ⟨o', h1', h2'⟩ := frD b hz
    rw [h1] at h1'; cases h1'
    exact h2' vs h2
  have keep : ∀ b o, s.heap.get? b = some o → b ∉ l → b ∉ frs X.stack → h'.get? b = some o := fun b o q n n' => st b o (bs_get q n n')
  have any : ∀ b o, s.heap.get? b = some o → b ∉ l → ∃ sl, h'.get? b = some { o with slots := sl } := fun b o q n => by
    by_cases hb : b ∈ frs X.stack
    · obtain ⟨o', h1, h2⟩ := frD b hb
      rw [q] at h1; cases h1
      exact up b o q h2
    · exact ⟨o.slots, keep b o q n hb⟩
  have s0l : ∀ b o, X.s₀.heap.get? b = some o → b ∉ l := fun b o q z => by rw [(hl b z).1] at q; cases q
  have nex : ∀ b, b ∉ X.ex := fun b => by rw [F.ex]; simp
  have subf : ∀ b o, X.s₀.heap.get? b = some o → b ∉ X.fs → b ∉ frs X.stack := fun b o q n z => by
    rcases List.mem_cons.mp (I.stkSub b z) with e | e
    · exact absurd (Nat.lt_of_lt_of_le (Heap.lt_size q) I.ok.above) (by rw [← e]; exact Nat.lt_irrefl _)
    · exact n e
  have nL : X.env.locals ∉ l := fun z => by
    obtain ⟨o, vs, h1, h2⟩ := hf _ z
    obtain ⟨m, ⟨o', es, ep, h1', h2', _⟩, _⟩ := I.loc
    rw [h1] at h1'; cases h1'
    rw [h2] at h2'; cases h2'
  have nC : ∀ x c, X.env.cells.lookup x = some c → c ∉ l := fun x c q z => by
    obtain ⟨o, vs, h1, h2⟩ := hf _ z
    obtain ⟨v, o', h1', h2'⟩ := I.cell x c q
    rw [h1] at h1'; cases h1'
    rw [h2] at h2'; cases h2'
  have cellK : ∀ x c, X.env.cells.lookup x = some c → ∀ v, s.heap.IsCell c v → h'.IsCell c v := fun x c q v ⟨o, ho, hd⟩ => by
    obtain ⟨sl, k⟩ := any c o ho (nC x c q)
    exact ⟨_, k, hd⟩
  refine ⟨I.ok, I.os, I.bare, ⟨fun b o q n hb hx => ?_, fun b o q n hb hx => ?_, fun b o q n hx => I.base.free b o q n hx, fun b o q hx => ?_, I.base.tups, I.base.frzs, I.base.tbls⟩, ?_, fun x c q => ?_, I.free, I.freeC, fun p hp => ?_, ?_, I.len⟩
  · exact keep b o (I.base.keep b o q n hb hx) (s0l b o q) (subf b o q hb)
  · obtain ⟨sl, k⟩ := I.base.slot b o q n hb hx
    obtain ⟨sl', k'⟩ := any b _ k (s0l b o q)
    exact ⟨sl', k'⟩
  · obtain ⟨o', k⟩ := I.base.there b o q hx
    obtain ⟨sl', k'⟩ := any b _ k (s0l b o q)
    exact ⟨_, k'⟩
  · obtain ⟨m, ⟨o, es, ep, ho, hd, r⟩, hlk⟩ := I.loc
    obtain ⟨sl, k⟩ := any _ o ho nL
    refine ⟨m, ⟨_, es, ep, k, hd, r⟩, fun i x v e1 e2 e3 => ?_⟩
    obtain ⟨u, r, lk⟩ := hlk i x v e1 e2 e3
    refine ⟨u, r, ?_⟩
    rcases lk with lk | ⟨k, c, e, z⟩
    · exact .inl lk
    · exact .inr ⟨k, c, e, cellK x c e _ z⟩
  · obtain ⟨v, z⟩ := I.cell x c q
    exact ⟨v, cellK x c q v z⟩
  · obtain ⟨e1, n, ne, nf, d⟩ := I.pin p hp
    refine ⟨keep p.1 p.2 e1 (fun z => (hl p.1 z).2.2 p (by simpa using hp) rfl) fun z => ?_, n, ne, nf, d⟩
    rcases List.mem_cons.mp (I.stkSub p.1 z) with q | q
    · exact ne q
    · exact nf q
  · refine fun a o q => (I.hok a o q).stay (fun b u hb k => ?_) (fun _ q => q) fun _ _ q => q
    have hb' : H b ≠ none := by
      rcases hb with z | z
      · rw [z, q]; simp
      · rw [z]; simp
    exact keep b u k (fun z => hb' (hl b z).2.1) fun z => hb' (I.stkFree b z)
theorem land_tr (F : Fnc X) (I : Inv X [] σ H s) (hl : ∀ b ∈ l, X.s₀.heap.get? b = none ∧ H b = none ∧ ∀ p ∈ X.pn, p.1 ≠ b) (hel : e ∈ l) {h' : Heap} {a0 f : Value}
    (fn : h'.FunFrames (bsOf X s.heap l) X.stack) (ht : h'.TracedAtW (bsOf X s.heap l) e (.ref C) a0 f) :
    ∃ l', Air h' e C (some f) l' ∧ ∀ b ∈ l', X.s₀.heap.get? b = none ∧ H b = none ∧ ∀ p ∈ X.pn, p.1 ≠ b := by
  obtain ⟨oe, vs, T, oT, ts, he, ⟨hc, h0⟩, hd, h1, hnT, hTe, hT, hdT, h3⟩ := ht
  have nfr : T ∉ frs X.stack := fun z => by
    obtain ⟨_, o, q1, q2⟩ := fn.mem z
    rw [hT] at q1; cases q1
    exact q2 ts hdT
  have tfree : ∀ o, s.heap.get? T = some o → T ∈ l := fun o q => by
    refine Classical.byContradiction fun n => ?_
    rw [bs_get q n nfr] at hnT; cases hnT
  refine ⟨[e, T], ⟨oe, vs, a0, he, hc, hd, h0, T, oT, ts, rfl, h1, hTe, hT, hdT, h3⟩, fun b hb => ?_⟩
  rcases List.mem_cons.mp hb with rfl | hb
  · exact hl _ hel
  · obtain rfl := List.mem_singleton.mp hb
    refine ⟨?_, ?_, fun p hp z => ?_⟩
    · cases q : X.s₀.heap.get? b with
      | none => rfl
      | some o =>
        obtain ⟨o', k⟩ := I.base.there b o q (by rw [F.ex]; simp)
        have := (hl b (tfree o' k)).1
        rw [q] at this; cases this
    · cases q : H b with
      | none => rfl
      | some o =>
        obtain ⟨o', k⟩ := (I.hok b o q).there
        have := (hl b (tfree o' k)).2.1
        rw [q] at this; cases this
    · obtain ⟨e1, _⟩ := I.pin p (by simpa using hp)
      rw [z] at e1
      exact (hl b (tfree _ e1)).2.2 p hp z
end
def XG (X : Cx) (G : Addr → St → Hp → Prop) (fl : Option Value) (u : Value) (s : Shared) : Prop :=
  ∃ e C l σ H, u = .ref e ∧ Inv X [] σ H s ∧ Air s.heap e C fl l ∧ (∀ b ∈ l, X.s₀.heap.get? b = none ∧ H b = none ∧ ∀ p ∈ X.pn, p.1 ≠ b) ∧ G C σ H
def XF (X : Cx) (G : Addr → St → Hp → Prop) (u : Value) (s : Shared) : Prop :=
  ∃ fl, (fl = none ∨ fl = some .none ∨ fl = some (rawInt X.env.locals)) ∧ XG X G fl u s
section
variable {X : Cx} {G : Addr → St → Hp → Prop} {u : Value} {s : Shared}
theorem frames_of (F : Fnc X) {σ : St} {H : Hp} {pins : List (Addr × Obj)} (I : Inv X pins σ H s) : X.A.frames = some (X.env :: X.outer) := by rw [← F.stk]; exact I.ok.frames
theorem XF.note (F : Fnc X) {M : Model} {E : Value → Shared → Prop} {Q : Unit → Shared → Prop} (x : XF X G u s) (h : ∀ s', XG X G (some (rawInt X.env.locals)) u s' → Q () s') : wpAny M X.A (noteFrame u X.env) Q E s := by
  obtain ⟨fl, hfl, e, C, l, σ, H, rfl, I, a, hl, g⟩ := x
  have a' := a
  obtain ⟨oe, vs, a0, h1, h2, h3, h4, h5⟩ := a
  have fr := frames_of F I
  have fn : s.heap.FunFrames (bsOf X s.heap l) (X.env :: X.outer) := by rw [← F.stk]; exact bs_fun I
  have hen : (bsOf X s.heap l).get? e = none := bs_none a'.first
  have fin : ∀ h', Heap.NotedW (bsOf X s.heap l) (X.env :: X.outer) e (.ref C) a0 (rawInt X.env.locals) s.heap h' → Q () { s with heap := h' } := fun h' ⟨k1, k2, k3, k4⟩ => by
    rw [← F.stk] at k2
    obtain ⟨l', b1, b2⟩ := land_tr F I hl a'.first k2 k3
    exact h _ ⟨e, C, l', σ, H, rfl, land F I hl a'.flds k1 k4, b1, b2, g⟩
  rcases hfl with rfl | rfl | rfl
  · obtain ⟨rfl, h5⟩ := h5
    unfold noteFrame
    simp only [F.fr]
    refine wpAny_bind (wpAny_field h1 h3 h5 ?_)
    rw [if_neg (by decide)]
    rw [← h2] at fin
    exact wpAny_entryW fr fn F.fr h1 bs_stay hen h3 (Array.getElem?_eq_some_iff.mp h5).1 h4 fin
  · obtain ⟨T, oT, ts, rfl, q1, q2, q3, q4, q5⟩ := h5
    exact wpAny_noteFrame_onW fr fn F.fr ⟨oe, vs, T, oT, ts, h1, ⟨h2, h4⟩, h3, q1, bs_none (by simp), q2, q3, q4, q5⟩ bs_stay hen fin
  · obtain ⟨T, oT, ts, rfl, q1, q2, q3, q4, q5⟩ := h5
    refine wpAny_noteFrame_againW (base := bsOf X s.heap [e, T]) (a0 := a0) (cls := .ref C) F.fr ⟨oe, vs, T, oT, ts, h1, ⟨h2, h4⟩, h3, q1, bs_none (by simp), q2, q3, q4, q5⟩ ?_
    exact h _ ⟨e, C, _, σ, H, rfl, I, a', hl, g⟩
theorem XG.off (F : Fnc X) {M : Model} {A : Around} {E : Value → Shared → Prop} {Q : Unit → Shared → Prop} {f : Value} (x : XG X G (some f) u s) (h : ∀ s', XG X G (some .none) u s' → Q () s') : wpAny M A (setFlight u none) Q E s := by
  obtain ⟨e, C, l, σ, H, rfl, I, a, hl, g⟩ := x
  have a' := a
  obtain ⟨oe, vs, a0, h1, h2, h3, h4, h5⟩ := a
  obtain ⟨T, oT, ts, rfl, q1, q2, q3, q4, q5⟩ := h5
  have fn : s.heap.FunFrames (bsOf X s.heap [e, T]) X.stack := bs_fun I
  refine wpAny_setFlight_noneW (base := bsOf X s.heap [e, T]) (l := X.stack) (a0 := a0) (cls := .ref C) (fl := f) bs_stay fn ⟨oe, vs, T, oT, ts, h1, ⟨h2, h4⟩, h3, q1, bs_none (by simp), q2, q3, q4, q5⟩ fun h' k1 k2 k3 k4 => ?_
  obtain ⟨l', b1, b2⟩ := land_tr F I hl a'.first k2 k3.at
  exact h _ ⟨e, C, l', σ, H, rfl, land F I hl a'.flds k1 (fun b o q n => ⟨o.slots, k4 b o q n⟩), b1, b2, g⟩
end
def Out (X : Cx) (G : Addr → St → Hp → Prop) : Prop := ∀ u s, XF X G u s → X.xe u s
def xnames : List Str := ["__init__", "__getattribute__", "__getattr__", "__class__"]
inductive TailX (h : Heap) (bmB : List Value) : List Value → Prop
  | base : TailX h bmB bmB
  | own {A : Addr} {c0 : Value} {dd : Option Addr} {cd : ClassData} {sl : Array (Option Value)} {mA : Str → Option Value} {tl : List Value} :
      h.get? A = some { cls := c0, dict := dd, data := .cls cd, slots := sl } → h.Ns cd.ns mA → (∀ n ∈ xnames, mA n = none) → TailX h bmB tl → TailX h bmB (.ref A :: tl)
def XCls (K : PySem.W.Frag) (mg : Str → Option Value) (x : Str) (C : Addr) (ch : List Addr) (bm : List Value) (newId : String) : Prop := mg x = some (.ref C) ∧ ∀ h : Heap, K.In h →
  ∃ N nm q bs hdct sn sub ab col dd k0 k1 k2 k3 k5 mN, h.get? C = some (excClassObj nm q C N bs (ch.map Value.ref ++ bm) hdct sn sub ab col dd k0 k1 k2 k3 k5 newId) ∧ h.Ns N mN ∧ (∀ n ∈ xnames, mN n = none) ∧ TailX h bm (ch.map Value.ref ++ bm)
section
variable {X : Cx} {G : Addr → St → Hp → Prop}
end
section
variable {X : Cx} {G : Addr → St → Hp → Prop} {k : Nat} {f : Addr} {fd : FuncData} {ps : List Str} {sp : Sp} {dvs : List V} {ds : List Value} {x : Str} {p pos : Pos} {e : Expr} {es : List Expr} {t : TA}
end
end L2
namespace L2
open PySem PySem.Spec PyProof.Rows
abbrev Cx.at (X : Cx) (pins : List (Addr × Obj)) (E : Value → Shared → Prop) : Cx := { X with pn := X.pn ++ pins, xe := E }
abbrev Cx.sui (X : Cx) (pins : List (Addr × Obj)) (e : Addr) : Cx := { X with pn := X.pn ++ pins, A := X.A.mark (some (.ref e)), calm := false, xe := fun _ _ => False }
section
variable {X : Cx} {pins : List (Addr × Obj)} {σ : St} {H : Hp} {s : Shared} {E : Value → Shared → Prop} {e : Addr}
theorem Cx.Ok.at (ok : X.Ok) : (X.at pins E).Ok :=
  ⟨ok.mod, ok.kind, ok.glob, ok.blt, ok.above, ok.inj, ok.has, ok.cab, ok.hd, ok.frames, ok.stk, ok.exf, ok.bs, ok.bsz, ok.noex, ok.exfs, ok.funs, ok.frf⟩
theorem Cx.Ok.unat (ok : (X.at pins E).Ok) : X.Ok :=
  ⟨ok.mod, ok.kind, ok.glob, ok.blt, ok.above, ok.inj, ok.has, ok.cab, ok.hd, ok.frames, ok.stk, ok.exf, ok.bs, ok.bsz, ok.noex, ok.exfs, ok.funs, ok.frf⟩
theorem Cx.Ok.sui (ok : X.Ok) : (X.sui pins e).Ok :=
  ⟨ok.mod, ok.kind, ok.glob, ok.blt, ok.above, ok.inj, ok.has, ok.cab, (fun z => nomatch z), ok.frames, ok.stk, ok.exf, ok.bs, ok.bsz, ok.noex, ok.exfs, ok.funs, ok.frf⟩
theorem Inv.at (I : Inv X pins σ H s) (E : Value → Shared → Prop) : Inv (X.at pins E) [] σ H s := ⟨I.ok.at, I.os, I.bare, I.base, I.loc, I.cell, I.free, I.freeC, fun p hp => I.pin p (by simpa using hp), I.hok, I.len⟩
theorem Inv.unat (I : Inv (X.at pins E) [] σ H s) : Inv X pins σ H s := ⟨I.ok.unat, I.os, I.bare, I.base, I.loc, I.cell, I.free, I.freeC, fun p hp => I.pin p (by simpa using hp), I.hok, I.len⟩
theorem Inv.sui (I : Inv X pins σ H s) (e : Addr) : Inv (X.sui pins e) [] σ H s := ⟨I.ok.sui, I.os, I.bare, I.base, I.loc, I.cell, I.free, I.freeC, fun p hp => I.pin p (by simpa using hp), I.hok, I.len⟩
theorem Inv.unsui (ok : X.Ok) (I : Inv (X.sui pins e) [] σ H s) : Inv X pins σ H s := ⟨ok, I.os, I.bare, I.base, I.loc, I.cell, I.free, I.freeC, fun p hp => I.pin p (by simpa using hp), I.hok, I.len⟩
theorem SP.unat {D : Ends} {f : Flow} {s' : Shared} (h : SP (X.at pins E) [] D f s') : SP X pins D f s' := by
  cases f with
  | next => obtain ⟨σ', H', I, q⟩ := h; exact ⟨σ', H', I.unat, q⟩
  | brk => obtain ⟨σ', H', I, q⟩ := h; exact ⟨σ', H', I.unat, q⟩
  | cont => obtain ⟨σ', H', I, q⟩ := h; exact ⟨σ', H', I.unat, q⟩
  | ret u => obtain ⟨v, σ', H', I, r, q⟩ := h; exact ⟨v, σ', H', I.unat, r, q⟩
theorem SP.unsui (ok : X.Ok) {D : Ends} {f : Flow} {s' : Shared} (h : SP (X.sui pins e) [] D f s') : SP X pins D f s' := by
  cases f with
  | next => obtain ⟨σ', H', I, q⟩ := h; exact ⟨σ', H', I.unsui ok, q⟩
  | brk => obtain ⟨σ', H', I, q⟩ := h; exact ⟨σ', H', I.unsui ok, q⟩
  | cont => obtain ⟨σ', H', I, q⟩ := h; exact ⟨σ', H', I.unsui ok, q⟩
  | ret u => obtain ⟨v, σ', H', I, r, q⟩ := h; exact ⟨v, σ', H', I.unsui ok, r, q⟩
end
def Apart (X : Cx) (pins : List (Addr × Obj)) (H : Hp) (l : List Addr) : Prop := ∀ b ∈ l, X.s₀.heap.get? b = none ∧ H b = none ∧ ∀ p ∈ X.pn ++ pins, p.1 ≠ b
def PH (X : Cx) (hs : List ExceptHandler) (th : Addr → TS) : Prop :=
  ∀ (pins : List (Addr × Obj)) (s : Shared) (σ : St) (H : Hp) (D : Ends) (e C : Addr) (l : List Addr), Inv X pins σ H s → Air s.heap e C (some .none) l → Apart X pins H l → th C D σ H →
    wpAny (model X.prog X.w) X.A (handleBy (.ref e) X.env hs) (SP X pins D) X.xe s
def tTry (tb : (Addr → St → Hp → Prop) → TS) (th : Addr → TS) (te : TS) : TS := fun D σ H => ∃ G : Addr → St → Hp → Prop, tb G { D with nx := te D } σ H ∧ ∀ C σ' H', G C σ' H' → th C D σ' H'
theorem ps_try {X : Cx} {body orelse : List Stmt} {h₀ : ExceptHandler} {hs : List ExceptHandler} {pos : Pos} {tb : (Addr → St → Hp → Prop) → TS} {th : Addr → TS} {te : TS} (F : Fnc X)
    (hb : ∀ G pins E, Fnc (X.at pins E) → Out (X.at pins E) G → PassesOwn (model X.prog X.w) X.A X.env E → PSs (X.at pins E) body (tb G)) (hh : PH X (h₀ :: hs) th) (he : PSs X orelse te) :
    PS X (.Try body (h₀ :: hs) orelse [] pos) (tTry tb th te) := by
  intro pins s σ H D I ⟨G, h1, h2⟩
  refine wpAny_Try_except ?_
  have F' : ∀ E, Fnc (X.at pins E) := fun E => ⟨F.stk, F.fr, F.ex⟩
  refine wpAny_mono (hb G pins (fun u s₁ => wpAny (model X.prog X.w) X.A (noteFrame u X.env) (fun _ s₂ => wpAny (model X.prog X.w) X.A (setFlight u none) (fun _ s₃ => wpAny (model X.prog X.w) X.A (handleBy u X.env (h₀ :: hs)) (SP X pins D) X.xe s₃) X.xe s₂) X.xe s₁) (F' _) ?_ ?_ [] s σ H { D with nx := te D } (I.at _) h1) (fun f s₁ hs => ?_) fun _ _ y => y
  · intro u s₁ x
    refine XF.note (X := X.at pins _) (F' _) x fun s2 x2 => ?_
    refine XG.off (X := X.at pins _) (F' _) x2 fun s3 x3 => ?_
    obtain ⟨e, C, l, σ', H', rfl, J, a, hl, g⟩ := x3
    exact hh pins s3 σ' H' D e C l J.unat a (fun b hb => hl b hb) (h2 C σ' H' g)
  · exact PassesOwn.looking (K := fun u s₂ => wpAny (model X.prog X.w) X.A (setFlight u none) (fun _ s₃ => wpAny (model X.prog X.w) X.A (handleBy u X.env (h₀ :: hs)) (SP X pins D) X.xe s₃) X.xe s₂)
  · cases f with
    | next =>
      obtain ⟨σ', H', J, q⟩ := hs
      exact he pins s₁ σ' H' D J.unat q
    | brk => exact SP.unat hs
    | cont => exact SP.unat hs
    | ret u => exact SP.unat hs
def SubX (K : PySem.W.Frag) (C D : Addr) (b : Bool) : Prop := ∀ h : Heap, K.In h →
  (∃ nm q N bs bm hdct sn sub ab col dd k0 k1 k2 k3 k5 newId, h.get? C = some (excClassObj nm q C N bs bm hdct sn sub ab col dd k0 k1 k2 k3 k5 newId) ∧ (Value.ref C :: bm).contains (.ref D) = b) ∧
  (∃ nm q N bs bm hdct sn sub ab col dd k0 k1 k2 k3 k5 newId, h.get? D = some (excClassObj nm q D N bs bm hdct sn sub ab col dd k0 k1 k2 k3 k5 newId) ∧ (Value.ref D :: bm).contains (.type "BaseException") = true)
theorem matches_own {M : Model} {A : Around} {E : Value → Shared → Prop} {s : Shared} {K : PySem.W.Frag} {C D e : Addr} {b : Bool} {oe : Obj} {Q : Bool → Shared → Prop} (S : SubX K C D b) (X : K.In s.heap) (he : s.heap.get? e = some oe) (hcls : oe.cls = .ref C) (hq : Q b s) :
    wpAny M A (excMatches (.ref e) (.ref D)) Q E s := by
  obtain ⟨⟨nm, q, N, bs, bm, hdct, sn, sub, ab, col, dd, k0, k1, k2, k3, k5, newId, hC, hc⟩, ⟨nm', q', N', bs', bm', hdct', sn', sub', ab', col', dd', k0', k1', k2', k3', k5', newId', hD, hd⟩⟩ := S _ X
  obtain ⟨h, g, d, t, os⟩ := s
  have f := tc_notTuple
  unfold excMatches
  repeat (first | (with_reducible refine wpAny_loadPart_at he ?_; rw [hcls]) | with_reducible refine wpAny_loadPart_at hD ?_ | (with_reducible refine wpAny_isSubtype_exc hD ?_; rw [hd]) | (with_reducible refine wpAny_isSubtype_exc hC ?_; rw [hc]) | wp_step)
  cases b <;> (first | exact hq | (wp_walk; exact hq))
end L2
namespace L2
open PySem PySem.Spec PyProof.Rows
section
variable {X : Cx}
theorem ld_suite {pins : List (Addr × Obj)} {σ : St} {H : Hp} {s : Shared} {x : Str} {D e : Addr} {np : Pos} {E : Value → Shared → Prop} {Q : Value → Shared → Prop} (I : Inv X pins σ H s) (hg : Gl X x) (hm : X.mg x = some (.ref D)) (h : Q (.ref D) s)
    (hd : (x == ("__debug__" : Str)) = false) : wpAny (model X.prog X.w) (X.A.mark (some (.ref e))) (eval (.Name x np) X.env) Q E s :=
  ld_glob (X := X.sui pins e) (I.sui e) hg hm h hd
theorem ph_cls {x : Str} {D : Addr} {np pos : Pos} {b₀ : Stmt} {suite : List Stmt} {rest : List ExceptHandler} {ts : TS} {tr : Addr → TS} (F : Fnc X) (hg : Gl X x) (hm : X.mg x = some (.ref D)) (hs : ∀ pins e, PSs (X.sui pins e) (b₀ :: suite) ts) (hr : PH X rest tr)
    (hd : (x == ("__debug__" : Str)) = false := by decide) :
    PH X (.ExceptHandler (some (.Name x np)) none (b₀ :: suite) pos :: rest) (fun C W σ H => ∃ b, SubX X.K C D b ∧ if b = true then ts W σ H else tr C W σ H) := by
  intro pins s σ H W e C l I a hl ⟨b, S, h⟩
  have a' := a
  obtain ⟨oe, vs, a0, h1, h2, h3, h4, h5⟩ := a
  refine wpAny_handleBy_cons (codeAny_handlers_test (ld_suite I hg hm ?_ hd)) (by intro q; cases q)
  refine matches_own S I.kIn h1 h2 ?_
  cases b with
  | false => exact hr pins s σ H W e C l I a' hl (by simpa using h)
  | true =>
    have F' : Fnc (X.sui pins e) := ⟨F.stk, F.fr, F.ex⟩
    refine codeAny_handlers_suite ?_
    refine XG.off (X := X.sui pins e) (G := fun C' σ' H' => σ' = σ ∧ H' = H) F' ⟨e, C, l, σ, H, rfl, I.sui e, a', fun b hb => hl b hb, rfl, rfl⟩ fun s2 x2 => ?_
    obtain ⟨e2, C2, l2, σ2, H2, he, J, _, _, rfl, rfl⟩ := x2
    refine wpAny_mono (hs pins e [] s2 σ2 H2 W J (by simpa using h)) (fun f s3 q => SP.unsui I.ok q) fun _ _ z => z.elim
theorem ph_nil : PH X [] (fun _ _ _ _ => False) := fun _ _ _ _ _ _ _ _ _ _ _ h => h.elim
end
end L2
namespace L2
open PySem PySem.Spec PyProof.Rows
section
variable {prog : Program} {w : World} {A : Around} {E : Value → Shared → Prop} {h : Heap} {g : Array GenState} {d : Drawn} {t : Nat} {os : OsState} {a : Addr} {o : Obj} {vs : Array Value}
  {nm q : Str} {C N : Addr} {bs bm bmB : List Value} {hdct : Bool} {sn : List Str} {sub : List Value} {ab : Bool} {col : Option Bool} {dd : Option Addr} {k0 k1 k2 k3 k5 : Option Value} {B newId : String} {mN : Str → Option Value}
structure XBase (B : String) (bmB : List Value) : Prop extends ExcAttrBase B bmB where
  lkC : typeLookup (.type B) "__class__" = pure (some (.builtin "object.__class__"))
  hasObj : bmB.contains (.type "object") = true
end
end L2
namespace L2
open PySem PySem.Spec PyProof.Rows
structure RoomH (k : Nat) (A : Around) : Prop where
  dp : A.depth + 3 * k + 5 < recursionLimit
  un : A.units + 16 * k + 200 < cLine
structure FnOkH (P : Program) (w : World) (K : PySem.W.Frag) (mg : Str → Option Value) (base : Heap) (k : Nat) (f : Addr) (fd : FuncData) (ps : List Str) (sp : Sp) : Prop where
  len : ∀ vs H Q E, sp vs H Q E → vs.length = ps.length
  run : ∀ (A : Around) (outer : List Env) (s : Shared) (H : Hp) (args : Args) (us : List Value) (vs : List V) (Q : VK), RoomH k A → Env0 P w K mg base A outer s H → BindsTo s fd args (ps.zip us) → Vals vs us → sp vs H Q E0 →
    codeAny (model P w) A (.call (.ref f) args) (CR CX0 outer P w H s Q E0) s
section
variable {X : Cx} {k : Nat} {f : Addr} {fd : FuncData} {ps : List Str} {sp : Sp} {dvs : List V} {ds : List Value} {x : Str} {p pos : Pos} {e : Expr} {es : List Expr} {t : TA}
end
end L2
namespace L2
open PySem PySem.Spec PyProof.Rows
structure CNs (K : PySem.W.Frag) (N : Addr) : Prop where
  ok : ∃ oc od es ep sl, K.lookup N = some ⟨oc, od, .dict (List.toArray es) ep, sl⟩ ∧ (es.all fun e => match e.key with | .str _ _ => true | _ => false) = true
  n1 : PySem.W.nsIn K N "__init__" = some none
  n2 : PySem.W.nsIn K N "__getattribute__" = some none
  n3 : PySem.W.nsIn K N "__getattr__" = some none
  n4 : PySem.W.nsIn K N "__class__" = some none
theorem CNs.quiet {K : PySem.W.Frag} {h : Heap} {N : Addr} (c : CNs K N) (X : K.In h) : h.Ns N (h.nsMap N) ∧ ∀ n ∈ xnames, h.nsMap N n = none := by
  have ok : PySem.W.nsOkIn K N = true := by
    obtain ⟨oc, od, es, ep, sl, e, q⟩ := c.ok
    unfold PySem.W.nsOkIn
    rw [e]
    exact (List.all_toArray (l := es)).trans q
  refine ⟨.of_isNs (PySem.W.isNs_of_in X ok), fun n hn => PySem.W.nsMap_none_of_in X ok ?_⟩
  simp only [xnames, List.mem_cons, List.not_mem_nil, or_false] at hn
  rcases hn with rfl | rfl | rfl | rfl
  · exact c.n1
  · exact c.n2
  · exact c.n3
  · exact c.n4
section
variable {K : PySem.W.Frag} {mg : Str → Option Value} {x nm q nm' q' : Str} {C D N N' : Addr} {bm bs bs' bm' : List Value} {hdct hdct' : Bool} {sn sn' : List Str} {sub sub' : List Value} {ab ab' : Bool} {col col' : Option Bool} {dd dd' : Option Addr} {k0 k1 k2 k3 k5 k0' k1' k2' k3' k5' : Option Value} {newId newId' : String} {b : Bool}
theorem xcls0 (m : mg x = some (.ref C)) (l : K.lookup C = some (excClassObj nm q C N bs bm hdct sn sub ab col dd k0 k1 k2 k3 k5 newId)) (c : CNs K N) : XCls K mg x C [] bm newId :=
  ⟨m, fun h X => ⟨N, nm, q, bs, hdct, sn, sub, ab, col, dd, k0, k1, k2, k3, k5, _, X _ _ l, (c.quiet X).1, (c.quiet X).2, .base⟩⟩
theorem xcls1 (m : mg x = some (.ref C)) (l : K.lookup C = some (excClassObj nm q C N bs (.ref D :: bm) hdct sn sub ab col dd k0 k1 k2 k3 k5 newId)) (c : CNs K N)
    (l' : K.lookup D = some (excClassObj nm' q' D N' bs' bm hdct' sn' sub' ab' col' dd' k0' k1' k2' k3' k5' newId')) (c' : CNs K N') : XCls K mg x C [D] bm newId :=
  ⟨m, fun h X => ⟨N, nm, q, bs, hdct, sn, sub, ab, col, dd, k0, k1, k2, k3, k5, _, X _ _ l, (c.quiet X).1, (c.quiet X).2, .own (X _ _ l') (c'.quiet X).1 (c'.quiet X).2 .base⟩⟩
theorem subx_of (l : K.lookup C = some (excClassObj nm q C N bs bm hdct sn sub ab col dd k0 k1 k2 k3 k5 newId)) (l' : K.lookup D = some (excClassObj nm' q' D N' bs' bm' hdct' sn' sub' ab' col' dd' k0' k1' k2' k3' k5' newId'))
    (hb : bm'.contains (.type "BaseException") = true) (e : PySem.W.mroIn K C (.ref D) = some b) : SubX K C D b := by
  intro h X
  refine ⟨⟨nm, q, N, bs, bm, hdct, sn, sub, ab, col, dd, k0, k1, k2, k3, k5, newId, X _ _ l, ?_⟩, ⟨nm', q', N', bs', bm', hdct', sn', sub', ab', col', dd', k0', k1', k2', k3', k5', newId', X _ _ l', ?_⟩⟩
  · unfold PySem.W.mroIn PySem.W.clsIn at e
    rw [l] at e
    exact Option.some.inj e
  · rw [List.contains_cons, hb, Bool.or_true]
end
end L2
set_option Elab.async false
set_option linter.all false
set_option maxRecDepth 100000
set_option maxHeartbeats 4000000
namespace L2
open PySem PySem.Spec PyProof.Rows
abbrev TJ := Str → St → Hp → (Str → Hp → Prop) → Prop
section
variable {X : Cx} {e v : Expr} {es : List Expr} {te : TE} {tr : TJ} {pos : Pos}
end
end L2
namespace L2
open PySem PySem.Spec PyProof.Rows
section
variable {σ : St} {H : Hp} {Q : VK} {D : Ends} {te : TE} {tr : TJ} {acc y : Str} {i : Int} {R : Str → Hp → Prop} {G : Addr → St → Hp → Prop} {sp : Sp} {dvs : List V} {t : TA}
theorem w_exStr {p : Str → Prop} : (∃ y', V.str y = V.str y' ∧ p y') = p y := propext ⟨fun ⟨_, e, h⟩ => by cases e; exact h, fun h => ⟨y, rfl, h⟩⟩
theorem w_orStr {p : Str → Prop} {q : Int → Prop} : ((∃ y', V.str y = V.str y' ∧ p y') ∨ ∃ i, V.str y = V.int i ∧ q i) = p y := propext ⟨fun h => by rcases h with ⟨_, e, h⟩ | ⟨_, e, _⟩ <;> cases e; exact h, fun h => .inl ⟨y, rfl, h⟩⟩
theorem w_orInt {p : Str → Prop} {q : Int → Prop} : ((∃ y', V.int i = V.str y' ∧ p y') ∨ ∃ j, V.int i = V.int j ∧ q j) = q i := propext ⟨fun h => by rcases h with ⟨_, e, _⟩ | ⟨_, e, h⟩ <;> cases e; exact h, fun h => .inr ⟨i, rfl, h⟩⟩
theorem w_try {tb : (Addr → St → Hp → Prop) → TS} {th : Addr → TS} {te : TS} : tTry tb th te D σ H = ∃ G : Addr → St → Hp → Prop, tb G { D with nx := te D } σ H ∧ ∀ C σ' H', G C σ' H' → th C D σ' H' := rfl
end
end L2
namespace L2
open PySem PySem.Spec PyProof.Rows
abbrev TM := St → Hp → (Hp → Prop) → Prop
section
variable {X : Cx} {e v : Expr} {es : List Expr} {te : TE} {tp tr : TM} {pos : Pos}
end
section
variable {σ : St} {H : Hp} {Q : VK} {te : TE} {tp tr tm : TM} {R : Hp → Prop} {y : Str} {i : Int}
end
end L2
set_option Elab.async false
set_option linter.all false
set_option maxRecDepth 100000
set_option maxHeartbeats 4000000
namespace L2
open PySem PySem.Spec PyProof.Rows
section
variable {X : Cx} {G : Addr → St → Hp → Prop} {k : Nat} {f C : Addr} {fd : FuncData} {ps : List Str} {sp : Sp} {dvs : List V} {ds : List Value} {x m : Str} {p pos apos : Pos} {e o : Expr} {es : List Expr} {ta : TE} {t : TA}
end
section
variable {K : PySem.W.Frag} {σ : St} {H : Hp} {Q : VK} {D : Ends} {ta tv : TE} {t : TA} {f m : Str} {p C : Addr} {sp : Sp} {dvs : List V} {E : XK} {G : Addr → St → Hp → Prop} {rd : V → V → Hp → VK → Prop}
end
end L2
set_option Elab.async false
set_option linter.all false
set_option maxRecDepth 100000
set_option maxHeartbeats 4000000
namespace L2
open PySem PySem.Spec PyProof.Rows
section
variable {X : Cx} {e : Expr} {es : List Expr} {st : Stmt} {rest : List Stmt} {te : TE} {ta : TA} {t u : TS} {pos : Pos}
end
structure FnOk1 (P : Program) (w : World) (K : PySem.W.Frag) (mg : Str → Option Value) (base : Heap) (CX : CXT) (k : Nat) (f : Addr) (fd : FuncData) (ps : List Str) (sp : Sp) : Prop where
  len : ∀ vs H Q E, sp vs H Q E → vs.length = ps.length
  run : ∀ (A : Around) (outer : List Env) (s : Shared) (H : Hp) (args : Args) (us : List Value) (vs : List V) (Q : VK) (E : XK), 1 ≤ s.toks → Room k A → Env0 P w K mg base A outer s H → BindsTo s fd args (ps.zip us) → Vals vs us → sp vs H Q E →
    codeAny (model P w) A (.call (.ref f) args) (CR CX outer P w H s Q E) s
section
variable {X : Cx} {CX : CXT} {k : Nat} {f C : Addr} {fd : FuncData} {ps : List Str} {sp : Sp} {dvs : List V} {ds : List Value} {E : XK} {x : Str} {p pos : Pos} {e : Expr} {es : List Expr} {t : TA}
end
end L2
namespace L2
open PySem PySem.Spec PyProof.Rows
section
variable {X : Cx} {CX : CXT} {k : Nat} {f C : Addr} {fd : FuncData} {ps : List Str} {sp : Sp} {dvs : List V} {ds : List Value} {E : XK} {x : Str} {p pos : Pos} {e : Expr} {es : List Expr} {te : TE} {t : TA} {tt u : TS} {st : Stmt} {rest : List Stmt}
end
end L2
set_option Elab.async false
set_option linter.all false
set_option maxRecDepth 100000
set_option maxHeartbeats 4000000
namespace L2
open PySem PySem.Spec PyProof.Rows
theorem join_cons (c : Nat) (p : Str) : ∀ {r : List Str}, r ≠ [] → (Str.join ⟨#[c]⟩ (p :: r)).cps.toList = p.cps.toList ++ c :: (Str.join ⟨#[c]⟩ r).cps.toList
  | [], h => absurd rfl h
  | q :: r, _ => by
    show (p ++ ⟨#[c]⟩ ++ Str.join ⟨#[c]⟩ (q :: r)).cps.toList = _
    simp [Str.cps_append]
theorem str_ext {a b : Str} (h : a.cps.toList = b.cps.toList) : a = b := by
  obtain ⟨⟨a⟩⟩ := a
  obtain ⟨⟨b⟩⟩ := b
  simp at h
  rw [h]
theorem split_ne (x y : Str) : Txt.split x y ≠ [] := by
  unfold Txt.split
  split
  · simp
  · split
    · simp
    · intro h
      have := congrArg List.length h
      rw [length_partsBetween] at this
      simp at this
end L2
set_option Elab.async false
set_option linter.all false
set_option maxRecDepth 100000
set_option maxHeartbeats 4000000
namespace L2
open PySem PySem.Spec PyProof.Rows
def flushW (acc : List Nat) : List (List Nat) := if acc = [] then [] else [acc]
def wd (acc : List Nat) : List Nat → List (List Nat)
  | [] => flushW acc
  | c :: r => if c = 32 then flushW acc ++ wd [] r else wd (acc ++ [c]) r
theorem wd_free : ∀ (p acc r : List Nat), 32 ∉ p → wd acc (p ++ r) = wd (acc ++ p) r
  | [], acc, r, _ => by simp
  | c :: p, acc, r, h => by
    have h1 : c ≠ 32 := fun e => h (e ▸ List.mem_cons_self ..)
    have h2 : 32 ∉ p := fun m => h (List.mem_cons_of_mem _ m)
    show (if c = 32 then _ else wd (acc ++ [c]) (p ++ r)) = _
    rw [if_neg h1, wd_free p (acc ++ [c]) r h2]
    simp
theorem wd_join : ∀ {parts : List Str}, parts ≠ [] → (∀ p ∈ parts, 32 ∉ p.cps.toList) → wd [] (Str.join " " parts).cps.toList = (parts.filter fun r : Str => !decide (r = "")).map fun r => r.cps.toList
  | [], h, _ => absurd rfl h
  | [p], _, h => by
    have e := wd_free p.cps.toList [] [] (h p (List.mem_singleton.mpr rfl))
    rw [List.append_nil, List.nil_append] at e
    show wd [] p.cps.toList = _
    rw [e]
    by_cases hz : p = ""
    · subst hz; rfl
    · have : p.cps.toList ≠ [] := fun e => hz (str_ext e)
      simp [wd, flushW, this, hz]
  | p :: q :: r, _, h => by
    have ih := wd_join (parts := q :: r) (by simp) fun a ha => h a (List.mem_cons_of_mem _ ha)
    have e : (Str.join " " (p :: q :: r)).cps.toList = p.cps.toList ++ 32 :: (Str.join " " (q :: r)).cps.toList := join_cons 32 p (by simp)
    rw [e, wd_free _ _ _ (h p (List.mem_cons_self ..)), List.nil_append]
    show (if (32 : Nat) = 32 then flushW p.cps.toList ++ wd [] _ else _) = _
    rw [if_pos rfl, ih]
    by_cases hz : p = ""
    · subst hz; rfl
    · have : p.cps.toList ≠ [] := fun e => hz (str_ext e)
      rw [List.filter_cons_of_pos (a := p) (l := q :: r) (by simp [hz]), List.map_cons]
      unfold flushW
      rw [if_neg this]
      rfl
def sgn (c : Nat) : Prop := c = 40 ∨ c = 41 ∨ c = 44
instance (c : Nat) : Decidable (sgn c) := by unfold sgn; infer_instance
def Run (c : Nat) : Prop := ¬ sgn c ∧ c ≠ 32
end L2
set_option Elab.async false
set_option linter.all false
set_option maxRecDepth 100000
set_option maxHeartbeats 4000000
namespace L2
open PySem PySem.Spec PyProof.Rows
inductive Dt where
  | int (i : Int) | str (x : Str) | non | tup (l : List Dt) | lst (l : List Dt)
mutual
def Dt.beq : Dt → Dt → Bool
  | .int i, .int j => i == j
  | .str x, .str y => decide (x = y)
  | .non, .non => true
  | .tup l, .tup m => Dt.beqs l m
  | .lst l, .lst m => Dt.beqs l m
  | _, _ => false
def Dt.beqs : List Dt → List Dt → Bool
  | [], [] => true
  | a :: l, b :: m => Dt.beq a b && Dt.beqs l m
  | _, _ => false
end
mutual
theorem Dt.beq_iff : ∀ a b : Dt, Dt.beq a b = true ↔ a = b
  | .int i, b => by cases b <;> simp [Dt.beq]
  | .str x, b => by cases b <;> simp [Dt.beq]
  | .non, b => by cases b <;> simp [Dt.beq]
  | .tup l, b => by cases b with
    | tup m => simp only [Dt.beq, Dt.tup.injEq]; exact Dt.beqs_iff l m
    | _ => simp [Dt.beq]
  | .lst l, b => by cases b with
    | lst m => simp only [Dt.beq, Dt.lst.injEq]; exact Dt.beqs_iff l m
    | _ => simp [Dt.beq]
theorem Dt.beqs_iff : ∀ l m : List Dt, Dt.beqs l m = true ↔ l = m
  | [], m => by cases m <;> simp [Dt.beqs]
  | a :: l, m => by cases m with
    | nil => simp [Dt.beqs]
    | cons b m => simp only [Dt.beqs, Bool.and_eq_true, List.cons.injEq]; rw [Dt.beq_iff a b, Dt.beqs_iff l m]
end
instance : DecidableEq Dt := fun a b => if h : Dt.beq a b = true then isTrue ((Dt.beq_iff a b).mp h) else isFalse fun e => h ((Dt.beq_iff a b).mpr e)
theorem Dt.beq_dec (a b : Dt) : Dt.beq a b = decide (a = b) := by
  by_cases h : a = b
  · rw [decide_eq_true h]; exact (Dt.beq_iff a b).mpr h
  · rw [decide_eq_false h]; exact Bool.eq_false_iff.mpr fun e => h ((Dt.beq_iff a b).mp e)
theorem Dt.beqs_all : ∀ (l m : List Dt) (e : Nat → Bool), (∀ (j : Nat) a b, l[j]? = some a → m[j]? = some b → e j = Dt.beq a b) → ((List.range (min l.length m.length)).all e && l.length == m.length) = Dt.beqs l m
  | [], [], e, _ => by simp [Dt.beqs]
  | [], b :: m, e, _ => by simp [Dt.beqs]
  | a :: l, [], e, _ => by simp [Dt.beqs]
  | a :: l, b :: m, e, h => by
    have ih := Dt.beqs_all l m (fun j => e (j + 1)) fun j x y h1 h2 => h (j + 1) x y (by simpa using h1) (by simpa using h2)
    have h0 := h 0 a b rfl rfl
    simp only [Dt.beqs]
    rw [← ih, ← h0]
    simp only [List.length_cons]
    rw [show min (l.length + 1) (m.length + 1) = min l.length m.length + 1 by omega, List.range_succ_eq_map]
    simp only [List.all_cons, List.all_map]
    have : ((l.length + 1 == m.length + 1) : Bool) = (l.length == m.length) := by simp
    rw [this, Bool.and_assoc]
    rfl
mutual
def Dt.dep : Dt → Nat
  | .tup l => Dt.deps l + 1
  | .lst l => Dt.deps l + 1
  | _ => 0
def Dt.deps : List Dt → Nat
  | [] => 0
  | a :: l => max (Dt.dep a) (Dt.deps l)
end
theorem Dt.dep_mem : ∀ {l : List Dt} {j : Nat} {a : Dt}, l[j]? = some a → Dt.dep a ≤ Dt.deps l
  | [], j, a, h => by simp at h
  | b :: l, 0, a, h => by simp at h; subst h; simp only [Dt.deps]; omega
  | b :: l, j + 1, a, h => by have := Dt.dep_mem (l := l) (j := j) (a := a) (by simpa using h); simp only [Dt.deps]; omega
inductive RepD (K : PySem.W.Frag) (H : Hp) : Dt → V → Prop
  | int (i : Int) : RepD K H (.int i) (.int i)
  | str (x : Str) : RepD K H (.str x) (.str x)
  | non : RepD K H .non .non
  | tup {a : Addr} {xs : List V} {l : List Dt} (h : SqT K H a xs) (hl : l.length = xs.length) (hr : ∀ (j : Nat) d x, l[j]? = some d → xs[j]? = some x → RepD K H d x) : RepD K H (.tup l) (.ref a)
  | lst {a : Addr} {xs : List V} {l : List Dt} (h : SqL K H a xs) (hl : l.length = xs.length) (hr : ∀ (j : Nat) d x, l[j]? = some d → xs[j]? = some x → RepD K H d x) : RepD K H (.lst l) (.ref a)
theorem isL {X : Cx} {pins : List (Addr × Obj)} {σ : St} {H : Hp} {s : Shared} {a : Addr} {xs : List V} (I : Inv X pins σ H s) (h : SqL X.K H a xs) : ∃ its : List Value, Vals xs its ∧ s.heap.IsList a its.toArray := by
  obtain ⟨its, r, p, _⟩ := I.list h
  exact ⟨its, r, p.isList⟩
theorem isT {X : Cx} {pins : List (Addr × Obj)} {σ : St} {H : Hp} {s : Shared} {a : Addr} {xs : List V} (I : Inv X pins σ H s) (h : SqT X.K H a xs) : ∃ its : List Value, Vals xs its ∧ s.heap.IsTuple a its.toArray := by
  obtain ⟨its, r, p, _⟩ := I.tuple h
  exact ⟨its, r, p⟩
section
variable {X : Cx} {pins : List (Addr × Obj)} {σ : St} {H : Hp} {s : Shared}
theorem RepD.inj (I : Inv X pins σ H s) {d : Dt} {x : V} (h : RepD X.K H d x) : ∀ {d' : Dt}, RepD X.K H d' x → d = d' := by
  induction h with
  | int i => intro d' h; cases h; rfl
  | str x => intro d' h; cases h; rfl
  | non => intro d' h; cases h; rfl
  | @tup a xs l h hl hr ih =>
    intro d' h'
    cases h' with
    | @tup _ xs' l' h' hl' hr' =>
      obtain rfl := I.tuple_inj h h'
      congr 1
      apply List.ext_getElem?
      intro j
      by_cases hj : j < l.length
      · have e1 : l[j]? = some l[j] := by simp [hj]
        have e2 : xs[j]? = some xs[j] := by simp
        have hj' : j < l'.length := by omega
        have e3 : l'[j]? = some l'[j] := by simp [hj']
        rw [e1, e3, ih j _ _ e1 e2 (hr' j _ _ e3 e2)]
      · rw [List.getElem?_eq_none (by omega), List.getElem?_eq_none (by omega)]
    | @lst _ xs' l' h' hl' hr' =>
      obtain ⟨_, _, p⟩ := isT I h
      obtain ⟨_, _, q⟩ := isL I h'
      exact absurd rfl (SeqAt.ne_of_list_tuple q p)
  | @lst a xs l h hl hr ih =>
    intro d' h'
    cases h' with
    | @lst _ xs' l' h' hl' hr' =>
      obtain rfl := I.list_inj h h'
      congr 1
      apply List.ext_getElem?
      intro j
      by_cases hj : j < l.length
      · have e1 : l[j]? = some l[j] := by simp [hj]
        have e2 : xs[j]? = some xs[j] := by simp
        have hj' : j < l'.length := by omega
        have e3 : l'[j]? = some l'[j] := by simp [hj']
        rw [e1, e3, ih j _ _ e1 e2 (hr' j _ _ e3 e2)]
      · rw [List.getElem?_eq_none (by omega), List.getElem?_eq_none (by omega)]
    | @tup _ xs' l' h' hl' hr' =>
      obtain ⟨_, _, p⟩ := isL I h
      obtain ⟨_, _, q⟩ := isT I h'
      exact absurd rfl (SeqAt.ne_of_list_tuple p q)
theorem RepD.at (I : Inv X pins σ H s) {d : Dt} {x : V} (h : RepD X.K H d x) : ∀ {d' : Dt} {y : V}, RepD X.K H d' y → ∀ {A : Around} {u v : Value}, A.units + Dt.dep d < cLine → RelV x u → RelV y v →
    SeqAt.RcAt A s u v (Dt.beq d d') ∧ SeqAt.EqAt A s u v (Dt.beq d d') := by
  induction h with
  | int i =>
    intro d' y h' A u v hu ru rv
    obtain ⟨t, rfl⟩ := ru
    cases h' with
    | int j => obtain ⟨t', rfl⟩ := rv; exact ⟨SeqAt.RcAt.int_int _ _ _ _, SeqAt.EqAt.int_int _ _ _ _⟩
    | str z => obtain ⟨t', rfl⟩ := rv; exact ⟨SeqAt.RcAt.int_str _ _ _ _, SeqAt.EqAt.int_str _ _ _ _⟩
    | non => cases rv; exact ⟨SeqAt.RcAt.int_none _ _, SeqAt.EqAt.int_none _ _⟩
    | tup h => cases rv; obtain ⟨_, _, p⟩ := isT I h; exact ⟨SeqAt.RcAt.int_tuple _ _ p (by omega), SeqAt.EqAt.int_tuple _ _ p (by omega)⟩
    | lst h => cases rv; obtain ⟨_, _, p⟩ := isL I h; exact ⟨SeqAt.RcAt.int_list _ _ p (by omega), SeqAt.EqAt.int_list _ _ p (by omega)⟩
  | str z =>
    intro d' y h' A u v hu ru rv
    obtain ⟨t, rfl⟩ := ru
    cases h' with
    | int j => obtain ⟨t', rfl⟩ := rv; exact ⟨SeqAt.RcAt.str_int _ _ _ _, SeqAt.EqAt.str_int _ _ _ _⟩
    | str z' =>
      obtain ⟨t', rfl⟩ := rv
      have e : (z == z') = Dt.beq (.str z) (.str z') := by simp only [Dt.beq]; rw [Bool.beq_eq_decide_eq]
      rw [← e]; exact ⟨SeqAt.RcAt.str_str _ _ _ _, SeqAt.EqAt.str_str _ _ _ _⟩
    | non => cases rv; exact ⟨SeqAt.RcAt.str_none _ _, SeqAt.EqAt.str_none _ _⟩
    | tup h => cases rv; obtain ⟨_, _, p⟩ := isT I h; exact ⟨SeqAt.RcAt.str_tuple _ _ p (by omega), SeqAt.EqAt.str_tuple _ _ p (by omega)⟩
    | lst h => cases rv; obtain ⟨_, _, p⟩ := isL I h; exact ⟨SeqAt.RcAt.str_list _ _ p (by omega), SeqAt.EqAt.str_list _ _ p (by omega)⟩
  | non =>
    intro d' y h' A u v hu ru rv
    cases ru
    cases h' with
    | int j => obtain ⟨t', rfl⟩ := rv; exact ⟨SeqAt.RcAt.none_int _ _, SeqAt.EqAt.none_int _ _⟩
    | str z' => obtain ⟨t', rfl⟩ := rv; exact ⟨SeqAt.RcAt.none_str _ _, SeqAt.EqAt.none_str _ _⟩
    | non => cases rv; exact ⟨SeqAt.RcAt.none_none, SeqAt.EqAt.same _⟩
    | tup h => cases rv; obtain ⟨_, _, p⟩ := isT I h; exact ⟨SeqAt.RcAt.none_tuple p (by omega), SeqAt.EqAt.none_tuple p (by omega)⟩
    | lst h => cases rv; obtain ⟨_, _, p⟩ := isL I h; exact ⟨SeqAt.RcAt.none_list p (by omega), SeqAt.EqAt.none_list p (by omega)⟩
  | @tup a xs l h hl hr ih =>
    intro d' y h' A u v hu ru rv
    have h0 := h'
    cases ru
    obtain ⟨its, r1, p1⟩ := isT I h
    cases h' with
    | int j => obtain ⟨t', rfl⟩ := rv; exact ⟨SeqAt.RcAt.tuple_int _ _ p1 (by omega), SeqAt.EqAt.tuple_int _ _ p1 (by omega)⟩
    | str z' => obtain ⟨t', rfl⟩ := rv; exact ⟨SeqAt.RcAt.tuple_str _ _ p1 (by omega), SeqAt.EqAt.tuple_str _ _ p1 (by omega)⟩
    | non => cases rv; exact ⟨SeqAt.RcAt.tuple_none p1 (by omega), SeqAt.EqAt.tuple_none p1 (by omega)⟩
    | lst h2 => cases rv; obtain ⟨_, _, p2⟩ := isL I h2; exact ⟨SeqAt.RcAt.tuple_list p1 p2 (by omega), SeqAt.EqAt.tuple_list p1 p2 (by omega)⟩
    | @tup b ys m h2 hl2 hr2 =>
      cases rv
      obtain ⟨its2, r2, p2⟩ := isT I h2
      have l1 : its.toArray.size = xs.length := by rw [List.size_toArray]; exact r1.length.symm
      have l2 : its2.toArray.size = ys.length := by rw [List.size_toArray]; exact r2.length.symm
      have rc : SeqAt.RcAt A s (.ref a) (.ref b) (Dt.beq (.tup l) (.tup m)) := by
        have hd : Dt.dep (.tup l) = Dt.deps l + 1 := by simp only [Dt.dep]
        rw [hd] at hu
        have := SeqAt.RcAt.tuples (A := A) (e := fun j => match l[j]?, m[j]? with | some x, some y => Dt.beq x y | _, _ => true) p1 p2 (by omega) (fun j h1 h2 => by
          obtain ⟨x, ex, rx⟩ := getD_some r1 h1
          obtain ⟨y, ey, ry⟩ := getD_some r2 h2
          have j1 : j < l.length := by omega
          have j2 : j < m.length := by omega
          have e1 : l[j]? = some l[j] := by simp [j1]
          have e2 : m[j]? = some m[j] := by simp [j2]
          rw [e1, e2]
          exact (ih j _ _ e1 ex (hr2 j _ _ e2 ey) (A := A.in1) (by show A.units + 1 + _ < cLine; have := Dt.dep_mem e1; omega) rx ry).2)
        rw [l1, l2, ← hl, ← hl2, Dt.beqs_all l m _ (fun j x y h1 h2 => by simp only [h1, h2])] at this
        simp only [Dt.beq]
        exact this
      refine ⟨rc, ?_⟩
      by_cases hab : a = b
      · subst hab
        rw [(Dt.beq_iff _ _).mpr ((RepD.tup h hl hr).inj I h0)]
        exact SeqAt.EqAt.same _
      · exact SeqAt.EqAt.of_refs hab rc
  | @lst a xs l h hl hr ih =>
    intro d' y h' A u v hu ru rv
    have h0 := h'
    cases ru
    obtain ⟨its, r1, p1⟩ := isL I h
    cases h' with
    | int j => obtain ⟨t', rfl⟩ := rv; exact ⟨SeqAt.RcAt.list_int _ _ p1 (by omega), SeqAt.EqAt.list_int _ _ p1 (by omega)⟩
    | str z' => obtain ⟨t', rfl⟩ := rv; exact ⟨SeqAt.RcAt.list_str _ _ p1 (by omega), SeqAt.EqAt.list_str _ _ p1 (by omega)⟩
    | non => cases rv; exact ⟨SeqAt.RcAt.list_none p1 (by omega), SeqAt.EqAt.list_none p1 (by omega)⟩
    | tup h2 => cases rv; obtain ⟨_, _, p2⟩ := isT I h2; exact ⟨SeqAt.RcAt.list_tuple p1 p2 (by omega), SeqAt.EqAt.list_tuple p1 p2 (by omega)⟩
    | @lst b ys m h2 hl2 hr2 =>
      cases rv
      obtain ⟨its2, r2, p2⟩ := isL I h2
      have l1 : its.toArray.size = xs.length := by rw [List.size_toArray]; exact r1.length.symm
      have l2 : its2.toArray.size = ys.length := by rw [List.size_toArray]; exact r2.length.symm
      have rc : SeqAt.RcAt A s (.ref a) (.ref b) (Dt.beq (.lst l) (.lst m)) := by
        have hd : Dt.dep (.lst l) = Dt.deps l + 1 := by simp only [Dt.dep]
        rw [hd] at hu
        simp only [Dt.beq]
        by_cases hlen : l.length = m.length
        · have := SeqAt.RcAt.lists (A := A) (e := fun j => match l[j]?, m[j]? with | some x, some y => Dt.beq x y | _, _ => true) p1 p2 (by omega) (by omega) (fun j h1 h2 => by
            obtain ⟨x, ex, rx⟩ := getD_some r1 h1
            obtain ⟨y, ey, ry⟩ := getD_some r2 h2
            have j1 : j < l.length := by omega
            have j2 : j < m.length := by omega
            have e1 : l[j]? = some l[j] := by simp [j1]
            have e2 : m[j]? = some m[j] := by simp [j2]
            rw [e1, e2]
            exact (ih j _ _ e1 ex (hr2 j _ _ e2 ey) (A := A.in1) (by show A.units + 1 + _ < cLine; have := Dt.dep_mem e1; omega) rx ry).2)
          have q := Dt.beqs_all l m (fun j => match l[j]?, m[j]? with | some x, some y => Dt.beq x y | _, _ => true) (fun j x y h1 h2 => by simp only [h1, h2])
          rw [← q]
          have q1 : (l.length == m.length) = true := by simpa using hlen
          have q2 : min l.length m.length = its.toArray.size := by omega
          rw [q1, Bool.and_true, q2]
          exact this
        · have q : Dt.beqs l m = false := Bool.eq_false_iff.mpr fun e => hlen (congrArg List.length ((Dt.beqs_iff l m).mp e))
          rw [q]
          exact SeqAt.RcAt.lists_lengths p1 p2 (by rw [l1, l2]; simp; omega) (by omega)
      refine ⟨rc, ?_⟩
      by_cases hab : a = b
      · subst hab
        rw [(Dt.beq_iff _ _).mpr ((RepD.lst h hl hr).inj I h0)]
        exact SeqAt.EqAt.same _
      · exact SeqAt.EqAt.of_refs hab rc
theorem RepD.ne (I : Inv X pins σ H s) {d d' : Dt} {x y : V} (h : RepD X.K H d x) (h' : RepD X.K H d' y) {A : Around} {u v : Value} (hu : A.units + Dt.dep d < cLine) (ru : RelV x u) (rv : RelV y v) :
    SeqAt.RcNeAt A s u v (!Dt.beq d d') := by
  cases h with
  | int i =>
    obtain ⟨t, rfl⟩ := ru
    cases h' with
    | int j => obtain ⟨t', rfl⟩ := rv; exact SeqAt.RcNeAt.int_int _ _ _ _
    | str z => obtain ⟨t', rfl⟩ := rv; exact SeqAt.RcNeAt.int_str _ _ _ _
    | non => cases rv; exact SeqAt.RcNeAt.int_none _ _
    | tup h => cases rv; obtain ⟨_, _, p⟩ := isT I h; exact SeqAt.RcNeAt.int_tuple _ _ p (by omega)
    | lst h => cases rv; obtain ⟨_, _, p⟩ := isL I h; exact SeqAt.RcNeAt.int_list _ _ p (by omega)
  | str z =>
    obtain ⟨t, rfl⟩ := ru
    cases h' with
    | int j => obtain ⟨t', rfl⟩ := rv; exact SeqAt.RcNeAt.str_int _ _ _ _
    | str z' =>
      obtain ⟨t', rfl⟩ := rv
      have e : (z == z') = Dt.beq (.str z) (.str z') := by simp only [Dt.beq]; rw [Bool.beq_eq_decide_eq]
      rw [← e]; exact SeqAt.RcNeAt.str_str _ _ _ _
    | non => cases rv; exact SeqAt.RcNeAt.str_none _ _
    | tup h => cases rv; obtain ⟨_, _, p⟩ := isT I h; exact SeqAt.RcNeAt.str_tuple _ _ p (by omega)
    | lst h => cases rv; obtain ⟨_, _, p⟩ := isL I h; exact SeqAt.RcNeAt.str_list _ _ p (by omega)
  | non =>
    cases ru
    cases h' with
    | int j => obtain ⟨t', rfl⟩ := rv; exact SeqAt.RcNeAt.none_int _ _
    | str z' => obtain ⟨t', rfl⟩ := rv; exact SeqAt.RcNeAt.none_str _ _
    | non => cases rv; exact SeqAt.RcNeAt.none_none
    | tup h => cases rv; obtain ⟨_, _, p⟩ := isT I h; exact SeqAt.RcNeAt.none_tuple p (by omega)
    | lst h => cases rv; obtain ⟨_, _, p⟩ := isL I h; exact SeqAt.RcNeAt.none_list p (by omega)
  | @tup a xs l h hl hr =>
    cases ru
    obtain ⟨its, r1, p1⟩ := isT I h
    cases h' with
    | int j => obtain ⟨t', rfl⟩ := rv; exact SeqAt.RcNeAt.tuple_int _ _ p1 (by omega)
    | str z' => obtain ⟨t', rfl⟩ := rv; exact SeqAt.RcNeAt.tuple_str _ _ p1 (by omega)
    | non => cases rv; exact SeqAt.RcNeAt.tuple_none p1 (by omega)
    | lst h2 => cases rv; obtain ⟨_, _, p2⟩ := isL I h2; exact SeqAt.RcNeAt.tuple_list p1 p2 (by omega)
    | @tup b ys m h2 hl2 hr2 =>
      cases rv
      obtain ⟨its2, r2, p2⟩ := isT I h2
      have l1 : its.toArray.size = xs.length := by rw [List.size_toArray]; exact r1.length.symm
      have l2 : its2.toArray.size = ys.length := by rw [List.size_toArray]; exact r2.length.symm
      have hd : Dt.dep (.tup l) = Dt.deps l + 1 := by simp only [Dt.dep]
      rw [hd] at hu
      have := SeqAt.RcNeAt.tuples (A := A) (e := fun j => match l[j]?, m[j]? with | some x, some y => Dt.beq x y | _, _ => true) p1 p2 (by omega) (fun j h1 h2 => by
        obtain ⟨x, ex, rx⟩ := getD_some r1 h1
        obtain ⟨y, ey, ry⟩ := getD_some r2 h2
        have j1 : j < l.length := by omega
        have j2 : j < m.length := by omega
        have e1 : l[j]? = some l[j] := by simp [j1]
        have e2 : m[j]? = some m[j] := by simp [j2]
        rw [e1, e2]
        exact (RepD.at I (hr j _ _ e1 ex) (hr2 j _ _ e2 ey) (A := A.in1) (by show A.units + 1 + _ < cLine; have := Dt.dep_mem e1; omega) rx ry).2)
      rw [l1, l2, ← hl, ← hl2, Dt.beqs_all l m _ (fun j x y h1 h2 => by simp only [h1, h2])] at this
      simp only [Dt.beq]
      exact this
  | @lst a xs l h hl hr =>
    cases ru
    obtain ⟨its, r1, p1⟩ := isL I h
    cases h' with
    | int j => obtain ⟨t', rfl⟩ := rv; exact SeqAt.RcNeAt.list_int _ _ p1 (by omega)
    | str z' => obtain ⟨t', rfl⟩ := rv; exact SeqAt.RcNeAt.list_str _ _ p1 (by omega)
    | non => cases rv; exact SeqAt.RcNeAt.list_none p1 (by omega)
    | tup h2 => cases rv; obtain ⟨_, _, p2⟩ := isT I h2; exact SeqAt.RcNeAt.list_tuple p1 p2 (by omega)
    | @lst b ys m h2 hl2 hr2 =>
      cases rv
      obtain ⟨its2, r2, p2⟩ := isL I h2
      have l1 : its.toArray.size = xs.length := by rw [List.size_toArray]; exact r1.length.symm
      have l2 : its2.toArray.size = ys.length := by rw [List.size_toArray]; exact r2.length.symm
      have hd : Dt.dep (.lst l) = Dt.deps l + 1 := by simp only [Dt.dep]
      rw [hd] at hu
      simp only [Dt.beq]
      by_cases hlen : l.length = m.length
      · have := SeqAt.RcNeAt.lists (A := A) (e := fun j => match l[j]?, m[j]? with | some x, some y => Dt.beq x y | _, _ => true) p1 p2 (by omega) (by omega) (fun j h1 h2 => by
          obtain ⟨x, ex, rx⟩ := getD_some r1 h1
          obtain ⟨y, ey, ry⟩ := getD_some r2 h2
          have j1 : j < l.length := by omega
          have j2 : j < m.length := by omega
          have e1 : l[j]? = some l[j] := by simp [j1]
          have e2 : m[j]? = some m[j] := by simp [j2]
          rw [e1, e2]
          exact (RepD.at I (hr j _ _ e1 ex) (hr2 j _ _ e2 ey) (A := A.in1) (by show A.units + 1 + _ < cLine; have := Dt.dep_mem e1; omega) rx ry).2)
        have q := Dt.beqs_all l m (fun j => match l[j]?, m[j]? with | some x, some y => Dt.beq x y | _, _ => true) (fun j x y h1 h2 => by simp only [h1, h2])
        rw [← q]
        have q1 : (l.length == m.length) = true := by simpa using hlen
        have q2 : min l.length m.length = its.toArray.size := by omega
        rw [q1, Bool.and_true, q2]
        exact this
      · have q : Dt.beqs l m = false := Bool.eq_false_iff.mpr fun e => hlen (congrArg List.length ((Dt.beqs_iff l m).mp e))
        rw [q]
        exact SeqAt.RcNeAt.lists_lengths p1 p2 (by rw [l1, l2]; simp; omega) (by omega)
theorem RepD.mem (I : Inv X pins σ H s) {d : Dt} {x : V} {l : List Dt} {xs : List V} {its : List Value} (hx : RepD X.K H d x) (hl : l.length = xs.length) (hr : ∀ (j : Nat) d x, l[j]? = some d → xs[j]? = some x → RepD X.K H d x)
    (r : Vals xs its) {A : Around} {v : Value} (hu : ∀ a ∈ l, A.units + Dt.dep a < cLine) (rv : RelV x v) :
    ∃ e : Value → Bool, (∀ u ∈ its, SeqAt.EqAt A s u v (e u)) ∧ its.any e = decide (d ∈ l) := by
  classical
  have item : ∀ u ∈ its, ∃ (j : Nat) (y : V) (a : Dt), its[j]? = some u ∧ xs[j]? = some y ∧ l[j]? = some a ∧ RelV y u := fun u hm => by
    obtain ⟨j, hj, e⟩ := List.getElem_of_mem hm
    have hx' : j < xs.length := by rw [r.length]; exact hj
    have hl' : j < l.length := by omega
    obtain ⟨u', e', ru⟩ := r.get (i := j) (x := xs[j]) (by simp [hx'])
    have : its[j]? = some u := by simp [hj, e]
    rw [this] at e'; cases e'
    exact ⟨j, xs[j], l[j], this, by simp [hx'], by simp [hl'], ru⟩
  refine ⟨fun u => decide (∃ y, RelV y u ∧ RepD X.K H d y), fun u hm => ?_, ?_⟩
  · obtain ⟨j, y, a, _, hy, ha, ru⟩ := item u hm
    have ry := hr j a y ha hy
    have e : decide (∃ y, RelV y u ∧ RepD X.K H d y) = Dt.beq a d := by
      rw [Dt.beq_dec]
      congr 1
      refine propext ⟨fun ⟨y', r1, r2⟩ => ?_, fun z => ⟨y, ru, z ▸ ry⟩⟩
      obtain rfl := ru.inj r1
      exact ry.inj I r2
    show SeqAt.EqAt A s u v (decide (∃ y, RelV y u ∧ RepD X.K H d y))
    rw [e]
    exact (ry.at I hx (hu a (List.mem_of_getElem? ha)) ru rv).2
  · apply Bool.eq_iff_iff.mpr
    simp only [List.any_eq_true, decide_eq_true_eq]
    constructor
    · rintro ⟨u, hm, y', r1, r2⟩
      obtain ⟨j, y, a, _, hy, ha, ru⟩ := item u hm
      obtain rfl := ru.inj r1
      have := (hr j a y ha hy).inj I r2
      subst this
      exact List.mem_of_getElem? ha
    · intro hm
      obtain ⟨j, hj, e⟩ := List.getElem_of_mem hm
      have hx' : j < xs.length := by omega
      obtain ⟨u, hu', ru⟩ := r.get (i := j) (x := xs[j]) (by simp [hx'])
      exact ⟨u, List.mem_of_getElem? hu', xs[j], ru, e ▸ hr j l[j] xs[j] (by simp [hj]) (by simp [hx'])⟩
end
section
variable {X : Cx} {K : PySem.W.Frag} {H : Hp} {Q : VK}
def rEqT (K : PySem.W.Frag) : R2 := fun x y H Q => ∃ d d', RepD K H d x ∧ RepD K H d' y ∧ Dt.dep d ≤ 60 ∧ Q (.bl (decide (d = d'))) H
def rNeT (K : PySem.W.Frag) : R2 := fun x y H Q => ∃ d d', RepD K H d x ∧ RepD K H d' y ∧ Dt.dep d ≤ 60 ∧ Q (.bl (!decide (d = d'))) H
theorem op_eqT (hu : X.A.units + 64 < cLine) : OpR X (compareOp .Eq) (rEqT X.K) := by
  intro pins s σ H x y v u Q I rx ry ⟨d, d', h, h', hd, q⟩
  exact (h.at I h' (A := X.A) (by omega) rx ry).1 X.prog X.w X.xe _ ⟨.bl _, H, I, rfl, by rw [Dt.beq_dec]; exact q⟩
theorem op_neT (hu : X.A.units + 64 < cLine) : OpR X (compareOp .NotEq) (rNeT X.K) := by
  intro pins s σ H x y v u Q I rx ry ⟨d, d', h, h', hd, q⟩
  exact (h.ne I h' (A := X.A) (by omega) rx ry) X.prog X.w X.xe _ ⟨.bl _, H, I, rfl, by rw [Dt.beq_dec]; exact q⟩
def rInT (K : PySem.W.Frag) (neg : Bool) : R2 := fun x y H Q => ∃ d l, RepD K H d x ∧ (RepD K H (.tup l) y ∨ RepD K H (.lst l) y) ∧ Dt.deps l ≤ 60 ∧ Q (.bl (if neg then !decide (d ∈ l) else decide (d ∈ l))) H
theorem Dt.deps_mem {l : List Dt} {a : Dt} (h : a ∈ l) : Dt.dep a ≤ Dt.deps l := by
  obtain ⟨j, hj, e⟩ := List.getElem_of_mem h
  exact Dt.dep_mem (j := j) (by simp [hj, e])
theorem op_inT (hu : X.A.units + 64 < cLine) : OpR X (compareOp .In) (rInT X.K false) := by
  intro pins s σ H x y v u Q I rx ry ⟨d, l, h, h', hd, q⟩
  rcases h' with h' | h'
  · cases h' with
    | @tup a xs _ hq hl hr =>
      cases ry
      obtain ⟨its, r, p⟩ := isT I hq
      obtain ⟨e, he, ha⟩ := RepD.mem I h hl hr r (A := X.A.in1) (fun a hm => by show X.A.units + 1 + _ < cLine; have := Dt.deps_mem hm; omega) rx
      refine SeqAt.in_tupleAt e p (fun w hw => he w (by simpa using hw)) ⟨.bl _, H, I, rfl, ?_⟩
      rw [show its.toArray.any e = its.any e by simp, ha]
      exact q
  · cases h' with
    | @lst a xs _ hq hl hr =>
      cases ry
      obtain ⟨its, r, p⟩ := isL I hq
      obtain ⟨e, he, ha⟩ := RepD.mem I h hl hr r (A := X.A.in1) (fun a hm => by show X.A.units + 1 + _ < cLine; have := Dt.deps_mem hm; omega) rx
      refine SeqAt.in_listAt e p (fun w hw => he w (by simpa using hw)) ⟨.bl _, H, I, rfl, ?_⟩
      rw [show its.toArray.any e = its.any e by simp, ha]
      exact q
theorem op_notInT (hu : X.A.units + 64 < cLine) : OpR X (compareOp .NotIn) (rInT X.K true) := by
  intro pins s σ H x y v u Q I rx ry ⟨d, l, h, h', hd, q⟩
  rcases h' with h' | h'
  · cases h' with
    | @tup a xs _ hq hl hr =>
      cases ry
      obtain ⟨its, r, p⟩ := isT I hq
      obtain ⟨e, he, ha⟩ := RepD.mem I h hl hr r (A := X.A.in1) (fun a hm => by show X.A.units + 1 + _ < cLine; have := Dt.deps_mem hm; omega) rx
      refine SeqAt.notIn_tupleAt e p (fun w hw => he w (by simpa using hw)) ⟨.bl _, H, I, rfl, ?_⟩
      rw [show its.toArray.any e = its.any e by simp, ha]
      exact q
  · cases h' with
    | @lst a xs _ hq hl hr =>
      cases ry
      obtain ⟨its, r, p⟩ := isL I hq
      obtain ⟨e, he, ha⟩ := RepD.mem I h hl hr r (A := X.A.in1) (fun a hm => by show X.A.units + 1 + _ < cLine; have := Dt.deps_mem hm; omega) rx
      refine SeqAt.notIn_listAt e p (fun w hw => he w (by simpa using hw)) ⟨.bl _, H, I, rfl, ?_⟩
      rw [show its.toArray.any e = its.any e by simp, ha]
      exact q
end
end L2
namespace L2
open PySem PySem.Spec PyProof.Rows
theorem RepD.same {K : PySem.W.Frag} {H H' : Hp} (e : Same H H') {d : Dt} {x : V} (h : RepD K H d x) : RepD K H' d x := by
  induction h with
  | int i => exact .int i
  | str x => exact .str x
  | non => exact .non
  | tup h hl hr ih => exact .tup (e.seqT h) hl ih
  | lst h hl hr ih => exact .lst (e.seq h) hl ih
theorem RepD.ints {K : PySem.W.Frag} {H : Hp} {a : Addr} {ts : List Int} (h : SqT K H a (ts.map V.int)) : RepD K H (.tup (ts.map Dt.int)) (.ref a) :=
  .tup h (by simp) fun j d x h1 h2 => by
    rw [List.getElem?_map] at h1 h2
    cases e : ts[j]? with
    | none => rw [e] at h1; cases h1
    | some t => rw [e] at h1 h2; cases h1; cases h2; exact .int t
theorem RepD.t2 {K : PySem.W.Frag} {H : Hp} {a : Addr} {x y : V} {d d2 : Dt} (h : SqT K H a [x, y]) (h1 : RepD K H d x) (h2 : RepD K H d2 y) : RepD K H (.tup [d, d2]) (.ref a) :=
  .tup h rfl fun j d' x' e1 e2 => match j, e1, e2 with
    | 0, e1, e2 => by cases e1; cases e2; exact h1
    | 1, e1, e2 => by cases e1; cases e2; exact h2
theorem RepD.t3 {K : PySem.W.Frag} {H : Hp} {a : Addr} {x y z : V} {d d2 d3 : Dt} (h : SqT K H a [x, y, z]) (h1 : RepD K H d x) (h2 : RepD K H d2 y) (h3 : RepD K H d3 z) : RepD K H (.tup [d, d2, d3]) (.ref a) :=
  .tup h rfl fun j d' x' e1 e2 => match j, e1, e2 with
    | 0, e1, e2 => by cases e1; cases e2; exact h1
    | 1, e1, e2 => by cases e1; cases e2; exact h2
    | 2, e1, e2 => by cases e1; cases e2; exact h3
namespace Stm
end Stm
section
variable {X : Cx}
def rEqC (K : PySem.W.Frag) : R2 := fun x y H Q => rEq x y H Q ∨ rEqT K x y H Q
def rNeC (K : PySem.W.Frag) : R2 := fun x y H Q => rNe x y H Q ∨ rNeT K x y H Q
def rInC (K : PySem.W.Frag) (neg : Bool) : R2 := fun x y H Q => rInA K neg x y H Q ∨ rInT K neg x y H Q
theorem opC_eq (K : PySem.W.Frag) (hu : X.A.units + 64 < cLine) (hK : X.K = K := by rfl) : OpR X (compareOp .Eq) (rEqC K) := hK ▸ (OpR.or op_eq (op_eqT hu) : OpR X (compareOp .Eq) (rEqC X.K))
theorem opC_ne (K : PySem.W.Frag) (hu : X.A.units + 64 < cLine) (hK : X.K = K := by rfl) : OpR X (compareOp .NotEq) (rNeC K) := hK ▸ (OpR.or op_ne (op_neT hu) : OpR X (compareOp .NotEq) (rNeC X.K))
theorem opC_in (K : PySem.W.Frag) (hu : X.A.units + 64 < cLine) (hK : X.K = K := by rfl) : OpR X (compareOp .In) (rInC K false) := hK ▸ (OpR.or (opA_in X.K) (op_inT hu) : OpR X (compareOp .In) (rInC X.K false))
theorem opC_notin (K : PySem.W.Frag) (hu : X.A.units + 64 < cLine) (hK : X.K = K := by rfl) : OpR X (compareOp .NotIn) (rInC K true) := hK ▸ (OpR.or (opA_notin X.K) (op_notInT hu) : OpR X (compareOp .NotIn) (rInC X.K true))
end
end L2
namespace L2
open PySem PySem.Spec PyProof.Rows
section
variable {K : PySem.W.Frag} {H : Hp} {Q : VK} {i j : Int} {x y : Str} {p q : Addr} {u : V} {neg : Bool}
theorem RepD.of_int {d : Dt} (h : RepD K H d (.int i)) : d = .int i := by cases h; rfl
theorem RepD.of_str {d : Dt} (h : RepD K H d (.str x)) : d = .str x := by cases h; rfl
theorem w_eqIC : rEqC K (.int i) (.int j) H Q = Q (.bl (decide (i = j))) H := by
  refine propext ⟨fun h => ?_, fun h => .inl ⟨rfl, by simpa using h⟩⟩
  rcases h with ⟨_, h⟩ | ⟨d, d', h1, h2, _, h⟩
  · simpa using h
  · rw [h1.of_int, h2.of_int] at h; simpa using h
theorem w_eqSC : rEqC K (.str x) (.str y) H Q = Q (.bl (decide (x = y))) H := by
  refine propext ⟨fun h => ?_, fun h => .inl ⟨rfl, by simpa using h⟩⟩
  rcases h with ⟨_, h⟩ | ⟨d, d', h1, h2, _, h⟩
  · simpa using h
  · rw [h1.of_str, h2.of_str] at h; simpa using h
theorem w_neIC : rNeC K (.int i) (.int j) H Q = Q (.bl (!decide (i = j))) H := by
  refine propext ⟨fun h => ?_, fun h => .inl ⟨rfl, by simpa using h⟩⟩
  rcases h with ⟨_, h⟩ | ⟨d, d', h1, h2, _, h⟩
  · simpa using h
  · rw [h1.of_int, h2.of_int] at h; simpa using h
theorem w_neSC : rNeC K (.str x) (.str y) H Q = Q (.bl (!decide (x = y))) H := by
  refine propext ⟨fun h => ?_, fun h => .inl ⟨rfl, by simpa using h⟩⟩
  rcases h with ⟨_, h⟩ | ⟨d, d', h1, h2, _, h⟩
  · simpa using h
  · rw [h1.of_str, h2.of_str] at h; simpa using h
theorem w_eqRC : rEqC K (.ref p) u H Q = ∃ d d', RepD K H d (.ref p) ∧ RepD K H d' u ∧ Dt.dep d ≤ 60 ∧ Q (.bl (decide (d = d'))) H := by
  refine propext ⟨fun h => ?_, fun h => .inr h⟩
  rcases h with ⟨e, _⟩ | h
  · cases u <;> cases e
  · exact h
theorem w_eqCR : rEqC K u (.ref p) H Q = ∃ d d', RepD K H d u ∧ RepD K H d' (.ref p) ∧ Dt.dep d ≤ 60 ∧ Q (.bl (decide (d = d'))) H := by
  refine propext ⟨fun h => ?_, fun h => .inr h⟩
  rcases h with ⟨e, _⟩ | h
  · cases u <;> cases e
  · exact h
theorem w_neRC : rNeC K (.ref p) u H Q = ∃ d d', RepD K H d (.ref p) ∧ RepD K H d' u ∧ Dt.dep d ≤ 60 ∧ Q (.bl (!decide (d = d'))) H := by
  refine propext ⟨fun h => ?_, fun h => .inr h⟩
  rcases h with ⟨e, _⟩ | h
  · cases u <;> cases e
  · exact h
theorem w_neCR : rNeC K u (.ref p) H Q = ∃ d d', RepD K H d u ∧ RepD K H d' (.ref p) ∧ Dt.dep d ≤ 60 ∧ Q (.bl (!decide (d = d'))) H := by
  refine propext ⟨fun h => ?_, fun h => .inr h⟩
  rcases h with ⟨e, _⟩ | h
  · cases u <;> cases e
  · exact h
theorem w_inCS : rInC K false (.str x) (.str y) H Q = Q (.bl (inS x y)) H := by
  refine propext ⟨fun h => ?_, fun h => .inl (.inl ⟨x, y, rfl, rfl, h⟩)⟩
  rcases h with (⟨_, _, e1, e2, h⟩ | ⟨_, _, e, _⟩) | ⟨_, _, _, h, _⟩
  · cases e1; cases e2; exact h
  · cases e
  · rcases h with h | h <;> cases h
theorem w_notinCS : rInC K true (.str x) (.str y) H Q = Q (.bl (!inS x y)) H := by
  refine propext ⟨fun h => ?_, fun h => .inl (.inl ⟨x, y, rfl, rfl, h⟩)⟩
  rcases h with (⟨_, _, e1, e2, h⟩ | ⟨_, _, e, _⟩) | ⟨_, _, _, h, _⟩
  · cases e1; cases e2; exact h
  · cases e
  · rcases h with h | h <;> cases h
theorem w_inCR : rInC K neg u (.ref p) H Q = (rIn K neg u (.ref p) H Q ∨ rInT K neg u (.ref p) H Q) := by
  refine propext ⟨fun h => ?_, fun h => ?_⟩
  · rcases h with (⟨_, _, _, e2, _⟩ | h) | h
    · cases e2
    · exact .inl h
    · exact .inr h
  · rcases h with h | h
    · exact .inl (.inr h)
    · exact .inr h
end
end L2
set_option Elab.async false
set_option linter.all false
set_option maxRecDepth 100000
set_option maxHeartbeats 4000000
namespace L2
open PySem PySem.Spec PyProof.Rows
section
variable {X : Cx}
def rAny (K : PySem.W.Frag) : List V → Hp → VK → Prop := fun xs H Q => ∃ (p : Addr) (bs : List Bool), xs = [.ref p] ∧ SqL K H p (bs.map V.bl) ∧ Q (.bl (bs.any id)) H
theorem w_any {K : PySem.W.Frag} {p : Addr} {H : Hp} {Q : VK} : rAny K [.ref p] H Q = ∃ bs : List Bool, SqL K H p (bs.map V.bl) ∧ Q (.bl (bs.any id)) H := by
  refine propext ⟨fun ⟨_, bs, e, h⟩ => ?_, fun ⟨bs, h⟩ => ⟨p, bs, rfl, h⟩⟩
  cases e; exact ⟨bs, h⟩
def rSum (K : PySem.W.Frag) : List V → Hp → VK → Prop := fun xs H Q => ∃ (p : Addr) (ns : List Int), xs = [.ref p] ∧ SqL K H p (ns.map V.int) ∧ Q (.int ns.sum) H
theorem w_sum {K : PySem.W.Frag} {p : Addr} {H : Hp} {Q : VK} : rSum K [.ref p] H Q = ∃ ns : List Int, SqL K H p (ns.map V.int) ∧ Q (.int ns.sum) H := by
  refine propext ⟨fun ⟨_, bs, e, h⟩ => ?_, fun ⟨bs, h⟩ => ⟨p, bs, rfl, h⟩⟩
  cases e; exact ⟨bs, h⟩
end
end L2
namespace L2
open PySem PySem.Spec PyProof.Rows
section
variable {K : PySem.W.Frag} {σ : St} {H : Hp} {Q : VK} {D : Ends} {ta tb tc te : TE} {r r' : R2} {i n : Nat} {ti : TIp} {g : TG} {gs : TGs} {v : V} {vs : List V} {R : St → Hp → Prop} {f : Int → Int → Int} {a b : Int}
theorem w_aug : tAug i te ti D σ H = ∃ x, σ[i]? = some (some x) ∧ te σ H fun y H1 => ti x y H1 fun z H2 => D.nx (σ.set i (some z)) H2 := rfl
theorem w_ipI : ipI f (.int a) (.int b) H Q = Q (.int (f a b)) H := propext ⟨fun ⟨_, _, e, e', h⟩ => by cases e; cases e'; exact h, fun h => ⟨a, b, rfl, rfl, h⟩⟩
theorem w_gTup {p : Addr} : gTup K n gs (.ref p) σ H R = ∃ xs, SqT K H p xs ∧ xs.length = n ∧ gs xs σ H R := propext ⟨fun ⟨_, xs, e, h⟩ => by cases e; exact ⟨xs, h⟩, fun ⟨xs, h⟩ => ⟨p, xs, rfl, h⟩⟩
theorem w_gCons : gCons g gs (v :: vs) σ H R = g v σ H fun σ' H' => gs vs σ' H' R := propext ⟨fun ⟨_, _, e, h⟩ => by cases e; exact h, fun h => ⟨v, vs, rfl, h⟩⟩
theorem w_gNil : gNil [] σ H R = R σ H := propext ⟨fun h => h.2, fun h => ⟨rfl, h⟩⟩
end
end L2
set_option Elab.async false
set_option linter.all false
set_option maxRecDepth 100000
set_option maxHeartbeats 4000000
namespace HT
open PySem PyProof.Rows
section
variable {prog : Program} {w : World} {A : Around} {E : Value → Shared → Prop} {s : Shared}
theorem getItem_tuple_whole {t sl : Addr} {items : Array Value} {vl vu : Value} {lo hi : Option Int} {Q : Value → Shared → Prop} (ht : IsTup s.heap t items) (hs : s.heap.IsSliceOf sl vl vu .none) (pl : IsPart vl lo) (pu : IsPart vu hi)
    (hw : sIx items.size 0 lo = 0 ∧ sIx items.size items.size hi = items.size) (h : Q (.ref t) s) : wpAny (model prog w) A (getItem (.ref t) (.ref sl)) Q E s := by
  obtain ⟨os, hos, hcs, hds⟩ := id hs
  have hTs : s.TypeIs (.ref sl) "slice" := ⟨os, hos, hcs⟩
  unfold getItem
  try with_reducible refine wpAny_holding ?_
  first | refine wpAny_bind (wpAny_pure ?_) | skip
  refine wpAny_bind (wpAny_sequenceKey ht.typeIs (by decide) ?_)
  refine wpAny_bind (wpAny_callSpecial?_slot (name := Str.ofString "__getitem__") ht.typeIs PyProof.Rows.slot_tuple_getitem
    (wpAny_call_entry PyProof.Rows.slot_tuple_getitem ht.typeIs entry_tuple_getitem ?_ (args_tuple_getitem _ _)))
  show wpAny _ _ (Builtin.Tuple.tupleItemsOf (.ref t) >>= _) _ _ s
  refine wpAny_bind (tupleItemsOf_ ht ?_)
  refine wpAny_bind (wpAny_typeOf hTs ?_)
  rw [if_pos (by decide)]
  refine wpAny_bind (sliceApplied_gen hs pl pu ?_)
  show wpAny _ _ (if (((sIx items.size 0 lo : Nat) : Int) == 0 && (1 : Int) == 1 && (sIx items.size items.size hi - sIx items.size 0 lo) == items.size) = true then _ else _) _ _ s
  rw [hw.1, hw.2, if_pos (by simp)]
  refine wpAny_bind (m := Builtin.Tuple.tupleIsExact _) (wpAny_bind (wpAny_typeOf ht.typeIs (wpAny_pure ?_)))
  rw [if_pos (by decide)]
  exact wpAny_bind (wpAny_rule (wpAny_pure ⟨_, rfl, wpAny_pure h⟩))
theorem cat_tup0 {t b : Addr} {vs ws : List Value} {Q : Value → Shared → Prop} (ht : IsTup s.heap t vs.toArray) (hb : IsTup s.heap b ws.toArray) (hv : vs = [])
    (h1 : Q (.ref b) s) : wpAny (model prog w) A (binaryOp .Add (.ref t) (.ref b)) Q E s := by
  obtain ⟨⟨cls, dd, data, sl⟩, ho, hc, n, hd⟩ := id ht
  obtain ⟨⟨cls2, dd2, data2, sl2⟩, ho2, hc2, n2, hd2⟩ := id hb
  simp only at hc hd hc2 hd2
  subst hc hd hc2 hd2
  exact concat_meets ⟨_, ho, rfl⟩ ⟨_, ho2, rfl⟩ noFill_tuple_add seq_tuple_add PySem.F.slot_tuple_add PySem.F.entry_tuple_add (PySem.F.args_tuple_add_2 _ _)
      (tuple_addW0 t b vs.toArray ws.toArray n n2 dd dd2 sl sl2 (by simp [hv])) ⟨ho, ho2, h1⟩
end
end HT
namespace L2
open PySem PySem.Spec PyProof.Rows
section
variable {X : Cx}
def rSlT2 (K : PySem.W.Frag) : V → Option Int → Option Int → Hp → VK → Prop := fun x lo hi H Q => ∃ a xs, x = .ref a ∧ SqT K H a xs ∧ ∀ q H', Same H H' → SqT K H' q (cutV xs lo hi) → Q (.ref q) H'
theorem sl_tup2 : SlR X (rSlT2 X.K) := by
  intro pins s σ H x v vl vu lo hi sl Q I rx hs pl pu h
  obtain ⟨a, xs, rfl, hx, q⟩ := h
  by_cases hw : HT.sIx xs.length 0 lo = 0 ∧ HT.sIx xs.length xs.length hi = xs.length
  · cases rx
    obtain ⟨its, r, ht, hz⟩ := I.tuple hx
    have hlen : its.toArray.size = xs.length := by rw [List.size_toArray]; exact r.length.symm
    refine ⟨"tuple", _, PyProof.Rows.slot_tuple_getitem.lookup, ht.typeIs, ?_⟩
    refine HT.getItem_tuple_whole ht hs pl pu (by rw [hlen]; exact hw) ⟨.ref a, H, I, rfl, q a H (Same.refl H) ?_⟩
    have e : cutV xs lo hi = xs := by unfold cutV; rw [hw.1, hw.2]; simp
    rw [e]; exact hx
  · exact sl_tup pins s σ H _ v vl vu lo hi sl Q I rx hs pl pu ⟨a, xs, rfl, hx, hw, fun p hp => q p _ (same_new hp _) (SqT.of upd_same)⟩
def rSlB (K : PySem.W.Frag) : V → Option Int → Option Int → Hp → VK → Prop := fun x lo hi H Q => rSlS x lo hi H Q ∨ (rSlL K x lo hi H Q ∨ rSlT2 K x lo hi H Q)
theorem slB (K : PySem.W.Frag) (hK : X.K = K := by rfl) : SlR X (rSlB K) := hK ▸ (SlR.or sl_str (SlR.or sl_list sl_tup2) : SlR X (rSlB X.K))
def rCatT2 (K : PySem.W.Frag) : R2 := fun x y H Q => ∃ a b xs ys, x = .ref a ∧ y = .ref b ∧ SqT K H a xs ∧ SqT K H b ys ∧ xs.length + ys.length ≤ sizeLine ∧ ∀ q H', Same H H' → SqT K H' q (xs ++ ys) → Q (.ref q) H'
theorem op_catT2 : OpR X (binaryOp .Add) (rCatT2 X.K) := by
  intro pins s σ H x y v u Q I rx ry h
  obtain ⟨a, b, xs, ys, rfl, rfl, ha, hb, hz, q⟩ := h
  by_cases hx : xs = []
  · subst hx
    cases rx; cases ry
    obtain ⟨its, r1, p1, _⟩ := I.tuple ha
    obtain ⟨its2, r2, p2, _⟩ := I.tuple hb
    exact HT.cat_tup0 p1 p2 (r1.nil_iff.mpr rfl) ⟨.ref b, H, I, rfl, q b H (Same.refl H) hb⟩
  · exact op_catT pins s σ H _ _ v u Q I rx ry ⟨a, b, xs, ys, rfl, rfl, ha, hb, hx, hz, fun e => q a H (Same.refl H) (by subst e; rw [List.append_nil]; exact ha), fun _ p hp => q p _ (same_new hp _) (SqT.of upd_same)⟩
def rAddB (K : PySem.W.Frag) : R2 := fun x y H Q => rI0 (fun i j => .int (i + j)) x y H Q ∨ (rAddS x y H Q ∨ (rCat x y H Q ∨ rCatT2 K x y H Q))
theorem opB_add (K : PySem.W.Frag) (hK : X.K = K := by rfl) : OpR X (binaryOp .Add) (rAddB K) := hK ▸ (OpR.or op_add (OpR.or op_add_str (OpR.or op_cat op_catT2)) : OpR X (binaryOp .Add) (rAddB X.K))
end
section
variable {K : PySem.W.Frag} {σ : St} {H : Hp} {Q : VK} {D : Ends} {p q : Addr} {x y : Str} {i j : Int} {lo hi : Option Int} {a b : Bool} {tc : TT} {tb : TS} {ta : TA} {te : TE} {R : It → Hp → Prop}
theorem w_slSB : rSlB K (.str x) lo hi H Q = (x.length ≤ sizeLine ∧ Q (.str (Txt.slice x lo hi)) H) := by
  refine propext ⟨fun h => ?_, fun ⟨h, k⟩ => .inl ⟨x, rfl, h, k⟩⟩
  rcases h with ⟨_, e, h⟩ | ⟨_, _, e, _⟩ | ⟨_, _, e, _⟩
  · cases e; exact h
  · cases e
  · cases e
theorem w_slRB : rSlB K (.ref p) lo hi H Q = ∃ xs, (SqL K H p xs ∧ ∀ q, H q = none → Q (.ref q) (upd H q (.lst (cutV xs lo hi)))) ∨
    (SqT K H p xs ∧ ∀ q H', Same H H' → SqT K H' q (cutV xs lo hi) → Q (.ref q) H') := by
  refine propext ⟨fun h => ?_, fun ⟨xs, h⟩ => ?_⟩
  · rcases h with ⟨_, e, _⟩ | ⟨_, xs, e, h⟩ | ⟨_, xs, e, h⟩
    · cases e
    · cases e; exact ⟨xs, .inl h⟩
    · cases e; exact ⟨xs, .inr h⟩
  · rcases h with h | h
    · exact .inr (.inl ⟨p, xs, rfl, h⟩)
    · exact .inr (.inr ⟨p, xs, rfl, h⟩)
theorem w_addIB : rAddB K (.int i) (.int j) H Q = Q (.int (i + j)) H := by
  refine propext ⟨fun h => ?_, fun h => .inl ⟨i, j, rfl, rfl, h⟩⟩
  rcases h with ⟨_, _, e1, e2, h⟩ | ⟨_, _, e, _⟩ | ⟨_, _, _, _, e, _⟩ | ⟨_, _, _, _, e, _⟩
  · cases e1; cases e2; exact h
  · cases e
  · cases e
  · cases e
theorem w_addSB : rAddB K (.str x) (.str y) H Q = (x.length + y.length ≤ sizeLine ∧ Q (.str (x ++ y)) H) := by
  refine propext ⟨fun h => ?_, fun ⟨h, k⟩ => .inr (.inl ⟨x, y, rfl, rfl, h, k⟩)⟩
  rcases h with ⟨_, _, e, _⟩ | ⟨_, _, e1, e2, h⟩ | ⟨_, _, _, _, e, _⟩ | ⟨_, _, _, _, e, _⟩
  · cases e
  · cases e1; cases e2; exact h
  · cases e
  · cases e
theorem w_catRB : rAddB K (.ref p) (.ref q) H Q = ∃ xs zs, (H p = some (.lst xs) ∧ H q = some (.lst zs) ∧ xs.length + zs.length ≤ sizeLine ∧ ∀ r, H r = none → Q (.ref r) (upd H r (.lst (xs ++ zs)))) ∨
    (SqT K H p xs ∧ SqT K H q zs ∧ xs.length + zs.length ≤ sizeLine ∧ ∀ r H', Same H H' → SqT K H' r (xs ++ zs) → Q (.ref r) H') := by
  refine propext ⟨fun h => ?_, fun ⟨xs, zs, h⟩ => ?_⟩
  · rcases h with ⟨_, _, e, _⟩ | ⟨_, _, e, _⟩ | ⟨_, _, xs, zs, e1, e2, h⟩ | ⟨_, _, xs, zs, e1, e2, h⟩
    · cases e
    · cases e
    · cases e1; cases e2; exact ⟨xs, zs, .inl h⟩
    · cases e1; cases e2; exact ⟨xs, zs, .inr h⟩
  · rcases h with h | h
    · exact .inr (.inr (.inl ⟨p, q, xs, zs, rfl, rfl, h⟩))
    · exact .inr (.inr (.inr ⟨p, q, xs, zs, rfl, rfl, h⟩))
theorem w_instBlB {T : String} : rInstB K T [.bl a, .ty T] H Q = ∃ c, PySem.W.kitOne K (.type "bool") (.type T) = some c ∧ Q (.bl c) H := by
  refine propext ⟨fun ⟨_, _, b, e, t, h⟩ => ?_, fun ⟨b, h⟩ => ⟨_, _, b, rfl, .of (.bl a), h⟩⟩
  cases e
  rcases t with t | t | t
  cases t; exact ⟨b, h⟩
theorem w_eqBl : rEq (.bl a) (.bl b) H Q = Q (.bl (decide (a = b))) H := by
  refine propext ⟨fun ⟨_, h⟩ => ?_, fun h => ⟨rfl, ?_⟩⟩
  · rw [dec_bl] at h; exact h
  · rw [dec_bl]; exact h
theorem w_neBl : rNe (.bl a) (.bl b) H Q = Q (.bl (!decide (a = b))) H := by
  refine propext ⟨fun ⟨_, h⟩ => ?_, fun h => ⟨rfl, ?_⟩⟩
  · rw [dec_bl] at h; exact h
  · rw [dec_bl]; exact h
theorem w_eqBlB : rEqB K (.bl a) (.bl b) H Q = Q (.bl (decide (a = b))) H := by
  refine propext ⟨fun h => ?_, fun h => .inl (w_eqBl ▸ h)⟩
  rcases h with h | ⟨d, b, hd, h, _⟩
  · rw [w_eqBl] at h; exact h
  · rcases h with h | h <;> cases h
theorem w_eqBlC : rEqC K (.bl a) (.bl b) H Q = Q (.bl (decide (a = b))) H := by
  refine propext ⟨fun h => ?_, fun h => .inl (w_eqBl ▸ h)⟩
  rcases h with h | ⟨d, d', h, _⟩
  · rw [w_eqBl] at h; exact h
  · cases h
theorem w_neBlC : rNeC K (.bl a) (.bl b) H Q = Q (.bl (!decide (a = b))) H := by
  refine propext ⟨fun h => ?_, fun h => .inl (w_neBl ▸ h)⟩
  rcases h with h | ⟨d, d', h, _⟩
  · rw [w_neBl] at h; exact h
  · cases h
theorem w_while : tWhile tc tb D σ H = ∃ W : Nat → St → Hp → Prop, (∃ m, W m σ H) ∧ ∀ m σ H, W m σ H →
  tc σ H fun b H1 => if b = true then ∃ N : St → Hp → Prop, (∀ σ' H', N σ' H' → ∃ m', m' < m ∧ W m' σ' H') ∧ tb { D with nx := N, ct := N, bk := D.nx } σ H1 else D.nx σ H1 := rfl
theorem w_ltS : rLtA (.str x) (.str y) H Q = Q (.bl (decide (x.cps.toList < y.cps.toList))) H := by
  refine propext ⟨fun h => ?_, fun h => .inr ⟨x, y, rfl, rfl, h⟩⟩
  rcases h with ⟨_, _, e, _⟩ | ⟨_, _, e1, e2, h⟩
  · cases e
  · cases e1; cases e2; exact h
theorem cut_to (xs : List V) (n : Nat) : cutV xs none (some (n : Int)) = xs.take n := by
  unfold cutV
  rw [HT.sIx_none, HT.sIx_nat, List.drop_zero, Nat.sub_zero]
  by_cases h : n ≤ xs.length
  · rw [Nat.min_eq_left h]
  · rw [Nat.min_eq_right (by omega), List.take_of_length_le (Nat.le_refl _), List.take_of_length_le (by omega)]
end
end L2
set_option Elab.async false
set_option linter.all false
set_option maxRecDepth 100000
set_option maxHeartbeats 4000000
namespace L2
open PySem PySem.Spec PyProof.Rows
section
variable {K : PySem.W.Frag} {H H' : Hp} {a q p : Addr} {us : List V} {f : Nat → List Nat}
end
theorem at0 {α : Type} {xs : List α} {i : Nat} {v : α} (h : xs[i]? = some v) : atI xs (0 + (i : Int)) = some v := by rw [Int.zero_add]; exact atI_nat h
theorem strs_get {rs : List Str} {i : Nat} (h : i < rs.length) : (rs.map V.str)[i]? = some (.str (rs.getD i "")) := by simp [h, List.getD_eq_getElem?_getD]
def spMix (K : PySem.W.Frag) : Sp := fun vs H Q _ => ∃ (a : Addr) (ns : List Int) (k : Int), vs = [.ref a, .int k] ∧ SqL K H a (ns.map V.int) ∧ 0 ≤ k ∧ k < 100000 ∧ ∀ n : Int, 0 ≤ n → n < 2147483629 → Q (.int n) H
end L2
set_option Elab.async false
set_option linter.all false
set_option maxRecDepth 100000
set_option maxHeartbeats 4000000
namespace L2
open PySem PySem.Spec PyProof.Rows
section
variable {X : Cx}
end
end L2
namespace L2
open PySem PySem.Spec PyProof.Rows
section
variable {K : PySem.W.Frag} {σ : St} {H H' : Hp} {Q : VK} {ta : TA} {p : Addr} {k : Int}
theorem w_mulR : rMulA (.ref p) (.int k) H Q = ∃ xs, H p = some (.lst xs) ∧ -(2 ^ 63) ≤ k ∧ k < 2 ^ 63 ∧ xs.length * k.toNat ≤ sizeLine ∧ ∀ q, H q = none → Q (.ref q) (upd H q (.lst (List.replicate k.toNat xs).flatten)) := by
  refine propext ⟨fun h => ?_, fun ⟨xs, h⟩ => .inr ⟨p, k, xs, rfl, rfl, h⟩⟩
  rcases h with ⟨_, _, e, _⟩ | ⟨_, _, xs, e1, e2, h⟩
  · cases e
  · cases e1; cases e2; exact ⟨xs, h⟩
theorem cut_tail (x : V) (us : List V) : cutV (x :: us) (some 1) none = us := by
  unfold cutV
  rw [HT.sIx_none]
  show List.take _ (List.drop (min 1 (us.length + 1)) (x :: us)) = us
  rw [show min 1 (us.length + 1) = 1 by omega, List.drop_one, List.tail_cons]
  exact List.take_of_length_le (by show us.length ≤ (us.length + 1) - min 1 (us.length + 1); omega)
end
end L2
set_option Elab.async false
set_option linter.all false
set_option maxRecDepth 100000
set_option maxHeartbeats 4000000
namespace L2
open PySem PySem.Spec PyProof.Rows
section
variable {X : Cx}
end
end L2
set_option Elab.async false
set_option linter.all false
set_option maxRecDepth 100000
set_option maxHeartbeats 4000000
namespace L2
open PySem PySem.Spec PySem.Calls PyProof.V PyProof.Rows PyProof.Rows.KTD
section
variable {X : Cx}
def TabK (K : PySem.W.Frag) (a : Addr) (D : List (Str × V)) : Prop :=
  (a == sysModules) = false ∧ ∃ (o : Obj) (es : Array DictEntry) (ep : Nat), K.lookup a = some o ∧ o.ExactDict ∧ o.data = .dict es ep ∧ KTD.Rows (fun d v => RelV d v) es.toList D
def rInTab (K : PySem.W.Frag) : R2 := fun x y H Q => ∃ k p D, x = .str k ∧ y = .ref p ∧ TabK K p D ∧ Q (.bl (inKeys k D)) H
def rIxTab (K : PySem.W.Frag) : R2 := fun x y H Q => ∃ k p D z, x = .ref p ∧ y = .str k ∧ TabK K p D ∧ datumAt k D = some z ∧ Q z H
end
end L2
set_option Elab.async false
set_option linter.all false
set_option maxRecDepth 100000
set_option maxHeartbeats 4000000
namespace L2
open PySem PySem.Spec PyProof.Rows
open AutoSeq1 (wpAny_loadPart')
section
variable {prog : Program} {w : World} {A : Around} {E : Value → Shared → Prop} {s : Shared}
end
section
variable {X : Cx} {pins : List (Addr × Obj)} {σ : St} {H : Hp} {s : Shared} {h' : Heap}
end
section
variable {X : Cx}
end
section
variable {X : Cx}
def rCount (K : PySem.W.Frag) : V → List V → Hp → VK → Prop := fun x vs H Q => ∃ p xs k, x = .ref p ∧ vs = [k] ∧ SqL K H p xs ∧ xs.all flatV = true ∧ flatV k = true ∧ Q (.int ((xs.countP fun y => eqV y k : Nat) : Int)) H
theorem w_count {K : PySem.W.Frag} {p : Addr} {k : V} {H : Hp} {Q : VK} : rCount K (.ref p) [k] H Q = ∃ xs, SqL K H p xs ∧ xs.all flatV = true ∧ flatV k = true ∧ Q (.int ((xs.countP fun y => eqV y k : Nat) : Int)) H := by
  refine propext ⟨fun ⟨_, xs, _, e1, e2, h⟩ => ?_, fun ⟨xs, h⟩ => ⟨p, xs, k, rfl, rfl, h⟩⟩
  cases e1; cases e2; exact ⟨xs, h⟩
end
end L2
set_option Elab.async false
set_option linter.all false
set_option maxRecDepth 100000
set_option maxHeartbeats 4000000
namespace L2
open PySem PySem.Spec PyProof.Rows
open AutoSeq1 (wpAny_loadPart')
section
variable {prog : Program} {w : World} {A : Around} {E : Value → Shared → Prop} {s : Shared}
end
section
variable {X : Cx} {pins : List (Addr × Obj)} {σ : St} {H : Hp} {s : Shared} {h' : Heap}
end
section
variable {X : Cx}
end
end L2
set_option Elab.async false
set_option linter.all false
set_option maxRecDepth 100000
set_option maxHeartbeats 4000000
namespace L2
open PySem PySem.Spec PyProof.Rows
section
variable {K : PySem.W.Frag} {nt : Nat} {is : List Nat} {g : TG} {tt : TT} {te : TE} {σ : St} {H : Hp} {Q : VK}
end
section
variable {X : Cx}
def tDNew : TE := fun _ H Q => ∀ p, H p = none → Q (.ref p) (upd H p (.dK []))
theorem Inv.past {pins : List (Addr × Obj)} {σ : St} {H : Hp} {s : Shared} (I : Inv X pins σ H s) : sysModules < s.heap.objs.size := by
  exact Nat.lt_trans (by decide) (I.mod.glob.keeps I.bk).lt
theorem pe_dnew {pos : Pos} : PE X (.Dict [] [] pos) tDNew := fun pins s σ H Q I h =>
  wpAny_Dict_empty ⟨.ref s.heap.objs.size, _, I.laid (a := s.heap.objs.size) (o := .dK []) (t' := s.toks) (fun _ _ q => Heap.get?_push_of_some _ q) (Nat.le_refl _)
    ⟨Nat.zero_le _, beq_eq_false_iff_ne.mpr (Ne.symm (Nat.ne_of_lt I.past)), [], .nil, Heap.DictOf.new s.heap⟩, rfl, h _ (I.hok.fresh (Nat.le_refl _))⟩
theorem w_dnew {σ : St} {H : Hp} {Q : VK} : tDNew σ H Q = ∀ p, H p = none → Q (.ref p) (upd H p (.dK [])) := rfl
theorem w_inTab {K : PySem.W.Frag} {k : Str} {p : Addr} {H : Hp} {Q : VK} : rInTab K (.str k) (.ref p) H Q = ∃ D, TabK K p D ∧ Q (.bl (KTD.inKeys k D)) H := by
  refine propext ⟨fun ⟨_, _, D, e1, e2, h⟩ => ?_, fun ⟨D, h⟩ => ⟨k, p, D, rfl, rfl, h⟩⟩
  cases e1; cases e2; exact ⟨D, h⟩
theorem w_ixTab {K : PySem.W.Frag} {k : Str} {p : Addr} {H : Hp} {Q : VK} : rIxTab K (.ref p) (.str k) H Q = ∃ D z, TabK K p D ∧ KTD.datumAt k D = some z ∧ Q z H := by
  refine propext ⟨fun ⟨_, _, D, z, e1, e2, h⟩ => ?_, fun ⟨D, z, h⟩ => ⟨k, p, D, z, rfl, rfl, h⟩⟩
  cases e1; cases e2; exact ⟨D, z, h⟩
end
end L2
set_option Elab.async false
set_option linter.all false
set_option maxRecDepth 100000
set_option maxHeartbeats 4000000
namespace L2
open PySem PySem.Spec PyProof.Rows
theorem pickM {x : Str} {i m : Int} {P : Nat → Prop} (hm : 0 < m) (hx : m ≤ (x.length : Int)) (k : ∀ c ∈ x.cps.toList.take m.toNat, P c) : ∃ c, atI x.cps.toList (i % m) = some c ∧ P c := by
  have e := len_cps x
  have h0 := Int.emod_nonneg i (show m ≠ 0 by omega)
  have h1 := Int.emod_lt_of_pos i hm
  generalize i % m = j at h0 h1
  obtain ⟨j, rfl⟩ : ∃ n : Nat, j = n := ⟨j.toNat, by omega⟩
  have hj : j < x.cps.toList.length := by omega
  exact ⟨x.cps.toList[j], atI_nat (List.getElem?_eq_getElem hj), k _ (List.mem_take_iff_getElem.mpr ⟨j, by omega, rfl⟩)⟩
section
variable {K : PySem.W.Frag} {H : Hp} {p : Addr} {ys zs : List V}
end
end L2
set_option Elab.async false
set_option linter.all false
set_option maxRecDepth 100000
set_option maxHeartbeats 4000000
namespace L2
open PySem PySem.Spec PyProof.Rows
section
variable {K : PySem.W.Frag} {H H' : Hp} {us : List V} {f : Nat → Int × Str}
end
end L2
set_option Elab.async false
set_option linter.all false
set_option maxRecDepth 100000
set_option maxHeartbeats 4000000
namespace L2
open PySem PySem.Spec PyProof.Rows
section
variable {prog : Program} {w : World} {A : Around} {E : Value → Shared → Prop} {s : Shared}
end
section
variable {X : Cx}
def dS (l : List (Str × V)) : List (Key × V) := l.map fun p => (Sum.inr p.1, p.2)
def valS (l : List (Str × V)) (k : Str) : Option V := (l.find? fun p => decide (p.1 = k)).map (·.2)
theorem valS_rel {k : Str} : ∀ {l : List (Str × V)} {vs : List (Key × Value)}, KV (dS l) vs → (valS l k = none → valueAt vs (Sum.inr k : Key) = none) ∧ ∀ z, valS l k = some z → ∃ u, valueAt vs (Sum.inr k : Key) = some u ∧ RelV z u
  | [], _, .nil => ⟨fun _ => rfl, fun z e => by cases e⟩
  | p :: l, _, .cons (b := q) h1 h2 => by
    obtain ⟨i1, i2⟩ := valS_rel (k := k) (l := l) h2
    obtain ⟨e1, r1⟩ := h1
    have e1' : q.1 = (Sum.inr p.1 : Key) := e1.symm
    by_cases c : p.1 = k
    · have ev : valS (p :: l) k = some p.2 := by simp [valS, List.find?_cons, c]
      have ew : ∀ m, valueAt (q :: m) (Sum.inr k : Key) = some q.2 := fun m => by simp [valueAt, List.find?_cons, e1', c]
      exact ⟨fun z => (by rw [ev] at z; cases z), fun z e => (by rw [ev] at e; cases e; exact ⟨_, ew _, r1⟩)⟩
    · have ev : valS (p :: l) k = valS l k := by simp [valS, List.find?_cons, c]
      have ew : ∀ m, valueAt (q :: m) (Sum.inr k : Key) = valueAt m (Sum.inr k : Key) := fun m => by simp [valueAt, List.find?_cons, e1', c]
      rw [ev, ew]
      exact ⟨i1, i2⟩
def rDGet : V → List V → Hp → VK → Prop := fun x xs H Q => ∃ a k v l, x = .ref a ∧ xs = [.str k, v] ∧ H a = some (.dK (dS l)) ∧ Q ((valS l k).getD v) H
def rSetDef : V → List V → Hp → VK → Prop := fun x xs H Q => ∃ a k v l, x = .ref a ∧ xs = [.str k, v] ∧ H a = some (.dK (dS l)) ∧ l.length < 100000 ∧ (∀ z, valS l k = some z → Q z H) ∧ (valS l k = none → Q v (upd H a (.dK (dS (l ++ [(k, v)])))))
theorem w_setdef {p : Addr} {k : Str} {v : V} {H : Hp} {Q : VK} : rSetDef (.ref p) [.str k, v] H Q = ∃ l, H p = some (.dK (dS l)) ∧ l.length < 100000 ∧ (∀ z, valS l k = some z → Q z H) ∧ (valS l k = none → Q v (upd H p (.dK (dS (l ++ [(k, v)]))))) :=
  propext ⟨fun ⟨_, _, _, l, e1, e2, h⟩ => by cases e1; cases e2; exact ⟨l, h⟩, fun ⟨l, h⟩ => ⟨p, k, v, l, rfl, rfl, h⟩⟩
theorem w_dget {p : Addr} {k : Str} {v : V} {H : Hp} {Q : VK} : rDGet (.ref p) [.str k, v] H Q = ∃ l, H p = some (.dK (dS l)) ∧ Q ((valS l k).getD v) H :=
  propext ⟨fun ⟨_, _, _, l, e1, e2, h⟩ => by cases e1; cases e2; exact ⟨l, h⟩, fun ⟨l, h⟩ => ⟨p, k, v, l, rfl, rfl, h⟩⟩
end
end L2
set_option Elab.async false
set_option linter.all false
set_option maxRecDepth 100000
set_option maxHeartbeats 4000000
namespace L2
open PySem PySem.Spec PyProof.Rows
def EntsAt (h : Heap) (d : Addr) (es : Array DictEntry) (ep : Nat) : Prop := ∃ o, h.get? d = some o ∧ o.ExactDict ∧ o.data = .dict es ep
theorem EntsAt.ty {s : Shared} {d : Addr} {es : Array DictEntry} {ep : Nat} (h : EntsAt s.heap d es ep) : s.TypeIs (.ref d) "dict" := let ⟨o, ho, hc, _⟩ := h; ⟨o, ho, hc.1⟩
theorem EntsAt.at {h h' : Heap} {d : Addr} {es : Array DictEntry} {ep : Nat} (x : EntsAt h d es ep) (k : ∀ o, h.get? d = some o → h'.get? d = some o) : EntsAt h' d es ep := let ⟨o, ho, r⟩ := x; ⟨o, k o ho, r⟩
section
variable {prog : Program} {w : World} {A : Around} {E : Value → Shared → Prop} {s : Shared} {d : Addr} {es : Array DictEntry} {ep : Nat}
theorem ents_iter {Q : Value → Shared → Prop} (hd : (d == sysModules) = false) (hm : EntsAt s.heap d es ep)
    (h : Q (.ref s.heap.objs.size) { s with heap := s.heap.push { cls := .type "dict_keyiterator", data := .fields #[.ref d, .int 0 0, .int es.size 0, .int ep 0] } }) : wpAny (model prog w) A (pyIter (.ref d)) Q E s := by
  have ty := hm.ty
  obtain ⟨o, ho, _, hx⟩ := hm
  refine wpAny_pyIter_slot ty F.slot_dict_iter (wpAny_call_entry F.slot_dict_iter ty F.entry_dict_iter ?_ (F.args_dict_iter_1 _))
  unfold Builtin.«dict.__iter__» Builtin.Dict.dictSlotNone
  refine wpAny_bind (wpAny_bind (wpAny_notOrdered_dict ty (wpAny_pure ?_)))
  show wpAny _ _ (Builtin.Dict.showsAll d >>= _) _ _ s
  unfold Builtin.Dict.showsAll
  rw [if_neg (by rw [hd]; decide)]
  refine wpAny_bind (wpAny_pure (wpAny_bind (wpAny_dictEntries ho hx (wpAny_bind (wpAny_dictEpoch ho hx (wpAny_bind (wpAny_newObj_type (wpAny_pure ⟨_, rfl, "dict_keyiterator", _, ⟨_, Heap.get?_push_size _ rfl, rfl⟩, F.slot_dict_keyiterator_next.lookup, ?_⟩))))))))
  exact h
theorem ents_item {it : Addr} {i : Nat} {Q : Option Value → Shared → Prop} (hit : s.heap.IsKeyIter it d i es.size ep) (hm : EntsAt s.heap d es ep) (hi : i < es.size)
    (h : ∀ h', h'.IsKeyIter it d (i + 1) es.size ep → Heap.SameBut it s.heap h' → Q (some es[i].key) { s with heap := h' }) : wpAny (model prog w) A (pyNext (.ref it)) Q E s := by
  have ty := hit.typeIs
  obtain ⟨o, ho, hc, hf⟩ := id hit
  obtain ⟨od, hod, _, hx⟩ := hm
  unfold pyNext
  refine wpAny_bind (wpAny_attempt (wpAny_callSpecial?_slot (name := Str.ofString "__next__") ty F.slot_dict_keyiterator_next (wpAny_call_entry F.slot_dict_keyiterator_next ty F.entry_dict_keyiterator_next ?_ (F.args_dict_keyiterator_next_1 _))))
  refine wpAny_bind (wpAny_pure (wpAny_bind (wpAny_bind ?_)))
  first | refine wpAny_bind (wpAny_typeNameOfWhole_keyiter ty (wpAny_pure ?_)) | refine wpAny_bind (wpAny_typeNameOf_keyiter ty (wpAny_pure ?_))
  refine wpAny_bind (wpAny_fieldsOf ho hf ?_)
  simp only [show Builtin.Dict_items.ownsTuple "dict_keyiterator" = false by decide, Bool.false_eq_true, if_false]
  show wpAny _ _ (if (Value.ref d == Value.none) = true then _ else _) _ _ s
  rw [if_neg (show ¬ (Value.ref d == Value.none) = true from Bool.false_ne_true)]
  refine wpAny_bind (wpAny_pure (wpAny_bind (wpAny_dictEntries hod hx ?_)))
  rw [if_neg (by simp)]
  refine wpAny_bind (wpAny_pure (wpAny_bind (wpAny_dictEpoch hod hx ?_)))
  rw [if_neg (by simp)]
  refine wpAny_pure ?_
  simp only [show ¬ ((i : Int) < 0) from by omega, if_false, Int.toNat_natCast, Array.getElem?_eq_getElem hi]
  refine wpAny_bind ?_
  first | refine wpAny_bind (wpAny_typeNameOfWhole_keyiter ty (wpAny_pure ?_)) | refine wpAny_bind (wpAny_typeNameOf_keyiter ty (wpAny_pure ?_))
  refine wpAny_bind (wpAny_isOneOf_keyiter ty ?_)
  show wpAny _ _ (setField (.ref it) 1 (rawInt ((i : Int) + 1)) >>= _) _ _ s
  refine wpAny_bind (wpAny_setField ho hf (by simp) ?_)
  have hit' : (s.heap.update it (Obj.mapFields (·.setIfInBounds 1 (rawInt ((i : Int) + 1))))).IsKeyIter it d (i + 1) es.size ep :=
    ⟨_, Heap.get?_update_self _ ho (Obj.isFreed_of_fields (Obj.data_mapFields hf _)), (Obj.cls_mapFields ..).trans hc, by rw [Obj.data_mapFields hf]; simp [rawInt]⟩
  refine wpAny_bind (wpAny_holding (wpAny_bind (wpAny_isOneOf_keyiter (s := { s with heap := _ }) hit'.typeIs ?_)))
  show wpAny _ _ (pure es[i].key) _ _ _
  exact wpAny_pure (wpAny_pure ⟨_, rfl, wpAny_pure (h _ hit' (Heap.SameBut.update ..))⟩)
theorem ents_end {it : Addr} {Q : Option Value → Shared → Prop} (hh : A.handled = none) (hit : s.heap.IsKeyIter it d es.size es.size ep) (hm : EntsAt s.heap d es ep)
    (h : ∀ h', Heap.ExtBut it s.heap h' → Q none { s with heap := h' }) : wpAny (model prog w) A (pyNext (.ref it)) Q E s := by
  have ty := hit.typeIs
  obtain ⟨o, ho, hc, hf⟩ := id hit
  obtain ⟨od, hod, _, hx⟩ := hm
  unfold pyNext
  refine wpAny_bind (wpAny_attempt (wpAny_callSpecial?_slot (name := Str.ofString "__next__") ty F.slot_dict_keyiterator_next (wpAny_call_entry F.slot_dict_keyiterator_next ty F.entry_dict_keyiterator_next ?_ (F.args_dict_keyiterator_next_1 _))))
  refine wpAny_bind (wpAny_pure (wpAny_bind (wpAny_bind ?_)))
  first | refine wpAny_bind (wpAny_typeNameOfWhole_keyiter ty (wpAny_pure ?_)) | refine wpAny_bind (wpAny_typeNameOf_keyiter ty (wpAny_pure ?_))
  refine wpAny_bind (wpAny_fieldsOf ho hf ?_)
  simp only [show Builtin.Dict_items.ownsTuple "dict_keyiterator" = false by decide, Bool.false_eq_true, if_false]
  show wpAny _ _ (if (Value.ref d == Value.none) = true then _ else _) _ _ s
  rw [if_neg (show ¬ (Value.ref d == Value.none) = true from Bool.false_ne_true)]
  refine wpAny_bind (wpAny_pure (wpAny_bind (wpAny_dictEntries hod hx ?_)))
  rw [if_neg (by simp)]
  refine wpAny_bind (wpAny_pure (wpAny_bind (wpAny_dictEpoch hod hx ?_)))
  rw [if_neg (by simp)]
  refine wpAny_pure ?_
  simp only [show ¬ ((es.size : Int) < 0) from by omega, if_false, Int.toNat_natCast, Array.getElem?_eq_none (Nat.le_refl es.size)]
  refine wpAny_bind ?_
  first | refine wpAny_bind (wpAny_typeNameOfWhole_keyiter ty (wpAny_pure ?_)) | refine wpAny_bind (wpAny_typeNameOf_keyiter ty (wpAny_pure ?_))
  show wpAny _ _ (setField (.ref it) 0 .none >>= _) _ _ s
  refine wpAny_bind (wpAny_setField ho hf (by simp) ?_)
  show wpAny _ _ (newExc (.type "StopIteration") [] >>= _) _ _ _
  refine wpAny_bind ?_
  simp only [newExc, newTuple]
  refine wpAny_bind (wpAny_newObj_type ?_ (by size_fits))
  refine wpAny_bind (m := firstArgMember _ _) (wpAny_of_eq (a := Value.none) (by first | rfl | (simp only [firstArgMember]; rfl)) ?_)
  refine wpAny_newObj_type ?_ (by size_fits)
  simp only [raiseNew]
  refine wpAny_bind (wpAny_handled ?_)
  rw [show A.in1.handled = none from hh]
  refine wpAny_bind (wpAny_pure (wpAny_throw ?_))
  refine wpAny_bind (wpAny_isInstance (T := "StopIteration") (b := true) ⟨_, Heap.get?_push_size _ rfl, rfl⟩ isSubtype_stop ?_)
  exact wpAny_pure (h _ (((Heap.SameBut.update ..).extBut.push _).push _))
theorem ents_walk (hh : A.handled = none) (I : Addr) (hne : d ≠ I) : Walks prog w A I [I, d] [I] es.size (fun i v => ∃ h : i < es.size, v = es[i].key) (fun i h => h.IsKeyIter I d i es.size ep ∧ EntsAt h d es ep) where
  sub := fun b hb => by simp at hb; simp [hb]
  frame := fun _ _ _ st hk => ⟨st.1.at fun o e => hk I (by simp) o e, st.2.at fun o e => hk d (by simp) o e⟩
  item := fun i s Q E hi st hQ => ents_item st.1 st.2 hi fun h' hit' hs' => hQ _ h' s.toks ⟨hi, rfl⟩ ⟨hit', st.2.at fun o e => (hs'.2 d hne).trans e⟩ fun b o hb e => (hs'.2 b (fun z => hb (by simp [z]))).trans e
  done := fun s Q E st hQ => ents_end hh st.1 st.2 fun h' he' => hQ h' s.toks fun b o hb e => he' b o (fun h => hb (by simp [h])) e
  self := fun _ _ _ _ st hQ => wpAny_pyIter_keyiter st.1 hQ
theorem hint_ents {Q : Bool → Shared → Prop} (ty : s.TypeIs (.ref d) "dict") (h : Q false s) : wpAny (model prog w) A (Builtin.List.listLengthHint (.ref d)) Q E s := by
  unfold Builtin.List.listLengthHint
  refine wpAny_bind (wpAny_specialOf ty F.slot_dict_len.lookup ?_)
  generalize hid : ("dict.__len__" : String) = lid
  wp_delta
  rw [show splitId lid = some ("dict", "__len__") from by subst hid; decide +kernel]
  subst hid
  refine wpAny_bind (wpAny_isInstance (b := true) ty (by rw [isSubtype_type]; kernel_rfl) ?_)
  rw [if_neg (by decide)]
  dsimp only
  refine wpAny_ite_split (fun _ => ?_) fun z => absurd (by decide +kernel) z
  refine wpAny_bind (wpAny_typeOf ty ?_)
  exact wpAny_pure h
theorem extend_ents {R : Result → Shared → Prop} (hh : A.handled = none) (hd : (d == sysModules) = false) (hm : EntsAt s.heap d es ep) (hz : es.size ≤ sizeLine) (S : Addr) (res : Value) (c₀ : Nat) (hS : s.heap.get? S = some { cls := .type "list", data := .seq #[] c₀ })
    (hR : ∀ h' tk acc c', (∀ b o, b ≠ S → s.heap.get? b = some o → h'.get? b = some o) → h'.get? S = some { cls := .type "list", dict := none, data := .seq acc c', slots := #[] } →
      acc.toList = es.toList.map (·.key) → R (.ok (.ret res)) { s with heap := h', toks := tk }) :
    wpAny (model prog w) A.in1 (Builtin.List.listExtendWith (.ref S) (.ref d) res)
      (fun fin s' => match fin with | .done f => R (.ok f) s' | .again c' => c'.quiet = true ∧ codeAny (model prog w) A c' R s') (fun e s' => R (.error e) s') s := by
  have ty := hm.ty
  have hSd : S ≠ d := fun e => by
    obtain ⟨o, ho, _, hx⟩ := hm
    rw [e, ho] at hS; cases hS; cases hx
  have hdlt : d < s.heap.objs.size := by obtain ⟨o, ho, _⟩ := hm; exact Heap.lt_size ho
  have hSI : S ≠ s.heap.objs.size := Nat.ne_of_lt (Heap.lt_size hS)
  have W := (ents_walk (prog := prog) (w := w) (A := A.in1) (es := es) (ep := ep) hh s.heap.objs.size (Nat.ne_of_lt hdlt)).toS
  have lf : S ∉ [s.heap.objs.size, d] := fun m => by
    rcases List.mem_cons.mp m with z | z
    · exact hSI z
    · exact hSd (List.mem_singleton.mp z)
  have go : ∀ (h : Heap) (c₁ tk : Nat), (h.IsKeyIter s.heap.objs.size d 0 es.size ep ∧ EntsAt h d es ep) → (∀ b o, b ≠ S → s.heap.get? b = some o → h.get? b = some o) →
      h.get? S = some { cls := .type "list", data := .seq #[] c₁ } → codeAny (model prog w) A (.builtin "list.extend.loop" ⟨[.ref S, .ref s.heap.objs.size, res], []⟩) R { s with heap := h, toks := tk } := by
    intro h c₁ tk st hk hS₁
    refine codeAny_extend_loopS W hz S lf res es.size 0 { s with heap := h, toks := tk } #[] c₁ rfl (Nat.zero_le _) st hS₁ (ItemsOf.nil _) fun s' acc' c' mv hS' hacc => ?_
    rw [Moved.eq_with mv]
    refine hR s'.heap s'.toks acc' c' (fun b o hb e => mv.heap b o (fun z => ?_) (hk b o hb e)) hS' ?_
    · rcases List.mem_cons.mp z with z | z
      · exact hb z
      · exact absurd (Heap.lt_size e) (by rw [List.mem_singleton.mp z]; exact Nat.lt_irrefl _)
    · apply List.ext_getElem?
      intro j
      by_cases hj : j < acc'.size
      · have e1 : acc'[j]? = some acc'[j] := by simp [hj]
        obtain ⟨h1, e2⟩ := hacc.2 j _ e1
        rw [Array.getElem?_toList, e1, e2, List.getElem?_map, Array.getElem?_toList, Array.getElem?_eq_getElem h1]
        rfl
      · have := hacc.1
        rw [Array.getElem?_toList, Array.getElem?_eq_none (by omega), List.getElem?_map, Array.getElem?_toList, Array.getElem?_eq_none (by omega)]
        rfl
  unfold Builtin.List.listExtendWith
  refine wpAny_bind (wpAny_typeOf ty ?_)
  have h1 : Builtin.List.listSameRef (.ref S) (.ref d) = false := by simp [Builtin.List.listSameRef, hSd]
  rw [h1]
  rw [if_neg (by decide)]
  refine wpAny_bind (ents_iter hd hm ?_)
  have hm1 : EntsAt (s.heap.push { cls := .type "dict_keyiterator", data := .fields #[.ref d, .int 0 0, .int es.size 0, .int ep 0] }) d es ep := hm.at fun o e => Heap.get?_push_of_some _ e
  have hi1 : (s.heap.push { cls := .type "dict_keyiterator", data := .fields #[.ref d, .int 0 0, .int es.size 0, .int ep 0] }).IsKeyIter s.heap.objs.size d 0 es.size ep := ⟨_, Heap.get?_push_size _ rfl, rfl, rfl⟩
  have hS1 := Heap.get?_push_of_some { cls := .type "dict_keyiterator", data := .fields #[.ref d, .int 0 0, .int es.size 0, .int ep 0] } hS
  have kp1 : ∀ b o, s.heap.get? b = some o → (s.heap.push { cls := .type "dict_keyiterator", data := .fields #[.ref d, .int 0 0, .int es.size 0, .int ep 0] }).get? b = some o := fun b o e => Heap.get?_push_of_some _ e
  generalize s.heap.push { cls := .type "dict_keyiterator", data := .fields #[.ref d, .int 0 0, .int es.size 0, .int ep 0] } = g at hm1 hi1 hS1 kp1
  refine wpAny_bind (wpAny_holding (hint_ents (s := { s with heap := g }) hm1.ty ?_))
  refine wpAny_ite_split (fun _ => ?_) (fun _ => wpAny_pure ⟨plainId_quiet F.plain_extend_loop _, go g c₀ _ ⟨hi1, hm1⟩ (fun b o _ e => kp1 b o e) hS1⟩)
  refine wpAny_bind (wpAny_rule (wpAny_bind ?_))
  show wpAny _ _ (updateSeq S (·.push .none) >>= fun _ => updateSeq S (·.pop)) _ _ _
  refine wpAny_bind (wpAny_updateSeq hS1 rfl ?_)
  have hS2 := Heap.get?_update_self (Obj.mapSeq (·.push Value.none)) hS1 rfl
  refine wpAny_updateSeq (hz := by seq_fits) hS2 rfl ?_
  have hS3 := Heap.get?_update_self (Obj.mapSeq (·.pop)) hS2 rfl
  have oth : ∀ b o, b ≠ S → g.get? b = some o → ((g.update S (Obj.mapSeq (·.push Value.none))).update S (Obj.mapSeq (·.pop))).get? b = some o := fun b o hb e =>
    (Heap.get?_update_other _ _ (Ne.symm hb)).trans ((Heap.get?_update_other _ _ (Ne.symm hb)).trans e)
  refine wpAny_pure ⟨plainId_quiet F.plain_extend_loop _, go _ _ _ ⟨hi1.at fun o e => oth _ o (Ne.symm hSI) e, hm1.at fun o e => oth _ o (Ne.symm hSd) e⟩ (fun b o hb e => oth b o hb (kp1 b o e)) hS3⟩
theorem init_ents {R : Result → Shared → Prop} (hh : A.handled = none) (hd : (d == sysModules) = false) (hm : EntsAt s.heap d es ep) (hz : es.size ≤ sizeLine) (S : Addr) (hS : s.heap.get? S = some { cls := .type "list", data := .seq #[] })
    (hR : ∀ h' tk acc c', (∀ b o, b ≠ S → s.heap.get? b = some o → h'.get? b = some o) → h'.get? S = some { cls := .type "list", dict := none, data := .seq acc c', slots := #[] } →
      acc.toList = es.toList.map (·.key) → R (.ok (.ret .none)) { s with heap := h', toks := tk }) :
    wpAny (model prog w) A.in1 (Builtin.«list.__init__» ⟨[.ref S, .ref d], []⟩)
      (fun fin s' => match fin with | .done f => R (.ok f) s' | .again c' => c'.quiet = true ∧ codeAny (model prog w) A c' R s') (fun e s' => R (.error e) s') s := by
  have hSd : S ≠ d := fun e => by
    obtain ⟨o, ho, _, hx⟩ := hm
    rw [e, ho] at hS; cases hS; cases hx
  show wpAny _ _ (do let old ← Builtin.List.listItems (.ref S); Builtin.List.listUpdate (.ref S) (fun _ => #[]); letGo old.toList.reverse; Builtin.List.listExtendWith (.ref S) (.ref d) .none) _ _ s
  refine wpAny_bind (listItems_at hS rfl ?_)
  show wpAny _ _ (updateSeq S (fun _ => #[]) >>= fun _ => letGo (#[] : Array Value).toList.reverse >>= fun _ => Builtin.List.listExtendWith (.ref S) (.ref d) .none) _ _ s
  refine wpAny_bind (wpAny_updateSeq hS rfl ?_)
  have hS2 := Heap.get?_update_self (Obj.mapSeq (fun _ => (#[] : Array Value))) hS rfl
  have oth : ∀ b o, b ≠ S → s.heap.get? b = some o → (s.heap.update S (Obj.mapSeq (fun _ => (#[] : Array Value)))).get? b = some o := fun b o hb e => (Heap.get?_update_other _ _ (Ne.symm hb)).trans e
  refine wpAny_bind (wpAny_letGo ?_)
  exact extend_ents hh hd (hm.at fun o e => oth d o (Ne.symm hSd) e) hz S .none _ hS2 fun h' tk acc c' hk hS' he => hR h' tk acc c' (fun b o hb e => hk b o hb (oth b o hb e)) hS' he
theorem list_ents {Q : Value → Shared → Prop} (hh : A.handled = none) (hd : (d == sysModules) = false) (hm : EntsAt s.heap d es ep) (hz : es.size ≤ sizeLine)
    (hQ : ∀ h' tk acc c', (∀ b o, s.heap.get? b = some o → h'.get? b = some o) → h'.get? s.heap.objs.size = some { cls := .type "list", dict := none, data := .seq acc c', slots := #[] } → acc.toList = es.toList.map (·.key) → Q (.ref s.heap.objs.size) { s with heap := h', toks := tk }) :
    wpAny (model prog w) A (call (.type "list") [.ref d]) Q E s := by
  refine callType_codes (Q₁ := fun obj s₁ => obj = .ref s.heap.objs.size ∧ s₁ = { s with heap := s.heap.push { cls := .type "list", data := .seq #[] } }) F.called_list (F.typeCall_list_1 _) F.entry_list_init (code_list_new _ ⟨rfl, rfl⟩) fun obj s₁ h₁ => ?_
  obtain ⟨rfl, rfl⟩ := h₁
  have hS : (s.heap.push { cls := .type "list", data := .seq #[] }).get? s.heap.objs.size = some { cls := .type "list", data := .seq #[] } := Heap.get?_push_size _ rfl
  refine ⟨⟨_, hS, rfl⟩, F.args_list_init_2 _ _, init_ents (A := A.in1) (s := { s with heap := _ }) hh hd (hm.at fun o e => Heap.get?_push_of_some _ e) hz _ hS fun h' tk acc c' hk hS' he => ?_⟩
  exact ⟨rfl, hQ h' tk acc c' (fun b o e => hk b o (Nat.ne_of_lt (Heap.lt_size e)) (Heap.get?_push_of_some _ e)) hS' he⟩
end
end L2
set_option Elab.async false
set_option linter.all false
set_option maxRecDepth 100000
set_option maxHeartbeats 4000000
namespace L2
open PySem PySem.Spec PyProof.Rows
section
variable {prog : Program} {w : World} {A : Around} {E : Value → Shared → Prop} {s : Shared} {κ : KeyKind} {kx : SortKind}
def LtAt (κ : KeyKind) (kx : SortKind) (prog : Program) (w : World) (A : Around) (s : Shared) : Prop :=
  ∀ (E : Value → Shared → Prop) (x y : Value) (a b : κ.α) {Q : Bool → Shared → Prop}, κ.keyOf x = some a → κ.keyOf y = some b → Q (κ.blt a b) s → wpAny (model prog w) A (keyLt' kx x y) Q E s
def kOf (κ : KeyKind) (x : Keyed) : κ.α := (κ.keyOf x.1).getD κ.dflt
def Kd (κ : KeyKind) (x : Keyed) : Prop := ∃ a, κ.keyOf x.1 = some a
theorem wpS_lt2 {st : SortSt} {x y : Keyed} {Q : Option Bool → SortSt → Prop} (hO : LtAt κ kx prog w A s) (hk : kindOf st = kx) (hx : Kd κ x) (hy : Kd κ y) (h : Q (some (κ.blt (kOf κ x) (kOf κ y))) st) : wpS (model prog w) A E s (lt' x y) Q st := by
  obtain ⟨a, ha⟩ := hx
  obtain ⟨b, hb⟩ := hy
  have ea : kOf κ x = a := by unfold kOf; rw [ha]; rfl
  have eb : kOf κ y = b := by unfold kOf; rw [hb]; rfl
  rw [ea, eb] at h
  rw [lt'_eq]
  refine wpS_bind (wpS_get ?_)
  rw [hk]
  refine wpS_bind (wpS_lift (wpAny_attempt (hO _ x.1 y.1 a b ha hb ⟨rfl, ?_⟩)))
  exact wpS_pure h
theorem wpS_elem {st : SortSt} {arr : Array Keyed} {i : Nat} {Q : Keyed → SortSt → Prop} (hi : i < arr.size) (h : Q arr[i] st) : wpS (model prog w) A E s (elem' arr i) Q st := by
  rw [elem'_eq, getElem?_pos arr i hi]
  exact wpS_pure h
def gallop' : Bool → Keyed → Array Keyed → Nat → Nat → Nat → StateT SortSt Sem (Option Nat) := sortPriv% PySem.Builtin.gallop
def beyond (left : Bool) (key : Keyed) (arr : Array Keyed) (base i : Nat) : StateT SortSt Sem (Option Bool) := do
  let x ← elem' arr (base + i)
  if left then lt' x key else return (← lt' key x).map (!·)
def bynd (κ : KeyKind) (left : Bool) (key : Keyed) (arr : Array Keyed) (base i : Nat) : Bool := match arr[base + i]? with
  | some x => if left then κ.blt (kOf κ x) (kOf κ key) else !κ.blt (kOf κ key) (kOf κ x)
  | none => false
theorem wpS_beyond {st : SortSt} {left : Bool} {key : Keyed} {arr : Array Keyed} {base i : Nat} {Q : Option Bool → SortSt → Prop} (hO : LtAt κ kx prog w A s) (hk : kindOf st = kx) (hy : Kd κ key) (ha : ∀ x ∈ arr, Kd κ x) (hi : base + i < arr.size) (h : Q (some (bynd κ left key arr base i)) st) : wpS (model prog w) A E s (beyond left key arr base i) Q st := by
  unfold beyond
  refine wpS_bind (wpS_elem hi ?_)
  unfold bynd at h
  rw [getElem?_pos arr _ hi] at h
  have hx := ha arr[base + i] (Array.getElem_mem hi)
  cases left with
  | true => exact wpS_lt2 hO hk hx hy h
  | false => exact wpS_bind (wpS_lt2 hO hk hy hx (wpS_pure h))
def srch (f : Nat → StateT SortSt Sem (Option Bool)) (n lo hi : Nat) : StateT SortSt Sem (Option Nat) := do
  let mut lo := lo
  let mut hi := hi
  for _ in [0:n] do
    if lo ≥ hi then break
    let m := lo + (hi - lo) / 2
    let some more ← f m | return none
    if more then lo := m + 1 else hi := m
  return some hi
def gal (f : Nat → StateT SortSt Sem (Option Bool)) (n hint : Nat) : StateT SortSt Sem (Option Nat) := do
  let some right ← f hint | return none
  if right then
    let maxofs := n - hint
    let mut lastofs := 0
    let mut ofs := 1
    for _ in [0:n] do
      if ofs ≥ maxofs then break
      let some more ← f (hint + ofs) | return none
      if !more then break
      lastofs := ofs
      ofs := 2 * ofs + 1
    srch f n (hint + lastofs + 1) (hint + min ofs maxofs)
  else
    let maxofs := hint + 1
    let mut lastofs := 0
    let mut ofs := 1
    for _ in [0:n] do
      if ofs ≥ maxofs then break
      let some found ← f (hint - ofs) | return none
      if found then break
      lastofs := ofs
      ofs := 2 * ofs + 1
    srch f n (hint + 1 - min ofs maxofs) (hint - lastofs)
theorem gallop'_gal (left : Bool) (key : Keyed) (arr : Array Keyed) (base n hint : Nat) : gallop' left key arr base n hint = gal (beyond left key arr base) n hint := rfl
theorem wpS_srch {st : SortSt} {f : Nat → StateT SortSt Sem (Option Bool)} {B : Nat → Bool} {n lo hi : Nat} {Q : Option Nat → SortSt → Prop} (hf : ∀ i (Q : Option Bool → SortSt → Prop), i < n → Q (some (B i)) st → wpS (model prog w) A E s (f i) Q st) (hlh : lo ≤ hi) (hh : hi ≤ n)
    (hm : ∀ i j, i ≤ j → j < n → B j = true → B i = true)
    (h1 : ∀ i, i < lo → B i = true) (h2 : ∀ i, hi ≤ i → i < n → B i = false)
    (h : ∀ k, k ≤ n → (∀ i, i < k → B i = true) → (∀ i, k ≤ i → i < n → B i = false) → Q (some k) st) : wpS (model prog w) A E s (srch f n lo hi) Q st := by
  unfold srch
  refine wpS_bind (wpS_mono (wpS_forRange (I := fun x c st' => st' = st ∧ ∃ lo hi, c = (none, lo, hi) ∧ lo ≤ hi ∧ hi ≤ n ∧ hi - lo ≤ n - x ∧ (∀ i, i < lo → B i = true) ∧ ∀ i, hi ≤ i → i < n → B i = false)
    (Q := fun c st' => st' = st ∧ ∃ k, c = (none, k, k) ∧ k ≤ n ∧ (∀ i, i < k → B i = true) ∧ ∀ i, k ≤ i → i < n → B i = false) ?step ?fin ⟨rfl, lo, hi, rfl, hlh, hh, by omega, h1, h2⟩) ?post)
  case fin =>
    rintro c st' ⟨rfl, lo, hi, rfl, q1, q2, q3, q4, q5⟩
    have : lo = hi := by omega
    subst this
    exact ⟨rfl, lo, rfl, q2, q4, q5⟩
  case post =>
    rintro c st' ⟨rfl, k, rfl, q1, q2, q3⟩
    exact wpS_pure (h k q1 q2 q3)
  case step =>
    rintro x c st' _ hx ⟨rfl, lo, hi, rfl, q1, q2, q3, q4, q5⟩
    dsimp only
    by_cases hge : lo ≥ hi
    · rw [if_pos hge]
      have : lo = hi := by omega
      subst this
      exact wpS_pure ⟨rfl, lo, rfl, q2, q4, q5⟩
    · rw [if_neg hge]
      refine wpS_bind (hf _ _ (by omega) ?_)
      cases e : B (lo + (hi - lo) / 2) with
      | true =>
        refine wpS_pure ⟨rfl, _, _, rfl, by omega, by omega, by omega, fun i hi' => ?_, q5⟩
        exact hm i (lo + (hi - lo) / 2) (by omega) (by omega) e
      | false =>
        refine wpS_pure ⟨rfl, _, _, rfl, by omega, by omega, by omega, q4, fun i h1 h2 => ?_⟩
        cases e' : B i with
        | false => rfl
        | true => rw [hm _ i h1 h2 e'] at e; cases e
theorem wpS_gal {st : SortSt} {f : Nat → StateT SortSt Sem (Option Bool)} {B : Nat → Bool} {n hint : Nat} {Q : Option Nat → SortSt → Prop} (hf : ∀ i (Q : Option Bool → SortSt → Prop), i < n → Q (some (B i)) st → wpS (model prog w) A E s (f i) Q st) (hh : hint < n)
    (hm : ∀ i j, i ≤ j → j < n → B j = true → B i = true)
    (h : ∀ k, k ≤ n → (∀ i, i < k → B i = true) → (∀ i, k ≤ i → i < n → B i = false) → Q (some k) st) : wpS (model prog w) A E s (gal f n hint) Q st := by
  unfold gal
  refine wpS_bind (hf _ _ (by omega) ?_)
  have hm' : ∀ {i j}, i ≤ j → j < n → B i = false → B j = false := fun {i j} h1 h2 e => by
    cases e' : B j with
    | false => rfl
    | true => rw [hm i j h1 h2 e'] at e; cases e
  cases e : B hint with
  | true =>
    dsimp only
    rw [if_pos rfl]
    refine wpS_bind (wpS_mono (wpS_forRange (I := fun x c st' => st' = st ∧ ∃ l o, c = (none, l, o) ∧ l < o ∧ x + 1 ≤ o ∧ hint + l < n ∧ B (hint + l) = true)
      (Q := fun c st' => st' = st ∧ ∃ l o, c = (none, l, o) ∧ l < o ∧ hint + l < n ∧ B (hint + l) = true ∧ (hint + o < n → B (hint + o) = false)) ?step ?fin ⟨rfl, 0, 1, rfl, by omega, by omega, by omega, e⟩) ?post)
    case fin =>
      rintro c st' ⟨rfl, l, o, rfl, q1, q2, q3, q4⟩
      exact ⟨rfl, l, o, rfl, q1, q3, q4, fun z => by omega⟩
    case post =>
      rintro c st' ⟨rfl, l, o, rfl, q1, q2, q3, q4⟩
      dsimp only
      refine wpS_srch hf (by omega) (by omega) hm (fun i hi => hm i (hint + l) (by omega) q2 q3) (fun i h1 h2 => ?_) h
      exact hm' (i := hint + o) (by omega) h2 (q4 (by omega))
    case step =>
      rintro x c st' _ hx ⟨rfl, l, o, rfl, q1, q2, q3, q4⟩
      dsimp only
      by_cases hge : o ≥ n - hint
      · rw [if_pos hge]
        exact wpS_pure ⟨rfl, l, o, rfl, q1, q3, q4, fun z => by omega⟩
      · rw [if_neg hge]
        refine wpS_bind (hf _ _ (by omega) ?_)
        cases e : B (hint + o) with
        | true => exact wpS_pure ⟨rfl, o, _, rfl, by omega, by omega, by omega, e⟩
        | false => exact wpS_pure ⟨rfl, l, o, rfl, q1, q3, q4, fun _ => e⟩
  | false =>
    dsimp only
    rw [if_neg (by decide)]
    refine wpS_bind (wpS_mono (wpS_forRange (I := fun x c st' => st' = st ∧ ∃ l o, c = (none, l, o) ∧ l < o ∧ x + 1 ≤ o ∧ l ≤ hint ∧ B (hint - l) = false)
      (Q := fun c st' => st' = st ∧ ∃ l o, c = (none, l, o) ∧ l < o ∧ l ≤ hint ∧ B (hint - l) = false ∧ (o ≤ hint → B (hint - o) = true)) ?step ?fin ⟨rfl, 0, 1, rfl, by omega, by omega, by omega, e⟩) ?post)
    case fin =>
      rintro c st' ⟨rfl, l, o, rfl, q1, q2, q3, q4⟩
      exact ⟨rfl, l, o, rfl, q1, q3, q4, fun z => by omega⟩
    case post =>
      rintro c st' ⟨rfl, l, o, rfl, q1, q2, q3, q4⟩
      dsimp only
      refine wpS_srch hf (by omega) (by omega) hm (fun i hi => hm i (hint - o) (by omega) (by omega) (q4 (by omega))) (fun i h1 h2 => ?_) h
      exact hm' (i := hint - l) (by omega) h2 q3
    case step =>
      rintro x c st' _ hx ⟨rfl, l, o, rfl, q1, q2, q3, q4⟩
      dsimp only
      by_cases hge : o ≥ hint + 1
      · rw [if_pos hge]
        exact wpS_pure ⟨rfl, l, o, rfl, q1, q3, q4, fun z => by omega⟩
      · rw [if_neg hge]
        refine wpS_bind (hf _ _ (by omega) ?_)
        cases e : B (hint - o) with
        | false => exact wpS_pure ⟨rfl, o, _, rfl, by omega, by omega, by omega, e⟩
        | true => exact wpS_pure ⟨rfl, l, o, rfl, q1, q3, q4, fun _ => e⟩
theorem wpS_gallop {st : SortSt} {left : Bool} {key : Keyed} {arr : Array Keyed} {base n hint : Nat} {Q : Option Nat → SortSt → Prop} (hO : LtAt κ kx prog w A s) (hk : kindOf st = kx) (hy : Kd κ key) (ha : ∀ x ∈ arr, Kd κ x) (hn : base + n ≤ arr.size) (hh : hint < n)
    (hm : ∀ i j, i ≤ j → j < n → bynd κ left key arr base j = true → bynd κ left key arr base i = true)
    (h : ∀ k, k ≤ n → (∀ i, i < k → bynd κ left key arr base i = true) → (∀ i, k ≤ i → i < n → bynd κ left key arr base i = false) → Q (some k) st) : wpS (model prog w) A E s (gallop' left key arr base n hint) Q st := by
  rw [gallop'_gal]
  exact wpS_gal (B := bynd κ left key arr base) (fun i Q hi q => wpS_beyond hO hk hy ha (by omega) q) hh hm h
end
end L2
set_option Elab.async false
set_option linter.all false
set_option maxRecDepth 100000
set_option maxHeartbeats 4000000
namespace L2
open PySem PySem.Spec PyProof.Rows
section
variable {prog : Program} {w : World} {A : Around} {E : Value → Shared → Prop} {s : Shared} {κ : KeyKind} {kx : SortKind}
def setMG : Nat → StateT SortSt Sem Unit := sortPriv% PySem.Builtin.setMinGallop
theorem setMG_eq (g : Nat) : setMG g = modify fun s => SortSt.mk' (kindOf s) (arrOf s) (pendingOf s) g (failedOf s) := rfl
def mergeLo' : Array Keyed → Array Keyed → StateT SortSt Sem (Array Keyed) := sortPriv% PySem.Builtin.mergeLo
theorem mergeLo'_eq (a b : Array Keyed) : mergeLo' a b = (do
  rule "list.sort.merge-lo"
  let total := a.size + b.size
  let done (out : Array Keyed) (ia ib : Nat) := out ++ a.extract ia a.size ++ b.extract ib b.size
  let lastOfA (out : Array Keyed) (ia ib : Nat) := out ++ b.extract ib b.size ++ a.extract ia a.size
  let mut out : Array Keyed := #[← elem' b 0]
  let mut ia := 0
  let mut ib := 1
  if ib == b.size then return done out ia ib
  if ia + 1 == a.size then return lastOfA out ia ib
  let mut minGallop := gallopOf (← get)
  for _ in [0:total] do
    let mut acount := 0
    let mut bcount := 0
    for _ in [0:total] do
      let some bWins ← lt' (← elem' b ib) (← elem' a ia) | return done out ia ib
      if bWins then
        out := out.push (← elem' b ib); ib := ib + 1; bcount := bcount + 1; acount := 0
        if ib == b.size then return done out ia ib
        if bcount ≥ minGallop then break
      else
        out := out.push (← elem' a ia); ia := ia + 1; acount := acount + 1; bcount := 0
        if ia + 1 == a.size then return lastOfA out ia ib
        if acount ≥ minGallop then break
    rule "list.sort.gallop"
    minGallop := minGallop + 1
    for _ in [0:total] do
      if minGallop > 1 then minGallop := minGallop - 1
      setMG minGallop
      let some k ← gallop' false (← elem' b ib) a ia (a.size - ia) 0 | return done out ia ib
      acount := k
      if k > 0 then
        out := out ++ a.extract ia (ia + k); ia := ia + k
        if ia + 1 == a.size then return lastOfA out ia ib
        if ia == a.size then return done out ia ib
      out := out.push (← elem' b ib); ib := ib + 1
      if ib == b.size then return done out ia ib
      let some k ← gallop' true (← elem' a ia) b ib (b.size - ib) 0 | return done out ia ib
      bcount := k
      if k > 0 then
        out := out ++ b.extract ib (ib + k); ib := ib + k
        if ib == b.size then return done out ia ib
      out := out.push (← elem' a ia); ia := ia + 1
      if ia + 1 == a.size then return lastOfA out ia ib
      if acount < 7 && bcount < 7 then break
    minGallop := minGallop + 1
    setMG minGallop
  unsupported "internal:list.sort.merge-bound") := rfl
def Srt (κ : KeyKind) (l : List Keyed) : Prop := l.Pairwise fun x y => κ.kle (kOf κ x) (kOf κ y)
structure MI (κ : KeyKind) (a b out : List Keyed) (ia ib : Nat) : Prop where
  ha : ia ≤ a.length
  hb : ib ≤ b.length
  perm : out.Perm (a.take ia ++ b.take ib)
  srt : Srt κ out
  le : ∀ x ∈ out, ∀ y ∈ a.drop ia ++ b.drop ib, κ.kle (kOf κ x) (kOf κ y)
theorem MI.swap {a b out : List Keyed} {ia ib : Nat} (h : MI κ a b out ia ib) : MI κ b a out ib ia :=
  ⟨h.hb, h.ha, h.perm.trans List.perm_append_comm, h.srt, fun x hx y hy => h.le x hx y (by rw [List.mem_append] at hy ⊢; exact hy.symm)⟩
theorem Srt.drop {l : List Keyed} {n : Nat} (h : Srt κ l) : Srt κ (l.drop n) := List.Pairwise.sublist (List.drop_sublist n l) h
theorem Srt.take {l : List Keyed} {n : Nat} (h : Srt κ l) : Srt κ (l.take n) := List.Pairwise.sublist (List.take_sublist n l) h
theorem MI.addA {a b out : List Keyed} {ia ib k : Nat} (h : MI κ a b out ia ib) (hk : ia + k ≤ a.length) (sa : Srt κ a) (hle : ∀ x ∈ (a.drop ia).take k, ∀ y ∈ b.drop ib, κ.kle (kOf κ x) (kOf κ y)) : MI κ a b (out ++ (a.drop ia).take k) (ia + k) ib := by
  have ed : a.drop ia = (a.drop ia).take k ++ a.drop (ia + k) := by
    conv => lhs; rw [← List.take_append_drop k (a.drop ia), List.drop_drop]
  have sd : Srt κ ((a.drop ia).take k ++ a.drop (ia + k)) := by rw [← ed]; exact sa.drop
  obtain ⟨s1, s2, s3⟩ := List.pairwise_append.mp sd
  refine ⟨hk, h.hb, ?_, List.pairwise_append.mpr ⟨h.srt, s1, fun x hx y hy => h.le x hx y (List.mem_append_left _ (List.mem_of_mem_take hy))⟩, fun x hx y hy => ?_⟩
  · rw [List.take_add]
    refine (h.perm.append_right _).trans ?_
    rw [List.append_assoc, List.append_assoc]
    exact List.Perm.append_left _ List.perm_append_comm
  · rcases List.mem_append.mp hx with hx | hx
    · refine h.le x hx y ?_
      rcases List.mem_append.mp hy with hy | hy
      · refine List.mem_append_left _ ?_
        rw [ed]
        exact List.mem_append_right _ hy
      · exact List.mem_append_right _ hy
    · rcases List.mem_append.mp hy with hy | hy
      · exact s3 x hx y hy
      · exact hle x hx y hy
structure Mg (κ : KeyKind) (a b m : List Keyed) : Prop where
  perm : m.Perm (a ++ b)
  srt : Srt κ m
theorem MI.fin {a b out r : List Keyed} {ia ib : Nat} (h : MI κ a b out ia ib) (hr : r.Perm (a.drop ia ++ b.drop ib)) (sr : Srt κ r) : Mg κ a b (out ++ r) := by
  refine ⟨?_, List.pairwise_append.mpr ⟨h.srt, sr, fun x hx y hy => h.le x hx y (hr.mem_iff.mp hy)⟩⟩
  refine ((h.perm.append_right _).trans ((List.Perm.append_left _ hr))).trans ?_
  conv => rhs; rw [← List.take_append_drop ia a, ← List.take_append_drop ib b]
  rw [List.append_assoc, List.append_assoc]
  refine List.Perm.append_left _ ?_
  rw [← List.append_assoc, ← List.append_assoc]
  exact List.Perm.append_right _ List.perm_append_comm
theorem ext_list (a : Array Keyed) (i j : Nat) : (a.extract i j).toList = (a.toList.drop i).take (j - i) := by
  simp [Array.toList_extract, List.extract_eq_drop_take]
theorem take_one {a : Array Keyed} {i : Nat} (h : i < a.size) : (a.toList.drop i).take 1 = [a[i]] := by
  rw [List.drop_eq_getElem_cons (by simpa using h)]
  simp
def LoOk (κ : KeyKind) (a b : Array Keyed) (m : Array Keyed) : Prop := Mg κ a.toList b.toList m.toList
theorem MI.done {a b out : Array Keyed} {ia ib : Nat} (h : MI κ a.toList b.toList out.toList ia ib) (sa : Srt κ a.toList) (sb : Srt κ b.toList) (he : ib = b.size ∨ ia = a.size) : LoOk κ a b (out ++ a.extract ia a.size ++ b.extract ib b.size) := by
  have e : (out ++ a.extract ia a.size ++ b.extract ib b.size).toList = out.toList ++ (a.toList.drop ia ++ b.toList.drop ib) := by
    rw [Array.toList_append, Array.toList_append, ext_list, ext_list, List.append_assoc, List.take_of_length_le (by simp), List.take_of_length_le (by simp)]
  show Mg κ _ _ _
  rw [e]
  refine h.fin (List.Perm.refl _) ?_
  rcases he with he | he
  · rw [show b.toList.drop ib = [] from List.drop_eq_nil_of_le (by simp [he]), List.append_nil]; exact sa.drop
  · rw [show a.toList.drop ia = [] from List.drop_eq_nil_of_le (by simp [he]), List.nil_append]; exact sb.drop
theorem MI.lastA {a b out : Array Keyed} {ia ib : Nat} (h : MI κ a.toList b.toList out.toList ia ib) (sb : Srt κ b.toList) (he : ia + 1 = a.size) (hz : ∀ y ∈ b.toList, ∀ z ∈ a.toList.drop ia, κ.kle (kOf κ y) (kOf κ z)) : LoOk κ a b (out ++ b.extract ib b.size ++ a.extract ia a.size) := by
  have e : (out ++ b.extract ib b.size ++ a.extract ia a.size).toList = out.toList ++ (b.toList.drop ib ++ a.toList.drop ia) := by
    rw [Array.toList_append, Array.toList_append, ext_list, ext_list, List.append_assoc, List.take_of_length_le (by simp), List.take_of_length_le (by simp)]
  show Mg κ _ _ _
  rw [e]
  refine h.fin List.perm_append_comm ?_
  refine List.pairwise_append.mpr ⟨sb.drop, ?_, fun x hx y hy => hz x (List.mem_of_mem_drop hx) y hy⟩
  have : (a.toList.drop ia).length = 1 := by rw [List.length_drop]; simp; omega
  match hl : a.toList.drop ia, this with
  | [z], _ => exact List.pairwise_singleton _ _
theorem MI.pushA {a b out : Array Keyed} {ia ib : Nat} (h : MI κ a.toList b.toList out.toList ia ib) (hi : ia < a.size) (sa : Srt κ a.toList) (hle : ∀ y ∈ b.toList.drop ib, κ.kle (kOf κ a[ia]) (kOf κ y)) : MI κ a.toList b.toList (out.push a[ia]).toList (ia + 1) ib := by
  have := h.addA (k := 1) (by rw [Array.length_toList]; omega) sa (by rw [take_one hi]; intro x hx; rw [List.mem_singleton.mp hx]; exact hle)
  rw [take_one hi] at this
  simpa using this
theorem MI.pushB {a b out : Array Keyed} {ia ib : Nat} (h : MI κ a.toList b.toList out.toList ia ib) (hi : ib < b.size) (sb : Srt κ b.toList) (hle : ∀ y ∈ a.toList.drop ia, κ.kle (kOf κ b[ib]) (kOf κ y)) : MI κ a.toList b.toList (out.push b[ib]).toList ia (ib + 1) :=
  (h.swap.pushA hi sb hle).swap
theorem MI.extA {a b out : Array Keyed} {ia ib k : Nat} (h : MI κ a.toList b.toList out.toList ia ib) (hk : ia + k ≤ a.size) (sa : Srt κ a.toList) (hle : ∀ x ∈ (a.toList.drop ia).take k, ∀ y ∈ b.toList.drop ib, κ.kle (kOf κ x) (kOf κ y)) : MI κ a.toList b.toList (out ++ a.extract ia (ia + k)).toList (ia + k) ib := by
  have := h.addA (k := k) (by simpa using hk) sa hle
  rw [Array.toList_append, ext_list, Nat.add_sub_cancel_left]
  exact this
theorem MI.extB {a b out : Array Keyed} {ia ib k : Nat} (h : MI κ a.toList b.toList out.toList ia ib) (hk : ib + k ≤ b.size) (sb : Srt κ b.toList) (hle : ∀ x ∈ (b.toList.drop ib).take k, ∀ y ∈ a.toList.drop ia, κ.kle (kOf κ x) (kOf κ y)) : MI κ a.toList b.toList (out ++ b.extract ib (ib + k)).toList ia (ib + k) :=
  (h.swap.extA hk sb hle).swap
theorem Srt.at {a : Array Keyed} (h : Srt κ a.toList) {i j : Nat} (hij : i ≤ j) (hj : j < a.size) : κ.kle (kOf κ (a[i]'(by omega))) (kOf κ a[j]) := by
  by_cases e : i = j
  · subst e; exact KeyOrd.kle_refl _
  · have := List.pairwise_iff_getElem.mp h i j (by simp; omega) (by simpa using hj) (by omega)
    simpa using this
theorem mem_drop {a : Array Keyed} {i : Nat} {y : Keyed} (h : y ∈ a.toList.drop i) : ∃ j, ∃ hj : j < a.size, i ≤ j ∧ y = a[j] := by
  obtain ⟨k, hk, e⟩ := List.getElem_of_mem h
  rw [List.length_drop] at hk
  refine ⟨i + k, by simpa using (by omega : i + k < a.toList.length), by omega, ?_⟩
  rw [← e]
  simp
theorem mem_cut {a : Array Keyed} {i k : Nat} {y : Keyed} (h : y ∈ (a.toList.drop i).take k) : ∃ j, ∃ hj : j < a.size, i ≤ j ∧ j < i + k ∧ y = a[j] := by
  obtain ⟨m, hm, e⟩ := List.getElem_of_mem h
  rw [List.length_take, List.length_drop] at hm
  refine ⟨i + m, by simpa using (by omega : i + m < a.toList.length), by omega, by omega, ?_⟩
  rw [← e]
  simp
end
end L2
set_option Elab.async false
set_option linter.all false
set_option maxRecDepth 100000
set_option maxHeartbeats 4000000
namespace L2
open PySem PySem.Spec PyProof.Rows
section
variable {prog : Program} {w : World} {A : Around} {E : Value → Shared → Prop} {s : Shared} {κ : KeyKind} {kx : SortKind}
abbrev setG (st : SortSt) (g : Nat) : SortSt := SortSt.mk' (kindOf st) (arrOf st) (pendingOf st) g (failedOf st)
theorem MI.nil (a b : List Keyed) : MI κ a b [] 0 0 := ⟨Nat.zero_le _, Nat.zero_le _, by simp, List.Pairwise.nil, fun x hx => by cases hx⟩
theorem wpS_setMG {st : SortSt} {g : Nat} {Q : Unit → SortSt → Prop} (h : Q () (setG st g)) : wpS (model prog w) A E s (setMG g) Q st := by
  rw [setMG_eq]
  exact wpS_modify h
theorem bynd_at {left : Bool} {key : Keyed} {arr : Array Keyed} {base i : Nat} (h : base + i < arr.size) : bynd κ left key arr base i = if left then κ.blt (kOf κ arr[base + i]) (kOf κ key) else !κ.blt (kOf κ key) (kOf κ arr[base + i]) := by
  unfold bynd
  rw [getElem?_pos arr _ h]
theorem bynd_mono {left : Bool} {key : Keyed} {arr : Array Keyed} {base n : Nat} (hn : base + n ≤ arr.size) (sa : Srt κ arr.toList) : ∀ i j, i ≤ j → j < n → bynd κ left key arr base j = true → bynd κ left key arr base i = true := fun i j hij hj e => by
  rw [bynd_at (by omega)] at e ⊢
  have hle := sa.at (i := base + i) (j := base + j) (by omega) (by omega)
  cases left with
  | true => exact KeyOrd.klt_of_kle_of_klt hle e
  | false =>
    simp only [Bool.false_eq_true, if_false, Bool.not_eq_true'] at e ⊢
    exact KeyOrd.kle_trans hle e
abbrev LT := Option (Array Keyed) × Array Keyed × Nat × Nat × Nat × Nat × Nat
abbrev LU := Option (Array Keyed) × Array Keyed × Nat × Nat × Nat × Nat
abbrev LV := Option (Array Keyed) × Array Keyed × Nat × Nat × Nat
def loC (a b out : Array Keyed) (ia ib mg ac bc : Nat) : StateT SortSt Sem (ForInStep LT) := do
  let x ← elem' a ia
  if (ia + 1 + 1 == a.size) = true then pure (.done (some (out.push x ++ b.extract ib b.size ++ a.extract (ia + 1) a.size), out.push x, ia + 1, ib, mg, ac, bc))
  else if (decide (ac < 7) && decide (bc < 7)) = true then pure (.done (none, out.push x, ia + 1, ib, mg, ac, bc))
  else pure (.yield (none, out.push x, ia + 1, ib, mg, ac, bc))
def loB (a b out : Array Keyed) (ia ib mg ac bc : Nat) : StateT SortSt Sem (ForInStep LT) := do
  let x ← elem' b ib
  if (ib + 1 == b.size) = true then pure (.done (some (out.push x ++ a.extract ia a.size ++ b.extract (ib + 1) b.size), out.push x, ia, ib + 1, mg, ac, bc))
  else do
    let y ← elem' a ia
    let r ← gallop' true y b (ib + 1) (b.size - (ib + 1)) 0
    match r with
    | some k =>
      if k > 0 then
        if (ib + 1 + k == b.size) = true then pure (.done (some (out.push x ++ b.extract (ib + 1) (ib + 1 + k) ++ a.extract ia a.size ++ b.extract (ib + 1 + k) b.size), out.push x ++ b.extract (ib + 1) (ib + 1 + k), ia, ib + 1 + k, mg, ac, k))
        else loC a b (out.push x ++ b.extract (ib + 1) (ib + 1 + k)) ia (ib + 1 + k) mg ac k
      else loC a b (out.push x) ia (ib + 1) mg ac k
    | _ => pure (.done (some (out.push x ++ a.extract ia a.size ++ b.extract (ib + 1) b.size), out.push x, ia, ib + 1, mg, ac, bc))
def loA (a b out : Array Keyed) (ia ib mg ac bc : Nat) : StateT SortSt Sem (ForInStep LT) := do
  setMG mg
  let x ← elem' b ib
  let r ← gallop' false x a ia (a.size - ia) 0
  match r with
  | some k =>
    if k > 0 then
      if (ia + k + 1 == a.size) = true then pure (.done (some (out ++ a.extract ia (ia + k) ++ b.extract ib b.size ++ a.extract (ia + k) a.size), out ++ a.extract ia (ia + k), ia + k, ib, mg, k, bc))
      else if (ia + k == a.size) = true then pure (.done (some (out ++ a.extract ia (ia + k) ++ a.extract (ia + k) a.size ++ b.extract ib b.size), out ++ a.extract ia (ia + k), ia + k, ib, mg, k, bc))
      else loB a b (out ++ a.extract ia (ia + k)) (ia + k) ib mg k bc
    else loB a b out ia ib mg k bc
  | _ => pure (.done (some (out ++ a.extract ia a.size ++ b.extract ib b.size), out, ia, ib, mg, ac, bc))
def lo1 (a b : Array Keyed) (mg : Nat) (out : Array Keyed) (ia ib ac bc : Nat) : StateT SortSt Sem (ForInStep LU) := do
  let x ← elem' b ib
  let y ← elem' a ia
  let r ← lt' x y
  match r with
  | some w =>
    if w = true then do
      let x ← elem' b ib
      if (ib + 1 == b.size) = true then pure (.done (some (out.push x ++ a.extract ia a.size ++ b.extract (ib + 1) b.size), out.push x, ia, ib + 1, 0, bc + 1))
      else if bc + 1 ≥ mg then pure (.done (none, out.push x, ia, ib + 1, 0, bc + 1)) else pure (.yield (none, out.push x, ia, ib + 1, 0, bc + 1))
    else do
      let y ← elem' a ia
      if (ia + 1 + 1 == a.size) = true then pure (.done (some (out.push y ++ b.extract ib b.size ++ a.extract (ia + 1) a.size), out.push y, ia + 1, ib, ac + 1, 0))
      else if ac + 1 ≥ mg then pure (.done (none, out.push y, ia + 1, ib, ac + 1, 0)) else pure (.yield (none, out.push y, ia + 1, ib, ac + 1, 0))
  | _ => pure (.done (some (out ++ a.extract ia a.size ++ b.extract ib b.size), out, ia, ib, ac, bc))
def loO (a b out : Array Keyed) (ia ib mg : Nat) : StateT SortSt Sem (ForInStep LV) := do
  let t ← forIn [:a.size + b.size] ((none, out, ia, ib, 0, 0) : LU) fun _ t => lo1 a b mg t.2.1 t.2.2.1 t.2.2.2.1 t.2.2.2.2.1 t.2.2.2.2.2
  match t.1 with
  | some r => pure (.done (some r, t.2.1, t.2.2.1, t.2.2.2.1, mg))
  | none => do
    liftM (rule "list.sort.gallop")
    let t ← forIn [:a.size + b.size] ((none, t.2.1, t.2.2.1, t.2.2.2.1, mg + 1, t.2.2.2.2.1, t.2.2.2.2.2) : LT) fun _ t =>
      if t.2.2.2.2.1 > 1 then loA a b t.2.1 t.2.2.1 t.2.2.2.1 (t.2.2.2.2.1 - 1) t.2.2.2.2.2.1 t.2.2.2.2.2.2 else loA a b t.2.1 t.2.2.1 t.2.2.2.1 t.2.2.2.2.1 t.2.2.2.2.2.1 t.2.2.2.2.2.2
    match t.1 with
    | some r => pure (.done (some r, t.2.1, t.2.2.1, t.2.2.2.1, t.2.2.2.2.1))
    | none => do
      setMG (t.2.2.2.2.1 + 1)
      pure (.yield (none, t.2.1, t.2.2.1, t.2.2.2.1, t.2.2.2.2.1 + 1))
theorem mergeLo'_lo (a b : Array Keyed) : mergeLo' a b = (do
  liftM (rule "list.sort.merge-lo")
  let x ← elem' b 0
  if (1 == b.size) = true then pure (#[x] ++ a.extract 0 a.size ++ b.extract 1 b.size)
  else if (0 + 1 == a.size) = true then pure (#[x] ++ b.extract 1 b.size ++ a.extract 0 a.size)
  else do
    let st ← get
    let t ← forIn [:a.size + b.size] ((none, #[x], 0, 1, gallopOf st) : LV) fun _ t => loO a b t.2.1 t.2.2.1 t.2.2.2.1 t.2.2.2.2
    match t.1 with
    | some r => pure r
    | none => unsupported "internal:list.sort.merge-bound") := by
  rw [mergeLo'_eq]
  dsimp only
  congr 1
  funext _
  congr 1
  funext x
  congr 1
  congr 1
  congr 1
  funext st
  congr 1
  · congr 1
    funext _ t
    unfold loO
    congr 1
    funext t1
    obtain ⟨r1, out1, ia1, ib1, ac1, bc1⟩ := t1
    cases r1 with
    | some r => rfl
    | none =>
      dsimp only
      congr 1
      funext _
      congr 1
      funext t2
      obtain ⟨r2, _⟩ := t2
      cases r2 <;> rfl
  · funext t
    obtain ⟨r1, _⟩ := t
    cases r1 <;> rfl
structure LoH (κ : KeyKind) (kx : SortKind) (prog : Program) (w : World) (A : Around) (s : Shared) (a b : Array Keyed) : Prop where
  o : LtAt κ kx prog w A s
  ka : ∀ x ∈ a, Kd κ x
  kb : ∀ x ∈ b, Kd κ x
  sa : Srt κ a.toList
  sb : Srt κ b.toList
  z : ∀ y ∈ b.toList, ∀ z ∈ a.toList.drop (a.size - 1), κ.kle (kOf κ y) (kOf κ z)
theorem LoH.lst {a b out : Array Keyed} {ia ib : Nat} (h : LoH κ kx prog w A s a b) (m : MI κ a.toList b.toList out.toList ia ib) (e : ia + 1 = a.size) : LoOk κ a b (out ++ b.extract ib b.size ++ a.extract ia a.size) := m.lastA h.sb e (by rw [show ia = a.size - 1 by omega]; exact h.z)
theorem headLe {a : Array Keyed} {i : Nat} {x : Keyed} (sa : Srt κ a.toList) (hi : i < a.size) (h : κ.kle (kOf κ x) (kOf κ a[i])) : ∀ y ∈ a.toList.drop i, κ.kle (kOf κ x) (kOf κ y) := fun y hy => by
  obtain ⟨j, hj, hij, rfl⟩ := mem_drop hy
  exact KeyOrd.kle_trans h (sa.at hij hj)
structure LI (κ : KeyKind) (a b out : Array Keyed) (ia ib : Nat) : Prop where
  m : MI κ a.toList b.toList out.toList ia ib
  ia : ia + 1 < a.size
  ib : ib < b.size
def PTo (κ : KeyKind) (a b : Array Keyed) (n : Nat) (c : LT) : Prop := match c with
  | (some m, _) => LoOk κ a b m
  | (none, out, ia, ib, _) => LI κ a b out ia ib ∧ n ≤ ia + ib
def QT (κ : KeyKind) (a b : Array Keyed) (n : Nat) (r : ForInStep LT) : Prop := match r with
  | .done c => PTo κ a b n c
  | .yield c => c.1 = none ∧ PTo κ a b n c
theorem wpS_loC {st : SortSt} {a b out : Array Keyed} {ia ib mg ac bc n : Nat} (H : LoH κ kx prog w A s a b) (L : LI κ a b out ia ib) (hle : ∀ y ∈ b.toList.drop ib, κ.kle (kOf κ (a[ia]'(by have := L.ia; omega))) (kOf κ y)) (hn : n ≤ ia + ib) : wpS (model prog w) A E s (loC a b out ia ib mg ac bc) (fun r st' => st' = st ∧ QT κ a b n r) st := by
  unfold loC
  have hia := L.ia
  refine wpS_bind (wpS_elem (by omega) ?_)
  have m1 := L.m.pushA (by omega) H.sa hle
  by_cases e : ia + 1 + 1 = a.size
  · rw [if_pos (by simpa using e)]
    exact wpS_pure ⟨rfl, H.lst m1 e⟩
  · rw [if_neg (by simpa using e)]
    have L1 : LI κ a b (out.push a[ia]) (ia + 1) ib := ⟨m1, by omega, L.ib⟩
    split
    · exact wpS_pure ⟨rfl, L1, by omega⟩
    · exact wpS_pure ⟨rfl, rfl, L1, by omega⟩
theorem wpS_loB {st : SortSt} {a b out : Array Keyed} {ia ib mg ac bc n : Nat} (H : LoH κ kx prog w A s a b) (hk : kindOf st = kx) (L : LI κ a b out ia ib) (hle : ∀ y ∈ a.toList.drop ia, κ.kle (kOf κ (b[ib]'L.ib)) (kOf κ y)) (hn : n ≤ ia + ib) : wpS (model prog w) A E s (loB a b out ia ib mg ac bc) (fun r st' => st' = st ∧ QT κ a b n r) st := by
  unfold loB
  have hia := L.ia
  have hib := L.ib
  refine wpS_bind (wpS_elem L.ib ?_)
  have m1 := L.m.pushB L.ib H.sb hle
  by_cases e : ib + 1 = b.size
  · rw [if_pos (by simpa using e)]
    exact wpS_pure ⟨rfl, m1.done H.sa H.sb (.inl e)⟩
  rw [if_neg (by simpa using e)]
  refine wpS_bind (wpS_elem (by omega) (wpS_bind (wpS_gallop H.o hk (H.ka _ (Array.getElem_mem _)) H.kb (by omega) (by omega) (bynd_mono (by omega) H.sb) fun k hk1 h1 h2 => ?_)))
  have hlt : ∀ j (hj : j < b.size), ib + 1 ≤ j → j < ib + 1 + k → κ.kle (kOf κ b[j]) (kOf κ (a[ia]'(by omega))) := fun j hj q1 q2 => by
    have := h1 (j - (ib + 1)) (by omega)
    rw [bynd_at (by omega)] at this
    simp only [if_true] at this
    have e' : ib + 1 + (j - (ib + 1)) = j := by omega
    simp only [e'] at this
    exact KeyOrd.kle_of_klt this
  have hge : ∀ hj : ib + 1 + k < b.size, κ.kle (kOf κ (a[ia]'(by omega))) (kOf κ b[ib + 1 + k]) := fun hj => by
    have := h2 k (Nat.le_refl _) (by omega)
    rw [bynd_at (by omega)] at this
    show κ.blt _ _ = false
    simpa using this
  have m2 := m1.extB (k := k) (by omega) H.sb (fun x hx y hy => by
    obtain ⟨j, hj, q1, q2, rfl⟩ := mem_cut hx
    obtain ⟨i, hi, q3, rfl⟩ := mem_drop hy
    exact KeyOrd.kle_trans (hlt j hj q1 q2) (H.sa.at q3 hi))
  dsimp only
  by_cases hk0 : k > 0
  · rw [if_pos hk0]
    by_cases e2 : ib + 1 + k = b.size
    · rw [if_pos (by simpa using e2)]
      exact wpS_pure ⟨rfl, m2.done H.sa H.sb (.inl e2)⟩
    · rw [if_neg (by simpa using e2)]
      exact wpS_loC H ⟨m2, hia, by omega⟩ (headLe H.sb (by omega) (hge (by omega))) (by omega)
  · rw [if_neg hk0]
    have k0 : k = 0 := by omega
    subst k0
    exact wpS_loC H ⟨m1, hia, by omega⟩ (headLe H.sb (by omega) (hge (by omega))) (by omega)
theorem wpS_loA {st : SortSt} {a b out : Array Keyed} {ia ib mg ac bc n : Nat} (H : LoH κ kx prog w A s a b) (hk : kindOf st = kx) (L : LI κ a b out ia ib) (hn : n ≤ ia + ib) : wpS (model prog w) A E s (loA a b out ia ib mg ac bc) (fun r st' => st' = setG st mg ∧ QT κ a b n r) st := by
  unfold loA
  have hia := L.ia
  have hib := L.ib
  refine wpS_bind (wpS_setMG (wpS_bind (wpS_elem L.ib (wpS_bind (wpS_gallop (st := setG st mg) H.o hk (H.kb _ (Array.getElem_mem _)) H.ka (by omega) (by omega) (bynd_mono (by omega) H.sa) fun k hk1 h1 h2 => ?_)))))
  have hle : ∀ j (hj : j < a.size), ia ≤ j → j < ia + k → κ.kle (kOf κ a[j]) (kOf κ (b[ib]'L.ib)) := fun j hj q1 q2 => by
    have := h1 (j - ia) (by omega)
    rw [bynd_at (by omega)] at this
    have e' : ia + (j - ia) = j := by omega
    simp only [Bool.false_eq_true, if_false, Bool.not_eq_true', e'] at this
    exact this
  have hgt : ∀ hj : ia + k < a.size, κ.kle (kOf κ (b[ib]'L.ib)) (kOf κ a[ia + k]) := fun hj => by
    have := h2 k (Nat.le_refl _) (by omega)
    rw [bynd_at (by omega)] at this
    simp only [Bool.false_eq_true, if_false, Bool.not_eq_false'] at this
    exact KeyOrd.kle_of_klt this
  have m2 := L.m.extA (k := k) (by omega) H.sa (fun x hx y hy => by
    obtain ⟨j, hj, q1, q2, rfl⟩ := mem_cut hx
    obtain ⟨i, hi, q3, rfl⟩ := mem_drop hy
    exact KeyOrd.kle_trans (hle j hj q1 q2) (H.sb.at q3 hi))
  dsimp only
  by_cases hk0 : k > 0
  · rw [if_pos hk0]
    by_cases e2 : ia + k + 1 = a.size
    · rw [if_pos (by simpa using e2)]
      exact wpS_pure ⟨rfl, H.lst m2 e2⟩
    rw [if_neg (by simpa using e2)]
    by_cases e3 : ia + k = a.size
    · rw [if_pos (by simpa using e3)]
      exact wpS_pure ⟨rfl, m2.done H.sa H.sb (.inr e3)⟩
    rw [if_neg (by simpa using e3)]
    exact wpS_loB (st := setG st mg) H hk ⟨m2, by omega, hib⟩ (headLe H.sa (by omega) (hgt (by omega))) (by omega)
  · rw [if_neg hk0]
    have k0 : k = 0 := by omega
    subst k0
    exact wpS_loB (st := setG st mg) H hk L (headLe H.sa (by omega) (hgt (by omega))) hn
def PU (κ : KeyKind) (a b : Array Keyed) (n : Nat) (c : LU) : Prop := match c with
  | (some m, _) => LoOk κ a b m
  | (none, out, ia, ib, _) => LI κ a b out ia ib ∧ n ≤ ia + ib
theorem wpS_lo1 {st : SortSt} {a b out : Array Keyed} {mg ia ib ac bc n : Nat} (H : LoH κ kx prog w A s a b) (hk : kindOf st = kx) (L : LI κ a b out ia ib) (hn : n ≤ ia + ib) : wpS (model prog w) A E s (lo1 a b mg out ia ib ac bc) (fun r st' => st' = st ∧ match r with
    | .done c => PU κ a b (n + 1) c
    | .yield c => c.1 = none ∧ PU κ a b (n + 1) c) st := by
  unfold lo1
  have hia := L.ia
  have hib := L.ib
  refine wpS_bind (wpS_elem L.ib (wpS_bind (wpS_elem (by omega) (wpS_bind (wpS_lt2 H.o hk (H.kb _ (Array.getElem_mem _)) (H.ka _ (Array.getElem_mem _)) ?_)))))
  cases hw : κ.blt (kOf κ (b[ib]'L.ib)) (kOf κ (a[ia]'(by omega))) with
  | true =>
    dsimp only
    rw [if_pos rfl]
    refine wpS_bind (wpS_elem L.ib ?_)
    have m1 := L.m.pushB L.ib H.sb (headLe H.sa (by omega) (KeyOrd.kle_of_klt hw))
    by_cases e : ib + 1 = b.size
    · rw [if_pos (by simpa using e)]
      exact wpS_pure ⟨rfl, m1.done H.sa H.sb (.inl e)⟩
    · rw [if_neg (by simpa using e)]
      have L1 : LI κ a b (out.push (b[ib]'L.ib)) ia (ib + 1) := ⟨m1, hia, by omega⟩
      split
      · exact wpS_pure ⟨rfl, L1, by omega⟩
      · exact wpS_pure ⟨rfl, rfl, L1, by omega⟩
  | false =>
    dsimp only
    rw [if_neg (by decide)]
    refine wpS_bind (wpS_elem (by omega) ?_)
    have m1 := L.m.pushA (by omega) H.sa (headLe H.sb L.ib (show κ.kle _ _ from hw))
    by_cases e : ia + 1 + 1 = a.size
    · rw [if_pos (by simpa using e)]
      exact wpS_pure ⟨rfl, H.lst m1 e⟩
    · rw [if_neg (by simpa using e)]
      have L1 : LI κ a b (out.push a[ia]) (ia + 1) ib := ⟨m1, by omega, hib⟩
      split
      · exact wpS_pure ⟨rfl, L1, by omega⟩
      · exact wpS_pure ⟨rfl, rfl, L1, by omega⟩
theorem wpS_loO {st : SortSt} {a b out : Array Keyed} {ia ib mg n : Nat} (H : LoH κ kx prog w A s a b) (hk : kindOf st = kx) (L : LI κ a b out ia ib) (hn : n ≤ ia + ib) : wpS (model prog w) A E s (loO a b out ia ib mg) (fun r st' => (∃ g, st' = setG st g) ∧ match r with
    | .done c => ∃ m t, c = (some m, t) ∧ LoOk κ a b m
    | .yield c => ∃ out ia ib mg, c = (none, out, ia, ib, mg) ∧ LI κ a b out ia ib ∧ n + 1 ≤ ia + ib) st := by
  unfold loO
  refine wpS_bind (wpS_mono (wpS_forRange (I := fun x c st' => st' = st ∧ c.1 = none ∧ PU κ a b (n + x) c) (Q := fun c st' => st' = st ∧ PU κ a b (n + 1) c) ?step ?fin ⟨rfl, rfl, L, by omega⟩) ?post)
  case step =>
    rintro x ⟨r, out, ia, ib, ac, bc⟩ st' _ hx ⟨rfl, hr, hP⟩
    cases (show r = none from hr)
    obtain ⟨L, hn'⟩ : LI κ a b out ia ib ∧ n + x ≤ ia + ib := hP
    refine wpS_mono (wpS_lo1 H hk L hn') fun r st'' hq => ?_
    obtain ⟨rfl, hq⟩ := hq
    cases r with
    | done c =>
      refine ⟨rfl, ?_⟩
      obtain ⟨r, out2, ia2, ib2, c3⟩ := c
      cases r with
      | some m => exact hq
      | none =>
        obtain ⟨q1, q2⟩ : LI κ a b out2 ia2 ib2 ∧ n + x + 1 ≤ ia2 + ib2 := hq
        exact ⟨q1, by omega⟩
    | yield c => exact ⟨rfl, hq.1, hq.2⟩
  case fin =>
    rintro ⟨r, out, ia, ib, ac, bc⟩ st' ⟨rfl, hr, hP⟩
    cases (show r = none from hr)
    obtain ⟨L, hn'⟩ : LI κ a b out ia ib ∧ n + max 0 (a.size + b.size) ≤ ia + ib := hP
    have := L.ia
    have := L.ib
    omega
  case post =>
    rintro ⟨r, out, ia, ib, ac, bc⟩ st' ⟨rfl, hP⟩
    cases r with
    | some m => exact wpS_pure ⟨⟨gallopOf st', rfl⟩, m, _, rfl, hP⟩
    | none =>
      obtain ⟨L, hn'⟩ : LI κ a b out ia ib ∧ n + 1 ≤ ia + ib := hP
      refine wpS_bind (wpS_lift (wpAny_rule ⟨rfl, ?_⟩))
      dsimp only
      refine wpS_bind (wpS_mono (wpS_forRange (I := fun x c st'' => (∃ g, st'' = setG st' g) ∧ c.1 = none ∧ PTo κ a b (n + 1) c) (Q := fun c st'' => (∃ g, st'' = setG st' g) ∧ PTo κ a b (n + 1) c) ?step2 ?fin2 ⟨⟨gallopOf st', rfl⟩, rfl, L, hn'⟩) ?post2)
      case step2 =>
        rintro x ⟨r, out, ia, ib, mg, ac, bc⟩ st'' _ hx ⟨⟨g, rfl⟩, hr, hP⟩
        cases (show r = none from hr)
        obtain ⟨L, hn'⟩ : LI κ a b out ia ib ∧ n + 1 ≤ ia + ib := hP
        have go : ∀ mg', wpS (model prog w) A E s (loA a b out ia ib mg' ac bc) (fun r st3 => match r with | .done c' => (∃ g, st3 = setG st' g) ∧ PTo κ a b (n + 1) c' | .yield c' => (∃ g, st3 = setG st' g) ∧ c'.1 = none ∧ PTo κ a b (n + 1) c') (setG st' g) := fun mg' => by
          refine wpS_mono (wpS_loA (st := setG st' g) H hk L hn') fun r st3 hq => ?_
          obtain ⟨rfl, hq⟩ := hq
          cases r with
          | done c => exact ⟨⟨mg', rfl⟩, hq⟩
          | yield c => exact ⟨⟨mg', rfl⟩, hq.1, hq.2⟩
        dsimp only
        split
        · exact wpS_mono (go _) fun r st3 h => by cases r <;> exact h
        · exact wpS_mono (go _) fun r st3 h => by cases r <;> exact h
      case fin2 =>
        rintro c st'' ⟨h1, _, h2⟩
        exact ⟨h1, h2⟩
      case post2 =>
        rintro ⟨r, out, ia, ib, mg, ac, bc⟩ st'' ⟨⟨g, rfl⟩, hP⟩
        cases r with
        | some m => exact wpS_pure ⟨⟨g, rfl⟩, m, _, rfl, hP⟩
        | none =>
          obtain ⟨L, hn'⟩ : LI κ a b out ia ib ∧ n + 1 ≤ ia + ib := hP
          exact wpS_bind (wpS_setMG (wpS_pure ⟨⟨_, rfl⟩, out, ia, ib, _, rfl, L, hn'⟩))
theorem wpS_mergeLo {st : SortSt} {a b : Array Keyed} {Q : Array Keyed → SortSt → Prop} (H : LoH κ kx prog w A s a b) (hk : kindOf st = kx) (h1a : 0 < a.size) (h1b : 0 < b.size)
    (h0 : ∀ y ∈ a.toList, κ.kle (kOf κ b[0]) (kOf κ y)) (h : ∀ m g, LoOk κ a b m → Q m (setG st g)) : wpS (model prog w) A E s (mergeLo' a b) Q st := by
  rw [mergeLo'_lo]
  refine wpS_bind (wpS_lift (wpAny_rule ⟨rfl, ?_⟩))
  refine wpS_bind (wpS_elem h1b ?_)
  have m0 : MI κ a.toList b.toList #[b[0]].toList 0 1 := by
    have := MI.pushB (out := #[]) (MI.nil (κ := κ) a.toList b.toList) h1b H.sb (by simpa using h0)
    simpa using this
  by_cases e1 : 1 = b.size
  · rw [if_pos (by simpa using e1)]
    exact wpS_pure (h _ (gallopOf st) (m0.done H.sa H.sb (.inl e1)))
  rw [if_neg (by simpa using e1)]
  by_cases e2 : 0 + 1 = a.size
  · rw [if_pos (by simpa using e2)]
    exact wpS_pure (h _ (gallopOf st) (H.lst m0 e2))
  rw [if_neg (by simpa using e2)]
  refine wpS_bind (wpS_get ?_)
  refine wpS_bind (wpS_mono (wpS_forRange (I := fun x c st' => (∃ g, st' = setG st g) ∧ ∃ out ia ib mg, c = (none, out, ia, ib, mg) ∧ LI κ a b out ia ib ∧ x + 1 ≤ ia + ib) (Q := fun c st' => (∃ g, st' = setG st g) ∧ ∃ m t, c = (some m, t) ∧ LoOk κ a b m) ?step ?fin ⟨⟨gallopOf st, rfl⟩, _, 0, 1, _, rfl, ⟨m0, by omega, by omega⟩, by omega⟩) ?post)
  case step =>
    rintro x c st' _ hx ⟨⟨g, rfl⟩, out, ia, ib, mg, rfl, L, hn⟩
    refine wpS_mono (wpS_loO (st := setG st g) H hk L hn) fun r st'' hq => ?_
    obtain ⟨⟨g', rfl⟩, hq⟩ := hq
    cases r with
    | done c => exact ⟨⟨g', rfl⟩, hq⟩
    | yield c => exact ⟨⟨g', rfl⟩, hq⟩
  case fin =>
    rintro c st' ⟨_, out, ia, ib, mg, rfl, L, hn⟩
    have := L.ia
    have := L.ib
    omega
  case post =>
    rintro c st' ⟨⟨g, rfl⟩, m, t, rfl, hm⟩
    exact wpS_pure (h m g hm)
end
end L2
set_option Elab.async false
set_option linter.all false
set_option maxRecDepth 100000
set_option maxHeartbeats 4000000
namespace L2
open PySem PySem.Spec PyProof.Rows
section
variable {prog : Program} {w : World} {A : Around} {E : Value → Shared → Prop} {s : Shared} {κ : KeyKind} {kx : SortKind}
def mergeHi' : Array Keyed → Array Keyed → StateT SortSt Sem (Array Keyed) := sortPriv% PySem.Builtin.mergeHi
theorem mergeHi'_eq (a b : Array Keyed) : mergeHi' a b = (do
  rule "list.sort.merge-hi"
  let total := a.size + b.size
  let done (out : Array Keyed) (na nb : Nat) := a.extract 0 na ++ b.extract 0 nb ++ out.reverse
  let firstOfB (out : Array Keyed) (na nb : Nat) := b.extract 0 nb ++ a.extract 0 na ++ out.reverse
  let mut na := a.size - 1
  let mut nb := b.size
  let mut out : Array Keyed := #[← elem' a na]
  if na == 0 then return done out na nb
  if nb == 1 then return firstOfB out na nb
  let mut minGallop := gallopOf (← get)
  for _ in [0:total] do
    let mut acount := 0
    let mut bcount := 0
    for _ in [0:total] do
      let some aWins ← lt' (← elem' b (nb - 1)) (← elem' a (na - 1)) | return done out na nb
      if aWins then
        na := na - 1; out := out.push (← elem' a na); acount := acount + 1; bcount := 0
        if na == 0 then return done out na nb
        if acount ≥ minGallop then break
      else
        nb := nb - 1; out := out.push (← elem' b nb); bcount := bcount + 1; acount := 0
        if nb == 1 then return firstOfB out na nb
        if bcount ≥ minGallop then break
    rule "list.sort.gallop"
    minGallop := minGallop + 1
    for _ in [0:total] do
      if minGallop > 1 then minGallop := minGallop - 1
      setMG minGallop
      let some at_ ← gallop' false (← elem' b (nb - 1)) a 0 na (na - 1) | return done out na nb
      let k := na - at_
      acount := k
      if k > 0 then
        out := out ++ (a.extract at_ na).reverse; na := at_
        if na == 0 then return done out na nb
      nb := nb - 1; out := out.push (← elem' b nb)
      if nb == 1 then return firstOfB out na nb
      let some at_ ← gallop' true (← elem' a (na - 1)) b 0 nb (nb - 1) | return done out na nb
      let k := nb - at_
      bcount := k
      if k > 0 then
        out := out ++ (b.extract at_ nb).reverse; nb := at_
        if nb == 1 then return firstOfB out na nb
        if nb == 0 then return done out na nb
      na := na - 1; out := out.push (← elem' a na)
      if na == 0 then return done out na nb
      if acount < 7 && bcount < 7 then break
    minGallop := minGallop + 1
    setMG minGallop
  unsupported "internal:list.sort.merge-bound") := rfl
structure MH (κ : KeyKind) (a b O : List Keyed) (na nb : Nat) : Prop where
  ha : na ≤ a.length
  hb : nb ≤ b.length
  perm : O.Perm (a.drop na ++ b.drop nb)
  srt : Srt κ O
  le : ∀ x ∈ a.take na ++ b.take nb, ∀ y ∈ O, κ.kle (kOf κ x) (kOf κ y)
theorem MH.swap {a b O : List Keyed} {na nb : Nat} (h : MH κ a b O na nb) : MH κ b a O nb na :=
  ⟨h.hb, h.ha, h.perm.trans List.perm_append_comm, h.srt, fun x hx y hy => h.le x (by rw [List.mem_append] at hx ⊢; exact hx.symm) y hy⟩
theorem MH.addA {a b O : List Keyed} {na nb m : Nat} (h : MH κ a b O na nb) (hm : m ≤ na) (sa : Srt κ a) (hle : ∀ x ∈ b.take nb, ∀ y ∈ (a.take na).drop m, κ.kle (kOf κ x) (kOf κ y)) : MH κ a b ((a.take na).drop m ++ O) m nb := by
  have hna := h.ha
  have ed : a.drop m = (a.take na).drop m ++ a.drop na := by
    conv => lhs; rw [← List.take_append_drop na a]
    rw [List.drop_append_of_le_length (by rw [List.length_take]; omega)]
  have et : a.take na = a.take m ++ (a.take na).drop m := by
    conv => lhs; rw [← List.take_append_drop m (a.take na)]
    rw [List.take_take, Nat.min_eq_left hm]
  have st : Srt κ (a.take m ++ (a.take na).drop m) := by rw [← et]; exact sa.take
  obtain ⟨s1, s2, s3⟩ := List.pairwise_append.mp st
  refine ⟨by omega, h.hb, ?_, List.pairwise_append.mpr ⟨s2, h.srt, fun x hx y hy => h.le x (List.mem_append_left _ (List.mem_of_mem_drop hx)) y hy⟩, fun x hx y hy => ?_⟩
  · rw [ed, List.append_assoc]
    exact List.Perm.append_left _ h.perm
  · rcases List.mem_append.mp hy with hy | hy
    · rcases List.mem_append.mp hx with hx | hx
      · exact s3 x hx y hy
      · exact hle x hx y hy
    · refine h.le x ?_ y hy
      rcases List.mem_append.mp hx with hx | hx
      · refine List.mem_append_left _ ?_
        rw [et]
        exact List.mem_append_left _ hx
      · exact List.mem_append_right _ hx
theorem MH.fin {a b O r : List Keyed} {na nb : Nat} (h : MH κ a b O na nb) (hr : r.Perm (a.take na ++ b.take nb)) (sr : Srt κ r) : Mg κ a b (r ++ O) := by
  refine ⟨?_, List.pairwise_append.mpr ⟨sr, h.srt, fun x hx y hy => h.le x (hr.mem_iff.mp hx) y hy⟩⟩
  refine ((hr.append_right _).trans (List.Perm.append_left _ h.perm)).trans ?_
  conv => rhs; rw [← List.take_append_drop na a, ← List.take_append_drop nb b]
  rw [List.append_assoc, List.append_assoc]
  refine List.Perm.append_left _ ?_
  rw [← List.append_assoc, ← List.append_assoc]
  exact List.Perm.append_right _ List.perm_append_comm
theorem ext_take (a : Array Keyed) (n : Nat) : (a.extract 0 n).toList = a.toList.take n := by
  rw [ext_list]; simp
theorem MH.done {a b out : Array Keyed} {na nb : Nat} (h : MH κ a.toList b.toList out.toList.reverse na nb) (sa : Srt κ a.toList) (sb : Srt κ b.toList) (he : na = 0 ∨ nb = 0) : LoOk κ a b (a.extract 0 na ++ b.extract 0 nb ++ out.reverse) := by
  have e : (a.extract 0 na ++ b.extract 0 nb ++ out.reverse).toList = (a.toList.take na ++ b.toList.take nb) ++ out.toList.reverse := by
    rw [Array.toList_append, Array.toList_append, ext_take, ext_take, Array.toList_reverse]
  show Mg κ _ _ _
  rw [e]
  refine h.fin (List.Perm.refl _) ?_
  rcases he with rfl | rfl
  · simpa using sb.take
  · simpa using sa.take
theorem MH.firstB {a b out : Array Keyed} {na nb : Nat} (h : MH κ a.toList b.toList out.toList.reverse na nb) (sa : Srt κ a.toList) (he : nb = 1) (h0 : ∀ x ∈ b.toList.take 1, ∀ y ∈ a.toList, κ.kle (kOf κ x) (kOf κ y)) : LoOk κ a b (b.extract 0 nb ++ a.extract 0 na ++ out.reverse) := by
  have e : (b.extract 0 nb ++ a.extract 0 na ++ out.reverse).toList = (b.toList.take nb ++ a.toList.take na) ++ out.toList.reverse := by
    rw [Array.toList_append, Array.toList_append, ext_take, ext_take, Array.toList_reverse]
  show Mg κ _ _ _
  rw [e]
  refine h.fin List.perm_append_comm ?_
  subst he
  refine List.pairwise_append.mpr ⟨?_, sa.take, fun x hx y hy => h0 x hx y (List.mem_of_mem_take hy)⟩
  cases b.toList with
  | nil => exact List.Pairwise.nil
  | cons x l => exact List.pairwise_singleton _ _
theorem take_last {a : Array Keyed} {i : Nat} (h0 : 0 < i) (h : i ≤ a.size) : (a.toList.take i).drop (i - 1) = [a[i - 1]] := by
  have e : a.toList.take i = a.toList.take (i - 1) ++ [a[i - 1]] := by
    have := List.take_add_one (l := a.toList) (i := i - 1)
    rw [show i - 1 + 1 = i by omega] at this
    rw [this]
    simp [show i - 1 < a.size by omega]
  rw [e, List.drop_left' (by rw [List.length_take]; simp; omega)]
theorem MH.pushA {a b out : Array Keyed} {na nb : Nat} (h : MH κ a.toList b.toList out.toList.reverse na nb) (hi : 0 < na) (hs : na ≤ a.size) (sa : Srt κ a.toList) (hle : ∀ x ∈ b.toList.take nb, κ.kle (kOf κ x) (kOf κ a[na - 1])) : MH κ a.toList b.toList (out.push a[na - 1]).toList.reverse (na - 1) nb := by
  have := h.addA (m := na - 1) (by omega) sa (by rw [take_last hi hs]; intro x hx y hy; rw [List.mem_singleton.mp hy]; exact hle x hx)
  rw [take_last hi hs] at this
  simpa using this
theorem MH.pushB {a b out : Array Keyed} {na nb : Nat} (h : MH κ a.toList b.toList out.toList.reverse na nb) (hi : 0 < nb) (hs : nb ≤ b.size) (sb : Srt κ b.toList) (hle : ∀ x ∈ a.toList.take na, κ.kle (kOf κ x) (kOf κ b[nb - 1])) : MH κ a.toList b.toList (out.push b[nb - 1]).toList.reverse na (nb - 1) :=
  (h.swap.pushA hi hs sb hle).swap
theorem MH.extA {a b out : Array Keyed} {na nb m : Nat} (h : MH κ a.toList b.toList out.toList.reverse na nb) (hm : m ≤ na) (sa : Srt κ a.toList) (hle : ∀ x ∈ b.toList.take nb, ∀ y ∈ (a.toList.take na).drop m, κ.kle (kOf κ x) (kOf κ y)) : MH κ a.toList b.toList (out ++ (a.extract m na).reverse).toList.reverse m nb := by
  have := h.addA hm sa hle
  have e : (out ++ (a.extract m na).reverse).toList.reverse = (a.toList.take na).drop m ++ out.toList.reverse := by
    rw [Array.toList_append, Array.toList_reverse, List.reverse_append, List.reverse_reverse, ext_list, List.drop_take]
  rw [e]
  exact this
theorem MH.extB {a b out : Array Keyed} {na nb m : Nat} (h : MH κ a.toList b.toList out.toList.reverse na nb) (hm : m ≤ nb) (sb : Srt κ b.toList) (hle : ∀ x ∈ a.toList.take na, ∀ y ∈ (b.toList.take nb).drop m, κ.kle (kOf κ x) (kOf κ y)) : MH κ a.toList b.toList (out ++ (b.extract m nb).reverse).toList.reverse na m :=
  (h.swap.extA hm sb hle).swap
theorem mem_take {a : Array Keyed} {i : Nat} {y : Keyed} (h : y ∈ a.toList.take i) : ∃ j, ∃ hj : j < a.size, j < i ∧ y = a[j] := by
  obtain ⟨m, hm, e⟩ := List.getElem_of_mem h
  rw [List.length_take] at hm
  refine ⟨m, by simpa using (by omega : m < a.toList.length), by omega, ?_⟩
  rw [← e]
  simp
theorem mem_tcut {a : Array Keyed} {i m : Nat} {y : Keyed} (h : y ∈ (a.toList.take i).drop m) : ∃ j, ∃ hj : j < a.size, m ≤ j ∧ j < i ∧ y = a[j] := by
  obtain ⟨k, hk, e⟩ := List.getElem_of_mem h
  rw [List.length_drop, List.length_take] at hk
  refine ⟨m + k, by simpa using (by omega : m + k < a.toList.length), by omega, by omega, ?_⟩
  rw [← e]
  simp
abbrev HT' := Option (Array Keyed) × Nat × Nat × Array Keyed × Nat × Nat × Nat
abbrev HU := Option (Array Keyed) × Nat × Nat × Array Keyed × Nat × Nat
abbrev HV := Option (Array Keyed) × Nat × Nat × Array Keyed × Nat
def hiC (a b out : Array Keyed) (na nb mg ac bc : Nat) : StateT SortSt Sem (ForInStep HT') := do
  let x ← elem' a (na - 1)
  if (na - 1 == 0) = true then pure (.done (some (a.extract 0 (na - 1) ++ b.extract 0 nb ++ (out.push x).reverse), na - 1, nb, out.push x, mg, ac, bc))
  else if (decide (ac < 7) && decide (bc < 7)) = true then pure (.done (none, na - 1, nb, out.push x, mg, ac, bc))
  else pure (.yield (none, na - 1, nb, out.push x, mg, ac, bc))
def hiB (a b out : Array Keyed) (na nb mg ac bc : Nat) : StateT SortSt Sem (ForInStep HT') := do
  let x ← elem' b (nb - 1)
  if (nb - 1 == 1) = true then pure (.done (some (b.extract 0 (nb - 1) ++ a.extract 0 na ++ (out.push x).reverse), na, nb - 1, out.push x, mg, ac, bc))
  else do
    let y ← elem' a (na - 1)
    let r ← gallop' true y b 0 (nb - 1) (nb - 1 - 1)
    match r with
    | some at_ =>
      if nb - 1 - at_ > 0 then
        if (at_ == 1) = true then pure (.done (some (b.extract 0 at_ ++ a.extract 0 na ++ (out.push x ++ (b.extract at_ (nb - 1)).reverse).reverse), na, at_, out.push x ++ (b.extract at_ (nb - 1)).reverse, mg, ac, nb - 1 - at_))
        else if (at_ == 0) = true then pure (.done (some (a.extract 0 na ++ b.extract 0 at_ ++ (out.push x ++ (b.extract at_ (nb - 1)).reverse).reverse), na, at_, out.push x ++ (b.extract at_ (nb - 1)).reverse, mg, ac, nb - 1 - at_))
        else hiC a b (out.push x ++ (b.extract at_ (nb - 1)).reverse) na at_ mg ac (nb - 1 - at_)
      else hiC a b (out.push x) na (nb - 1) mg ac (nb - 1 - at_)
    | _ => pure (.done (some (a.extract 0 na ++ b.extract 0 (nb - 1) ++ (out.push x).reverse), na, nb - 1, out.push x, mg, ac, bc))
def hiA (a b out : Array Keyed) (na nb mg ac bc : Nat) : StateT SortSt Sem (ForInStep HT') := do
  setMG mg
  let x ← elem' b (nb - 1)
  let r ← gallop' false x a 0 na (na - 1)
  match r with
  | some at_ =>
    if na - at_ > 0 then
      if (at_ == 0) = true then pure (.done (some (a.extract 0 at_ ++ b.extract 0 nb ++ (out ++ (a.extract at_ na).reverse).reverse), at_, nb, out ++ (a.extract at_ na).reverse, mg, na - at_, bc))
      else hiB a b (out ++ (a.extract at_ na).reverse) at_ nb mg (na - at_) bc
    else hiB a b out na nb mg (na - at_) bc
  | _ => pure (.done (some (a.extract 0 na ++ b.extract 0 nb ++ out.reverse), na, nb, out, mg, ac, bc))
def hi1 (a b : Array Keyed) (mg na nb : Nat) (out : Array Keyed) (ac bc : Nat) : StateT SortSt Sem (ForInStep HU) := do
  let x ← elem' b (nb - 1)
  let y ← elem' a (na - 1)
  let r ← lt' x y
  match r with
  | some w =>
    if w = true then do
      let y ← elem' a (na - 1)
      if (na - 1 == 0) = true then pure (.done (some (a.extract 0 (na - 1) ++ b.extract 0 nb ++ (out.push y).reverse), na - 1, nb, out.push y, ac + 1, 0))
      else if ac + 1 ≥ mg then pure (.done (none, na - 1, nb, out.push y, ac + 1, 0)) else pure (.yield (none, na - 1, nb, out.push y, ac + 1, 0))
    else do
      let x ← elem' b (nb - 1)
      if (nb - 1 == 1) = true then pure (.done (some (b.extract 0 (nb - 1) ++ a.extract 0 na ++ (out.push x).reverse), na, nb - 1, out.push x, 0, bc + 1))
      else if bc + 1 ≥ mg then pure (.done (none, na, nb - 1, out.push x, 0, bc + 1)) else pure (.yield (none, na, nb - 1, out.push x, 0, bc + 1))
  | _ => pure (.done (some (a.extract 0 na ++ b.extract 0 nb ++ out.reverse), na, nb, out, ac, bc))
def hiO (a b : Array Keyed) (na nb : Nat) (out : Array Keyed) (mg : Nat) : StateT SortSt Sem (ForInStep HV) := do
  let t ← forIn [:a.size + b.size] ((none, na, nb, out, 0, 0) : HU) fun _ t => hi1 a b mg t.2.1 t.2.2.1 t.2.2.2.1 t.2.2.2.2.1 t.2.2.2.2.2
  match t.1 with
  | some r => pure (.done (some r, t.2.1, t.2.2.1, t.2.2.2.1, mg))
  | none => do
    liftM (rule "list.sort.gallop")
    let t ← forIn [:a.size + b.size] ((none, t.2.1, t.2.2.1, t.2.2.2.1, mg + 1, t.2.2.2.2.1, t.2.2.2.2.2) : HT') fun _ t =>
      if t.2.2.2.2.1 > 1 then hiA a b t.2.2.2.1 t.2.1 t.2.2.1 (t.2.2.2.2.1 - 1) t.2.2.2.2.2.1 t.2.2.2.2.2.2 else hiA a b t.2.2.2.1 t.2.1 t.2.2.1 t.2.2.2.2.1 t.2.2.2.2.2.1 t.2.2.2.2.2.2
    match t.1 with
    | some r => pure (.done (some r, t.2.1, t.2.2.1, t.2.2.2.1, t.2.2.2.2.1))
    | none => do
      setMG (t.2.2.2.2.1 + 1)
      pure (.yield (none, t.2.1, t.2.2.1, t.2.2.2.1, t.2.2.2.2.1 + 1))
theorem mergeHi'_hi (a b : Array Keyed) : mergeHi' a b = (do
  liftM (rule "list.sort.merge-hi")
  let x ← elem' a (a.size - 1)
  if (a.size - 1 == 0) = true then pure (a.extract 0 (a.size - 1) ++ b.extract 0 b.size ++ #[x].reverse)
  else if (b.size == 1) = true then pure (b.extract 0 b.size ++ a.extract 0 (a.size - 1) ++ #[x].reverse)
  else do
    let st ← get
    let t ← forIn [:a.size + b.size] ((none, a.size - 1, b.size, #[x], gallopOf st) : HV) fun _ t => hiO a b t.2.1 t.2.2.1 t.2.2.2.1 t.2.2.2.2
    match t.1 with
    | some r => pure r
    | none => unsupported "internal:list.sort.merge-bound") := by
  rw [mergeHi'_eq]
  dsimp only
  congr 1
  funext _
  congr 1
  funext x
  congr 1
  congr 1
  congr 1
  funext st
  congr 1
  · congr 1
    funext _ t
    unfold hiO
    congr 1
    funext t1
    obtain ⟨r1, na1, nb1, out1, ac1, bc1⟩ := t1
    cases r1 with
    | some r => rfl
    | none =>
      dsimp only
      congr 1
      funext _
      congr 1
      funext t2
      obtain ⟨r2, _⟩ := t2
      cases r2 <;> rfl
  · funext t
    obtain ⟨r1, _⟩ := t
    cases r1 <;> rfl
structure HiH (κ : KeyKind) (kx : SortKind) (prog : Program) (w : World) (A : Around) (s : Shared) (a b : Array Keyed) : Prop where
  o : LtAt κ kx prog w A s
  ka : ∀ x ∈ a, Kd κ x
  kb : ∀ x ∈ b, Kd κ x
  sa : Srt κ a.toList
  sb : Srt κ b.toList
  z : ∀ x ∈ b.toList.take 1, ∀ y ∈ a.toList, κ.kle (kOf κ x) (kOf κ y)
theorem lastLe {a : Array Keyed} {i : Nat} {y : Keyed} (sa : Srt κ a.toList) (h0 : 0 < i) (hi : i ≤ a.size) (h : κ.kle (kOf κ a[i - 1]) (kOf κ y)) : ∀ x ∈ a.toList.take i, κ.kle (kOf κ x) (kOf κ y) := fun x hx => by
  obtain ⟨j, hj, hij, rfl⟩ := mem_take hx
  exact KeyOrd.kle_trans (sa.at (i := j) (j := i - 1) (by omega) (by omega)) h
structure HI (κ : KeyKind) (a b out : Array Keyed) (na nb : Nat) : Prop where
  m : MH κ a.toList b.toList out.toList.reverse na nb
  na : 1 ≤ na
  nb : 2 ≤ nb
theorem HI.sa {a b out : Array Keyed} {na nb : Nat} (h : HI κ a b out na nb) : na ≤ a.size := by have := h.m.ha; simpa using this
theorem HI.sb {a b out : Array Keyed} {na nb : Nat} (h : HI κ a b out na nb) : nb ≤ b.size := by have := h.m.hb; simpa using this
def PHT (κ : KeyKind) (a b : Array Keyed) (n : Nat) (c : HT') : Prop := match c with
  | (some m, _) => LoOk κ a b m
  | (none, na, nb, out, _) => HI κ a b out na nb ∧ na + nb + n ≤ a.size + b.size
def QHT (κ : KeyKind) (a b : Array Keyed) (n : Nat) (r : ForInStep HT') : Prop := match r with
  | .done c => PHT κ a b n c
  | .yield c => c.1 = none ∧ PHT κ a b n c
theorem wpS_hiC {st : SortSt} {a b out : Array Keyed} {na nb mg ac bc n : Nat} (H : HiH κ kx prog w A s a b) (L : HI κ a b out na nb) (hle : ∀ x ∈ b.toList.take nb, κ.kle (kOf κ x) (kOf κ (a[na - 1]'(by have := L.sa; have := L.na; omega)))) (hn : na + nb + n ≤ a.size + b.size) : wpS (model prog w) A E s (hiC a b out na nb mg ac bc) (fun r st' => st' = st ∧ QHT κ a b n r) st := by
  unfold hiC
  have hna := L.na
  have hsa := L.sa
  refine wpS_bind (wpS_elem (by omega) ?_)
  have m1 := L.m.pushA (by omega) hsa H.sa hle
  by_cases e : na - 1 = 0
  · rw [if_pos (by simpa using e)]
    exact wpS_pure ⟨rfl, m1.done H.sa H.sb (.inl e)⟩
  · rw [if_neg (by simpa using e)]
    have L1 : HI κ a b (out.push a[na - 1]) (na - 1) nb := ⟨m1, by omega, L.nb⟩
    split
    · exact wpS_pure ⟨rfl, L1, by omega⟩
    · exact wpS_pure ⟨rfl, rfl, L1, by omega⟩
theorem wpS_hiB {st : SortSt} {a b out : Array Keyed} {na nb mg ac bc n : Nat} (H : HiH κ kx prog w A s a b) (hk : kindOf st = kx) (L : HI κ a b out na nb) (hle : ∀ x ∈ a.toList.take na, κ.kle (kOf κ x) (kOf κ (b[nb - 1]'(by have := L.sb; have := L.nb; omega)))) (hn : na + nb + n ≤ a.size + b.size) : wpS (model prog w) A E s (hiB a b out na nb mg ac bc) (fun r st' => st' = st ∧ QHT κ a b n r) st := by
  unfold hiB
  have hna := L.na
  have hnb := L.nb
  have hsa := L.sa
  have hsb := L.sb
  refine wpS_bind (wpS_elem (by omega) ?_)
  have m1 := L.m.pushB (by omega) hsb H.sb hle
  by_cases e : nb - 1 = 1
  · rw [if_pos (by simpa using e)]
    exact wpS_pure ⟨rfl, m1.firstB H.sa e H.z⟩
  rw [if_neg (by simpa using e)]
  refine wpS_bind (wpS_elem (by omega) (wpS_bind (wpS_gallop H.o hk (H.ka _ (Array.getElem_mem _)) H.kb (by omega) (by omega) (bynd_mono (by omega) H.sb) fun k hk1 h1 h2 => ?_)))
  have hlt : ∀ j (hj : j < b.size), j < k → κ.kle (kOf κ b[j]) (kOf κ (a[na - 1]'(by omega))) := fun j hj q2 => by
    have := h1 j q2
    rw [bynd_at (by omega)] at this
    simp only [if_true, Nat.zero_add] at this
    exact KeyOrd.kle_of_klt this
  have hge : ∀ j (hj : j < b.size), k ≤ j → j < nb - 1 → κ.kle (kOf κ (a[na - 1]'(by omega))) (kOf κ b[j]) := fun j hj q1 q2 => by
    have := h2 j q1 q2
    rw [bynd_at (by omega)] at this
    show κ.blt _ _ = false
    simpa using this
  have m2 := m1.extB (m := k) hk1 H.sb (fun x hx y hy => by
    obtain ⟨j, hj, q1, q2, rfl⟩ := mem_tcut hy
    obtain ⟨i, hi, q3, rfl⟩ := mem_take hx
    exact KeyOrd.kle_trans (H.sa.at (i := i) (j := na - 1) (by omega) (by omega)) (hge j hj q1 q2))
  have hx : ∀ {m : Nat}, m ≤ k → ∀ x ∈ b.toList.take m, κ.kle (kOf κ x) (kOf κ (a[na - 1]'(by omega))) := fun {m} hm x hx => by
    obtain ⟨j, hj, q, rfl⟩ := mem_take hx
    exact hlt j hj (by omega)
  dsimp only
  by_cases hk0 : nb - 1 - k > 0
  · rw [if_pos hk0]
    by_cases e2 : k = 1
    · rw [if_pos (by simpa using e2)]
      exact wpS_pure ⟨rfl, m2.firstB H.sa e2 H.z⟩
    rw [if_neg (by simpa using e2)]
    by_cases e3 : k = 0
    · rw [if_pos (by simpa using e3)]
      exact wpS_pure ⟨rfl, m2.done H.sa H.sb (.inr e3)⟩
    rw [if_neg (by simpa using e3)]
    exact wpS_hiC H ⟨m2, hna, by omega⟩ (hx (Nat.le_refl _)) (by omega)
  · rw [if_neg hk0]
    exact wpS_hiC H ⟨m1, hna, by omega⟩ (hx (by omega)) (by omega)
theorem wpS_hiA {st : SortSt} {a b out : Array Keyed} {na nb mg ac bc n : Nat} (H : HiH κ kx prog w A s a b) (hk : kindOf st = kx) (L : HI κ a b out na nb) (hn : na + nb + n ≤ a.size + b.size) : wpS (model prog w) A E s (hiA a b out na nb mg ac bc) (fun r st' => st' = setG st mg ∧ QHT κ a b n r) st := by
  unfold hiA
  have hna := L.na
  have hnb := L.nb
  have hsa := L.sa
  have hsb := L.sb
  refine wpS_bind (wpS_setMG (wpS_bind (wpS_elem (by omega) (wpS_bind (wpS_gallop (st := setG st mg) H.o hk (H.kb _ (Array.getElem_mem _)) H.ka (by omega) (by omega) (bynd_mono (by omega) H.sa) fun k hk1 h1 h2 => ?_)))))
  have hle : ∀ j (hj : j < a.size), j < k → κ.kle (kOf κ a[j]) (kOf κ (b[nb - 1]'(by omega))) := fun j hj q2 => by
    have := h1 j q2
    rw [bynd_at (by omega)] at this
    simp only [Bool.false_eq_true, if_false, Bool.not_eq_true', Nat.zero_add] at this
    exact this
  have hgt : ∀ j (hj : j < a.size), k ≤ j → j < na → κ.kle (kOf κ (b[nb - 1]'(by omega))) (kOf κ a[j]) := fun j hj q1 q2 => by
    have := h2 j q1 q2
    rw [bynd_at (by omega)] at this
    simp only [Bool.false_eq_true, if_false, Bool.not_eq_false', Nat.zero_add] at this
    exact KeyOrd.kle_of_klt this
  have m2 := L.m.extA (m := k) hk1 H.sa (fun x hx y hy => by
    obtain ⟨j, hj, q1, q2, rfl⟩ := mem_tcut hy
    obtain ⟨i, hi, q3, rfl⟩ := mem_take hx
    exact KeyOrd.kle_trans (H.sb.at (i := i) (j := nb - 1) (by omega) (by omega)) (hgt j hj q1 q2))
  have hx : ∀ {m : Nat}, m ≤ k → ∀ x ∈ a.toList.take m, κ.kle (kOf κ x) (kOf κ (b[nb - 1]'(by omega))) := fun {m} hm x hx => by
    obtain ⟨j, hj, q, rfl⟩ := mem_take hx
    exact hle j hj (by omega)
  dsimp only
  by_cases hk0 : na - k > 0
  · rw [if_pos hk0]
    by_cases e2 : k = 0
    · rw [if_pos (by simpa using e2)]
      exact wpS_pure ⟨rfl, m2.done H.sa H.sb (.inl e2)⟩
    rw [if_neg (by simpa using e2)]
    exact wpS_hiB (st := setG st mg) H hk ⟨m2, by omega, hnb⟩ (hx (Nat.le_refl _)) (by omega)
  · rw [if_neg hk0]
    exact wpS_hiB (st := setG st mg) H hk L (hx (by omega)) hn
def PHU (κ : KeyKind) (a b : Array Keyed) (n : Nat) (c : HU) : Prop := match c with
  | (some m, _) => LoOk κ a b m
  | (none, na, nb, out, _) => HI κ a b out na nb ∧ na + nb + n ≤ a.size + b.size
theorem wpS_hi1 {st : SortSt} {a b out : Array Keyed} {mg na nb ac bc n : Nat} (H : HiH κ kx prog w A s a b) (hk : kindOf st = kx) (L : HI κ a b out na nb) (hn : na + nb + n ≤ a.size + b.size) : wpS (model prog w) A E s (hi1 a b mg na nb out ac bc) (fun r st' => st' = st ∧ match r with
    | .done c => PHU κ a b (n + 1) c
    | .yield c => c.1 = none ∧ PHU κ a b (n + 1) c) st := by
  unfold hi1
  have hna := L.na
  have hnb := L.nb
  have hsa := L.sa
  have hsb := L.sb
  refine wpS_bind (wpS_elem (by omega) (wpS_bind (wpS_elem (by omega) (wpS_bind (wpS_lt2 H.o hk (H.kb _ (Array.getElem_mem _)) (H.ka _ (Array.getElem_mem _)) ?_)))))
  cases hw : κ.blt (kOf κ (b[nb - 1]'(by omega))) (kOf κ (a[na - 1]'(by omega))) with
  | true =>
    dsimp only
    rw [if_pos rfl]
    refine wpS_bind (wpS_elem (by omega) ?_)
    have m1 := L.m.pushA (by omega) hsa H.sa (lastLe H.sb (by omega) hsb (KeyOrd.kle_of_klt hw))
    by_cases e : na - 1 = 0
    · rw [if_pos (by simpa using e)]
      exact wpS_pure ⟨rfl, m1.done H.sa H.sb (.inl e)⟩
    · rw [if_neg (by simpa using e)]
      have L1 : HI κ a b (out.push a[na - 1]) (na - 1) nb := ⟨m1, by omega, hnb⟩
      split
      · exact wpS_pure ⟨rfl, L1, by omega⟩
      · exact wpS_pure ⟨rfl, rfl, L1, by omega⟩
  | false =>
    dsimp only
    rw [if_neg (by decide)]
    refine wpS_bind (wpS_elem (by omega) ?_)
    have m1 := L.m.pushB (by omega) hsb H.sb (lastLe H.sa (by omega) hsa (show κ.kle _ _ from hw))
    by_cases e : nb - 1 = 1
    · rw [if_pos (by simpa using e)]
      exact wpS_pure ⟨rfl, m1.firstB H.sa e H.z⟩
    · rw [if_neg (by simpa using e)]
      have L1 : HI κ a b (out.push b[nb - 1]) na (nb - 1) := ⟨m1, hna, by omega⟩
      split
      · exact wpS_pure ⟨rfl, L1, by omega⟩
      · exact wpS_pure ⟨rfl, rfl, L1, by omega⟩
theorem wpS_hiO {st : SortSt} {a b out : Array Keyed} {na nb mg n : Nat} (H : HiH κ kx prog w A s a b) (hk : kindOf st = kx) (L : HI κ a b out na nb) (hn : na + nb + n ≤ a.size + b.size) : wpS (model prog w) A E s (hiO a b na nb out mg) (fun r st' => (∃ g, st' = setG st g) ∧ match r with
    | .done c => ∃ m t, c = (some m, t) ∧ LoOk κ a b m
    | .yield c => ∃ na nb out mg, c = (none, na, nb, out, mg) ∧ HI κ a b out na nb ∧ na + nb + (n + 1) ≤ a.size + b.size) st := by
  unfold hiO
  refine wpS_bind (wpS_mono (wpS_forRange (I := fun x c st' => st' = st ∧ c.1 = none ∧ PHU κ a b (n + x) c) (Q := fun c st' => st' = st ∧ PHU κ a b (n + 1) c) ?step ?fin ⟨rfl, rfl, L, by omega⟩) ?post)
  case step =>
    rintro x ⟨r, na, nb, out, ac, bc⟩ st' _ hx ⟨rfl, hr, hP⟩
    cases (show r = none from hr)
    obtain ⟨L, hn'⟩ : HI κ a b out na nb ∧ na + nb + (n + x) ≤ a.size + b.size := hP
    refine wpS_mono (wpS_hi1 H hk L hn') fun r st'' hq => ?_
    obtain ⟨rfl, hq⟩ := hq
    cases r with
    | done c =>
      refine ⟨rfl, ?_⟩
      obtain ⟨r, na2, nb2, out2, c3⟩ := c
      cases r with
      | some m => exact hq
      | none =>
        obtain ⟨q1, q2⟩ : HI κ a b out2 na2 nb2 ∧ na2 + nb2 + (n + x + 1) ≤ a.size + b.size := hq
        exact ⟨q1, by omega⟩
    | yield c => exact ⟨rfl, hq.1, hq.2⟩
  case fin =>
    rintro ⟨r, na, nb, out, ac, bc⟩ st' ⟨rfl, hr, hP⟩
    cases (show r = none from hr)
    obtain ⟨L, hn'⟩ : HI κ a b out na nb ∧ na + nb + (n + max 0 (a.size + b.size)) ≤ a.size + b.size := hP
    have := L.na
    have := L.nb
    omega
  case post =>
    rintro ⟨r, na, nb, out, ac, bc⟩ st' ⟨rfl, hP⟩
    cases r with
    | some m => exact wpS_pure ⟨⟨gallopOf st', rfl⟩, m, _, rfl, hP⟩
    | none =>
      obtain ⟨L, hn'⟩ : HI κ a b out na nb ∧ na + nb + (n + 1) ≤ a.size + b.size := hP
      refine wpS_bind (wpS_lift (wpAny_rule ⟨rfl, ?_⟩))
      dsimp only
      refine wpS_bind (wpS_mono (wpS_forRange (I := fun x c st'' => (∃ g, st'' = setG st' g) ∧ c.1 = none ∧ PHT κ a b (n + 1) c) (Q := fun c st'' => (∃ g, st'' = setG st' g) ∧ PHT κ a b (n + 1) c) ?step2 ?fin2 ⟨⟨gallopOf st', rfl⟩, rfl, L, hn'⟩) ?post2)
      case step2 =>
        rintro x ⟨r, na, nb, out, mg, ac, bc⟩ st'' _ hx ⟨⟨g, rfl⟩, hr, hP⟩
        cases (show r = none from hr)
        obtain ⟨L, hn'⟩ : HI κ a b out na nb ∧ na + nb + (n + 1) ≤ a.size + b.size := hP
        have go : ∀ mg', wpS (model prog w) A E s (hiA a b out na nb mg' ac bc) (fun r st3 => match r with | .done c' => (∃ g, st3 = setG st' g) ∧ PHT κ a b (n + 1) c' | .yield c' => (∃ g, st3 = setG st' g) ∧ c'.1 = none ∧ PHT κ a b (n + 1) c') (setG st' g) := fun mg' => by
          refine wpS_mono (wpS_hiA (st := setG st' g) H hk L hn') fun r st3 hq => ?_
          obtain ⟨rfl, hq⟩ := hq
          cases r with
          | done c => exact ⟨⟨mg', rfl⟩, hq⟩
          | yield c => exact ⟨⟨mg', rfl⟩, hq.1, hq.2⟩
        dsimp only
        split
        · exact wpS_mono (go _) fun r st3 h => by cases r <;> exact h
        · exact wpS_mono (go _) fun r st3 h => by cases r <;> exact h
      case fin2 =>
        rintro c st'' ⟨h1, _, h2⟩
        exact ⟨h1, h2⟩
      case post2 =>
        rintro ⟨r, na, nb, out, mg, ac, bc⟩ st'' ⟨⟨g, rfl⟩, hP⟩
        cases r with
        | some m => exact wpS_pure ⟨⟨g, rfl⟩, m, _, rfl, hP⟩
        | none =>
          obtain ⟨L, hn'⟩ : HI κ a b out na nb ∧ na + nb + (n + 1) ≤ a.size + b.size := hP
          exact wpS_bind (wpS_setMG (wpS_pure ⟨⟨_, rfl⟩, na, nb, out, _, rfl, L, hn'⟩))
theorem MH.nil (a b : List Keyed) : MH κ a b [] a.length b.length := ⟨Nat.le_refl _, Nat.le_refl _, by simp, List.Pairwise.nil, fun x _ y hy => by cases hy⟩
theorem wpS_mergeHi {st : SortSt} {a b : Array Keyed} {Q : Array Keyed → SortSt → Prop} (H : HiH κ kx prog w A s a b) (hk : kindOf st = kx) (h1a : 0 < a.size) (h1b : 0 < b.size)
    (h0 : ∀ x ∈ b.toList, κ.kle (kOf κ x) (kOf κ a[a.size - 1])) (h : ∀ m g, LoOk κ a b m → Q m (setG st g)) : wpS (model prog w) A E s (mergeHi' a b) Q st := by
  rw [mergeHi'_hi]
  refine wpS_bind (wpS_lift (wpAny_rule ⟨rfl, ?_⟩))
  refine wpS_bind (wpS_elem (by omega) ?_)
  have mn := MH.nil (κ := κ) a.toList b.toList
  rw [Array.length_toList, Array.length_toList] at mn
  have m0 : MH κ a.toList b.toList #[a[a.size - 1]].toList.reverse (a.size - 1) b.size := by
    have := MH.pushA (out := #[]) mn (by omega) (Nat.le_refl _) H.sa (fun x hx => h0 x (List.mem_of_mem_take hx))
    simpa using this
  by_cases e1 : a.size - 1 = 0
  · rw [if_pos (by simpa using e1)]
    exact wpS_pure (h _ (gallopOf st) (m0.done H.sa H.sb (.inl e1)))
  rw [if_neg (by simpa using e1)]
  by_cases e2 : b.size = 1
  · rw [if_pos (by simpa using e2)]
    exact wpS_pure (h _ (gallopOf st) (m0.firstB H.sa e2 H.z))
  rw [if_neg (by simpa using e2)]
  refine wpS_bind (wpS_get ?_)
  refine wpS_bind (wpS_mono (wpS_forRange (I := fun x c st' => (∃ g, st' = setG st g) ∧ ∃ na nb out mg, c = (none, na, nb, out, mg) ∧ HI κ a b out na nb ∧ na + nb + (x + 1) ≤ a.size + b.size) (Q := fun c st' => (∃ g, st' = setG st g) ∧ ∃ m t, c = (some m, t) ∧ LoOk κ a b m) ?step ?fin ⟨⟨gallopOf st, rfl⟩, _, _, _, _, rfl, ⟨m0, by omega, by omega⟩, by omega⟩) ?post)
  case step =>
    rintro x c st' _ hx ⟨⟨g, rfl⟩, na, nb, out, mg, rfl, L, hn⟩
    refine wpS_mono (wpS_hiO (st := setG st g) H hk L hn) fun r st'' hq => ?_
    obtain ⟨⟨g', rfl⟩, hq⟩ := hq
    cases r with
    | done c => exact ⟨⟨g', rfl⟩, hq⟩
    | yield c => exact ⟨⟨g', rfl⟩, hq⟩
  case fin =>
    rintro c st' ⟨_, na, nb, out, mg, rfl, L, hn⟩
    have := L.na
    have := L.nb
    omega
  case post =>
    rintro c st' ⟨⟨g, rfl⟩, m, t, rfl, hm⟩
    exact wpS_pure (h m g hm)
end
end L2
set_option Elab.async false
set_option linter.all false
set_option maxRecDepth 100000
set_option maxHeartbeats 4000000
namespace L2
open PySem PySem.Spec PyProof.Rows
section
variable {prog : Program} {w : World} {A : Around} {E : Value → Shared → Prop} {s : Shared} {κ : KeyKind} {kx : SortKind}
theorem setAll (off : Nat) : ∀ (l : List Keyed) (n : Nat) (arr : Array Keyed), off + n + l.length ≤ arr.size → ((l.zipIdx n).foldl (fun a (p : Keyed × Nat) => a.setIfInBounds (off + p.2) p.1) arr).toList = arr.toList.take (off + n) ++ l ++ arr.toList.drop (off + n + l.length)
  | [], n, arr, _ => by simp
  | x :: l, n, arr, h => by
    rw [List.length_cons] at h
    rw [List.zipIdx_cons, List.foldl_cons, setAll off l (n + 1) _ (by rw [Array.size_setIfInBounds]; omega)]
    rw [Array.toList_setIfInBounds]
    have hl : off + n < arr.toList.length := by simp; omega
    rw [show off + (n + 1) = off + n + 1 by omega, List.take_add_one, List.take_set_of_le (Nat.le_refl _), List.getElem?_set_self hl, List.drop_set_of_lt (by omega)]
    simp only [Option.toList_some, List.append_assoc, List.singleton_append, List.cons_append, List.nil_append]
    rw [List.length_cons, show off + n + 1 + l.length = off + n + (l.length + 1) by omega]
def mergeAtX (i : Nat) : StateT SortSt Sem Bool := do
  let s ← get
  let (some (sa, na, power), some (sb, nb, _)) := ((pendingOf s)[i]?, (pendingOf s)[i + 1]?) | unsupported "internal:list.sort.pending"
  set (setPending s (((pendingOf s).setIfInBounds i (sa, na + nb, power)).eraseIdxIfInBounds (i + 1)))
  let some k ← gallop' false (← elem' (arrOf s) sb) (arrOf s) sa na 0 | return false
  let (sa, na) := (sa + k, na - k)
  if na == 0 then return true
  let some nb ← gallop' true (← elem' (arrOf s) (sa + na - 1)) (arrOf s) sb nb (nb - 1) | return false
  if nb == 0 then return true
  let x := (arrOf s).extract sa sb
  let y := (arrOf s).extract sb (sb + nb)
  let merged ← if na ≤ nb then mergeLo' x y else mergeHi' x y
  modify fun s => setArr s (merged.toList.zipIdx.foldl (fun a (p, j) => a.setIfInBounds (sa + j) p) (arrOf s))
  return (failedOf (← get)).isNone
theorem mergeAt'_eq (i : Nat) : mergeAt' i = mergeAtX i := rfl
def byl (κ : KeyKind) (left : Bool) (key : Keyed) (r : List Keyed) (i : Nat) : Bool := match r[i]? with
  | some x => if left then κ.blt (kOf κ x) (kOf κ key) else !κ.blt (kOf κ key) (kOf κ x)
  | none => false
theorem bynd_list {left : Bool} {key : Keyed} {arr : Array Keyed} {r : List Keyed} {base i : Nat} (h : arr[base + i]? = r[i]?) : bynd κ left key arr base i = byl κ left key r i := by
  unfold bynd byl
  rw [h]
  all_goals (cases r[i]? <;> rfl)
theorem Srt.atL {r : List Keyed} (h : Srt κ r) {i j : Nat} (hij : i ≤ j) (hj : j < r.length) : κ.kle (kOf κ (r[i]'(by omega))) (kOf κ r[j]) := by
  by_cases e : i = j
  · subst e; exact KeyOrd.kle_refl _
  · exact List.pairwise_iff_getElem.mp h i j (by omega) hj (by omega)
theorem byl_at {left : Bool} {key : Keyed} {r : List Keyed} {i : Nat} (h : i < r.length) : byl κ left key r i = if left then κ.blt (kOf κ r[i]) (kOf κ key) else !κ.blt (kOf κ key) (kOf κ r[i]) := by
  unfold byl
  rw [List.getElem?_eq_getElem h]
theorem byl_mono {left : Bool} {key : Keyed} {r : List Keyed} (sr : Srt κ r) : ∀ i j, i ≤ j → j < r.length → byl κ left key r j = true → byl κ left key r i = true := fun i j hij hj e => by
  rw [byl_at (by omega)] at e ⊢
  have hle := sr.atL hij hj
  cases left with
  | true => exact KeyOrd.klt_of_kle_of_klt hle e
  | false =>
    simp only [Bool.false_eq_true, if_false, Bool.not_eq_true'] at e ⊢
    exact KeyOrd.kle_trans hle e
theorem byl_take {left : Bool} {key : Keyed} {r : List Keyed} {k : Nat} (h : ∀ i, i < k → byl κ left key r i = true) : ∀ x ∈ r.take k, κ.kle (kOf κ x) (kOf κ key) := fun x hx => by
  obtain ⟨m, hm, e⟩ := List.getElem_of_mem hx
  rw [List.length_take] at hm
  have := h m (by omega)
  rw [byl_at (by omega)] at this
  have e2 : r[m]'(by omega) = x := by rw [← e]; simp
  rw [e2] at this
  cases left with
  | true => exact KeyOrd.kle_of_klt this
  | false => show κ.blt _ _ = false; simpa using this
theorem byl_drop {left : Bool} {key : Keyed} {r : List Keyed} {k : Nat} (h : ∀ i, k ≤ i → i < r.length → byl κ left key r i = false) : ∀ x ∈ r.drop k, κ.kle (kOf κ key) (kOf κ x) := fun x hx => by
  obtain ⟨m, hm, e⟩ := List.getElem_of_mem hx
  rw [List.length_drop] at hm
  have := h (k + m) (by omega) (by omega)
  rw [byl_at (by omega)] at this
  have e2 : r[k + m]'(by omega) = x := by rw [← e]; simp
  rw [e2] at this
  cases left with
  | true => show κ.blt _ _ = false; simpa using this
  | false =>
    simp only [Bool.false_eq_true, if_false, Bool.not_eq_false'] at this
    exact KeyOrd.kle_of_klt this
theorem mg_mid {r1 r2 m : List Keyed} {k n : Nat} (s1 : Srt κ r1) (s2 : Srt κ r2) (hm : Mg κ (r1.drop k) (r2.take n) m) (q1 : ∀ x ∈ r1.take k, ∀ y ∈ r2, κ.kle (kOf κ x) (kOf κ y)) (q2 : ∀ x ∈ r1, ∀ y ∈ r2.drop n, κ.kle (kOf κ x) (kOf κ y)) : Mg κ r1 r2 (r1.take k ++ (m ++ r2.drop n)) := by
  have d1 : Srt κ (r1.take k ++ r1.drop k) := by rw [List.take_append_drop]; exact s1
  have d2 : Srt κ (r2.take n ++ r2.drop n) := by rw [List.take_append_drop]; exact s2
  obtain ⟨_, _, t1⟩ := List.pairwise_append.mp d1
  obtain ⟨_, _, t2⟩ := List.pairwise_append.mp d2
  have mm : ∀ x, x ∈ m ↔ x ∈ r1.drop k ∨ x ∈ r2.take n := fun x => by rw [hm.perm.mem_iff, List.mem_append]
  refine ⟨?_, List.pairwise_append.mpr ⟨s1.take, List.pairwise_append.mpr ⟨hm.srt, s2.drop, fun x hx y hy => ?_⟩, fun x hx y hy => ?_⟩⟩
  · refine (List.Perm.append_left _ (hm.perm.append_right _)).trans ?_
    rw [List.append_assoc, List.take_append_drop, ← List.append_assoc, List.take_append_drop]
  · rcases (mm x).mp hx with z | z
    · exact q2 x (List.mem_of_mem_drop z) y hy
    · exact t2 x z y hy
  · rcases List.mem_append.mp hy with z | z
    · rcases (mm y).mp z with z | z
      · exact t1 x hx y z
      · exact q1 x hx y (List.mem_of_mem_take z)
    · exact q1 x hx y (List.mem_of_mem_drop z)
theorem wpS_set {st st' : SortSt} {Q : PUnit → SortSt → Prop} (h : Q ⟨⟩ st') : wpS (model prog w) A E s (set st' : StateT SortSt Sem PUnit) Q st := by
  unfold wpS; rw [StateT.run_set]; exact wpAny_pure ⟨rfl, h⟩
theorem mid_at {P r S : List Keyed} {arr : Array Keyed} (ha : arr.toList = P ++ (r ++ S)) {i : Nat} (hi : i < r.length) : arr[P.length + i]? = r[i]? := by
  rw [← Array.getElem?_toList, ha, List.getElem?_append_right (by omega), Nat.add_sub_cancel_left, List.getElem?_append_left hi]
theorem ext_mid {P r S : List Keyed} {arr : Array Keyed} (ha : arr.toList = P ++ (r ++ S)) {i j : Nat} (hi : i = P.length) (hj : j = P.length + r.length) : (arr.extract i j).toList = r := by
  subst hi hj
  rw [ext_list, ha, List.drop_left, Nat.add_sub_cancel_left, List.take_left]
theorem wpS_mergeAt {st : SortSt} {P r1 r2 S : List Keyed} {i p q : Nat} {Q : Bool → SortSt → Prop} (hO : LtAt κ kx prog w A s) (hk : kindOf st = kx) (hf : failedOf st = none) (hK : ∀ x ∈ (arrOf st).toList, Kd κ x) (ha : (arrOf st).toList = P ++ (r1 ++ (r2 ++ S)))
    (h1 : (pendingOf st)[i]? = some (P.length, r1.length, p)) (h2 : (pendingOf st)[i + 1]? = some (P.length + r1.length, r2.length, q)) (n1 : 0 < r1.length) (n2 : 0 < r2.length) (s1 : Srt κ r1) (s2 : Srt κ r2)
    (h : ∀ m xs g, Mg κ r1 r2 m → xs.toList = P ++ (m ++ S) → Q true (SortSt.mk' (kindOf st) xs (((pendingOf st).setIfInBounds i (P.length, r1.length + r2.length, p)).eraseIdxIfInBounds (i + 1)) g (failedOf st))) : wpS (model prog w) A E s (mergeAt' i) Q st := by
  rw [mergeAt'_eq]
  unfold mergeAtX
  refine wpS_bind (wpS_get ?_)
  rw [h1, h2]
  dsimp only
  refine wpS_bind (wpS_set ?_)
  have hsz : (arrOf st).size = P.length + (r1.length + (r2.length + S.length)) := by rw [← Array.length_toList, ha]; simp
  have ha2 : (arrOf st).toList = (P ++ r1) ++ (r2 ++ S) := by rw [ha, List.append_assoc]
  have A1 : ∀ {i}, i < r1.length → (arrOf st)[P.length + i]? = r1[i]? := fun hi => mid_at ha hi
  have A2 : ∀ {i}, i < r2.length → (arrOf st)[P.length + r1.length + i]? = r2[i]? := fun hi => by
    have := mid_at ha2 hi
    rwa [List.length_append] at this
  have hK' : ∀ x ∈ arrOf st, Kd κ x := fun x hx => hK x (by simpa using hx)
  have K1 : ∀ x ∈ r1, Kd κ x := fun x hx => hK x (by rw [ha]; simp [hx])
  have K2 : ∀ x ∈ r2, Kd κ x := fun x hx => hK x (by rw [ha]; simp [hx])
  have b0 : (arrOf st)[P.length + r1.length]'(by omega) = r2[0] := by
    have := A2 (i := 0) n2
    rw [Nat.add_zero, getElem?_pos _ _ (by omega), List.getElem?_eq_getElem n2] at this
    exact Option.some.inj this
  have aL : (arrOf st)[P.length + (r1.length - 1)]'(by omega) = r1[r1.length - 1] := by
    have := A1 (i := r1.length - 1) (by omega)
    rw [getElem?_pos _ _ (by omega), List.getElem?_eq_getElem (by omega)] at this
    exact Option.some.inj this
  have eq1 : ∀ {key : Keyed} {left : Bool} {i}, i < r1.length → bynd κ left key (arrOf st) P.length i = byl κ left key r1 i := fun hi => bynd_list (A1 hi)
  have eq2 : ∀ {key : Keyed} {left : Bool} {i}, i < r2.length → bynd κ left key (arrOf st) (P.length + r1.length) i = byl κ left key r2 i := fun hi => bynd_list (A2 hi)
  have top2 : ∀ y ∈ r2, κ.kle (kOf κ r2[0]) (kOf κ y) := fun y hy => by
    obtain ⟨j, hj, rfl⟩ := List.getElem_of_mem hy
    exact s2.atL (Nat.zero_le _) hj
  have end1 : ∀ x ∈ r1, κ.kle (kOf κ x) (kOf κ r1[r1.length - 1]) := fun x hx => by
    obtain ⟨j, hj, rfl⟩ := List.getElem_of_mem hx
    exact s1.atL (by omega) (by omega)
  refine wpS_bind (wpS_elem (by omega) ?_)
  rw [b0]
  refine wpS_bind (wpS_gallop hO hk (K2 _ (List.getElem_mem _)) hK' (by omega) n1 (fun i j hij hj e => by rw [eq1 (by omega)]; rw [eq1 hj] at e; exact byl_mono s1 i j hij hj e) fun k k1 g1 g2 => ?_)
  have lo : ∀ x ∈ r1.take k, ∀ y ∈ r2, κ.kle (kOf κ x) (kOf κ y) := fun x hx y hy => KeyOrd.kle_trans (byl_take (fun i hi => by rw [← eq1 (by omega)]; exact g1 i hi) x hx) (top2 y hy)
  have up : ∀ x ∈ r1.drop k, κ.kle (kOf κ r2[0]) (kOf κ x) := byl_drop fun i q1 q2 => by rw [← eq1 q2]; exact g2 i q1 q2
  dsimp only
  by_cases e1 : r1.length - k = 0
  · rw [if_pos (by simpa using e1)]
    refine wpS_pure (h (r1 ++ r2) _ _ ⟨List.Perm.refl _, List.pairwise_append.mpr ⟨s1, s2, fun x hx y hy => lo x (by rw [List.take_of_length_le (by omega)]; exact hx) y hy⟩⟩ ?_)
    rw [ha, List.append_assoc]
  rw [if_neg (by simpa using e1)]
  have ei : P.length + k + (r1.length - k) - 1 = P.length + (r1.length - 1) := by omega
  refine wpS_bind (wpS_elem (by omega) ?_)
  simp only [ei]
  rw [aL]
  refine wpS_bind (wpS_gallop hO hk (K1 _ (List.getElem_mem _)) hK' (by omega) (by omega) (fun i j hij hj e => by rw [eq2 (by omega)]; rw [eq2 hj] at e; exact byl_mono s2 i j hij hj e) fun n nn g3 g4 => ?_)
  have lo2 : ∀ y ∈ r2.take n, κ.kle (kOf κ y) (kOf κ r1[r1.length - 1]) := byl_take fun i hi => by rw [← eq2 (by omega)]; exact g3 i hi
  have up2 : ∀ x ∈ r1, ∀ y ∈ r2.drop n, κ.kle (kOf κ x) (kOf κ y) := fun x hx y hy => KeyOrd.kle_trans (end1 x hx) (byl_drop (fun i q1 q2 => by rw [← eq2 q2]; exact g4 i q1 q2) y hy)
  dsimp only
  by_cases e2 : n = 0
  · rw [if_pos (by simpa using e2)]
    refine wpS_pure (h (r1 ++ r2) _ _ ⟨List.Perm.refl _, List.pairwise_append.mpr ⟨s1, s2, fun x hx y hy => up2 x hx y (by rw [e2]; exact hy)⟩⟩ ?_)
    rw [ha, List.append_assoc]
  rw [if_neg (by simpa using e2)]
  have hl1 : (r1.take k).length = k := by rw [List.length_take]; omega
  have hl2 : (r1.drop k).length = r1.length - k := List.length_drop ..
  have hl3 : (r2.take n).length = n := by rw [List.length_take]; omega
  have ha3 : (arrOf st).toList = (P ++ r1.take k) ++ (r1.drop k ++ (r2 ++ S)) := by
    rw [ha, List.append_assoc, ← List.append_assoc (r1.take k), List.take_append_drop]
  have ha4 : (arrOf st).toList = (P ++ r1) ++ (r2.take n ++ (r2.drop n ++ S)) := by
    rw [ha2, ← List.append_assoc (r2.take n), List.take_append_drop]
  have ex : ((arrOf st).extract (P.length + k) (P.length + r1.length)).toList = r1.drop k := ext_mid ha3 (by rw [List.length_append, hl1]) (by rw [List.length_append, hl1, hl2]; omega)
  have ey : ((arrOf st).extract (P.length + r1.length) (P.length + r1.length + n)).toList = r2.take n := ext_mid ha4 (by rw [List.length_append]) (by rw [List.length_append, hl3])
  generalize (arrOf st).extract (P.length + k) (P.length + r1.length) = X at ex
  generalize (arrOf st).extract (P.length + r1.length) (P.length + r1.length + n) = Y at ey
  have szX : X.size = r1.length - k := by rw [← Array.length_toList, ex, hl2]
  have szY : Y.size = n := by rw [← Array.length_toList, ey, hl3]
  have kX : ∀ x ∈ X, Kd κ x := fun x hx => K1 x (List.mem_of_mem_drop (i := k) (by rw [← ex]; simpa using hx))
  have kY : ∀ x ∈ Y, Kd κ x := fun x hx => K2 x (List.mem_of_mem_take (i := n) (by rw [← ey]; simpa using hx))
  have Y0 : ∀ hy : 0 < Y.size, Y[0] = r2[0] := fun hy => by
    have e : Y.toList[0]? = (r2.take n)[0]? := by rw [ey]
    rw [Array.getElem?_toList, getElem?_pos Y 0 hy, List.getElem?_take, if_pos (by omega), List.getElem?_eq_getElem n2] at e
    exact Option.some.inj e
  have XL : ∀ hx : X.size - 1 < X.size, X[X.size - 1] = r1[r1.length - 1] := fun hx => by
    have e : X.toList[X.size - 1]? = (r1.drop k)[X.size - 1]? := by rw [ex]
    rw [Array.getElem?_toList, getElem?_pos X (X.size - 1) hx, List.getElem?_drop, show k + (X.size - 1) = r1.length - 1 by omega, List.getElem?_eq_getElem (by omega)] at e
    exact Option.some.inj e
  have last : ∀ (mr : Array Keyed) g, LoOk κ X Y mr → wpS (model prog w) A E s (do
      modify fun s => setArr s (mr.toList.zipIdx.foldl (fun a (p, j) => a.setIfInBounds (P.length + k + j) p) (arrOf s))
      let t ← get
      pure (failedOf t).isNone) Q (setG (setPending st (((pendingOf st).setIfInBounds i (P.length, r1.length + r2.length, p)).eraseIdxIfInBounds (i + 1))) g) := fun mr g hm => by
    refine wpS_bind (wpS_modify (wpS_bind (wpS_get (wpS_pure ?_))))
    have hm' : Mg κ (r1.drop k) (r2.take n) mr.toList := by rw [← ex, ← ey]; exact hm
    have hlen : mr.toList.length = r1.length - k + n := by rw [hm'.perm.length_eq, List.length_append, hl2, hl3]
    have e3 := setAll (P.length + k) mr.toList 0 (arrOf st) (by rw [hlen]; omega)
    have e4 : (arrOf st).toList.take (P.length + k + 0) = P ++ r1.take k := by
      rw [ha3, Nat.add_zero, List.take_left' (by rw [List.length_append, hl1])]
    have e5 : (arrOf st).toList.drop (P.length + k + 0 + mr.toList.length) = r2.drop n ++ S := by
      rw [ha4, ← List.append_assoc (P ++ r1), List.drop_left' (by rw [List.length_append, List.length_append, hl3, hlen]; omega)]
    rw [e4, e5] at e3
    have := h (r1.take k ++ (mr.toList ++ r2.drop n)) _ g (mg_mid s1 s2 hm' lo up2) (e3.trans (by simp [List.append_assoc]))
    have hfi : (failedOf st).isNone = true := by rw [hf]; rfl
    show Q (failedOf st).isNone _
    rw [hfi]
    exact this
  by_cases e3 : r1.length - k ≤ n
  · rw [if_pos e3]
    refine wpS_bind (wpS_mergeLo (κ := κ) ⟨hO, kX, kY, by rw [ex]; exact s1.drop, by rw [ey]; exact s2.take, ?_⟩ hk (by omega) (by omega) (fun y hy => by rw [Y0]; exact up y (by rw [← ex]; exact hy)) fun mr g hm => last mr g hm)
    intro y hy z hz
    obtain ⟨j, hj, q1, rfl⟩ := mem_drop hz
    have ej : j = X.size - 1 := by omega
    subst ej
    rw [XL hj]
    exact lo2 y (by rw [← ey]; exact hy)
  · rw [if_neg e3]
    refine wpS_bind (wpS_mergeHi (κ := κ) ⟨hO, kX, kY, by rw [ex]; exact s1.drop, by rw [ey]; exact s2.take, ?_⟩ hk (by omega) (by omega) (fun x hx => by rw [XL]; exact lo2 x (by rw [← ey]; exact hx)) fun mr g hm => last mr g hm)
    intro x hx y hy
    obtain ⟨j, hj, q1, rfl⟩ := mem_take hx
    have ej : j = 0 := by omega
    subst ej
    rw [Y0 hj]
    exact up y (by rw [← ex]; exact hy)
end
end L2
set_option Elab.async false
set_option linter.all false
set_option maxRecDepth 100000
set_option maxHeartbeats 4000000
namespace L2
open PySem PySem.Spec PyProof.Rows
section
variable {prog : Program} {w : World} {A : Around} {E : Value → Shared → Prop} {s : Shared} {κ : KeyKind} {kx : SortKind}
theorem KK_kOf {xs : Array Keyed} {i : Nat} (h : i < xs.size) : KK κ xs i = kOf κ xs[i] := by
  unfold KK kOf
  rw [getElem?_pos xs i h]
theorem wpS_ltX {st : SortSt} {i j : Nat} {Q : Option Bool → SortSt → Prop} (hO : LtAt κ kx prog w A s) (hk : kindOf st = kx) (hK : ∀ x ∈ arrOf st, Kd κ x) (hi : i < (arrOf st).size) (hj : j < (arrOf st).size) (h : Q (some (κ.blt (KK κ (arrOf st) i) (KK κ (arrOf st) j))) st) : wpS (model prog w) A E s (ltAt' i j) Q st := by
  rw [ltAt'_eq]
  refine wpS_bind (wpS_get ?_)
  show wpS _ _ _ _ (do let x ← elem' (arrOf st) i; let y ← elem' (arrOf st) j; lt' x y) Q st
  rw [KK_kOf hi, KK_kOf hj] at h
  exact wpS_bind (wpS_elem hi (wpS_bind (wpS_elem hj (wpS_lt2 hO hk (hK _ (Array.getElem_mem hi)) (hK _ (Array.getElem_mem hj)) h))))
def SegS (κ : KeyKind) (xs : Array Keyed) (lo n : Nat) : Prop := ∀ i j, i ≤ j → j < n → κ.kle (KK κ xs (lo + i)) (KK κ xs (lo + j))
def SegN (κ : KeyKind) (xs : Array Keyed) (lo n : Nat) : Prop := ∀ i j, i ≤ j → j < n → κ.kle (KK κ xs (lo + j)) (KK κ xs (lo + i))
structure Kp (lo : Nat) (xs0 xs : Array Keyed) : Prop where
  perm : xs.Perm xs0
  keep : ∀ i, i < lo → xs[i]? = xs0[i]?
theorem Kp.refl (lo : Nat) (xs : Array Keyed) : Kp lo xs xs := ⟨Array.Perm.refl _, fun _ _ => rfl⟩
theorem Kp.trans {lo : Nat} {a b c : Array Keyed} (h : Kp lo a b) (g : Kp lo b c) : Kp lo a c := ⟨g.perm.trans h.perm, fun i hi => (g.keep i hi).trans (h.keep i hi)⟩
theorem Kp.size {lo : Nat} {a b : Array Keyed} (h : Kp lo a b) : b.size = a.size := h.perm.size_eq
theorem Kp.mirror {lo i j : Nat} {xs : Array Keyed} (hi : lo ≤ i) (hj : j ≤ xs.size) : Kp lo xs (mirror xs i j ((j - i) / 2)) := ⟨mirror_perm _ _ _ _, fun k hk => by rw [getElem?_mirror_all hj, if_neg (by omega)]⟩
theorem Kp.kd {lo : Nat} {a b : Array Keyed} (h : Kp lo a b) (hK : ∀ x ∈ a, Kd κ x) : ∀ x ∈ b, Kd κ x := fun x hx => hK x (h.perm.mem_iff.mp hx)
def ascL (lo a nrem : Nat) : StateT SortSt Sem AscSt :=
  forIn [a:nrem] ((none, a) : AscSt) fun _ __s => do
    let __x ← ltAt' (lo + __s.snd) (lo + __s.snd - 1)
    match __x with
    | some smaller => if smaller = true then pure (ForInStep.done (none, __s.snd)) else pure (ForInStep.yield (none, __s.snd + 1))
    | _ => pure (ForInStep.done (some none, __s.snd))
def tail3L (lo n nrem : Nat) : StateT SortSt Sem (Option Nat) := do
  reverseSlice' lo (lo + n)
  let __s ← ascL lo n nrem
  match __s.fst with
  | some r => pure r
  | none => pure (some __s.snd)
def descL (lo n nrem : Nat) : StateT SortSt Sem DescSt :=
  forIn [n:nrem] ((none, n, 0) : DescSt) fun _ __s => do
    let __x ← ltAt' (lo + __s.snd.fst) (lo + __s.snd.fst - 1)
    match __x with
    | some smaller =>
      if smaller = true then
        if __s.snd.snd > 0 then do
          reverseSlice' (lo + __s.snd.fst - (__s.snd.snd + 1)) (lo + __s.snd.fst)
          pure (ForInStep.yield (none, __s.snd.fst + 1, 0))
        else pure (ForInStep.yield (none, __s.snd.fst + 1, 0))
      else do
        let __x ← ltAt' (lo + __s.snd.fst - 1) (lo + __s.snd.fst)
        match __x with
        | some larger =>
          if larger = true then pure (ForInStep.done (none, __s.snd.fst, __s.snd.snd))
          else pure (ForInStep.yield (none, __s.snd.fst + 1, __s.snd.snd + 1))
        | _ => pure (ForInStep.done (some none, __s.snd.fst, __s.snd.snd))
    | _ => pure (ForInStep.done (some none, __s.snd.fst, __s.snd.snd))
def descPL (lo n nrem : Nat) : StateT SortSt Sem (Option Nat) := do
  liftM (rule "list.sort.descending-run")
  let __s ← descL lo (n + 1) nrem
  match __s.fst with
  | some r => pure r
  | none =>
    if __s.snd.snd > 0 then do
      reverseSlice' (lo + __s.snd.fst - (__s.snd.snd + 1)) (lo + __s.snd.fst)
      tail3L lo __s.snd.fst nrem
    else tail3L lo __s.snd.fst nrem
theorem countRunL_eq (lo nrem : Nat) : countRun' lo nrem = (do
    let __s ← ascL lo 1 nrem
    match __s.fst with
    | some r => pure r
    | none =>
      if (__s.snd == nrem) = true then pure (some __s.snd)
      else if __s.snd > 1 then do
        let __x ← ltAt' lo (lo + __s.snd - 1)
        match __x with
        | some rose => if rose = true then pure (some __s.snd) else do
            reverseSlice' lo (lo + __s.snd)
            descPL lo __s.snd nrem
        | _ => pure none
      else descPL lo __s.snd nrem) := by
  rw [countRun'_eq]
  dsimp only
  unfold descPL tail3L descL ascL
  congr 1
  funext __s
  obtain ⟨r, n⟩ := __s
  cases r with
  | some r => rfl
  | none =>
    dsimp only
    split
    · rfl
    · split
      · congr 1
        funext x
        cases x with
        | none => rfl
        | some rose =>
          dsimp only
          split
          · rfl
          · congr 1
            funext _r
            congr 1; funext _u; congr 1; congr 1; funext s2; obtain ⟨r2, n2, q2⟩ := s2; cases r2 with
            | some r2 => rfl
            | none =>
              dsimp only
              split
              · congr 1; funext _v; congr 1; funext _w; congr 1; funext s3; obtain ⟨r3, n3⟩ := s3; cases r3 <;> rfl
              · congr 1; funext _w; congr 1; funext s3; obtain ⟨r3, n3⟩ := s3; cases r3 <;> rfl
      · congr 1; funext _u; congr 1; congr 1; funext s2; obtain ⟨r2, n2, q2⟩ := s2; cases r2 with
        | some r2 => rfl
        | none =>
          dsimp only
          split
          · congr 1; funext _v; congr 1; funext _w; congr 1; funext s3; obtain ⟨r3, n3⟩ := s3; cases r3 <;> rfl
          · congr 1; funext _w; congr 1; funext s3; obtain ⟨r3, n3⟩ := s3; cases r3 <;> rfl
theorem wpS_rev {st : SortSt} {i j : Nat} {Q : Unit → SortSt → Prop} (h : Q () (setArr st (mirror (arrOf st) i j ((j - i) / 2)))) : wpS (model prog w) A E s (reverseSlice' i j) Q st := by
  rw [reverseSlice'_eq]
  exact wpS_modify h
theorem wpS_ascL {st : SortSt} {lo a nrem : Nat} {Q : AscSt → SortSt → Prop} (hO : LtAt κ kx prog w A s) (hk : kindOf st = kx) (hK : ∀ x ∈ arrOf st, Kd κ x) (hn : lo + nrem ≤ (arrOf st).size) (ha : 1 ≤ a) (han : a ≤ nrem) (hs : SegS κ (arrOf st) lo a)
    (h : ∀ n, a ≤ n → n ≤ nrem → SegS κ (arrOf st) lo n → (n = nrem ∨ κ.klt (KK κ (arrOf st) (lo + n)) (KK κ (arrOf st) (lo + n - 1))) → Q (none, n) st) : wpS (model prog w) A E s (ascL lo a nrem) Q st := by
  unfold ascL
  refine wpS_forRange (I := fun x c st' => st' = st ∧ c = (none, x) ∧ SegS κ (arrOf st) lo x) ?step ?fin ⟨rfl, rfl, hs⟩
  case fin =>
    rintro c st' ⟨rfl, rfl, hs'⟩
    rw [show max a nrem = nrem by omega] at hs' ⊢
    exact h nrem han (Nat.le_refl _) hs' (.inl rfl)
  case step =>
    rintro x c st' hax hxn ⟨rfl, rfl, hs'⟩
    dsimp only
    refine wpS_bind (wpS_ltX hO hk hK (by omega) (by omega) ?_)
    cases hless : κ.blt (KK κ (arrOf st') (lo + x)) (KK κ (arrOf st') (lo + x - 1))
    case true =>
      exact wpS_pure (h x hax (by omega) hs' (.inr hless))
    case false =>
      refine wpS_pure ⟨rfl, rfl, fun i j hij hj => ?_⟩
      by_cases hjx : j < x
      · exact hs' i j hij hjx
      · have hj' : j = x := by omega
        subst hj'
        by_cases hi' : i = j
        · subst hi'; exact KeyOrd.kle_refl _
        · have q := hs' i (j - 1) (by omega) (by omega)
          rw [show lo + (j - 1) = lo + j - 1 by omega] at q
          exact KeyOrd.kle_trans q hless
def CRo (κ : KeyKind) (st : SortSt) (lo nrem : Nat) (Q : Option Nat → SortSt → Prop) : Prop := ∀ m xs, Kp lo (arrOf st) xs → 1 ≤ m → m ≤ nrem → SegS κ xs lo m → Q (some m) (setArr st xs)
theorem CRo.next {st : SortSt} {lo nrem : Nat} {xs : Array Keyed} {Q : Option Nat → SortSt → Prop} (h : CRo κ st lo nrem Q) (hp : Kp lo (arrOf st) xs) : CRo κ (setArr st xs) lo nrem Q := fun m ys k1 k2 k3 k4 => h m ys (hp.trans k1) k2 k3 k4
theorem wpS_tail3L {st : SortSt} {lo n nrem : Nat} {Q : Option Nat → SortSt → Prop} (hO : LtAt κ kx prog w A s) (hk : kindOf st = kx) (hK : ∀ x ∈ arrOf st, Kd κ x) (hn : lo + nrem ≤ (arrOf st).size) (h1 : 1 ≤ n) (hnn : n ≤ nrem) (hs : SegN κ (arrOf st) lo n) (h : CRo κ st lo nrem Q) : wpS (model prog w) A E s (tail3L lo n nrem) Q st := by
  unfold tail3L
  have hsz : lo + n ≤ (arrOf st).size := by omega
  have kp := Kp.mirror (lo := lo) (i := lo) (Nat.le_refl _) hsz
  refine wpS_bind (wpS_rev ?_)
  refine wpS_bind (wpS_ascL hO hk (kp.kd hK) (by show lo + nrem ≤ (mirror _ _ _ _).size; rw [kp.size]; exact hn) h1 hnn ?_ fun m hm1 hm2 hsm _ => wpS_pure (h m _ kp (by omega) hm2 hsm))
  intro i j hij hj
  show κ.kle (KK κ (mirror (arrOf st) lo (lo + n) ((lo + n - lo) / 2)) (lo + i)) (KK κ (mirror (arrOf st) lo (lo + n) ((lo + n - lo) / 2)) (lo + j))
  rw [KK_mirror hsz, KK_mirror hsz, if_pos (by omega), if_pos (by omega)]
  have := hs (n - 1 - j) (n - 1 - i) (by omega) (by omega)
  rw [show lo + (n - 1 - j) = lo + (lo + n) - 1 - (lo + j) by omega, show lo + (n - 1 - i) = lo + (lo + n) - 1 - (lo + i) by omega] at this
  exact this
theorem wpS_descL {st : SortSt} {lo n nrem : Nat} {Q : DescSt → SortSt → Prop} (hO : LtAt κ kx prog w A s) (hk : kindOf st = kx) (hK : ∀ x ∈ arrOf st, Kd κ x) (hn : lo + nrem ≤ (arrOf st).size) (h1 : 1 ≤ n) (hnn : n ≤ nrem) (hs : SegN κ (arrOf st) lo n)
    (h : ∀ m neq xs, Kp lo (arrOf st) xs → n ≤ m → m ≤ nrem → SegN κ xs lo m → neq + 1 ≤ m → (∀ i, m - (neq + 1) ≤ i → i < m → KK κ xs (lo + i) = KK κ xs (lo + m - 1)) → Q (none, m, neq) (setArr st xs)) : wpS (model prog w) A E s (descL lo n nrem) Q st := by
  unfold descL
  refine wpS_forRange (I := fun x c st' => ∃ neq xs, c = (none, x, neq) ∧ st' = setArr st xs ∧ Kp lo (arrOf st) xs ∧ SegN κ xs lo x ∧ neq + 1 ≤ x ∧ (∀ i, x - (neq + 1) ≤ i → i < x → KK κ xs (lo + i) = KK κ xs (lo + x - 1))) ?step ?fin ⟨0, arrOf st, rfl, rfl, .refl _ _, hs, by omega, fun i h1 h2 => by congr 1; omega⟩
  case fin =>
    rintro c st' ⟨neq, xs, rfl, rfl, kp, hs', hq, he⟩
    rw [show max n nrem = nrem by omega] at hs' hq he ⊢
    exact h nrem neq xs kp hnn (Nat.le_refl _) hs' hq he
  case step =>
    rintro x c st' hax hxn ⟨neq, xs, rfl, rfl, kp, hs', hq, he⟩
    dsimp only
    have hsize := kp.size
    have hsz : lo + x ≤ xs.size := by omega
    refine wpS_bind (wpS_ltX (st := setArr st xs) hO hk (kp.kd hK) (show lo + x < xs.size by omega) (show lo + x - 1 < xs.size by omega) ?_)
    have step1 : ∀ ys : Array Keyed, (∀ k, KK κ ys k = KK κ xs k) → κ.blt (KK κ xs (lo + x)) (KK κ xs (lo + x - 1)) = true → SegN κ ys lo (x + 1) := by
      intro ys hk' hless i j hij hj
      rw [hk', hk']
      by_cases hjx : j < x
      · exact hs' i j hij hjx
      · have hj' : j = x := by omega
        subst hj'
        by_cases hi' : i = j
        · subst hi'; exact KeyOrd.kle_refl _
        · have q := hs' i (j - 1) (by omega) (by omega)
          rw [show lo + (j - 1) = lo + j - 1 by omega] at q
          exact KeyOrd.kle_trans (KeyOrd.kle_of_klt hless) q
    have heq' : ∀ k, lo + x - (neq + 1) ≤ k → k < lo + x → KK κ xs k = KK κ xs (lo + x - 1) := fun k k1 k2 => by
      have := he (k - lo) (by omega) (by omega)
      rwa [show lo + (k - lo) = k by omega] at this
    cases hless : κ.blt (KK κ xs (lo + x)) (KK κ xs (lo + x - 1))
    case true =>
      dsimp only
      rw [if_pos rfl]
      by_cases hneq : neq > 0
      · rw [if_pos hneq]
        refine wpS_bind (wpS_rev (wpS_pure ⟨0, _, rfl, rfl, kp.trans (Kp.mirror (by omega) hsz), step1 _ (KK_mirror_equal hsz heq') hless, by omega, fun i h1 h2 => by congr 1; omega⟩))
      · rw [if_neg hneq]
        exact wpS_pure ⟨0, xs, rfl, rfl, kp, step1 _ (fun _ => rfl) hless, by omega, fun i h1 h2 => by congr 1; omega⟩
    case false =>
      dsimp only
      rw [if_neg (by decide)]
      refine wpS_bind (wpS_ltX (st := setArr st xs) hO hk (kp.kd hK) (show lo + x - 1 < xs.size by omega) (show lo + x < xs.size by omega) ?_)
      cases hlarger : κ.blt (KK κ xs (lo + x - 1)) (KK κ xs (lo + x))
      case true => exact wpS_pure (h x neq xs kp hax (by omega) hs' hq he)
      case false =>
        have heqx : KK κ xs (lo + x) = KK κ xs (lo + x - 1) := KeyOrd.kle_antisymm hlarger hless
        refine wpS_pure ⟨neq + 1, xs, rfl, rfl, kp, fun i j hij hj => ?_, by omega, fun i h1 h2 => ?_⟩
        · by_cases hjx : j < x
          · exact hs' i j hij hjx
          · have hj' : j = x := by omega
            subst hj'
            by_cases hi' : i = j
            · subst hi'; exact KeyOrd.kle_refl _
            · rw [heqx]
              have q := hs' i (j - 1) (by omega) (by omega)
              rwa [show lo + (j - 1) = lo + j - 1 by omega] at q
        · rw [show lo + (x + 1) - 1 = lo + x by omega]
          by_cases hix : i = x
          · subst hix; rfl
          · rw [heqx]; exact he i (by omega) (by omega)
theorem wpS_descPL {st : SortSt} {lo n nrem : Nat} {Q : Option Nat → SortSt → Prop} (hO : LtAt κ kx prog w A s) (hk : kindOf st = kx) (hK : ∀ x ∈ arrOf st, Kd κ x) (hn : lo + nrem ≤ (arrOf st).size) (hnn : n + 1 ≤ nrem) (hs : SegN κ (arrOf st) lo (n + 1)) (h : CRo κ st lo nrem Q) : wpS (model prog w) A E s (descPL lo n nrem) Q st := by
  unfold descPL
  refine wpS_bind (wpS_lift (wpAny_rule ⟨rfl, ?_⟩))
  refine wpS_bind (wpS_descL hO hk hK hn (by omega) hnn hs fun m neq xs kp hm1 hm2 hs' hq he => ?_)
  dsimp only
  have hsize := kp.size
  have hsz : lo + m ≤ xs.size := by omega
  have heq' : ∀ k, lo + m - (neq + 1) ≤ k → k < lo + m → KK κ xs k = KK κ xs (lo + m - 1) := fun k k1 k2 => by
    have := he (k - lo) (by omega) (by omega)
    rwa [show lo + (k - lo) = k by omega] at this
  by_cases hneq : neq > 0
  · rw [if_pos hneq]
    have kp2 := kp.trans (Kp.mirror (lo := lo) (i := lo + m - (neq + 1)) (by omega) hsz)
    refine wpS_bind (wpS_rev (wpS_tail3L hO hk (kp2.kd hK) (by show lo + nrem ≤ (mirror _ _ _ _).size; rw [kp2.size]; exact hn) (by omega) hm2 ?_ (h.next kp2)))
    intro i j hij hj
    show κ.kle (KK κ (mirror xs _ _ _) (lo + j)) (KK κ (mirror xs _ _ _) (lo + i))
    rw [KK_mirror_equal hsz heq', KK_mirror_equal hsz heq']
    exact hs' i j hij hj
  · rw [if_neg hneq]
    exact wpS_tail3L hO hk (kp.kd hK) (by show lo + nrem ≤ xs.size; omega) (by omega) hm2 hs' (h.next kp)
theorem wpS_countRun {st : SortSt} {lo nrem : Nat} {Q : Option Nat → SortSt → Prop} (hO : LtAt κ kx prog w A s) (hk : kindOf st = kx) (hK : ∀ x ∈ arrOf st, Kd κ x) (hn : lo + nrem ≤ (arrOf st).size) (h1 : 1 ≤ nrem) (h : CRo κ st lo nrem Q) : wpS (model prog w) A E s (countRun' lo nrem) Q st := by
  rw [countRunL_eq]
  refine wpS_bind (wpS_ascL hO hk hK hn (Nat.le_refl 1) h1 (fun i j hij hj => by have : i = j := (by omega); subst this; exact KeyOrd.kle_refl _) fun n hn1 hn2 hsn hor => ?_)
  dsimp only
  have h' : SegS κ (arrOf st) lo n → Q (some n) st := fun z => h n (arrOf st) (.refl _ _) hn1 hn2 z
  by_cases hnn : n = nrem
  · rw [if_pos (by simpa using hnn)]
    exact wpS_pure (h' hsn)
  · rw [if_neg (by simpa using hnn)]
    have hlt : κ.klt (KK κ (arrOf st) (lo + n)) (KK κ (arrOf st) (lo + n - 1)) := hor.resolve_left hnn
    by_cases hgt : n > 1
    · rw [if_pos hgt]
      refine wpS_bind (wpS_ltX hO hk hK (by omega) (by omega) ?_)
      cases hrose : κ.blt (KK κ (arrOf st) lo) (KK κ (arrOf st) (lo + n - 1))
      case true => exact wpS_pure (h' hsn)
      case false =>
        dsimp only
        rw [if_neg (by decide)]
        have hsz : lo + n ≤ (arrOf st).size := by omega
        have hall : ∀ k, lo ≤ k → k < lo + n → KK κ (arrOf st) k = KK κ (arrOf st) (lo + n - 1) := by
          intro k q hk'
          have a1 := hsn 0 (k - lo) (by omega) (by omega)
          have a2 := hsn (k - lo) (n - 1) (by omega) (by omega)
          rw [show lo + (k - lo) = k by omega] at a1 a2
          rw [show lo + (n - 1) = lo + n - 1 by omega] at a2
          exact KeyOrd.kle_antisymm a2 (KeyOrd.kle_trans hrose a1)
        have kp := Kp.mirror (lo := lo) (i := lo) (Nat.le_refl _) hsz
        refine wpS_bind (wpS_rev (wpS_descPL hO hk (kp.kd hK) (by show lo + nrem ≤ (mirror _ _ _ _).size; rw [kp.size]; exact hn) (by omega) ?_ (h.next kp)))
        intro i j hij hj
        show κ.kle (KK κ (mirror (arrOf st) _ _ _) (lo + j)) (KK κ (mirror (arrOf st) _ _ _) (lo + i))
        rw [KK_mirror_equal hsz hall, KK_mirror_equal hsz hall]
        by_cases hjn : j < n
        · rw [hall (lo + i) (by omega) (by omega), hall (lo + j) (by omega) (by omega)]; exact KeyOrd.kle_refl _
        · have hj' : j = n := by omega
          subst hj'
          by_cases hi' : i = j
          · subst hi'; exact KeyOrd.kle_refl _
          · rw [hall (lo + i) (by omega) (by omega)]; exact KeyOrd.kle_of_klt hlt
    · rw [if_neg hgt]
      have hn1' : n = 1 := by omega
      subst hn1'
      refine wpS_descPL hO hk hK hn (by omega) ?_ h
      intro i j hij hj
      by_cases hi' : i = j
      · subst hi'; exact KeyOrd.kle_refl _
      · have hi0 : i = 0 := by omega
        have hj1 : j = 1 := by omega
        subst hi0; subst hj1
        exact KeyOrd.kle_of_klt hlt
theorem wpS_binary {st : SortSt} {lo n ok : Nat} {Q : Bool → SortSt → Prop} (hO : LtAt κ kx prog w A s) (hk : kindOf st = kx) (hK : ∀ x ∈ arrOf st, Kd κ x) (hn : lo + n ≤ (arrOf st).size) (hok : ok ≤ n) (hs : SegS κ (arrOf st) lo ok)
    (h : ∀ xs, Kp lo (arrOf st) xs → SegS κ xs lo n → Q true (setArr st xs)) : wpS (model prog w) A E s (binarySort' lo n ok) Q st := by
  rw [binarySort'_eq]
  refine wpS_bind (wpS_mono (wpS_forRange (I := fun k c st' => c = (none, ()) ∧ ∃ xs, st' = setArr st xs ∧ Kp lo (arrOf st) xs ∧ SegS κ xs lo (min k n))
    (Q := fun c st' => c = (none, ()) ∧ ∃ xs, st' = setArr st xs ∧ Kp lo (arrOf st) xs ∧ SegS κ xs lo n) ?step ?fin ?init) ?post)
  case post =>
    rintro c st' ⟨rfl, xs, rfl, kp, hs'⟩
    exact wpS_pure (h xs kp hs')
  case init =>
    refine ⟨rfl, arrOf st, rfl, .refl _ _, fun i j hij hj => ?_⟩
    by_cases h1 : ok = 0
    · have : i = j := by omega
      subst this; exact KeyOrd.kle_refl _
    · exact hs i j hij (by omega)
  case fin =>
    rintro c st' ⟨hc, xs, e, kp, hs'⟩
    refine ⟨hc, xs, e, kp, ?_⟩
    rwa [show min (max (max ok 1) n) n = n by omega] at hs'
  case step =>
    rintro k c st' hak hkn ⟨rfl, xs, rfl, kp, hs'⟩
    rw [show min k n = k by omega] at hs'
    have hsize := kp.size
    have hkx : lo + k < xs.size := by omega
    refine wpS_bind (wpS_mono (wpS_forRange (I := fun x c st'' => st'' = setArr st xs ∧ ∃ l r, c = (none, l, r) ∧ l ≤ r ∧ r ≤ k ∧ r - l ≤ k - x ∧
        (∀ i, i < l → κ.kle (KK κ xs (lo + i)) (KK κ xs (lo + k))) ∧ (∀ i, r ≤ i → i < k → κ.klt (KK κ xs (lo + k)) (KK κ xs (lo + i))))
      (Q := fun c st'' => st'' = setArr st xs ∧ ∃ l r, c = (none, l, r) ∧ l ≤ k ∧
        (∀ i, i < l → κ.kle (KK κ xs (lo + i)) (KK κ xs (lo + k))) ∧ (∀ i, l ≤ i → i < k → κ.klt (KK κ xs (lo + k)) (KK κ xs (lo + i)))) ?istep ?ifin ?iinit) ?ipost)
    case iinit => exact ⟨rfl, 0, k, rfl, by omega, by omega, by omega, fun i hi => by omega, fun i h1 h2 => by omega⟩
    case ifin =>
      rintro c st'' ⟨rfl, l, r, rfl, hlr, hrk, hm, hlo, hhi⟩
      have : l = r := by omega
      subst this
      exact ⟨rfl, l, l, rfl, hrk, hlo, hhi⟩
    case istep =>
      rintro x c st'' _ hxk ⟨rfl, l, r, rfl, hlr, hrk, hm, hlo, hhi⟩
      dsimp only
      by_cases hge : l ≥ r
      · rw [if_pos hge]
        have : l = r := by omega
        subst this
        exact wpS_pure ⟨rfl, l, l, rfl, hrk, hlo, hhi⟩
      · rw [if_neg hge]
        refine wpS_bind (wpS_ltX (st := setArr st xs) hO hk (kp.kd hK) hkx (show lo + (l + r) / 2 < xs.size by omega) ?_)
        cases hless : κ.blt (KK κ xs (lo + k)) (KK κ xs (lo + (l + r) / 2))
        case true =>
          refine wpS_pure ⟨rfl, l, (l + r) / 2, rfl, by omega, by omega, by omega, hlo, fun i h1 h2 => ?_⟩
          exact KeyOrd.klt_of_klt_of_kle hless (hs' _ _ h1 h2)
        case false =>
          refine wpS_pure ⟨rfl, (l + r) / 2 + 1, r, rfl, by omega, by omega, by omega, fun i h1 => ?_, hhi⟩
          exact KeyOrd.kle_trans (hs' i ((l + r) / 2) (by omega) (by omega)) (show κ.kle _ _ from hless)
    case ipost =>
      rintro c st'' ⟨rfl, l, r, rfl, hlk, hlo, hhi⟩
      show wpS _ _ _ _ (do moveDown' (lo + k) (lo + l); pure (ForInStep.yield (none, ()))) _ _
      rw [moveDown'_eq]
      refine wpS_bind (wpS_modify (wpS_pure ⟨rfl, _, rfl, kp.trans ⟨bubble_perm _ _ _, fun i hi => ?_⟩, ?_⟩))
      · show (bubble xs (lo + k) (lo + k - (lo + l)))[i]? = xs[i]?
        rw [getElem?_bubble hkx _ (by omega), if_neg (by omega), if_neg (by omega)]
      rw [show min (k + 1) n = k + 1 by omega]
      intro i j hij hj
      show κ.kle (KK κ (bubble xs (lo + k) (lo + k - (lo + l))) (lo + i)) (KK κ (bubble xs (lo + k) (lo + k - (lo + l))) (lo + j))
      rw [KK_bubble hkx (by omega), KK_bubble hkx (by omega), show lo + k - (lo + k - (lo + l)) = lo + l by omega]
      have ei : ∀ t, 0 < t → lo + t - 1 = lo + (t - 1) := fun t ht => by omega
      repeat' split
      all_goals first
        | (exfalso; omega)
        | exact KeyOrd.kle_refl _
        | (rw [ei _ (by omega), ei _ (by omega)]; exact hs' _ _ (by omega) (by omega))
        | (rw [ei _ (by omega)]; exact hlo _ (by omega))
        | (rw [ei _ (by omega)]; exact KeyOrd.kle_of_klt (hhi _ (by omega) (by omega)))
        | (rw [ei _ (by omega)]; exact hs' _ _ (by omega) (by omega))
        | exact hlo _ (by omega)
        | exact KeyOrd.kle_of_klt (hhi _ (by omega) (by omega))
        | exact hs' _ _ (by omega) (by omega)
end
end L2
set_option Elab.async false
set_option linter.all false
set_option maxRecDepth 100000
set_option maxHeartbeats 4000000
namespace L2
open PySem PySem.Spec PyProof.Rows
section
variable {prog : Program} {w : World} {A : Around} {E : Value → Shared → Prop} {s : Shared} {κ : KeyKind} {kx : SortKind}
def starts : Nat → List (List Keyed) → List (Nat × Nat)
  | _, [] => []
  | n, r :: rs => (n, r.length) :: starts (n + r.length) rs
theorem starts_append : ∀ (n : Nat) (A B : List (List Keyed)), starts n (A ++ B) = starts n A ++ starts (n + A.flatten.length) B
  | n, [], B => by simp [starts]
  | n, r :: A, B => by
    rw [List.cons_append, starts, starts_append (n + r.length) A B, starts, List.flatten_cons, List.length_append, List.cons_append, Nat.add_assoc]
theorem starts_length : ∀ (n : Nat) (A : List (List Keyed)), (starts n A).length = A.length
  | _, [] => rfl
  | n, r :: A => by rw [starts, List.length_cons, starts_length, List.length_cons]
def pr (x : Nat × Nat × Nat) : Nat × Nat := (x.1, x.2.1)
structure Rn (κ : KeyKind) (l : List Keyed) (pend : List (Nat × Nat × Nat)) (runs : List (List Keyed)) (T : List Keyed) : Prop where
  eq : l = runs.flatten ++ T
  pos : ∀ r ∈ runs, 0 < r.length
  srt : ∀ r ∈ runs, Srt κ r
  pnd : pend.map pr = starts 0 runs
theorem Rn.len {l : List Keyed} {pend : List (Nat × Nat × Nat)} {runs : List (List Keyed)} {T : List Keyed} (h : Rn κ l pend runs T) : pend.length = runs.length := by
  have := congrArg List.length h.pnd
  rwa [List.length_map, starts_length] at this
theorem flat_len : ∀ (runs : List (List Keyed)), (∀ r ∈ runs, 0 < r.length) → runs.length ≤ runs.flatten.length
  | [], _ => Nat.le_refl _
  | r :: runs, h => by
    have := flat_len runs fun x hx => h x (List.mem_cons_of_mem _ hx)
    have := h r (List.mem_cons_self ..)
    rw [List.flatten_cons, List.length_append, List.length_cons]
    omega
theorem Rn.merge {l l' : List Keyed} {pend : List (Nat × Nat × Nat)} {R1 R2 : List (List Keyed)} {r1 r2 m T : List Keyed} {p : Nat} (h : Rn κ l pend (R1 ++ r1 :: r2 :: R2) T) (hm : Mg κ r1 r2 m) (hl : l' = R1.flatten ++ (m ++ (R2.flatten ++ T))) :
    Rn κ l' ((pend.set R1.length (R1.flatten.length, r1.length + r2.length, p)).eraseIdx (R1.length + 1)) (R1 ++ m :: R2) T := by
  have ml : m.length = r1.length + r2.length := by rw [hm.perm.length_eq, List.length_append]
  refine ⟨by rw [hl, List.flatten_append, List.flatten_cons, List.append_assoc, List.append_assoc], fun r hr => ?_, fun r hr => ?_, ?_⟩
  · rcases List.mem_append.mp hr with z | z
    · exact h.pos r (List.mem_append_left _ z)
    · rcases List.mem_cons.mp z with z | z
      · rw [z, ml]; have := h.pos r1 (by simp); omega
      · exact h.pos r (by simp [z])
  · rcases List.mem_append.mp hr with z | z
    · exact h.srt r (List.mem_append_left _ z)
    · rcases List.mem_cons.mp z with z | z
      · rw [z]; exact hm.srt
      · exact h.srt r (by simp [z])
  · have hp := h.pnd
    rw [starts_append, Nat.zero_add] at hp
    obtain ⟨A, B, rfl, hA, hB⟩ := List.map_eq_append_iff.mp hp
    have lA : A.length = R1.length := by have := congrArg List.length hA; rwa [List.length_map, starts_length] at this
    rw [starts, starts] at hB
    match B, hB with
    | [], hB => simp at hB
    | [_], hB => simp at hB
    | x :: y :: B, hB =>
      simp only [List.map_cons, List.cons.injEq] at hB
      obtain ⟨_, _, hB⟩ := hB
      have e1 : (A ++ x :: y :: B).set R1.length (R1.flatten.length, r1.length + r2.length, p) = A ++ (R1.flatten.length, r1.length + r2.length, p) :: y :: B := by
        rw [List.set_append_right _ _ (by omega), lA, Nat.sub_self]; rfl
      have e2 : (A ++ (R1.flatten.length, r1.length + r2.length, p) :: y :: B).eraseIdx (R1.length + 1) = A ++ (R1.flatten.length, r1.length + r2.length, p) :: B := by
        rw [List.eraseIdx_append_of_length_le (by omega), lA, Nat.add_sub_cancel_left]; rfl
      rw [e1, e2, List.map_append, List.map_cons, hA, hB, starts_append, starts, ml]
      simp only [Nat.zero_add, pr]
      rw [Nat.add_assoc]
theorem wpS_mergeRuns {st : SortSt} {R1 R2 : List (List Keyed)} {r1 r2 T : List Keyed} {Q : Bool → SortSt → Prop} (hO : LtAt κ kx prog w A s) (hk : kindOf st = kx) (hf : failedOf st = none) (hK : ∀ x ∈ (arrOf st).toList, Kd κ x) (h : Rn κ (arrOf st).toList (pendingOf st).toList (R1 ++ r1 :: r2 :: R2) T)
    (hq : ∀ m xs pend g, xs.Perm (arrOf st) → Rn κ xs.toList pend.toList (R1 ++ m :: R2) T → xs.toList.drop (R1 ++ r1 :: r2 :: R2).flatten.length = T → Q true (SortSt.mk' (kindOf st) xs pend g (failedOf st))) : wpS (model prog w) A E s (mergeAt' R1.length) Q st := by
  have hp := h.pnd
  rw [starts_append, Nat.zero_add] at hp
  obtain ⟨PA, PB, hAB, hA, hB⟩ := List.map_eq_append_iff.mp hp
  have lA : PA.length = R1.length := by have := congrArg List.length hA; rwa [List.length_map, starts_length] at this
  rw [starts, starts] at hB
  match PB, hB with
  | [], hB => simp at hB
  | [_], hB => simp at hB
  | x :: y :: PB, hB =>
    simp only [List.map_cons, List.cons.injEq] at hB
    obtain ⟨hx, hy, _⟩ := hB
    obtain ⟨x1, x2, x3⟩ := x
    obtain ⟨y1, y2, y3⟩ := y
    cases hx
    cases hy
    have ea : (arrOf st).toList = R1.flatten ++ (r1 ++ (r2 ++ (R2.flatten ++ T))) := by rw [h.eq]; simp [List.append_assoc]
    refine wpS_mergeAt (P := R1.flatten) (r1 := r1) (r2 := r2) (S := R2.flatten ++ T) (p := x3) (q := y3) hO hk hf hK ea ?_ ?_ (h.pos r1 (by simp)) (h.pos r2 (by simp)) (h.srt r1 (by simp)) (h.srt r2 (by simp)) fun m xs g hm hxs => ?_
    · rw [← Array.getElem?_toList, hAB, List.getElem?_append_right (by omega), lA, Nat.sub_self]; rfl
    · rw [← Array.getElem?_toList, hAB, List.getElem?_append_right (by omega), lA, Nat.add_sub_cancel_left]; rfl
    · have ml : m.length = r1.length + r2.length := by rw [hm.perm.length_eq, List.length_append]
      have hr := h.merge (p := x3) hm hxs
      refine hq m xs _ g ?_ (by rw [Array.toList_eraseIdxIfInBounds, Array.toList_setIfInBounds]; exact hr) ?_
      · rw [Array.perm_iff_toList_perm, hxs, ea]
        refine List.Perm.append_left _ ?_
        rw [← List.append_assoc r1]
        exact hm.perm.append_right _
      · rw [hxs]
        simp only [List.flatten_append, List.flatten_cons, ← List.append_assoc]
        exact List.drop_left' (by simp [ml]; omega)
end
end L2
set_option Elab.async false
set_option linter.all false
set_option maxRecDepth 100000
set_option maxHeartbeats 4000000
namespace L2
open PySem PySem.Spec PyProof.Rows
section
variable {prog : Program} {w : World} {A : Around} {E : Value → Shared → Prop} {s : Shared} {κ : KeyKind} {kx : SortKind}
theorem Kp.take {lo : Nat} {xs ys : Array Keyed} (h : Kp lo xs ys) (hl : lo ≤ xs.size) : ys.toList.take lo = xs.toList.take lo := by
  refine List.ext_getElem? fun i => ?_
  rw [List.getElem?_take, List.getElem?_take]
  by_cases c : i < lo
  · rw [if_pos c, if_pos c, Array.getElem?_toList, Array.getElem?_toList]; exact h.keep i c
  · rw [if_neg c, if_neg c]
theorem seg_run {lo n : Nat} {xs : Array Keyed} {F T : List Keyed} (hF : xs.toList.take lo = F) (hn : lo + n ≤ xs.size) (hs : SegS κ xs lo n) : ∃ R T', xs.toList = F ++ (R ++ T') ∧ R.length = n ∧ Srt κ R := by
  refine ⟨(xs.toList.drop lo).take n, (xs.toList.drop lo).drop n, ?_, ?_, ?_⟩
  · rw [List.take_append_drop, ← hF, List.take_append_drop]
  · rw [List.length_take, List.length_drop, Array.length_toList]; omega
  · refine List.pairwise_iff_getElem.mpr fun i j hi hj hij => ?_
    rw [List.length_take, List.length_drop, Array.length_toList] at hi hj
    have := hs i j (by omega) (by omega)
    rw [KK_kOf (by omega), KK_kOf (by omega)] at this
    simpa using this
theorem Rn.push {l l' : List Keyed} {pend : List (Nat × Nat × Nat)} {runs : List (List Keyed)} {R T T' : List Keyed} {lo n p : Nat} (h : Rn κ l pend runs T) (hl : l' = runs.flatten ++ (R ++ T')) (hlo : runs.flatten.length = lo) (hn : R.length = n) (h0 : 0 < n) (hs : Srt κ R) : Rn κ l' (pend ++ [(lo, n, p)]) (runs ++ [R]) T' := by
  refine ⟨by rw [hl]; simp [List.append_assoc], fun r hr => ?_, fun r hr => ?_, ?_⟩
  · rcases List.mem_append.mp hr with z | z
    · exact h.pos r z
    · rw [List.mem_singleton.mp z]; omega
  · rcases List.mem_append.mp hr with z | z
    · exact h.srt r z
    · rw [List.mem_singleton.mp z]; exact hs
  · rw [List.map_append, h.pnd, starts_append, Nat.zero_add, starts, starts, hlo, hn]; rfl
structure So (κ : KeyKind) (kx : SortKind) (st st' : SortSt) (runs : List (List Keyed)) (T : List Keyed) : Prop where
  kind : kindOf st' = kx
  failed : failedOf st' = none
  perm : (arrOf st').Perm (arrOf st)
  rn : Rn κ (arrOf st').toList (pendingOf st').toList runs T
theorem So.kd {st st' : SortSt} {runs : List (List Keyed)} {T : List Keyed} (h : So κ kx st st' runs T) (hK : ∀ x ∈ arrOf st, Kd κ x) : ∀ x ∈ arrOf st', Kd κ x := fun x hx => hK x (h.perm.mem_iff.mp hx)
theorem split2 {α : Type} : ∀ (l : List α) (i : Nat), i + 1 < l.length → ∃ A x y B, l = A ++ x :: y :: B ∧ A.length = i
  | x :: y :: B, 0, _ => ⟨[], x, y, B, rfl, rfl⟩
  | x :: l, i + 1, h => by
    obtain ⟨A, u, v, B, e, hl⟩ := split2 l i (by simpa using h)
    exact ⟨x :: A, u, v, B, by rw [e]; rfl, by rw [List.length_cons, hl]⟩
  | [_], 0, h => by simp at h
  | [], _, h => by simp at h
theorem wpS_mergeSo {st st' : SortSt} {runs : List (List Keyed)} {T : List Keyed} {i : Nat} {Q : Bool → SortSt → Prop} (hO : LtAt κ kx prog w A s) (hK : ∀ x ∈ arrOf st, Kd κ x) (h : So κ kx st st' runs T) (hi : i + 1 < runs.length)
    (hq : ∀ st2 runs2, So κ kx st st2 runs2 T → runs2.length + 1 = runs.length → runs2.flatten.length = runs.flatten.length → Q true st2) : wpS (model prog w) A E s (mergeAt' i) Q st' := by
  obtain ⟨R1, r1, r2, R2, e, hl⟩ := split2 runs i hi
  subst e hl
  refine wpS_mergeRuns hO h.kind h.failed (fun x hx => h.kd hK x (by simpa using hx)) h.rn fun m xs pend g hp hr hd => ?_
  refine hq _ (R1 ++ m :: R2) ⟨h.kind, h.failed, hp.trans h.perm, hr⟩ (by simp; omega) ?_
  have e1 := congrArg List.length hr.eq
  have e2 := congrArg List.length h.rn.eq
  rw [List.length_append, Array.length_toList] at e1 e2
  have := hp.size_eq
  show (R1 ++ m :: R2).flatten.length = _
  have e3 : xs.size = (arrOf st').size := this
  omega
theorem map_modify {l : List (Nat × Nat × Nat)} {i : Nat} {f : Nat × Nat × Nat → Nat × Nat × Nat} (hf : ∀ x, pr (f x) = pr x) : (l.modify i f).map pr = l.map pr := by
  refine List.ext_getElem? fun j => ?_
  rw [List.getElem?_map, List.getElem?_map, List.getElem?_modify]
  cases l[j]? with
  | none => rfl
  | some x =>
    by_cases c : i = j
    · simp [c, hf]
    · simp [c]
theorem wpS_sortRunsA {st : SortSt} {Q : Unit → SortSt → Prop} (hO : LtAt κ kx prog w A s) (hk : kindOf st = kx) (hf : failedOf st = none) (hp : pendingOf st = #[]) (hK : ∀ x ∈ arrOf st, Kd κ x)
    (h : ∀ st', (arrOf st').Perm (arrOf st) → failedOf st' = none → Srt κ (arrOf st').toList → Q () st') : wpS (model prog w) A E s sortRuns' Q st := by
  rw [sortRuns'_eq]
  refine wpS_bind (wpS_get ?_)
  dsimp only
  generalize minRun' (arrOf st).size (arrOf st).size 0 = mr
  generalize hsize : (arrOf st).size = size
  refine wpS_bind (wpS_mono (wpS_forRange
    (I := fun x c st' => ∃ lo runs T, c = (none, lo) ∧ So κ kx st st' runs T ∧ runs.flatten.length = lo ∧ x ≤ lo ∧ lo ≤ size)
    (Q := fun c st' => ∃ runs, c = (none, size) ∧ So κ kx st st' runs []) ?step ?fin ⟨0, [], (arrOf st).toList, rfl, ⟨hk, hf, Array.Perm.refl _, ⟨rfl, by simp, by simp, by rw [hp]; rfl⟩⟩, rfl, by omega, by omega⟩) ?post)
  case fin =>
    rintro c st' ⟨lo, runs, T, rfl, hS, hl, h1, h2⟩
    have e : lo = size := by omega
    have hT : T = [] := by
      have e1 := congrArg List.length hS.rn.eq
      rw [List.length_append, Array.length_toList, hS.perm.size_eq] at e1
      exact List.eq_nil_of_length_eq_zero (by omega)
    subst hT
    exact ⟨runs, by rw [e], hS⟩
  case post =>
    rintro c st' ⟨runs, rfl, hS⟩
    dsimp only
    have hsz : (arrOf st').size = size := hS.perm.size_eq.trans hsize
    have hfl : runs.length ≤ size := by
      have e1 := congrArg List.length hS.rn.eq
      rw [List.append_nil, Array.length_toList] at e1
      have := flat_len runs hS.rn.pos
      omega
    refine wpS_bind (wpS_mono (wpS_forRange (I := fun x c st2 => c = (none, ()) ∧ ∃ runs2, So κ kx st st2 runs2 [] ∧ runs2.length + x ≤ size) (Q := fun c st2 => c = (none, ()) ∧ ∃ runs2, So κ kx st st2 runs2 [] ∧ runs2.length ≤ 1) ?step2 ?fin2 ⟨rfl, runs, hS, by omega⟩) ?post2)
    case fin2 =>
      rintro c st2 ⟨hc, runs2, h1, h2⟩
      exact ⟨hc, runs2, h1, by omega⟩
    case post2 =>
      rintro c st2 ⟨rfl, runs2, h1, h2⟩
      refine wpS_pure (h st2 h1.perm h1.failed ?_)
      rw [h1.rn.eq, List.append_nil]
      match runs2, h1.rn.srt, h2 with
      | [], _, _ => exact List.Pairwise.nil
      | [r], hs, _ => simpa using hs r (by simp)
      | _ :: _ :: _, _, h2 => simp at h2
    case step2 =>
      rintro x c st2 _ hx ⟨rfl, runs2, h1, h2⟩
      refine wpS_bind (wpS_get ?_)
      have hlen : (pendingOf st2).size = runs2.length := by have := h1.rn.len; rwa [Array.length_toList] at this
      by_cases hle : (pendingOf st2).size ≤ 1
      · rw [if_pos hle]
        exact wpS_pure ⟨rfl, runs2, h1, by omega⟩
      rw [if_neg hle]
      have go : ∀ i, i + 1 < runs2.length → wpS (model prog w) A E s (do
          let b ← mergeAt' i
          if (!b) = true then pure (ForInStep.done (some (), ())) else pure (ForInStep.yield (none, ()))) (fun r st3 => match r with
            | ForInStep.done c => c = (none, ()) ∧ ∃ runs2, So κ kx st st3 runs2 [] ∧ runs2.length ≤ 1
            | ForInStep.yield c => c = (none, ()) ∧ ∃ runs2, So κ kx st st3 runs2 [] ∧ runs2.length + (x + 1) ≤ size) st2 := fun i hi => by
        refine wpS_bind (wpS_mergeSo hO hK h1 hi fun st3 runs3 h3 h4 _ => ?_)
        exact wpS_pure ⟨rfl, runs3, h3, by omega⟩
      have hif : ∀ (p : Prop) [Decidable p] (a b : Nat), a + 1 < runs2.length → b + 1 < runs2.length → (if p then a else b) + 1 < runs2.length := fun p _ a b ha hb => by split <;> assumption
      exact wpS_mono (go _ (hif _ _ _ (by omega) (by omega))) fun r st3 hr => by cases r <;> exact hr
  case step =>
    rintro x c st' _ hx ⟨lo, runs, T, rfl, hS, hl, h1, h2⟩
    dsimp only
    have hsz : (arrOf st').size = size := hS.perm.size_eq.trans hsize
    by_cases hge : lo ≥ size
    · rw [if_pos hge]
      have hT : T = [] := by
        have e1 := congrArg List.length hS.rn.eq
        rw [List.length_append, Array.length_toList] at e1
        exact List.eq_nil_of_length_eq_zero (by omega)
      subst hT
      exact wpS_pure ⟨runs, by rw [show lo = size by omega], hS⟩
    rw [if_neg hge]
    have hF : (arrOf st').toList.take lo = runs.flatten := by rw [hS.rn.eq, List.take_left' hl]
    refine wpS_bind (wpS_countRun hO hS.kind (hS.kd hK) (by omega) (by omega) fun m xs kp hm1 hm2 hseg => ?_)
    dsimp only
    have mkS : ∀ {n : Nat} {ys : Array Keyed}, Kp lo (arrOf st') ys → SegS κ ys lo n → lo + n ≤ size → ∃ R T', So κ kx st (setArr st' ys) runs (R ++ T') ∧ R.length = n ∧ Srt κ R := fun {n ys} k2 sg hn => by
      have e := k2.size
      obtain ⟨R, T', e1, e2, e3⟩ := seg_run (κ := κ) (F := runs.flatten) (T := T) ((k2.take (by omega)).trans hF) (by omega) sg
      exact ⟨R, T', ⟨hS.kind, hS.failed, k2.perm.trans hS.perm, ⟨e1, hS.rn.pos, hS.rn.srt, hS.rn.pnd⟩⟩, e2, e3⟩
    by_cases hlt : m < mr
    case' pos =>
      rw [if_pos hlt]
      refine wpS_bind (wpS_lift (wpAny_rule ⟨rfl, ?_⟩))
      refine wpS_bind (wpS_binary (st := setArr st' xs) hO hS.kind (kp.kd (hS.kd hK)) (by show lo + min (size - lo) mr ≤ xs.size; rw [kp.size]; omega) (by omega) hseg fun ys kp2 hs2 => ?_)
      rw [if_neg (by decide)]
      have hn0 : 0 < min (size - lo) mr := by omega
      have hnl : lo + min (size - lo) mr ≤ size := by omega
      obtain ⟨R, T', hS2, eR, sR⟩ := mkS (kp.trans kp2) hs2 hnl
      generalize min (size - lo) mr = n at hn0 hnl eR hs2 ⊢
      generalize setArr (setArr st' xs) ys = st2 at hS2 ⊢
    case' neg =>
      rw [if_neg hlt]
      obtain ⟨R, T', hS2, eR, sR⟩ := mkS kp hseg (by omega)
      have hn0 : 0 < m := by omega
      have hnl : lo + m ≤ size := by omega
      generalize m = n at hn0 hnl eR hseg ⊢
      generalize setArr st' xs = st2 at hS2 ⊢
    all_goals
      refine wpS_bind (wpS_get ?_)
      cases hb : (pendingOf st2).back? with
      | none =>
        refine wpS_bind (wpS_modify (wpS_pure ⟨lo + n, runs ++ [R], T', rfl, ⟨hS2.kind, hS2.failed, hS2.perm, ?_⟩, by simp [hl, eR], by omega, hnl⟩))
        show Rn κ (arrOf st2).toList ((pendingOf st2).push (lo, n, 0)).toList _ _
        rw [Array.toList_push]
        exact hS2.rn.push hS2.rn.eq hl eR hn0 sR
      | some b =>
        obtain ⟨s1, n1, p1⟩ := b
        dsimp only
        refine wpS_bind (wpS_mono (wpS_forRange (I := fun _ c st3 => c = (none, ()) ∧ ∃ runs3, So κ kx st st3 runs3 (R ++ T') ∧ runs3.flatten.length = lo) (Q := fun c st3 => c = (none, ()) ∧ ∃ runs3, So κ kx st st3 runs3 (R ++ T') ∧ runs3.flatten.length = lo) ?istep ?ifin ⟨rfl, runs, hS2, hl⟩) ?ipost)
        case ifin => exact fun _ _ hh => hh
        case istep =>
          rintro x3 c3 st3 _ _ ⟨rfl, runs3, hS3, hl3⟩
          refine wpS_bind (wpS_get ?_)
          have hlen : (pendingOf st3).size = runs3.length := by have := hS3.rn.len; rwa [Array.length_toList] at this
          by_cases hp1 : (pendingOf st3).size > 1
          · rw [if_pos hp1, getElem?_pos (pendingOf st3) ((pendingOf st3).size - 2) (by omega)]
            dsimp only
            split
            · exact wpS_pure ⟨rfl, runs3, hS3, hl3⟩
            · refine wpS_bind (wpS_mergeSo hO hK hS3 (by omega) fun st4 runs4 h4 _ h5 => ?_)
              exact wpS_pure ⟨rfl, runs4, h4, by omega⟩
          · rw [if_neg hp1]
            exact wpS_pure ⟨rfl, runs3, hS3, hl3⟩
        case ipost =>
          rintro c3 st3 ⟨rfl, runs3, hS3, hl3⟩
          refine wpS_bind (wpS_modify (wpS_bind (wpS_modify (wpS_pure ⟨lo + n, runs3 ++ [R], T', rfl, ⟨hS3.kind, hS3.failed, hS3.perm, ?_⟩, by simp [hl3, eR], by omega, hnl⟩))))
          show Rn κ (arrOf st3).toList (((pendingOf st3).modify ((pendingOf st3).size - 1) _).push (lo, n, 0)).toList _ _
          rw [Array.toList_push, Array.toList_modify]
          have hr : Rn κ (arrOf st3).toList ((pendingOf st3).toList.modify ((pendingOf st3).size - 1) fun x => (x.1, x.2.1, power' size (2 * s1 + n1) (2 * s1 + n1 + n1 + n) size)) runs3 (R ++ T') := ⟨hS3.rn.eq, hS3.rn.pos, hS3.rn.srt, (by refine Eq.trans (map_modify ?_) hS3.rn.pnd; exact fun _ => rfl)⟩
          exact hr.push hr.eq hl3 eR hn0 sR
end
end L2
set_option Elab.async false
set_option linter.all false
set_option maxRecDepth 100000
set_option maxHeartbeats 4000000
namespace L2
open PySem PySem.Spec PyProof.Rows
section
variable {prog : Program} {w : World} {A : Around} {E : Value → Shared → Prop} {s : Shared}
theorem srt_to {κ : KeyKind} {xs : Array Keyed} (h : Srt κ xs.toList) : SortedToK κ xs xs.size := fun i j hij hj => by
  rw [KK_kOf (by omega), KK_kOf hj]
  exact h.at hij hj
def Kps (a : Addr) (s s2 : Shared) : Prop := ∀ b o, b ≠ a → s.heap.get? b = some o → s2.heap.get? b = some o
theorem list_sort_treeA {κ : KeyKind} {kx : SortKind} {a : Addr} {vs : List Value} {n : Nat} {P : PySem.Fin → Shared → Prop} (ho : s.heap.get? a = some (seqObj "list" vs.toArray n))
    (h0 : KeysOf κ (pairsOf vs)) (hO : ∀ s2, Kps a s s2 → LtAt κ kx prog w A s2) (hkk : ∀ s2, Kps a s s2 → 2 ≤ vs.length → wpAny (model prog w) A (keyKind' vs.toArray) (fun k s3 => k = kx ∧ s3 = s2) E s2) (hmx : vs.length ≤ 1000)
    (h : ∀ st' : SortSt, (arrOf st').Perm (pairsOf vs) → SortedToK κ (arrOf st') (pairsOf vs).size → P (.done (.ret .none)) { s with heap := sortedHeap s.heap a vs ((arrOf st').map (·.2)) }) :
    wpAny (model prog w) A (Builtin.«list.sort» ⟨[.ref a], []⟩) P E s := by
  rw [list_sort_plain]
  have ha : a < s.heap.objs.size := Heap.lt_size ho
  refine wpAny_bind (listItems_at ho rfl ?_)
  refine wpAny_bind (listUpdate_at ho rfl ?_)
  obtain ⟨e1, ho1⟩ : ∃ e1, (s.heap.update a (Obj.mapSeq fun _ => #[])).get? a = some (seqObj "list" #[] e1) := ⟨_, get?_update_seq ho (fun _ => #[])⟩
  refine wpAny_bind (seqEpoch_at ho1 rfl ?_)
  refine wpAny_bind (wpAny_newTuple ?_)
  refine wpAny_bind (wpAny_newList ?_)
  refine wpAny_holding ?_
  have ho6 : (((s.heap.update a (Obj.mapSeq fun _ => #[])).push (seqObj "tuple" vs.toArray 0)).push (seqObj "list" #[] 0)).get? a = some (seqObj "list" #[] e1) := by
    rw [Heap.get?_push_ne _ _ _ (by rw [size_push', Heap.size_update]; exact Nat.ne_of_lt (Nat.lt_succ_of_lt ha)), Heap.get?_push_ne _ _ _ (by rw [Heap.size_update]; exact Nat.ne_of_lt ha)]
    exact ho1
  show wpAny (model prog w) A _ P E { s with heap := ((s.heap.update a (Obj.mapSeq fun _ => #[])).push (seqObj "tuple" vs.toArray 0)).push (seqObj "list" #[] 0) }
  dsimp only
  have hK2 : Kps a s { s with heap := ((s.heap.update a (Obj.mapSeq fun _ => #[])).push (seqObj "tuple" vs.toArray 0)).push (seqObj "list" #[] 0) } := fun b o hb hg => by
    have hlt := Heap.lt_size hg
    show (((s.heap.update a (Obj.mapSeq fun _ => #[])).push (seqObj "tuple" vs.toArray 0)).push (seqObj "list" #[] 0)).get? b = some o
    rw [Heap.get?_push_ne _ _ _ (by rw [size_push', Heap.size_update]; exact Nat.ne_of_lt (Nat.lt_succ_of_lt hlt)), Heap.get?_push_ne _ _ _ (by rw [Heap.size_update]; exact Nat.ne_of_lt hlt), Heap.get?_update_ne _ _ _ _ hb]
    exact hg
  have hsz : vs.toArray.size = vs.length := by simp
  by_cases h2 : vs.toArray.size < 2
  · rw [if_pos h2, if_pos h2]
    refine wpAny_bind (wpAny_pure ?_)
    rw [StateT.run_pure]
    refine wpAny_bind (wpAny_pure ?_)
    dsimp only
    refine wpAny_bind (seqEpoch_at ho6 rfl ?_)
    refine wpAny_bind (listUpdate_at ho6 rfl ?_ (hsz2 := by rw [Array.size_map]; show (pairsOf vs).size ≤ _; rw [pairsOf_size, sizeLine_eq]; omega))
    simp only [bne_self_eq_false, Bool.false_eq_true, if_false]
    refine wpAny_pure (h (SortSt.mk' general' (vs.toArray.zip vs.toArray) #[] 7 none) (Array.Perm.refl _) ?_)
    intro i j hij hj
    have : i = j := by rw [pairsOf_size] at hj; omega
    subst this; exact KeyOrd.kle_refl _
  · rw [if_neg h2, if_neg h2]
    obtain ⟨v₁, v₂, rest, rfl⟩ : ∃ v₁ v₂ rest, vs = v₁ :: v₂ :: rest := by
      match vs, hsz, h2 with
      | [], _, h2 => simp at h2
      | [_], _, h2 => simp at h2
      | v₁ :: v₂ :: rest, _, _ => exact ⟨v₁, v₂, rest, rfl⟩
    refine wpAny_bind (wpAny_mono (hkk _ hK2 (by simp)) (fun k s3 hk => ?_) fun _ _ e => e)
    obtain ⟨rfl, rfl⟩ := hk
    refine wpAny_bind (wpAny_mono (wpS_sortRunsA (κ := κ) (hO _ hK2) (st := SortSt.mk' _ ((v₁ :: v₂ :: rest).toArray.zip (v₁ :: v₂ :: rest).toArray) #[] 7 none)
      (Q := fun _ st' => (arrOf st').Perm (pairsOf (v₁ :: v₂ :: rest)) ∧ failedOf st' = none ∧ SortedToK κ (arrOf st') (pairsOf (v₁ :: v₂ :: rest)).size)
      rfl rfl rfl (fun x hx => h0 x (Array.mem_toList_iff.2 hx)) fun st' a1 a2 a3 => ⟨a1, a2, by have := srt_to a3; rwa [a1.size_eq] at this⟩) ?_ fun _ _ e => e)
    rintro ⟨⟨⟩, st'⟩ s' ⟨rfl, hp, hf, hs⟩
    dsimp only
    refine wpAny_bind (seqEpoch_at ho6 rfl ?_)
    refine wpAny_bind (listUpdate_at ho6 rfl ?_ (hsz2 := by refine Nat.le_trans (Nat.le_of_eq ((Array.size_map ..).trans (hp.size_eq.trans (pairsOf_size _)))) ?_; rw [sizeLine_eq]; omega))
    rw [hf]
    simp only [bne_self_eq_false, Bool.false_eq_true, if_false]
    exact wpAny_pure (h st' hp hs)
theorem sortedKA {κ : KeyKind} {kx : SortKind} {l : Addr} {vs : List Value} {Q : Value → Shared → Prop} (hl : s.heap.IsList l vs.toArray) (h0 : KeysOf κ (pairsOf vs))
    (hO : ∀ s2, (∀ b o, s.heap.get? b = some o → s2.heap.get? b = some o) → LtAt κ kx prog w A.in1.in1 s2) (hkk : ∀ s2 E, (∀ b o, s.heap.get? b = some o → s2.heap.get? b = some o) → 2 ≤ vs.length → wpAny (model prog w) A.in1.in1 (keyKind' vs.toArray) (fun k s3 => k = kx ∧ s3 = s2) E s2) (hmx : vs.length ≤ 1000)
    (h : ∀ st' : SortSt, (arrOf st').Perm (pairsOf vs) → SortedToK κ (arrOf st') (pairsOf vs).size → Q (.ref (s.heap.objs.size + 1)) { s with heap := sortedAll s.heap vs ((arrOf st').map (·.2)) }) :
    wpAny (model prog w) A (call (.builtin "sorted") [.ref l]) Q E s := by
  refine Calls.call_function_entry kind_sorted plain_sorted entry_sorted (args_sorted1 _) ?_
  unfold Builtin.«sorted»
  refine wpAny_bind (m := checkCount "sorted" 1 1 _) (wpAny_pure ?_)
  refine wpAny_bind (collect_list hl ?_)
  refine wpAny_bind (wpAny_newList ?_)
  have hsz : ((s.heap.push (seqObj "list" #[] 0)).update s.heap.objs.size (Obj.mapSeq (· ++ vs.toArray))).objs.size = s.heap.objs.size + 1 := by
    rw [Heap.size_update, size_push']
  have hoL : (((s.heap.push (seqObj "list" #[] 0)).update s.heap.objs.size (Obj.mapSeq (· ++ vs.toArray))).push (seqObj "list" vs.toArray 0)).get? (s.heap.objs.size + 1) = some (seqObj "list" vs.toArray 0) := by
    rw [← hsz]; exact Heap.get?_push_size _ rfl
  show wpAny _ _ _ _ _ { s with heap := ((s.heap.push (seqObj "list" #[] 0)).update s.heap.objs.size (Obj.mapSeq (· ++ vs.toArray))).push (seqObj "list" vs.toArray 0) }
  rw [hsz]
  have kk : ∀ b o, s.heap.get? b = some o → b ≠ s.heap.objs.size + 1 ∧ (((s.heap.push (seqObj "list" #[] 0)).update s.heap.objs.size (Obj.mapSeq (· ++ vs.toArray))).push (seqObj "list" vs.toArray 0)).get? b = some o := fun b o hg => by
    have hlt := Heap.lt_size hg
    refine ⟨Nat.ne_of_lt (Nat.lt_succ_of_lt hlt), ?_⟩
    rw [Heap.get?_push_ne _ _ _ (by rw [hsz]; exact Nat.ne_of_lt (Nat.lt_succ_of_lt hlt)), Heap.get?_update_ne _ _ _ _ (Nat.ne_of_lt hlt), Heap.get?_push_ne _ _ _ (Nat.ne_of_lt hlt)]
    exact hg
  refine wpAny_bind (wpAny_holding (wpAny_call_entry slot_list_sort ⟨_, hoL, rfl⟩ entry_list_sort (list_sort_treeA hoL h0 (fun s2 h2 => hO s2 fun b o hg => h2 b o (kk b o hg).1 (kk b o hg).2) (fun s2 h2 => hkk s2 _ fun b o hg => h2 b o (kk b o hg).1 (kk b o hg).2) hmx fun st' a1 a2 => ⟨_, rfl, ?_⟩) (args_list_sort _)))
  exact wpAny_pure ⟨_, rfl, h st' a1 a2⟩
end
section
variable {X : Cx}
def rSortedA (P : Program) (w : World) (K : PySem.W.Frag) : List V → Hp → VK → Prop := fun xs H Q => ∃ (a : Addr) (us : List Str), xs = [.ref a] ∧ (H a = some (SetO P w a us) ∨ SqL K H a (us.map V.str)) ∧ us.length ≤ 1000 ∧
  ∀ l vs, H l = none → sortedS vs = true → vs.Perm us → Q (.ref l) (upd H l (.lst (vs.map V.str)))
variable {P : Program} {w : World} {K : PySem.W.Frag} {H : Hp} {Q : VK} {p : Addr}
theorem w_sortedA : rSortedA P w K [.ref p] H Q = ∃ us : List Str, (H p = some (SetO P w p us) ∨ SqL K H p (us.map V.str)) ∧ us.length ≤ 1000 ∧ ∀ l vs, H l = none → sortedS vs = true → vs.Perm us → Q (.ref l) (upd H l (.lst (vs.map V.str))) := by
  refine propext ⟨fun ⟨_, us, e, h⟩ => ?_, fun ⟨us, h⟩ => ⟨p, us, rfl, h⟩⟩
  cases e; exact ⟨us, h⟩
end
end L2
set_option Elab.async false
set_option linter.all false
set_option maxRecDepth 100000
set_option maxHeartbeats 4000000
namespace L2
open PySem PySem.Spec PyProof.Rows PySem.SeqAt
open AutoSeq1 (wpAny_loadPart')
open MeetsSeq MeetsSeq2 MeetsSeq3 SeqRoads2
def LtA (A : Around) (s : Shared) (u v : Value) (b : Bool) : Prop := ∀ (prog : Program) (w : World) (E : Value → Shared → Prop) (Q : Value → Shared → Prop), Q (.bool b) s → wpAny (model prog w) A (richCompare .Lt u v) Q E s
section
variable {A : Around} {s : Shared}
theorem LtA.int (i j : Int) (t u : Tok) : LtA A s (.int i t) (.int j u) (decide (i < j)) := fun prog w E Q h => wpAny_lt_int h
theorem LtA.str (x y : Str) (t u : Tok) : LtA A s (.str x t) (.str y u) (decide (x.cps.toList < y.cps.toList)) := fun prog w E Q h =>
  wpAny_richCompare_same (op := .Lt) (T := "str") (typeIs_str s x t) (typeIs_str s y u) slot_str_lt (call_str_lt ⟨by simp, h⟩)
end
def lexB (e l : Nat → Bool) (z : Bool) : List Nat → Bool
  | [] => z
  | i :: r => if e i then lexB e l z r else l i
theorem tuple_ltW (a b : Addr) (xs ys : Array Value) (n n2 : Nat) (d1 d2 : Option Addr) (s1 s2 : Array (Option Value)) (e l : Nat → Bool) :
    Meets (Builtin.«tuple.__lt__» ⟨[.ref a, .ref b], []⟩)
      (fun A R s => s.heap.get? a = some { cls := .type "tuple", dict := d1, data := .seq xs n, slots := s1 } ∧ s.heap.get? b = some { cls := .type "tuple", dict := d2, data := .seq ys n2, slots := s2 } ∧
        (∀ j (h1 : j < xs.size) (h2 : j < ys.size), EqAt A.in1 s xs[j] ys[j] (e j)) ∧ (∀ j (h1 : j < xs.size) (h2 : j < ys.size), e j = false → LtA A.in1 s xs[j] ys[j] (l j)) ∧
        R (.ok (.ret (.bool (lexB e l (decide (xs.size < ys.size)) (List.range (min xs.size ys.size)))))) s) :=
  .of_wp fun prog w A R s h => by
    obtain ⟨hp, g, d, tk, os⟩ := s
    obtain ⟨ha, hb, he, hlt, h⟩ := h
    have f2 := AutoSeq1.sub_tuple_tuple
    have hZ : (xs.toList.zip ys.toList).length = min xs.size ys.size := by simp
    wp_walk using wpAny_loadPart' ha, wpAny_loadPart' hb, wpAny_forIn_list _ (fun rest c s' => c.1 = none ∧ s' = ⟨hp, g, d, tk, os⟩ ∧ ∃ i, rest = (xs.toList.zip ys.toList).drop i ∧
      R (.ok (.ret (.bool (lexB e l (decide (xs.size < ys.size)) ((List.range (min xs.size ys.size)).drop i))))) ⟨hp, g, d, tk, os⟩) _
    case turn =>
      rintro ⟨y, x⟩ rest c s' ⟨hc, rfl, i, hz, hR⟩
      have hl : i < (xs.toList.zip ys.toList).length := by
        by_cases z : i < (xs.toList.zip ys.toList).length
        · exact z
        · rw [List.drop_of_length_le (by omega)] at hz; cases hz
      have hm : i < min xs.size ys.size := hZ ▸ hl
      have k1 : i < xs.size := by omega
      have k2 : i < ys.size := by omega
      rw [List.drop_eq_getElem_cons hl] at hz
      injection hz with hyx hrest
      obtain rfl : y = xs[i] := by have := congrArg Prod.fst hyx; simpa using this
      obtain rfl : x = ys[i] := by have := congrArg Prod.snd hyx; simpa using this
      have hd : (List.range (min xs.size ys.size)).drop i = i :: (List.range (min xs.size ys.size)).drop (i + 1) := by simp [List.drop_eq_getElem_cons, hm]
      rw [hd, lexB] at hR
      refine wpAny_bind (he i k1 k2 prog w _ _ ?_)
      cases hy : e i with
      | true =>
        rw [hy] at hR
        wp_walk
        exact ⟨rfl, rfl, i + 1, hrest, by simpa using hR⟩
      | false =>
        rw [hy] at hR
        simp only [Bool.not_false, if_true]
        refine wpAny_bind (wpAny_rule (wpAny_bind (hlt i k1 k2 hy prog w _ _ (wpAny_bind (wpAny_pure (wpAny_pure ?_))))))
        exact wpAny_pure ⟨_, rfl, by simpa using hR⟩
    case fin =>
      rintro ⟨c1, c2⟩ s' ⟨hc, rfl, i, hz, hR⟩
      simp only at hc
      subst hc
      have hge : min xs.size ys.size ≤ i := by
        by_cases z : i < (xs.toList.zip ys.toList).length
        · rw [List.drop_eq_getElem_cons z] at hz; cases hz
        · omega
      rw [List.drop_of_length_le (by simpa using hge), lexB] at hR
      wp_walk
      exact ⟨_, rfl, by simpa [Builtin.Tuple.tupleCompareSizes] using hR⟩
    case h =>
      exact ⟨rfl, rfl, 0, rfl, by simpa using h⟩
section
variable {A : Around} {s : Shared}
theorem LtA.tup {a b : Addr} {xs ys : Array Value} {e l : Nat → Bool} (ha : s.heap.IsTuple a xs) (hb : s.heap.IsTuple b ys) (hu : A.units < cLine)
    (he : ∀ j (h1 : j < xs.size) (h2 : j < ys.size), EqAt A.in1 s xs[j] ys[j] (e j)) (hl : ∀ j (h1 : j < xs.size) (h2 : j < ys.size), e j = false → LtA A.in1 s xs[j] ys[j] (l j)) :
    LtA A s (.ref a) (.ref b) (lexB e l (decide (xs.size < ys.size)) (List.range (min xs.size ys.size))) := fun prog w E Q h => by
  obtain ⟨⟨c1, d1, t1, s1⟩, ho, e1, n, e2⟩ := id ha
  obtain ⟨⟨c2, d2, t2, s2⟩, ho2, e3, n2, e4⟩ := id hb
  simp only at e1 e2 e3 e4
  subst e1 e2 e3 e4
  exact richCompare_meets_room (op := .Lt) ⟨_, ho, rfl⟩ ⟨_, ho2, rfl⟩ F.slot_tuple_lt F.entry_tuple_lt (F.args_tuple_lt_2 _ _) (tuple_ltW a b xs ys n n2 d1 d2 s1 s2 e l)
    ⟨ho, ho2, he, hl, (fun x => nomatch x), h⟩ hu
end
end L2
set_option Elab.async false
set_option linter.all false
set_option maxRecDepth 100000
set_option maxHeartbeats 4000000
namespace L2
open PySem PySem.Spec PyProof.Rows PySem.SeqAt
theorem keyLt'_tuples (b : Bool) (x y : Value) : keyLt' (tuples' b) x y = (do
    let xs ← Builtin.List.listItems x
    let ys ← Builtin.List.listItems y
    for ((p, q), i) in (xs.toList.zip ys.toList).zipIdx do
      if !(← eqBool p q) then return ← oneLt' (b && i == 0) p q
    return decide (xs.size < ys.size)) := rfl
section
variable {prog : Program} {w : World} {A : Around} {E : Value → Shared → Prop} {s : Shared}
theorem keyLt_two {a b : Addr} {x1 x2 y1 y2 : Value} {e1 e2 l1 l2 : Bool} {Q : Bool → Shared → Prop} (ha : s.heap.IsTuple a #[x1, x2]) (hb : s.heap.IsTuple b #[y1, y2])
    (h1 : EqAt A s x1 y1 e1) (h2 : EqAt A s x2 y2 e2) (k1 : e1 = false → ∀ (E : Value → Shared → Prop) (Q : Bool → Shared → Prop), Q l1 s → wpAny (model prog w) A (oneLt' true x1 y1) Q E s) (k2 : e2 = false → LtA A s x2 y2 l2) (h : Q (if e1 then (if e2 then false else l2) else l1) s) :
    wpAny (model prog w) A (keyLt' (tuples' true) (.ref a) (.ref b)) Q E s := by
  obtain ⟨o, ho, _, n, hd⟩ := ha
  obtain ⟨o2, ho2, _, n2, hd2⟩ := hb
  rw [keyLt'_tuples]
  refine wpAny_bind (listItems_at ho hd (wpAny_bind (listItems_at ho2 hd2 ?_)))
  simp only [List.zip_cons_cons, List.zip_nil_left, List.zipIdx_cons, List.zipIdx_nil, List.forIn_cons, List.forIn_nil, Nat.zero_add]
  refine wpAny_bind (wpAny_bind (wpAny_bind (h1 prog w _ _ ?_)))
  cases e1 with
  | false =>
    simp only [Bool.not_false, if_true]
    refine wpAny_bind (k1 rfl _ _ (wpAny_pure (wpAny_pure (wpAny_pure ?_))))
    simpa using h
  | true =>
    simp only [Bool.not_true, Bool.false_eq_true, if_false]
    refine wpAny_pure (wpAny_bind (wpAny_bind (h2 prog w _ _ ?_)))
    cases e2 with
    | false =>
      simp only [Bool.not_false, if_true]
      rw [show ((true && 1 == 0 : Bool)) = false from rfl, oneLt'_eq]
      simp only [Bool.false_eq_true, if_false]
      refine wpAny_bind (wpAny_bind (k2 rfl prog w _ _ (wpAny_truthy_bool (wpAny_pure (wpAny_pure (wpAny_pure ?_))))))
      simpa using h
    | true =>
      simp only [Bool.not_true, Bool.false_eq_true, if_false]
      refine wpAny_pure (wpAny_pure (wpAny_pure ?_))
      simpa using h
end
def rowLt (a b : List Nat × List Int) : Prop := a.1 < b.1 ∨ (a.1 = b.1 ∧ a.2 < b.2)
instance (a b : List Nat × List Int) : Decidable (rowLt a b) := by unfold rowLt; infer_instance
theorem rowLt_tri (a b : List Nat × List Int) : rowLt a b ∨ a = b ∨ rowLt b a := by
  by_cases h1 : a.1 < b.1
  · exact .inl (.inl h1)
  by_cases h2 : b.1 < a.1
  · exact .inr (.inr (.inl h2))
  have e : a.1 = b.1 := List.le_antisymm (List.not_lt.mp h2) (List.not_lt.mp h1)
  by_cases h3 : a.2 < b.2
  · exact .inl (.inr ⟨e, h3⟩)
  by_cases h4 : b.2 < a.2
  · exact .inr (.inr (.inr ⟨e.symm, h4⟩))
  exact .inr (.inl (Prod.ext e (List.le_antisymm (List.not_lt.mp h4) (List.not_lt.mp h3))))
theorem rowLt_irr (a : List Nat × List Int) : ¬ rowLt a a := fun h => by
  rcases h with h | ⟨_, h⟩
  · exact List.lt_irrefl _ h
  · exact List.lt_irrefl _ h
theorem rowLt_trans {a b c : List Nat × List Int} (h1 : rowLt a b) (h2 : rowLt b c) : rowLt a c := by
  rcases h1 with h1 | ⟨e1, h1⟩ <;> rcases h2 with h2 | ⟨e2, h2⟩
  · exact .inl (List.lt_trans h1 h2)
  · exact .inl (e2 ▸ h1)
  · exact .inl (e1 ▸ h2)
  · exact .inr ⟨e1.trans e2, List.lt_trans h1 h2⟩
def SecR (h : Heap) (f : Bool) (v : Value) (l : List Int) : Prop := match f with
  | false => ∃ i t, v = .int i t ∧ l = [i]
  | true => ∃ c xs, v = .ref c ∧ h.IsTuple c xs ∧ IntsAre xs.toList l
def RowR (h : Heap) (f : Bool) (v : Value) (k : List Nat × List Int) : Prop := ∃ a x t u l, v = .ref a ∧ h.IsTuple a #[.str x t, u] ∧ SecR h f u l ∧ k = (x.cps.toList, l)
theorem isTuple_uniq {h : Heap} {a : Addr} {xs ys : Array Value} (h1 : h.IsTuple a xs) (h2 : h.IsTuple a ys) : xs = ys := by
  obtain ⟨o, e1, _, n, d1⟩ := h1
  obtain ⟨o2, e2, _, n2, d2⟩ := h2
  rw [e1] at e2; cases e2
  rw [d1] at d2; cases d2; rfl
theorem intsUniq : ∀ {vs : List Value} {l m : List Int}, IntsAre vs l → IntsAre vs m → l = m
  | _, _, _, .nil, .nil => rfl
  | _, _, _, .cons n t h, .cons _ _ h' => by rw [intsUniq h h']
theorem SecR.uniq {h : Heap} {f : Bool} {v : Value} {l m : List Int} (h1 : SecR h f v l) (h2 : SecR h f v m) : l = m := by
  cases f with
  | false => obtain ⟨i, t, rfl, rfl⟩ := h1; obtain ⟨j, t', e, rfl⟩ := h2; cases e; rfl
  | true =>
    obtain ⟨c, xs, rfl, p, q⟩ := h1
    obtain ⟨c', ys, e, p', q'⟩ := h2
    cases e
    rw [isTuple_uniq p p'] at q
    exact intsUniq q q'
theorem RowR.uniq {h : Heap} {f : Bool} {v : Value} {k k' : List Nat × List Int} (h1 : RowR h f v k) (h2 : RowR h f v k') : k = k' := by
  obtain ⟨a, x, t, u, l, rfl, p, q, rfl⟩ := h1
  obtain ⟨a', x', t', u', l', e, p', q', rfl⟩ := h2
  cases e
  have e := isTuple_uniq p p'
  simp only [Array.mk.injEq, List.cons.injEq, Value.str.injEq, and_true] at e
  obtain ⟨⟨rfl, _⟩, rfl⟩ := e
  rw [q.uniq q']
open Classical in
noncomputable def rowKind (h : Heap) (f : Bool) : KeyKind where
  α := List Nat × List Int
  blt a b := decide (rowLt a b)
  irrefl a := by simpa using rowLt_irr a
  trans a b c h1 h2 := by simp only [decide_eq_true_eq] at *; exact rowLt_trans h1 h2
  negTrans a b c h := by
    simp only [decide_eq_true_eq] at *
    rcases rowLt_tri a b with z | rfl | z
    · exact .inl z
    · exact .inr h
    · exact .inr (rowLt_trans z h)
  total a b h1 h2 := by
    simp only [decide_eq_false_iff_not] at *
    rcases rowLt_tri a b with z | z | z
    · exact absurd z h1
    · exact z
    · exact absurd z h2
  keyOf v := if z : ∃ k, RowR h f v k then some z.choose else none
  dflt := ([], [])
theorem rowKind_some {h : Heap} {f : Bool} {v : Value} {k : List Nat × List Int} (hk : (rowKind h f).keyOf v = some k) : RowR h f v k := by
  unfold rowKind at hk
  simp only at hk
  split at hk
  · rename_i z; cases hk; exact z.choose_spec
  · cases hk
theorem rowKind_of {h : Heap} {f : Bool} {v : Value} {k : List Nat × List Int} (hk : RowR h f v k) : (rowKind h f).keyOf v = some k := by
  unfold rowKind
  simp only
  rw [dif_pos ⟨k, hk⟩]
  exact congrArg some ((⟨k, hk⟩ : ∃ k, RowR h f v k).choose_spec.uniq hk)
theorem intsItems {prog : Program} {w : World} : ∀ {vs : List Value} {l : List Int}, IntsAre vs l → ItemsAre (intKind prog w) l vs
  | _, _, .nil => .nil
  | _, _, .cons n t h => .cons (by simp [intKind, Value.isInt]) (intsItems h)
theorem ints_get : ∀ {vs : List Value} {l : List Int}, IntsAre vs l → ∀ (j : Nat) (h : j < vs.length), ∃ t, ∃ h' : j < l.length, vs[j] = .int l[j] t
  | _, _, .nil, j, h => by simp at h
  | _, _, .cons n t _, 0, _ => ⟨t, by simp, rfl⟩
  | _, _, .cons n t q, j + 1, h => by
    obtain ⟨t', h', e⟩ := ints_get q j (by simpa using h)
    exact ⟨t', by simpa using h', by simpa using e⟩
theorem ints_len : ∀ {vs : List Value} {l : List Int}, IntsAre vs l → vs.length = l.length
  | _, _, .nil => rfl
  | _, _, .cons n t q => by simp [ints_len q]
theorem lexB_ints : ∀ (l m : List Int) (e lt : Nat → Bool) (z : Bool) (k : Nat), (∀ j (h : j < l.length) (h' : j < m.length), e (k + j) = decide (l[j] = m[j])) → (∀ j (h : j < l.length) (h' : j < m.length), lt (k + j) = decide (l[j] < m[j])) → z = decide (l.length < m.length) →
    lexB e lt z ((List.range (min l.length m.length)).map (k + ·)) = decide (l < m)
  | [], [], e, lt, z, k, _, _, hz => by subst hz; rfl
  | [], b :: m, e, lt, z, k, _, _, hz => by subst hz; simp [lexB]
  | a :: l, [], e, lt, z, k, _, _, hz => by subst hz; simp [lexB]
  | a :: l, b :: m, e, lt, z, k, he, hl, hz => by
    have e0 := he 0 (by simp) (by simp)
    have l0 := hl 0 (by simp) (by simp)
    simp only [Nat.add_zero, List.getElem_cons_zero] at e0 l0
    have ih := lexB_ints l m e lt z (k + 1) (fun j h h' => by have := he (j + 1) (by simpa using h) (by simpa using h'); rw [show k + 1 + j = k + (j + 1) by omega]; simpa using this)
      (fun j h h' => by have := hl (j + 1) (by simpa using h) (by simpa using h'); rw [show k + 1 + j = k + (j + 1) by omega]; simpa using this) (by rw [hz]; simp)
    have hr : (List.range (min (a :: l).length (b :: m).length)).map (k + ·) = k :: (List.range (min l.length m.length)).map (k + 1 + ·) := by
      rw [List.length_cons, List.length_cons, Nat.succ_min_succ, List.range_succ_eq_map, List.map_cons, List.map_map, Nat.add_zero]
      congr 1
      exact List.map_congr_left fun j _ => by simp; omega
    rw [hr, lexB, e0, l0, ih]
    by_cases c : a = b
    · subst c; simp [List.cons_lt_cons_iff]
    · simp [c, List.cons_lt_cons_iff]
section
variable {A : Around} {s : Shared}
theorem SecR.eqAt {f : Bool} {u v : Value} {l m : List Int} (hu : A.units < cLine) (h1 : SecR s.heap f u l) (h2 : SecR s.heap f v m) : EqAt A s u v (decide (l = m)) := by
  cases f with
  | false =>
    obtain ⟨i, t, rfl, rfl⟩ := h1; obtain ⟨j, t', rfl, rfl⟩ := h2
    have : decide ([i] = [j]) = (i == j) := by simp [Bool.beq_eq_decide_eq]
    rw [this]; exact EqAt.int_int _ _ _ _
  | true =>
    obtain ⟨c, xs, rfl, p, q⟩ := h1
    obtain ⟨c', ys, rfl, p', q'⟩ := h2
    intro prog w E Q h
    obtain ⟨o, ho, hc, n, hd⟩ := p
    obtain ⟨o2, ho2, hc2, n2, hd2⟩ := p'
    exact wpAny_eqBool_tuple (knd := intKind prog w) hu ⟨o, xs, n, ho, hc, hd, intsItems q⟩ ⟨o2, ys, n2, ho2, hc2, hd2, intsItems q'⟩ h
theorem SecR.ltA {f : Bool} {u v : Value} {l m : List Int} (hu : A.units < cLine) (h1 : SecR s.heap f u l) (h2 : SecR s.heap f v m) : LtA A s u v (decide (l < m)) := by
  cases f with
  | false =>
    obtain ⟨i, t, rfl, rfl⟩ := h1; obtain ⟨j, t', rfl, rfl⟩ := h2
    have : decide ([i] < [j]) = decide (i < j) := by simp [List.cons_lt_cons_iff]
    rw [this]; exact LtA.int _ _ _ _
  | true =>
    obtain ⟨c, xs, rfl, p, q⟩ := h1
    obtain ⟨c', ys, rfl, p', q'⟩ := h2
    have z := LtA.tup (A := A) (e := fun j => decide (l[j]? = m[j]?)) (l := fun j => decide (l.getD j 0 < m.getD j 0)) p p' hu (fun j k1 k2 => by
        obtain ⟨t, g1, e1⟩ := ints_get q j (by simpa using k1)
        obtain ⟨t', g2, e2⟩ := ints_get q' j (by simpa using k2)
        have z1 : xs[j] = .int l[j] t := by simpa using e1
        have z2 : ys[j] = .int m[j] t' := by simpa using e2
        rw [z1, z2]
        have : decide (l[j]? = m[j]?) = (l[j] == m[j]) := by simp [g1, g2, Bool.beq_eq_decide_eq]
        rw [this]; exact EqAt.int_int _ _ _ _) (fun j k1 k2 _ => by
        obtain ⟨t, g1, e1⟩ := ints_get q j (by simpa using k1)
        obtain ⟨t', g2, e2⟩ := ints_get q' j (by simpa using k2)
        have z1 : xs[j] = .int l[j] t := by simpa using e1
        have z2 : ys[j] = .int m[j] t' := by simpa using e2
        rw [z1, z2]
        have : decide (l.getD j 0 < m.getD j 0) = decide (l[j] < m[j]) := by simp [List.getD, g1, g2]
        rw [this]; exact LtA.int _ _ _ _)
    have n1 : xs.size = l.length := by have := ints_len q; simpa using this
    have n2 : ys.size = m.length := by have := ints_len q'; simpa using this
    rw [n1, n2] at z
    have k := lexB_ints l m (fun j => decide (l[j]? = m[j]?)) (fun j => decide (l.getD j 0 < m.getD j 0)) (decide (l.length < m.length)) 0 (fun j h h' => by simp [h, h']) (fun j h h' => by simp [List.getD, h, h']) rfl
    rw [show ((List.range (min l.length m.length)).map (0 + ·)) = List.range (min l.length m.length) by simp] at k
    rw [k] at z
    exact z
theorem strCps {x y : Str} (h : x.cps.toList = y.cps.toList) : x = y := by
  cases x; cases y; simp only [Str.mk.injEq]; exact Array.ext' h
theorem ltAt_rows {prog : Program} {w : World} {h : Heap} {f : Bool} (hu : A.units < cLine) (hk : ∀ b o, h.get? b = some o → s.heap.get? b = some o) : LtAt (rowKind h f) (tuples' true) prog w A s := fun E x y a b Q ha hb hq => by
  have up : ∀ {c : Addr} {xs : Array Value}, h.IsTuple c xs → s.heap.IsTuple c xs := fun ⟨o, e, r⟩ => ⟨o, hk _ _ e, r⟩
  have upS : ∀ {u : Value} {l : List Int}, SecR h f u l → SecR s.heap f u l := fun {u l} z => by
    cases f with
    | false => exact z
    | true => obtain ⟨c, xs, e, p, q⟩ := z; exact ⟨c, xs, e, up p, q⟩
  obtain ⟨p1, x1, t1, u1, l1, rfl, q1, r1, rfl⟩ := rowKind_some ha
  obtain ⟨p2, x2, t2, u2, l2, rfl, q2, r2, rfl⟩ := rowKind_some hb
  refine keyLt_two (up q1) (up q2) (EqAt.str_str _ _ _ _) ((upS r1).eqAt hu (upS r2)) (fun _ E Q h => oneLt_str h) (fun _ => (upS r1).ltA hu (upS r2)) ?_
  have : (rowKind h f).blt (x1.cps.toList, l1) (x2.cps.toList, l2) = (if (x1 == x2) = true then (if decide (l1 = l2) = true then false else decide (l1 < l2)) else decide (x1.cps.toList < x2.cps.toList)) := by
    show decide (rowLt (x1.cps.toList, l1) (x2.cps.toList, l2)) = _
    by_cases c : x1 = x2
    · subst c
      by_cases c2 : l1 = l2
      · subst c2; simp [rowLt_irr]
      · simp [rowLt, c2, List.lt_irrefl]
    · have c' : ¬ x1.cps.toList = x2.cps.toList := fun e => c (strCps e)
      have : (x1 == x2) = false := by simpa using c
      simp [rowLt, this, c']
  rw [this] at hq
  exact hq
end
end L2
set_option Elab.async false
set_option linter.all false
set_option maxRecDepth 100000
set_option maxHeartbeats 4000000
namespace L2
open PySem PySem.Spec PyProof.Rows PySem.SeqAt
theorem firstOfTuple'_eq (v : Value) : firstOfTuple' v = (do
    if (← typeOf v) != .type "tuple" then return none
    return (← Builtin.List.listItems v)[0]?) := rfl
section
variable {prog : Program} {w : World} {A : Around} {E : Value → Shared → Prop} {s : Shared}
theorem wpAny_mapM' {α β : Type} {f : α → Sem β} {g : α → β} : ∀ (l : List α) {Q : List β → Shared → Prop}, (∀ x ∈ l, ∀ Q : β → Shared → Prop, Q (g x) s → wpAny (model prog w) A (f x) Q E s) → Q (l.map g) s → wpAny (model prog w) A (l.mapM f) Q E s
  | [], Q, _, h => by rw [List.mapM_nil]; exact wpAny_pure h
  | x :: l, Q, hf, h => by
    rw [List.mapM_cons]
    refine wpAny_bind (hf x (by simp) _ (wpAny_bind (wpAny_mapM' l (fun y hy => hf y (by simp [hy])) (wpAny_pure ?_))))
    exact h
theorem first_row {f : Bool} {v : Value} {k : List Nat × List Int} (h : RowR s.heap f v k) : ∃ x t, ∀ Q : Option Value → Shared → Prop, Q (some (.str x t)) s → wpAny (model prog w) A (firstOfTuple' v) Q E s := by
  obtain ⟨a, x, t, u, l, rfl, ⟨o, ho, hc, n, hd⟩, _, _⟩ := h
  refine ⟨x, t, fun Q hq => ?_⟩
  rw [firstOfTuple'_eq]
  refine wpAny_bind (wpAny_typeOf (T := "tuple") ⟨o, ho, hc⟩ ?_)
  simp only [bne_self_eq_false, Bool.false_eq_true, if_false]
  refine wpAny_bind (listItems_at ho hd (wpAny_pure ?_))
  exact hq
theorem typeOf_strs : ∀ {l : List (Option Value)}, (∀ o ∈ l, ∃ x t, o = some (.str x t)) → (l.filterMap id).mapM typeOf = (pure (l.map fun _ => Value.type "str") : Sem _)
  | [], _ => by simp
  | o :: l, h => by
    obtain ⟨x, t, rfl⟩ := h o (by simp)
    have e : (some (Value.str x t) :: l).filterMap id = .str x t :: l.filterMap id := rfl
    rw [e, List.mapM_cons, typeOf_strs fun o ho => h o (by simp [ho])]
    rfl
theorem keyKind_rows {f : Bool} {vs : List Value} (h : ∀ v ∈ vs, ∃ k, RowR s.heap f v k) (h2 : 2 ≤ vs.length) : wpAny (model prog w) A (keyKind' vs.toArray) (fun k s3 => k = tuples' true ∧ s3 = s) E s := by
  have hx : ∀ v : Value, ∃ o : Option Value, v ∈ vs → (∃ x t, o = some (.str x t)) ∧ ∀ Q : Option Value → Shared → Prop, Q o s → wpAny (model prog w) A (firstOfTuple' v) Q E s := fun v => by
    by_cases c : v ∈ vs
    · obtain ⟨k, hk⟩ := h v c
      obtain ⟨x, t, z⟩ := first_row (prog := prog) (w := w) (A := A) (E := E) hk
      exact ⟨some (.str x t), fun _ => ⟨⟨x, t, rfl⟩, z⟩⟩
    · exact ⟨none, fun z => absurd z c⟩
  have ⟨g, hg⟩ := Classical.axiomOfChoice hx
  rw [keyKind'_eq, List.mapM_toArray]
  refine wpAny_bind ?_
  rw [map_eq_pure_bind]
  refine wpAny_bind (wpAny_mapM' (g := g) vs (fun v hv => (hg v hv).2) (wpAny_pure ?_))
  have all : ∀ o ∈ vs.map g, ∃ x t, o = some (Value.str x t) := fun o ho => by
    obtain ⟨v, hv, rfl⟩ := List.mem_map.mp ho
    exact (hg v hv).1
  have c1 : ((vs.map g).toArray.all (·.isSome)) = true := by
    rw [List.all_toArray, List.all_eq_true]
    intro o ho
    obtain ⟨x, t, rfl⟩ := all o ho
    rfl
  rw [if_pos c1]
  refine wpAny_bind (wpAny_rule (wpAny_bind ?_))
  rw [oneTypeOnly'_eq, List.filterMap_toArray, List.mapM_toArray, typeOf_strs all]
  match vs, h2, all with
  | v :: r, _, all =>
    simp only [map_pure, pure_bind]
    have hall : ((List.map (fun _ => Value.type "str") (List.map g (v :: r))).toArray.all fun x => x == Value.type "str") = true := by
      rw [List.all_toArray, List.all_eq_true]
      intro x hx
      obtain ⟨_, _, rfl⟩ := List.mem_map.mp hx
      simp
    have h0 : (List.map (fun _ => Value.type "str") (List.map g (v :: r))).toArray[0]? = some (Value.type "str") := by simp
    rw [h0]
    refine wpAny_pure (wpAny_pure ?_)
    rw [hall]
    exact ⟨rfl, rfl⟩
end
inductive F2 {α β : Type} (R : α → β → Prop) : List α → List β → Prop
  | nil : F2 R [] []
  | cons {a : α} {b : β} {l : List α} {m : List β} : R a b → F2 R l m → F2 R (a :: l) (b :: m)
theorem F2.perm {α β : Type} {R : α → β → Prop} {m' m : List β} (hp : m'.Perm m) : ∀ {l : List α}, F2 R l m → ∃ l', l'.Perm l ∧ F2 R l' m' := by
  induction hp with
  | nil => exact fun h => ⟨_, .refl _, h⟩
  | cons b _ ih =>
    intro l h
    cases h with
    | cons r h => obtain ⟨l', p, q⟩ := ih h; exact ⟨_, p.cons _, .cons r q⟩
  | swap a b m =>
    intro l h
    cases h with
    | cons r h =>
      cases h with
      | cons r2 h => exact ⟨_, .swap _ _ _, .cons r2 (.cons r h)⟩
  | trans _ _ ih1 ih2 =>
    intro l h
    obtain ⟨l2, p2, q2⟩ := ih2 h
    obtain ⟨l1, p1, q1⟩ := ih1 q2
    exact ⟨l1, p1.trans p2, q1⟩
theorem F2.get {α β : Type} {R : α → β → Prop} : ∀ {l : List α} {m : List β}, F2 R l m → ∀ (i : Nat) (h : i < l.length), ∃ h' : i < m.length, R l[i] m[i]
  | _, _, .nil, i, h => by simp at h
  | _, _, .cons r _, 0, _ => ⟨by simp, r⟩
  | _, _, .cons _ q, i + 1, h => by
    obtain ⟨h', z⟩ := F2.get q i (by simpa using h)
    exact ⟨by simpa using h', by simpa using z⟩
theorem F2.len {α β : Type} {R : α → β → Prop} : ∀ {l : List α} {m : List β}, F2 R l m → l.length = m.length
  | _, _, .nil => rfl
  | _, _, .cons _ q => by simp [F2.len q]
abbrev Rw : Type := Str × List Int
def rowK (k : Rw) : List Nat × List Int := (k.1.cps.toList, k.2)
def rowD (f : Bool) (k : Rw) : Dt := match f with
  | false => .tup [.str k.1, .int (k.2.headD 0)]
  | true => .tup [.str k.1, .tup (k.2.map .int)]
def SrtR (l : List (V × Rw)) : Prop := l.Pairwise fun a b => ¬ rowLt (rowK b.2) (rowK a.2)
def rSortedR (K : PySem.W.Frag) (f : Bool) : List V → Hp → VK → Prop := fun xs H Q => ∃ (a : Addr) (zs : List (V × Rw)), xs = [.ref a] ∧ SqL K H a (zs.map (·.1)) ∧ (∀ z ∈ zs, RepD K H (rowD f z.2) z.1 ∧ (f = false → z.2.2.length = 1)) ∧ zs.length ≤ 1000 ∧
  ∀ l zs', H l = none → zs'.Perm zs → SrtR zs' → Q (.ref l) (upd H l (.lst (zs'.map (·.1))))
section
variable {X : Cx} {pins : List (Addr × Obj)} {σ : St} {H : Hp} {s : Shared}
theorem paired_nil {us : List Value} (r : Vals [] us) : us = [] := by cases r; rfl
theorem ints_of : ∀ {l : List Int} {xs : List V} {its : List Value}, Vals xs its → l.length = xs.length → (∀ (j : Nat) d x, (l.map Dt.int)[j]? = some d → xs[j]? = some x → RepD X.K H d x) → IntsAre its l
  | [], [], _, r, _, _ => by rw [paired_nil r]; exact .nil
  | i :: l, x :: xs, its, r, hl, hr => by
    have h0 := hr 0 (.int i) x rfl rfl
    cases h0
    cases r with
    | cons r rs =>
      obtain ⟨t, rfl⟩ := r
      exact .cons i t (ints_of rs (by simpa using hl) fun j d x h1 h2 => hr (j + 1) d x (by simpa using h1) (by simpa using h2))
theorem RepD.two {K : PySem.W.Frag} {d1 d2 : Dt} {x : V} (h : RepD K H (.tup [d1, d2]) x) : ∃ a x1 x2, x = .ref a ∧ SqT K H a [x1, x2] ∧ RepD K H d1 x1 ∧ RepD K H d2 x2 := by
  cases h with
  | @tup a xs _ h hl hr =>
    match xs, hl with
    | [x1, x2], _ => exact ⟨a, x1, x2, rfl, h, hr 0 _ _ rfl rfl, hr 1 _ _ rfl rfl⟩
theorem isT2 (I : Inv X pins σ H s) {a : Addr} {x1 x2 : V} (h : SqT X.K H a [x1, x2]) : ∃ u1 u2, RelV x1 u1 ∧ RelV x2 u2 ∧ s.heap.IsTuple a #[u1, u2] := by
  obtain ⟨its, rv, p⟩ := isT I h
  cases rv with
  | cons r1 rv =>
    cases rv with
    | cons r2 rv =>
      cases rv
      exact ⟨_, _, r1, r2, p⟩
theorem rowR_of (I : Inv X pins σ H s) {f : Bool} {k : Rw} {x : V} {v : Value} (h : RepD X.K H (rowD f k) x) (h1 : f = false → k.2.length = 1) (r : RelV x v) : RowR s.heap f v (rowK k) := by
  obtain ⟨n, l⟩ := k
  cases f with
  | false =>
    match l, h1 rfl, h with
    | [i], _, h =>
      obtain ⟨a, x1, x2, rfl, hs, e1, e2⟩ := RepD.two h
      cases r
      obtain ⟨u1, u2, r1, r2, p⟩ := isT2 I hs
      cases e1
      cases e2
      obtain ⟨t1, rfl⟩ := r1
      obtain ⟨t2, rfl⟩ := r2
      exact ⟨a, n, t1, _, [i], rfl, p, ⟨i, t2, rfl, rfl⟩, rfl⟩
  | true =>
    obtain ⟨a, x1, x2, rfl, hs, e1, e2⟩ := RepD.two h
    cases r
    obtain ⟨u1, u2, r1, r2, p⟩ := isT2 I hs
    cases e1
    obtain ⟨t1, rfl⟩ := r1
    generalize hm : l.map Dt.int = dl at e2
    cases e2 with
    | @tup b ys _ g gl gr =>
      cases r2
      subst hm
      obtain ⟨its2, rv2, p2⟩ := isT I g
      exact ⟨a, n, t1, _, l, rfl, p, ⟨b, _, rfl, p2, ints_of rv2 (by simpa using gl) gr⟩, rfl⟩
theorem f2_of (I : Inv X pins σ H s) {f : Bool} : ∀ {zs : List (V × Rw)} {its : List Value}, Vals (zs.map (·.1)) its → (∀ z ∈ zs, RepD X.K H (rowD f z.2) z.1 ∧ (f = false → z.2.2.length = 1)) → F2 (fun z v => RelV z.1 v ∧ RowR s.heap f v (rowK z.2)) zs its
  | [], its, r, _ => by rw [paired_nil r]; exact .nil
  | z :: zs, its, r, h => by
    cases r with
    | cons r rs =>
      obtain ⟨h1, h2⟩ := h z (by simp)
      exact .cons ⟨r, rowR_of I h1 h2 r⟩ (f2_of I rs fun y hy => h y (by simp [hy]))
theorem f2_vals {P : V × Rw → Value → Prop} : ∀ {zs : List (V × Rw)} {its : List Value}, F2 (fun z v => RelV z.1 v ∧ P z v) zs its → Vals (zs.map (·.1)) its
  | _, _, .nil => .nil
  | _, _, .cons h q => .cons h.1 (f2_vals q)
theorem F2.memR {α β : Type} {R : α → β → Prop} : ∀ {l : List α} {m : List β}, F2 R l m → ∀ b ∈ m, ∃ a ∈ l, R a b
  | _, _, .cons r q, b, h => by
    rcases List.mem_cons.mp h with rfl | h
    · exact ⟨_, by simp, r⟩
    · obtain ⟨a, ha, z⟩ := F2.memR q b h; exact ⟨a, by simp [ha], z⟩
theorem rows_out {h : Heap} {f : Bool} {vs : List Value} {zs : List (V × Rw)} (F : F2 (fun z v => RelV z.1 v ∧ RowR h f v (rowK z.2)) zs vs) {xs : Array Keyed} (hp : xs.Perm (pairsOf vs)) (hs : SortedToK (rowKind h f) xs (pairsOf vs).size) :
    ∃ zs', zs'.Perm zs ∧ Vals (zs'.map (·.1)) (xs.map (·.2)).toList ∧ SrtR zs' := by
  have hl : xs.toList.Perm (vs.zip vs) := by rw [← pairsOf_toList]; exact Array.perm_iff_toList_perm.mp hp
  have hm : ∀ p, p ∈ xs.toList → p.1 = p.2 ∧ p.1 ∈ vs := fun p q => mem_zip_self (hl.mem_iff.mp q)
  have h1 : (xs.map (·.2)).toList.Perm vs := by
    have := hl.map Prod.snd
    rw [List.map_snd_zip (Nat.le_refl _)] at this
    rw [Array.toList_map]; exact this
  obtain ⟨zs', p, q⟩ := F2.perm h1 F
  refine ⟨zs', p, f2_vals q, List.pairwise_iff_getElem.mpr fun i j hi hj hij => ?_⟩
  obtain ⟨g1, _, r1⟩ := F2.get q i hi
  obtain ⟨g2, _, r2⟩ := F2.get q j hj
  have s1 : i < xs.size := by simpa using g1
  have s2 : j < xs.size := by simpa using g2
  have key : ∀ (n : Nat) (hn : n < xs.size) (k : List Nat × List Int), RowR h f xs[n].2 k → KK (rowKind h f) xs n = k := fun n hn k hk => by
    unfold KK
    rw [getElem?_pos xs n hn]
    have e := (hm xs[n] (by simp)).1
    show ((rowKind h f).keyOf xs[n].1).getD _ = k
    rw [e, rowKind_of hk]; rfl
  have := hs i j (Nat.le_of_lt hij) (by rw [← hp.size_eq]; exact s2)
  rw [key i s1 _ (by simpa using r1), key j s2 _ (by simpa using r2)] at this
  have : decide (rowLt (rowK zs'[j].2) (rowK zs'[i].2)) = false := this
  simpa using this
theorem call_sortedR (f : Bool) (hu : X.A.units + 64 < cLine) : CallR X (.builtin "sorted") (rSortedR X.K f) := by
  intro pins s σ H xs us Q I r h
  obtain ⟨a, zs, rfl, hq, hz, hl, k⟩ := h
  obtain ⟨u, rfl, ru⟩ := vals1 r
  cases ru
  obtain ⟨its, rv, pl, _⟩ := I.list hq
  have F := f2_of I rv hz
  have hlen : its.length = zs.length := F.len.symm
  have hr : ∀ v ∈ its, ∃ k, RowR s.heap f v k := fun v hv => by
    obtain ⟨z, _, _, q⟩ := F.memR v hv
    exact ⟨_, q⟩
  refine sortedKA (κ := rowKind s.heap f) (kx := tuples' true) pl.isList (fun p hp => ?_) (fun s2 h2 => ltAt_rows (by show X.A.units + 1 + 1 < cLine; omega) h2) (fun s2 E h2 hn => keyKind_rows (f := f) (fun v hv => ?_) hn) (by omega) fun st' hp hs => ?_
  · rw [pairsOf_toList] at hp
    obtain ⟨k, hk⟩ := hr _ (mem_zip_self hp).2
    exact ⟨k, rowKind_of hk⟩
  · obtain ⟨k, a, x, t, u, l, e, ⟨o, g, g2⟩, q, e2⟩ := hr v hv
    refine ⟨k, a, x, t, u, l, e, ⟨o, h2 _ _ g, g2⟩, ?_, e2⟩
    cases f with
    | false => exact q
    | true => obtain ⟨c, ys, e3, ⟨o2, g3, g4⟩, q2⟩ := q; exact ⟨c, ys, e3, ⟨o2, h2 _ _ g3, g4⟩, q2⟩
  · obtain ⟨zs', p, q, srt⟩ := rows_out F hp hs
    obtain ⟨c, hc'⟩ := sortedAll_at s.heap its ((arrOf st').map (·.2))
    refine ⟨.ref (s.heap.objs.size + 1), _, (I.laid (t' := s.toks) (o := .lst (zs'.map (·.1))) (fun b o e => sortedAll_old e) (Nat.le_succ _) ⟨?_, _, c, q, by rw [hc']⟩).draw s.drawn, rfl, k _ zs' (I.hok.fresh (Nat.le_succ _)) p srt⟩
    rw [List.length_map, p.length_eq]
    exact sz1000 (by omega)
variable {K : PySem.W.Frag} {Q : VK} {p : Addr} {f : Bool}
theorem callR_sorted (f : Bool) (K : PySem.W.Frag) (hu : X.A.units + 64 < cLine) (hK : X.K = K := by rfl) : CallR X (.builtin "sorted") (rSortedR K f) := by
  subst hK; exact call_sortedR f hu
theorem w_sortedR : rSortedR K f [.ref p] H Q = ∃ zs : List (V × Rw), SqL K H p (zs.map (·.1)) ∧ (∀ z ∈ zs, RepD K H (rowD f z.2) z.1 ∧ (f = false → z.2.2.length = 1)) ∧ zs.length ≤ 1000 ∧
    ∀ l zs', H l = none → zs'.Perm zs → SrtR zs' → Q (.ref l) (upd H l (.lst (zs'.map (·.1)))) := by
  refine propext ⟨fun ⟨_, zs, e, h⟩ => ?_, fun ⟨zs, h⟩ => ⟨p, zs, rfl, h⟩⟩
  cases e; exact ⟨zs, h⟩
end
end L2
set_option Elab.async false
set_option linter.all false
set_option maxRecDepth 100000
set_option maxHeartbeats 4000000
namespace L2
open PySem PySem.Spec PyProof.Rows PySem.SeqAt
def FactAt (h : Heap) (k : Rw) (a : Addr) : Prop := ∃ t c ys, h.IsTuple a #[.str k.1 t, .ref c] ∧ h.IsTuple c ys ∧ IntsAre ys.toList k.2
def factHash (prog : Program) (w : World) (k : Rw) : Int := reduceHash (Builtin.Tuple.tupleHashOf [(PySem.strKind prog w).hash k.1, tupleKeyHash (intKind prog w) k.2])
theorem FactAt.inj {h : Heap} {k k' : Rw} {a : Addr} (h1 : FactAt h k a) (h2 : FactAt h k' a) : k = k' := by
  obtain ⟨t, c, ys, p, q, r⟩ := h1
  obtain ⟨t', c', ys', p', q', r'⟩ := h2
  have e := isTuple_uniq p p'
  simp only [Array.mk.injEq, List.cons.injEq, Value.str.injEq, Value.ref.injEq, and_true] at e
  obtain ⟨⟨e1, _⟩, rfl⟩ := e
  rw [isTuple_uniq q q'] at r
  exact Prod.ext e1 (intsUniq r r')
theorem isTuple_keeps {h h' : Heap} {a d : Addr} {o : Obj} {xs : Array Value} {es ep} (x : h.IsTuple a xs) (ho : h.get? d = some o) (hd : o.data = .dict es ep) (hs : Heap.SameBut d h h') : h'.IsTuple a xs := by
  obtain ⟨u, e, c, n, q⟩ := x
  have hne : a ≠ d := by
    rintro rfl
    cases e.symm.trans ho
    cases hd.symm.trans q
  exact ⟨u, (hs.2 a hne).trans e, c, n, q⟩
section
variable {prog : Program} {w : World} {A : Around} {E : Value → Shared → Prop} {s : Shared}
theorem hash_fact {k : Rw} {a : Addr} {Q : Int → Shared → Prop} (hu : A.units + 1 < cLine) (hk : FactAt s.heap k a) (h : Q (factHash prog w k) { s with toks := s.toks + (k.2.length + 3) }) : wpAny (model prog w) A (pyHash (.ref a)) Q E s := by
  obtain ⟨t, c, ys, p, q, r⟩ := hk
  obtain ⟨o, ho, hc, n, hd⟩ := p
  have hT : s.TypeIs (.ref a) "tuple" := ⟨o, ho, hc⟩
  unfold pyHash
  first | unfold pyHashByItsType | skip
  first | refine wpAny_bind (wpAny_cRoomFor_or (.inr (by omega)) ?_) | skip
  refine wpAny_bind (wpAny_specialOf hT F.slot_tuple_hash.lookup ?_)
  rw [if_neg (show ¬ ((some (Value.builtin "tuple.__hash__") == some Value.none) = true) by rw [beq_builtin_none]; exact Bool.false_ne_true)]
  refine wpAny_bind (wpAny_specialOf hT F.slot_tuple_hash.lookup ?_)
  refine wpAny_bind (wpAny_callSpecialIfBoundUnlessNone?_slot hT F.slot_tuple_hash (wpAny_call_entry F.slot_tuple_hash hT F.entry_tuple_hash ?_ (F.args_tuple_hash_1 _)))
  show wpAny _ _ (Builtin.Tuple.tupleItemsOf (.ref a) >>= _) _ _ s
  refine wpAny_bind (wpAny_tupleItemsOf ho hd (wpAny_bind ?_))
  rw [← Array.forIn_toList]
  simp only [List.forIn_cons, List.forIn_nil]
  have q2 : IsTupleKey (intKind prog w) s.heap k.2 c := let ⟨o2, ho2, hc2, n2, hd2⟩ := q; ⟨o2, ys, n2, ho2, hc2, hd2, intsItems r⟩
  refine wpAny_bind (wpAny_bind ((PySem.strKind prog w).pyHash (k := k.1) (by simp [PySem.strKind, Value.isStrOf]) (wpAny_pure (wpAny_bind (wpAny_bind (wpAny_pyHash_tuple (s := { s with toks := s.toks + 1 }) (by show A.units + 1 < cLine; exact hu) q2 (wpAny_pure (wpAny_pure ?_))))))))
  show wpAny _ _ (retInt (Builtin.Tuple.tupleHashOf [(PySem.strKind prog w).hash k.1, tupleKeyHash (intKind prog w) k.2])) _ _ _
  generalize hz : Builtin.Tuple.tupleHashOf [(PySem.strKind prog w).hash k.1, tupleKeyHash (intKind prog w) k.2] = z
  unfold factHash reduceHash at h
  rw [hz] at h
  have tk : s.toks + 1 + (k.2.length + 1) + 1 = s.toks + (k.2.length + 3) := by omega
  refine wpAny_ret_mkInt ?_
  show wpAny _ _ (if (decide (-(2 : Int) ^ 63 ≤ z) && decide (z < 2 ^ 63)) = true then _ else _) Q E _
  by_cases hr : (decide (-(2 : Int) ^ 63 ≤ z) && decide (z < 2 ^ 63)) = true
  · rw [if_pos hr] at h ⊢
    refine wpAny_pure ?_
    show Q _ { s with toks := s.toks + 1 + (k.2.length + 1) + 1 }
    rw [tk]; exact h
  · rw [if_neg hr] at h ⊢
    refine wpAny_bind (wpAny_rule (wpAny_pure ?_))
    show Q _ { s with toks := s.toks + 1 + (k.2.length + 1) + 1 }
    rw [tk]; exact h
theorem quiet_ints {n : Nat} {c : Addr} {ys : Array Value} {Q : Bool → Shared → Prop} (q : s.heap.IsTuple c ys) (hb : ∀ v ∈ ys, ∀ Q : Bool → Shared → Prop, Q true s → wpAny (model prog w) A (eqIsQuiet n v) Q E s) (h : Q true s) : wpAny (model prog w) A (eqIsQuiet (n + 1) (.ref c)) Q E s := by
  obtain ⟨o, ho, hc, m, hd⟩ := q
  have hT : s.TypeIs (.ref c) "tuple" := ⟨o, ho, hc⟩
  unfold eqIsQuiet
  refine wpAny_bind (wpAny_specialOf hT F.slot_tuple_eq.lookup ?_)
  refine wpAny_bind (wpAny_isInstance hT isSubtype_tuple_tuple ?_)
  simp only [Bool.not_true, Bool.false_eq_true, if_false]
  refine wpAny_bind (wpAny_seqItems ho hd (wpAny_bind ?_))
  show wpAny _ _ (forIn ys _ _) _ _ s
  rw [← Array.forIn_toList]
  refine wpAny_forIn_list _ (fun rest r s' => r.1 = none ∧ s' = s ∧ ∀ v ∈ rest, v ∈ ys) _ ?_ ?_ _ _ ⟨rfl, rfl, fun v hv => by simpa using hv⟩
  · rintro v rest r s' ⟨hr, rfl, hall⟩
    refine wpAny_bind (hb v (hall v (by simp)) _ ?_)
    simp only [Bool.not_true, Bool.false_eq_true, if_false]
    exact wpAny_pure ⟨rfl, rfl, fun u hu' => hall u (by simp [hu'])⟩
  · rintro ⟨r1, r2⟩ s' ⟨hr, rfl, _⟩
    simp only at hr
    subst hr
    exact wpAny_pure h
theorem quiet_fact {k : Rw} {a : Addr} {Q : Bool → Shared → Prop} (hk : FactAt s.heap k a) (h : Q true s) : wpAny (model prog w) A (eqIsQuiet 8 (.ref a)) Q E s := by
  obtain ⟨t, c, ys, p, q, r⟩ := hk
  refine quiet_ints (n := 7) p (fun v hv Q hq => ?_) h
  rcases (by simpa using hv : v = .str k.1 t ∨ v = .ref c) with rfl | rfl
  · rw [eqIsQuiet_byValue _ (by rfl)]; exact wpAny_pure hq
  · refine quiet_ints (n := 6) q (fun u hu Q hq => ?_) hq
    rw [eqIsQuiet_byValue _ ((intsItems (prog := prog) (w := w) r).byValue u (by simpa using hu))]; exact wpAny_pure hq
theorem eq_fact {x y : Rw} {a b : Addr} {Q : Bool → Shared → Prop} (hu : A.units + 1 < cLine) (hx : FactAt s.heap x a) (hy : FactAt s.heap y b) (h : Q (decide (x = y)) s) : wpAny (model prog w) A (eqBool (.ref a) (.ref b)) Q E s := by
  by_cases e : a = b
  · subst e
    rw [hx.inj hy] at h
    simp only [decide_true] at h
    exact EqAt.same _ prog w E Q h
  · obtain ⟨t, c, ys, p, q, r⟩ := hx
    obtain ⟨t', c', ys', p', q', r'⟩ := hy
    have z := RcAt.tuples (A := A) (e := fun j => match j with | 0 => x.1 == y.1 | _ => decide (x.2 = y.2)) p p' (by omega) (fun j h1 h2 => by
      have h1' : j < 2 := h1
      match j, h1' with
      | 0, _ => exact EqAt.str_str _ _ _ _
      | 1, _ => exact SecR.eqAt (f := true) (by show A.units + 1 < cLine; exact hu) ⟨c, ys, rfl, q, r⟩ ⟨c', ys', rfl, q', r'⟩)
    have ez : ((List.range (min (#[Value.str x.1 t, .ref c]).size (#[Value.str y.1 t', .ref c']).size)).all (fun j => match j with | 0 => x.1 == y.1 | _ => decide (x.2 = y.2)) && (#[Value.str x.1 t, .ref c]).size == (#[Value.str y.1 t', .ref c']).size) = decide (x = y) := by
      show ((List.range 2).all (fun j => match j with | 0 => x.1 == y.1 | _ => decide (x.2 = y.2)) && (2 == 2)) = _
      have : List.range 2 = [0, 1] := rfl
      rw [this]
      simp only [List.all_cons, List.all_nil, Bool.and_true, beq_self_eq_true]
      obtain ⟨x1, x2⟩ := x
      obtain ⟨y1, y2⟩ := y
      simp [Prod.ext_iff, Bool.beq_eq_decide_eq]
    rw [ez] at z
    exact EqAt.of_refs e z prog w E Q h
end
def factKind (prog : Program) (w : World) : HeapKind prog w Rw where
  is := FactAt
  hash := factHash prog w
  draws := fun k => k.2.length + 3
  room := fun A => A.units + 1 < cLine
  inj := fun h1 h2 => h1.inj h2
  keeps := fun x ho hd hs => let ⟨t, c, ys, p, q, r⟩ := x; ⟨t, c, ys, isTuple_keeps p ho hd hs, isTuple_keeps q ho hd hs, r⟩
  pyHash := fun hu hk h => hash_fact hu hk h
  eqBool := fun hu hx hy h => eq_fact hu hx hy h
  quiet := fun hk h => quiet_fact hk h
end L2
set_option Elab.async false
set_option linter.all false
set_option maxRecDepth 100000
set_option maxHeartbeats 4000000
namespace L2
open PySem PySem.Spec PyProof.Rows
section
variable {X : Cx}
def putS (l : List (Str × V)) (k : Str) (v : V) : List (Str × V) := if l.any (fun p => decide (p.1 = k)) = true then l.map (fun p => if p.1 = k then (p.1, v) else p) else l ++ [(k, v)]
theorem dS_snoc (l : List (Str × V)) (k : Str) (v : V) : dS (l ++ [(k, v)]) = dS l ++ [(Sum.inr k, v)] := by simp [dS]
theorem KV.snoc {κ : Type} {l : List (κ × V)} {m : List (κ × Value)} {k : κ} {v : V} {u : Value} (r : KV l m) (h : RelV v u) : KV (l ++ [(k, v)]) (m ++ [(k, u)]) := by
  induction r with
  | nil => exact .cons ⟨rfl, h⟩ .nil
  | cons h1 _ ih => exact .cons h1 ih
theorem dS_any {k : Str} : ∀ {l : List (Str × V)} {vs : List (Key × Value)}, KV (dS l) vs → (vs.any fun kv => decide (kv.1 = (Sum.inr k : Key))) = l.any fun p => decide (p.1 = k)
  | [], _, .nil => rfl
  | p :: l, _, .cons (b := q) h1 h2 => by
    have e : q.1 = (Sum.inr p.1 : Key) := h1.1.symm
    rw [List.any_cons, List.any_cons, dS_any (l := l) h2, e]
    congr 1
    simp
theorem dS_map {k : Str} {v : V} {u : Value} (hv : RelV v u) : ∀ {l : List (Str × V)} {vs : List (Key × Value)}, KV (dS l) vs → KV (dS (l.map fun p => if p.1 = k then (p.1, v) else p)) (vs.map fun kv => if kv.1 = (Sum.inr k : Key) then (kv.1, u) else kv)
  | [], _, .nil => .nil
  | p :: l, _, .cons (b := q) h1 h2 => by
    have e : (Sum.inr p.1 : Key) = q.1 := h1.1
    refine .cons ?_ (dS_map hv (l := l) h2)
    dsimp only
    by_cases c : p.1 = k
    · rw [if_pos c, if_pos (by rw [← e, c])]; exact ⟨e, hv⟩
    · rw [if_neg c, if_neg (fun z => c (by rw [← e] at z; exact Sum.inr.inj z))]; exact h1
theorem putS_rel {k : Str} {v : V} {u : Value} {l : List (Str × V)} {vs : List (Key × Value)} (r : KV (dS l) vs) (hv : RelV v u) : KV (dS (putS l k v)) (stored vs (Sum.inr k) u) := by
  unfold putS stored
  have e := dS_any (k := k) r
  by_cases c : (l.any fun p => decide (p.1 = k)) = true
  · rw [if_pos c, if_pos (by rw [← c, ← e])]; exact dS_map hv r
  · rw [if_neg c, if_neg (fun z => c (by rw [← z, ← e])), dS_snoc]; exact KV.snoc r hv
theorem putS_len (l : List (Str × V)) (k : Str) (v : V) : (putS l k v).length ≤ l.length + 1 := by
  unfold putS; split <;> simp
def rSetS : V → V → V → Hp → (Hp → Prop) → Prop := fun o i v H Q => ∃ p k l, o = .ref p ∧ i = .str k ∧ H p = some (.dK (dS l)) ∧ l.length < 4000 ∧ Q (upd H p (.dK (dS (putS l k v))))
theorem set_dS : PSet X rSetS := by
  intro pins s σ H o i v ov iv u Q I ro ri rv h
  obtain ⟨p, k, l, rfl, rfl, hp, hl, q⟩ := h
  cases ro
  obtain ⟨t, rfl⟩ := ri
  obtain ⟨z, hd, vs, rel, dd⟩ := (show ObjOk X.prog X.w H s.heap p (.dK (dS l)) from I.hok p _ hp)
  have hz : vs.length ≤ sizeLine := by have := Paired.length rel; omega
  have hz2 : (dS (putS l k v)).length ≤ sizeLine := by
    have := putS_len l k v
    have e : (dS (putS l k v)).length = (putS l k v).length := by simp [dS]
    rw [e]
    exact Nat.le_trans this (sz1000 (by omega))
  refine wpAny_setItem_pairs (hsz := hz) (mixKind_str X.prog X.w k t) dd fun h' dd' hs => ?_
  have he : ∃ q, h'.get? p = some q := let ⟨q, _, _, hq, _⟩ := dd'; ⟨q, hq⟩
  exact ⟨_, I.write (x := p) (e := p) (o := .dK (dS (putS l k v))) (by rw [hp]; trivial) (.inl rfl) (fun b q hb z => (hs.2 b hb).trans z) he ⟨hz2, hd, _, putS_rel rel rv, dd'⟩, q⟩
def rIxS2 : R2 := fun x y H Q => ∃ k p l z, x = .ref p ∧ y = .str k ∧ Rd H p (.dK (dS l)) ∧ valS l k = some z ∧ Q z H
theorem ix_dS : IxR X rIxS2 := by
  intro value slice pins s σ H x y v u Q I rx ry h hs
  obtain ⟨k, p, l, z, rfl, rfl, hp, hat, q⟩ := h
  cases rx
  obtain ⟨t, rfl⟩ := ry
  obtain ⟨_, hd, vs, rel, dd⟩ := (show ObjOk X.prog X.w H s.heap p (.dK (dS l)) from hp.ok I.hok)
  obtain ⟨w', hw, rw'⟩ := (valS_rel (k := k) rel).2 z hat
  refine subscriptTail_builtinR (x := w') dd.typeIs slot_dict_getitem.lookup (wpAny_getItem_of (mixKind_str X.prog X.w k t) dd.mapOf hw ?_) hs
  exact ⟨rfl, z, H, I.tok _, rw', q⟩
theorem ents_dS {P : Program} {w : World} {H : Hp} {h : Heap} {a : Addr} {l : List (Str × V)} (ok : ObjOk P w H h a (.dK (dS l))) : ∃ es ep, EntsAt h a es ep ∧ es.size = l.length ∧ ∀ (i : Nat) (h1 : i < es.size) (h2 : i < l.length), RelV (.str l[i].1) es[i].key := by
  obtain ⟨_, _, vs, rel, o, es, ep, ho, hc, hd, _, hp, _⟩ := ok
  have e1 : es.size = vs.length := by have := hp.length; simpa using this
  have e2 : l.length = vs.length := by have := Paired.length rel; simpa [dS] using this
  refine ⟨es, ep, ⟨o, ho, hc, hd⟩, by omega, fun i h1 h2 => ?_⟩
  have key : ∀ {m : List (Key × V)} {n : List (Key × Value)}, KV m n → ∀ (i : Nat) (h1 : i < m.length) (h2 : i < n.length), m[i].1 = n[i].1 := by
    intro m n r
    induction r with
    | nil => intro i h1; simp at h1
    | cons a _ ih => intro i h1 h2; cases i with
      | zero => exact a.1
      | succ j => simpa using ih j (by simpa using h1) (by simpa using h2)
  have k1 := key rel i (by simpa [dS] using h2) (by omega)
  have k2 : (dS l)[i]'(by simpa [dS] using h2) = (Sum.inr l[i].1, l[i].2) := by simp [dS]
  rw [k2] at k1
  have k3 := (hp.get? (i := i) (e := es[i]) (k := (vs[i]'(by omega)).1) (v := (vs[i]'(by omega)).2) (by rw [Array.getElem?_toList, Array.getElem?_eq_getElem h1]) (List.getElem?_eq_getElem (by omega))).1
  rw [← k1] at k3
  rcases keyIs_shape (show keyIs (Sum.inr l[i].1) es[i].key = true from k3) with ⟨i', t, e, _⟩ | ⟨x, t, e, e'⟩
  · cases e
  · cases e; exact ⟨t, e'⟩
def Itd (d : Addr) (o : Obj) (l : List (Str × V)) : It := ⟨fun i H => H d = some (.frz o (.dK (dS l))) ∧ i < l.length, fun i H x H' => H' = H ∧ ∃ k, (l[i]?).map (·.1) = some k ∧ x = .str k, fun i H => H d = some (.frz o (.dK (dS l))) ∧ i = l.length⟩
theorem turn_dS {P : Program} {w : World} {K : PySem.W.Frag} {tg : Expr} (d it : Addr) (o : Obj) (l : List (Str × V)) (es : Array DictEntry) (ep : Nat) (hne : d ≠ it) (hc : o.ExactDict) (hx : o.data = .dict es ep) (hl : es.size = l.length)
    (hk : ∀ (i : Nat) (h1 : i < es.size) (h2 : i < l.length), RelV (.str l[i].1) es[i].key) : Turn P w K tg (Itd d o l) [it] it (fun i h => h.IsKeyIter it d i es.size ep) where
  mem := by simp
  obj := fun i h st b hb => by
    have e : b = it := by simpa using hb
    subst e
    obtain ⟨o, e, c, d⟩ := st
    exact ⟨o, e, fun v z => by rw [d] at z; cases z⟩
  keep := fun i h h' st k => st.at fun o e => k it (by simp) o e
  item := by
    intro X hP hw hK hc' i pins s σ H E I hf st hg
    subst hP hw hK
    obtain ⟨hq, hi⟩ := hg
    obtain ⟨f0, f1, f2, f3, f4, f5⟩ := hf it (by simp)
    have he : EntsAt s.heap d es ep := ⟨o, (I.hok d _ hq).1, hc, hx⟩
    refine ents_item st he (by omega) fun h' st' sb => ?_
    have I1 : Inv X pins σ H { s with heap := h' } := I.turned (t' := s.toks) (fun b o hb e => (sb.2 b hb).trans e) f0 f1 f3 f4 f5
    obtain ⟨o', e, c, d'⟩ := id st'
    exact ⟨_, rfl, go_of (s := { s with heap := h' }) e c d' (by decide) ⟨.str l[i].1, H, I1, hk i (by omega) hi, ⟨rfl, _, by simp [hi], rfl⟩, st', fun b hb => (hf b hb).1⟩⟩
  done := by
    intro X hP hw hK hc' i pins s σ H E I hf st hg
    subst hP hw hK
    obtain ⟨hq, hi⟩ := hg
    obtain ⟨f0, f1, f2, f3, f4, f5⟩ := hf it (by simp)
    have he : EntsAt s.heap d es ep := ⟨o, (I.hok d _ hq).1, hc, hx⟩
    have hi' : i = es.size := by omega
    subst hi'
    exact ents_end (I.ok.hd hc') st he fun h' eb => ⟨rfl, I.turned (t' := s.toks) (fun b o hb e => eb b o hb e) f0 f1 f3 f4 f5⟩
  self := fun _ _ _ _ _ st h => wpAny_pyIter_keyiter st h
def iDS (tl : TE) : TI := fun σ H R => tl σ H fun x H1 => ∃ a l, x = .ref a ∧ H1 a = some (.dK (dS l)) ∧ ∀ o, R (Itd a o l) (upd H1 a (.frz o (.dK (dS l))))
theorem pi_dS {tg e : Expr} {tl : TE} (hl : PE X e tl) : PI X tg e (iDS tl) := by
  intro pins s σ H R I h
  refine thn (hl pins s σ H _ I h) fun v s1 ⟨x, H1, I1, r1, q1⟩ => ?_
  obtain ⟨a, l, e, hq, q⟩ := q1
  subst e
  cases r1
  have ok := (show ObjOk X.prog X.w H1 s1.heap a (.dK (dS l)) from I1.hok a _ hq)
  obtain ⟨es, ep, he, hlen, hk⟩ := ents_dS ok
  obtain ⟨o, ho, hc, hx⟩ := id he
  have I2 : Inv X pins σ (upd H1 a (.frz o (.dK (dS l)))) s1 := I1.write (x := a) (e := a) (h' := s1.heap) (t' := s1.toks) (by rw [hq]; trivial) (.inl rfl) (fun b u _ e => e) ⟨o, ho⟩ ⟨ho, ok⟩
  have hne : a ≠ s1.heap.objs.size := Nat.ne_of_lt (Heap.lt_size ho)
  refine ents_iter ok.2.1 he ?_
  refine ⟨s1.heap.objs.size, [s1.heap.objs.size], _, _, _, rfl, I2.kept (t' := s1.toks) fun b o e => Heap.get?_push_of_some _ e, turn_dS a _ o l es ep hne hc hx hlen hk, ⟨_, Heap.get?_push_size _ rfl, rfl, rfl⟩, fun b hb => ?_, q o⟩
  have e : b = s1.heap.objs.size := by simpa using hb
  subst e
  exact I2.fpOk (Nat.le_refl _) (I2.hok.fresh (Nat.le_refl _))
def rawF (x : Rw × Addr) : Rw × Addr × Value := (x.1, x.2, .bool true)
def FdO (P : Program) (w : World) (d : Addr) (fs : List (Rw × Addr)) : HO := .ext fun h => (d == sysModules) = false ∧ fs.length ≤ sizeLine ∧ ∃ o es ep, h.get? d = some o ∧ o.ExactDict ∧ o.data = .dict es ep ∧ es.toList = (fs.map rawF).map (entryOfKey (factKind P w)) ∧ (fs.map (·.1)).Nodup
def FdAt (P : Program) (w : World) (H : Hp) (d : Addr) (fs : List (Rw × Addr)) : Prop := H d = some (FdO P w d fs) ∨ (fs = [] ∧ H d = some (.dK []))
theorem FdAt.ok {P : Program} {w : World} {H : Hp} {h : Heap} {d : Addr} {fs : List (Rw × Addr)} (x : FdAt P w H d fs) (ok : HOk P w H h) : (d == sysModules) = false ∧ fs.length ≤ sizeLine ∧ ∃ o es ep, h.get? d = some o ∧ o.ExactDict ∧ o.data = .dict es ep ∧ es.toList = (fs.map rawF).map (entryOfKey (factKind P w)) ∧ (fs.map (·.1)).Nodup := by
  rcases x with x | ⟨rfl, x⟩
  · exact (ok d _ x).1
  · obtain ⟨_, hd, vs, rel, o, es, ep, ho, hc, hx, _, hp, _⟩ := (show ObjOk P w H h d (.dK []) from ok d _ x)
    cases rel
    refine ⟨hd, Nat.zero_le _, o, es, ep, ho, hc, hx, ?_, by simp⟩
    have := hp.length
    simpa using this
theorem FdAt.mut {P : Program} {w : World} {H : Hp} {d : Addr} {fs : List (Rw × Addr)} (x : FdAt P w H d fs) : Mut (H d) := by
  rcases x with x | ⟨_, x⟩ <;> rw [x] <;> trivial
theorem factAt_of {pins : List (Addr × Obj)} {σ : St} {H : Hp} {s : Shared} (I : Inv X pins σ H s) {k : Rw} {b : Addr} (h : RepD X.K H (rowD true k) (.ref b)) : FactAt s.heap k b := by
  obtain ⟨a, x, t, u, l, e, p, ⟨c, xs, rfl, q, r⟩, e2⟩ := rowR_of I h (fun z => nomatch z) (rfl : RelV (.ref b) (.ref b))
  cases e
  have e1 : k.1.cps.toList = x.cps.toList := congrArg Prod.fst e2
  have e3 : k.2 = l := congrArg Prod.snd e2
  subst e3
  rw [← strCps e1] at p
  exact ⟨t, c, xs, p, q, r⟩
def pFs (fs : List (Rw × Addr)) (k : Rw) (b : Addr) : List (Rw × Addr) := if (fs.map (·.1)).contains k = true then fs else fs ++ [(k, b)]
theorem pFs_len (fs : List (Rw × Addr)) (k : Rw) (b : Addr) : (pFs fs k b).length ≤ fs.length + 1 := by
  unfold pFs; split <;> simp
theorem pFs_stored (fs : List (Rw × Addr)) (k : Rw) (b : Addr) : storedH (fs.map rawF) k b (.bool true) = (pFs fs k b).map rawF := by
  have e : (atKey (fs.map rawF) k).isSome = (fs.map (·.1)).contains k := by
    unfold atKey
    rw [Option.isSome_map]
    induction fs with
    | nil => rfl
    | cons f fs ih =>
      rw [List.map_cons, List.find?_cons, List.map_cons, List.contains_cons]
      by_cases c : f.1 = k
      · have : decide ((rawF f).1 = k) = true := decide_eq_true (show f.1 = k from c)
        rw [this]; simp [c]
      · have : decide ((rawF f).1 = k) = false := decide_eq_false (show ¬ f.1 = k from c)
        rw [this]
        have c' : (k == f.1) = false := by simpa using fun z => c z.symm
        rw [c', Bool.false_or]; exact ih
  unfold storedH pFs
  rw [e]
  by_cases c : (fs.map (·.1)).contains k = true
  · rw [if_pos c, if_pos c, List.map_map]
    refine List.map_congr_left fun f _ => ?_
    show putAt k (.bool true) (rawF f) = rawF f
    unfold putAt rawF
    split <;> rfl
  · rw [if_neg c, if_neg c, List.map_append]; rfl
def rSetF (P : Program) (w : World) (K : PySem.W.Frag) : V → V → V → Hp → (Hp → Prop) → Prop := fun o i v H Q => ∃ p b k fs, o = .ref p ∧ i = .ref b ∧ v = .bl true ∧ FdAt P w H p fs ∧ RepD K H (rowD true k) (.ref b) ∧ (∀ z ∈ fs, RepD K H (rowD true z.1) (.ref z.2)) ∧ fs.length < 4000 ∧ Q (upd H p (FdO P w p (pFs fs k b)))
theorem set_fact (P : Program) (w : World) (K : PySem.W.Frag) (hu : X.A.units + 64 < cLine) (hP : X.prog = P := by rfl) (hw : X.w = w := by rfl) (hK : X.K = K := by rfl) : PSet X (rSetF P w K) := by
  subst hP hw hK
  intro pins s σ H o i v ov iv u Q I ro ri rv h
  obtain ⟨p, b, k, fs, rfl, rfl, rfl, hp, hk, hfs, hl, q⟩ := h
  cases ro
  cases ri
  cases rv
  obtain ⟨hd, hz, ob, es, ep, ho, hc, hx, he, hn⟩ := hp.ok I.hok
  have D : s.heap.DictOfH (factKind X.prog X.w) p (fs.map rawF) := ⟨ob, es, ep, ho, hc, hx, he, fun y hy => by
    obtain ⟨f, hf, rfl⟩ := List.mem_map.mp hy
    exact factAt_of I (hfs f hf), by rw [List.map_map]; exact hn⟩
  refine wpAny_setItem_heap (hsz := by rw [List.length_map]; exact sz1000 (by omega)) (knd := factKind X.prog X.w) (show X.A.units + 1 + 1 < cLine by omega) (factAt_of I hk) D fun h' D' hs => ?_
  rw [pFs_stored] at D'
  obtain ⟨o2, es2, ep2, g1, g2, g3, g4, _, g5⟩ := D'
  have body : (p == sysModules) = false ∧ (pFs fs k b).length ≤ sizeLine ∧ ∃ o es ep, h'.get? p = some o ∧ o.ExactDict ∧ o.data = .dict es ep ∧ es.toList = ((pFs fs k b).map rawF).map (entryOfKey (factKind X.prog X.w)) ∧ ((pFs fs k b).map (·.1)).Nodup :=
    ⟨hd, sz1000 (by have := pFs_len fs k b; omega), o2, es2, ep2, g1, g2, g3, g4, by rw [List.map_map] at g5; exact g5⟩
  exact ⟨_, I.write (x := p) (e := p) (o := FdO X.prog X.w p (pFs fs k b)) hp.mut (.inl rfl) (fun b q hb z => (hs.2 b hb).trans z) ⟨o2, g1⟩ ⟨body, ⟨o2, g1⟩, fun h1 h2 ⟨a1, a2, o, es, ep, b1, r⟩ kk => ⟨a1, a2, o, es, ep, kk o b1, r⟩⟩, q⟩
def rListF (P : Program) (w : World) : List V → Hp → VK → Prop := fun xs H Q => ∃ d fs, xs = [.ref d] ∧ FdAt P w H d fs ∧ ∀ l, H l = none → Q (.ref l) (upd H l (.lst (fs.map fun f => .ref f.2)))
theorem call_listF (P : Program) (w : World) (hc : X.calm = true) (hP : X.prog = P := by rfl) (hw : X.w = w := by rfl) : CallR X (.type "list") (rListF P w) := by
  subst hP hw
  intro pins s σ H xs us Q I r h
  obtain ⟨d, fs, rfl, hd, k⟩ := h
  obtain ⟨u, rfl, ru⟩ := vals1 r
  cases ru
  obtain ⟨hs, hz, ob, es, ep, ho, hcd, hx, he, hn⟩ := hd.ok I.hok
  have hsz : es.size = fs.length := by have := congrArg List.length he; simpa using this
  refine list_ents (I.ok.hd hc) hs ⟨ob, ho, hcd, hx⟩ (by rw [hsz]; exact hz) fun h' tk acc c' kp hS ha => ?_
  refine ⟨.ref _, _, I.laid (t' := tk) (o := .lst (fs.map fun f => .ref f.2)) kp (Nat.le_refl _) ⟨by rw [List.length_map]; exact hz, acc.toList, c', ?_, by simpa using hS⟩, rfl, k _ (I.hok.fresh (Nat.le_refl _))⟩
  rw [ha, he]
  have : ∀ fs : List (Rw × Addr), Vals (fs.map fun f => V.ref f.2) (((fs.map rawF).map (entryOfKey (factKind X.prog X.w))).map (·.key)) := fun fs => by
    induction fs with
    | nil => exact .nil
    | cons f fs ih => exact .cons rfl ih
  exact this fs
end
end L2
set_option Elab.async false
set_option linter.all false
set_option maxRecDepth 100000
set_option maxHeartbeats 4000000
namespace L2
open PySem PySem.Spec PyProof.Rows
section
variable {X : Cx}
variable {K : PySem.W.Frag} {H H' : Hp} {Q : VK} {i j : Int} {x y : Str}
def RepX (K : PySem.W.Frag) (H : Hp) (ds : List Dt) (xs : List V) : Prop := ds.length = xs.length ∧ ∀ (j : Nat) d x, ds[j]? = some d → xs[j]? = some x → RepD K H d x
theorem RepX.nil : RepX K H [] [] := ⟨rfl, fun j d x e => by simp at e⟩
theorem RepX.same (e : Same H H') {ds : List Dt} {xs : List V} (h : RepX K H ds xs) : RepX K H' ds xs := ⟨h.1, fun j d x a b => (h.2 j d x a b).same e⟩
theorem RepX.snoc {ds : List Dt} {xs : List V} {d : Dt} {v : V} (h : RepX K H ds xs) (hd : RepD K H d v) : RepX K H (ds ++ [d]) (xs ++ [v]) := by
  refine ⟨by simp [h.1], fun j d' x e1 e2 => ?_⟩
  by_cases c : j < ds.length
  · rw [List.getElem?_append_left c] at e1
    rw [List.getElem?_append_left (by rw [← h.1]; exact c)] at e2
    exact h.2 j d' x e1 e2
  · rw [List.getElem?_append_right (by omega)] at e1
    rw [List.getElem?_append_right (by have := h.1; omega)] at e2
    have z : j - ds.length = 0 := by
      have := (List.getElem?_eq_some_iff.mp e1).1
      simp at this; omega
    rw [z] at e1
    rw [← h.1, z] at e2
    cases e1; cases e2; exact hd
theorem RepX.tup {a : Addr} {ds : List Dt} {xs : List V} (h : RepX K H ds xs) (s : SqT K H a xs) : RepD K H (.tup ds) (.ref a) := .tup s h.1 h.2
theorem RepD.toT {ds : List Dt} {v : V} (h : RepD K H (.tup ds) v) : ∃ a xs, v = .ref a ∧ SqT K H a xs ∧ RepX K H ds xs := by
  cases h with
  | @tup a xs _ h hl hr => exact ⟨a, xs, rfl, h, hl, hr⟩
theorem RepX.zs {f : Bool} : ∀ {ks : List Rw} {xs : List V}, RepX K H (ks.map (rowD f)) xs → (xs.zip ks).map (·.1) = xs ∧ (xs.zip ks).map (·.2) = ks ∧ ∀ z ∈ xs.zip ks, RepD K H (rowD f z.2) z.1 := fun {ks xs} h => by
  have hl : ks.length = xs.length := by have := h.1; simpa using this
  refine ⟨by rw [List.map_fst_zip (by omega)], by rw [List.map_snd_zip (by omega)], fun z hz => ?_⟩
  obtain ⟨n, hn, e⟩ := List.mem_iff_getElem.mp hz
  rw [List.getElem_zip] at e
  have n1 : n < xs.length := by simp at hn; omega
  have n2 : n < ks.length := by omega
  rw [← e]
  exact h.2 n _ _ (by simp [n2]) (by simp [n1])
theorem RepX.ofZ {f : Bool} {zs : List (V × Rw)} (h : ∀ z ∈ zs, RepD K H (rowD f z.2) z.1) : RepX K H ((zs.map (·.2)).map (rowD f)) (zs.map (·.1)) := by
  refine ⟨by simp, fun j d x e1 e2 => ?_⟩
  rw [List.map_map, List.getElem?_map] at e1
  rw [List.getElem?_map] at e2
  cases c : zs[j]? with
  | none => rw [c] at e1; cases e1
  | some z =>
    rw [c] at e1 e2
    cases e1; cases e2
    exact h z (List.mem_of_getElem? c)
def prR (p : Str × Int) : Rw := (p.1, [p.2])
structure Wd where
  size : Int
  cs : List (Str × Int)
  fs : List Rw
def Wd.dt (W : Wd) : Dt := .tup [.int W.size, .tup ((W.cs.map prR).map (rowD false)), .tup (W.fs.map (rowD true))]
def RisC (cs : List (Str × Int)) : Prop := cs.Pairwise fun a b => a.1.cps.toList < b.1.cps.toList
def RisF (fs : List Rw) : Prop := fs.Pairwise fun a b => rowLt (rowK a) (rowK b)
structure Wd.Ok (W : Wd) : Prop where
  s1 : 1 ≤ W.size
  s2 : W.size ≤ 40
  rc : RisC W.cs
  rf : RisF W.fs
  nm : ∀ p ∈ W.cs, Nm smallS p.1 ∧ 0 ≤ p.2 ∧ p.2 < W.size
  ft : ∀ f ∈ W.fs, Nm smallS f.1 ∧ f.2.length ≤ 3 ∧ ∀ i ∈ f.2, 0 ≤ i ∧ i < W.size
  lc : W.cs.length ≤ 40
  lf : W.fs.length ≤ 100
structure RepW (K : PySem.W.Frag) (H : Hp) (W : Wd) (a c f : Addr) (xs ys : List V) : Prop where
  top : SqT K H a [.int W.size, .ref c, .ref f]
  called : SqT K H c xs
  facts : SqT K H f ys
  rc : RepX K H ((W.cs.map prR).map (rowD false)) xs
  rf : RepX K H (W.fs.map (rowD true)) ys
theorem RepW.same (e : Same H H') {W : Wd} {a c f : Addr} {xs ys : List V} (h : RepW K H W a c f xs ys) : RepW K H' W a c f xs ys := ⟨e.seqT h.top, e.seqT h.called, e.seqT h.facts, h.rc.same e, h.rf.same e⟩
theorem RepW.repD {W : Wd} {a c f : Addr} {xs ys : List V} (h : RepW K H W a c f xs ys) : RepD K H W.dt (.ref a) := RepD.t3 h.top (.int _) (h.rc.tup h.called) (h.rf.tup h.facts)
theorem Wd.dep (W : Wd) : Dt.dep W.dt ≤ 60 := by
  have z : ∀ l : List Int, Dt.deps (l.map Dt.int) = 0 := fun l => by
    induction l with
    | nil => simp [Dt.deps]
    | cons a l ih => simp [Dt.deps, Dt.dep, ih]
  have h1 : ∀ ks : List Rw, Dt.deps (ks.map (rowD true)) ≤ 2 := fun ks => by
    induction ks with
    | nil => simp [Dt.deps]
    | cons a l ih =>
      rw [List.map_cons, Dt.deps]
      have : Dt.dep (rowD true a) ≤ 2 := by simp [rowD, Dt.dep, Dt.deps, z]
      omega
  have h2 : ∀ ks : List Rw, Dt.deps (ks.map (rowD false)) ≤ 2 := fun ks => by
    induction ks with
    | nil => simp [Dt.deps]
    | cons a l ih =>
      rw [List.map_cons, Dt.deps]
      have : Dt.dep (rowD false a) ≤ 2 := by simp [rowD, Dt.dep, Dt.deps]
      omega
  have a1 := h1 W.fs
  have a2 := h2 (W.cs.map prR)
  simp only [Wd.dt, Dt.dep, Dt.deps]
  omega
theorem rowK_inj {a b : Rw} (h : rowK a = rowK b) : a = b := Prod.ext (strCps (congrArg Prod.fst h)) (show (rowK a).2 = (rowK b).2 from congrArg Prod.snd h)
theorem srtR_map {zs : List (V × Rw)} (h : SrtR zs) : (zs.map (·.2)).Pairwise fun a b => ¬ rowLt (rowK b) (rowK a) := List.pairwise_map.mpr h
section
variable {K : PySem.W.Frag} {P : Program} {w : World} {H : Hp} {Q : VK} {p b : Addr} {k : Str} {v : V} {Qh : Hp → Prop}
theorem w_setS : rSetS (.ref p) (.str k) v H Qh = ∃ l, H p = some (.dK (dS l)) ∧ l.length < 4000 ∧ Qh (upd H p (.dK (dS (putS l k v)))) := by
  refine propext ⟨fun ⟨_, _, l, e1, e2, h⟩ => ?_, fun ⟨l, h⟩ => ⟨p, k, l, rfl, rfl, h⟩⟩
  cases e1; cases e2; exact ⟨l, h⟩
theorem w_setF : rSetF P w K (.ref p) (.ref b) (.bl true) H Qh = ∃ k fs, FdAt P w H p fs ∧ RepD K H (rowD true k) (.ref b) ∧ (∀ z ∈ fs, RepD K H (rowD true z.1) (.ref z.2)) ∧ fs.length < 4000 ∧ Qh (upd H p (FdO P w p (pFs fs k b))) := by
  refine propext ⟨fun ⟨_, _, k, fs, e1, e2, _, h⟩ => ?_, fun ⟨k, fs, h⟩ => ⟨p, b, k, fs, rfl, rfl, rfl, h⟩⟩
  cases e1; cases e2; exact ⟨k, fs, h⟩
theorem w_listF : rListF P w [.ref p] H Q = ∃ fs, FdAt P w H p fs ∧ ∀ l, H l = none → Q (.ref l) (upd H l (.lst (fs.map fun f => .ref f.2))) := by
  refine propext ⟨fun ⟨_, fs, e, h⟩ => ?_, fun ⟨fs, h⟩ => ⟨p, fs, rfl, h⟩⟩
  cases e; exact ⟨fs, h⟩
theorem w_ixS2 : rIxS2 (.ref p) (.str k) H Q = ∃ l z, Rd H p (.dK (dS l)) ∧ valS l k = some z ∧ Q z H := by
  refine propext ⟨fun ⟨_, _, l, z, e1, e2, h⟩ => ?_, fun ⟨l, z, h⟩ => ⟨k, p, l, z, rfl, rfl, h⟩⟩
  cases e1; cases e2; exact ⟨l, z, h⟩
theorem w_iDS {tl : TE} {σ : St} {R : It → Hp → Prop} : iDS tl σ H R = tl σ H fun x H1 => ∃ a l, x = .ref a ∧ H1 a = some (.dK (dS l)) ∧ ∀ o, R (Itd a o l) (upd H1 a (.frz o (.dK (dS l)))) := rfl
theorem comp_dS {d : Addr} {o : Obj} {l : List (Str × V)} {nt : Nat} {is : List Nat} {g : TG} {tt : TT} {te : TE} {σ : St} (Pv : Nat → List V → Hp → Prop) (h0 : Pv 0 [] H) (hl : ∀ i acc H, i ≤ l.length → Pv i acc H → H d = some (.frz o (.dK (dS l))))
    (hs : ∀ i z acc H, l[i]? = some z → Pv i acc H → acc.length < sizeLine ∧ g (.str z.1) (slotsC nt is σ) H fun σ2 H2 => tt σ2 H2 fun b H3 => if b = true then te σ2 H3 fun y H4 => Pv (i + 1) (acc ++ [y]) H4 else Pv (i + 1) acc H3)
    (hd : ∀ acc H, Pv l.length acc H → ∀ p, H p = none → Q (.ref p) (upd H p (.lst acc))) : CompW (Itd d o l) nt is g tt te σ H Q := by
  refine comp_gen (n := l.length) Pv h0 (fun i acc H hi q => ?_) fun acc H q => ⟨⟨hl _ _ _ (Nat.le_refl _) q, rfl⟩, hd acc H q⟩
  obtain ⟨h1, h2⟩ := hs i l[i] acc H (List.getElem?_eq_getElem hi) q
  refine ⟨⟨hl i acc H (Nat.le_of_lt hi) q, hi⟩, h1, fun x H' y => ?_⟩
  obtain ⟨rfl, k, hk, rfl⟩ := y
  rw [List.getElem?_eq_getElem hi] at hk
  cases hk
  exact h2
theorem valS_get {l : List (Str × V)} (hn : (l.map (·.1)).Nodup) {i : Nat} {z : Str × V} (h : l[i]? = some z) : valS l z.1 = some z.2 := by
  induction l generalizing i with
  | nil => simp at h
  | cons a l ih =>
    rw [List.map_cons, List.nodup_cons] at hn
    cases i with
    | zero => cases h; simp [valS]
    | succ j =>
      have hj : l[j]? = some z := by simpa using h
      have : a.1 ≠ z.1 := fun e => hn.1 (e ▸ List.mem_map.mpr ⟨z, List.mem_of_getElem? hj, rfl⟩)
      have := ih hn.2 hj
      simpa [valS, List.find?_cons, ‹a.1 ≠ z.1›] using this
theorem putS_keys (l : List (Str × V)) (k : Str) (v : V) (hn : (l.map (·.1)).Nodup) : ((putS l k v).map (·.1)).Nodup := by
  unfold putS
  by_cases c : l.any (fun p => decide (p.1 = k)) = true
  · rw [if_pos c]
    have : (l.map fun p => if p.1 = k then (p.1, v) else p).map (·.1) = l.map (·.1) := by
      rw [List.map_map]
      refine List.map_congr_left fun p _ => ?_
      show (if p.1 = k then (p.1, v) else p).1 = p.1
      split <;> rfl
    rw [this]; exact hn
  · rw [if_neg c, List.map_append, List.nodup_append]
    refine ⟨hn, by simp, fun a ha b hb e => c ?_⟩
    have hb' : b = k := by simpa using hb
    obtain ⟨p, hp, rfl⟩ := List.mem_map.mp ha
    exact List.any_eq_true.mpr ⟨p, hp, by simp [e, hb']⟩
theorem putS_all {R : Str × V → Prop} {l : List (Str × V)} {k : Str} {v : V} (h : ∀ p ∈ l, R p) (hk : R (k, v)) : ∀ p ∈ putS l k v, R p := fun p hp => by
  unfold putS at hp
  by_cases c : l.any (fun p => decide (p.1 = k)) = true
  · rw [if_pos c] at hp
    obtain ⟨q, hq, rfl⟩ := List.mem_map.mp hp
    by_cases e : q.1 = k
    · rw [if_pos e, e]; exact hk
    · rw [if_neg e]; exact h q hq
  · rw [if_neg c] at hp
    rcases List.mem_append.mp hp with z | z
    · exact h p z
    · rw [List.mem_singleton.mp z]; exact hk
theorem pFs_keys (fs : List (Rw × Addr)) (k : Rw) (b : Addr) (hn : (fs.map (·.1)).Nodup) : ((pFs fs k b).map (·.1)).Nodup := by
  unfold pFs
  by_cases c : (fs.map (·.1)).contains k = true
  · rw [if_pos c]; exact hn
  · rw [if_neg c, List.map_append, List.nodup_append]
    refine ⟨hn, by simp, fun a ha b' hb e => c ?_⟩
    have hb' : b' = k := by simpa using hb
    rw [List.contains_iff_mem, ← hb', ← e]; exact ha
theorem pFs_all {R : Rw × Addr → Prop} {fs : List (Rw × Addr)} {k : Rw} {b : Addr} (h : ∀ f ∈ fs, R f) (hk : R (k, b)) : ∀ f ∈ pFs fs k b, R f := fun f hf => by
  unfold pFs at hf
  by_cases c : (fs.map (·.1)).contains k = true
  · rw [if_pos c] at hf; exact h f hf
  · rw [if_neg c] at hf
    rcases List.mem_append.mp hf with z | z
    · exact h f z
    · rw [List.mem_singleton.mp z]; exact hk
def Dct : HO → Prop
  | .dK _ => True
  | .ext _ => True
  | .frz _ (.dK _) => True
  | _ => False
theorem SqT.keepD {K : PySem.W.Frag} {H : Hp} {p q : Addr} {u o : HO} {xs : List V} (h : SqT K H q xs) (hp : H p = some u) (hu : Dct u) : SqT K (upd H p o) q xs := by
  rcases h with (h | ⟨o', h⟩) | h
  · exact .inl (.inl (by rw [upd_ne]; exact h; rintro rfl; rw [hp] at h; cases h; exact hu))
  · exact .inl (.inr ⟨o', by rw [upd_ne]; exact h; rintro rfl; rw [hp] at h; cases h; exact hu⟩)
  · exact .inr h
theorem SqL.keepD {K : PySem.W.Frag} {H : Hp} {p q : Addr} {u o : HO} {xs : List V} (h : SqL K H q xs) (hp : H p = some u) (hu : Dct u) : SqL K (upd H p o) q xs := by
  rcases h with (h | ⟨o', h⟩) | h
  · exact .inl (.inl (by rw [upd_ne]; exact h; rintro rfl; rw [hp] at h; cases h; exact hu))
  · exact .inl (.inr ⟨o', by rw [upd_ne]; exact h; rintro rfl; rw [hp] at h; cases h; exact hu⟩)
  · exact .inr h
theorem RepD.keepD {K : PySem.W.Frag} {H : Hp} {p : Addr} {u o : HO} {d : Dt} {x : V} (h : RepD K H d x) (hp : H p = some u) (hu : Dct u) : RepD K (upd H p o) d x := by
  induction h with
  | int i => exact .int i
  | str x => exact .str x
  | non => exact .non
  | tup h hl hr ih => exact .tup (h.keepD hp hu) hl ih
  | lst h hl hr ih => exact .lst (h.keepD hp hu) hl ih
theorem FdAt.same {P : Program} {w : World} {H H' : Hp} {d : Addr} {fs : List (Rw × Addr)} (h : FdAt P w H d fs) (s : Same H H') : FdAt P w H' d fs := by
  rcases h with h | ⟨e, h⟩
  · exact .inl (s _ _ h)
  · exact .inr ⟨e, s _ _ h⟩
theorem FdAt.dct {P : Program} {w : World} {H : Hp} {d : Addr} {fs : List (Rw × Addr)} (h : FdAt P w H d fs) : ∃ u, H d = some u ∧ Dct u := by
  rcases h with h | ⟨_, h⟩ <;> exact ⟨_, h, trivial⟩
theorem risF_of {zs : List (V × Rw)} {l : List Rw} (h : SrtR zs) (p : (zs.map (·.2)).Perm l) (hn : l.Nodup) : RisF (zs.map (·.2)) := by
  have n2 : (zs.map (·.2)).Nodup := p.nodup_iff.mpr hn
  refine ((srtR_map h).and n2).imp fun {a b} ⟨h1, h2⟩ => ?_
  rcases rowLt_tri (rowK a) (rowK b) with z | z | z
  · exact z
  · exact absurd (rowK_inj z) h2
  · exact absurd z h1
def rwP (k : Rw) : Str × Int := (k.1, k.2.headD 0)
theorem prR_rwP {k : Rw} (h : k.2.length = 1) : prR (rwP k) = k := by
  obtain ⟨x, l⟩ := k
  match l, h with
  | [i], _ => rfl
theorem risC_of {zs : List (V × Rw)} (h : SrtR zs) (hn : (zs.map (·.2.1)).Nodup) : RisC ((zs.map (·.2)).map rwP) := by
  have hn' : zs.Pairwise fun a b => a.2.1 ≠ b.2.1 := List.pairwise_map.mp hn
  refine List.pairwise_map.mpr (List.pairwise_map.mpr ((h.and hn').imp fun {a b} ⟨h1, h2⟩ => ?_))
  show a.2.1.cps.toList < b.2.1.cps.toList
  rcases rowLt_tri (rowK a.2) (rowK b.2) with (z | ⟨z, _⟩) | z | z
  · exact z
  · exact absurd (strCps z) h2
  · exact absurd (congrArg Prod.fst (rowK_inj z)) h2
  · exact absurd z h1
def intV : V → Int
  | .int i => i
  | _ => 0
def pairsS (l : List (Str × V)) : List (Str × Int) := l.map fun q => (q.1, intV q.2)
theorem pairsS_take (l : List (Str × V)) (i : Nat) (z : Str × V) (h : l[i]? = some z) : pairsS (l.take (i + 1)) = pairsS (l.take i) ++ [(z.1, intV z.2)] := by
  have hi := (List.getElem?_eq_some_iff.mp h).1
  have e := (List.getElem?_eq_some_iff.mp h).2
  rw [List.take_succ_eq_append_getElem hi, e]
  simp [pairsS]
def nmB (x : Str) : Bool := match x.cps.toList with
  | c :: r => smallS.cps.toList.contains c && r.all (fun d => sofS.cps.toList.contains d) && decide (r.length ≤ 7) && !keptW.contains x
  | [] => false
theorem nm_of {x : Str} (h : nmB x = true) : Nm smallS x := by
  unfold nmB at h
  split at h
  · rename_i c r e
    simp only [Bool.and_eq_true, List.contains_iff_mem, List.all_eq_true, decide_eq_true_eq, Bool.not_eq_true'] at h
    obtain ⟨⟨⟨h1, h2⟩, h3⟩, h4⟩ := h
    exact ⟨c, r, e, h1, h2, h3, fun z => by rw [← List.contains_iff_mem] at z; rw [z] at h4; cases h4⟩
  · cases h
theorem nm_n36 : ∀ i : Nat, i < 36 → nmB (Str.ofString "n" ++ Str.ofString (toString (i : Int))) = true := by decide +kernel
end
end
end L2
set_option Elab.async false
set_option linter.all false
set_option maxRecDepth 100000
set_option maxHeartbeats 4000000
namespace L2
open PySem PySem.Spec PyProof.Rows PySem.SeqAt
open AutoSeq1 (wpAny_loadPart')
open MeetsSeq MeetsSeq2 MeetsSeq3 SeqRoads2
def twoB (b c : Bool) : Nat → Bool
  | 0 => b
  | _ => c
section
variable {A : Around} {s : Shared}
end
section
variable {A : Around} {s : Shared}
theorem two_eq {f : Bool} {x y : Str} {t t' : Tok} {u v : Value} {l m : List Int} (hu : A.units + 1 < cLine) (r : SecR s.heap f u l) (r' : SecR s.heap f v m) : ∀ j (h1 : j < (#[Value.str x t, u]).size) (h2 : j < (#[Value.str y t', v]).size), EqAt A.in1 s (#[Value.str x t, u])[j] (#[Value.str y t', v])[j] (twoB (x == y) (decide (l = m)) j) := fun j h1 h2 => by
  have h1' : j < 2 := h1
  match j, h1' with
  | 0, _ => exact EqAt.str_str _ _ _ _
  | 1, _ => exact r.eqAt (by show A.units + 1 < cLine; exact hu) r'
theorem row_lt {f : Bool} {u v : Value} {k k' : List Nat × List Int} (hu : A.units + 1 < cLine) (h1 : RowR s.heap f u k) (h2 : RowR s.heap f v k') : LtA A s u v (decide (rowLt k k')) := by
  obtain ⟨a, x, t, u, l, rfl, p, r, rfl⟩ := h1
  obtain ⟨b, y, t', v, m, rfl, p', r', rfl⟩ := h2
  have z := LtA.tup (A := A) (e := twoB (x == y) (decide (l = m))) (l := twoB (decide (x.cps.toList < y.cps.toList)) (decide (l < m))) p p' (by omega) (two_eq hu r r') (fun j h1 h2 _ => by
    have h1' : j < 2 := h1
    match j, h1' with
    | 0, _ => exact LtA.str _ _ _ _
    | 1, _ => exact r.ltA (by show A.units + 1 < cLine; exact hu) r')
  have e : lexB (twoB (x == y) (decide (l = m))) (twoB (decide (x.cps.toList < y.cps.toList)) (decide (l < m))) (decide ((#[Value.str x t, u]).size < (#[Value.str y t', v]).size)) (List.range (min (#[Value.str x t, u]).size (#[Value.str y t', v]).size)) = decide (rowLt (x.cps.toList, l) (y.cps.toList, m)) := by
    show lexB _ _ (decide (2 < 2)) (List.range 2) = _
    rw [show List.range 2 = [0, 1] from rfl]
    simp only [lexB, twoB]
    by_cases c : x = y
    · subst c
      by_cases c2 : l = m
      · subst c2; simp [rowLt_irr]
      · simp [rowLt, c2, List.lt_irrefl]
    · have c' : ¬ x.cps.toList = y.cps.toList := fun e => c (strCps e)
      have : (x == y) = false := by simpa using c
      simp [rowLt, this, c']
  rw [e] at z
  exact z
end
end L2
namespace L2
open PySem PySem.Spec PyProof.Rows
section
variable {X : Cx}
def rLtRow (K : PySem.W.Frag) : R2 := fun x y H Q => ∃ f k k', RepD K H (rowD f k) x ∧ RepD K H (rowD f k') y ∧ (f = false → k.2.length = 1 ∧ k'.2.length = 1) ∧ Q (.bl (decide (rowLt (rowK k) (rowK k')))) H
theorem op_ltRow (hu : X.A.units + 64 < cLine) : OpR X (compareOp .Lt) (rLtRow X.K) := by
  intro pins s σ H x y v u Q I rx ry h
  obtain ⟨f, k, k', h1, h2, h3, q⟩ := h
  exact row_lt (by omega) (rowR_of I h1 (fun z => (h3 z).1) rx) (rowR_of I h2 (fun z => (h3 z).2) ry) _ _ _ _ (fin_bl I q rfl)
def rLtW (K : PySem.W.Frag) : R2 := fun x y H Q => rLtA x y H Q ∨ rLtRow K x y H Q
theorem opW_lt (K : PySem.W.Frag) (hu : X.A.units + 64 < cLine) (hK : X.K = K := by rfl) : OpR X (compareOp .Lt) (rLtW K) := hK ▸ (OpR.or opA_lt (op_ltRow hu) : OpR X (compareOp .Lt) (rLtW X.K))
variable {K : PySem.W.Frag} {H : Hp} {Q : VK} {i j : Int} {x y : Str} {p q : Addr}
theorem RepD.rowRef {f : Bool} {k : Rw} {v : V} (h : RepD K H (rowD f k) v) : ∃ a, v = .ref a := by
  cases f <;> (obtain ⟨a, _, _, e, _⟩ := RepD.two h; exact ⟨a, e⟩)
theorem w_ltWI : rLtW K (.int i) (.int j) H Q = Q (.bl (decide (i < j))) H := by
  refine propext ⟨fun h => ?_, fun h => .inl (by rw [w_ltI]; exact h)⟩
  rcases h with h | ⟨f, k, k', h1, _⟩
  · rwa [w_ltI] at h
  · obtain ⟨a, e⟩ := h1.rowRef; cases e
theorem w_ltWS : rLtW K (.str x) (.str y) H Q = Q (.bl (decide (x.cps.toList < y.cps.toList))) H := by
  refine propext ⟨fun h => ?_, fun h => .inl (by rw [w_ltS]; exact h)⟩
  rcases h with h | ⟨f, k, k', h1, _⟩
  · rwa [w_ltS] at h
  · obtain ⟨a, e⟩ := h1.rowRef; cases e
theorem w_ltWR : rLtW K (.ref p) (.ref q) H Q = rLtRow K (.ref p) (.ref q) H Q := by
  refine propext ⟨fun h => ?_, .inr⟩
  rcases h with (⟨_, _, e, _⟩ | ⟨_, _, e, _⟩) | h
  · cases e
  · cases e
  · exact h
def rInsert : V → List V → Hp → VK → Prop := fun x vs H Q => ∃ l xs y n, x = .ref l ∧ vs = [.int (n : Nat), y] ∧ H l = some (.lst xs) ∧ n ≤ xs.length ∧ xs.length < 100000 ∧ Q .non (upd H l (.lst (xs.take n ++ y :: xs.drop n)))
theorem w_insert {l : Addr} {y : V} {N : Int} : rInsert (.ref l) [.int N, y] H Q = ∃ xs n, N = (n : Nat) ∧ H l = some (.lst xs) ∧ n ≤ xs.length ∧ xs.length < 100000 ∧ Q .non (upd H l (.lst (xs.take n ++ y :: xs.drop n))) := by
  refine propext ⟨fun ⟨_, xs, _, n, e1, e2, h⟩ => ?_, fun ⟨xs, n, e, h⟩ => ⟨l, xs, y, n, rfl, by rw [e], h⟩⟩
  cases e1
  simp only [List.cons.injEq, V.int.injEq, and_true] at e2
  obtain ⟨e3, rfl⟩ := e2
  exact ⟨xs, n, e3, h⟩
def risQ (ks : List (List Nat × List Int)) : Bool := (List.range (ks.length - 1)).all fun j => decide (rowLt (ks.getD j ([], [])) (ks.getD (j + 1) ([], [])))
def KeyIt (K : PySem.W.Frag) (H : Hp) (t : Bool) (v : V) (k : List Nat × List Int) : Prop := match t with
  | true => ∃ x : Str, v = .str x ∧ k = (x.cps.toList, [])
  | false => ∃ (a : Addr) (r : Rw), v = .ref a ∧ RepD K H (rowD true r) v ∧ k = rowK r
theorem rowLt_txt {a b : List Nat} : rowLt (a, []) (b, []) ↔ a < b := ⟨fun h => h.elim id fun z => absurd z.2 (List.lt_irrefl _), .inl⟩
theorem KeyIt.lt {t : Bool} {u v : V} {k k' : List Nat × List Int} (h1 : KeyIt K H t u k) (h2 : KeyIt K H t v k') (q : Q (.bl (decide (rowLt k k'))) H) : rLtW K u v H Q := by
  cases t with
  | true =>
    obtain ⟨x, rfl, rfl⟩ := h1; obtain ⟨y, rfl, rfl⟩ := h2
    rw [w_ltWS]
    rwa [show decide (rowLt (x.cps.toList, []) (y.cps.toList, [])) = decide (x.cps.toList < y.cps.toList) from decide_eq_decide.mpr rowLt_txt] at q
  | false =>
    obtain ⟨a, r, rfl, e2, rfl⟩ := h1; obtain ⟨b, r', rfl, e2', rfl⟩ := h2
    exact Or.inr ⟨true, r, r', e2, e2', (fun z => nomatch z), q⟩
def KeyRow (K : PySem.W.Frag) (H : Hp) (xs : List V) (ks : List (List Nat × List Int)) : Prop := ∃ t, ks.length = xs.length ∧ ∀ (j : Nat) v k, xs[j]? = some v → ks[j]? = some k → KeyIt K H t v k
theorem KeyRow.facts {fs : List Rw} {ys : List V} (h : RepX K H (fs.map (rowD true)) ys) : KeyRow K H ys (fs.map rowK) := by
  refine ⟨false, by have := h.1; simpa using this, fun j v k e1 e2 => ?_⟩
  rw [List.getElem?_map] at e2
  cases c : fs[j]? with
  | none => rw [c] at e2; cases e2
  | some r =>
    rw [c] at e2
    cases e2
    have := h.2 j (rowD true r) v (by rw [List.getElem?_map, c]; rfl) e1
    obtain ⟨a, rfl⟩ := this.rowRef
    exact ⟨a, r, rfl, this, rfl⟩
theorem KeyRow.txts (ts : List Str) : KeyRow K H (ts.map V.str) (ts.map fun x => (x.cps.toList, [])) := by
  refine ⟨true, by simp, fun j v k e1 e2 => ?_⟩
  rw [List.getElem?_map] at e1 e2
  cases c : ts[j]? with
  | none => rw [c] at e2; cases e2
  | some r => rw [c] at e1 e2; cases e1; cases e2; exact ⟨r, rfl, rfl⟩
theorem KeyRow.at {xs : List V} {ks : List (List Nat × List Int)} {t : Bool} (hl : ks.length = xs.length) (h : ∀ (j : Nat) v k, xs[j]? = some v → ks[j]? = some k → KeyIt K H t v k) {j : Nat} (hj : j < xs.length) : KeyIt K H t xs[j] (ks.getD j ([], [])) := by
  have h1 : j < ks.length := by omega
  have : ks.getD j ([], []) = ks[j] := by simp [List.getD, h1]
  rw [this]
  exact h j _ _ (List.getElem?_eq_getElem hj) (List.getElem?_eq_getElem h1)
end
end L2
set_option Elab.async false
set_option linter.all false
set_option maxRecDepth 100000
set_option maxHeartbeats 4000000
namespace L2
open PySem PySem.Spec PyProof.Rows
theorem no_str_int : typeLookup (.type "str") "__int__" = pure none := by rw [typeLookup_type, builtinLookup_eq_fast]; kernel_rfl
theorem no_str_index : typeLookup (.type "str") "__index__" = pure none := by rw [typeLookup_type, builtinLookup_eq_fast]; kernel_rfl
theorem no_str_trunc : typeLookup (.type "str") "__trunc__" = pure none := by rw [typeLookup_type, builtinLookup_eq_fast]; kernel_rfl
theorem wpEq {M : Model} {A : Around} {α : Type} {m m' : Sem α} {Q : α → Shared → Prop} {E : Value → Shared → Prop} {s : Shared} (e : m = m') (h : wpAny M A m' Q E s) : wpAny M A m Q E s := e ▸ h
theorem meets_int_new_str (t : Tok) (i : Nat) (hi : i < 41) : Meets (Builtin.«int.__new__» ⟨[.type "int", .str (Str.ofString (toString (i : Int))) t], []⟩) (Made.int i).spec :=
  Meets.of_wp fun prog w A R s hs => by
    obtain ⟨hp, g, d, tk, os⟩ := s
    have f1 := F.conv_sub_int
    have f2 := F.madeHere_int
    generalize hx : Str.ofString (toString (i : Int)) = x
    have hT : (⟨hp, g, d, tk, os⟩ : Shared).TypeIs (.str x t) "str" := rfl
    have f3 := no_str_int
    have f4 := no_str_index
    have f5 := no_str_trunc
    repeat (any_goals (first | assumption | wp_step))
    subst hx
    refine wpEq (m' := mkInt (i : Int)) ?_ ?_
    · rcases (by omega : i = 0 ∨ i = 1 ∨ i = 2 ∨ i = 3 ∨ i = 4 ∨ i = 5 ∨ i = 6 ∨ i = 7 ∨ i = 8 ∨ i = 9 ∨ i = 10 ∨ i = 11 ∨ i = 12 ∨ i = 13 ∨ i = 14 ∨ i = 15 ∨ i = 16 ∨ i = 17 ∨ i = 18 ∨ i = 19 ∨ i = 20 ∨ i = 21 ∨ i = 22 ∨ i = 23 ∨ i = 24 ∨ i = 25 ∨ i = 26 ∨ i = 27 ∨ i = 28 ∨ i = 29 ∨ i = 30 ∨ i = 31 ∨ i = 32 ∨ i = 33 ∨ i = 34 ∨ i = 35 ∨ i = 36 ∨ i = 37 ∨ i = 38 ∨ i = 39 ∨ i = 40) with rfl | rfl | rfl | rfl | rfl | rfl | rfl | rfl | rfl | rfl | rfl | rfl | rfl | rfl | rfl | rfl | rfl | rfl | rfl | rfl | rfl | rfl | rfl | rfl | rfl | rfl | rfl | rfl | rfl | rfl | rfl | rfl | rfl | rfl | rfl | rfl | rfl | rfl | rfl | rfl | rfl
      all_goals kernel_rfl
    · repeat (any_goals (first | assumption | wp_step))
      all_goals first | exact ⟨_, rfl, hs⟩ | skip
section
variable {prog : Program} {w : World} {A : Around} {E : Value → Shared → Prop} {s : Shared}
theorem call_int_txt {t : Tok} {i : Nat} (hi : i < 41) {Q : Value → Shared → Prop} (h : Q (.int i s.toks) { s with toks := s.toks + 1 }) : wpAny (model prog w) A (call (.type "int") [.str (Str.ofString (toString (i : Int))) t]) Q E s :=
  call_int_1 (meets_int_new_str t i hi) (show (Made.int i).post _ s from ⟨rfl, h⟩)
end
section
variable {X : Cx}
def rIntT : List V → Hp → VK → Prop := fun xs H Q => rIntOf xs H Q ∨ ∃ i : Nat, i < 41 ∧ xs = [.str (Str.ofString (toString (i : Int)))] ∧ Q (.int i) H
theorem callT_int : CallR X (.type "int") rIntT := by
  intro pins s σ H xs us Q I r h
  rcases h with h | ⟨i, hi, rfl, q⟩
  · exact callA_int pins s σ H xs us Q I r h
  · obtain ⟨u, rfl, ru⟩ := vals1 r
    obtain ⟨t, rfl⟩ := ru
    exact call_int_txt hi ⟨.int i, H, I.tok _, ⟨_, rfl⟩, q⟩
end
end L2
set_option Elab.async false
set_option linter.all false
set_option maxRecDepth 100000
set_option maxHeartbeats 4000000
namespace L2
open PySem PySem.Spec PyProof.Rows
def flushR (rs : List (List Nat)) : List (List (List Nat)) := if rs = [] then [] else [rs]
def rw2 (rs : List (List Nat)) (acc : List Nat) : List Nat → List (List (List Nat))
  | [] => flushR (rs ++ flushW acc)
  | c :: l => if c = 10 then flushR (rs ++ flushW acc) ++ rw2 [] [] l else if c = 32 then rw2 (rs ++ flushW acc) [] l else rw2 rs (acc ++ [c]) l
theorem rw2_nl (rs : List (List Nat)) (acc l : List Nat) : rw2 rs acc (10 :: l) = flushR (rs ++ flushW acc) ++ rw2 [] [] l := by rw [rw2, if_pos rfl]
theorem rw2_bl (rs : List (List Nat)) (acc l : List Nat) : rw2 rs acc (32 :: l) = rw2 (rs ++ flushW acc) [] l := by rw [rw2, if_neg (by decide), if_pos rfl]
theorem rw2_c {c : Nat} (h1 : c ≠ 10) (h2 : c ≠ 32) (rs : List (List Nat)) (acc l : List Nat) : rw2 rs acc (c :: l) = rw2 rs (acc ++ [c]) l := by rw [rw2, if_neg h1, if_neg h2]
theorem fl0 : flushW [] = [] := rfl
def Bk (z : List Nat) : Prop := ∀ c ∈ z, c = 32 ∨ c = 10
theorem rw2_clean : ∀ {z : List Nat} (l : List Nat), Bk z → rw2 [] [] (z ++ l) = rw2 [] [] l
  | [], l, _ => rfl
  | c :: z, l, h => by
    have ih := rw2_clean (z := z) l fun d hd => h d (List.mem_cons_of_mem _ hd)
    rcases h c (by simp) with rfl | rfl
    · rw [List.cons_append, rw2_bl, fl0, List.append_nil]; exact ih
    · rw [List.cons_append, rw2_nl, fl0]; exact ih
theorem rw2_32 : ∀ {z : List Nat} (rs : List (List Nat)) (acc l : List Nat), (∀ c ∈ z, c = 32) → z ≠ [] → rw2 rs acc (z ++ l) = rw2 rs acc (32 :: l)
  | [], _, _, _, _, h => absurd rfl h
  | c :: z, rs, acc, l, h, _ => by
    rw [h c (by simp), List.cons_append, rw2_bl, rw2_bl]
    by_cases e : z = []
    · subst e; rfl
    · rw [rw2_32 _ _ l (fun d hd => h d (List.mem_cons_of_mem _ hd)) e, rw2_bl, fl0, List.append_nil]
theorem rw2_10 : ∀ {z : List Nat} (rs : List (List Nat)) (acc l : List Nat), Bk z → 10 ∈ z → rw2 rs acc (z ++ l) = rw2 rs acc (10 :: l)
  | [], _, _, _, _, h => by simp at h
  | c :: z, rs, acc, l, h, hm => by
    have hz : Bk z := fun d hd => h d (List.mem_cons_of_mem _ hd)
    rcases h c (by simp) with rfl | rfl
    · have hm' : 10 ∈ z := by simpa using hm
      rw [List.cons_append, rw2_bl, rw2_10 _ _ l hz hm', rw2_nl, rw2_nl, fl0, List.append_nil]
    · rw [List.cons_append, rw2_nl, rw2_nl, rw2_clean l hz]
theorem rw2_end : ∀ {z : List Nat} (rs : List (List Nat)) (acc : List Nat), Bk z → rw2 rs acc z = rw2 rs acc []
  | [], _, _, _ => rfl
  | c :: z, rs, acc, h => by
    have hz : Bk z := fun d hd => h d (List.mem_cons_of_mem _ hd)
    rcases h c (by simp) with rfl | rfl
    · rw [rw2_bl, rw2_end _ _ hz]; simp [rw2, fl0]
    · have := rw2_clean (z := z) [] hz
      rw [List.append_nil] at this
      rw [rw2_nl, this]; simp [rw2, fl0, flushR]
theorem rw2_congr {z w : List Nat} (h : ∀ rs acc, rw2 rs acc z = rw2 rs acc w) : ∀ (p : List Nat) (rs : List (List Nat)) (acc : List Nat), rw2 rs acc (p ++ z) = rw2 rs acc (p ++ w)
  | [], rs, acc => h rs acc
  | c :: p, rs, acc => by
    rw [List.cons_append, List.cons_append, rw2, rw2, rw2_congr h p, rw2_congr h p, rw2_congr h p]
theorem rw2_row : ∀ {p : List Nat} (rs : List (List Nat)) (acc : List Nat), 10 ∉ p → rw2 rs acc p = flushR (rs ++ wd acc p) ∧ ∀ l, rw2 rs acc (p ++ 10 :: l) = flushR (rs ++ wd acc p) ++ rw2 [] [] l
  | [], rs, acc, _ => ⟨rfl, fun l => rw2_nl rs acc l⟩
  | c :: p, rs, acc, h => by
    have h1 : c ≠ 10 := fun e => h (by simp [e])
    have h2 : 10 ∉ p := fun m => h (List.mem_cons_of_mem _ m)
    by_cases c2 : c = 32
    · subst c2
      obtain ⟨i1, i2⟩ := rw2_row (p := p) (rs ++ flushW acc) [] h2
      have e : wd acc (32 :: p) = flushW acc ++ wd [] p := by rw [wd, if_pos rfl]
      refine ⟨by rw [rw2_bl, i1, e, List.append_assoc], fun l => ?_⟩
      rw [List.cons_append, rw2_bl, i2, e, List.append_assoc]
    · obtain ⟨i1, i2⟩ := rw2_row (p := p) rs (acc ++ [c]) h2
      have e : wd acc (c :: p) = wd (acc ++ [c]) p := by rw [wd, if_neg c2]
      refine ⟨by rw [rw2_c h1 c2, i1, e], fun l => ?_⟩
      rw [List.cons_append, rw2_c h1 c2, i2, e]
def rowsOf (x : Str) : List (List (List Nat)) := rw2 [] [] x.cps.toList
theorem rows_join : ∀ {parts : List Str}, parts ≠ [] → (∀ p ∈ parts, 10 ∉ p.cps.toList) → rw2 [] [] (Str.join ⟨#[10]⟩ parts).cps.toList = parts.flatMap fun r => flushR (wd [] r.cps.toList)
  | [], h, _ => absurd rfl h
  | [p], _, h => by
    show rw2 [] [] p.cps.toList = _
    rw [(rw2_row [] [] (h p (by simp))).1]; simp
  | p :: q :: r, _, h => by
    have ih := rows_join (parts := q :: r) (by simp) fun a ha => h a (List.mem_cons_of_mem _ ha)
    have e : (Str.join ⟨#[10]⟩ (p :: q :: r)).cps.toList = p.cps.toList ++ 10 :: (Str.join ⟨#[10]⟩ (q :: r)).cps.toList := join_cons 10 p (by simp)
    rw [e, (rw2_row [] [] (h p (by simp))).2, ih, List.nil_append]
    simp only [List.flatMap_cons]
theorem split_rows (x : Str) : ((Txt.split x ⟨#[10]⟩).flatMap fun r => flushR (wd [] r.cps.toList)) = rowsOf x := by
  have h := rows_join (split_ne x ⟨#[10]⟩) (fun p hp => StrLaws.split_free x 10 p hp)
  have e : Str.join ⟨#[10]⟩ (Txt.split x ⟨#[10]⟩) = x := StrLaws.join_split x ⟨#[10]⟩
  rw [e] at h
  exact h.symm
theorem getD_mem {x : Str} {k : Nat} (h : k < x.length) : x.cps.getD k 0 = x.cps.toList[k]'(by rw [len_cps]; exact h) := by
  have : k < x.cps.size := h
  simp [Array.getD, this]
theorem strip_cut (goes : Nat → Bool) (x : Str) : ∃ u a z, x.cps.toList = u ++ a ++ z ∧ (Txt.stripBy goes true true x).cps.toList = a ∧ (∀ c ∈ u, goes c = true) ∧ (∀ c ∈ z, goes c = true) ∧ ((∀ c ∈ x.cps.toList, goes c = true) → a = []) := by
  have hn := len_cps x
  obtain ⟨l1, l2, l3⟩ := lo_facts goes x
  obtain ⟨h1, h2, h3, h4⟩ := hi_facts goes x _ l1
  have es := stripBy_eq goes true true x
  generalize stripLo goes true x = lo at *
  generalize stripHi goes true x lo = hi at *
  refine ⟨x.cps.toList.take lo, (x.cps.toList.drop lo).take (hi - lo), x.cps.toList.drop hi, ?_, by rw [es, StrLaws.strSub_toList], fun c hc => ?_, fun c hc => ?_, fun h => ?_⟩
  · have e1 : (x.cps.toList.drop lo).drop (hi - lo) = x.cps.toList.drop hi := by rw [List.drop_drop]; congr 1; omega
    rw [List.append_assoc, ← e1, List.take_append_drop, List.take_append_drop]
  · obtain ⟨k, hk, e⟩ := List.mem_iff_getElem.mp hc
    rw [List.length_take] at hk
    have := l2 k (by omega)
    rw [getD_mem (by omega)] at this
    rw [← e, List.getElem_take]; exact this
  · obtain ⟨k, hk, e⟩ := List.mem_iff_getElem.mp hc
    rw [List.length_drop] at hk
    have := h3 (hi + k) (by omega) (by omega)
    rw [getD_mem (by omega)] at this
    rw [← e, List.getElem_drop]; exact this
  · have : lo = x.length := by
      rcases l3 with q | q
      · exact q
      · by_cases c : lo < x.length
        · rw [getD_mem c, h _ (List.getElem_mem _)] at q; cases q
        · omega
    rw [this, List.drop_of_length_le (by omega), List.take_nil]
theorem rstrip_cut' (goes : Nat → Bool) (x : Str) : ∃ a z, x.cps.toList = a ++ z ∧ (Txt.stripBy goes false true x).cps.toList = a ∧ ∀ c ∈ z, goes c = true := by
  have hn := len_cps x
  have l0 : stripLo goes false x = 0 := by simp [stripLo]
  obtain ⟨h1, h2, h3, h4⟩ := hi_facts goes x 0 (Nat.zero_le _)
  have es := stripBy_eq goes false true x
  rw [l0] at es
  generalize stripHi goes true x 0 = hi at *
  refine ⟨x.cps.toList.take hi, x.cps.toList.drop hi, (List.take_append_drop _ _).symm, by rw [es, StrLaws.strSub_toList, List.drop_zero, Nat.sub_zero], fun c hc => ?_⟩
  obtain ⟨k, hk, e⟩ := List.mem_iff_getElem.mp hc
  rw [List.length_drop] at hk
  have := h3 (hi + k) (by omega) (by omega)
  rw [getD_mem (by omega)] at this
  rw [← e, List.getElem_drop]; exact this
theorem blank_goes (c : Nat) : (Str.ofString " ").cps.contains c = decide (c = 32) := by
  have : (Str.ofString " ").cps = #[32] := rfl
  rw [this]; simp
theorem wd_nil : ∀ {l : List Nat}, (∀ c ∈ l, c = 32) → wd [] l = []
  | [], _ => rfl
  | c :: l, h => by rw [h c (by simp), wd, if_pos rfl, fl0, List.nil_append]; exact wd_nil fun d hd => h d (List.mem_cons_of_mem _ hd)
theorem wd_some : ∀ {l acc : List Nat}, acc ≠ [] → wd acc l ≠ []
  | [], acc, h => by unfold wd flushW; rw [if_neg h]; simp
  | c :: l, acc, h => by
    rw [wd]
    by_cases e : c = 32
    · rw [if_pos e]; unfold flushW; rw [if_neg h]; simp
    · rw [if_neg e]; exact wd_some (by simp)
theorem wd_ne : ∀ {l : List Nat}, (∃ c ∈ l, c ≠ 32) → wd [] l ≠ []
  | [], h => by obtain ⟨c, hc, _⟩ := h; simp at hc
  | d :: l, ⟨c, hc, hn⟩ => by
    rw [wd]
    by_cases e : d = 32
    · rw [if_pos e, fl0, List.nil_append]
      refine wd_ne ⟨c, ?_, hn⟩
      rcases List.mem_cons.mp hc with rfl | hc
      · exact absurd e hn
      · exact hc
    · rw [if_neg e]; exact wd_some (by simp)
theorem strip_blank (x : Str) : Txt.stripChars x " " = "" ↔ wd [] x.cps.toList = [] := by
  obtain ⟨u, a, z, e1, e2, hu, hz, hall⟩ := strip_cut (Str.ofString " ").cps.contains x
  have key : Txt.stripChars x " " = "" ↔ a = [] := by
    constructor
    · intro h
      have : (Txt.stripChars x " ").cps.toList = [] := by rw [h]; rfl
      exact e2 ▸ this
    · intro h
      refine str_ext ?_
      show (Txt.stripBy (Str.ofString " ").cps.contains true true x).cps.toList = _
      rw [e2, h]; rfl
  rw [key]
  constructor
  · intro h
    subst h
    refine wd_nil fun c hc => ?_
    rw [e1, List.append_nil] at hc
    rcases List.mem_append.mp hc with hc | hc
    · exact of_decide_eq_true (blank_goes c ▸ hu c hc)
    · exact of_decide_eq_true (blank_goes c ▸ hz c hc)
  · intro h
    refine hall fun c hc => ?_
    rw [blank_goes]
    refine decide_eq_true (Classical.byContradiction fun hn => wd_ne ⟨c, hc, hn⟩ h)
section
variable {X : Cx}
def rStripC (f : Str → Str → Str) : V → List V → Hp → VK → Prop := fun x vs H Q => ∃ z y, x = .str z ∧ vs = [.str y] ∧ z.length ≤ 1000000 ∧ Q (.str (f z y)) H
theorem mt_stripC : MtR X "str.strip" (rStripC Txt.stripChars) := by
  intro pins s σ H x vs v us Q I rx rv h
  obtain ⟨z, y, rfl, rfl, hz, q⟩ := h
  obtain ⟨t, rfl⟩ := rx
  obtain ⟨u, rfl, ⟨t', rfl⟩⟩ := rv.one
  exact SC.stripChars (fun t' k => ⟨.str _, H, I.tok _, ⟨t', rfl⟩, q⟩) (Nat.le_trans hz (by rw [sizeLine_eq]; decide))
theorem mt_rstripC : MtR X "str.rstrip" (rStripC Txt.rstripChars) := by
  intro pins s σ H x vs v us Q I rx rv h
  obtain ⟨z, y, rfl, rfl, hz, q⟩ := h
  obtain ⟨t, rfl⟩ := rx
  obtain ⟨u, rfl, ⟨t', rfl⟩⟩ := rv.one
  exact SC.rstripChars (fun t' k => ⟨.str _, H, I.tok _, ⟨t', rfl⟩, q⟩) (Nat.le_trans hz (by rw [sizeLine_eq]; decide))
theorem w_stripC {f : Str → Str → Str} {x y : Str} {H : Hp} {Q : VK} : rStripC f (.str x) [.str y] H Q = (x.length ≤ 1000000 ∧ Q (.str (f x y)) H) := propext ⟨fun ⟨_, _, e, e', h⟩ => by cases e; cases e'; exact h, fun h => ⟨x, y, rfl, rfl, h⟩⟩
theorem w_intTI {H : Hp} {Q : VK} {i : Int} : rIntT [.int i] H Q = Q (.int i) H := by
  refine propext ⟨fun h => ?_, fun h => .inl (by rw [w_intI]; exact h)⟩
  rcases h with h | ⟨_, _, e, _⟩
  · rwa [w_intI] at h
  · cases e
theorem w_intTB {H : Hp} {Q : VK} {b : Bool} : rIntT [.bl b] H Q = Q (.int (if b = true then 1 else 0)) H := by
  refine propext ⟨fun h => ?_, fun h => .inl (by rw [w_intB]; exact h)⟩
  rcases h with h | ⟨_, _, e, _⟩
  · rwa [w_intB] at h
  · cases e
end
end L2
set_option Elab.async false
set_option linter.all false
set_option maxRecDepth 100000
set_option maxHeartbeats 4000000
namespace K16
open PySem L2
def top (i : Nat) : Stmt := PySem.Challenge.pw_boxproof_k16_worlds_written.main.body.getD i (.Pass ⟨0, 0, 0, 0⟩)
abbrev s_rows_in : Stmt := top 6
abbrev s_runs_in : Stmt := top 7
abbrev s_is_number : Stmt := top 8
abbrev s_begins_and_goes_on : Stmt := top 14
abbrev s_is_name : Stmt := top 15
abbrev s_is_word : Stmt := top 16
abbrev s_fit_world : Stmt := top 19
abbrev s_fit_called : Stmt := top 20
abbrev s_fit_facts : Stmt := top 21
abbrev s_is_thing : Stmt := top 22
abbrev s_rises : Stmt := top 23
abbrev s_world_text : Stmt := top 25
abbrev s_read_world : Stmt := top 26
abbrev s_read_size : Stmt := top 27
abbrev s_is_names_row : Stmt := top 28
abbrev s_read_fact : Stmt := top 29
abbrev s_read_number : Stmt := top 30
abbrev s_cell_at_L : Stmt := top 32
abbrev s_whole_L : Stmt := top 33
abbrev s_mixed_L : Stmt := top 34
abbrev s_name_by_L : Stmt := top 35
abbrev s_thing_name_L : Stmt := top 36
abbrev s_word_L : Stmt := top 38
abbrev s_facts_by_L : Stmt := top 39
abbrev s_size_by_L : Stmt := top 40
abbrev s_world_by_L : Stmt := top 41
abbrev s_fewer_L : Stmt := top 42
abbrev s_text_of_L : Stmt := top 43
abbrev s_with_blanks_L : Stmt := top 44
abbrev s_read_L : Stmt := top 45
abbrev s_alike_L : Stmt := top 46
abbrev s_law : Stmt := top 47
set_option genInjectivity false in
set_option genSizeOf false in
structure Defs where
  (a_rows_in : Addr) (d_rows_in : FuncData)
  (a_runs_in : Addr) (d_runs_in : FuncData)
  (a_is_number : Addr) (d_is_number : FuncData)
  (a_begins_and_goes_on : Addr) (d_begins_and_goes_on : FuncData)
  (a_is_name : Addr) (d_is_name : FuncData)
  (a_is_word : Addr) (d_is_word : FuncData)
  (a_fit_world : Addr) (d_fit_world : FuncData)
  (a_fit_called : Addr) (d_fit_called : FuncData)
  (a_fit_facts : Addr) (d_fit_facts : FuncData)
  (a_is_thing : Addr) (d_is_thing : FuncData)
  (a_rises : Addr) (d_rises : FuncData)
  (a_world_text : Addr) (d_world_text : FuncData)
  (a_read_world : Addr) (d_read_world : FuncData)
  (a_read_size : Addr) (d_read_size : FuncData)
  (a_is_names_row : Addr) (d_is_names_row : FuncData)
  (a_read_fact : Addr) (d_read_fact : FuncData)
  (a_read_number : Addr) (d_read_number : FuncData)
  (a_cell_at_L : Addr) (d_cell_at_L : FuncData)
  (a_whole_L : Addr) (d_whole_L : FuncData)
  (a_mixed_L : Addr) (d_mixed_L : FuncData)
  (a_name_by_L : Addr) (d_name_by_L : FuncData)
  (a_thing_name_L : Addr) (d_thing_name_L : FuncData)
  (a_word_L : Addr) (d_word_L : FuncData)
  (a_facts_by_L : Addr) (d_facts_by_L : FuncData)
  (a_size_by_L : Addr) (d_size_by_L : FuncData)
  (a_world_by_L : Addr) (d_world_by_L : FuncData)
  (a_fewer_L : Addr) (d_fewer_L : FuncData)
  (a_text_of_L : Addr) (d_text_of_L : FuncData)
  (a_with_blanks_L : Addr) (d_with_blanks_L : FuncData)
  (a_read_L : Addr) (d_read_L : FuncData)
  (a_alike_L : Addr) (d_alike_L : FuncData)
  (a_law : Addr) (d_law : FuncData)
  (k_KEPT_WORDS : Addr)
  (x_BoxError : Addr)
  (x_NoWorld : Addr)
set_option genInjectivity false in
set_option genSizeOf false in
structure Tx (K : PySem.W.Frag) (mg : Str → Option Value) (D : Defs) : Prop where
  F_rows_in : Fun K "rows_in" "rows_in" s_rows_in D.a_rows_in D.d_rows_in
  m_rows_in : mg "rows_in" = some (.ref D.a_rows_in)
  b_rows_in : Binds K D.d_rows_in ["text"] []
  F_runs_in : Fun K "runs_in" "runs_in" s_runs_in D.a_runs_in D.d_runs_in
  m_runs_in : mg "runs_in" = some (.ref D.a_runs_in)
  b_runs_in : Binds K D.d_runs_in ["row"] []
  F_is_number : Fun K "is_number" "is_number" s_is_number D.a_is_number D.d_is_number
  m_is_number : mg "is_number" = some (.ref D.a_is_number)
  b_is_number : Binds K D.d_is_number ["text"] []
  F_begins_and_goes_on : Fun K "begins_and_goes_on" "begins_and_goes_on" s_begins_and_goes_on D.a_begins_and_goes_on D.d_begins_and_goes_on
  m_begins_and_goes_on : mg "begins_and_goes_on" = some (.ref D.a_begins_and_goes_on)
  b_begins_and_goes_on : Binds K D.d_begins_and_goes_on ["text", "first_signs"] []
  F_is_name : Fun K "is_name" "is_name" s_is_name D.a_is_name D.d_is_name
  m_is_name : mg "is_name" = some (.ref D.a_is_name)
  b_is_name : Binds K D.d_is_name ["text"] []
  F_is_word : Fun K "is_word" "is_word" s_is_word D.a_is_word D.d_is_word
  m_is_word : mg "is_word" = some (.ref D.a_is_word)
  b_is_word : Binds K D.d_is_word ["text"] []
  F_fit_world : Fun K "fit_world" "fit_world" s_fit_world D.a_fit_world D.d_fit_world
  m_fit_world : mg "fit_world" = some (.ref D.a_fit_world)
  b_fit_world : Binds K D.d_fit_world ["world"] []
  F_fit_called : Fun K "fit_called" "fit_called" s_fit_called D.a_fit_called D.d_fit_called
  m_fit_called : mg "fit_called" = some (.ref D.a_fit_called)
  b_fit_called : Binds K D.d_fit_called ["called", "size"] []
  F_fit_facts : Fun K "fit_facts" "fit_facts" s_fit_facts D.a_fit_facts D.d_fit_facts
  m_fit_facts : mg "fit_facts" = some (.ref D.a_fit_facts)
  b_fit_facts : Binds K D.d_fit_facts ["facts", "size"] []
  F_is_thing : Fun K "is_thing" "is_thing" s_is_thing D.a_is_thing D.d_is_thing
  m_is_thing : mg "is_thing" = some (.ref D.a_is_thing)
  b_is_thing : Binds K D.d_is_thing ["thing", "size"] []
  F_rises : Fun K "rises" "rises" s_rises D.a_rises D.d_rises
  m_rises : mg "rises" = some (.ref D.a_rises)
  b_rises : Binds K D.d_rises ["row"] []
  F_world_text : Fun K "world_text" "world_text" s_world_text D.a_world_text D.d_world_text
  m_world_text : mg "world_text" = some (.ref D.a_world_text)
  b_world_text : Binds K D.d_world_text ["world"] []
  F_read_world : Fun K "read_world" "read_world" s_read_world D.a_read_world D.d_read_world
  m_read_world : mg "read_world" = some (.ref D.a_read_world)
  b_read_world : Binds K D.d_read_world ["text"] []
  F_read_size : Fun K "read_size" "read_size" s_read_size D.a_read_size D.d_read_size
  m_read_size : mg "read_size" = some (.ref D.a_read_size)
  b_read_size : Binds K D.d_read_size ["row"] []
  F_is_names_row : Fun K "is_names_row" "is_names_row" s_is_names_row D.a_is_names_row D.d_is_names_row
  m_is_names_row : mg "is_names_row" = some (.ref D.a_is_names_row)
  b_is_names_row : Binds K D.d_is_names_row ["row"] []
  F_read_fact : Fun K "read_fact" "read_fact" s_read_fact D.a_read_fact D.d_read_fact
  m_read_fact : mg "read_fact" = some (.ref D.a_read_fact)
  b_read_fact : Binds K D.d_read_fact ["row"] []
  F_read_number : Fun K "read_number" "read_number" s_read_number D.a_read_number D.d_read_number
  m_read_number : mg "read_number" = some (.ref D.a_read_number)
  b_read_number : Binds K D.d_read_number ["run"] []
  F_cell_at_L : Fun K "_law_cell_at" "_law_cell_at" s_cell_at_L D.a_cell_at_L D.d_cell_at_L
  m_cell_at_L : mg "_law_cell_at" = some (.ref D.a_cell_at_L)
  b_cell_at_L : Binds K D.d_cell_at_L ["_law_script", "_law_k"] []
  F_whole_L : Fun K "_law_whole" "_law_whole" s_whole_L D.a_whole_L D.d_whole_L
  m_whole_L : mg "_law_whole" = some (.ref D.a_whole_L)
  b_whole_L : Binds K D.d_whole_L ["_law_found"] []
  F_mixed_L : Fun K "_law_mixed" "_law_mixed" s_mixed_L D.a_mixed_L D.d_mixed_L
  m_mixed_L : mg "_law_mixed" = some (.ref D.a_mixed_L)
  b_mixed_L : Binds K D.d_mixed_L ["_law_script", "_law_k"] []
  F_name_by_L : Fun K "_law_name_by" "_law_name_by" s_name_by_L D.a_name_by_L D.d_name_by_L
  m_name_by_L : mg "_law_name_by" = some (.ref D.a_name_by_L)
  b_name_by_L : Binds K D.d_name_by_L ["_law_number", "_law_firsts", "_law_turn"] []
  F_thing_name_L : Fun K "_law_thing_name" "_law_thing_name" s_thing_name_L D.a_thing_name_L D.d_thing_name_L
  m_thing_name_L : mg "_law_thing_name" = some (.ref D.a_thing_name_L)
  b_thing_name_L : Binds K D.d_thing_name_L ["_law_base", "_law_turn"] []
  F_word_L : Fun K "_law_word" "_law_word" s_word_L D.a_word_L D.d_word_L
  m_word_L : mg "_law_word" = some (.ref D.a_word_L)
  b_word_L : Binds K D.d_word_L ["_law_base", "_law_turn"] []
  F_facts_by_L : Fun K "_law_facts_by" "_law_facts_by" s_facts_by_L D.a_facts_by_L D.d_facts_by_L
  m_facts_by_L : mg "_law_facts_by" = some (.ref D.a_facts_by_L)
  b_facts_by_L : Binds K D.d_facts_by_L ["_law_script", "_law_at", "_law_base", "_law_size"] []
  F_size_by_L : Fun K "_law_size_by" "_law_size_by" s_size_by_L D.a_size_by_L D.d_size_by_L
  m_size_by_L : mg "_law_size_by" = some (.ref D.a_size_by_L)
  b_size_by_L : Binds K D.d_size_by_L ["_law_script"] []
  F_world_by_L : Fun K "_law_world_by" "_law_world_by" s_world_by_L D.a_world_by_L D.d_world_by_L
  m_world_by_L : mg "_law_world_by" = some (.ref D.a_world_by_L)
  b_world_by_L : Binds K D.d_world_by_L ["_law_script", "_law_base"] []
  F_fewer_L : Fun K "_law_fewer" "_law_fewer" s_fewer_L D.a_fewer_L D.d_fewer_L
  m_fewer_L : mg "_law_fewer" = some (.ref D.a_fewer_L)
  b_fewer_L : Binds K D.d_fewer_L ["_law_world", "_law_cell"] []
  F_text_of_L : Fun K "_law_text_of" "_law_text_of" s_text_of_L D.a_text_of_L D.d_text_of_L
  m_text_of_L : mg "_law_text_of" = some (.ref D.a_text_of_L)
  b_text_of_L : Binds K D.d_text_of_L ["_law_world"] []
  F_with_blanks_L : Fun K "_law_with_blanks" "_law_with_blanks" s_with_blanks_L D.a_with_blanks_L D.d_with_blanks_L
  m_with_blanks_L : mg "_law_with_blanks" = some (.ref D.a_with_blanks_L)
  b_with_blanks_L : Binds K D.d_with_blanks_L ["_law_text", "_law_cell"] []
  F_read_L : Fun K "_law_read" "_law_read" s_read_L D.a_read_L D.d_read_L
  m_read_L : mg "_law_read" = some (.ref D.a_read_L)
  b_read_L : Binds K D.d_read_L ["_law_text"] []
  F_alike_L : Fun K "_law_alike" "_law_alike" s_alike_L D.a_alike_L D.d_alike_L
  m_alike_L : mg "_law_alike" = some (.ref D.a_alike_L)
  b_alike_L : Binds K D.d_alike_L ["_law_found", "_law_world"] []
  F_law : Fun K "law" "law" s_law D.a_law D.d_law
  m_law : mg "law" = some (.ref D.a_law)
  b_law : Binds K D.d_law ["_law_script"] []
  c_FIGURES : ∃ t, mg "FIGURES" = some (.str "0123456789" t)
  c_MOST_FIGURES : ∃ t, mg "MOST_FIGURES" = some (.int 4 t)
  c_SMALL : ∃ t, mg "SMALL" = some (.str "abcdefghijklmnopqrstuvwxyz" t)
  c_SMALL_OR_FIGURE : ∃ t, mg "SMALL_OR_FIGURE" = some (.str "abcdefghijklmnopqrstuvwxyz0123456789" t)
  c_KEPT_WORDS : mg "KEPT_WORDS" = some (.ref D.k_KEPT_WORDS)
  q_KEPT_WORDS : ∀ H, SqT K H D.k_KEPT_WORDS [V.str "not", V.str "and", V.str "or", V.str "then", V.str "all", V.str "some", V.str "false"]
  c_MOST_SIGNS : ∃ t, mg "MOST_SIGNS" = some (.int 8 t)
  c_MOST_THINGS_OF_A_FACT : ∃ t, mg "MOST_THINGS_OF_A_FACT" = some (.int 3 t)
  z_all : mg "all" = none
  z_bool : mg "bool" = none
  z_int : mg "int" = none
  z_isinstance : mg "isinstance" = none
  z_len : mg "len" = none
  z_list : mg "list" = none
  z_range : mg "range" = none
  z_sorted : mg "sorted" = none
  z_str : mg "str" = none
  z_tuple : mg "tuple" = none
  x_BoxError : XCls K mg "BoxError" D.x_BoxError [] [.type "ValueError", .type "Exception", .type "BaseException", .type "object"] "ValueError.__new__"
  x_NoWorld : XCls K mg "NoWorld" D.x_NoWorld [D.x_BoxError] [.type "ValueError", .type "Exception", .type "BaseException", .type "object"] "ValueError.__new__"
  v_NoWorld_NoWorld : SubX K D.x_NoWorld D.x_NoWorld true
  i_NoWorld_NoWorld : PySem.W.kitOne K (.ref D.x_NoWorld) (.ref D.x_NoWorld) = some true
theorem Tx.g_FIGURES {K : PySem.W.Frag} {mg : Str → Option Value} {D : Defs} (T : Tx K mg D) {X : Cx} {pos : Pos} (h : Gl X "FIGURES") (hm : X.mg = mg := by rfl) : PE X (.Name "FIGURES" pos) (tC (.str "0123456789")) := by
  obtain ⟨t, e⟩ := T.c_FIGURES
  exact pe_glob h (hm ▸ e) ⟨t, rfl⟩
theorem Tx.g_MOST_FIGURES {K : PySem.W.Frag} {mg : Str → Option Value} {D : Defs} (T : Tx K mg D) {X : Cx} {pos : Pos} (h : Gl X "MOST_FIGURES") (hm : X.mg = mg := by rfl) : PE X (.Name "MOST_FIGURES" pos) (tC (.int 4)) := by
  obtain ⟨t, e⟩ := T.c_MOST_FIGURES
  exact pe_glob h (hm ▸ e) ⟨t, rfl⟩
theorem Tx.g_SMALL {K : PySem.W.Frag} {mg : Str → Option Value} {D : Defs} (T : Tx K mg D) {X : Cx} {pos : Pos} (h : Gl X "SMALL") (hm : X.mg = mg := by rfl) : PE X (.Name "SMALL" pos) (tC (.str "abcdefghijklmnopqrstuvwxyz")) := by
  obtain ⟨t, e⟩ := T.c_SMALL
  exact pe_glob h (hm ▸ e) ⟨t, rfl⟩
theorem Tx.g_SMALL_OR_FIGURE {K : PySem.W.Frag} {mg : Str → Option Value} {D : Defs} (T : Tx K mg D) {X : Cx} {pos : Pos} (h : Gl X "SMALL_OR_FIGURE") (hm : X.mg = mg := by rfl) : PE X (.Name "SMALL_OR_FIGURE" pos) (tC (.str "abcdefghijklmnopqrstuvwxyz0123456789")) := by
  obtain ⟨t, e⟩ := T.c_SMALL_OR_FIGURE
  exact pe_glob h (hm ▸ e) ⟨t, rfl⟩
theorem Tx.g_KEPT_WORDS {K : PySem.W.Frag} {mg : Str → Option Value} {D : Defs} (T : Tx K mg D) {X : Cx} {pos : Pos} (h : Gl X "KEPT_WORDS") (hm : X.mg = mg := by rfl) : PE X (.Name "KEPT_WORDS" pos) (tC (.ref D.k_KEPT_WORDS)) := pe_glob h (hm ▸ T.c_KEPT_WORDS) rfl
theorem Tx.g_MOST_SIGNS {K : PySem.W.Frag} {mg : Str → Option Value} {D : Defs} (T : Tx K mg D) {X : Cx} {pos : Pos} (h : Gl X "MOST_SIGNS") (hm : X.mg = mg := by rfl) : PE X (.Name "MOST_SIGNS" pos) (tC (.int 8)) := by
  obtain ⟨t, e⟩ := T.c_MOST_SIGNS
  exact pe_glob h (hm ▸ e) ⟨t, rfl⟩
theorem Tx.g_MOST_THINGS_OF_A_FACT {K : PySem.W.Frag} {mg : Str → Option Value} {D : Defs} (T : Tx K mg D) {X : Cx} {pos : Pos} (h : Gl X "MOST_THINGS_OF_A_FACT") (hm : X.mg = mg := by rfl) : PE X (.Name "MOST_THINGS_OF_A_FACT" pos) (tC (.int 3)) := by
  obtain ⟨t, e⟩ := T.c_MOST_THINGS_OF_A_FACT
  exact pe_glob h (hm ▸ e) ⟨t, rfl⟩
theorem sc_rows_in : FnScope ["text"] ["text"] (defScope s_rows_in) := ⟨rfl, rfl, rfl, by decide +kernel, rfl, by decide +kernel, by decide +kernel⟩
theorem sc_runs_in : FnScope ["row"] ["row"] (defScope s_runs_in) := ⟨rfl, rfl, rfl, by decide +kernel, rfl, by decide +kernel, by decide +kernel⟩
theorem sc_is_number : FnScope ["text"] ["text"] (defScope s_is_number) := ⟨rfl, rfl, rfl, by decide +kernel, rfl, by decide +kernel, by decide +kernel⟩
theorem sc_begins_and_goes_on : FnScope ["text", "first_signs"] ["text", "first_signs"] (defScope s_begins_and_goes_on) := ⟨rfl, rfl, rfl, by decide +kernel, rfl, by decide +kernel, by decide +kernel⟩
theorem sc_is_name : FnScope ["text"] ["text"] (defScope s_is_name) := ⟨rfl, rfl, rfl, by decide +kernel, rfl, by decide +kernel, by decide +kernel⟩
theorem sc_is_word : FnScope ["text"] ["text"] (defScope s_is_word) := ⟨rfl, rfl, rfl, by decide +kernel, rfl, by decide +kernel, by decide +kernel⟩
theorem sc_fit_world : FnScope ["world", "size"] ["world"] (defScope s_fit_world) := ⟨rfl, rfl, rfl, by decide +kernel, rfl, by decide +kernel, by decide +kernel⟩
theorem sc_fit_called : FnScope ["called", "size", "name", "thing"] ["called", "size"] (defScope s_fit_called) := ⟨rfl, rfl, rfl, by decide +kernel, rfl, by decide +kernel, by decide +kernel⟩
theorem sc_fit_facts : FnScope ["facts", "size", "word", "things"] ["facts", "size"] (defScope s_fit_facts) := ⟨rfl, rfl, rfl, by decide +kernel, rfl, by decide +kernel, by decide +kernel⟩
theorem sc_is_thing : FnScope ["thing", "size"] ["thing", "size"] (defScope s_is_thing) := ⟨rfl, rfl, rfl, by decide +kernel, rfl, by decide +kernel, by decide +kernel⟩
theorem sc_rises : FnScope ["row"] ["row"] (defScope s_rises) := ⟨rfl, rfl, rfl, by decide +kernel, rfl, by decide +kernel, by decide +kernel⟩
theorem sc_world_text : FnScope ["world", "rows", "name", "thing", "word", "things"] ["world"] (defScope s_world_text) := ⟨rfl, rfl, rfl, by decide +kernel, rfl, by decide +kernel, by decide +kernel⟩
theorem sc_read_world : FnScope ["text", "rows", "size", "behind_names", "called", "facts", "world"] ["text"] (defScope s_read_world) := ⟨rfl, rfl, rfl, by decide +kernel, rfl, by decide +kernel, by decide +kernel⟩
theorem sc_read_size : FnScope ["row"] ["row"] (defScope s_read_size) := ⟨rfl, rfl, rfl, by decide +kernel, rfl, by decide +kernel, by decide +kernel⟩
theorem sc_is_names_row : FnScope ["row"] ["row"] (defScope s_is_names_row) := ⟨rfl, rfl, rfl, by decide +kernel, rfl, by decide +kernel, by decide +kernel⟩
theorem sc_read_fact : FnScope ["row"] ["row"] (defScope s_read_fact) := ⟨rfl, rfl, rfl, by decide +kernel, rfl, by decide +kernel, by decide +kernel⟩
theorem sc_read_number : FnScope ["run"] ["run"] (defScope s_read_number) := ⟨rfl, rfl, rfl, by decide +kernel, rfl, by decide +kernel, by decide +kernel⟩
theorem sc_cell_at_L : FnScope ["_law_script", "_law_k"] ["_law_script", "_law_k"] (defScope s_cell_at_L) := ⟨rfl, rfl, rfl, by decide +kernel, rfl, by decide +kernel, by decide +kernel⟩
theorem sc_whole_L : FnScope ["_law_found"] ["_law_found"] (defScope s_whole_L) := ⟨rfl, rfl, rfl, by decide +kernel, rfl, by decide +kernel, by decide +kernel⟩
theorem sc_mixed_L : FnScope ["_law_script", "_law_k", "_law_cell", "_law_number"] ["_law_script", "_law_k"] (defScope s_mixed_L) := ⟨rfl, rfl, rfl, by decide +kernel, rfl, by decide +kernel, by decide +kernel⟩
theorem sc_name_by_L : FnScope ["_law_number", "_law_firsts", "_law_turn", "_law_some", "_law_plain", "_law_signs", "_law_size", "_law_at", "_law_text"] ["_law_number", "_law_firsts", "_law_turn"] (defScope s_name_by_L) := ⟨rfl, rfl, rfl, by decide +kernel, rfl, by decide +kernel, by decide +kernel⟩
theorem sc_thing_name_L : FnScope ["_law_base", "_law_turn"] ["_law_base", "_law_turn"] (defScope s_thing_name_L) := ⟨rfl, rfl, rfl, by decide +kernel, rfl, by decide +kernel, by decide +kernel⟩
theorem sc_word_L : FnScope ["_law_base", "_law_turn"] ["_law_base", "_law_turn"] (defScope s_word_L) := ⟨rfl, rfl, rfl, by decide +kernel, rfl, by decide +kernel, by decide +kernel⟩
theorem sc_facts_by_L : FnScope ["_law_script", "_law_at", "_law_base", "_law_size", "_law_facts", "_law_many", "_law_k", "_law_number", "_law_things"] ["_law_script", "_law_at", "_law_base", "_law_size"] (defScope s_facts_by_L) := ⟨rfl, rfl, rfl, by decide +kernel, rfl, by decide +kernel, by decide +kernel⟩
theorem sc_size_by_L : FnScope ["_law_script"] ["_law_script"] (defScope s_size_by_L) := ⟨rfl, rfl, rfl, by decide +kernel, rfl, by decide +kernel, by decide +kernel⟩
theorem sc_world_by_L : FnScope ["_law_script", "_law_base", "_law_size", "_law_called", "_law_k", "_law_turn"] ["_law_script", "_law_base"] (defScope s_world_by_L) := ⟨rfl, rfl, rfl, by decide +kernel, rfl, by decide +kernel, by decide +kernel⟩
theorem sc_fewer_L : FnScope ["_law_world", "_law_cell", "_law_called"] ["_law_world", "_law_cell"] (defScope s_fewer_L) := ⟨rfl, rfl, rfl, by decide +kernel, rfl, by decide +kernel, by decide +kernel⟩
theorem sc_text_of_L : FnScope ["_law_world", "_law_rows", "_law_pair", "_law_fact", "_law_row", "_law_thing"] ["_law_world"] (defScope s_text_of_L) := ⟨rfl, rfl, rfl, by decide +kernel, rfl, by decide +kernel, by decide +kernel⟩
theorem sc_with_blanks_L : FnScope ["_law_text", "_law_cell", "_law_wide", "_law_k", "_law_sign", "_law_number"] ["_law_text", "_law_cell"] (defScope s_with_blanks_L) := ⟨rfl, rfl, rfl, by decide +kernel, rfl, by decide +kernel, by decide +kernel⟩
theorem sc_read_L : FnScope ["_law_text"] ["_law_text"] (defScope s_read_L) := ⟨rfl, rfl, rfl, by decide +kernel, rfl, by decide +kernel, by decide +kernel⟩
theorem sc_alike_L : FnScope ["_law_found", "_law_world", "_law_pair", "_law_fact", "_law_thing"] ["_law_found", "_law_world"] (defScope s_alike_L) := ⟨rfl, rfl, rfl, by decide +kernel, rfl, by decide +kernel, by decide +kernel⟩
theorem sc_law : FnScope ["_law_script", "_law_base", "_law_world", "_law_text", "_law_wide"] ["_law_script"] (defScope s_law) := ⟨rfl, rfl, rfl, by decide +kernel, rfl, by decide +kernel, by decide +kernel⟩
end K16
set_option Elab.async false
set_option linter.all false
set_option maxRecDepth 100000
set_option maxHeartbeats 4000000
namespace K16
open PySem L2
seal PE PS PSs PA PT PW PG PI PO PIf OpR CallR IxR SlR MtR MtM PSet PH
local macro_rules | `(tactic| walk_at "bpW") => `(tactic| simp only [↓w_v0, ↓w_v1, ↓w_v2, ↓w_v3, ↓w_v4, ↓w_v5, ↓w_v6, ↓w_v7, ↓w_v8, ↓w_v9, ↓w_v10, ↓w_v11, ↓w_c, ↓w_seq, ↓w_ifS, ↓w_next, ↓w_ret, ↓w_drop, ↓w_asg, ↓w_gName, ↓w_op, ↓w_test, ↓w_B, ↓w_bl, ↓w_and, ↓w_or, ↓w_not, ↓w_andV, ↓w_notV, ↓w_true, ↓w_nil, ↓w_cons, ↓w_tup, ↓w_lst, ↓w_call, ↓w_CB, ↓w_BM, ↓w_ty_str, ↓w_ty_list, ↓w_sl, ↓w_noPart, ↓w_part, ↓w_int, ↓w_rI0, ↓w_rI, ↓w_mulI, ↓w_neI, ↓w_neS, ↓w_ltI, ↓w_inS, ↓w_notinS, ↓w_inR, ↓w_notinR, ↓w_ixS, ↓w_ixR, ↓w_lenS, ↓w_lenR, ↓w_all, ↓w_join, ↓w_intB, ↓w_intI, ↓w_itS, ↓w_itR, ↓w_iAny, ↓w_rng1, ↓w_rngI, ↓w_ints2, ↓w_tupleOf, ↓w_listOf, ↓w_append, ↓w_extend, ↓w_setL, ↓w_gSub, ↓w_instInt, ↓w_instStr, ↓w_joinA, ↓w_eqIB, ↓w_eqSB, ↓w_eqR_, ↓w_eq_R, ↓w_instIntB, ↓w_instStrB, ↓w_instRB, ↓tFor_eq, ↓tComp_eq, ↓List.set_cons_zero, ↓List.set_cons_succ, ↓List.nil_append, ↓List.cons_append, ↓List.append_nil, ↓reduceIte, Bool.false_eq_true, decide_eq_true_eq, Bool.not_eq_true', decide_eq_false_iff_not, ↓w_setOf, ↓w_sorted, ↓w_try, ↓w_exStr, ↓w_orStr, ↓w_orInt, ↓w_eqIC, ↓w_eqSC, ↓w_eqRC, ↓w_eqCR, ↓w_neIC, ↓w_neSC, ↓w_neRC, ↓w_neCR, ↓w_inCS, ↓w_notinCS, ↓w_inCR, ↓w_is, ↓w_is2, ↓w_strip, ↓w_split, ↓w_mulS, ↓w_any, ↓w_sum, ↓w_aug, ↓w_ipI, ↓w_gTup, ↓w_gCons, ↓w_gNil, ↓w_slSB, ↓w_slRB, ↓w_addIB, ↓w_addSB, ↓w_catRB, ↓w_instBlB, ↓w_eqBlB, ↓w_neBl, ↓w_eqBlC, ↓w_neBlC, ↓w_while, ↓w_ltS, ↓w_count, ↓w_gTup, ↓w_dnew, ↓w_inTab, ↓w_ixTab, ↓w_mulR, ↓w_stripC, ↓w_intTI, ↓w_intTB, ↓w_sortedR, ↓w_setS, ↓w_setF, ↓w_listF, ↓w_ixS2, ↓w_iDS, ↓w_ltWI, ↓w_ltWS, ↓w_insert])
local macro_rules | `(tactic| walk_at "S") => `(tactic| simp only [L2.start, List.map_cons, List.map_nil, List.length_cons, List.length_nil, Nat.reduceAdd, Nat.reduceSub, List.replicate_succ, List.replicate_zero, List.cons_append, List.nil_append, List.append_nil, Nat.zero_add, Nat.sub_self])
local macro_rules | `(tactic| walk_at "o") => `(tactic| first | exact Or.inl (by rfl) | exact Or.inr (by rfl))
local macro_rules | `(tactic| walk_at "") => `(tactic| walk_at "bpW")
section
variable {P : Program} {w : World} {K : PySem.W.Frag} {mg : Str → Option Value} {base0 : Heap} {D : Defs}
theorem ok_cell_at_L (T : Tx K mg D) : FnOk P w K mg base0 CX0 1 D.a_cell_at_L D.d_cell_at_L ["_law_script", "_law_k"] (spCell K) := by
  refine T.F_cell_at_L.ok sc_cell_at_L (fun vs H Q E h => ?_) (fun cdv A outer s H vs Q E hr h => ?_)
  · obtain ⟨a, ns, n, rfl, _⟩ := h; rfl
  obtain ⟨a, ns, n, rfl, hS, h0, k⟩ := h
  have hu := hr.units
  refine ⟨_, (pss_cons (ps_if (pt_cmpR opA_lt (pv 1) (pe_callB (callA_len K) (by rfl) T.z_len PySem.boot_len (pa_cons (pv 0) pa_nil)) (nomark _)) (pss_one (ps_ret (pe_ix (ixA K) (pv 0) (pv 1) (fun _ _ => rfl)))) pss_nil)
    (pss_one (ps_ret pe_int))), ?_⟩
  walk_at "S"
  walk_at ""
  refine ⟨_, .inl hS, ?_⟩
  unfold cellI at k
  rw [List.length_map]
  refine ite2 (fun c => ?_) fun c => ?_
  · rw [if_pos c] at k
    exact ⟨_, .inl hS, _, atI_ints h0 c, k⟩
  · rw [if_neg c] at k; exact k
theorem ok_mixed_L (T : Tx K mg D) : FnOk P w K mg base0 CX0 1 D.a_mixed_L D.d_mixed_L ["_law_script", "_law_k"] (spMix K) := by
  refine T.F_mixed_L.ok sc_mixed_L (fun vs H Q E h => ?_) (fun cdv A outer s H vs Q E hr h => ?_)
  · obtain ⟨a, ns, n, rfl, _⟩ := h; rfl
  obtain ⟨a, ns, n, rfl, hS, h0, h1, k⟩ := h
  have hu := hr.units
  refine ⟨_, (pss_cons (ps_set (i := 2) sc_mixed_L.nd (by rfl) (by walk_at "o") pe_int)
    (pss_cons (ps_if (pt_cmpR op_gt (pe_callB (callA_len K) (by rfl) T.z_len PySem.boot_len (pa_cons (pv 0) pa_nil)) pe_int (nomark _)) (pss_one (ps_set (i := 2) sc_mixed_L.nd (by rfl) (by walk_at "o") (pe_ix (ixA K) (pv 0) (pe_op op_modP (pv 1) (pe_callB (callA_len K) (by rfl) T.z_len PySem.boot_len (pa_cons (pv 0) pa_nil))) (fun _ _ => rfl)))) pss_nil)
    (pss_cons (ps_set (i := 3) sc_mixed_L.nd (by rfl) (by walk_at "o") (pe_op op_modP (pe_op opA_mul (pe_op (opB_add K) (pv 2) (pe_op opA_mul pe_int (pv 1))) pe_int) pe_int))
    (pss_one (ps_ret (pe_op op_modP (pe_op (opB_add K) (pe_op opA_mul (pv 3) (pv 3)) (pe_op opA_mul pe_int (pv 3))) pe_int)))))), ?_⟩
  walk_at "S"
  walk_at ""
  have hm : CMul 7919 n := cmulL
  have fin : ∀ c : Int, CMul (c + 7919 * n) 48271 ∧ (0 : Int) < 2147483647 ∧ CMul ((c + 7919 * n) * 48271 % 2147483647) ((c + 7919 * n) * 48271 % 2147483647) ∧ CMul 16807 ((c + 7919 * n) * 48271 % 2147483647) ∧ (0 : Int) < 2147483629 ∧
      Q (V.int (((c + 7919 * n) * 48271 % 2147483647 * ((c + 7919 * n) * 48271 % 2147483647) + 16807 * ((c + 7919 * n) * 48271 % 2147483647)) % 2147483629)) H := fun c =>
    ⟨cmulR, by decide, .inl ⟨by omega, by omega⟩, cmulL, by decide, k _ (Int.emod_nonneg _ (by decide)) (Int.emod_lt_of_pos _ (by decide))⟩
  have hl : (ns.map V.int).length = ns.length := List.length_map _
  refine ⟨_, .inl hS, ite2 (fun c => ?_) fun c => ⟨hm, fin 0⟩⟩
  rw [hl] at c
  refine ⟨_, .inl hS, by rw [hl]; exact c, _, .inl hS, _, atI_ints (Int.emod_nonneg _ (by rw [hl]; omega)) (by rw [hl]; exact Int.emod_lt_of_pos _ c), hm, ?_⟩
  walk_at ""
  exact fin _
theorem ok_whole_L (T : Tx K mg D) : FnOk P w K mg base0 CX0 1 D.a_whole_L D.d_whole_L ["_law_found"] (fun vs H Q _ => ∃ i, vs = [.int i] ∧ Q (.bl true) H) := by
  refine T.F_whole_L.ok sc_whole_L (fun vs H Q E h => ?_) (fun cdv A outer s H vs Q E hr h => ?_)
  · obtain ⟨i, rfl, _⟩ := h; rfl
  obtain ⟨i, rfl, k⟩ := h
  have hu := hr.units
  refine ⟨_, (pss_one (ps_ret (pe_and (pe_callB (callB_inst K "int") (by rfl) T.z_isinstance (by rfl) (pa_cons (pv 0) (pa_cons (pe_bltn (v := .ty "int") (by rfl) T.z_int (by rfl) (by rfl)) pa_nil))) (pe_one (pe_not (pe_callB (callB_inst K "bool") (by rfl) T.z_isinstance (by rfl) (pa_cons (pv 0) (pa_cons (pe_bltn (v := .ty "bool") (by rfl) T.z_bool (by rfl) (by rfl)) pa_nil)))))))), ?_⟩
  walk_at "S"
  walk_at ""
  refine ⟨true, rfl, ?_⟩
  rw [if_pos rfl]
  exact ⟨false, rfl, k⟩
end
section
variable {P : Program} {w : World} {K : PySem.W.Frag} {mg : Str → Option Value} {base0 : Heap} {D : Defs}
def spRunsIn : Sp := fun vs H Q _ => ∃ z : Str, vs = [.str z] ∧ z.length ≤ 1000000 ∧ ∀ p H', Same H H' → H p = none → H' p = some (.lst (((Txt.split z " ").filter fun r : Str => !decide (r = "")).map V.str)) → Q (.ref p) H'
theorem ok_runs_in (T : Tx K mg D) : FnOk P w K mg base0 CX0 1 D.a_runs_in D.d_runs_in ["row"] spRunsIn := by
  refine T.F_runs_in.ok sc_runs_in (fun vs H Q E h => ?_) (fun cdv A outer s H vs Q E hr h => ?_)
  · obtain ⟨z, rfl, _⟩ := h; rfl
  obtain ⟨z, rfl, hpl, k⟩ := h
  have hu := hr.units
  refine ⟨_, (pss_one (ps_ret (pe_comp 1 [] ["run"] ⟨by rfl, by rfl, by rfl, by rfl, by rfl, by rfl, by rfl⟩ (by rfl) (pi_any K (pe_bmA K PySem.F.plainAttrs_str PySem.F.slot_str_split PySem.F.type_str_split mt_split (pv 0) (pa_cons pe_str pa_nil))) (fun _ _ _ _ => pg_name (i := 0) (show List.Nodup (["run"] : List Str) by decide +kernel) (by rfl) (Or.inl (by rfl)) (Or.inr (by rfl))) (gName_keep (by decide)) (fun _ _ _ _ => pif_one (pt_cmpR (opC_ne K hu) (pv 0) pe_str (nomark _))) (fun _ _ _ _ => (pv 0))))), ?_⟩
  walk_at "S"
  walk_at ""
  refine ⟨trivial, by decide, by omega, fun p hp => .inl ⟨⟨_, SqL.of upd_same⟩, ?_⟩⟩
  have hsz : (Txt.split (z) " ").length ≤ 1000002 := Nat.le_trans (split_len _ _) (by omega)
  refine comp_list (xs := (Txt.split (z) " ").map V.str) (fun i acc Hc => Hc = upd H p (.lst ((Txt.split (z) " ").map V.str)) ∧ acc = (((Txt.split (z) " ").take i).filter fun r : Str => !decide (r = "")).map V.str) ⟨rfl, rfl⟩ (fun i acc Hc _ h => h.1 ▸ SqL.of upd_same) (fun i v acc Hc hv h => ?_) fun acc Hc h p2 hp2 => ?_
  · obtain ⟨rfl, rfl⟩ := h
    rw [List.getElem?_map] at hv
    cases hr : (Txt.split (z) " ")[i]? with
    | none => rw [hr] at hv; cases hv
    | some r =>
      rw [hr] at hv
      cases hv
      have e : List.take (i + 1) (Txt.split (z) " ") = List.take i (Txt.split (z) " ") ++ [r] := by rw [List.take_succ, hr]; rfl
      refine ⟨?_, ?_⟩
      · rw [List.length_map]
        refine Nat.lt_of_le_of_lt (List.length_filter_le _ _) ?_
        rw [List.length_take, sizeLine_eq]
        omega
      · simp only [slotsC, L2.start, List.map_cons, List.map_nil, List.length_cons, List.length_nil, Nat.reduceAdd, Nat.reduceSub, List.replicate_succ, List.replicate_zero, List.cons_append, List.nil_append, List.append_nil, Nat.zero_add, Nat.sub_self]
        walk_at ""
        rw [e, List.filter_append]
        refine ite2 (fun c => ?_) fun c => ?_
        · have : [r].filter (fun r : Str => !decide (r = "")) = [r] := by simp [c]
          rw [this, List.map_append]
          exact ⟨trivial, rfl⟩
        · have : [r].filter (fun r : Str => !decide (r = "")) = [] := by simp [c]
          rw [this, List.append_nil]
          exact ⟨trivial, rfl⟩
  · obtain ⟨rfl, rfl⟩ := h
    rw [List.length_map, List.take_length] at *
    refine k p2 _ ?_ ?_ upd_same
    · exact ((Same.refl _).upd hp).trans ((Same.refl _).upd hp2)
    · exact ((Same.refl _).upd hp : Same H _).free hp2
def goodRows (x : Str) : List Str := (Txt.split x ⟨#[10]⟩).filter fun r : Str => !decide (Txt.stripChars r " " = "")
def spRowsIn : Sp := fun vs H Q _ => ∃ z : Str, vs = [.str z] ∧ z.length ≤ 100000 ∧ ∀ p H', Same H H' → H' p = some (.lst ((goodRows z).map V.str)) → Q (.ref p) H'
theorem part_len {x : Str} {c : Nat} {r : Str} (h : r ∈ Txt.split x ⟨#[c]⟩) : r.length ≤ x.length := by
  have e : Str.join ⟨#[c]⟩ (Txt.split x ⟨#[c]⟩) = x := StrLaws.join_split x ⟨#[c]⟩
  have key : ∀ {l : List Str}, r ∈ l → r.length ≤ (Str.join ⟨#[c]⟩ l).length := by
    intro l
    induction l with
    | nil => intro h; simp at h
    | cons a l ih =>
      intro h
      by_cases hl : l = []
      · subst hl
        rw [List.mem_singleton.mp h]
        exact Nat.le_refl _
      · have e2 := congrArg List.length (join_cons c a hl)
        rw [List.length_append, List.length_cons, len_cps, len_cps, len_cps] at e2
        rcases List.mem_cons.mp h with rfl | h
        · omega
        · have := ih h; omega
  have := key h
  rw [e] at this
  exact this
theorem ok_rows_in (T : Tx K mg D) : FnOk P w K mg base0 CX0 1 D.a_rows_in D.d_rows_in ["text"] spRowsIn := by
  refine T.F_rows_in.ok sc_rows_in (fun vs H Q E h => ?_) (fun cdv A outer s H vs Q E hr h => ?_)
  · obtain ⟨z, rfl, _⟩ := h; rfl
  obtain ⟨z, rfl, hpl, k⟩ := h
  have hu := hr.units
  refine ⟨_, (pss_one (ps_ret (pe_comp 1 [] ["row"] ⟨by rfl, by rfl, by rfl, by rfl, by rfl, by rfl, by rfl⟩ (by rfl) (pi_any K (pe_bmA K PySem.F.plainAttrs_str PySem.F.slot_str_split PySem.F.type_str_split mt_split (pv 0) (pa_cons pe_str pa_nil))) (fun _ _ _ _ => pg_name (i := 0) (show List.Nodup (["row"] : List Str) by decide +kernel) (by rfl) (Or.inl (by rfl)) (Or.inr (by rfl))) (gName_keep (by decide)) (fun _ _ _ _ => pif_one (pt_cmpR (opC_ne K hu) (pe_bmA K PySem.F.plainAttrs_str PySem.F.slot_str_strip PySem.F.type_str_strip mt_stripC (pv 0) (pa_cons pe_str pa_nil)) pe_str (nomark _))) (fun _ _ _ _ => (pv 0))))), ?_⟩
  walk_at "S"
  walk_at ""
  refine ⟨trivial, by decide, by omega, fun p hp => .inl ⟨⟨_, SqL.of upd_same⟩, ?_⟩⟩
  have hsz : (Txt.split z ⟨#[10]⟩).length ≤ 100002 := Nat.le_trans (split_len _ _) (by omega)
  refine comp_list (xs := (Txt.split z ⟨#[10]⟩).map V.str) (fun i acc Hc => Hc = upd H p (.lst ((Txt.split z ⟨#[10]⟩).map V.str)) ∧ acc = (((Txt.split z ⟨#[10]⟩).take i).filter fun r : Str => !decide (Txt.stripChars r " " = "")).map V.str) ⟨rfl, rfl⟩ (fun i acc Hc _ h => h.1 ▸ SqL.of upd_same) (fun i v acc Hc hv h => ?_) fun acc Hc h p1 hp1 => ?_
  · obtain ⟨rfl, rfl⟩ := h
    rw [List.getElem?_map] at hv
    cases hr : (Txt.split z ⟨#[10]⟩)[i]? with
    | none => rw [hr] at hv; cases hv
    | some r =>
      rw [hr] at hv
      cases hv
      have hi := (List.getElem?_eq_some_iff.mp hr).1
      have er := (List.getElem?_eq_some_iff.mp hr).2
      have hrl := part_len (List.mem_of_getElem? hr)
      have e : (Txt.split z ⟨#[10]⟩).take (i + 1) = (Txt.split z ⟨#[10]⟩).take i ++ [r] := by rw [List.take_succ_eq_append_getElem hi, er]
      refine ⟨?_, ?_⟩
      · rw [List.length_map]
        refine Nat.lt_of_le_of_lt (List.length_filter_le _ _) ?_
        rw [List.length_take, sizeLine_eq]
        omega
      · simp only [slotsC, List.replicate_succ, List.replicate_zero, List.map_cons, List.map_nil, List.nil_append, List.cons_append, List.getElem?_cons_zero, List.getElem?_cons_succ, Option.join_some]
        walk_at ""
        rw [e, List.filter_append]
        refine ⟨trivial, by omega, ite2 (fun c => ?_) fun c => ?_⟩
        · exact ⟨trivial, by rw [List.map_append]; simp [c]⟩
        · exact ⟨trivial, by rw [List.map_append]; simp [c]⟩
  · obtain ⟨rfl, rfl⟩ := h
    rw [List.length_map, List.take_length]
    exact k p1 _ ((same_new hp _).trans (same_new hp1 _)) upd_same
def tS (i : Int) : Str := Str.ofString (toString i)
def numQ (x : Str) : Bool := if x = "" then false else if (4 : Int) < x.length then false else if (⟨#[x.cps.toList.headD 0]⟩ : Str) = "0" ∧ ¬ x = "0" then false else x.cps.toList.all fun c => inS ⟨#[c]⟩ "0123456789"
theorem head_at0 {x : Str} (h : ¬ x = "") : atI x.cps.toList 0 = some (x.cps.toList.headD 0) := by
  cases q : x.cps.toList with
  | nil => exact absurd (str_ext (q.trans rfl)) h
  | cons c r => exact atI_nat (j := 0) rfl
theorem ok_is_number (T : Tx K mg D) : FnOk P w K mg base0 CX0 1 D.a_is_number D.d_is_number ["text"] (fun vs H Q _ => ∃ x, vs = [.str x] ∧ x.length ≤ 1000 ∧ ∀ H', Same H H' → Q (.bl (numQ x)) H') := by
  refine T.F_is_number.ok sc_is_number (fun vs H Q E h => ?_) (fun cdv A outer s H vs Q E hr h => ?_)
  · obtain ⟨x, rfl, _⟩ := h; rfl
  obtain ⟨x, rfl, hx, k⟩ := h
  have hu := hr.units
  refine ⟨_, (pss_cons (ps_if (PW.pt (pw_or (pt_cmpR (opB_eq K hu) (pv 0) pe_str (nomark _)) (pw_or1 (pt_cmpR op_gt (pe_callB (callA_len K) (by rfl) T.z_len PySem.boot_len (pa_cons (pv 0) pa_nil)) (T.g_MOST_FIGURES (by rfl)) (nomark _))))) (pss_one (ps_ret pe_bl)) pss_nil)
    (pss_cons (ps_if (PW.pt (pw_and (pt_cmpR (opB_eq K hu) (pe_ix (ixA K) (pv 0) pe_int (fun _ _ => rfl)) pe_str (nomark _)) (pw_and1 (pt_cmpR (opA_ne hu) (pv 0) pe_str (nomark _))))) (pss_one (ps_ret pe_bl)) pss_nil)
    (pss_one (ps_ret (pe_callB (callA_all K (by rfl)) (by rfl) T.z_all (by rfl) (pa_cons (pe_comp 1 [] ["sign"] ⟨by rfl, by rfl, by rfl, by rfl, by rfl, by rfl, by rfl⟩ (by rfl) (pi_any K (pv 0)) (fun _ _ _ _ => pg_name (i := 0) (show List.Nodup (["sign"] : List Str) by decide +kernel) (by rfl) (Or.inl (by rfl)) (Or.inr (by rfl))) (gName_keep (by decide)) (fun _ _ _ _ => pif_nil) (fun _ _ _ _ => (pe_cmpR (opA_in K) (pv 0) (T.g_FIGURES (by rfl)) (by rfl)))) pa_nil)))))), ?_⟩
  walk_at "S"
  walk_at ""
  have hz : x.length ≤ sizeLine := sz1000 (by omega)
  have kf : numQ x = false → Q (.bl false) H := fun e => by have := k H (Same.refl _); rw [e] at this; exact this
  refine ite2 (fun c => kf (by unfold numQ; rw [if_pos c])) fun c => ⟨hz, ite2 (fun c2 => kf (by unfold numQ; rw [if_neg c, if_pos c2])) fun c2 => ⟨hz, _, head_at0 c, ?_⟩⟩
  refine ite2 (fun c3 => ite2 (fun c4 => kf (by unfold numQ; rw [if_neg c, if_neg c2, if_pos ⟨c3, c4⟩])) fun c4 => ?_) fun c3 => ?_
  all_goals
    have hn : numQ x = x.cps.toList.all fun c => inS ⟨#[c]⟩ "0123456789" := by
      unfold numQ
      rw [if_neg c, if_neg c2, if_neg (fun z => by first | exact c4 z.2 | exact c3 z.1)]
    have hlen : x.cps.toList.length ≤ 1000 := by rw [len_cps]; exact hx
    refine comp_str (fun i acc H2 => H2 = H ∧ acc = ((x.cps.toList.take i).map fun c => inS ⟨#[c]⟩ "0123456789").map V.bl) ⟨rfl, by simp⟩ (fun i c acc H2 hi hp => ?_) fun acc H2 hp p hn' => ?_
    · obtain ⟨rfl, rfl⟩ := hp
      have hil : i < x.cps.toList.length := (List.getElem?_eq_some_iff.mp hi).1
      have ec := (List.getElem?_eq_some_iff.mp hi).2
      refine ⟨sz1000' (by simp only [List.length_map, List.length_take]; omega), ?_⟩
      simp only [slotsC, List.replicate_succ, List.replicate_zero, List.map_cons, List.map_nil, List.nil_append, List.cons_append, List.getElem?_cons_zero, List.getElem?_cons_succ, Option.join_some]
      walk_at ""
      refine ⟨trivial, ?_⟩
      rw [List.take_succ_eq_append_getElem hil, ec, List.map_append, List.map_append]; rfl
    · obtain ⟨rfl, rfl⟩ := hp
      rw [List.take_length]
      walk_at ""
      refine ⟨_, SqL.of upd_same, ?_⟩
      have := k _ (same_new hn' (.lst ((x.cps.toList.map fun c => inS ⟨#[c]⟩ "0123456789").map V.bl)))
      rw [hn] at this
      rw [List.all_map]
      exact this
theorem num_tS : ∀ i : Nat, i < 41 → numQ (tS i) = true ∧ (tS i).length ≤ 2 := by decide +kernel
def spRN : Sp := fun vs H Q _ => ∃ i : Int, 0 ≤ i ∧ i < 41 ∧ vs = [.str (tS i)] ∧ ∀ H', Same H H' → Q (.int i) H'
theorem ok_read_number (T : Tx K mg D) : FnOk P w K mg base0 CX0 2 D.a_read_number D.d_read_number ["run"] spRN := by
  have G_is_number := ok_is_number (P := P) (w := w) (base0 := base0) T
  refine T.F_read_number.ok sc_read_number (fun vs H Q E h => ?_) (fun cdv A outer s H vs Q E hr h => ?_)
  · obtain ⟨i, _, _, rfl, _⟩ := h; rfl
  obtain ⟨i, h0, h1, rfl, k⟩ := h
  obtain ⟨i, rfl⟩ : ∃ n : Nat, i = n := ⟨i.toNat, by omega⟩
  have hi : i < 41 := by omega
  have hu := hr.units
  have hr_is_number : Room 1 _ := hr.mono (by decide)
  obtain ⟨n1, n2⟩ := num_tS i hi
  refine ⟨_, (pss_cons (ps_if (pt_not (pt_val (pe_call G_is_number hr_is_number (by rfl) T.m_is_number T.F_is_number.kp T.b_is_number .nil pass0 (pa_cons (pv 0) pa_nil)))) (pss_one ps_never) pss_nil)
    (pss_one (ps_ret (pe_callTy callT_int (by rfl) T.z_int (by rfl) (pa_cons (pv 0) pa_nil))))), ?_⟩
  walk_at "S"
  walk_at ""
  refine ⟨_, rfl, by omega, fun H1 s1 => ?_⟩
  rw [n1]
  (try walk_at "")
  first
    | exact .inr ⟨i, hi, rfl, k H1 s1⟩
    | exact ⟨true, rfl, by rw [if_neg (fun z => nomatch z)]; exact .inr ⟨i, hi, rfl, k H1 s1⟩⟩
def spRS (K : PySem.W.Frag) : Sp := fun vs H Q _ => ∃ (a : Addr) (i : Int), 0 ≤ i ∧ i < 41 ∧ vs = [.ref a] ∧ SqL K H a [.str "things", .str (tS i)] ∧ ∀ H', Same H H' → Q (.int i) H'
theorem ok_read_size (T : Tx K mg D) : FnOk P w K mg base0 CX0 3 D.a_read_size D.d_read_size ["row"] (spRS K) := by
  have G_read_number := ok_read_number (P := P) (w := w) (base0 := base0) T
  refine T.F_read_size.ok sc_read_size (fun vs H Q E h => ?_) (fun cdv A outer s H vs Q E hr h => ?_)
  · obtain ⟨a, i, _, _, rfl, _⟩ := h; rfl
  obtain ⟨a, i, h0, h1, rfl, hA, k⟩ := h
  have hu := hr.units
  have hr_read_number : Room 2 _ := hr.mono (by decide)
  refine ⟨_, (pss_cons (ps_if (PW.pt (pw_or (pt_cmpR (opA_ne hu) (pe_callB (callA_len K) (by rfl) T.z_len PySem.boot_len (pa_cons (pv 0) pa_nil)) pe_int (nomark _)) (pw_or1 (pt_cmpR (opA_ne hu) (pe_ix (ixA K) (pv 0) pe_int (fun _ _ => rfl)) pe_str (nomark _))))) (pss_one ps_never) pss_nil)
    (pss_one (ps_ret (pe_call G_read_number hr_read_number (by rfl) T.m_read_number T.F_read_number.kp T.b_read_number .nil pass0 (pa_cons (pe_ix (ixA K) (pv 0) pe_int (fun _ _ => rfl)) pa_nil))))), ?_⟩
  walk_at "S"
  walk_at ""
  refine ⟨_, .inl hA, ?_⟩
  rw [if_neg (by simp)]
  refine ⟨_, .inl hA, _, atI_nat (j := 0) rfl, ?_⟩
  walk_at ""
  rw [if_neg (by simp)]
  exact ⟨_, .inl hA, _, atI_nat (j := 1) rfl, i, h0, h1, rfl, k⟩
def nrQ (rs : List Str) : Bool := decide (rs.length = 3) && decide (rs.getD 1 "" = "is")
def spNR (K : PySem.W.Frag) : Sp := fun vs H Q _ => ∃ (a : Addr) (rs : List Str), vs = [.ref a] ∧ SqL K H a (rs.map V.str) ∧ Q (.bl (nrQ rs)) H
theorem ok_is_names_row (T : Tx K mg D) : FnOk P w K mg base0 CX0 1 D.a_is_names_row D.d_is_names_row ["row"] (spNR K) := by
  refine T.F_is_names_row.ok sc_is_names_row (fun vs H Q E h => ?_) (fun cdv A outer s H vs Q E hr h => ?_)
  · obtain ⟨a, rs, rfl, _⟩ := h; rfl
  obtain ⟨a, rs, rfl, hA, k⟩ := h
  have hu := hr.units
  refine ⟨_, (pss_one (ps_ret (pe_and (pe_cmpR (opB_eq K hu) (pe_callB (callA_len K) (by rfl) T.z_len PySem.boot_len (pa_cons (pv 0) pa_nil)) pe_int (nomark _)) (pe_one (pe_cmpR (opB_eq K hu) (pe_ix (ixA K) (pv 0) pe_int (fun _ _ => rfl)) pe_str (nomark _)))))), ?_⟩
  walk_at "S"
  walk_at ""
  refine ⟨_, .inl hA, ?_⟩
  rw [List.length_map]
  unfold nrQ at k
  by_cases c : rs.length = 3
  · rw [if_pos (by omega)]
    refine ⟨_, .inl hA, _, atI_nat (j := 1) (strs_get (by omega)), ?_⟩
    walk_at ""
    rw [decide_eq_true c, Bool.true_and] at k
    exact k
  · rw [if_neg (by omega)]
    rw [decide_eq_false c, Bool.false_and] at k
    exact k
def spRF (K : PySem.W.Frag) : Sp := fun vs H Q _ => ∃ (a : Addr) (x : Str) (ns : List Int), (∀ i ∈ ns, 0 ≤ i ∧ i < 41) ∧ ns.length ≤ 3 ∧ vs = [.ref a] ∧ SqL K H a (V.str x :: ns.map fun i => V.str (tS i)) ∧ ∀ p H', Same H H' → RepD K H' (rowD true (x, ns)) (.ref p) → Q (.ref p) H'
theorem ok_read_fact (T : Tx K mg D) : FnOk P w K mg base0 CX0 3 D.a_read_fact D.d_read_fact ["row"] (spRF K) := by
  have G_read_number := ok_read_number (P := P) (w := w) (base0 := base0) T
  refine T.F_read_fact.ok sc_read_fact (fun vs H Q E h => ?_) (fun cdv A outer s H vs Q E hr h => ?_)
  · obtain ⟨a, x, ns, _, _, rfl, _⟩ := h; rfl
  obtain ⟨a, x, ns, hns, hl, rfl, hA, k⟩ := h
  have hu := hr.units
  have hr_read_number : Room 2 _ := hr.mono (by decide)
  refine ⟨_, (pss_one (ps_ret (pe_tup (pa_cons (pe_ix (ixA K) (pv 0) pe_int (fun _ _ => rfl)) (pa_cons (pe_callTy (callA_tuple K) (by rfl) T.z_tuple (by rfl) (pa_cons (pe_comp 1 [] ["run"] ⟨by rfl, by rfl, by rfl, by rfl, by rfl, by rfl, by rfl⟩ (by rfl) (pi_any K (pe_slice (slB K) (pv 0) (po_some pe_int) po_none)) (fun _ _ _ _ => pg_name (i := 0) (show List.Nodup (["run"] : List Str) by decide +kernel) (by rfl) (Or.inl (by rfl)) (Or.inr (by rfl))) (gName_keep (by decide)) (fun _ _ _ _ => pif_nil) (fun _ _ _ _ => (pe_call G_read_number hr_read_number (by rfl) T.m_read_number T.F_read_number.kp T.b_read_number .nil pass0 (pa_cons (pv 0) pa_nil)))) pa_nil)) pa_nil))))), ?_⟩
  walk_at "S"
  walk_at ""
  refine ⟨_, .inl hA, _, atI_nat (j := 0) rfl, _, .inl ⟨hA, fun q hq => ?_⟩⟩
  rw [cut_tail]
  refine .inl ⟨⟨_, SqL.of upd_same⟩, comp_list (xs := ns.map fun i => V.str (tS i)) (fun i acc H5 => Same (upd H q (.lst (ns.map fun i => V.str (tS i)))) H5 ∧ acc = (ns.take i).map V.int) ⟨Same.refl _, rfl⟩ (fun i acc H5 _ h => SqL.of (h.1 _ _ upd_same)) (fun i v acc H5 hv h => ?_) fun acc H5 h p1 hp1 => ?_⟩
  · obtain ⟨s5, rfl⟩ := h
    have hi : i < ns.length := by have := (List.getElem?_eq_some_iff.mp hv).1; simpa using this
    have ev : v = V.str (tS ns[i]) := by
      rw [List.getElem?_map, List.getElem?_eq_getElem hi] at hv
      cases hv; rfl
    subst ev
    obtain ⟨z1, z2⟩ := hns _ (List.getElem_mem hi)
    refine ⟨sz1000' (by simp; omega), ?_⟩
    simp only [slotsC, List.replicate_succ, List.replicate_zero, List.map_cons, List.map_nil, List.nil_append, List.cons_append, List.getElem?_cons_zero, List.getElem?_cons_succ, Option.join_some]
    walk_at ""
    refine ⟨_, z1, z2, rfl, fun H6 s6 => ⟨s5.trans s6, ?_⟩⟩
    rw [List.take_succ_eq_append_getElem hi, List.map_append]; rfl
  · obtain ⟨s5, rfl⟩ := h
    rw [List.length_map, List.take_length]
    walk_at ""
    refine ⟨_, .inl ⟨SqL.of upd_same, fun l hl1 => ⟨sz1000 (show 2 ≤ 100000 by decide), fun p hp => ?_⟩⟩⟩
    refine k p _ ((((same_new hq _).trans s5).trans (same_new hp1 _)).trans ((same_new hl1 _).trans (same_new hp _))) (RepD.t2 (SqT.of upd_same) (.str _) (RepD.ints (SqT.of (keep1 hp upd_same))))
end
section
variable {P : Program} {w : World} {K : PySem.W.Frag} {mg : Str → Option Value} {base0 : Heap} {D : Defs}
def sof : Str := "abcdefghijklmnopqrstuvwxyz0123456789"
def tailOk (x : Str) : Bool := (Txt.slice x (some 1) none).cps.toList.all fun c => inS ⟨#[c]⟩ sof
def base (x f : Str) : Bool := if x = "" then false else if (8 : Int) < x.length then false else if inS ⟨#[x.cps.toList.headD 0]⟩ f then tailOk x else false
def keptV : List V := [V.str "not", V.str "and", V.str "or", V.str "then", V.str "all", V.str "some", V.str "false"]
theorem head_at {x : Str} (h : ¬ x = "") : atI x.cps.toList 0 = some (x.cps.toList.headD 0) := by
  have e : x.cps.toList ≠ [] := fun e => h (by
    obtain ⟨c⟩ := x
    have : c = #[] := by simpa using e
    subst this
    rfl)
  cases q : x.cps.toList with
  | nil => exact absurd q e
  | cons c r => exact atI_nat (j := 0) rfl
def spBase : Sp := fun vs H Q _ => ∃ x f, vs = [.str x, .str f] ∧ x.length ≤ 1000 ∧ ∀ H', Same H H' → Q (.bl (base x f)) H'
def sp1 (r : Str → Bool) : Sp := fun vs H Q _ => ∃ x, vs = [.str x] ∧ x.length ≤ 1000 ∧ ∀ H', Same H H' → Q (.bl (r x)) H'
theorem ok_begins (T : Tx K mg D) : FnOk P w K mg base0 CX0 1 D.a_begins_and_goes_on D.d_begins_and_goes_on ["text", "first_signs"] spBase := by
  refine T.F_begins_and_goes_on.ok sc_begins_and_goes_on (fun vs H Q E h => ?_) (fun cdv A outer s H vs Q E hr h => ?_)
  · obtain ⟨x, f, rfl, _⟩ := h; rfl
  obtain ⟨x, f, rfl, hx, k⟩ := h
  have hu := hr.units
  refine ⟨_, (pss_cons (ps_if (PW.pt (pw_or (pt_cmpR (opC_eq K hu) (pv 0) pe_str (nomark _)) (pw_or (pt_cmpR op_gt (pe_callB (callA_len K) (by rfl) T.z_len PySem.boot_len (pa_cons (pv 0) pa_nil)) (T.g_MOST_SIGNS (by rfl)) (nomark _)) (pw_or1 (pt_cmpR (opC_notin K hu) (pe_ix (ixA K) (pv 0) pe_int (fun _ _ => rfl)) (pv 1) (by rfl)))))) (pss_one (ps_ret pe_bl)) pss_nil)
    (pss_one (ps_ret (pe_callB (callA_all K (by rfl)) (by rfl) T.z_all (by rfl) (pa_cons (pe_comp 1 [] ["sign"] ⟨by rfl, by rfl, by rfl, by rfl, by rfl, by rfl, by rfl⟩ (by rfl) (pi_any K (pe_slice (slB K) (pv 0) (po_some pe_int) po_none)) (fun _ _ _ _ => pg_name (i := 0) (show List.Nodup (["sign"] : List Str) by decide +kernel) (by rfl) (Or.inl (by rfl)) (Or.inr (by rfl))) (gName_keep (by decide)) (fun _ _ _ _ => pif_nil) (fun _ _ _ _ => (pe_cmpR (opC_in K hu) (pv 0) (T.g_SMALL_OR_FIGURE (by rfl)) (by rfl)))) pa_nil))))), ?_⟩
  walk_at "S"
  walk_at ""
  have hz : x.length ≤ sizeLine := sz1000 (by omega)
  have kf : base x f = false → Q (.bl false) H := fun e => by have q := k H (Same.refl H); rw [e] at q; exact q
  refine ite2 (fun c => kf (by unfold base; rw [if_pos c])) fun c => ⟨hz, ite2 (fun c2 => kf (by unfold base; rw [if_neg c, if_pos c2])) fun c2 => ⟨hz, _, head_at c, ?_⟩⟩
  refine ite2 (fun c3 => kf (by unfold base; rw [if_neg c, if_neg c2, if_neg (by rw [c3]; exact Bool.false_ne_true)])) fun c3 => ⟨hz, ?_⟩
  have c3' : inS ⟨#[x.cps.toList.headD 0]⟩ f = true := by simpa using c3
  have hb : base x f = tailOk x := by unfold base; rw [if_neg c, if_neg c2, if_pos c3']
  have hlen : (Txt.slice x (some 1) none).cps.toList.length ≤ 1000 := Nat.le_trans (Nat.le_of_eq (by simp [Str.length])) (Nat.le_trans (Txt.slice_le x (some 1) none) hx)
  refine comp_str (fun i acc H2 => H2 = H ∧ acc = ((Txt.slice x (some 1) none).cps.toList.take i).map fun c => V.bl (inS ⟨#[c]⟩ sof)) ⟨rfl, by simp⟩ (fun i c acc H2 hi hp => ?_) fun acc H2 hp p hn => ?_
  · obtain ⟨rfl, rfl⟩ := hp
    have hil : i < (Txt.slice x (some 1) none).cps.toList.length := (List.getElem?_eq_some_iff.mp hi).1
    refine ⟨sz1000' (by rw [List.length_map, List.length_take]; omega), ?_⟩
    simp only [slotsC, List.replicate_succ, List.replicate_zero, List.map_nil, List.nil_append, List.cons_append]
    walk_at ""
    refine ⟨trivial, ?_⟩
    rw [List.take_add_one, hi]
    simp [sof]
  · obtain ⟨rfl, rfl⟩ := hp
    walk_at ""
    refine ⟨(Txt.slice x (some 1) none).cps.toList.map fun c => inS ⟨#[c]⟩ sof, SqL.of (by rw [upd_same, List.take_of_length_le (Nat.le_refl _), List.map_map]; rfl), ?_⟩
    have q := k _ (same_new hn (.lst (((Txt.slice x (some 1) none).cps.toList.take (Txt.slice x (some 1) none).cps.toList.length).map fun c => V.bl (inS ⟨#[c]⟩ sof))))
    rw [hb] at q
    have e : ((Txt.slice x (some 1) none).cps.toList.map fun c => inS ⟨#[c]⟩ sof).all id = tailOk x := by unfold tailOk; rw [List.all_map]; rfl
    rw [e]
    exact q
theorem ok_name (T : Tx K mg D) : FnOk P w K mg base0 CX0 2 D.a_is_name D.d_is_name ["text"] (sp1 fun x => base x "abcdefghijklmnopqrstuvwxyz" && !inV (.str x) keptV) := by
  have G_begins_and_goes_on := ok_begins (P := P) (w := w) (base0 := base0) T
  refine T.F_is_name.ok sc_is_name (fun vs H Q E h => ?_) (fun cdv A outer s H vs Q E hr h => ?_)
  · obtain ⟨x, rfl, _⟩ := h; rfl
  obtain ⟨x, rfl, hx, k⟩ := h
  have hu := hr.units
  have hr_begins_and_goes_on : Room 1 _ := hr.mono (by decide)
  refine ⟨_, (pss_one (ps_ret (pe_and (pe_call G_begins_and_goes_on hr_begins_and_goes_on (by rfl) T.m_begins_and_goes_on T.F_begins_and_goes_on.kp T.b_begins_and_goes_on .nil pass0 (pa_cons (pv 0) (pa_cons (T.g_SMALL (by rfl)) pa_nil))) (pe_one (pe_cmpR (opC_notin K hu) (pv 0) (T.g_KEPT_WORDS (by rfl)) (by rfl)))))), ?_⟩
  walk_at "S"
  walk_at ""
  refine ⟨x, _, rfl, hx, fun H' hs => ?_⟩
  walk_at ""
  have q : Q (.bl (base x "abcdefghijklmnopqrstuvwxyz" && !inV (.str x) keptV)) H' := k H' hs
  cases e : base x "abcdefghijklmnopqrstuvwxyz" with
  | false => rw [e] at q; exact iteF q
  | true => rw [e] at q; exact iteT (.inl ⟨_, _, rfl, .inr (T.q_KEPT_WORDS _), rfl, by decide, q⟩)
theorem ok_word (T : Tx K mg D) : FnOk P w K mg base0 CX0 3 D.a_is_word D.d_is_word ["text"] (sp1 fun x => base x "abcdefghijklmnopqrstuvwxyz" && !inV (.str x) keptV) := by
  have G_is_name := ok_name (P := P) (w := w) (base0 := base0) T
  refine T.F_is_word.ok sc_is_word (fun vs H Q E h => ?_) (fun cdv A outer s H vs Q E hr h => ?_)
  · obtain ⟨x, rfl, _⟩ := h; rfl
  obtain ⟨x, rfl, hx, k⟩ := h
  have hu := hr.units
  have hr_is_name : Room 2 _ := hr.mono (by decide)
  refine ⟨_, (pss_one (ps_ret (pe_call G_is_name hr_is_name (by rfl) T.m_is_name T.F_is_name.kp T.b_is_name .nil pass0 (pa_cons (pv 0) pa_nil)))), ?_⟩
  walk_at "S"
  walk_at ""
  exact ⟨x, rfl, hx, k⟩
end
section
variable {P : Program} {w : World} {K : PySem.W.Frag} {mg : Str → Option Value} {base0 : Heap} {D : Defs}
def spRises (K : PySem.W.Frag) : Sp := fun vs H Q _ => ∃ (a : Addr) (xs : List V) (ks : List (List Nat × List Int)), vs = [.ref a] ∧ (SqL K H a xs ∨ SqT K H a xs) ∧ KeyRow K H xs ks ∧ xs.length ≤ 1000 ∧ ∀ H', Same H H' → Q (.bl (risQ ks)) H'
theorem ok_rises (T : Tx K mg D) : FnOk P w K mg base0 CX0 1 D.a_rises D.d_rises ["row"] (spRises K) := by
  refine T.F_rises.ok sc_rises (fun vs H Q E h => ?_) (fun cdv A outer s H vs Q E hr h => ?_)
  · obtain ⟨a, xs, ks, rfl, _⟩ := h; rfl
  obtain ⟨a, xs, ks, rfl, hA, ⟨t, hl, hK⟩, hx, k⟩ := h
  have hu := hr.units
  refine ⟨_, (pss_one (ps_ret (pe_callB (callA_all K (by rfl)) (by rfl) T.z_all (by rfl) (pa_cons (pe_comp 1 [0] ["k", "row"] ⟨by rfl, by rfl, by rfl, by rfl, by rfl, by rfl, by rfl⟩ (by rfl) (pi_range1 (by rfl) T.z_range (pa_cons (pe_op op_sub (pe_callB (callA_len K) (by rfl) T.z_len PySem.boot_len (pa_cons (pv 0) pa_nil)) pe_int) pa_nil)) (fun _ _ _ _ => pg_name (i := 0) (show List.Nodup (["k", "row"] : List Str) by decide +kernel) (by rfl) (Or.inl (by rfl)) (Or.inr (by rfl))) (gName_keep (by decide)) (fun _ _ _ _ => pif_nil) (fun _ _ _ _ => (pe_cmpR (opW_lt K hu) (pe_ix (ixA K) (pv 1) (pv 0) (fun _ _ => rfl)) (pe_ix (ixA K) (pv 1) (pe_op (opB_add K) (pv 0) pe_int) (fun _ _ => rfl)) (nomark _)))) pa_nil)))), ?_⟩
  walk_at "S"
  walk_at ""
  refine ⟨_, hA, by omega, by omega, ?_⟩
  refine comp_range (fun i acc H5 => H5 = H ∧ acc = (List.range i).map fun j => V.bl (decide (rowLt (ks.getD j ([], [])) (ks.getD (j + 1) ([], []))))) ⟨rfl, rfl⟩ (fun i acc H5 hi hv => ?_) fun acc H5 hv p hp => ?_
  · obtain ⟨rfl, rfl⟩ := hv
    have hi' : i + 1 < xs.length := by omega
    refine ⟨sz1000' (by simp; omega), ?_⟩
    simp only [slotsC, List.replicate_succ, List.replicate_zero, List.map_cons, List.map_nil, List.nil_append, List.cons_append, List.getElem?_cons_zero, List.getElem?_cons_succ, Option.join_some]
    walk_at ""
    have e0 : atI xs (0 + (i : Int)) = some (xs[i]'(by omega)) := at0 (List.getElem?_eq_getElem (by omega))
    have e1 : atI xs (0 + (i : Int) + 1) = some (xs[i + 1]'hi') := by
      rw [show (0 + (i : Int) + 1) = ((i + 1 : Nat) : Int) by omega]
      exact atI_nat (List.getElem?_eq_getElem hi')
    refine ⟨_, hA, _, e0, _, hA, _, e1, KeyIt.lt (KeyRow.at hl hK (by omega)) (KeyRow.at hl hK hi') ⟨rfl, ?_⟩⟩
    rw [List.range_succ, List.map_append]; rfl
  · obtain ⟨rfl, rfl⟩ := hv
    walk_at ""
    have en : ((xs.length : Int) - 1).toNat = ks.length - 1 := by omega
    rw [en]
    refine ⟨(List.range (ks.length - 1)).map fun j => decide (rowLt (ks.getD j ([], [])) (ks.getD (j + 1) ([], []))), SqL.of (by rw [upd_same, List.map_map]; rfl), ?_⟩
    rw [List.all_map]
    exact k _ (same_new hp _)
end
section
variable {P : Program} {w : World} {K : PySem.W.Frag} {mg : Str → Option Value} {base0 : Heap} {D : Defs}
def nmQ (x : Str) : Bool := base x "abcdefghijklmnopqrstuvwxyz" && !inV (.str x) keptV
def thQ (n i : Int) : Bool := decide (0 ≤ i ∧ i < n)
def prQ (n : Int) (p : Str × Int) : Bool := nmQ p.1 && thQ n p.2
def ftQ (n : Int) (r : Rw) : Bool := nmQ r.1 && decide (r.2.length ≤ 3) && r.2.all (thQ n)
def clQ (n : Int) (cs : List (Str × Int)) : Bool := cs.all (prQ n) && risQ (cs.map fun p => (p.1.cps.toList, []))
def fsQ (n : Int) (fs : List Rw) : Bool := fs.all (ftQ n) && risQ (fs.map rowK)
def fitQ (W : Wd) : Bool := decide (1 ≤ W.size) && clQ W.size W.cs && fsQ W.size W.fs
theorem ok_is_thing (T : Tx K mg D) : FnOk P w K mg base0 CX0 1 D.a_is_thing D.d_is_thing ["thing", "size"] (fun vs H Q _ => ∃ i n, vs = [.int i, .int n] ∧ Q (.bl (thQ n i)) H) := by
  refine T.F_is_thing.ok sc_is_thing (fun vs H Q E h => ?_) (fun cdv A outer s H vs Q E hr h => ?_)
  · obtain ⟨i, n, rfl, _⟩ := h; rfl
  obtain ⟨i, n, rfl, k⟩ := h
  have hu := hr.units
  refine ⟨_, (pss_one (ps_ret (pe_and (pe_cmpR op_le pe_int (pv 0) (nomark _)) (pe_one (pe_cmpR opA_lt (pv 0) (pv 1) (nomark _)))))), ?_⟩
  walk_at "S"
  walk_at ""
  unfold thQ at k
  by_cases c : 0 ≤ i
  · rw [if_pos c]
    have : decide (0 ≤ i ∧ i < n) = decide (i < n) := by simp [c]
    rw [this] at k; exact k
  · rw [if_neg c]
    have : decide (0 ≤ i ∧ i < n) = false := by simp [c]
    rw [this] at k; exact k
theorem all_step {α : Type} {f : α → Bool} {l : List α} {j : Nat} (hj : j < l.length) (h : (l.take j).all f = true) (c : f l[j] = true) : (l.take (j + 1)).all f = true := by
  rw [List.take_succ_eq_append_getElem hj, List.all_append, h, List.all_cons, c, List.all_nil]; rfl
theorem all_stop {α : Type} {f : α → Bool} {l : List α} {j : Nat} (hj : j < l.length) (c : f l[j] = false) : l.all f = false := List.all_eq_false.mpr ⟨l[j], List.getElem_mem hj, by rw [c]; exact Bool.false_ne_true⟩
def spCal (K : PySem.W.Frag) : Sp := fun vs H Q _ => ∃ (a : Addr) (xs : List V) (cs : List (Str × Int)) (n : Int), vs = [.ref a, .int n] ∧ SqT K H a xs ∧ RepX K H ((cs.map prR).map (rowD false)) xs ∧ xs.length ≤ 400 ∧ (∀ p ∈ cs, p.1.length ≤ 1000) ∧ ∀ H', Same H H' → Q (.bl (clQ n cs)) H'
theorem ok_fit_called (T : Tx K mg D) : FnOk P w K mg base0 CX0 3 D.a_fit_called D.d_fit_called ["called", "size"] (spCal K) := by
  have G_is_name := ok_name (P := P) (w := w) (base0 := base0) T
  have G_is_thing := ok_is_thing (P := P) (w := w) (base0 := base0) T
  have G_rises := ok_rises (P := P) (w := w) (base0 := base0) T
  refine T.F_fit_called.ok sc_fit_called (fun vs H Q E h => ?_) (fun cdv A outer s H vs Q E hr h => ?_)
  · obtain ⟨a, xs, cs, n, rfl, _⟩ := h; rfl
  obtain ⟨a, xs, cs, n, rfl, hA, hX, hx, hn, k⟩ := h
  have hu := hr.units
  have hr_is_name : Room 2 _ := hr.mono (by decide)
  have hr_is_thing : Room 1 _ := hr.mono (by decide)
  have hr_rises : Room 1 _ := hr.mono (by decide)
  have hlx : xs.length = cs.length := by have := hX.1; simpa using this.symm
  refine ⟨_, (pss_cons (ps_for PassesOwn.never (by rfl) (pi_any K (pv 0)) (pg_tup (by rfl) (pgs_cons (pg_name (i := 2) sc_fit_called.nd (by rfl) (by walk_at "o")) (pgs_cons (pg_name (i := 3) sc_fit_called.nd (by rfl) (by walk_at "o")) pgs_nil)))
      (pss_one (ps_if (PW.pt (pw_or (pt_not (pt_val (pe_call G_is_name hr_is_name (by rfl) T.m_is_name T.F_is_name.kp T.b_is_name .nil pass0 (pa_cons (pv 2) pa_nil)))) (pw_or1 (pt_not (pt_val (pe_call G_is_thing hr_is_thing (by rfl) T.m_is_thing T.F_is_thing.kp T.b_is_thing .nil pass0 (pa_cons (pv 3) (pa_cons (pv 1) pa_nil)))))))) (pss_one (ps_ret pe_bl)) pss_nil)))
    (pss_one (ps_ret (pe_call G_rises hr_rises (by rfl) T.m_rises T.F_rises.kp T.b_rises .nil pass0 (pa_cons (pe_comp 1 [] ["pair"] ⟨by rfl, by rfl, by rfl, by rfl, by rfl, by rfl, by rfl⟩ (by rfl) (pi_any K (pv 0)) (fun _ _ _ _ => pg_name (i := 0) (show List.Nodup (["pair"] : List Str) by decide +kernel) (by rfl) (Or.inl (by rfl)) (Or.inr (by rfl))) (gName_keep (by decide)) (fun _ _ _ _ => pif_nil) (fun _ _ _ _ => (pe_ix (ixA K) (pv 0) pe_int (fun _ _ => rfl)))) pa_nil))))), ?_⟩
  walk_at "S"
  walk_at ""
  refine .inr ⟨⟨_, hA⟩, forW_tup (xs := xs) (fun i σ H2 => Same H H2 ∧ (∃ u2 u3, σ = [some (.ref a), some (.int n), u2, u3]) ∧ (cs.take i).all (prQ n) = true) ⟨Same.refl _, ⟨_, _, rfl⟩, rfl⟩ (fun i σ H2 _ hv => hv.1.seqT hA) (fun j x σ H2 hx' hv => ?_) fun σ H2 hv => ?_⟩
  · obtain ⟨s2, ⟨u2, u3, rfl⟩, hall⟩ := hv
    have hj : j < cs.length := by have := (List.getElem?_eq_some_iff.mp hx').1; omega
    have hd := (hX.2 j (rowD false (prR cs[j])) x (by simp [hj]) hx').same s2
    obtain ⟨q, x1, x2, rfl, hq, e1, e2⟩ := RepD.two hd
    cases e1
    cases e2
    walk_at ""
    refine ⟨_, hq, rfl, ?_⟩
    walk_at ""
    refine ⟨_, rfl, hn _ (List.getElem_mem hj), fun H3 s3 => ?_⟩
    have stop : prQ n cs[j] = false → Q (.bl false) H3 := fun e => by
      have q := k H3 (s2.trans s3)
      unfold clQ at q
      rw [all_stop hj e, Bool.false_and] at q
      exact q
    refine ⟨nmQ cs[j].1, rfl, ?_⟩
    cases c1 : nmQ cs[j].1 with
    | false => rw [if_pos rfl]; exact stop (by unfold prQ; rw [c1]; rfl)
    | true =>
      rw [if_neg (fun z => nomatch z)]
      show if thQ n cs[j].2 = false then _ else _
      cases c2 : thQ n cs[j].2 with
      | false => rw [if_pos rfl]; exact stop (by unfold prQ; rw [c1, c2]; rfl)
      | true =>
        rw [if_neg (fun z => nomatch z)]
        exact ⟨s2.trans s3, ⟨_, _, rfl⟩, all_step hj hall (by unfold prQ; rw [c1, c2]; rfl)⟩
  · obtain ⟨s2, ⟨u2, u3, rfl⟩, hall⟩ := hv
    rw [hlx, List.take_length] at hall
    walk_at ""
    refine .inr ⟨⟨_, s2.seqT hA⟩, comp_tup (xs := xs) (fun i acc H5 => H5 = H2 ∧ acc = ((cs.take i).map (·.1)).map V.str) ⟨rfl, rfl⟩ (fun i acc H5 _ hv => hv.1 ▸ s2.seqT hA) (fun j x acc H5 hx' hv => ?_) fun acc H5 hv p hp => ?_⟩
    · obtain ⟨rfl, rfl⟩ := hv
      have hj : j < cs.length := by have := (List.getElem?_eq_some_iff.mp hx').1; omega
      have hd := (hX.2 j (rowD false (prR cs[j])) x (by simp [hj]) hx').same s2
      obtain ⟨q, x1, x2, rfl, hq, e1, e2⟩ := RepD.two hd
      cases e1
      refine ⟨sz1000' (by simp; omega), ?_⟩
      simp only [slotsC, List.replicate_succ, List.replicate_zero, List.map_cons, List.map_nil, List.nil_append, List.cons_append, List.getElem?_cons_zero, List.getElem?_cons_succ, Option.join_some]
      walk_at ""
      refine ⟨_, .inr hq, _, atI_nat (j := 0) rfl, trivial, ?_⟩
      rw [List.take_succ_eq_append_getElem hj, List.map_append, List.map_append]; rfl
    · obtain ⟨rfl, rfl⟩ := hv
      rw [hlx, List.take_length]
      (try walk_at "")
      refine ⟨p, _, _, rfl, .inl (SqL.of upd_same), KeyRow.txts (cs.map (·.1)), by simp; omega, fun H6 s6 => ?_⟩
      have q := k H6 ((s2.trans (same_new hp _)).trans s6)
      unfold clQ at q
      rw [hall, Bool.true_and] at q
      rw [List.map_map]
      exact q
def spFas (K : PySem.W.Frag) : Sp := fun vs H Q _ => ∃ (a : Addr) (xs : List V) (fs : List Rw) (n : Int), vs = [.ref a, .int n] ∧ SqT K H a xs ∧ RepX K H (fs.map (rowD true)) xs ∧ xs.length ≤ 400 ∧ (∀ p ∈ fs, p.1.length ≤ 1000 ∧ p.2.length ≤ 1000) ∧ ∀ H', Same H H' → Q (.bl (fsQ n fs)) H'
theorem RepD.intsT {K : PySem.W.Frag} {H : Hp} {l : List Int} {v : V} (h : RepD K H (.tup (l.map .int)) v) : ∃ a, v = .ref a ∧ SqT K H a (l.map V.int) := by
  obtain ⟨a, xs, rfl, hs, hx⟩ := RepD.toT h
  refine ⟨a, rfl, ?_⟩
  have : xs = l.map V.int := by
    apply List.ext_getElem?
    intro j
    rw [List.getElem?_map]
    have hl : l.length = xs.length := by have := hx.1; simpa using this
    by_cases c : j < l.length
    · have h1 := hx.2 j (.int l[j]) (xs[j]'(by omega)) (by simp [c]) (List.getElem?_eq_getElem (by omega))
      rw [List.getElem?_eq_getElem (by omega : j < xs.length), List.getElem?_eq_getElem c]
      have : ∀ {i : Int} {v : V}, RepD K H (.int i) v → v = .int i := fun h => by cases h; rfl
      rw [this h1]; rfl
    · rw [List.getElem?_eq_none (by omega), List.getElem?_eq_none (by omega)]; rfl
  rw [← this]; exact hs
theorem ok_fit_facts (T : Tx K mg D) : FnOk P w K mg base0 CX0 4 D.a_fit_facts D.d_fit_facts ["facts", "size"] (spFas K) := by
  have G_is_word := ok_word (P := P) (w := w) (base0 := base0) T
  have G_is_thing := ok_is_thing (P := P) (w := w) (base0 := base0) T
  have G_rises := ok_rises (P := P) (w := w) (base0 := base0) T
  refine T.F_fit_facts.ok sc_fit_facts (fun vs H Q E h => ?_) (fun cdv A outer s H vs Q E hr h => ?_)
  · obtain ⟨a, xs, cs, n, rfl, _⟩ := h; rfl
  obtain ⟨a, xs, fs, n, rfl, hA, hX, hx, hn, k⟩ := h
  have hu := hr.units
  have hr_is_word : Room 3 _ := hr.mono (by decide)
  have hr_is_thing : Room 1 _ := hr.mono (by decide)
  have hr_rises : Room 1 _ := hr.mono (by decide)
  have hlx : xs.length = fs.length := by have := hX.1; simpa using this.symm
  refine ⟨_, (pss_cons (ps_for PassesOwn.never (by rfl) (pi_any K (pv 0)) (pg_tup (by rfl) (pgs_cons (pg_name (i := 2) sc_fit_facts.nd (by rfl) (by walk_at "o")) (pgs_cons (pg_name (i := 3) sc_fit_facts.nd (by rfl) (by walk_at "o")) pgs_nil)))
      (pss_cons (ps_if (PW.pt (pw_or (pt_not (pt_val (pe_call G_is_word hr_is_word (by rfl) T.m_is_word T.F_is_word.kp T.b_is_word .nil pass0 (pa_cons (pv 2) pa_nil)))) (pw_or1 (pt_cmpR op_gt (pe_callB (callA_len K) (by rfl) T.z_len PySem.boot_len (pa_cons (pv 3) pa_nil)) (T.g_MOST_THINGS_OF_A_FACT (by rfl)) (nomark _))))) (pss_one (ps_ret pe_bl)) pss_nil)
    (pss_one (ps_if (pt_not (pt_val (pe_callB (callA_all K (by rfl)) (by rfl) T.z_all (by rfl) (pa_cons (pe_comp 1 [1] ["thing", "size"] ⟨by rfl, by rfl, by rfl, by rfl, by rfl, by rfl, by rfl⟩ (by rfl) (pi_any K (pv 3)) (fun _ _ _ _ => pg_name (i := 0) (show List.Nodup (["thing", "size"] : List Str) by decide +kernel) (by rfl) (Or.inl (by rfl)) (Or.inr (by rfl))) (gName_keep (by decide)) (fun _ _ _ _ => pif_nil) (fun _ _ _ _ => (pe_call G_is_thing hr_is_thing (by rfl) T.m_is_thing T.F_is_thing.kp T.b_is_thing .nil pass0 (pa_cons (pv 0) (pa_cons (pv 1) pa_nil))))) pa_nil)))) (pss_one (ps_ret pe_bl)) pss_nil))))
    (pss_one (ps_ret (pe_call G_rises hr_rises (by rfl) T.m_rises T.F_rises.kp T.b_rises .nil pass0 (pa_cons (pv 0) pa_nil))))), ?_⟩
  walk_at "S"
  walk_at ""
  refine .inr ⟨⟨_, hA⟩, forW_tup (xs := xs) (fun i σ H2 => Same H H2 ∧ (∃ u2 u3, σ = [some (.ref a), some (.int n), u2, u3]) ∧ (fs.take i).all (ftQ n) = true) ⟨Same.refl _, ⟨_, _, rfl⟩, rfl⟩ (fun i σ H2 _ hv => hv.1.seqT hA) (fun j x σ H2 hx' hv => ?_) fun σ H2 hv => ?_⟩
  · obtain ⟨s2, ⟨u2, u3, rfl⟩, hall⟩ := hv
    have hj : j < fs.length := by have := (List.getElem?_eq_some_iff.mp hx').1; omega
    have hd := (hX.2 j (rowD true fs[j]) x (by simp [hj]) hx').same s2
    obtain ⟨q, x1, x2, rfl, hq, e1, e2⟩ := RepD.two hd
    cases e1
    obtain ⟨b, rfl, hb⟩ := RepD.intsT e2
    walk_at ""
    refine ⟨_, hq, rfl, ?_⟩
    walk_at ""
    obtain ⟨hn1, hn2⟩ := hn _ (List.getElem_mem hj)
    refine ⟨_, rfl, hn1, fun H3 s3 => ?_⟩
    have stop : ∀ H4, Same H3 H4 → ftQ n fs[j] = false → Q (.bl false) H4 := fun H4 s4 e => by
      have q := k H4 ((s2.trans s3).trans s4)
      unfold fsQ at q
      rw [all_stop hj e, Bool.false_and] at q
      exact q
    refine ⟨nmQ fs[j].1, rfl, ?_⟩
    cases c1 : nmQ fs[j].1 with
    | false => rw [if_pos rfl]; exact stop _ (Same.refl _) (by unfold ftQ; rw [c1]; rfl)
    | true =>
      rw [if_neg (fun z => nomatch z)]
      (try walk_at "")
      refine ⟨_, .inr (s3.seqT hb), ?_⟩
      (try walk_at "")
      rw [List.length_map]
      by_cases c2 : (3 : Int) < fs[j].2.length
      · rw [if_pos c2]
        exact stop _ (Same.refl _) (by unfold ftQ; rw [decide_eq_false (show ¬ fs[j].2.length ≤ 3 by omega)]; simp)
      rw [if_neg c2]
      refine .inr ⟨⟨_, s3.seqT hb⟩, comp_tup (xs := fs[j].2.map V.int) (fun i acc H5 => H5 = H3 ∧ acc = ((fs[j].2.take i).map (thQ n)).map V.bl) ⟨rfl, rfl⟩ (fun i acc H5 _ hv => hv.1 ▸ s3.seqT hb) (fun i x acc H5 hx'' hv => ?_) fun acc H5 hv p hp => ?_⟩
      · obtain ⟨rfl, rfl⟩ := hv
        have hi : i < fs[j].2.length := by have := (List.getElem?_eq_some_iff.mp hx'').1; simpa using this
        have ex : x = .int fs[j].2[i] := by
          rw [List.getElem?_map, List.getElem?_eq_getElem hi] at hx''
          cases hx''; rfl
        subst ex
        refine ⟨sz1000' (by simp; omega), ?_⟩
        simp only [slotsC, List.replicate_succ, List.replicate_zero, List.map_cons, List.map_nil, List.nil_append, List.cons_append, List.getElem?_cons_zero, List.getElem?_cons_succ, Option.join_some]
        walk_at ""
        refine ⟨trivial, ?_⟩
        rw [List.take_succ_eq_append_getElem hi, List.map_append, List.map_append]; rfl
      · obtain ⟨rfl, rfl⟩ := hv
        (try walk_at "")
        rw [List.length_map, List.take_length]
        refine ⟨fs[j].2.map (thQ n), SqL.of upd_same, ?_⟩
        rw [show (fs[j].2.map (thQ n)).all id = fs[j].2.all (thQ n) by rw [List.all_map]; rfl]
        cases c3 : fs[j].2.all (thQ n) with
        | false => rw [if_pos rfl]; exact stop _ (same_new hp _) (by unfold ftQ; rw [c3]; simp)
        | true =>
          rw [if_neg (fun z => nomatch z)]
          exact ⟨(s2.trans s3).trans (same_new hp _), ⟨_, _, rfl⟩, all_step hj hall (by unfold ftQ; rw [c1, c3, decide_eq_true (show fs[j].2.length ≤ 3 by omega)]; rfl)⟩
  · obtain ⟨s2, ⟨u2, u3, rfl⟩, hall⟩ := hv
    rw [hlx, List.take_length] at hall
    walk_at ""
    refine ⟨a, xs, _, rfl, .inr (s2.seqT hA), (KeyRow.facts (hX.same s2)), by omega, fun H6 s6 => ?_⟩
    have q := k H6 (s2.trans s6)
    unfold fsQ at q
    rw [hall, Bool.true_and] at q
    exact q
structure Bnd (W : Wd) : Prop where
  c : W.cs.length ≤ 400
  f : W.fs.length ≤ 400
  nc : ∀ p ∈ W.cs, p.1.length ≤ 1000
  nf : ∀ p ∈ W.fs, p.1.length ≤ 1000 ∧ p.2.length ≤ 1000
def spFitW (K : PySem.W.Frag) : Sp := fun vs H Q _ => ∃ (r c f : Addr) (W : Wd) (xs ys : List V), vs = [.ref r] ∧ RepW K H W r c f xs ys ∧ Bnd W ∧ ∀ H', Same H H' → Q (.bl (fitQ W)) H'
theorem ok_fit_world (T : Tx K mg D) : FnOk P w K mg base0 CX0 5 D.a_fit_world D.d_fit_world ["world"] (spFitW K) := by
  have G_fit_called := ok_fit_called (P := P) (w := w) (base0 := base0) T
  have G_fit_facts := ok_fit_facts (P := P) (w := w) (base0 := base0) T
  refine T.F_fit_world.ok sc_fit_world (fun vs H Q E h => ?_) (fun cdv A outer s H vs Q E hr h => ?_)
  · obtain ⟨r, c, f, W, xs, ys, rfl, _⟩ := h; rfl
  obtain ⟨r, c, f, W, xs, ys, rfl, hW, hB, k⟩ := h
  have hu := hr.units
  have hr_fit_called : Room 3 _ := hr.mono (by decide)
  have hr_fit_facts : Room 4 _ := hr.mono (by decide)
  have lx : xs.length = W.cs.length := by have := hW.rc.1; simpa using this.symm
  have ly : ys.length = W.fs.length := by have := hW.rf.1; simpa using this.symm
  have b1 := hB.c
  have b2 := hB.f
  refine ⟨_, (pss_cons (ps_set (i := 1) sc_fit_world.nd (by rfl) (by walk_at "o") (pe_ix (ixA K) (pv 0) pe_int (fun _ _ => rfl)))
    (pss_one (ps_ret (pe_and (pe_cmpR op_ge (pv 1) pe_int (nomark _)) (pe_and (pe_call G_fit_called hr_fit_called (by rfl) T.m_fit_called T.F_fit_called.kp T.b_fit_called .nil pass0 (pa_cons (pe_ix (ixA K) (pv 0) pe_int (fun _ _ => rfl)) (pa_cons (pv 1) pa_nil))) (pe_one (pe_call G_fit_facts hr_fit_facts (by rfl) T.m_fit_facts T.F_fit_facts.kp T.b_fit_facts .nil pass0 (pa_cons (pe_ix (ixA K) (pv 0) pe_int (fun _ _ => rfl)) (pa_cons (pv 1) pa_nil))))))))), ?_⟩
  walk_at "S"
  walk_at ""
  refine ⟨_, .inr hW.top, _, atI_nat (j := 0) rfl, ?_⟩
  walk_at ""
  by_cases c0 : 1 ≤ W.size
  · rw [if_pos c0]
    refine ⟨_, .inr hW.top, _, atI_nat (j := 1) rfl, c, xs, W.cs, W.size, rfl, hW.called, hW.rc, by omega, hB.nc, fun H1 s1 => ?_⟩
    (try walk_at "")
    cases c1 : clQ W.size W.cs with
    | false =>
      rw [if_neg (fun z => nomatch z)]
      have q := k H1 s1
      unfold fitQ at q
      rw [c1, Bool.and_false, Bool.false_and] at q
      exact q
    | true =>
      rw [if_pos rfl]
      refine ⟨_, .inr (s1.seqT hW.top), _, atI_nat (j := 2) rfl, f, ys, W.fs, W.size, rfl, s1.seqT hW.facts, hW.rf.same s1, by omega, hB.nf, fun H2 s2 => ?_⟩
      have q := k H2 (s1.trans s2)
      unfold fitQ at q
      rw [c1, decide_eq_true c0, Bool.true_and, Bool.true_and] at q
      exact q
  · rw [if_neg c0]
    have q := k H (Same.refl _)
    unfold fitQ at q
    rw [decide_eq_false c0, Bool.false_and, Bool.false_and] at q
    exact q
end
section
variable {P : Program} {w : World} {K : PySem.W.Frag} {mg : Str → Option Value} {base0 : Heap} {D : Defs}
def rowS (r : List Str) : Str := Str.join " " r
def rowsW (W : Wd) : List (List Str) := ([[Str.ofString "things", tS W.size]] : List (List Str)) ++ W.cs.map (fun p => [p.1, Str.ofString "is", tS p.2]) ++ W.fs.map fun r => r.1 :: r.2.map tS
def txtL (rs : List (List Str)) : List Nat := rs.flatMap fun r => (rowS r).cps.toList ++ [10]
def wTxt (W : Wd) : Str := ⟨(txtL (rowsW W)).toArray⟩
theorem wTxt_cps (W : Wd) : (wTxt W).cps.toList = txtL (rowsW W) := by unfold wTxt; simp
theorem app_cps (a b : Str) : (a ++ b).cps.toList = a.cps.toList ++ b.cps.toList := by rw [Str.cps_append, Array.toList_append]
theorem rowS_cons (p : Str) {r : List Str} (h : r ≠ []) : (rowS (p :: r)).cps.toList = p.cps.toList ++ 32 :: (rowS r).cps.toList := join_cons 32 p h
theorem rowS_one (p : Str) : rowS [p] = p := rfl
theorem row_size (i : Int) : Str.ofString "things " ++ tS i = rowS [Str.ofString "things", tS i] := str_ext (by rw [app_cps, rowS_cons _ (by simp), rowS_one]; rfl)
theorem is_cps : (Str.ofString " is ").cps.toList = [32, 105, 115, 32] ∧ (Str.ofString "is").cps.toList = [105, 115] ∧ (Str.ofString " ").cps.toList = [32] ∧ (Str.ofString "\n").cps.toList = [10] := by decide +kernel
theorem row_name (x : Str) (i : Int) : x ++ Str.ofString " is " ++ tS i = rowS [x, Str.ofString "is", tS i] := str_ext (by
  rw [app_cps, app_cps, rowS_cons _ (by simp), rowS_cons _ (by simp), rowS_one, is_cps.1, is_cps.2.1]; simp)
theorem rowS_snoc : ∀ {l : List Str} (t : Str), l ≠ [] → rowS l ++ Str.ofString " " ++ t = rowS (l ++ [t])
  | [], _, h => absurd rfl h
  | [a], t, _ => str_ext (by
    rw [app_cps, app_cps]
    show a.cps.toList ++ _ ++ _ = (rowS (a :: [t])).cps.toList
    rw [rowS_cons a (by simp), rowS_one, is_cps.2.2.1]; simp)
  | a :: b :: l, t, _ => str_ext (by
    have ih := congrArg (fun z : Str => z.cps.toList) (rowS_snoc (l := b :: l) t (by simp))
    simp only [app_cps, is_cps.2.2.1] at ih
    rw [app_cps, app_cps, rowS_cons a (by simp), is_cps.2.2.1]
    show _ = (rowS (a :: (b :: l ++ [t]))).cps.toList
    rw [rowS_cons a (by simp), ← ih]; simp)
theorem rowS_len : ∀ (l : List Str) (b : Nat), (∀ t ∈ l, t.length ≤ b) → (rowS l).length ≤ l.length * (b + 1)
  | [], b, _ => by show 0 ≤ _; omega
  | [a], b, h => by have := h a (by simp); show a.length ≤ _; simp; omega
  | a :: c :: l, b, h => by
    have ih := rowS_len (c :: l) b fun t ht => h t (List.mem_cons_of_mem _ ht)
    have h1 := h a (by simp)
    rw [← len_cps, rowS_cons a (by simp), List.length_append, List.length_cons, len_cps, len_cps, List.length_cons, Nat.succ_mul]
    omega
theorem join_cps (sep : Str) (ts : List Str) : (Txt.join sep ts) = Str.join sep ts := by
  show Builtin.Str.glued sep _ = _
  rw [StrLaws.glued_eq_join]
theorem sum_le {ts : List Str} {b : Nat} (h : ∀ t ∈ ts, t.length ≤ b) : (ts.map fun t => t.length).sum ≤ ts.length * b := by
  induction ts with
  | nil => simp
  | cons t ts ih =>
    have h1 := h t (by simp)
    have h2 := ih fun u hu => h u (List.mem_cons_of_mem _ hu)
    rw [List.map_cons, List.sum_cons, List.length_cons, Nat.succ_mul]
    omega
def spTxt (K : PySem.W.Frag) : Sp := fun vs H Q _ => ∃ (r c f : Addr) (W : Wd) (xs ys : List V), vs = [.ref r] ∧ RepW K H W r c f xs ys ∧ W.Ok ∧ ∀ H', Same H H' → Q (.str (wTxt W)) H'
theorem tS_len {i : Int} (h0 : 0 ≤ i) (h1 : i < 41) : (tS i).length ≤ 2 := by
  obtain ⟨n, rfl⟩ : ∃ n : Nat, i = n := ⟨i.toNat, by omega⟩
  exact (num_tS n (by omega)).2
theorem toS_log {i : Int} (h0 : 0 ≤ i) (h1 : i < 41) : i.natAbs.log2 < 1920 := Nat.lt_of_le_of_lt (Nat.log2_le_self _) (by omega)
def nameR (p : Str × Int) : List Str := [p.1, Str.ofString "is", tS p.2]
def factR (r : Rw) : List Str := r.1 :: r.2.map tS
theorem nm_len {x : Str} (h : Nm smallS x) : x.length ≤ 8 := by
  obtain ⟨c, r, e, _, _, hl, _⟩ := h
  rw [← len_cps, e]; simp; omega
theorem rowsW_eq (W : Wd) : rowsW W = [[Str.ofString "things", tS W.size]] ++ W.cs.map nameR ++ W.fs.map factR := rfl
theorem rowsW_len {W : Wd} (h : W.Ok) : ∀ r ∈ rowsW W, (rowS r).length ≤ 36 := fun r hr => by
  have b : ∀ t ∈ r, t.length ≤ 8 ∧ r.length ≤ 4 := fun t ht => by
    rw [rowsW_eq] at hr
    rcases List.mem_append.mp hr with hr | hr
    · rcases List.mem_append.mp hr with hr | hr
      · rw [List.mem_singleton.mp hr] at ht ⊢
        have z := tS_len (i := W.size) (by have := h.s1; omega) (by have := h.s2; omega)
        rcases List.mem_cons.mp ht with rfl | ht
        · exact ⟨by decide, by simp⟩
        · rw [List.mem_singleton.mp ht]; exact ⟨by omega, by simp⟩
      · obtain ⟨p, hp, rfl⟩ := List.mem_map.mp hr
        obtain ⟨n1, n2, n3⟩ := h.nm p hp
        have z := tS_len (i := p.2) n2 (by have := h.s2; omega)
        simp only [nameR, List.mem_cons, List.not_mem_nil, or_false] at ht
        rcases ht with rfl | rfl | rfl
        · exact ⟨nm_len n1, by simp [nameR]⟩
        · exact ⟨by decide, by simp [nameR]⟩
        · exact ⟨by omega, by simp [nameR]⟩
    · obtain ⟨f, hf, rfl⟩ := List.mem_map.mp hr
      obtain ⟨n1, n2, n3⟩ := h.ft f hf
      have l4 : (factR f).length ≤ 4 := by simp [factR]; omega
      rcases List.mem_cons.mp ht with rfl | ht
      · exact ⟨nm_len n1, l4⟩
      · obtain ⟨i, hi, rfl⟩ := List.mem_map.mp ht
        have := n3 i hi
        exact ⟨Nat.le_trans (tS_len this.1 (by have := h.s2; omega)) (by decide), l4⟩
  by_cases e : r = []
  · subst e; show 0 ≤ 36; omega
  · obtain ⟨t, ht⟩ := List.exists_mem_of_ne_nil r e
    have h4 := (b t ht).2
    have := rowS_len r 8 fun t ht => (b t ht).1
    have : r.length * (8 + 1) ≤ 36 := by omega
    omega
theorem rowsW_many {W : Wd} (h : W.Ok) : (rowsW W).length ≤ 141 := by
  rw [rowsW_eq]; simp; have := h.lc; have := h.lf; omega
theorem join_two (a : Str) {l : List Str} (h : l ≠ []) : (Str.join "" (a :: l)).cps.toList = a.cps.toList ++ (Str.join "" l).cps.toList := by
  cases l with
  | nil => exact absurd rfl h
  | cons b l =>
    show (a ++ "" ++ Str.join "" (b :: l)).cps.toList = _
    rw [app_cps, app_cps]
    have : ("" : Str).cps.toList = [] := rfl
    rw [this, List.append_nil]
theorem join_nil : ∀ rs : List (List Str), (Str.join (Str.ofString "") (rs.map fun r => rowS r ++ Str.ofString "\n")).cps.toList = txtL rs
  | [] => rfl
  | [r] => by
    show (rowS r ++ Str.ofString "\n").cps.toList = _
    rw [app_cps, is_cps.2.2.2]; simp [txtL]
  | r :: q :: rs => by
    have ih := join_nil (q :: rs)
    have e := join_two (rowS r ++ Str.ofString "\n") (l := (q :: rs).map fun r => rowS r ++ Str.ofString "\n") (by simp)
    refine e.trans ?_
    rw [app_cps, is_cps.2.2.2]
    refine (congrArg _ ih).trans ?_
    simp [txtL]
theorem nl_eq : Str.ofString "\n" = (⟨#[10]⟩ : Str) := str_ext is_cps.2.2.2
theorem join_nl : ∀ rs : List (List Str), rs ≠ [] → (Str.join (Str.ofString "\n") (rs.map rowS) ++ Str.ofString "\n").cps.toList = txtL rs
  | [], h => absurd rfl h
  | [r], _ => by
    show (rowS r ++ Str.ofString "\n").cps.toList = _
    rw [app_cps, is_cps.2.2.2]; simp [txtL]
  | r :: q :: rs, _ => by
    have ih := join_nl (q :: rs) (by simp)
    have e : (Str.join (Str.ofString "\n") ((r :: q :: rs).map rowS)).cps.toList = (rowS r).cps.toList ++ 10 :: (Str.join (Str.ofString "\n") ((q :: rs).map rowS)).cps.toList := by
      rw [nl_eq]; exact join_cons 10 (rowS r) (by simp)
    rw [app_cps] at ih ⊢
    rw [e, List.append_assoc, List.cons_append, ih]
    simp [txtL]
end
section
variable {P : Program} {w : World} {K : PySem.W.Frag} {mg : Str → Option Value} {base0 : Heap} {D : Defs}
theorem ok_world_text (T : Tx K mg D) : FnOk P w K mg base0 CX0 1 D.a_world_text D.d_world_text ["world"] (spTxt K) := by
  refine T.F_world_text.ok sc_world_text (fun vs H Q E h => ?_) (fun cdv A outer s H vs Q E hr h => ?_)
  · obtain ⟨r, c, f, W, xs, ys, rfl, _⟩ := h; rfl
  obtain ⟨r, c, f, W, xs, ys, rfl, hW, hO, k⟩ := h
  have hu := hr.units
  refine ⟨_, (pss_cons (ps_set (i := 1) sc_world_text.nd (by rfl) (by walk_at "o") (pe_lst (pa_cons (pe_op (opB_add K) pe_str (pe_callTy call_str_int (by rfl) T.z_str (by rfl) (pa_cons (pe_ix (ixA K) (pv 0) pe_int (fun _ _ => rfl)) pa_nil))) pa_nil)))
    (pss_cons (ps_for PassesOwn.never (by rfl) (pi_any K (pe_ix (ixA K) (pv 0) pe_int (fun _ _ => rfl))) (pg_tup (by rfl) (pgs_cons (pg_name (i := 2) sc_world_text.nd (by rfl) (by walk_at "o")) (pgs_cons (pg_name (i := 3) sc_world_text.nd (by rfl) (by walk_at "o")) pgs_nil)))
      (pss_one (ps_expr (pe_bmA K PySem.F.plainAttrs_list PySem.F.slot_list_append PySem.F.type_list_append mtR_append (pv 1) (pa_cons (pe_op (opB_add K) (pe_op (opB_add K) (pv 2) pe_str) (pe_callTy call_str_int (by rfl) T.z_str (by rfl) (pa_cons (pv 3) pa_nil))) pa_nil)))))
    (pss_cons (ps_for PassesOwn.never (by rfl) (pi_any K (pe_ix (ixA K) (pv 0) pe_int (fun _ _ => rfl))) (pg_tup (by rfl) (pgs_cons (pg_name (i := 4) sc_world_text.nd (by rfl) (by walk_at "o")) (pgs_cons (pg_name (i := 5) sc_world_text.nd (by rfl) (by walk_at "o")) pgs_nil)))
      (pss_one (ps_expr (pe_bmA K PySem.F.plainAttrs_list PySem.F.slot_list_append PySem.F.type_list_append mtR_append (pv 1) (pa_cons (pe_bmA K PySem.F.plainAttrs_str PySem.F.slot_str_join PySem.F.type_str_join (mtB_join K) pe_str (pa_cons (pe_op (opB_add K) (pe_lst (pa_cons (pv 4) pa_nil)) (pe_comp 1 [] ["thing"] ⟨by rfl, by rfl, by rfl, by rfl, by rfl, by rfl, by rfl⟩ (by rfl) (pi_any K (pv 5)) (fun _ _ _ _ => pg_name (i := 0) (show List.Nodup (["thing"] : List Str) by decide +kernel) (by rfl) (Or.inl (by rfl)) (Or.inr (by rfl))) (gName_keep (by decide)) (fun _ _ _ _ => pif_nil) (fun _ _ _ _ => (pe_callTy call_str_int (by rfl) T.z_str (by rfl) (pa_cons (pv 0) pa_nil))))) pa_nil)) pa_nil)))))
    (pss_one (ps_ret (pe_bmA K PySem.F.plainAttrs_str PySem.F.slot_str_join PySem.F.type_str_join (mtB_join K) pe_str (pa_cons (pe_comp 1 [] ["row"] ⟨by rfl, by rfl, by rfl, by rfl, by rfl, by rfl, by rfl⟩ (by rfl) (pi_any K (pv 1)) (fun _ _ _ _ => pg_name (i := 0) (show List.Nodup (["row"] : List Str) by decide +kernel) (by rfl) (Or.inl (by rfl)) (Or.inr (by rfl))) (gName_keep (by decide)) (fun _ _ _ _ => pif_nil) (fun _ _ _ _ => (pe_op (opB_add K) (pv 0) pe_str))) pa_nil))))))), ?_⟩
  walk_at "S"
  walk_at ""
  have z1 := hO.s1
  have z2 := hO.s2
  have z3 := hO.lc
  have z4 := hO.lf
  have hz := tS_len (i := W.size) (by omega) (by omega)
  have lx : xs.length = W.cs.length := by have := hW.rc.1; simpa using this.symm
  have ly : ys.length = W.fs.length := by have := hW.rf.1; simpa using this.symm
  refine ⟨_, .inr hW.top, _, atI_nat (j := 0) rfl, _, rfl, toS_log (by omega) (by omega), sz1000 (by have : (Str.ofString "things ").length = 7 := rfl; have : (Str.ofString (toString W.size)).length ≤ 2 := hz; omega), sz1000 (show 1 ≤ 100000 by decide), fun p hp => ?_⟩
  have e0 : V.str (Str.ofString "things " ++ Str.ofString (toString W.size)) = V.str (rowS [Str.ofString "things", tS W.size]) := congrArg V.str (row_size W.size)
  rw [e0]
  have s0 := same_new hp (.lst [V.str (rowS [Str.ofString "things", tS W.size])])
  refine ⟨_, .inr (s0.seqT hW.top), _, atI_nat (j := 1) rfl, ?_⟩
  walk_at ""
  refine .inr ⟨⟨_, s0.seqT hW.called⟩, forW_tup (xs := xs) (fun i σ H2 => Same H H2 ∧ (∃ u2 u3, σ = [some (.ref r), some (.ref p), u2, u3, none, none]) ∧ H2 p = some (.lst ((([[Str.ofString "things", tS W.size]] ++ (W.cs.take i).map nameR).map rowS).map V.str))) ⟨s0, ⟨_, _, rfl⟩, upd_same⟩ (fun i σ H2 _ hv => hv.1.seqT hW.called) (fun j x σ H2 hx' hv => ?_) fun σ H2 hv => ?_⟩
  · obtain ⟨s2, ⟨u2, u3, rfl⟩, hp2⟩ := hv
    have hj : j < W.cs.length := by have := (List.getElem?_eq_some_iff.mp hx').1; omega
    have hd := (hW.rc.2 j (rowD false (prR W.cs[j])) x (by simp [hj]) hx').same s2
    obtain ⟨q, x1, x2, rfl, hq, e1, e2⟩ := RepD.two hd
    cases e1
    cases e2
    obtain ⟨n1, n2, n3⟩ := hO.nm _ (List.getElem_mem hj)
    have l1 := nm_len n1
    have l2 := tS_len (i := W.cs[j].2) n2 (by omega)
    walk_at ""
    refine ⟨_, hq, rfl, ?_⟩
    walk_at ""
    have q1 : (prR W.cs[j]).1.length ≤ 8 := l1
    have q2 : (Str.ofString (toString ((prR W.cs[j]).2.headD 0))).length ≤ 2 := l2
    have q3 : (Str.ofString " is ").length = 4 := rfl
    refine ⟨⟨_, SqL.of hp2⟩, sz1000 (by omega), toS_log (show 0 ≤ W.cs[j].2 from n2) (show W.cs[j].2 < 41 by omega), sz1000 (by rw [Str.length_append]; omega), _, hp2, sz1000' (by simp; omega), s2.upd hp, ⟨_, _, rfl⟩, ?_⟩
    have e1 : (prR W.cs[j]).1 ++ Str.ofString " is " ++ Str.ofString (toString ((prR W.cs[j]).2.headD 0)) = rowS (nameR W.cs[j]) := row_name W.cs[j].1 W.cs[j].2
    rw [upd_same, List.take_succ_eq_append_getElem hj, e1]
    simp only [List.map_append, List.map_cons, List.map_nil, List.append_assoc]
    rfl
  obtain ⟨s2, ⟨u2, u3, rfl⟩, hp2⟩ := hv
  rw [lx, List.take_length] at hp2
  walk_at ""
  refine ⟨_, .inr (s2.seqT hW.top), _, atI_nat (j := 2) rfl, ?_⟩
  walk_at ""
  refine .inr ⟨⟨_, s2.seqT hW.facts⟩, forW_tup (xs := ys) (fun i σ H3 => Same H H3 ∧ (∃ u4 u5, σ = [some (.ref r), some (.ref p), u2, u3, u4, u5]) ∧ H3 p = some (.lst ((([[Str.ofString "things", tS W.size]] ++ W.cs.map nameR ++ (W.fs.take i).map factR).map rowS).map V.str))) ⟨s2, ⟨_, _, rfl⟩, by simpa using hp2⟩ (fun i σ H3 _ hv => hv.1.seqT hW.facts) (fun j x σ H3 hx' hv => ?_) fun σ H3 hv => ?_⟩
  · obtain ⟨s3, ⟨u4, u5, rfl⟩, hp3⟩ := hv
    have hj : j < W.fs.length := by have := (List.getElem?_eq_some_iff.mp hx').1; omega
    have hd := (hW.rf.2 j (rowD true W.fs[j]) x (by simp [hj]) hx').same s3
    obtain ⟨q, x1, x2, rfl, hq, e1, e2⟩ := RepD.two hd
    cases e1
    obtain ⟨b, rfl, hb⟩ := RepD.intsT e2
    obtain ⟨n1, n2, n3⟩ := hO.ft _ (List.getElem_mem hj)
    have l1 := nm_len n1
    walk_at ""
    refine ⟨_, hq, rfl, ?_⟩
    walk_at ""
    refine ⟨⟨_, SqL.of hp3⟩, trivial, sz1000 (show 1 ≤ 100000 by decide), fun q1 hq1 => .inr ⟨⟨_, (same_new hq1 _).seqT hb⟩, ?_⟩⟩
    have sA := same_new hq1 (.lst [V.str W.fs[j].1])
    have hq1' : upd H3 q1 (.lst [V.str W.fs[j].1]) q1 = some (.lst [V.str W.fs[j].1]) := upd_same
    generalize upd H3 q1 (.lst [V.str W.fs[j].1]) = H4 at sA hq1'
    refine comp_tup (xs := W.fs[j].2.map V.int) (fun i acc H5 => H5 = H4 ∧ acc = ((W.fs[j].2.take i).map tS).map V.str) ⟨rfl, rfl⟩ (fun i acc H5 _ hv => hv.1 ▸ sA.seqT hb) (fun i x acc H5 hx hv => ?_) fun acc H5 hv q2 hq2 => ?_
    · obtain ⟨rfl, rfl⟩ := hv
      have hi : i < W.fs[j].2.length := by have := (List.getElem?_eq_some_iff.mp hx).1; simpa using this
      have ev : x = V.int W.fs[j].2[i] := by
        rw [List.getElem?_map, List.getElem?_eq_getElem hi] at hx
        cases hx; rfl
      subst ev
      obtain ⟨y1, y2⟩ := n3 _ (List.getElem_mem hi)
      refine ⟨sz1000' (by simp; omega), ?_⟩
      simp only [slotsC, List.replicate_succ, List.replicate_zero, List.map_cons, List.map_nil, List.nil_append, List.cons_append, List.getElem?_cons_zero, List.getElem?_cons_succ, Option.join_some]
      walk_at ""
      refine ⟨toS_log y1 (by omega), trivial, ?_⟩
      rw [List.take_succ_eq_append_getElem hi, List.map_append, List.map_append]; rfl
    · obtain ⟨rfl, rfl⟩ := hv
      rw [List.length_map, List.take_length]
      have sB := same_new hq2 (.lst ((W.fs[j].2.map tS).map V.str))
      walk_at ""
      refine ⟨_, _, .inl ⟨sB _ _ hq1', upd_same, sz1000 (by simp; omega), fun q3 hq3 => ⟨factR W.fs[j], .inl (SqL.of upd_same), ?_, _, (same_new hq3 _) _ _ (sB _ _ (sA _ _ hp3)), sz1000' (by simp; omega), ?_, ⟨_, _, rfl⟩, ?_⟩⟩⟩
      · have h8 : ∀ t ∈ factR W.fs[j], t.length ≤ 8 := fun t ht => by
          rcases List.mem_cons.mp ht with rfl | ht
          · exact l1
          · obtain ⟨i, hi, rfl⟩ := List.mem_map.mp ht
            have := n3 i hi
            exact Nat.le_trans (tS_len this.1 (by omega)) (by decide)
        have z8 := sum_le h8
        have l4 : (factR W.fs[j]).length ≤ 4 := by simp [factR]; omega
        have l5 : (Str.ofString " ").length = 1 := rfl
        rw [l5]
        have := Nat.mul_le_mul_right 8 l4
        omega
      · exact (((s3.trans sA).trans sB).trans (same_new hq3 _)).upd hp
      · rw [upd_same, join_cps, List.take_succ_eq_append_getElem hj]
        simp only [List.map_append, List.map_cons, List.map_nil, List.append_assoc]
        rfl
  obtain ⟨s3, ⟨u4, u5, rfl⟩, hp3⟩ := hv
  rw [ly, List.take_length] at hp3
  walk_at ""
  have ek : ([[Str.ofString "things", tS W.size]] ++ W.cs.map nameR ++ W.fs.map factR).map rowS = (rowsW W).map rowS := rfl
  rw [ek] at hp3
  have hmany := rowsW_many hO
  have hlong := rowsW_len hO
  refine ⟨trivial, .inl ⟨⟨_, SqL.of hp3⟩, comp_list (xs := ((rowsW W).map rowS).map V.str) (fun i acc H5 => H5 = H3 ∧ acc = (((rowsW W).take i).map fun r => rowS r ++ Str.ofString "\n").map V.str) ⟨rfl, rfl⟩ (fun i acc H5 _ hv => hv.1 ▸ SqL.of hp3) (fun i x acc H5 hx hv => ?_) fun acc H5 hv q2 hq2 => ?_⟩⟩
  · obtain ⟨rfl, rfl⟩ := hv
    have hi : i < (rowsW W).length := by have := (List.getElem?_eq_some_iff.mp hx).1; simpa using this
    have ev : x = V.str (rowS (rowsW W)[i]) := by
      rw [List.getElem?_map, List.getElem?_map, List.getElem?_eq_getElem hi] at hx
      cases hx; rfl
    subst ev
    have hl := hlong _ (List.getElem_mem hi)
    refine ⟨sz1000' (by simp; omega), ?_⟩
    simp only [slotsC, List.replicate_succ, List.replicate_zero, List.map_cons, List.map_nil, List.nil_append, List.cons_append, List.getElem?_cons_zero, List.getElem?_cons_succ, Option.join_some]
    walk_at ""
    refine ⟨sz1000 (by have : (Str.ofString "\n").length = 1 := rfl; omega), trivial, ?_⟩
    rw [List.take_succ_eq_append_getElem hi, List.map_append, List.map_append]; rfl
  · obtain ⟨rfl, rfl⟩ := hv
    rw [List.length_map, List.length_map, List.take_length]
    walk_at ""
    refine ⟨(rowsW W).map fun r => rowS r ++ Str.ofString "\n", .inl (SqL.of upd_same), ?_, ?_⟩
    · have h8 : ∀ t ∈ (rowsW W).map (fun r => rowS r ++ Str.ofString "\n"), t.length ≤ 37 := fun t ht => by
        obtain ⟨r, hr, rfl⟩ := List.mem_map.mp ht
        have := hlong r hr
        rw [Str.length_append]
        have : (Str.ofString "\n").length = 1 := rfl
        omega
      have z8 := sum_le h8
      rw [List.length_map] at z8
      have l5 : (Str.ofString "").length = 0 := rfl
      rw [l5]
      have := Nat.mul_le_mul_right 37 hmany
      omega
    · rw [show Txt.join (Str.ofString "") ((rowsW W).map fun r => rowS r ++ Str.ofString "\n") = wTxt W from ?_]
      · exact k _ (s3.trans (same_new hq2 _))
      · rw [join_cps]
        refine str_ext ?_
        rw [wTxt_cps]
        exact join_nil _
end
section
variable {P : Program} {w : World} {K : PySem.W.Frag} {mg : Str → Option Value} {base0 : Heap} {D : Defs}
theorem ok_text_of_L (T : Tx K mg D) : FnOk P w K mg base0 CX0 1 D.a_text_of_L D.d_text_of_L ["_law_world"] (spTxt K) := by
  refine T.F_text_of_L.ok sc_text_of_L (fun vs H Q E h => ?_) (fun cdv A outer s H vs Q E hr h => ?_)
  · obtain ⟨r, c, f, W, xs, ys, rfl, _⟩ := h; rfl
  obtain ⟨r, c, f, W, xs, ys, rfl, hW, hO, k⟩ := h
  have hu := hr.units
  refine ⟨_, (pss_cons (ps_set (i := 1) sc_text_of_L.nd (by rfl) (by walk_at "o") (pe_lst (pa_cons (pe_op (opB_add K) pe_str (pe_callTy call_str_int (by rfl) T.z_str (by rfl) (pa_cons (pe_ix (ixA K) (pv 0) pe_int (fun _ _ => rfl)) pa_nil))) pa_nil)))
    (pss_cons (ps_for PassesOwn.never (by rfl) (pi_any K (pe_ix (ixA K) (pv 0) pe_int (fun _ _ => rfl))) (pg_name (i := 2) sc_text_of_L.nd (by rfl) (by walk_at "o"))
      (pss_one (ps_expr (pe_bmA K PySem.F.plainAttrs_list PySem.F.slot_list_append PySem.F.type_list_append mtR_append (pv 1) (pa_cons (pe_op (opB_add K) (pe_op (opB_add K) (pe_ix (ixA K) (pv 2) pe_int (fun _ _ => rfl)) pe_str) (pe_callTy call_str_int (by rfl) T.z_str (by rfl) (pa_cons (pe_ix (ixA K) (pv 2) pe_int (fun _ _ => rfl)) pa_nil))) pa_nil)))))
    (pss_cons (ps_for PassesOwn.never (by rfl) (pi_any K (pe_ix (ixA K) (pv 0) pe_int (fun _ _ => rfl))) (pg_name (i := 3) sc_text_of_L.nd (by rfl) (by walk_at "o"))
      (pss_cons (ps_set (i := 4) sc_text_of_L.nd (by rfl) (by walk_at "o") (pe_ix (ixA K) (pv 3) pe_int (fun _ _ => rfl)))
    (pss_cons (ps_for PassesOwn.never (by rfl) (pi_any K (pe_ix (ixA K) (pv 3) pe_int (fun _ _ => rfl))) (pg_name (i := 5) sc_text_of_L.nd (by rfl) (by walk_at "o"))
      (pss_one (ps_set (i := 4) sc_text_of_L.nd (by rfl) (by walk_at "o") (pe_op (opB_add K) (pe_op (opB_add K) (pv 4) pe_str) (pe_callTy call_str_int (by rfl) T.z_str (by rfl) (pa_cons (pv 5) pa_nil))))))
    (pss_one (ps_expr (pe_bmA K PySem.F.plainAttrs_list PySem.F.slot_list_append PySem.F.type_list_append mtR_append (pv 1) (pa_cons (pv 4) pa_nil)))))))
    (pss_one (ps_ret (pe_op (opB_add K) (pe_bmA K PySem.F.plainAttrs_str PySem.F.slot_str_join PySem.F.type_str_join (mtB_join K) pe_str (pa_cons (pv 1) pa_nil)) pe_str)))))), ?_⟩
  walk_at "S"
  walk_at ""
  have z1 := hO.s1
  have z2 := hO.s2
  have z3 := hO.lc
  have z4 := hO.lf
  have hz := tS_len (i := W.size) (by omega) (by omega)
  have lx : xs.length = W.cs.length := by have := hW.rc.1; simpa using this.symm
  have ly : ys.length = W.fs.length := by have := hW.rf.1; simpa using this.symm
  refine ⟨_, .inr hW.top, _, atI_nat (j := 0) rfl, _, rfl, toS_log (by omega) (by omega), sz1000 (by have : (Str.ofString "things ").length = 7 := rfl; have : (Str.ofString (toString W.size)).length ≤ 2 := hz; omega), sz1000 (show 1 ≤ 100000 by decide), fun p hp => ?_⟩
  have e0 : V.str (Str.ofString "things " ++ Str.ofString (toString W.size)) = V.str (rowS [Str.ofString "things", tS W.size]) := congrArg V.str (row_size W.size)
  rw [e0]
  have s0 := same_new hp (.lst [V.str (rowS [Str.ofString "things", tS W.size])])
  refine ⟨_, .inr (s0.seqT hW.top), _, atI_nat (j := 1) rfl, ?_⟩
  walk_at ""
  refine .inr ⟨⟨_, s0.seqT hW.called⟩, forW_tup (xs := xs) (fun i σ H2 => Same H H2 ∧ (∃ u2, σ = [some (.ref r), some (.ref p), u2, none, none, none]) ∧ H2 p = some (.lst ((([[Str.ofString "things", tS W.size]] ++ (W.cs.take i).map nameR).map rowS).map V.str))) ⟨s0, ⟨_, rfl⟩, upd_same⟩ (fun i σ H2 _ hv => hv.1.seqT hW.called) (fun j x σ H2 hx' hv => ?_) fun σ H2 hv => ?_⟩
  · obtain ⟨s2, ⟨u2, rfl⟩, hp2⟩ := hv
    have hj : j < W.cs.length := by have := (List.getElem?_eq_some_iff.mp hx').1; omega
    have hd := (hW.rc.2 j (rowD false (prR W.cs[j])) x (by simp [hj]) hx').same s2
    obtain ⟨q, x1, x2, rfl, hq, e1, e2⟩ := RepD.two hd
    cases e1
    cases e2
    obtain ⟨n1, n2, n3⟩ := hO.nm _ (List.getElem_mem hj)
    have l1 := nm_len n1
    have l2 := tS_len (i := W.cs[j].2) n2 (by omega)
    walk_at ""
    have q1 : (prR W.cs[j]).1.length ≤ 8 := l1
    have q2 : (Str.ofString (toString ((prR W.cs[j]).2.headD 0))).length ≤ 2 := l2
    have q3 : (Str.ofString " is ").length = 4 := rfl
    refine ⟨⟨_, SqL.of hp2⟩, _, .inr hq, _, atI_nat (j := 0) rfl, ?_⟩
    walk_at ""
    refine ⟨sz1000 (by omega), _, .inr hq, _, atI_nat (j := 1) rfl, _, rfl, toS_log (show 0 ≤ W.cs[j].2 from n2) (show W.cs[j].2 < 41 by omega), ?_⟩
    refine ⟨sz1000 (by rw [Str.length_append]; omega), _, hp2, sz1000' (by simp; omega), s2.upd hp, ⟨_, rfl⟩, ?_⟩
    have e1 : (prR W.cs[j]).1 ++ Str.ofString " is " ++ Str.ofString (toString ((prR W.cs[j]).2.headD 0)) = rowS (nameR W.cs[j]) := row_name W.cs[j].1 W.cs[j].2
    rw [upd_same, List.take_succ_eq_append_getElem hj, e1]
    simp only [List.map_append, List.map_cons, List.map_nil, List.append_assoc]
    rfl
  obtain ⟨s2, ⟨u2, rfl⟩, hp2⟩ := hv
  rw [lx, List.take_length] at hp2
  walk_at ""
  refine ⟨_, .inr (s2.seqT hW.top), _, atI_nat (j := 2) rfl, ?_⟩
  walk_at ""
  refine .inr ⟨⟨_, s2.seqT hW.facts⟩, forW_tup (xs := ys) (fun i σ H3 => Same H H3 ∧ (∃ u3 u4 u5, σ = [some (.ref r), some (.ref p), u2, u3, u4, u5]) ∧ H3 p = some (.lst ((([[Str.ofString "things", tS W.size]] ++ W.cs.map nameR ++ (W.fs.take i).map factR).map rowS).map V.str))) ⟨s2, ⟨_, _, _, rfl⟩, by simpa using hp2⟩ (fun i σ H3 _ hv => hv.1.seqT hW.facts) (fun j x σ H3 hx' hv => ?_) fun σ H3 hv => ?_⟩
  · obtain ⟨s3, ⟨u3, u4, u5, rfl⟩, hp3⟩ := hv
    have hj : j < W.fs.length := by have := (List.getElem?_eq_some_iff.mp hx').1; omega
    have hd := (hW.rf.2 j (rowD true W.fs[j]) x (by simp [hj]) hx').same s3
    obtain ⟨q, x1, x2, rfl, hq, e1, e2⟩ := RepD.two hd
    cases e1
    obtain ⟨b, rfl, hb⟩ := RepD.intsT e2
    obtain ⟨n1, n2, n3⟩ := hO.ft _ (List.getElem_mem hj)
    have l1 := nm_len n1
    walk_at ""
    refine ⟨_, .inr hq, _, atI_nat (j := 0) rfl, ?_⟩
    refine ⟨_, .inr hq, _, atI_nat (j := 1) rfl, ?_⟩
    walk_at ""
    refine .inr ⟨⟨_, hb⟩, forW_tup (xs := W.fs[j].2.map V.int) (fun i σ H5 => H5 = H3 ∧ ∃ u5, σ = [some (.ref r), some (.ref p), u2, some (.ref q), some (.str (rowS (W.fs[j].1 :: (W.fs[j].2.take i).map tS))), u5]) ⟨rfl, _, rfl⟩ (fun i σ H5 _ hv => hv.1 ▸ hb) (fun i x σ H5 hx hv => ?_) fun σ H5 hv => ?_⟩
    · obtain ⟨rfl, u5, rfl⟩ := hv
      have hi : i < W.fs[j].2.length := by have := (List.getElem?_eq_some_iff.mp hx).1; simpa using this
      have ev : x = V.int W.fs[j].2[i] := by
        rw [List.getElem?_map, List.getElem?_eq_getElem hi] at hx
        cases hx; rfl
      subst ev
      obtain ⟨y1, y2⟩ := n3 _ (List.getElem_mem hi)
      have hrl : (rowS (W.fs[j].1 :: (W.fs[j].2.take i).map tS)).length ≤ 36 := by
        have h1 := rowS_len (W.fs[j].1 :: (W.fs[j].2.take i).map tS) 8 fun t ht => by
          rcases List.mem_cons.mp ht with rfl | ht
          · exact l1
          · obtain ⟨i, hi, rfl⟩ := List.mem_map.mp ht
            have := n3 i (List.mem_of_mem_take hi)
            exact Nat.le_trans (tS_len this.1 (by omega)) (by decide)
        have h2 : (W.fs[j].1 :: (W.fs[j].2.take i).map tS).length ≤ 4 := by simp; omega
        have := Nat.mul_le_mul_right 9 h2
        omega
      have hsp : (Str.ofString " ").length = 1 := rfl
      have l2 : (Str.ofString (toString W.fs[j].2[i])).length ≤ 2 := tS_len (i := W.fs[j].2[i]) y1 (by omega)
      walk_at ""
      refine ⟨sz1000 (by omega), toS_log y1 (by omega), sz1000 (by rw [Str.length_append]; omega), trivial, some (V.int W.fs[j].2[i]), ?_⟩
      have e := rowS_snoc (l := W.fs[j].1 :: (W.fs[j].2.take i).map tS) (tS W.fs[j].2[i]) (by simp)
      rw [List.take_succ_eq_append_getElem hi, List.map_append]
      exact congrArg (fun z => [some (V.ref r), some (V.ref p), u2, some (V.ref q), some (V.str z), some (V.int W.fs[j].2[i])]) e
    · obtain ⟨rfl, u5, rfl⟩ := hv
      rw [List.length_map, List.take_length]
      walk_at ""
      refine ⟨⟨_, SqL.of hp3⟩, _, hp3, sz1000' (by simp; omega), s3.upd hp, ⟨_, _, _, rfl⟩, ?_⟩
      rw [upd_same, List.take_succ_eq_append_getElem hj]
      simp only [List.map_append, List.map_cons, List.map_nil, List.append_assoc]
      rfl
  obtain ⟨s3, ⟨u3, u4, u5, rfl⟩, hp3⟩ := hv
  rw [ly, List.take_length] at hp3
  have ek : ([[Str.ofString "things", tS W.size]] ++ W.cs.map nameR ++ W.fs.map factR).map rowS = (rowsW W).map rowS := rfl
  rw [ek] at hp3
  have hmany := rowsW_many hO
  have hlong := rowsW_len hO
  walk_at ""
  have h8 : ∀ t ∈ (rowsW W).map rowS, t.length ≤ 37 := fun t ht => by
    obtain ⟨r, hr, rfl⟩ := List.mem_map.mp ht
    have := hlong r hr
    omega
  have z8 := sum_le h8
  rw [List.length_map] at z8
  have l5 : (Str.ofString "\n").length = 1 := rfl
  have zz := Nat.mul_le_mul_right 37 hmany
  have hj := join_len (Str.ofString "\n") ((rowsW W).map rowS)
  rw [List.length_map, l5] at hj
  refine ⟨trivial, (rowsW W).map rowS, .inl (SqL.of hp3), by rw [l5, List.length_map]; omega, sz1000 (by omega), ?_⟩
  rw [show Txt.join (Str.ofString "\n") ((rowsW W).map rowS) ++ Str.ofString "\n" = wTxt W from str_ext (by rw [join_cps, wTxt_cps]; exact join_nl _ (by rw [rowsW_eq]; simp))]
  exact k _ s3
end
section
variable {P : Program} {w : World} {K : PySem.W.Frag} {mg : Str → Option Value} {base0 : Heap} {D : Defs}
theorem nm_base {f x : Str} (h : Nm f x) : base x f = true := by
  obtain ⟨c, r, e, hc, hr, hl, _⟩ := h
  have h0 : ¬ x = "" := by rintro rfl; cases e
  have hlen : x.length = r.length + 1 := by rw [← len_cps, e]; rfl
  unfold base
  rw [if_neg h0, if_neg (by omega)]
  have hh : inS ⟨#[x.cps.toList.headD 0]⟩ f = true := by rw [inS_one, e]; simpa using hc
  rw [if_pos hh]
  unfold tailOk
  have es : (Txt.slice x (some 1) none).cps.toList = r := by
    have := slice_from x 1
    rw [e] at this
    simpa using this
  rw [es, List.all_eq_true]
  intro d hd
  rw [inS_one]
  exact decide_eq_true (hr d hd)
theorem nm_kept {f x : Str} (h : Nm f x) : inV (.str x) keptV = false := by
  obtain ⟨c, r, e, hc, hr, hl, hk⟩ := h
  cases q : inV (.str x) keptV with
  | false => rfl
  | true =>
    exfalso
    apply hk
    simp only [inV, keptV, List.any_cons, List.any_nil, eqV, Bool.or_false, Bool.or_eq_true, beq_iff_eq] at q
    simp only [keptW, List.mem_cons, List.mem_nil_iff, or_false]
    rcases q with q | q | q | q | q | q | q <;> simp [q]
theorem nm_q {x : Str} (h : Nm smallS x) : nmQ x = true := by
  unfold nmQ
  rw [show base x "abcdefghijklmnopqrstuvwxyz" = true from nm_base h, nm_kept h]; rfl
theorem risQ_true {ks : List (List Nat × List Int)} (h : ∀ j, j + 1 < ks.length → rowLt (ks.getD j ([], [])) (ks.getD (j + 1) ([], []))) : risQ ks = true := by
  unfold risQ
  rw [List.all_eq_true]
  intro j hj
  exact decide_eq_true (h j (by have := List.mem_range.mp hj; omega))
theorem risQ_pw {ks : List (List Nat × List Int)} (h : ks.Pairwise rowLt) : risQ ks = true := risQ_true fun j hj => by
  have h1 := List.pairwise_iff_getElem.mp h j (j + 1) (by omega) hj (by omega)
  simpa [List.getD, List.getElem?_eq_getElem (show j < ks.length by omega), List.getElem?_eq_getElem hj] using h1
theorem fit_ok {W : Wd} (h : W.Ok) : fitQ W = true := by
  have a1 : W.cs.all (prQ W.size) = true := List.all_eq_true.mpr fun p hp => by
    obtain ⟨n1, n2, n3⟩ := h.nm p hp
    unfold prQ thQ
    rw [nm_q n1, decide_eq_true ⟨n2, n3⟩]; rfl
  have a2 : W.fs.all (ftQ W.size) = true := List.all_eq_true.mpr fun f hf => by
    obtain ⟨n1, n2, n3⟩ := h.ft f hf
    have : f.2.all (thQ W.size) = true := List.all_eq_true.mpr fun i hi => decide_eq_true (n3 i hi)
    unfold ftQ
    rw [nm_q n1, decide_eq_true n2, this]; rfl
  have a3 : risQ (W.cs.map fun p => (p.1.cps.toList, [])) = true := risQ_pw (List.pairwise_map.mpr (h.rc.imp fun {a b} z => .inl z))
  have a4 : risQ (W.fs.map rowK) = true := risQ_pw (List.pairwise_map.mpr h.rf)
  unfold fitQ clQ fsQ
  rw [a1, a2, a3, a4, decide_eq_true h.s1]; rfl
def Run (t : Str) : Prop := t ≠ "" ∧ 32 ∉ t.cps.toList ∧ 10 ∉ t.cps.toList
theorem small_free : (∀ c ∈ smallS.cps.toList, c ≠ 32 ∧ c ≠ 10) ∧ ∀ c ∈ sofS.cps.toList, c ≠ 32 ∧ c ≠ 10 := by decide +kernel
theorem nm_Run {x : Str} (h : Nm smallS x) : Run x := by
  obtain ⟨c, r, e, hc, hr, _, _⟩ := h
  have key : ∀ d ∈ x.cps.toList, d ≠ 32 ∧ d ≠ 10 := fun d hd => by
    rw [e] at hd
    rcases List.mem_cons.mp hd with rfl | hd
    · exact small_free.1 _ hc
    · exact small_free.2 _ (hr d hd)
  exact ⟨(by rintro rfl; cases e), fun z => (key _ z).1 rfl, fun z => (key _ z).2 rfl⟩
theorem tS_Run0 : ∀ i : Nat, i < 41 → tS i ≠ "" ∧ 32 ∉ (tS i).cps.toList ∧ 10 ∉ (tS i).cps.toList ∧ tS i ≠ "is" := by decide +kernel
theorem tS_Run {i : Int} (h0 : 0 ≤ i) (h1 : i < 41) : Run (tS i) ∧ tS i ≠ "is" := by
  obtain ⟨n, rfl⟩ : ∃ n : Nat, i = n := ⟨i.toNat, by omega⟩
  obtain ⟨a, b, c, d⟩ := tS_Run0 n (by omega)
  exact ⟨⟨a, b, c⟩, d⟩
theorem is_Run : Run (Str.ofString "is") ∧ Run (Str.ofString "things") := by unfold Run; decide +kernel
theorem rowsW_Run {W : Wd} (h : W.Ok) : ∀ r ∈ rowsW W, r ≠ [] ∧ ∀ t ∈ r, Run t := fun r hr => by
  rw [rowsW_eq] at hr
  rcases List.mem_append.mp hr with hr | hr
  · rcases List.mem_append.mp hr with hr | hr
    · rw [List.mem_singleton.mp hr]
      refine ⟨by simp, fun t ht => ?_⟩
      rcases List.mem_cons.mp ht with rfl | ht
      · exact is_Run.2
      · rw [List.mem_singleton.mp ht]; exact (tS_Run (by have := h.s1; omega) (by have := h.s2; omega)).1
    · obtain ⟨p, hp, rfl⟩ := List.mem_map.mp hr
      obtain ⟨n1, n2, n3⟩ := h.nm p hp
      refine ⟨by simp [nameR], fun t ht => ?_⟩
      simp only [nameR, List.mem_cons, List.not_mem_nil, or_false] at ht
      rcases ht with rfl | rfl | rfl
      · exact nm_Run n1
      · exact is_Run.1
      · exact (tS_Run n2 (by have := h.s2; omega)).1
  · obtain ⟨f, hf, rfl⟩ := List.mem_map.mp hr
    obtain ⟨n1, n2, n3⟩ := h.ft f hf
    refine ⟨by simp [factR], fun t ht => ?_⟩
    rcases List.mem_cons.mp ht with rfl | ht
    · exact nm_Run n1
    · obtain ⟨i, hi, rfl⟩ := List.mem_map.mp ht
      have := n3 i hi
      exact (tS_Run this.1 (by have := h.s2; omega)).1
theorem rowS_10 : ∀ {r : List Str}, (∀ t ∈ r, Run t) → 10 ∉ (rowS r).cps.toList
  | [], _ => by show 10 ∉ ([] : List Nat); simp
  | [a], h => (h a (by simp)).2.2
  | a :: b :: r, h => by
    have ih := rowS_10 (r := b :: r) fun t ht => h t (List.mem_cons_of_mem _ ht)
    rw [rowS_cons a (by simp)]
    intro z
    rcases List.mem_append.mp z with z | z
    · exact (h a (by simp)).2.2 z
    · rcases List.mem_cons.mp z with z | z
      · exact absurd z (by decide)
      · exact ih z
theorem rowS_wd {r : List Str} (h : ∀ t ∈ r, Run t) (hn : r ≠ []) : wd [] (rowS r).cps.toList = r.map fun t => t.cps.toList := by
  have e : wd [] (rowS r).cps.toList = _ := wd_join hn fun t ht => (h t ht).2.1
  rw [e, List.filter_eq_self.mpr fun t ht => by simpa using (h t ht).1]
theorem rows_txtL : ∀ {rs : List (List Str)}, (∀ r ∈ rs, r ≠ [] ∧ ∀ t ∈ r, Run t) → rw2 [] [] (txtL rs) = rs.map fun r => r.map fun t => t.cps.toList
  | [], _ => rfl
  | r :: rs, h => by
    obtain ⟨h1, h2⟩ := h r (by simp)
    have ih := rows_txtL (rs := rs) fun q hq => h q (List.mem_cons_of_mem _ hq)
    have e : txtL (r :: rs) = (rowS r).cps.toList ++ 10 :: txtL rs := by simp [txtL]
    rw [e, (rw2_row [] [] (rowS_10 h2)).2, ih, List.nil_append, rowS_wd h2 h1]
    unfold flushR
    rw [if_neg (by simpa using h1)]; rfl
def runsOf (x : Str) : List Str := (Txt.split x " ").filter fun r : Str => !decide (r = "")
theorem runs_wd (x : Str) : wd [] x.cps.toList = (runsOf x).map fun t => t.cps.toList := by
  have e : Str.join " " (Txt.split x " ") = x := StrLaws.join_split x " "
  have h := wd_join (split_ne x " ") fun p hp => StrLaws.split_free x 32 p hp
  rw [e] at h
  exact h
theorem good_rows (x : Str) : (goodRows x).map (fun r => (runsOf r).map fun t => t.cps.toList) = rowsOf x := by
  rw [← split_rows]
  unfold goodRows
  induction Txt.split x ⟨#[10]⟩ with
  | nil => rfl
  | cons r l ih =>
    rw [List.flatMap_cons, ← ih, List.filter_cons]
    by_cases c : Txt.stripChars r " " = ""
    · have hw := (strip_blank r).mp c
      rw [if_neg (by simp [c]), hw]; rfl
    · have hw : ¬ wd [] r.cps.toList = [] := fun z => c ((strip_blank r).mpr z)
      rw [if_pos (by simp [c]), List.map_cons]
      unfold flushR
      rw [if_neg hw, runs_wd]; rfl
theorem map_inj2 {α β : Type} {f : α → β} (hf : ∀ a b, f a = f b → a = b) : ∀ {l m : List α}, l.map f = m.map f → l = m
  | [], [], _ => rfl
  | [], b :: m, h => by cases h
  | a :: l, [], h => by cases h
  | a :: l, b :: m, h => by
    rw [List.map_cons, List.map_cons, List.cons.injEq] at h
    rw [hf _ _ h.1, map_inj2 hf h.2]
theorem good_is {x : Str} {rs : List (List Str)} (h : rowsOf x = rs.map fun r => r.map fun t => t.cps.toList) : (goodRows x).map runsOf = rs := by
  have e := good_rows x
  rw [h] at e
  refine map_inj2 (f := fun r : List Str => r.map fun t => t.cps.toList) (fun a b => map_inj2 fun s t z => str_ext z) ?_
  rw [List.map_map]; exact e
theorem rows_text {W : Wd} (h : W.Ok) : rowsOf (wTxt W) = (rowsW W).map fun r => r.map fun t => t.cps.toList := by
  unfold rowsOf
  rw [wTxt_cps, rows_txtL (rowsW_Run h)]
theorem nr_name (p : Str × Int) : nrQ (nameR p) = true := by simp [nrQ, nameR]
theorem nr_fact {f : Rw} (h : ∀ i ∈ f.2, 0 ≤ i ∧ i < 41) : nrQ (factR f) = false := by
  unfold nrQ
  by_cases c : (factR f).length = 3
  · obtain ⟨x, ns⟩ := f
    match ns, c, h with
    | [i, j], _, h =>
      have z := (tS_Run (h i (by simp)).1 (h i (by simp)).2).2
      have : (factR (x, [i, j])).getD 1 "" = tS i := rfl
      rw [this, decide_eq_false z, Bool.and_false]
    | [], c, _ => simp [factR] at c
    | [_], c, _ => simp [factR] at c
    | _ :: _ :: _ :: _, c, _ => simp [factR] at c
  · rw [decide_eq_false c, Bool.false_and]
theorem wTxt_len {W : Wd} (h : W.Ok) : (wTxt W).length ≤ 5217 := by
  have key : ∀ rs : List (List Str), (∀ r ∈ rs, (rowS r).length ≤ 36) → (txtL rs).length ≤ rs.length * 37 := by
    intro rs
    induction rs with
    | nil => intro _; simp [txtL]
    | cons r rs ih =>
      intro h
      have h1 := h r (by simp)
      have h2 := ih fun q hq => h q (List.mem_cons_of_mem _ hq)
      have e : txtL (r :: rs) = ((rowS r).cps.toList ++ [10]) ++ txtL rs := by simp [txtL]
      rw [e, List.length_append, List.length_append, len_cps, List.length_cons, List.length_cons, List.length_nil]
      omega
  have h1 := key (rowsW W) (rowsW_len h)
  have h2 := rowsW_many h
  rw [← len_cps, wTxt_cps]
  omega
end
section
variable {P : Program} {w : World} {K : PySem.W.Frag} {mg : Str → Option Value} {base0 : Heap} {D : Defs}
theorem cut_mid (xs : List V) {a b : Nat} (ha : a ≤ xs.length) (hb : b ≤ xs.length) : cutV xs (some (a : Int)) (some (b : Int)) = (xs.drop a).take (b - a) := by
  unfold cutV
  rw [HT.sIx_nat, HT.sIx_nat, Nat.min_eq_left ha, Nat.min_eq_left hb]
theorem cut_from (xs : List V) {a : Nat} (ha : a ≤ xs.length) : cutV xs (some (a : Int)) none = xs.drop a := by
  unfold cutV
  rw [HT.sIx_nat, HT.sIx_none, Nat.min_eq_left ha]
  exact List.take_of_length_le (by simp)
theorem rowsW_name {W : Wd} {j : Nat} (h : j < W.cs.length) : (rowsW W)[1 + j]? = some (nameR W.cs[j]) := by
  rw [rowsW_eq, List.append_assoc, List.getElem?_append_right (by simp), List.getElem?_append_left (by simp; omega)]
  simp [h]
theorem rowsW_fact {W : Wd} {j : Nat} (h : j < W.fs.length) : (rowsW W)[1 + W.cs.length + j]? = some (factR W.fs[j]) := by
  rw [rowsW_eq, List.getElem?_append_right (by simp; omega)]
  have : 1 + W.cs.length + j - (([[Str.ofString "things", tS W.size]] : List (List Str)) ++ W.cs.map nameR).length = j := by simp; omega
  rw [this]; simp [h]
def RepRs (K : PySem.W.Frag) (H : Hp) (rs : List (List Str)) (vs : List V) : Prop := vs.length = rs.length ∧ ∀ (k : Nat) (r : List Str), rs[k]? = some r → ∃ q, vs[k]? = some (V.ref q) ∧ SqL K H q (r.map V.str)
theorem RepRs.same {K : PySem.W.Frag} {H H' : Hp} {rs : List (List Str)} {vs : List V} (h : RepRs K H rs vs) (s : Same H H') : RepRs K H' rs vs := ⟨h.1, fun k r e => let ⟨q, a, b⟩ := h.2 k r e; ⟨q, a, s.seq b⟩⟩
theorem RepRs.snoc {K : PySem.W.Frag} {H : Hp} {rs : List (List Str)} {vs : List V} (h : RepRs K H rs vs) {r : List Str} {q : Addr} (hq : SqL K H q (r.map V.str)) : RepRs K H (rs ++ [r]) (vs ++ [.ref q]) := by
  refine ⟨by simp [h.1], fun k r' e => ?_⟩
  by_cases c : k < rs.length
  · rw [List.getElem?_append_left c] at e
    rw [List.getElem?_append_left (by rw [h.1]; exact c)]
    exact h.2 k r' e
  · rw [List.getElem?_append_right (by omega)] at e
    rw [List.getElem?_append_right (by have := h.1; omega), h.1]
    have z : k - rs.length = 0 := by
      have := (List.getElem?_eq_some_iff.mp e).1
      simp at this; omega
    rw [z] at e ⊢
    cases e
    exact ⟨q, rfl, hq⟩
theorem two_exits {c : Prop} [Decidable c] {A X : Prop} (h : X) (hA : c → X → A) : if c then A else X := by
  by_cases e : c
  · rw [if_pos e]; exact hA e h
  · rw [if_neg e]; exact h
def spRW (K : PySem.W.Frag) : Sp := fun vs H Q _ => ∃ (x : Str) (W : Wd), vs = [.str x] ∧ x.length ≤ 100000 ∧ W.Ok ∧ rowsOf x = ((rowsW W).map fun r => r.map fun t => t.cps.toList) ∧ ∀ (r c f : Addr) (xs ys : List V) H', Same H H' → RepW K H' W r c f xs ys → Q (.ref r) H'
theorem ok_read_world (T : Tx K mg D) : FnOk P w K mg base0 CX0 6 D.a_read_world D.d_read_world ["text"] (spRW K) := by
  have G_rows_in := ok_rows_in (P := P) (w := w) (base0 := base0) T
  have G_runs_in := ok_runs_in (P := P) (w := w) (base0 := base0) T
  have G_read_size := ok_read_size (P := P) (w := w) (base0 := base0) T
  have G_is_names_row := ok_is_names_row (P := P) (w := w) (base0 := base0) T
  have G_read_number := ok_read_number (P := P) (w := w) (base0 := base0) T
  have G_read_fact := ok_read_fact (P := P) (w := w) (base0 := base0) T
  have G_fit_world := ok_fit_world (P := P) (w := w) (base0 := base0) T
  refine T.F_read_world.ok sc_read_world (fun vs H Q E h => ?_) (fun cdv A outer s H vs Q E hr h => ?_)
  · obtain ⟨x, W, rfl, _⟩ := h; rfl
  obtain ⟨x, W, rfl, hx, hO, hR, k⟩ := h
  have hu := hr.units
  have hr_rows_in : Room 1 _ := hr.mono (by decide)
  have hr_runs_in : Room 1 _ := hr.mono (by decide)
  have hr_read_size : Room 3 _ := hr.mono (by decide)
  have hr_is_names_row : Room 1 _ := hr.mono (by decide)
  have hr_read_number : Room 2 _ := hr.mono (by decide)
  have hr_read_fact : Room 3 _ := hr.mono (by decide)
  have hr_fit_world : Room 5 _ := hr.mono (by decide)
  refine ⟨_, (pss_cons (ps_setComp (i := 1) 1 [] ["row"] sc_read_world.nd (by rfl) (by rfl) ⟨by rfl, by rfl, by rfl, by rfl, by rfl, by rfl, by rfl⟩ (by rfl) (pi_any K (pe_call G_rows_in hr_rows_in (by rfl) T.m_rows_in T.F_rows_in.kp T.b_rows_in .nil pass0 (pa_cons (pv 0) pa_nil))) (fun _ _ _ _ => pg_name (i := 0) (show List.Nodup (["row"] : List Str) by decide +kernel) (by rfl) (Or.inl (by rfl)) (Or.inr (by rfl))) (gName_keep (by decide)) (fun _ _ _ _ => pif_nil) (fun _ _ _ _ => (pe_call G_runs_in hr_runs_in (by rfl) T.m_runs_in T.F_runs_in.kp T.b_runs_in .nil pass0 (pa_cons (pv 0) pa_nil))))
    (pss_cons (ps_if (pt_cmpR (opB_eq K hu) (pe_callB (callA_len K) (by rfl) T.z_len PySem.boot_len (pa_cons (pv 1) pa_nil)) pe_int (nomark _)) (pss_one ps_never) pss_nil)
    (pss_cons (ps_set (i := 2) sc_read_world.nd (by rfl) (by walk_at "o") (pe_call G_read_size hr_read_size (by rfl) T.m_read_size T.F_read_size.kp T.b_read_size .nil pass0 (pa_cons (pe_ix (ixA K) (pv 1) pe_int (fun _ _ => rfl)) pa_nil)))
    (pss_cons (ps_set (i := 3) sc_read_world.nd (by rfl) (by walk_at "o") pe_int)
    (pss_cons (ps_while PassesOwn.never (PW.pt (pw_and (pt_cmpR opA_lt (pv 3) (pe_callB (callA_len K) (by rfl) T.z_len PySem.boot_len (pa_cons (pv 1) pa_nil)) (nomark _)) (pw_and1 (pt_val (pe_call G_is_names_row hr_is_names_row (by rfl) T.m_is_names_row T.F_is_names_row.kp T.b_is_names_row .nil pass0 (pa_cons (pe_ix (ixA K) (pv 1) (pv 3) (fun _ _ => rfl)) pa_nil)))))) (pss_one (ps_aug (i := 3) sc_read_world.nd (by rfl) (by walk_at "o") pe_int ip_add)))
    (pss_cons (ps_set (i := 4) sc_read_world.nd (by rfl) (by walk_at "o") (pe_callTy (callA_tuple K) (by rfl) T.z_tuple (by rfl) (pa_cons (pe_comp 1 [] ["row"] ⟨by rfl, by rfl, by rfl, by rfl, by rfl, by rfl, by rfl⟩ (by rfl) (pi_any K (pe_slice (slB K) (pv 1) (po_some pe_int) (po_some (pv 3)))) (fun _ _ _ _ => pg_name (i := 0) (show List.Nodup (["row"] : List Str) by decide +kernel) (by rfl) (Or.inl (by rfl)) (Or.inr (by rfl))) (gName_keep (by decide)) (fun _ _ _ _ => pif_nil) (fun _ _ _ _ => (pe_tup (pa_cons (pe_ix (ixA K) (pv 0) pe_int (fun _ _ => rfl)) (pa_cons (pe_call G_read_number hr_read_number (by rfl) T.m_read_number T.F_read_number.kp T.b_read_number .nil pass0 (pa_cons (pe_ix (ixA K) (pv 0) pe_int (fun _ _ => rfl)) pa_nil)) pa_nil))))) pa_nil)))
    (pss_cons (ps_set (i := 5) sc_read_world.nd (by rfl) (by walk_at "o") (pe_callTy (callA_tuple K) (by rfl) T.z_tuple (by rfl) (pa_cons (pe_comp 1 [] ["row"] ⟨by rfl, by rfl, by rfl, by rfl, by rfl, by rfl, by rfl⟩ (by rfl) (pi_any K (pe_slice (slB K) (pv 1) (po_some (pv 3)) po_none)) (fun _ _ _ _ => pg_name (i := 0) (show List.Nodup (["row"] : List Str) by decide +kernel) (by rfl) (Or.inl (by rfl)) (Or.inr (by rfl))) (gName_keep (by decide)) (fun _ _ _ _ => pif_nil) (fun _ _ _ _ => (pe_call G_read_fact hr_read_fact (by rfl) T.m_read_fact T.F_read_fact.kp T.b_read_fact .nil pass0 (pa_cons (pv 0) pa_nil)))) pa_nil)))
    (pss_cons (ps_set (i := 6) sc_read_world.nd (by rfl) (by walk_at "o") (pe_tup (pa_cons (pv 2) (pa_cons (pv 4) (pa_cons (pv 5) pa_nil)))))
    (pss_cons (ps_if (pt_not (pt_val (pe_call G_fit_world hr_fit_world (by rfl) T.m_fit_world T.F_fit_world.kp T.b_fit_world .nil pass0 (pa_cons (pv 6) pa_nil)))) (pss_one ps_never) pss_nil)
    (pss_one (ps_ret (pv 6)))))))))))), ?_⟩
  walk_at "S"
  walk_at ""
  refine ⟨_, rfl, hx, fun p0 H0 s0 hp0 => ?_⟩
  (try walk_at "")
  have hG := good_is hR
  have hmany := rowsW_many hO
  have hgl : (goodRows x).length = (rowsW W).length := by rw [← hG, List.length_map]
  refine .inl ⟨⟨_, SqL.of hp0⟩, comp_list (xs := (goodRows x).map V.str) (fun i acc H5 => Same H0 H5 ∧ RepRs K H5 (((goodRows x).take i).map runsOf) acc) ⟨Same.refl _, rfl, fun k r e => by simp at e⟩ (fun i acc H5 _ hv => SqL.of (hv.1 _ _ hp0)) (fun i v acc H5 hv' hv => ?_) fun acc H5 hv p1 hp1 => ?_⟩
  · obtain ⟨s5, hA⟩ := hv
    have hi : i < (goodRows x).length := by have := (List.getElem?_eq_some_iff.mp hv').1; simpa using this
    have ev : v = V.str (goodRows x)[i] := by
      rw [List.getElem?_map, List.getElem?_eq_getElem hi] at hv'
      cases hv'; rfl
    subst ev
    have hml : (goodRows x)[i].length ≤ x.length := part_len (List.mem_filter.mp (List.getElem_mem hi)).1
    refine ⟨sz1000' (by have := hA.1; simp at this; omega), ?_⟩
    simp only [slotsC, List.replicate_succ, List.replicate_zero, List.map_cons, List.map_nil, List.nil_append, List.cons_append, List.getElem?_cons_zero, List.getElem?_cons_succ, Option.join_some]
    walk_at ""
    refine ⟨_, rfl, by omega, fun q H6 s6 _ hq => ⟨s5.trans s6, ?_⟩⟩
    rw [List.take_succ_eq_append_getElem hi, List.map_append]
    exact (hA.same s6).snoc (SqL.of hq)
  obtain ⟨s5, hA⟩ := hv
  rw [List.length_map, List.take_length, hG] at hA
  have s01 := (s0.trans s5).trans (same_new hp1 (.lst acc))
  have hA1 := hA.same (same_new hp1 (.lst acc))
  have hL : upd H5 p1 (.lst acc) p1 = some (.lst acc) := upd_same
  generalize upd H5 p1 (.lst acc) = H1 at s01 hA1 hL
  have hal := hA1.1
  have hr0 : (rowsW W)[0]? = some [Str.ofString "things", tS W.size] := by rw [rowsW_eq]; rfl
  have hpos : 0 < (rowsW W).length := (List.getElem?_eq_some_iff.mp hr0).1
  walk_at ""
  refine ⟨acc, .inl (SqL.of hL), ?_⟩
  rw [if_neg (by omega)]
  obtain ⟨q0, e0, hq0⟩ := hA1.2 0 _ hr0
  refine ⟨acc, .inl (SqL.of hL), _, atI_nat (j := 0) e0, q0, W.size, by have := hO.s1; omega, by have := hO.s2; omega, rfl, hq0, fun H2 s2 => ?_⟩
  have s02 := s01.trans s2
  have hA2 := hA1.same s2
  have hL2 := s2 _ _ hL
  have hlen : (rowsW W).length = 1 + W.cs.length + W.fs.length := by rw [rowsW_eq]; simp; omega
  refine ⟨fun m σ H3 => H3 = H2 ∧ ∃ j : Nat, m + j = W.cs.length ∧ σ = [some (.str x), some (.ref p1), some (.int W.size), some (.int (1 + (j : Int))), none, none, none], ⟨W.cs.length, rfl, 0, rfl, rfl⟩, fun m σ H3 hv => ?_⟩
  obtain ⟨rfl, j, hm, rfl⟩ := hv
  walk_at ""
  refine ⟨acc, .inl (SqL.of hL2), ?_⟩
  have hs2 := hO.s2
  by_cases hj : j < W.cs.length
  · obtain ⟨q, eq, hq⟩ := hA2.2 (1 + j) _ (rowsW_name hj)
    rw [if_pos (by omega)]
    refine ⟨acc, .inl (SqL.of hL2), _, by rw [show (1 + (j : Int)) = ((1 + j : Nat) : Int) by omega]; exact atI_nat eq, q, nameR W.cs[j], rfl, hq, true, congrArg V.bl (nr_name _), ?_⟩
    rw [if_pos rfl]
    refine ⟨fun σ' H' => H' = H3 ∧ σ' = [some (.str x), some (.ref p1), some (.int W.size), some (.int (1 + ((j + 1 : Nat) : Int))), none, none, none], fun σ' H' hv => ⟨m - 1, by omega, hv.1, j + 1, by omega, hv.2⟩, _, rfl, ?_⟩
    walk_at ""
    exact ⟨trivial, by rw [show 1 + (j : Int) + 1 = 1 + ((j + 1 : Nat) : Int) by omega]⟩
  have ej : j = W.cs.length := by omega
  subst ej
  refine two_exits ?_ fun hc hX => ?_
  rotate_left
  · have h0 : 0 < W.fs.length := by omega
    obtain ⟨q, eq, hq⟩ := hA2.2 (1 + W.cs.length + 0) _ (rowsW_fact h0)
    refine ⟨acc, .inl (SqL.of hL2), _, by rw [show (1 + (W.cs.length : Int)) = ((1 + W.cs.length + 0 : Nat) : Int) by omega]; exact atI_nat eq, q, _, rfl, hq, false, congrArg V.bl (nr_fact fun i hi => ?_), ?_⟩
    · have := (hO.ft _ (List.getElem_mem h0)).2.2 i hi
      omega
    · rw [if_neg (fun z => nomatch z)]
      exact hX
  refine ⟨acc, .inl ⟨SqL.of hL2, fun q1 hq1 => ?_⟩⟩
  have ec1 : cutV acc (some 1) (some (1 + (W.cs.length : Int))) = (acc.drop 1).take W.cs.length := by
    have := cut_mid acc (a := 1) (b := 1 + W.cs.length) (by omega) (by omega)
    rw [show 1 + W.cs.length - 1 = W.cs.length by omega] at this
    rw [← this]; rfl
  rw [ec1]
  have s3 := same_new hq1 (.lst ((acc.drop 1).take W.cs.length))
  have hq1' : upd H3 q1 (.lst ((acc.drop 1).take W.cs.length)) q1 = some (.lst ((acc.drop 1).take W.cs.length)) := upd_same
  generalize upd H3 q1 (.lst ((acc.drop 1).take W.cs.length)) = H4 at s3 hq1'
  have hcl := hO.lc
  have hfl := hO.lf
  have hl1 : ((acc.drop 1).take W.cs.length).length = W.cs.length := by rw [List.length_take, List.length_drop]; omega
  refine .inl ⟨⟨_, SqL.of hq1'⟩, comp_list (xs := (acc.drop 1).take W.cs.length) (fun i acc5 H5 => Same H4 H5 ∧ RepX K H5 (((W.cs.take i).map prR).map (rowD false)) acc5) ⟨Same.refl _, RepX.nil⟩ (fun i _ H5 _ hv => SqL.of (hv.1 _ _ hq1')) (fun i v acc5 H5 hv' hv => ?_) fun acc5 H5 hv p3 hp3 => ?_⟩
  · obtain ⟨s5', hX⟩ := hv
    have hi : i < W.cs.length := by have := (List.getElem?_eq_some_iff.mp hv').1; omega
    obtain ⟨q, eq, hq⟩ := hA2.2 (1 + i) _ (rowsW_name hi)
    have ev : v = .ref q := by
      rw [List.getElem?_take, if_pos hi, List.getElem?_drop, eq] at hv'
      cases hv'; rfl
    subst ev
    obtain ⟨n1, n2, n3⟩ := hO.nm _ (List.getElem_mem hi)
    have hq5 := (s3.trans s5').seq hq
    refine ⟨sz1000' (by have := hX.1; simp at this; omega), ?_⟩
    simp only [slotsC, List.replicate_succ, List.replicate_zero, List.map_cons, List.map_nil, List.nil_append, List.cons_append, List.getElem?_cons_zero, List.getElem?_cons_succ, Option.join_some]
    walk_at ""
    refine ⟨_, .inl hq5, _, atI_nat (j := 0) rfl, _, .inl hq5, _, atI_nat (j := 2) rfl, W.cs[i].2, n2, by omega, rfl, fun H6 s6 => ⟨sz1000 (show 2 ≤ 100000 by decide), fun q2 hq2 => ⟨(s5'.trans s6).trans (same_new hq2 _), ?_⟩⟩⟩
    rw [List.take_succ_eq_append_getElem hi, List.map_append, List.map_append]
    exact (hX.same (s6.trans (same_new hq2 _))).snoc (RepD.t2 (SqT.of upd_same) (.str _) (.int _))
  obtain ⟨s5', hX⟩ := hv
  rw [hl1, List.take_length] at hX
  have hXl : acc5.length = W.cs.length := by have := hX.1; simpa using this.symm
  walk_at ""
  refine ⟨_, .inl ⟨SqL.of upd_same, fun p4 hp4 => ⟨acc, .inl ⟨SqL.of ((same_new hp4 _) _ _ ((same_new hp3 _) _ _ (s5' _ _ (s3 _ _ hL2)))), fun q5 hq5 => ?_⟩⟩⟩⟩
  have ec2 : cutV acc (some (1 + (W.cs.length : Int))) none = acc.drop (1 + W.cs.length) := by
    have := cut_from acc (a := 1 + W.cs.length) (by omega)
    rw [← this, show ((1 + W.cs.length : Nat) : Int) = 1 + (W.cs.length : Int) by omega]
  rw [ec2]
  have s45 := ((s5'.trans (same_new hp3 (.lst acc5))).trans (same_new hp4 (.tup acc5))).trans (same_new hq5 (.lst (acc.drop (1 + W.cs.length))))
  have hX5 := hX.same (((same_new hp3 (.lst acc5)).trans (same_new hp4 (.tup acc5))).trans (same_new hq5 (.lst (acc.drop (1 + W.cs.length)))))
  have hp4' : upd (upd (upd H5 p3 (.lst acc5)) p4 (.tup acc5)) q5 (.lst (acc.drop (1 + W.cs.length))) p4 = some (.tup acc5) := (same_new hq5 _) _ _ upd_same
  have hq5' : upd (upd (upd H5 p3 (.lst acc5)) p4 (.tup acc5)) q5 (.lst (acc.drop (1 + W.cs.length))) q5 = some (.lst (acc.drop (1 + W.cs.length))) := upd_same
  generalize upd (upd (upd H5 p3 (.lst acc5)) p4 (.tup acc5)) q5 (.lst (acc.drop (1 + W.cs.length))) = H7 at s45 hX5 hp4' hq5'
  have hl2 : (acc.drop (1 + W.cs.length)).length = W.fs.length := by rw [List.length_drop]; omega
  refine .inl ⟨⟨_, SqL.of hq5'⟩, comp_list (xs := acc.drop (1 + W.cs.length)) (fun i acc8 H8 => Same H7 H8 ∧ RepX K H8 ((W.fs.take i).map (rowD true)) acc8) ⟨Same.refl _, RepX.nil⟩ (fun i _ H8 _ hv => SqL.of (hv.1 _ _ hq5')) (fun i v acc8 H8 hv' hv => ?_) fun acc8 H8 hv p6 hp6 => ?_⟩
  · obtain ⟨s8, hY⟩ := hv
    have hi : i < W.fs.length := by have := (List.getElem?_eq_some_iff.mp hv').1; omega
    obtain ⟨q, eq, hq⟩ := hA2.2 (1 + W.cs.length + i) _ (rowsW_fact hi)
    have ev : v = .ref q := by
      rw [List.getElem?_drop, eq] at hv'
      cases hv'; rfl
    subst ev
    obtain ⟨n1, n2, n3⟩ := hO.ft _ (List.getElem_mem hi)
    have hq8 := ((s3.trans s45).trans s8).seq hq
    refine ⟨sz1000' (by have := hY.1; simp at this; omega), ?_⟩
    simp only [slotsC, List.replicate_succ, List.replicate_zero, List.map_cons, List.map_nil, List.nil_append, List.cons_append, List.getElem?_cons_zero, List.getElem?_cons_succ, Option.join_some]
    walk_at ""
    refine ⟨q, W.fs[i].1, W.fs[i].2, fun z hz => ⟨(n3 z hz).1, by have := (n3 z hz).2; omega⟩, n2, rfl, (show (factR W.fs[i]).map V.str = V.str W.fs[i].1 :: W.fs[i].2.map (fun i => V.str (tS i)) by unfold factR; rw [List.map_cons, List.map_map]; rfl) ▸ hq8, fun q9 H9 s9 hq9 => ⟨s8.trans s9, ?_⟩⟩
    rw [List.take_succ_eq_append_getElem hi, List.map_append]
    exact (hY.same s9).snoc hq9
  obtain ⟨s8, hY⟩ := hv
  rw [hl2, List.take_length] at hY
  have hYl : acc8.length = W.fs.length := by have := hY.1; simpa using this.symm
  walk_at ""
  refine ⟨_, .inl ⟨SqL.of upd_same, fun p7 hp7 => ⟨sz1000 (show 3 ≤ 100000 by decide), fun p8 hp8 => ?_⟩⟩⟩
  have sE := ((same_new hp6 (.lst acc8)).trans (same_new hp7 (.tup acc8))).trans (same_new hp8 (.tup [V.int W.size, V.ref p4, V.ref p7]))
  have hW' : RepW K (upd (upd (upd H8 p6 (.lst acc8)) p7 (.tup acc8)) p8 (.tup [V.int W.size, V.ref p4, V.ref p7])) W p8 p4 p7 acc5 acc8 := ⟨SqT.of upd_same, (s8.trans sE).seqT (SqT.of hp4'), SqT.of ((same_new hp8 _) _ _ upd_same), hX5.same (s8.trans sE), hY.same sE⟩
  generalize upd (upd (upd H8 p6 (.lst acc8)) p7 (.tup acc8)) p8 (.tup [V.int W.size, V.ref p4, V.ref p7]) = HE at sE hW'
  refine ⟨p8, p4, p7, W, acc5, acc8, rfl, hW', ⟨by omega, by omega, fun p hp => Nat.le_trans (nm_len (hO.nm p hp).1) (by decide), fun f hf => ⟨Nat.le_trans (nm_len (hO.ft f hf).1) (by decide), Nat.le_trans (hO.ft f hf).2.1 (by decide)⟩⟩, fun HF sF => ⟨true, congrArg V.bl (fit_ok hO), ?_⟩⟩
  rw [if_neg (fun z => nomatch z)]
  exact k p8 p4 p7 acc5 acc8 HF ((((s02.trans s3).trans s45).trans s8).trans (sE.trans sF)) (hW'.same sF)
end
section
variable {P : Program} {w : World} {K : PySem.W.Frag} {mg : Str → Option Value} {base0 : Heap} {D : Defs}
def Gd (c : Nat) (z : List Nat) : Prop := (c ≠ 32 ∧ c ≠ 10 ∧ z = [c]) ∨ (c = 32 ∧ z ≠ [] ∧ ∀ d ∈ z, d = 32) ∨ (c = 10 ∧ Bk z ∧ 10 ∈ z)
theorem Gd.rw2 {c : Nat} {z : List Nat} (h : Gd c z) (rs : List (List Nat)) (acc l : List Nat) : rw2 rs acc (z ++ l) = L2.rw2 rs acc (c :: l) := by
  rcases h with ⟨_, _, rfl⟩ | ⟨rfl, h1, h2⟩ | ⟨rfl, h1, h2⟩
  · rfl
  · exact rw2_32 rs acc l h2 h1
  · exact rw2_10 rs acc l h1 h2
theorem Gd.one (c : Nat) : Gd c [c] := by
  by_cases h : c = 32
  · exact .inr (.inl ⟨h, by simp, by simp [h]⟩)
  by_cases h2 : c = 10
  · exact .inr (.inr ⟨h2, by simp [Bk, h2], by simp [h2]⟩)
  exact .inl ⟨h, h2, rfl⟩
theorem Gd.blanks {c : Nat} {z u v : List Nat} (hc : c = 32 ∨ c = 10) (h : Gd c z) (hu : ∀ d ∈ u, d = 32) (hv : ∀ d ∈ v, d = 32) : Gd c (u ++ z ++ v) := by
  rcases h with ⟨h1, h2, _⟩ | ⟨e, h1, h2⟩ | ⟨e, h1, h2⟩
  · rcases hc with e | e
    · exact absurd e h1
    · exact absurd e h2
  · refine .inr (.inl ⟨e, by simp [h1], fun d hd => ?_⟩)
    simp only [List.mem_append] at hd
    rcases hd with (hd | hd) | hd
    · exact hu d hd
    · exact h2 d hd
    · exact hv d hd
  · refine .inr (.inr ⟨e, fun d hd => ?_, by simp [h2]⟩)
    simp only [List.mem_append] at hd
    rcases hd with (hd | hd) | hd
    · exact .inl (hu d hd)
    · exact h1 d hd
    · exact .inl (hv d hd)
theorem Gd.more {c : Nat} {z v : List Nat} (h : Gd c z) (hz : 10 ∈ z) (hv : Bk v) : Gd c (z ++ v) := by
  rcases h with ⟨h1, h2, rfl⟩ | ⟨e, h1, h2⟩ | ⟨e, h1, h2⟩
  · exact absurd (List.mem_singleton.mp hz).symm h2
  · exact absurd (h2 _ hz) (by decide)
  · refine .inr (.inr ⟨e, fun d hd => ?_, by simp [h2]⟩)
    rcases List.mem_append.mp hd with hd | hd
    · exact h1 d hd
    · exact hv d hd
theorem strip_10 {x : Str} (h : Txt.stripChars x " " = "\n") : 10 ∈ x.cps.toList := by
  obtain ⟨u, a, z, e1, e2, _⟩ := strip_cut (Str.ofString " ").cps.contains x
  have e3 : (Txt.stripChars x " ").cps.toList = a := e2
  rw [h] at e3
  have : ("\n" : Str).cps.toList = [10] := is_cps.2.2.2
  rw [e1, ← e3, this]; simp
theorem sp3 (n : Nat) : (∀ d ∈ (Txt.slice (Str.ofString "   ") none (some (n : Int))).cps.toList, d = 32) ∧ (Txt.slice (Str.ofString "   ") none (some (n : Int))).length ≤ 3 := by
  have e : (Txt.slice (Str.ofString "   ") none (some (n : Int))).cps.toList = (Str.ofString "   ").cps.toList.take n := slice_to _ n
  have e3 : (Str.ofString "   ").cps.toList = [32, 32, 32] := by decide +kernel
  refine ⟨fun d hd => ?_, ?_⟩
  · rw [e, e3] at hd
    have := List.mem_of_mem_take hd
    simpa using this
  · rw [← len_cps, e, e3]; simp; omega
theorem or_if {p q X T : Prop} [Decidable p] [Decidable q] (h1 : p ∨ q → X) (h2 : ¬ p → ¬ q → T) : if p then X else if q then X else T := by
  by_cases a : p
  · rw [if_pos a]; exact h1 (.inl a)
  · rw [if_neg a]
    by_cases b : q
    · rw [if_pos b]; exact h1 (.inr b)
    · rw [if_neg b]; exact h2 a b
theorem one_sign {c d : Nat} (h : (⟨#[c]⟩ : Str) = ⟨#[d]⟩) : c = d := by
  have := congrArg (fun z : Str => z.cps.toList) h
  simpa using this
theorem nl3 : ∀ y ∈ [Str.ofString "\n", Str.ofString "  \n", Str.ofString "\n \n"], (∀ d ∈ y.cps.toList, d = 32 ∨ d = 10) ∧ y.length ≤ 3 := by decide +kernel
def spWB (K : PySem.W.Frag) : Sp := fun vs H Q _ => ∃ (x : Str) (n : Int), vs = [.str x, .int n] ∧ x.length ≤ 5217 ∧ 0 ≤ n ∧ n < 2147483647 ∧ ∀ (y : Str) H', Same H H' → y.length ≤ 100000 → rowsOf y = rowsOf x → Q (.str y) H'
theorem ok_with_blanks_L (T : Tx K mg D) : FnOk P w K mg base0 CX0 1 D.a_with_blanks_L D.d_with_blanks_L ["_law_text", "_law_cell"] (spWB K) := by
  refine T.F_with_blanks_L.ok sc_with_blanks_L (fun vs H Q E h => ?_) (fun cdv A outer s H vs Q E hr h => ?_)
  · obtain ⟨x, n, rfl, _⟩ := h; rfl
  obtain ⟨x, n, rfl, hx, n0, n1, k⟩ := h
  have hu := hr.units
  refine ⟨_, (pss_cons (ps_set (i := 2) sc_with_blanks_L.nd (by rfl) (by walk_at "o") pe_str)
    (pss_cons (ps_for PassesOwn.never (by rfl) (pi_range1 (by rfl) T.z_range (pa_cons (pe_callB (callA_len K) (by rfl) T.z_len PySem.boot_len (pa_cons (pv 0) pa_nil)) pa_nil)) (pg_name (i := 3) sc_with_blanks_L.nd (by rfl) (by walk_at "o"))
      (pss_cons (ps_set (i := 4) sc_with_blanks_L.nd (by rfl) (by walk_at "o") (pe_ix (ixA K) (pv 0) (pv 3) (fun _ _ => rfl)))
    (pss_cons (ps_set (i := 5) sc_with_blanks_L.nd (by rfl) (by walk_at "o") (pe_op op_modP (pe_op opA_mul (pe_op (opB_add K) (pv 1) (pe_op opA_mul pe_int (pv 3))) pe_int) pe_int))
    (pss_cons (ps_if (PW.pt (pw_or (pt_cmpR (opB_eq K hu) (pv 4) pe_str (nomark _)) (pw_or1 (pt_cmpR (opB_eq K hu) (pv 4) pe_str (nomark _))))) (pss_cons (ps_if (pt_cmpR opA_lt (pe_op op_modP (pv 5) pe_int) pe_int (nomark _)) (pss_one (ps_set (i := 4) sc_with_blanks_L.nd (by rfl) (by walk_at "o") (pe_op (opB_add K) (pe_slice (slB K) pe_str po_none (po_some (pe_op op_modP (pe_op op_fdivP (pv 5) pe_int) pe_int))) (pv 4)))) pss_nil)
    (pss_one (ps_if (pt_cmpR opA_lt (pe_op op_modP (pe_op op_fdivP (pv 5) pe_int) pe_int) pe_int (nomark _)) (pss_one (ps_set (i := 4) sc_with_blanks_L.nd (by rfl) (by walk_at "o") (pe_op (opB_add K) (pv 4) (pe_slice (slB K) pe_str po_none (po_some (pe_op op_modP (pe_op op_fdivP (pv 5) pe_int) pe_int)))))) pss_nil))) pss_nil)
    (pss_cons (ps_if (PW.pt (pw_and (pt_cmpR (opB_eq K hu) (pe_bmA K PySem.F.plainAttrs_str PySem.F.slot_str_strip PySem.F.type_str_strip mt_stripC (pv 4) (pa_cons pe_str pa_nil)) pe_str (nomark _)) (pw_and1 (pt_cmpR (opB_eq K hu) (pe_op op_modP (pv 5) pe_int) pe_int (nomark _))))) (pss_one (ps_set (i := 4) sc_with_blanks_L.nd (by rfl) (by walk_at "o") (pe_op (opB_add K) (pv 4) (pe_ix (ixA K) (pe_lst (pa_cons pe_str (pa_cons pe_str (pa_cons pe_str pa_nil)))) (pe_op op_modP (pe_op op_fdivP (pv 5) pe_int) pe_int) (fun _ _ => rfl))))) pss_nil)
    (pss_one (ps_set (i := 2) sc_with_blanks_L.nd (by rfl) (by walk_at "o") (pe_op (opB_add K) (pv 2) (pv 4)))))))))
    (pss_cons (ps_if (pt_cmpR (opB_eq K hu) (pe_op op_modP (pv 1) pe_int) pe_int (nomark _)) (pss_one (ps_ret (pe_bmA K PySem.F.plainAttrs_str PySem.F.slot_str_rstrip PySem.F.type_str_rstrip mt_rstripC (pv 2) (pa_cons pe_str pa_nil)))) pss_nil)
    (pss_one (ps_ret (pe_op (opB_add K) pe_str (pv 2))))))), ?_⟩
  walk_at "S"
  walk_at ""
  refine ⟨sz1000 (by omega), by omega, by omega, ?_⟩
  rw [Int.toNat_natCast]
  refine forW_range (fun i σ H2 => Same H H2 ∧ ∃ (wd : Str) (u3 u4 u5 : Option V), σ = [some (.str x), some (.int n), some (.str wd), u3, u4, u5] ∧ wd.length ≤ i * 10 ∧ ∀ l, rw2 [] [] (wd.cps.toList ++ l) = rw2 [] [] (x.cps.toList.take i ++ l)) ⟨Same.refl _, _, _, _, _, rfl, by decide, fun l => rfl⟩ (fun i σ H2 hi hv => ?_) fun σ H2 hv => ?_
  · obtain ⟨s2, wd, u3, u4, u5, rfl, hw, hl⟩ := hv
    have hi' : i < x.cps.toList.length := by rw [len_cps]; exact hi
    walk_at ""
    have hi0 : (0 : Int) ≤ (n + 7919 * (0 + (i : Int))) * 48271 % 10007 := Int.emod_nonneg _ (by decide)
    have hi1 : (n + 7919 * (0 + (i : Int))) * 48271 % 10007 < 10007 := Int.emod_lt_of_pos _ (by decide)
    have hc0 : atI x.cps.toList (0 + (i : Int)) = some (x.cps.toList[i]) := at0 (List.getElem?_eq_getElem hi')
    refine ⟨sz1000 (by omega), _, hc0, cmulL, cmulR, by decide, ?_⟩
    have step : ∀ z : Str, Gd (x.cps.toList[i]) z.cps.toList → ∀ l, rw2 [] [] ((wd ++ z).cps.toList ++ l) = rw2 [] [] (x.cps.toList.take (i + 1) ++ l) := fun z hz l => by
      rw [app_cps, List.append_assoc, hl, List.take_succ_eq_append_getElem hi', List.append_assoc]
      exact rw2_congr (fun rs acc => hz.rw2 rs acc l) _ [] []
    generalize (n + 7919 * (0 + (i : Int))) * 48271 % 10007 = m at hi0 hi1
    generalize x.cps.toList[i] = c at step
    have cd5 : CDiv m 5 := cdiv
    have cd9 : CDiv m 9 := cdiv
    have cd36 : CDiv m 36 := cdiv
    have cd324 : CDiv m 324 := cdiv
    obtain ⟨y, hy, hyb, hyl⟩ : ∃ y : Str, atI [V.str (Str.ofString "\n"), V.str (Str.ofString "  \n"), V.str (Str.ofString "\n \n")] (m / 5 % 3) = some (.str y) ∧ Bk y.cps.toList ∧ y.length ≤ 3 := by
      have : m / 5 % 3 = 0 ∨ m / 5 % 3 = 1 ∨ m / 5 % 3 = 2 := by omega
      rcases this with e | e | e
      · rw [e]; exact ⟨_, atI_nat (j := 0) rfl, nl3 _ (by simp)⟩
      · rw [e]; exact ⟨_, atI_nat (j := 1) rfl, nl3 _ (by simp)⟩
      · rw [e]; exact ⟨_, atI_nat (j := 2) rfl, nl3 _ (by simp)⟩
    obtain ⟨a4, ha4⟩ : ∃ a : Nat, m / 9 % 4 = a := ⟨(m / 9 % 4).toNat, by omega⟩
    obtain ⟨b4, hb4⟩ : ∃ a : Nat, m / 324 % 4 = a := ⟨(m / 324 % 4).toNat, by omega⟩
    rw [ha4, hb4]
    obtain ⟨ua, la⟩ := sp3 a4
    obtain ⟨ub, lb⟩ := sp3 b4
    generalize Txt.slice (Str.ofString "   ") none (some (a4 : Int)) = sa at ua la
    generalize Txt.slice (Str.ofString "   ") none (some (b4 : Int)) = sb at ub lb
    have l3 : (Str.ofString "   ").length = 3 := rfl
    have lc : (⟨#[c]⟩ : Str).length = 1 := rfl
    have g1 : Gd c (⟨#[c]⟩ : Str).cps.toList := Gd.one c
    refine or_if (fun hc => ?_) fun hc1 hc2 => ?_
    · have hcc : c = 32 ∨ c = 10 := by
        rcases hc with e | e
        · exact .inl (one_sign (e.trans (str_ext is_cps.2.2.1)))
        · exact .inr (one_sign (e.trans nl_eq))
      have gA : Gd c (sa ++ ⟨#[c]⟩ : Str).cps.toList := by have := g1.blanks (v := []) hcc ua (by simp); rw [List.append_nil] at this; rw [app_cps]; exact this
      have gB : ∀ z : Str, Gd c z.cps.toList → Gd c (z ++ sb).cps.toList := fun z hz => by have := hz.blanks (u := []) hcc (by simp) ub; rw [List.nil_append] at this; rw [app_cps]; exact this
      refine ⟨by decide, ite2 (fun b1 => ⟨cd9, by decide, sz1000 (by omega), sz1000 (by omega), cd36, by decide, ite2 (fun b2 => ⟨cd324, by decide, sz1000 (by omega), sz1000 (by rw [Str.length_append]; omega), ?_⟩) fun b2 => ?_⟩) fun b1 => ⟨cd36, by decide, ite2 (fun b2 => ⟨cd324, by decide, sz1000 (by omega), sz1000 (by omega), ?_⟩) fun b2 => ?_⟩⟩
      · have hz : Gd c (sa ++ ⟨#[c]⟩ ++ sb).cps.toList := gB _ gA
        have hl7 : (sa ++ ⟨#[c]⟩ ++ sb).length ≤ 7 := by (try simp only [Str.length_append]); omega
        refine ⟨trivial, by omega, ite2 (fun c1 => ⟨by decide, ite2 (fun c2 => ⟨sz1000 (by decide), fun p hp => ⟨cd5, by decide, _, .inl (SqL.of upd_same), _, hy, ?_⟩⟩) fun c2 => ?_⟩) fun c1 => ?_⟩
        walk_at ""
        have l1 := Str.length_append (sa ++ ⟨#[c]⟩ ++ sb) y
        refine ⟨sz1000 (by omega), sz1000 (by omega), s2.trans (same_new hp _), _, _, _, _, rfl, ?_, step _ (by rw [app_cps]; exact hz.more (strip_10 c1) hyb)⟩
        · rw [Str.length_append, Str.length_append]; omega
        all_goals
          refine ⟨sz1000 (by omega), s2, _, _, _, _, rfl, ?_, step _ hz⟩
          rw [Str.length_append]; omega
      · have hz : Gd c (sa ++ ⟨#[c]⟩).cps.toList := gA
        have hl7 : (sa ++ ⟨#[c]⟩).length ≤ 7 := by (try simp only [Str.length_append]); omega
        refine ⟨trivial, by omega, ite2 (fun c1 => ⟨by decide, ite2 (fun c2 => ⟨sz1000 (by decide), fun p hp => ⟨cd5, by decide, _, .inl (SqL.of upd_same), _, hy, ?_⟩⟩) fun c2 => ?_⟩) fun c1 => ?_⟩
        walk_at ""
        have l1 := Str.length_append (sa ++ ⟨#[c]⟩) y
        refine ⟨sz1000 (by omega), sz1000 (by omega), s2.trans (same_new hp _), _, _, _, _, rfl, ?_, step _ (by rw [app_cps]; exact hz.more (strip_10 c1) hyb)⟩
        · rw [Str.length_append, Str.length_append]; omega
        all_goals
          refine ⟨sz1000 (by omega), s2, _, _, _, _, rfl, ?_, step _ hz⟩
          rw [Str.length_append]; omega
      · have hz : Gd c (⟨#[c]⟩ ++ sb).cps.toList := gB _ g1
        have hl7 : (⟨#[c]⟩ ++ sb).length ≤ 7 := by (try simp only [Str.length_append]); omega
        refine ⟨trivial, by omega, ite2 (fun c1 => ⟨by decide, ite2 (fun c2 => ⟨sz1000 (by decide), fun p hp => ⟨cd5, by decide, _, .inl (SqL.of upd_same), _, hy, ?_⟩⟩) fun c2 => ?_⟩) fun c1 => ?_⟩
        walk_at ""
        have l1 := Str.length_append (⟨#[c]⟩ ++ sb) y
        refine ⟨sz1000 (by omega), sz1000 (by omega), s2.trans (same_new hp _), _, _, _, _, rfl, ?_, step _ (by rw [app_cps]; exact hz.more (strip_10 c1) hyb)⟩
        · rw [Str.length_append, Str.length_append]; omega
        all_goals
          refine ⟨sz1000 (by omega), s2, _, _, _, _, rfl, ?_, step _ hz⟩
          rw [Str.length_append]; omega
      · have hz : Gd c ((⟨#[c]⟩ : Str)).cps.toList := g1
        have hl7 : ((⟨#[c]⟩ : Str)).length ≤ 7 := by (try simp only [Str.length_append]); omega
        refine ⟨trivial, by omega, ite2 (fun c1 => ⟨by decide, ite2 (fun c2 => ⟨sz1000 (by decide), fun p hp => ⟨cd5, by decide, _, .inl (SqL.of upd_same), _, hy, ?_⟩⟩) fun c2 => ?_⟩) fun c1 => ?_⟩
        walk_at ""
        have l1 := Str.length_append ((⟨#[c]⟩ : Str)) y
        refine ⟨sz1000 (by omega), sz1000 (by omega), s2.trans (same_new hp _), _, _, _, _, rfl, ?_, step _ (by rw [app_cps]; exact hz.more (strip_10 c1) hyb)⟩
        · rw [Str.length_append, Str.length_append]; omega
        all_goals
          refine ⟨sz1000 (by omega), s2, _, _, _, _, rfl, ?_, step _ hz⟩
          rw [Str.length_append]; omega
    · have hz : Gd c ((⟨#[c]⟩ : Str)).cps.toList := g1
      have hl7 : ((⟨#[c]⟩ : Str)).length ≤ 7 := by (try simp only [Str.length_append]); omega
      refine ⟨trivial, by omega, ite2 (fun c1 => ⟨by decide, ite2 (fun c2 => ⟨sz1000 (by decide), fun p hp => ⟨cd5, by decide, _, .inl (SqL.of upd_same), _, hy, ?_⟩⟩) fun c2 => ?_⟩) fun c1 => ?_⟩
      walk_at ""
      have l1 := Str.length_append ((⟨#[c]⟩ : Str)) y
      refine ⟨sz1000 (by omega), sz1000 (by omega), s2.trans (same_new hp _), _, _, _, _, rfl, ?_, step _ (by rw [app_cps]; exact hz.more (strip_10 c1) hyb)⟩
      · rw [Str.length_append, Str.length_append]; omega
      all_goals
        refine ⟨sz1000 (by omega), s2, _, _, _, _, rfl, ?_, step _ hz⟩
        rw [Str.length_append]; omega
  · obtain ⟨s2, wd, u3, u4, u5, rfl, hw, hl⟩ := hv
    walk_at ""
    rw [show x.length = x.cps.toList.length from (len_cps x).symm, List.take_length] at hl
    have hl0 : rw2 [] [] wd.cps.toList = rowsOf x := by have := hl []; rw [List.append_nil, List.append_nil] at this; exact this
    have hwl : wd.length ≤ 52170 := by omega
    refine ⟨by decide, ite2 (fun c1 => ⟨trivial, by omega, ?_⟩) fun c1 => ?_⟩
    · obtain ⟨a, z, e1, e2, hz⟩ := rstrip_cut' (Str.ofString "\n ").cps.contains wd
      have e3 : (Txt.rstripChars wd (Str.ofString "\n ")).cps.toList = a := e2
      have hz' : Bk z := fun d hd => by
        have := hz d hd
        have e : (Str.ofString "\n ").cps = #[10, 32] := by decide +kernel
        rw [e] at this
        simp at this
        rcases this with h | h
        · exact .inr h
        · exact .inl h
      refine k _ H2 s2 ?_ ?_
      · rw [← len_cps, e3]
        have := congrArg List.length e1
        rw [List.length_append, len_cps] at this
        omega
      · unfold rowsOf
        rw [e3]
        have := rw2_congr (z := z) (w := []) (fun rs acc => rw2_end rs acc hz') a [] []
        rw [List.append_nil, ← e1] at this
        rw [← this, hl0]; rfl
    · have hsp : (Str.ofString " ").length = 1 := rfl
      refine ⟨sz1000 (by omega), k _ H2 s2 (by rw [Str.length_append]; omega) ?_⟩
      show rw2 [] [] (Str.ofString " " ++ wd).cps.toList = _
      rw [app_cps, is_cps.2.2.1, rw2_clean wd.cps.toList (by simp [Bk]), hl0]
end
section
variable {P : Program} {w : World} {K : PySem.W.Frag} {mg : Str → Option Value} {base0 : Heap} {D : Defs}
theorem ok_read_L (T : Tx K mg D) : FnOk P w K mg base0 CX0 7 D.a_read_L D.d_read_L ["_law_text"] (spRW K) := by
  have G_read_world := ok_read_world (P := P) (w := w) (base0 := base0) T
  refine T.F_read_L.ok sc_read_L (fun vs H Q E h => ?_) (fun cdv A outer s H vs Q E hr h => ?_)
  · obtain ⟨x, W, rfl, _⟩ := h; rfl
  obtain ⟨x, W, rfl, hx, hO, hR, k⟩ := h
  have hu := hr.units
  have hr_read_world : Room 6 _ := hr.mono (by decide)
  refine ⟨_, (pss_one (ps_try (Fnc.wish fnc_of _) (fun G pins E Fn ho hp => (pss_one (ps_ret (pe_call G_read_world hr_read_world (by rfl) T.m_read_world T.F_read_world.kp T.b_read_world .nil pass0 (pa_cons (pv 0) pa_nil))))) (ph_cls (Fnc.wish fnc_of _) (by rfl) T.x_NoWorld.1 (fun pins e => (pss_one (ps_ret pe_non))) ph_nil) pss_nil)), ?_⟩
  walk_at "S"
  walk_at ""
  exact ⟨fun _ _ _ => False, ⟨x, W, rfl, hx, hO, hR, k⟩, fun C σ' H' h => h.elim⟩
def spAlike (K : PySem.W.Frag) : Sp := fun vs H Q _ => ∃ (r c f r' c' f' : Addr) (xs ys xs' ys' : List V) (W : Wd), vs = [.ref r, .ref r'] ∧ RepW K H W r c f xs ys ∧ RepW K H W r' c' f' xs' ys' ∧ W.Ok ∧ ∀ H', Same H H' → Q (.bl true) H'
theorem ok_alike_L (T : Tx K mg D) : FnOk P w K mg base0 CX0 2 D.a_alike_L D.d_alike_L ["_law_found", "_law_world"] (spAlike K) := by
  have G_whole_L := ok_whole_L (P := P) (w := w) (base0 := base0) T
  refine T.F_alike_L.ok sc_alike_L (fun vs H Q E h => ?_) (fun cdv A outer s H vs Q E hr h => ?_)
  · obtain ⟨r, c, f, r', c', f', xs, ys, xs', ys', W, rfl, _⟩ := h; rfl
  obtain ⟨r, c, f, r', c', f', xs, ys, xs', ys', W, rfl, hW, hW', hO, k⟩ := h
  have hu := hr.units
  have hr_whole_L : Room 1 _ := hr.mono (by decide)
  refine ⟨_, (pss_cons (ps_if (PW.pt (pw_or (pt_not (pt_val (pe_callB (callB_inst K "tuple") (by rfl) T.z_isinstance (by rfl) (pa_cons (pv 0) (pa_cons (pe_bltn (v := .ty "tuple") (by rfl) T.z_tuple (by rfl) (by rfl)) pa_nil))))) (pw_or (pt_cmpR (opC_ne K hu) (pv 0) (pv 1) (nomark _)) (pw_or1 (pt_not (pt_val (pe_call G_whole_L hr_whole_L (by rfl) T.m_whole_L T.F_whole_L.kp T.b_whole_L .nil pass0 (pa_cons (pe_ix (ixA K) (pv 0) pe_int (fun _ _ => rfl)) pa_nil)))))))) (pss_one (ps_ret pe_bl)) pss_nil)
    (pss_cons (ps_for PassesOwn.never (by rfl) (pi_any K (pe_ix (ixA K) (pv 0) pe_int (fun _ _ => rfl))) (pg_name (i := 2) sc_alike_L.nd (by rfl) (by walk_at "o"))
      (pss_one (ps_if (PW.pt (pw_or (pt_not (pt_val (pe_callB (callB_inst K "tuple") (by rfl) T.z_isinstance (by rfl) (pa_cons (pv 2) (pa_cons (pe_bltn (v := .ty "tuple") (by rfl) T.z_tuple (by rfl) (by rfl)) pa_nil))))) (pw_or (pt_not (pt_val (pe_callB (callB_inst K "str") (by rfl) T.z_isinstance (by rfl) (pa_cons (pe_ix (ixA K) (pv 2) pe_int (fun _ _ => rfl)) (pa_cons (pe_bltn (v := .ty "str") (by rfl) T.z_str (by rfl) (by rfl)) pa_nil))))) (pw_or1 (pt_not (pt_val (pe_call G_whole_L hr_whole_L (by rfl) T.m_whole_L T.F_whole_L.kp T.b_whole_L .nil pass0 (pa_cons (pe_ix (ixA K) (pv 2) pe_int (fun _ _ => rfl)) pa_nil)))))))) (pss_one (ps_ret pe_bl)) pss_nil)))
    (pss_cons (ps_for PassesOwn.never (by rfl) (pi_any K (pe_ix (ixA K) (pv 0) pe_int (fun _ _ => rfl))) (pg_name (i := 3) sc_alike_L.nd (by rfl) (by walk_at "o"))
      (pss_cons (ps_if (PW.pt (pw_or (pt_not (pt_val (pe_callB (callB_inst K "tuple") (by rfl) T.z_isinstance (by rfl) (pa_cons (pv 3) (pa_cons (pe_bltn (v := .ty "tuple") (by rfl) T.z_tuple (by rfl) (by rfl)) pa_nil))))) (pw_or (pt_not (pt_val (pe_callB (callB_inst K "str") (by rfl) T.z_isinstance (by rfl) (pa_cons (pe_ix (ixA K) (pv 3) pe_int (fun _ _ => rfl)) (pa_cons (pe_bltn (v := .ty "str") (by rfl) T.z_str (by rfl) (by rfl)) pa_nil))))) (pw_or1 (pt_not (pt_val (pe_callB (callB_inst K "tuple") (by rfl) T.z_isinstance (by rfl) (pa_cons (pe_ix (ixA K) (pv 3) pe_int (fun _ _ => rfl)) (pa_cons (pe_bltn (v := .ty "tuple") (by rfl) T.z_tuple (by rfl) (by rfl)) pa_nil))))))))) (pss_one (ps_ret pe_bl)) pss_nil)
    (pss_one (ps_for PassesOwn.never (by rfl) (pi_any K (pe_ix (ixA K) (pv 3) pe_int (fun _ _ => rfl))) (pg_name (i := 4) sc_alike_L.nd (by rfl) (by walk_at "o"))
      (pss_one (ps_if (pt_not (pt_val (pe_call G_whole_L hr_whole_L (by rfl) T.m_whole_L T.F_whole_L.kp T.b_whole_L .nil pass0 (pa_cons (pv 4) pa_nil)))) (pss_one (ps_ret pe_bl)) pss_nil))))))
    (pss_one (ps_ret (pe_and (pe_callB (callB_inst K "tuple") (by rfl) T.z_isinstance (by rfl) (pa_cons (pe_ix (ixA K) (pv 0) pe_int (fun _ _ => rfl)) (pa_cons (pe_bltn (v := .ty "tuple") (by rfl) T.z_tuple (by rfl) (by rfl)) pa_nil))) (pe_one (pe_callB (callB_inst K "tuple") (by rfl) T.z_isinstance (by rfl) (pa_cons (pe_ix (ixA K) (pv 0) pe_int (fun _ _ => rfl)) (pa_cons (pe_bltn (v := .ty "tuple") (by rfl) T.z_tuple (by rfl) (by rfl)) pa_nil)))))))))), ?_⟩
  walk_at "S"
  walk_at ""
  have lx : xs.length = W.cs.length := by have := hW.rc.1; simpa using this.symm
  have ly : ys.length = W.fs.length := by have := hW.rf.1; simpa using this.symm
  refine ⟨_, true, .tup hW.top, rfl, ?_⟩
  rw [if_neg (fun z => nomatch z)]
  refine ⟨_, _, hW.repD, hW'.repD, W.dep, ?_⟩
  rw [if_neg (fun z => z rfl)]
  refine ⟨_, .inr hW.top, _, atI_nat (j := 0) rfl, _, rfl, ?_⟩
  rw [if_neg (fun z => nomatch z)]
  refine ⟨_, .inr hW.top, _, atI_nat (j := 1) rfl, ?_⟩
  walk_at ""
  refine .inr ⟨⟨_, hW.called⟩, forW_tup (xs := xs) (fun i σ H2 => H2 = H ∧ ∃ u2, σ = [some (.ref r), some (.ref r'), u2, none, none]) ⟨rfl, _, rfl⟩ (fun i σ H2 _ hv => hv.1 ▸ hW.called) (fun j x σ H2 hx' hv => ?_) fun σ H2 hv => ?_⟩
  · obtain ⟨rfl, u2, rfl⟩ := hv
    have hj : j < W.cs.length := by have := (List.getElem?_eq_some_iff.mp hx').1; omega
    have hd := hW.rc.2 j (rowD false (prR W.cs[j])) x (by simp [hj]) hx'
    obtain ⟨q, x1, x2, rfl, hq, e1, e2⟩ := RepD.two hd
    cases e1
    cases e2
    walk_at ""
    refine ⟨_, true, .tup hq, rfl, ?_⟩
    rw [if_neg (fun z => nomatch z)]
    refine ⟨_, .inr hq, _, atI_nat (j := 0) rfl, ?_⟩
    walk_at ""
    refine ⟨true, rfl, ?_⟩
    rw [if_neg (fun z => nomatch z)]
    refine ⟨_, .inr hq, _, atI_nat (j := 1) rfl, _, rfl, ?_⟩
    rw [if_neg (fun z => nomatch z)]
    exact ⟨trivial, _, rfl⟩
  obtain ⟨rfl, u2, rfl⟩ := hv
  walk_at ""
  refine ⟨_, .inr hW.top, _, atI_nat (j := 2) rfl, ?_⟩
  walk_at ""
  refine .inr ⟨⟨_, hW.facts⟩, forW_tup (xs := ys) (fun i σ H3 => H3 = H2 ∧ ∃ u3 u4, σ = [some (.ref r), some (.ref r'), u2, u3, u4]) ⟨rfl, _, _, rfl⟩ (fun i σ H3 _ hv => hv.1 ▸ hW.facts) (fun j x σ H3 hx' hv => ?_) fun σ H3 hv => ?_⟩
  · obtain ⟨rfl, u3, u4, rfl⟩ := hv
    have hj : j < W.fs.length := by have := (List.getElem?_eq_some_iff.mp hx').1; omega
    have hd := hW.rf.2 j (rowD true W.fs[j]) x (by simp [hj]) hx'
    obtain ⟨q, x1, x2, rfl, hq, e1, e2⟩ := RepD.two hd
    cases e1
    obtain ⟨b, rfl, hb⟩ := RepD.intsT e2
    walk_at ""
    refine ⟨_, true, .tup hq, rfl, ?_⟩
    rw [if_neg (fun z => nomatch z)]
    refine ⟨_, .inr hq, _, atI_nat (j := 0) rfl, ?_⟩
    walk_at ""
    refine ⟨true, rfl, ?_⟩
    rw [if_neg (fun z => nomatch z)]
    refine ⟨_, .inr hq, _, atI_nat (j := 1) rfl, ?_⟩
    walk_at ""
    refine ⟨_, true, .tup hb, rfl, ?_⟩
    rw [if_neg (fun z => nomatch z)]
    refine ⟨_, .inr hq, _, atI_nat (j := 1) rfl, ?_⟩
    walk_at ""
    refine .inr ⟨⟨_, hb⟩, forW_tup (xs := W.fs[j].2.map V.int) (fun i σ H5 => H5 = H3 ∧ ∃ u4, σ = [some (.ref r), some (.ref r'), u2, some (.ref q), u4]) ⟨rfl, _, rfl⟩ (fun i σ H5 _ hv => hv.1 ▸ hb) (fun i x σ H5 hx hv => ?_) fun σ H5 hv => ?_⟩
    · obtain ⟨rfl, u4, rfl⟩ := hv
      have hi : i < W.fs[j].2.length := by have := (List.getElem?_eq_some_iff.mp hx).1; simpa using this
      have ev : x = V.int W.fs[j].2[i] := by
        rw [List.getElem?_map, List.getElem?_eq_getElem hi] at hx
        cases hx; rfl
      subst ev
      walk_at ""
      rw [if_neg (fun z => nomatch z)]
      exact ⟨trivial, _, rfl⟩
    · obtain ⟨rfl, u4, rfl⟩ := hv
      (try walk_at "")
      exact ⟨trivial, _, _, rfl⟩
  obtain ⟨rfl, u3, u4, rfl⟩ := hv
  walk_at ""
  refine ⟨_, .inr hW.top, _, atI_nat (j := 1) rfl, ?_⟩
  walk_at ""
  refine ⟨_, true, .tup hW.called, rfl, ?_⟩
  (try rw [if_pos rfl])
  refine ⟨_, .inr hW.top, _, atI_nat (j := 2) rfl, ?_⟩
  walk_at ""
  exact ⟨_, true, .tup hW.facts, rfl, k _ (Same.refl _)⟩
end
section
variable {P : Program} {w : World} {K : PySem.W.Frag} {mg : Str → Option Value} {base0 : Heap} {D : Defs}
def plainS : Str := "bcdfghjklmnpqrstvwxz0123456789"
theorem plain_in : ∀ c ∈ plainS.cps.toList, c ∈ sofS.cps.toList ∧ c ≠ 97 := by decide +kernel
theorem firsts8 {f : Str} (hf : f = smallS ∨ f = greatS) {j : Int} (hj : j ∈ ([1, 2, 3, 5, 6, 7, 9, 10] : List Int)) : ∃ c, atI f.cps.toList j = some c ∧ c ∈ f.cps.toList ∧ c ∉ [110, 97, 111, 116, 115] := by
  have all : ∀ j ∈ ([1, 2, 3, 5, 6, 7, 9, 10] : List Int), ((atI smallS.cps.toList j).any fun c => smallS.cps.toList.contains c && !([110, 97, 111, 116, 115] : List Nat).contains c) = true ∧ ((atI greatS.cps.toList j).any fun c => greatS.cps.toList.contains c && !([110, 97, 111, 116, 115] : List Nat).contains c) = true := by decide +kernel
  obtain ⟨h1, h2⟩ := all j hj
  have fin : ∀ {f : Str}, ((atI f.cps.toList j).any fun c => f.cps.toList.contains c && !([110, 97, 111, 116, 115] : List Nat).contains c) = true → ∃ c, atI f.cps.toList j = some c ∧ c ∈ f.cps.toList ∧ c ∉ [110, 97, 111, 116, 115] := fun {f} h => by
    cases e : atI f.cps.toList j with
    | none => rw [e] at h; simp at h
    | some c =>
      rw [e] at h
      simp only [Option.any_some, Bool.and_eq_true, List.contains_iff_mem, Bool.not_eq_true'] at h
      exact ⟨c, rfl, h.1, by have := h.2; intro z; rw [← List.contains_iff_mem] at z; rw [z] at this; cases this⟩
  rcases hf with rfl | rfl
  · exact fin h1
  · exact fin h2
theorem nm_plain8 {f x : Str} {c : Nat} {r : List Nat} (e : x.cps.toList = c :: r) (hc : c ∈ f.cps.toList) (hc' : c ∉ [110, 97, 111, 116, 115]) (hr : ∀ d ∈ r, d ∈ plainS.cps.toList) (hl : r.length ≤ 7) : Nm f x := by
  refine ⟨c, r, e, hc, fun d hd => (plain_in d (hr d hd)).1, hl, fun h => ?_⟩
  have key : ∀ z ∈ keptW, (z.cps.toList.headD 0) ∈ [110, 97, 111, 116, 115] ∨ (z.cps.toList.tail.headD 0) = 97 := by decide +kernel
  rcases key x h with q | q
  · rw [e] at q; exact hc' q
  · rw [e] at q
    cases r with
    | nil => simp at q
    | cons d r =>
      have : d = 97 := q
      exact (plain_in d (hr d (by simp))).2 this
theorem ok_name_by_L (T : Tx K mg D) : FnOk P w K mg base0 CX0 1 D.a_name_by_L D.d_name_by_L ["_law_number", "_law_firsts", "_law_turn"] spNameBy := by
  refine T.F_name_by_L.ok sc_name_by_L (fun vs H Q E h => ?_) (fun cdv A outer s H vs Q E hr h => ?_)
  · obtain ⟨n, f, t, rfl, _⟩ := h; rfl
  obtain ⟨n, f, t, rfl, hf, k⟩ := h
  have hu := hr.units
  refine ⟨_, (pss_cons (ps_set (i := 3) sc_name_by_L.nd (by rfl) (by walk_at "o") pe_str)
    (pss_cons (ps_if (pt_cmpR (opB_eq K hu) (pe_op op_modP (pe_op op_fdivP (pv 0) pe_int) pe_int) pe_int (nomark _)) (pss_cons (ps_set (i := 4) sc_name_by_L.nd (by rfl) (by walk_at "o") pe_str)
    (pss_cons (ps_setComp (i := 5) 1 [0, 4] ["_law_k", "_law_number", "_law_plain"] sc_name_by_L.nd (by rfl) (by rfl) ⟨by rfl, by rfl, by rfl, by rfl, by rfl, by rfl, by rfl⟩ (by rfl) (pi_range1 (by rfl) T.z_range (pa_cons pe_int pa_nil)) (fun _ _ _ _ => pg_name (i := 0) (show List.Nodup (["_law_k", "_law_number", "_law_plain"] : List Str) by decide +kernel) (by rfl) (Or.inl (by rfl)) (Or.inr (by rfl))) (gName_keep (by decide)) (fun _ _ _ _ => pif_nil) (fun _ _ _ _ => (pe_ix (ixA K) (pv 2) (pe_op op_modP (pe_op (opB_add K) (pe_op op_fdivP (pv 1) pe_int) (pe_op opA_mul pe_int (pv 0))) pe_int) (fun _ _ => rfl))))
    (pss_cons (ps_asg (pe_ix (ixA K) (pv 1) (pe_ix (ixA K) (pe_lst (pa_cons pe_int (pa_cons pe_int (pa_cons pe_int (pa_cons pe_int (pa_cons pe_int (pa_cons pe_int (pa_cons pe_int (pa_cons pe_int pa_nil))))))))) (pe_op op_modP (pe_op op_fdivP (pv 0) pe_int) pe_int) (fun _ _ => rfl)) (fun _ _ => rfl)) (pg_sub (pv 5) pe_int set_list))
    (pss_one (ps_ret (pe_bmA K PySem.F.plainAttrs_str PySem.F.slot_str_join PySem.F.type_str_join (mtB_join K) pe_str (pa_cons (pe_slice (slB K) (pv 5) po_none (po_some (pe_op (opB_add K) pe_int (pe_op op_modP (pv 2) pe_int)))) pa_nil))))))) pss_nil)
    (pss_cons (ps_set (i := 6) sc_name_by_L.nd (by rfl) (by walk_at "o") (pe_op (opB_add K) pe_int (pe_op op_modP (pv 0) pe_int)))
    (pss_cons (ps_set (i := 7) sc_name_by_L.nd (by rfl) (by walk_at "o") (pe_op op_modP (pe_op op_fdivP (pv 0) pe_int) (pv 6)))
    (pss_cons (ps_setComp (i := 5) 1 [0, 3] ["_law_k", "_law_number", "_law_some"] sc_name_by_L.nd (by rfl) (by rfl) ⟨by rfl, by rfl, by rfl, by rfl, by rfl, by rfl, by rfl⟩ (by rfl) (pi_range1 (by rfl) T.z_range (pa_cons (pv 6) pa_nil)) (fun _ _ _ _ => pg_name (i := 0) (show List.Nodup (["_law_k", "_law_number", "_law_some"] : List Str) by decide +kernel) (by rfl) (Or.inl (by rfl)) (Or.inr (by rfl))) (gName_keep (by decide)) (fun _ _ _ _ => pif_nil) (fun _ _ _ _ => (pe_ix (ixA K) (pv 2) (pe_op op_modP (pe_op (opB_add K) (pe_op op_fdivP (pv 1) pe_int) (pe_op opA_mul pe_int (pv 0))) pe_int) (fun _ _ => rfl))))
    (pss_cons (ps_asg (pe_ix (ixA K) (pv 1) (pe_op op_modP (pe_op op_fdivP (pv 0) pe_int) pe_int) (fun _ _ => rfl)) (pg_sub (pv 5) pe_int set_list))
    (pss_cons (ps_if (pt_cmpR (opB_eq K hu) (pv 7) pe_int (nomark _)) (pss_one (ps_asg (pe_ix (ixA K) (pv 1) (pe_op op_modP (pe_op (opB_add K) (pe_op op_fdivP (pv 0) pe_int) (pv 2)) pe_int) (fun _ _ => rfl)) (pg_sub (pv 5) pe_int set_list))) (pss_one (ps_asg (pe_ix (ixA K) (pv 3) (pe_op op_modP (pe_op (opB_add K) (pe_op (opB_add K) (pe_op op_fdivP (pv 0) pe_int) (pe_op opA_mul pe_int (pv 7))) (pv 2)) pe_int) (fun _ _ => rfl)) (pg_sub (pv 5) (pv 7) set_list))))
    (pss_cons (ps_set (i := 8) sc_name_by_L.nd (by rfl) (by walk_at "o") (pe_bmA K PySem.F.plainAttrs_str PySem.F.slot_str_join PySem.F.type_str_join (mtB_join K) pe_str (pa_cons (pv 5) pa_nil)))
    (pss_cons (ps_if (pt_cmpR (opA_in K) (pv 8) (pe_lst (pa_cons pe_str (pa_cons pe_str (pa_cons pe_str (pa_cons pe_str (pa_cons pe_str (pa_cons pe_str (pa_cons pe_str pa_nil)))))))) (by rfl)) (pss_one (ps_ret (pe_op (opB_add K) (pv 8) pe_str))) pss_nil)
    (pss_one (ps_ret (pv 8)))))))))))), ?_⟩
  walk_at "S"
  walk_at ""
  have hfl : f.length = 26 := by rcases hf with rfl | rfl <;> decide +kernel
  refine ⟨cdiv, by decide, ite2 (fun c0 => ?_) fun c0 => ?_⟩
  · refine ⟨by decide, by decide, ?_⟩
    refine comp_range (fun i acc H2 => H2 = H ∧ ∃ cs : List Nat, acc = cs.map (fun c => V.str ⟨#[c]⟩) ∧ cs.length = i ∧ ∀ c ∈ cs, c ∈ plainS.cps.toList) ⟨rfl, [], rfl, rfl, by simp⟩ (fun i acc H2 hi hp => ?_) fun acc H2 hp p hn => ?_
    · obtain ⟨rfl, cs, rfl, rfl, hcs⟩ := hp
      refine ⟨sz1000' (by rw [List.length_map]; have : (Int.toNat 8) = 8 := rfl; omega), ?_⟩
      simp only [slotsC, List.replicate_succ, List.replicate_zero, List.map_cons, List.map_nil, List.nil_append, List.cons_append, List.getElem?_cons_zero, List.getElem?_cons_succ, Option.join_some]
      walk_at ""
      refine ⟨cdiv, cmulL, by decide, sz1000 (by decide +kernel), pickM (x := Str.ofString "bcdfghjklmnpqrstvwxz0123456789") (by decide) (by decide +kernel) fun c hc => ⟨trivial, cs ++ [c], by simp, by simp, fun d hd => ?_⟩⟩
      rcases List.mem_append.mp hd with q | q
      · exact hcs d q
      · rw [List.mem_singleton.mp q]; exact List.mem_of_mem_take hc
    obtain ⟨rfl, cs, rfl, hl, hcs⟩ := hp
    have hl8 : cs.length = 8 := hl
    refine ⟨sz1000 (by decide), fun p1 hp1 => ⟨cdiv, by decide, _, .inl (SqL.of upd_same), ?_⟩⟩
    obtain ⟨j, hj, ej⟩ := pickI (ts := [1, 2, 3, 5, 6, 7, 9, 10]) (i := n / 64 % 8) (Int.emod_nonneg _ (by decide)) (Int.emod_lt_of_pos _ (by decide))
    obtain ⟨c, ec, hc, hc'⟩ := firsts8 hf hj
    refine ⟨_, ej, ?_⟩
    walk_at ""
    refine ⟨sz1000 (by omega), c, ec, ?_⟩
    (try walk_at "")
    have hne : p ≠ p1 := ne_of_none upd_same hp1
    refine ⟨_, 0, by rw [upd_ne hne]; exact upd_same, ixN_in (by decide) (by rw [List.length_map]; omega), trivial, ?_⟩
    have em : (cs.map fun c => V.str ⟨#[c]⟩).set 0 (V.str ⟨#[c]⟩) = (cs.set 0 c).map fun c => V.str ⟨#[c]⟩ := by simp only [List.map_set]
    rw [em]
    refine ⟨by decide, _, .inl ⟨SqL.of upd_same, fun q hq => ?_⟩⟩
    obtain ⟨m, hm, hm0, hm8⟩ : ∃ m : Nat, 1 + t % 8 = (m : Int) ∧ 1 ≤ m ∧ m ≤ 8 := ⟨(1 + t % 8).toNat, by omega, by omega, by omega⟩
    rw [hm, cut_to, ← List.map_take]
    have s5 : Same H2 (upd (upd (upd (upd H2 p (.lst (cs.map fun c => V.str ⟨#[c]⟩))) p1 (.lst [V.int 1, V.int 2, V.int 3, V.int 5, V.int 6, V.int 7, V.int 9, V.int 10])) p (.lst ((cs.set 0 c).map fun c => V.str ⟨#[c]⟩))) q (.lst (((cs.set 0 c).take m).map fun c => V.str ⟨#[c]⟩))) :=
      (((same_new hn _).trans (same_new hp1 _)).upd hn).trans (same_new hq _)
    generalize hH5 : upd (upd (upd (upd H2 p (.lst (cs.map fun c => V.str ⟨#[c]⟩))) p1 (.lst [V.int 1, V.int 2, V.int 3, V.int 5, V.int 6, V.int 7, V.int 9, V.int 10])) p (.lst ((cs.set 0 c).map fun c => V.str ⟨#[c]⟩))) q (.lst (((cs.set 0 c).take m).map fun c => V.str ⟨#[c]⟩)) = H5 at s5
    have hlen : ((cs.set 0 c).take m).length = m := by rw [List.length_take, List.length_set]; omega
    have hq5 : H5 q = some (.lst (((cs.set 0 c).take m).map fun c => V.str ⟨#[c]⟩)) := by rw [← hH5, upd_same]
    have ht : ∃ r, (cs.set 0 c).take m = c :: r ∧ ∀ d ∈ r, d ∈ plainS.cps.toList := by
      cases cs with
      | nil => simp at hl8
      | cons d0 cs =>
        obtain ⟨m', rfl⟩ : ∃ m', m = m' + 1 := ⟨m - 1, by omega⟩
        exact ⟨cs.take m', rfl, fun d hd => hcs d (List.mem_cons_of_mem _ (List.mem_of_mem_take hd))⟩
    generalize (cs.set 0 c).take m = cs' at hlen hq5 ht
    refine ⟨cs'.map fun c => ⟨#[c]⟩, .inl (SqL.of (by rw [hq5, List.map_map]; rfl)), by rw [signs_len]; show cs'.length + _ * 0 ≤ _; omega, ?_⟩
    obtain ⟨r, er, hr'⟩ := ht
    have ex := join_signs cs'
    refine k _ _ s5 (nm_plain8 (c := c) (r := r) (by rw [ex, er]) hc hc' hr' ?_)
    have := congrArg List.length er
    simp at this
    omega
  · have e8 : 0 ≤ n % 8 := Int.emod_nonneg _ (by decide)
    have e8' : n % 8 < 8 := Int.emod_lt_of_pos _ (by decide)
    generalize hsz : 1 + n % 8 = sz
    have hat0 : 0 ≤ n / 8 % sz := Int.emod_nonneg _ (by omega)
    have hat1 : n / 8 % sz < sz := Int.emod_lt_of_pos _ (by omega)
    generalize n / 8 % sz = pl at hat0 hat1
    refine ⟨by decide, cdiv, by omega, by omega, by omega, ?_⟩
    refine comp_range (fun i acc H2 => H2 = H ∧ ∃ cs : List Nat, acc = cs.map (fun c => V.str ⟨#[c]⟩) ∧ cs.length = i ∧ ∀ c ∈ cs, c ∈ sofS.cps.toList) ⟨rfl, [], rfl, rfl, by simp⟩ (fun i acc H2 hi hp => ?_) fun acc H2 hp p hn => ?_
    · obtain ⟨rfl, cs, rfl, rfl, hcs⟩ := hp
      refine ⟨sz1000' (by rw [List.length_map]; omega), ?_⟩
      simp only [slotsC, List.replicate_succ, List.replicate_zero, List.map_cons, List.map_nil, List.nil_append, List.cons_append, List.getElem?_cons_zero, List.getElem?_cons_succ, Option.join_some]
      walk_at ""
      refine ⟨cdiv, cmulL, by decide, sz1000 (by decide +kernel), pickM (x := Str.ofString "abcdefghijklmnopqrstuvwxyz0123456789") (by decide) (by decide +kernel) fun c hc => ⟨trivial, cs ++ [c], by simp, by simp, fun d hd => ?_⟩⟩
      rcases List.mem_append.mp hd with q | q
      · exact hcs d q
      · rw [List.mem_singleton.mp q]; exact List.mem_of_mem_take hc
    obtain ⟨rfl, cs, rfl, hl, hcs⟩ := hp
    have hl1 : 1 ≤ cs.length := by omega
    have hl8 : cs.length ≤ 8 := by omega
    refine ⟨cdiv, by decide, sz1000 (by omega), pickM (by decide) (by omega) fun c0 hc0 => ?_⟩
    replace hc0 : c0 ∈ f.cps.toList := List.mem_of_mem_take hc0
    walk_at ""
    refine ⟨_, 0, upd_same, ixN_in (by decide) (by rw [List.length_map]; omega), ?_⟩
    refine ite2 (fun hpl => ⟨cdiv, by decide, sz1000 (by omega), pickM (by decide) (by omega) fun c1 hc1 => ?_⟩) fun hpl => ⟨cdiv, cmulL, by decide, sz1000 (by decide +kernel), pickM (x := Str.ofString "abcdefghijklmnopqrstuvwxyz0123456789") (by decide) (by decide +kernel) fun c1 hc1 => ?_⟩
    all_goals (replace hc1 := List.mem_of_mem_take hc1)
    all_goals ((try walk_at ""))
    · refine ⟨_, 0, upd_same, ixN_in (by decide) (by rw [List.length_set, List.length_map]; omega), trivial, ?_⟩
      have g := good_0 (f := f) (c0 := c0) hl1 hl8 hcs hc1
      have em : ((cs.map fun c => V.str ⟨#[c]⟩).set 0 (V.str ⟨#[c0]⟩)).set 0 (V.str ⟨#[c1]⟩) = ((cs.set 0 c0).set 0 c1).map fun c => V.str ⟨#[c]⟩ := by simp only [List.map_set]
      have hlen : ((cs.set 0 c0).set 0 c1).length ≤ 8 := by simpa using hl8
      generalize (cs.set 0 c0).set 0 c1 = cs' at g em hlen
      simp only [upd_upd, em]
      have s5 : Same H2 (upd H2 p (HO.lst (cs'.map fun c => V.str ⟨#[c]⟩))) := same_new hn _
      generalize hH5 : upd H2 p (HO.lst (cs'.map fun c => V.str ⟨#[c]⟩)) = H5 at s5
      clear em
      refine ⟨cs'.map fun c => ⟨#[c]⟩, .inl (SqL.of (by rw [← hH5, upd_same, List.map_map]; rfl)), by rw [signs_len]; show cs'.length + _ * 0 ≤ _; omega, (by show 7 ≤ sizeLine; decide), fun p1 hp1 => ?_⟩
      have ex := join_signs cs'
      generalize Txt.join "" (cs'.map fun c => (⟨#[c]⟩ : Str)) = x at ex
      have hx8 : x.length ≤ 8 := by rw [← len_cps, ex]; exact hlen
      have s6 := s5.trans (same_new hp1 (.lst (keptW.map V.str)))
      refine ⟨_, .inl (SqL.of upd_same), rfl, flat_strs keptW, ?_⟩
      have ei : inV (V.str x) [V.str (Str.ofString "not"), V.str (Str.ofString "and"), V.str (Str.ofString "or"), V.str (Str.ofString "then"), V.str (Str.ofString "all"), V.str (Str.ofString "some"), V.str (Str.ofString "false")] = decide (x ∈ keptW) := inV_strs x keptW
      rw [ei]
      refine ite2 (fun c => ?_) fun c => ?_
      · exact ⟨sz1000 (by have : (Str.ofString "0").length = 1 := rfl; omega), k _ _ s6 (nm_nought g ex (of_decide_eq_true c) rfl)⟩
      · exact k _ _ s6 (nm_plain g ex fun q => c (decide_eq_true q))
    · refine ⟨_, pl.toNat, upd_same, ixN_in hat0 (by rw [List.length_set, List.length_map]; omega), trivial, ?_⟩
      have g := good_n (f := f) (c0 := c0) (j := pl.toNat) (by omega) hl1 hl8 hcs hc0 hc1
      have em : ((cs.map fun c => V.str ⟨#[c]⟩).set 0 (V.str ⟨#[c0]⟩)).set pl.toNat (V.str ⟨#[c1]⟩) = ((cs.set 0 c0).set pl.toNat c1).map fun c => V.str ⟨#[c]⟩ := by simp only [List.map_set]
      have hlen : ((cs.set 0 c0).set pl.toNat c1).length ≤ 8 := by simpa using hl8
      generalize (cs.set 0 c0).set pl.toNat c1 = cs' at g em hlen
      simp only [upd_upd, em]
      have s5 : Same H2 (upd H2 p (HO.lst (cs'.map fun c => V.str ⟨#[c]⟩))) := same_new hn _
      generalize hH5 : upd H2 p (HO.lst (cs'.map fun c => V.str ⟨#[c]⟩)) = H5 at s5
      clear em
      refine ⟨cs'.map fun c => ⟨#[c]⟩, .inl (SqL.of (by rw [← hH5, upd_same, List.map_map]; rfl)), by rw [signs_len]; show cs'.length + _ * 0 ≤ _; omega, (by show 7 ≤ sizeLine; decide), fun p1 hp1 => ?_⟩
      have ex := join_signs cs'
      generalize Txt.join "" (cs'.map fun c => (⟨#[c]⟩ : Str)) = x at ex
      have hx8 : x.length ≤ 8 := by rw [← len_cps, ex]; exact hlen
      have s6 := s5.trans (same_new hp1 (.lst (keptW.map V.str)))
      refine ⟨_, .inl (SqL.of upd_same), rfl, flat_strs keptW, ?_⟩
      have ei : inV (V.str x) [V.str (Str.ofString "not"), V.str (Str.ofString "and"), V.str (Str.ofString "or"), V.str (Str.ofString "then"), V.str (Str.ofString "all"), V.str (Str.ofString "some"), V.str (Str.ofString "false")] = decide (x ∈ keptW) := inV_strs x keptW
      rw [ei]
      refine ite2 (fun c => ?_) fun c => ?_
      · exact ⟨sz1000 (by have : (Str.ofString "0").length = 1 := rfl; omega), k _ _ s6 (nm_nought g ex (of_decide_eq_true c) rfl)⟩
      · exact k _ _ s6 (nm_plain g ex fun q => c (decide_eq_true q))
def spTn : Sp := fun vs H Q _ => ∃ n t, vs = [.int n, .int t] ∧ ∀ x H', Same H H' → Nm smallS x → Q (.str x) H'
theorem ok_thing_name_L (T : Tx K mg D) : FnOk P w K mg base0 CX0 2 D.a_thing_name_L D.d_thing_name_L ["_law_base", "_law_turn"] spTn := by
  have G_name_by_L := ok_name_by_L (P := P) (w := w) (base0 := base0) T
  refine T.F_thing_name_L.ok sc_thing_name_L (fun vs H Q E h => ?_) (fun cdv A outer s H vs Q E hr h => ?_)
  · obtain ⟨n, t, rfl, _⟩ := h; rfl
  obtain ⟨n, t, rfl, k⟩ := h
  have hu := hr.units
  have hr_name_by_L : Room 1 _ := hr.mono (by decide)
  refine ⟨_, (pss_one (ps_ret (pe_call G_name_by_L hr_name_by_L (by rfl) T.m_name_by_L T.F_name_by_L.kp T.b_name_by_L .nil pass0 (pa_cons (pe_op op_fdivP (pv 0) pe_int) (pa_cons pe_str (pa_cons (pv 1) pa_nil)))))), ?_⟩
  walk_at "S"
  walk_at ""
  exact ⟨cdiv, _, _, _, rfl, .inl rfl, k⟩
theorem ok_word_L (T : Tx K mg D) : FnOk P w K mg base0 CX0 3 D.a_word_L D.d_word_L ["_law_base", "_law_turn"] spTn := by
  have G_name_by_L := ok_name_by_L (P := P) (w := w) (base0 := base0) T
  have G_thing_name_L := ok_thing_name_L (P := P) (w := w) (base0 := base0) T
  refine T.F_word_L.ok sc_word_L (fun vs H Q E h => ?_) (fun cdv A outer s H vs Q E hr h => ?_)
  · obtain ⟨n, t, rfl, _⟩ := h; rfl
  obtain ⟨n, t, rfl, k⟩ := h
  have hu := hr.units
  have hr_name_by_L : Room 1 _ := hr.mono (by decide)
  have hr_thing_name_L : Room 2 _ := hr.mono (by decide)
  refine ⟨_, (pss_cons (ps_if (pt_cmpR (opB_eq K hu) (pe_op op_modP (pe_op op_fdivP (pv 0) pe_int) pe_int) pe_int (nomark _)) (pss_one (ps_ret (pe_call G_thing_name_L hr_thing_name_L (by rfl) T.m_thing_name_L T.F_thing_name_L.kp T.b_thing_name_L .nil pass0 (pa_cons (pv 0) (pa_cons (pv 1) pa_nil))))) pss_nil)
    (pss_one (ps_ret (pe_call G_name_by_L hr_name_by_L (by rfl) T.m_name_by_L T.F_name_by_L.kp T.b_name_by_L .nil pass0 (pa_cons (pe_op op_fdivP (pv 0) pe_int) (pa_cons pe_str (pa_cons (pv 1) pa_nil))))))), ?_⟩
  walk_at "S"
  walk_at ""
  refine ⟨cdiv, by decide, ite2 (fun c => ?_) fun c => ?_⟩
  · exact ⟨_, _, rfl, k⟩
  · exact ⟨cdiv, _, _, _, rfl, .inl rfl, k⟩
def spSize (K : PySem.W.Frag) : Sp := fun vs H Q _ => ∃ (a : Addr) (ns : List Int), vs = [.ref a] ∧ SqL K H a (ns.map V.int) ∧ ∀ i, 1 ≤ i → i ≤ 40 → Q (.int i) H
theorem ok_size_by_L (T : Tx K mg D) : FnOk P w K mg base0 CX0 2 D.a_size_by_L D.d_size_by_L ["_law_script"] (spSize K) := by
  have G_cell_at_L := ok_cell_at_L (P := P) (w := w) (base0 := base0) T
  refine T.F_size_by_L.ok sc_size_by_L (fun vs H Q E h => ?_) (fun cdv A outer s H vs Q E hr h => ?_)
  · obtain ⟨a, ns, rfl, _⟩ := h; rfl
  obtain ⟨a, ns, rfl, hS, k⟩ := h
  have hu := hr.units
  have hr_cell_at_L : Room 1 _ := hr.mono (by decide)
  refine ⟨_, (pss_cons (ps_if (pt_cmpR (opB_eq K hu) (pe_op op_modP (pe_call G_cell_at_L hr_cell_at_L (by rfl) T.m_cell_at_L T.F_cell_at_L.kp T.b_cell_at_L .nil pass0 (pa_cons (pv 0) (pa_cons pe_int pa_nil))) pe_int) pe_int (nomark _)) (pss_one (ps_ret (pe_op (opB_add K) pe_int (pe_op op_modP (pe_op op_fdivP (pe_call G_cell_at_L hr_cell_at_L (by rfl) T.m_cell_at_L T.F_cell_at_L.kp T.b_cell_at_L .nil pass0 (pa_cons (pv 0) (pa_cons pe_int pa_nil))) pe_int) pe_int)))) pss_nil)
    (pss_cons (ps_if (pt_cmpR (opB_eq K hu) (pe_op op_modP (pe_call G_cell_at_L hr_cell_at_L (by rfl) T.m_cell_at_L T.F_cell_at_L.kp T.b_cell_at_L .nil pass0 (pa_cons (pv 0) (pa_cons pe_int pa_nil))) pe_int) pe_int (nomark _)) (pss_one (ps_ret (pe_op (opB_add K) pe_int (pe_op op_modP (pe_op op_fdivP (pe_call G_cell_at_L hr_cell_at_L (by rfl) T.m_cell_at_L T.F_cell_at_L.kp T.b_cell_at_L .nil pass0 (pa_cons (pv 0) (pa_cons pe_int pa_nil))) pe_int) pe_int)))) pss_nil)
    (pss_one (ps_ret (pe_op (opB_add K) pe_int (pe_op op_modP (pe_op op_modP (pe_call G_cell_at_L hr_cell_at_L (by rfl) T.m_cell_at_L T.F_cell_at_L.kp T.b_cell_at_L .nil pass0 (pa_cons (pv 0) (pa_cons pe_int pa_nil))) pe_int) pe_int)))))), ?_⟩
  walk_at "S"
  walk_at ""
  refine ⟨a, ns, 0, rfl, hS, by decide, ?_⟩
  walk_at ""
  refine ⟨by decide, ite2 (fun c1 => ?_) fun c1 => ?_⟩
  · refine ⟨a, ns, 0, rfl, hS, by decide, ?_⟩
    walk_at ""
    exact ⟨cdiv, by decide, k _ (by omega) (by omega)⟩
  refine ⟨a, ns, 0, rfl, hS, by decide, ?_⟩
  walk_at ""
  refine ⟨by decide, ite2 (fun c2 => ?_) fun c2 => ?_⟩
  · refine ⟨a, ns, 0, rfl, hS, by decide, ?_⟩
    walk_at ""
    exact ⟨cdiv, by decide, k _ (by omega) (by omega)⟩
  refine ⟨a, ns, 0, rfl, hS, by decide, ?_⟩
  walk_at ""
  exact ⟨by decide, by decide, k _ (by omega) (by omega)⟩
end
section
variable {P : Program} {w : World} {K : PySem.W.Frag} {mg : Str → Option Value} {base0 : Heap} {D : Defs}
def FtOk (n : Int) (f : Rw) : Prop := Nm smallS f.1 ∧ f.2.length ≤ 3 ∧ ∀ i ∈ f.2, 0 ≤ i ∧ i < n
def spFacts (K : PySem.W.Frag) : Sp := fun vs H Q _ => ∃ (a : Addr) (ns : List Int) (k b n : Int), vs = [.ref a, .int k, .int b, .int n] ∧ SqL K H a (ns.map V.int) ∧ 0 ≤ k ∧ k ≤ 100 ∧ 1 ≤ n ∧ n ≤ 40 ∧
  ∀ (p : Addr) (ys : List V) (fs : List Rw) H', Same H H' → SqT K H' p ys → RepX K H' (fs.map (rowD true)) ys → RisF fs → (∀ f ∈ fs, FtOk n f) → fs.length ≤ 100 → Q (.ref p) H'
theorem ok_facts_by_L (T : Tx K mg D) : FnOk P w K mg base0 CX0 4 D.a_facts_by_L D.d_facts_by_L ["_law_script", "_law_at", "_law_base", "_law_size"] (spFacts K) := by
  have G_cell_at_L := ok_cell_at_L (P := P) (w := w) (base0 := base0) T
  have G_mixed_L := ok_mixed_L (P := P) (w := w) (base0 := base0) T
  have G_word_L := ok_word_L (P := P) (w := w) (base0 := base0) T
  refine T.F_facts_by_L.ok sc_facts_by_L (fun vs H Q E h => ?_) (fun cdv A outer s H vs Q E hr h => ?_)
  · obtain ⟨a, ns, k, b, n, rfl, _⟩ := h; rfl
  obtain ⟨a, ns, at', b, n, rfl, hS, h0, h1, n1, n40, k⟩ := h
  have hu := hr.units
  have hr_cell_at_L : Room 1 _ := hr.mono (by decide)
  have hr_mixed_L : Room 1 _ := hr.mono (by decide)
  have hr_word_L : Room 3 _ := hr.mono (by decide)
  refine ⟨_, (pss_cons (ps_set (i := 4) sc_facts_by_L.nd (by rfl) (by walk_at "o") pe_dnew)
    (pss_cons (ps_set (i := 5) sc_facts_by_L.nd (by rfl) (by walk_at "o") (pe_op op_modP (pe_call G_mixed_L hr_mixed_L (by rfl) T.m_mixed_L T.F_mixed_L.kp T.b_mixed_L .nil pass0 (pa_cons (pv 0) (pa_cons (pv 1) pa_nil))) pe_int))
    (pss_cons (ps_if (pt_cmpR (opB_eq K hu) (pe_op op_modP (pe_call G_cell_at_L hr_cell_at_L (by rfl) T.m_cell_at_L T.F_cell_at_L.kp T.b_cell_at_L .nil pass0 (pa_cons (pv 0) (pa_cons pe_int pa_nil))) pe_int) pe_int (nomark _)) (pss_one (ps_set (i := 5) sc_facts_by_L.nd (by rfl) (by walk_at "o") pe_int)) pss_nil)
    (pss_cons (ps_for PassesOwn.never (by rfl) (pi_range1 (by rfl) T.z_range (pa_cons (pv 5) pa_nil)) (pg_name (i := 6) sc_facts_by_L.nd (by rfl) (by walk_at "o"))
      (pss_cons (ps_set (i := 7) sc_facts_by_L.nd (by rfl) (by walk_at "o") (pe_call G_mixed_L hr_mixed_L (by rfl) T.m_mixed_L T.F_mixed_L.kp T.b_mixed_L .nil pass0 (pa_cons (pv 0) (pa_cons (pe_op (opB_add K) (pe_op (opB_add K) (pv 1) pe_int) (pv 6)) pa_nil))))
    (pss_cons (ps_set (i := 8) sc_facts_by_L.nd (by rfl) (by walk_at "o") (pe_lst (pa_cons (pe_op op_modP (pe_op op_fdivP (pv 7) pe_int) (pv 3)) (pa_cons (pe_op op_modP (pe_op op_fdivP (pe_op op_fdivP (pv 7) pe_int) (pv 3)) (pv 3)) (pa_cons (pe_op op_modP (pe_op op_fdivP (pe_op op_fdivP (pe_op op_fdivP (pv 7) pe_int) (pv 3)) (pv 3)) (pv 3)) pa_nil)))))
    (pss_one (ps_asg pe_bl (pg_sub (pv 4) (pe_tup (pa_cons (pe_call G_word_L hr_word_L (by rfl) T.m_word_L T.F_word_L.kp T.b_word_L .nil pass0 (pa_cons (pv 2) (pa_cons (pe_op op_modP (pv 7) pe_int) pa_nil))) (pa_cons (pe_callTy (callA_tuple K) (by rfl) T.z_tuple (by rfl) (pa_cons (pe_slice (slB K) (pv 8) po_none (po_some (pe_op op_modP (pe_op op_fdivP (pv 7) pe_int) pe_int))) pa_nil)) pa_nil))) (set_fact P w K hu)))))))
    (pss_one (ps_ret (pe_callTy (callA_tuple K) (by rfl) T.z_tuple (by rfl) (pa_cons (pe_callB (callR_sorted true K hu) (by rfl) T.z_sorted (by rfl) (pa_cons (pe_callTy (call_listF P w (by rfl)) (by rfl) T.z_list (by rfl) (pa_cons (pv 4) pa_nil)) pa_nil)) pa_nil)))))))), ?_⟩
  walk_at "S"
  walk_at ""
  intro p hp
  have s0 := same_new hp (.dK [])
  refine ⟨a, ns, _, rfl, s0.seq hS, h0, by omega, fun m m0 m1 => ?_⟩
  walk_at ""
  refine ⟨by decide, a, ns, 0, rfl, s0.seq hS, by decide, ?_⟩
  walk_at ""
  refine ⟨by decide, ?_⟩
  have m14 := Int.emod_nonneg m (show (14 : Int) ≠ 0 by decide)
  have m14' := Int.emod_lt_of_pos m (show (0 : Int) < 14 by decide)
  refine ite2 (fun c => ⟨by decide, by decide, ?_⟩) fun c => ⟨by omega, by omega, ?_⟩
  all_goals
    refine forW_range (fun i σ H2 => Same H H2 ∧ ∃ fs u5 u6 u7 u8, σ = [some (.ref a), some (.int at'), some (.int b), some (.int n), some (.ref p), u5, u6, u7, u8] ∧ FdAt P w H2 p fs ∧ (∀ z ∈ fs, RepD K H2 (rowD true z.1) (.ref z.2)) ∧ (fs.map (·.1)).Nodup ∧ (∀ z ∈ fs, FtOk n z.1) ∧ fs.length ≤ i)
      ⟨s0, [], _, _, _, _, rfl, .inr ⟨rfl, upd_same⟩, by simp, by simp, by simp, by simp⟩ (fun i σ H2 hi hv => ?_) fun σ H2 hv => ?_
    · obtain ⟨s2, fs, u5, u6, u7, u8, rfl, hF, hR, hN, hO, hL⟩ := hv
      have hi100 : i < 100 := by have : (Int.toNat 100) = 100 := rfl; omega
      walk_at ""
      refine ⟨a, ns, _, rfl, s2.seq hS, by omega, by omega, fun q q0 q1 => ?_⟩
      walk_at ""
      have e1 := Int.emod_nonneg (q / 16) (show n ≠ 0 by omega)
      have e2 := Int.emod_lt_of_pos (q / 16) (show 0 < n by omega)
      have e3 := Int.emod_nonneg (q / 16 / n) (show n ≠ 0 by omega)
      have e4 := Int.emod_lt_of_pos (q / 16 / n) (show 0 < n by omega)
      have e5 := Int.emod_nonneg (q / 16 / n / n) (show n ≠ 0 by omega)
      have e6 := Int.emod_lt_of_pos (q / 16 / n / n) (show 0 < n by omega)
      refine ⟨cdiv, by omega, cdiv, cdiv (by omega) (by omega), by omega, cdiv, cdiv (by omega) (by omega), cdiv (by omega) (by omega), by omega, sz1000 (show 3 ≤ 100000 by decide), fun p1 hp1 => ⟨by decide, _, _, rfl, fun x H3 s3 hx => ?_⟩⟩
      generalize q / 16 % n = i1 at *
      generalize q / 16 / n % n = i2 at *
      generalize q / 16 / n / n % n = i3 at *
      have hL3 : H3 p1 = some (.lst (([i1, i2, i3] : List Int).map V.int)) := s3 _ _ upd_same
      have e7 := Int.emod_nonneg (q / 3) (show (4 : Int) ≠ 0 by decide)
      have e8 := Int.emod_lt_of_pos (q / 3) (show (0 : Int) < 4 by decide)
      obtain ⟨m', hm'⟩ : ∃ m' : Nat, q / 3 % 4 = m' := ⟨(q / 3 % 4).toNat, by omega⟩
      refine ⟨cdiv, by decide, _, .inl ⟨SqL.of hL3, fun q1 hq1 => ⟨_, .inl ⟨SqL.of upd_same, fun l hl => ⟨sz1000 (show 2 ≤ 100000 by decide), fun p2 hp2 => ?_⟩⟩⟩⟩⟩
      rw [hm', cut_to, ← List.map_take] at *
      have ht : ∀ j ∈ ([i1, i2, i3] : List Int).take m', 0 ≤ j ∧ j < n := fun j hj => by
        have := List.mem_of_mem_take hj
        simp only [List.mem_cons, List.not_mem_nil, or_false] at this
        omega
      have hl3 : (([i1, i2, i3] : List Int).take m').length ≤ 3 := List.length_take_le' _ _
      generalize ([i1, i2, i3] : List Int).take m' = th at *
      have s6 := ((((same_new hp1 _).trans s3).trans (same_new hq1 (.lst (th.map V.int)))).trans (same_new hl (.tup (th.map V.int)))).trans (same_new hp2 (.tup [V.str x, V.ref l]))
      have hl6 : (upd (upd (upd H3 q1 (.lst (th.map V.int))) l (.tup (th.map V.int))) p2 (.tup [V.str x, V.ref l])) l = some (.tup (th.map V.int)) := keep1 hp2 upd_same
      have hp6 : (upd (upd (upd H3 q1 (.lst (th.map V.int))) l (.tup (th.map V.int))) p2 (.tup [V.str x, V.ref l])) p2 = some (.tup [V.str x, V.ref l]) := upd_same
      generalize upd (upd (upd H3 q1 (.lst (th.map V.int))) l (.tup (th.map V.int))) p2 (.tup [V.str x, V.ref l]) = H6 at s6 hl6 hp6
      have hk : RepD K H6 (rowD true (x, th)) (.ref p2) := RepD.t2 (SqT.of hp6) (.str x) (RepD.ints (SqT.of hl6))
      have hF6 := hF.same s6
      obtain ⟨u, hu6, hd6⟩ := hF6.dct
      have hlen := pFs_len fs (x, th) p2
      refine ⟨(x, th), fs, hF6, hk, fun z hz => (hR z hz).same s6, by omega, (s2.trans s6).upd hp, pFs fs (x, th) p2, _, _, _, _, rfl, .inl upd_same, pFs_all (R := fun z => RepD K (upd H6 p _) (rowD true z.1) (.ref z.2)) (fun z hz => ((hR z hz).same s6).keepD hu6 hd6) (hk.keepD hu6 hd6), pFs_keys _ _ _ hN, pFs_all (R := fun z => FtOk n z.1) hO ⟨hx, hl3, ht⟩, by omega⟩
    · obtain ⟨s2, fs, u5, u6, u7, u8, rfl, hF, hR, hN, hO, hL⟩ := hv
      have hL100 : fs.length ≤ 100 := by have : (Int.toNat 100) = 100 := rfl; omega
      walk_at ""
      refine ⟨fs, hF, fun l hl => ⟨fs.map (fun f => (V.ref f.2, f.1)), by rw [List.map_map]; exact SqL.of upd_same, fun z hz => ⟨?_, fun z => nomatch z⟩, by rw [List.length_map]; omega, fun l1 zs' hl1 hp hs => ⟨_, .inl ⟨SqL.of upd_same, fun l2 hl2 => ?_⟩⟩⟩⟩
      · obtain ⟨f, hf, rfl⟩ := List.mem_map.mp hz
        exact (hR f hf).same (same_new hl _)
      · have sn := ((same_new hl (.lst (fs.map fun f => V.ref f.2))).trans (same_new hl1 (.lst (zs'.map (·.1))))).trans (same_new hl2 (.tup (zs'.map (·.1))))
        have p2 := hp.map (·.2)
        rw [List.map_map] at p2
        have p3 : (zs'.map (·.2)).Perm (fs.map (·.1)) := p2
        refine k l2 _ (zs'.map (·.2)) _ (s2.trans sn) (SqT.of upd_same) (RepX.ofZ fun z hz => ?_) (risF_of hs p3 hN) (fun f hf => ?_) ?_
        · obtain ⟨f, hf, rfl⟩ := List.mem_map.mp (hp.mem_iff.mp hz)
          exact (hR f hf).same sn
        · obtain ⟨g, hg, rfl⟩ := List.mem_map.mp (p3.mem_iff.mp hf)
          exact hO g hg
        · rw [p3.length_eq, List.length_map]; exact hL100
end
section
variable {P : Program} {w : World} {K : PySem.W.Frag} {mg : Str → Option Value} {base0 : Heap} {D : Defs}
def spWorld (K : PySem.W.Frag) : Sp := fun vs H Q _ => ∃ (a : Addr) (ns : List Int) (b : Int), vs = [.ref a, .int b] ∧ SqL K H a (ns.map V.int) ∧
  ∀ (W : Wd) (r c f : Addr) (xs ys : List V) H', Same H H' → RepW K H' W r c f xs ys → W.Ok → Q (.ref r) H'
theorem ok_world_by_L (T : Tx K mg D) : FnOk P w K mg base0 CX0 5 D.a_world_by_L D.d_world_by_L ["_law_script", "_law_base"] (spWorld K) := by
  have G_cell_at_L := ok_cell_at_L (P := P) (w := w) (base0 := base0) T
  have G_mixed_L := ok_mixed_L (P := P) (w := w) (base0 := base0) T
  have G_thing_name_L := ok_thing_name_L (P := P) (w := w) (base0 := base0) T
  have G_size_by_L := ok_size_by_L (P := P) (w := w) (base0 := base0) T
  have G_facts_by_L := ok_facts_by_L (P := P) (w := w) (base0 := base0) T
  refine T.F_world_by_L.ok sc_world_by_L (fun vs H Q E h => ?_) (fun cdv A outer s H vs Q E hr h => ?_)
  · obtain ⟨a, ns, b, rfl, _⟩ := h; rfl
  obtain ⟨a, ns, b, rfl, hS, k⟩ := h
  have hu := hr.units
  have hr_cell_at_L : Room 1 _ := hr.mono (by decide)
  have hr_mixed_L : Room 1 _ := hr.mono (by decide)
  have hr_thing_name_L : Room 2 _ := hr.mono (by decide)
  have hr_size_by_L : Room 2 _ := hr.mono (by decide)
  have hr_facts_by_L : Room 4 _ := hr.mono (by decide)
  refine ⟨_, (pss_cons (ps_set (i := 2) sc_world_by_L.nd (by rfl) (by walk_at "o") (pe_call G_size_by_L hr_size_by_L (by rfl) T.m_size_by_L T.F_size_by_L.kp T.b_size_by_L .nil pass0 (pa_cons (pv 0) pa_nil)))
    (pss_cons (ps_set (i := 3) sc_world_by_L.nd (by rfl) (by walk_at "o") pe_dnew)
    (pss_cons (ps_for PassesOwn.never (by rfl) (pi_range1 (by rfl) T.z_range (pa_cons (pe_op opA_mul pe_int (pe_callTy callT_int (by rfl) T.z_int (by rfl) (pa_cons (pe_cmpR (opB_eq K hu) (pe_op op_modP (pe_call G_cell_at_L hr_cell_at_L (by rfl) T.m_cell_at_L T.F_cell_at_L.kp T.b_cell_at_L .nil pass0 (pa_cons (pv 0) (pa_cons pe_int pa_nil))) pe_int) pe_int (nomark _)) pa_nil))) pa_nil)) (pg_name (i := 4) sc_world_by_L.nd (by rfl) (by walk_at "o"))
      (pss_one (ps_asg (pe_op op_modP (pe_call G_mixed_L hr_mixed_L (by rfl) T.m_mixed_L T.F_mixed_L.kp T.b_mixed_L .nil pass0 (pa_cons (pv 0) (pa_cons (pe_op (opB_add K) pe_int (pv 4)) pa_nil))) (pv 2)) (pg_sub (pv 3) (pe_op (opB_add K) pe_str (pe_callTy call_str_int (by rfl) T.z_str (by rfl) (pa_cons (pv 4) pa_nil))) set_dS))))
    (pss_cons (ps_for PassesOwn.never (by rfl) (pi_range1 (by rfl) T.z_range (pa_cons pe_int pa_nil)) (pg_name (i := 5) sc_world_by_L.nd (by rfl) (by walk_at "o"))
      (pss_one (ps_asg (pe_op op_modP (pe_call G_mixed_L hr_mixed_L (by rfl) T.m_mixed_L T.F_mixed_L.kp T.b_mixed_L .nil pass0 (pa_cons (pv 0) (pa_cons (pe_op (opB_add K) pe_int (pv 5)) pa_nil))) (pv 2)) (pg_sub (pv 3) (pe_call G_thing_name_L hr_thing_name_L (by rfl) T.m_thing_name_L T.F_thing_name_L.kp T.b_thing_name_L .nil pass0 (pa_cons (pv 1) (pa_cons (pv 5) pa_nil))) set_dS))))
    (pss_one (ps_ret (pe_tup (pa_cons (pv 2) (pa_cons (pe_callTy (callA_tuple K) (by rfl) T.z_tuple (by rfl) (pa_cons (pe_callB (callR_sorted false K hu) (by rfl) T.z_sorted (by rfl) (pa_cons (pe_comp 1 [3] ["_law_name", "_law_called"] ⟨by rfl, by rfl, by rfl, by rfl, by rfl, by rfl, by rfl⟩ (by rfl) (pi_dS (pv 3)) (fun _ _ _ _ => pg_name (i := 0) (show List.Nodup (["_law_name", "_law_called"] : List Str) by decide +kernel) (by rfl) (Or.inl (by rfl)) (Or.inr (by rfl))) (gName_keep (by decide)) (fun _ _ _ _ => pif_nil) (fun _ _ _ _ => (pe_tup (pa_cons (pv 0) (pa_cons (pe_ix ix_dS (pv 1) (pv 0) (fun _ _ => rfl)) pa_nil))))) pa_nil)) pa_nil)) (pa_cons (pe_call G_facts_by_L hr_facts_by_L (by rfl) T.m_facts_by_L T.F_facts_by_L.kp T.b_facts_by_L .nil pass0 (pa_cons (pv 0) (pa_cons pe_int (pa_cons (pv 1) (pa_cons (pv 2) pa_nil))))) pa_nil)))))))))), ?_⟩
  walk_at "S"
  walk_at ""
  refine ⟨a, ns, rfl, hS, fun n n1 n40 => ?_⟩
  walk_at ""
  intro p hp
  have s0 := same_new hp (.dK [])
  refine ⟨a, ns, 0, rfl, s0.seq hS, by decide, ?_⟩
  walk_at ""
  have hM : ∃ M : Nat, (36 * if cellI ns 0 % 18 = 17 then (1 : Int) else 0) = M ∧ M ≤ 36 := by
    by_cases c : cellI ns 0 % 18 = 17
    · exact ⟨36, by rw [if_pos c]; rfl, by decide⟩
    · exact ⟨0, by rw [if_neg c]; rfl, by decide⟩
  obtain ⟨M, eM, hM⟩ := hM
  refine ⟨by decide, cmulL, ?_⟩
  rw [eM]
  refine ⟨by omega, by omega, ?_⟩
  let Go (l : List (Str × V)) : Prop := (l.map (·.1)).Nodup ∧ ∀ q ∈ l, Nm smallS q.1 ∧ ∃ t : Int, q.2 = .int t ∧ 0 ≤ t ∧ t < n
  refine forW_range (fun i σ H2 => Same H H2 ∧ ∃ l u4 u5, σ = [some (.ref a), some (.int b), some (.int n), some (.ref p), u4, u5] ∧ H2 p = some (.dK (dS l)) ∧ Go l ∧ l.length ≤ i)
    ⟨s0, [], _, _, rfl, upd_same, ⟨by simp, by simp⟩, by simp⟩ (fun i σ H2 hi hv => ?_) fun σ H2 hv => ?_
  · obtain ⟨s2, l, u4, u5, rfl, hp2, ⟨hN, hG⟩, hL⟩ := hv
    rw [Int.toNat_natCast] at hi
    walk_at ""
    refine ⟨a, ns, _, rfl, s2.seq hS, by omega, by omega, fun q q0 q1 => ?_⟩
    walk_at ""
    have e1 := Int.emod_nonneg q (show n ≠ 0 by omega)
    have e2 := Int.emod_lt_of_pos q (show 0 < n by omega)
    rw [Int.zero_add]
    have hb := nm_of (nm_n36 i (by omega))
    have hlen := putS_len l (Str.ofString "n" ++ Str.ofString (toString (i : Int))) (V.int (q % n))
    refine ⟨by omega, by rw [Int.natAbs_natCast]; exact Nat.lt_of_le_of_lt (Nat.log2_le_self _) (by omega), ?_, l, hp2, by omega, s2.upd hp, _, _, _, rfl, upd_same, ⟨putS_keys _ _ _ hN, putS_all (R := fun q => Nm smallS q.1 ∧ ∃ t : Int, q.2 = .int t ∧ 0 ≤ t ∧ t < n) hG ⟨hb, _, rfl, e1, e2⟩⟩, by omega⟩
    obtain ⟨c, r, er, _, _, hr7, _⟩ := hb
    have := Str.length_append (Str.ofString "n") (Str.ofString (toString (i : Int)))
    have l8 : (Str.ofString "n" ++ Str.ofString (toString (i : Int))).length ≤ 8 := by rw [← len_cps, er]; simp; omega
    exact sz1000 (by omega)
  obtain ⟨s2, l, u4, u5, rfl, hp2, ⟨hN, hG⟩, hL⟩ := hv
  rw [Int.toNat_natCast] at hL
  walk_at ""
  refine ⟨by decide, by decide, forW_range (fun i σ H3 => Same H H3 ∧ ∃ l u4 u5, σ = [some (.ref a), some (.int b), some (.int n), some (.ref p), u4, u5] ∧ H3 p = some (.dK (dS l)) ∧ Go l ∧ l.length ≤ 36 + i)
    ⟨s2, l, _, _, rfl, hp2, ⟨hN, hG⟩, by omega⟩ (fun i σ H3 hi hv => ?_) fun σ H3 hv => ?_⟩
  · obtain ⟨s3, l, u4, u5, rfl, hp3, ⟨hN, hG⟩, hL⟩ := hv
    have hi4 : i < 4 := hi
    walk_at ""
    refine ⟨a, ns, _, rfl, s3.seq hS, by omega, by omega, fun q q0 q1 => ?_⟩
    walk_at ""
    have e1 := Int.emod_nonneg q (show n ≠ 0 by omega)
    have e2 := Int.emod_lt_of_pos q (show 0 < n by omega)
    refine ⟨by omega, _, _, rfl, fun x H4 s4 hx => ?_⟩
    (try walk_at "")
    have hlen := putS_len l x (V.int (q % n))
    exact ⟨l, s4 _ _ hp3, by omega, (s3.trans s4).upd hp, _, _, _, rfl, upd_same, ⟨putS_keys _ _ _ hN, putS_all (R := fun q => Nm smallS q.1 ∧ ∃ t : Int, q.2 = .int t ∧ 0 ≤ t ∧ t < n) hG ⟨hx, _, rfl, e1, e2⟩⟩, by omega⟩
  obtain ⟨s3, l, u4, u5, rfl, hp3, ⟨hN, hG⟩, hL⟩ := hv
  have hL40 : l.length ≤ 40 := hL
  walk_at ""
  refine ⟨p, l, rfl, hp3, fun o => ?_⟩
  have sf : Same H (upd H3 p (.frz o (.dK (dS l)))) := s3.upd hp
  have hpf : upd H3 p (.frz o (.dK (dS l))) p = some (.frz o (.dK (dS l))) := upd_same
  generalize upd H3 p (.frz o (.dK (dS l))) = Hf at sf hpf
  refine comp_dS (fun i acc H5 => Same Hf H5 ∧ acc.length = i ∧ RepX K H5 (((pairsS (l.take i)).map prR).map (rowD false)) acc) ⟨Same.refl _, rfl, RepX.nil⟩ (fun i acc H5 _ hv => hv.1 _ _ hpf) (fun i z acc H5 hz hv => ?_) fun acc H5 hv q hq => ?_
  · obtain ⟨s5, hal, hR5⟩ := hv
    have hi : i < l.length := (List.getElem?_eq_some_iff.mp hz).1
    refine ⟨sz1000' (by omega), ?_⟩
    simp only [slotsC, List.replicate_succ, List.replicate_zero, List.map_cons, List.map_nil, List.nil_append, List.cons_append, List.getElem?_cons_zero, List.getElem?_cons_succ, Option.join_some]
    walk_at ""
    obtain ⟨_, t, et, _, _⟩ := hG z (List.mem_of_getElem? hz)
    refine ⟨l, _, .inr ⟨o, s5 _ _ hpf⟩, valS_get hN hz, sz1000 (show 2 ≤ 100000 by decide), fun q1 hq1 => ⟨s5.trans (same_new hq1 _), by simp [hal], ?_⟩⟩
    rw [pairsS_take l i z hz, List.map_append, List.map_append]
    refine (hR5.same (same_new hq1 _)).snoc ?_
    rw [et]
    exact RepD.t2 (SqT.of upd_same) (.str _) (.int _)
  obtain ⟨s5, hal, hR5⟩ := hv
  rw [List.take_length] at hR5
  walk_at ""
  obtain ⟨z1, z2, z3⟩ := RepX.zs (hR5.same (same_new hq (.lst acc)))
  have hal' : ((pairsS l).map prR).length = acc.length := by simp [pairsS, hal]
  generalize hzs : acc.zip ((pairsS l).map prR) = zs at z1 z2 z3
  have hlz : zs.length = l.length := by rw [← hzs, List.length_zip, hal']; omega
  have one : ∀ z ∈ zs, z.2.2.length = 1 := fun z hz => by
    have : z.2 ∈ (pairsS l).map prR := z2 ▸ List.mem_map.mpr ⟨z, hz, rfl⟩
    obtain ⟨q, _, e⟩ := List.mem_map.mp this
    rw [← e]; rfl
  refine ⟨zs, by rw [z1]; exact SqL.of upd_same, fun z hz => ⟨z3 z hz, fun _ => one z hz⟩, by omega, fun l1 zs' hl1 hpm hs => ⟨_, .inl ⟨SqL.of upd_same, fun l2 hl2 => ?_⟩⟩⟩
  have sn := ((same_new hq (.lst acc)).trans (same_new hl1 (.lst (zs'.map (·.1))))).trans (same_new hl2 (.tup (zs'.map (·.1))))
  have hl2' : upd (upd (upd H5 q (.lst acc)) l1 (.lst (zs'.map (·.1)))) l2 (.tup (zs'.map (·.1))) l2 = some (.tup (zs'.map (·.1))) := upd_same
  have s7 := (sf.trans s5).trans sn
  have hrep : ∀ z ∈ zs', RepD K (upd (upd (upd H5 q (.lst acc)) l1 (.lst (zs'.map (·.1)))) l2 (.tup (zs'.map (·.1)))) (rowD false z.2) z.1 := fun z hz => ((z3 z (hpm.mem_iff.mp hz)).same (same_new hl1 _)).same (same_new hl2 _)
  generalize upd (upd (upd H5 q (.lst acc)) l1 (.lst (zs'.map (·.1)))) l2 (.tup (zs'.map (·.1))) = H7 at sn hl2' s7 hrep
  refine ⟨a, ns, 11, b, n, rfl, s7.seq hS, by decide, by decide, n1, n40, fun r ys fs H8 s8 hr' hys hrf hft hlf => ⟨sz1000 (show 3 ≤ 100000 by decide), fun t ht => ?_⟩⟩
  have s9 := same_new ht (.tup [V.int n, V.ref l2, V.ref r])
  have ecs : (((zs'.map (·.2)).map rwP).map prR) = zs'.map (·.2) := by
    rw [List.map_map]
    conv => rhs; rw [← List.map_id (zs'.map (·.2))]
    refine List.map_congr_left fun k hk => ?_
    obtain ⟨z, hz, rfl⟩ := List.mem_map.mp hk
    exact prR_rwP (one z (hpm.mem_iff.mp hz))
  have hnd : (zs'.map (·.2.1)).Nodup := by
    have p1 := hpm.map (fun z : V × Rw => z.2.1)
    refine p1.nodup_iff.mpr ?_
    have : zs.map (fun z => z.2.1) = l.map (·.1) := by
      have e : zs.map (fun z => z.2.1) = (zs.map (·.2)).map (·.1) := by rw [List.map_map]; rfl
      rw [e, z2, pairsS, List.map_map, List.map_map]; rfl
    rw [this]; exact hN
  refine k ⟨n, (zs'.map (·.2)).map rwP, fs⟩ t l2 r (zs'.map (·.1)) ys _ ((s7.trans s8).trans s9) ⟨SqT.of upd_same, (s8.trans s9).seqT (SqT.of hl2'), s9.seqT hr', ?_, hys.same s9⟩ ⟨n1, n40, risC_of hs hnd, hrf, fun q hq' => ?_, hft, ?_, hlf⟩
  · show RepX K _ ((((zs'.map (·.2)).map rwP).map prR).map (rowD false)) _
    rw [ecs]
    exact (RepX.ofZ hrep).same (s8.trans s9)
  · obtain ⟨k', hk', rfl⟩ := List.mem_map.mp hq'
    obtain ⟨z, hz, rfl⟩ := List.mem_map.mp hk'
    have : z.2 ∈ (pairsS l).map prR := z2 ▸ List.mem_map.mpr ⟨z, hpm.mem_iff.mp hz, rfl⟩
    obtain ⟨pq, hpq, e⟩ := List.mem_map.mp this
    obtain ⟨lq, hlq, e2⟩ := List.mem_map.mp hpq
    obtain ⟨g1, t', g2, g3, g4⟩ := hG lq hlq
    rw [← e, ← e2, g2]
    exact ⟨g1, g3, g4⟩
  · simp only [List.length_map]
    rw [hpm.length_eq]; omega
end
section
variable {P : Program} {w : World} {K : PySem.W.Frag} {mg : Str → Option Value} {base0 : Heap} {D : Defs}
theorem okSub {W : Wd} (h : W.Ok) {cs : List (Str × Int)} (hs : cs.Sublist W.cs) : (⟨W.size, cs, W.fs⟩ : Wd).Ok :=
  ⟨h.s1, h.s2, h.rc.sublist hs, h.rf, fun p hp => h.nm p (hs.subset hp), h.ft, Nat.le_trans hs.length_le h.lc, h.lf⟩
def spFewer (K : PySem.W.Frag) : Sp := fun vs H Q _ => ∃ (r c f : Addr) (q : Int) (W : Wd) (xs ys : List V), vs = [.ref r, .int q] ∧ RepW K H W r c f xs ys ∧ W.Ok ∧
  ∀ (W' : Wd) (r c f : Addr) (xs ys : List V) H', Same H H' → RepW K H' W' r c f xs ys → W'.Ok → W'.size = W.size → Q (.ref r) H'
theorem ok_fewer_L (T : Tx K mg D) : FnOk P w K mg base0 CX0 1 D.a_fewer_L D.d_fewer_L ["_law_world", "_law_cell"] (spFewer K) := by
  refine T.F_fewer_L.ok sc_fewer_L (fun vs H Q E h => ?_) (fun cdv A outer s H vs Q E hr h => ?_)
  · obtain ⟨r, c, f, q, W, xs, ys, rfl, _⟩ := h; rfl
  obtain ⟨r, c, f, q, W, xs, ys, rfl, hW, hO, k⟩ := h
  have hu := hr.units
  refine ⟨_, (pss_cons (ps_setComp (i := 2) 1 [0, 1] ["_law_k", "_law_world", "_law_cell"] sc_fewer_L.nd (by rfl) (by rfl) ⟨by rfl, by rfl, by rfl, by rfl, by rfl, by rfl, by rfl⟩ (by rfl) (pi_range1 (by rfl) T.z_range (pa_cons (pe_callB (callA_len K) (by rfl) T.z_len PySem.boot_len (pa_cons (pe_ix (ixA K) (pv 0) pe_int (fun _ _ => rfl)) pa_nil)) pa_nil)) (fun _ _ _ _ => pg_name (i := 0) (show List.Nodup (["_law_k", "_law_world", "_law_cell"] : List Str) by decide +kernel) (by rfl) (Or.inl (by rfl)) (Or.inr (by rfl))) (gName_keep (by decide)) (fun _ _ _ _ => pif_one (pt_cmpR (opB_eq K hu) (pe_op op_modP (pe_op op_fdivP (pv 2) (pe_ix (ixA K) (pe_lst (pa_cons pe_int (pa_cons pe_int (pa_cons pe_int (pa_cons pe_int pa_nil))))) (pe_op op_modP (pv 0) pe_int) (fun _ _ => rfl))) pe_int) pe_int (nomark _))) (fun _ _ _ _ => (pe_ix (ixA K) (pe_ix (ixA K) (pv 1) pe_int (fun _ _ => rfl)) (pv 0) (fun _ _ => rfl))))
    (pss_one (ps_ret (pe_tup (pa_cons (pe_ix (ixA K) (pv 0) pe_int (fun _ _ => rfl)) (pa_cons (pe_callTy (callA_tuple K) (by rfl) T.z_tuple (by rfl) (pa_cons (pv 2) pa_nil)) (pa_cons (pe_ix (ixA K) (pv 0) pe_int (fun _ _ => rfl)) pa_nil))))))), ?_⟩
  walk_at "S"
  walk_at ""
  have hlx : xs.length = W.cs.length := by have := hW.rc.1; simpa using this.symm
  have hl40 := hO.lc
  refine ⟨_, .inr hW.top, _, atI_nat (j := 1) rfl, ?_⟩
  walk_at ""
  refine ⟨_, .inr hW.called, by omega, by omega, ?_⟩
  refine comp_range (fun i acc H5 => Same H H5 ∧ acc.length ≤ i ∧ ∃ cs, cs.Sublist (W.cs.take i) ∧ RepX K H5 ((cs.map prR).map (rowD false)) acc) ⟨Same.refl _, by simp, [], by simp, RepX.nil⟩ (fun i acc H5 hi hv => ?_) fun acc H5 hv p hp => ?_
  · obtain ⟨s5, hal, cs, hsub, hR⟩ := hv
    rw [Int.toNat_natCast] at hi
    refine ⟨sz1000' (by omega), ?_⟩
    simp only [slotsC, List.replicate_succ, List.replicate_zero, List.map_cons, List.map_nil, List.nil_append, List.cons_append, List.getElem?_cons_zero, List.getElem?_cons_succ, Option.join_some]
    walk_at ""
    refine ⟨sz1000 (by decide), fun p1 hp1 => ⟨by decide, _, .inl (SqL.of upd_same), ?_⟩⟩
    obtain ⟨z, hz, ez⟩ := pickI (ts := [1, 2, 4, 8]) (i := (0 + (i : Int)) % 4) (Int.emod_nonneg _ (by decide)) (Int.emod_lt_of_pos _ (by decide))
    refine ⟨_, ez, ?_⟩
    walk_at ""
    have hz' : 0 < z ∧ z < 1073741824 := by
      simp only [List.mem_cons, List.not_mem_nil, or_false] at hz
      omega
    have s6 := s5.trans (same_new hp1 (.lst [V.int 1, V.int 2, V.int 4, V.int 8]))
    have hR6 := hR.same (same_new hp1 (.lst [V.int 1, V.int 2, V.int 4, V.int 8]))
    have hlt : i < W.cs.length := by omega
    have htk : W.cs.take (i + 1) = W.cs.take i ++ [W.cs[i]] := List.take_succ_eq_append_getElem hlt
    refine ⟨cdiv hz'.1 hz'.2, by decide, ite2 (fun c1 => ?_) fun c1 => ?_⟩
    · refine ⟨_, .inr (s6.seqT hW.top), _, atI_nat (j := 1) rfl, ?_⟩
      walk_at ""
      obtain ⟨x, hx⟩ : ∃ x, xs[i]? = some x := ⟨xs[i], List.getElem?_eq_getElem (by omega)⟩
      refine ⟨_, .inr (s6.seqT hW.called), x, at0 hx, s6, by simp; omega, cs ++ [W.cs[i]], by rw [htk]; exact hsub.append (List.Sublist.refl _), ?_⟩
      rw [List.map_append, List.map_append]
      refine hR6.snoc ?_
      exact (hW.rc.2 i _ x (by simp [hlt]) hx).same s6
    · exact ⟨s6, by omega, cs, by rw [htk]; exact hsub.trans (List.sublist_append_left _ _), hR6⟩
  obtain ⟨s5, hal, cs, hsub, hR⟩ := hv
  walk_at ""
  have s6 := s5.trans (same_new hp (.lst acc))
  refine ⟨_, .inr (s6.seqT hW.top), _, atI_nat (j := 0) rfl, _, .inl ⟨SqL.of upd_same, fun l hl => ?_⟩⟩
  have s7 := s6.trans (same_new hl (.tup acc))
  refine ⟨_, .inr (s7.seqT hW.top), _, atI_nat (j := 2) rfl, sz1000 (show 3 ≤ 100000 by decide), fun p1 hp1 => ?_⟩
  have s8 := s7.trans (same_new hp1 (.tup [V.int W.size, V.ref l, V.ref f]))
  refine k ⟨W.size, cs, W.fs⟩ p1 l f acc ys _ s8 ⟨SqT.of upd_same, (same_new hp1 _).seqT (SqT.of upd_same), s8.seqT hW.facts, ((hR.same (same_new hp _)).same (same_new hl _)).same (same_new hp1 _), hW.rf.same s8⟩ (okSub hO (hsub.trans (List.take_sublist _ _))) rfl
end
section
variable {P : Program} {w : World} {K : PySem.W.Frag} {mg : Str → Option Value} {base0 : Heap} {D : Defs}
theorem ok_law (T : Tx K mg D) : FnOk P w K mg base0 CX0 8 D.a_law D.d_law ["_law_script"] (spLaw K) := by
  have G_mixed_L := ok_mixed_L (P := P) (w := w) (base0 := base0) T
  have G_world_by_L := ok_world_by_L (P := P) (w := w) (base0 := base0) T
  have G_fewer_L := ok_fewer_L (P := P) (w := w) (base0 := base0) T
  have G_world_text := ok_world_text (P := P) (w := w) (base0 := base0) T
  have G_text_of_L := ok_text_of_L (P := P) (w := w) (base0 := base0) T
  have G_with_blanks_L := ok_with_blanks_L (P := P) (w := w) (base0 := base0) T
  have G_read_L := ok_read_L (P := P) (w := w) (base0 := base0) T
  have G_alike_L := ok_alike_L (P := P) (w := w) (base0 := base0) T
  refine T.F_law.ok sc_law (fun vs H Q E h => ?_) (fun cdv A outer s H vs Q E hr h => ?_)
  · obtain ⟨a, ns, rfl, _⟩ := h; rfl
  obtain ⟨a, ns, rfl, hS, _, k⟩ := h
  have hu := hr.units
  have hr_mixed_L : Room 1 _ := hr.mono (by decide)
  have hr_world_by_L : Room 5 _ := hr.mono (by decide)
  have hr_fewer_L : Room 1 _ := hr.mono (by decide)
  have hr_world_text : Room 1 _ := hr.mono (by decide)
  have hr_text_of_L : Room 1 _ := hr.mono (by decide)
  have hr_with_blanks_L : Room 1 _ := hr.mono (by decide)
  have hr_read_L : Room 7 _ := hr.mono (by decide)
  have hr_alike_L : Room 2 _ := hr.mono (by decide)
  refine ⟨_, (pss_cons (ps_set (i := 1) sc_law.nd (by rfl) (by walk_at "o") (pe_call G_mixed_L hr_mixed_L (by rfl) T.m_mixed_L T.F_mixed_L.kp T.b_mixed_L .nil pass0 (pa_cons (pv 0) (pa_cons pe_int pa_nil))))
    (pss_cons (ps_set (i := 2) sc_law.nd (by rfl) (by walk_at "o") (pe_call G_fewer_L hr_fewer_L (by rfl) T.m_fewer_L T.F_fewer_L.kp T.b_fewer_L .nil pass0 (pa_cons (pe_call G_world_by_L hr_world_by_L (by rfl) T.m_world_by_L T.F_world_by_L.kp T.b_world_by_L .nil pass0 (pa_cons (pv 0) (pa_cons (pv 1) pa_nil))) (pa_cons (pe_op op_modP (pe_call G_mixed_L hr_mixed_L (by rfl) T.m_mixed_L T.F_mixed_L.kp T.b_mixed_L .nil pass0 (pa_cons (pv 0) (pa_cons pe_int pa_nil))) pe_int) pa_nil))))
    (pss_cons (ps_set (i := 3) sc_law.nd (by rfl) (by walk_at "o") (pe_call G_world_text hr_world_text (by rfl) T.m_world_text T.F_world_text.kp T.b_world_text .nil pass0 (pa_cons (pv 2) pa_nil)))
    (pss_cons (ps_if (PW.pt (pw_or (pt_not (pt_val (pe_callB (callB_inst K "str") (by rfl) T.z_isinstance (by rfl) (pa_cons (pv 3) (pa_cons (pe_bltn (v := .ty "str") (by rfl) T.z_str (by rfl) (by rfl)) pa_nil))))) (pw_or (pt_cmpR (opC_ne K hu) (pv 3) (pe_call G_text_of_L hr_text_of_L (by rfl) T.m_text_of_L T.F_text_of_L.kp T.b_text_of_L .nil pass0 (pa_cons (pv 2) pa_nil)) (nomark _)) (pw_or1 (pt_cmpR (opC_ne K hu) (pe_call G_world_text hr_world_text (by rfl) T.m_world_text T.F_world_text.kp T.b_world_text .nil pass0 (pa_cons (pv 2) pa_nil)) (pv 3) (nomark _)))))) (pss_one (ps_ret pe_bl)) pss_nil)
    (pss_cons (ps_set (i := 4) sc_law.nd (by rfl) (by walk_at "o") (pe_call G_with_blanks_L hr_with_blanks_L (by rfl) T.m_with_blanks_L T.F_with_blanks_L.kp T.b_with_blanks_L .nil pass0 (pa_cons (pv 3) (pa_cons (pe_call G_mixed_L hr_mixed_L (by rfl) T.m_mixed_L T.F_mixed_L.kp T.b_mixed_L .nil pass0 (pa_cons (pv 0) (pa_cons pe_int pa_nil))) pa_nil))))
    (pss_one (ps_ret (pe_and (pe_call G_alike_L hr_alike_L (by rfl) T.m_alike_L T.F_alike_L.kp T.b_alike_L .nil pass0 (pa_cons (pe_call G_read_L hr_read_L (by rfl) T.m_read_L T.F_read_L.kp T.b_read_L .nil pass0 (pa_cons (pv 3) pa_nil)) (pa_cons (pv 2) pa_nil))) (pe_one (pe_call G_alike_L hr_alike_L (by rfl) T.m_alike_L T.F_alike_L.kp T.b_alike_L .nil pass0 (pa_cons (pe_call G_read_L hr_read_L (by rfl) T.m_read_L T.F_read_L.kp T.b_read_L .nil pass0 (pa_cons (pv 4) pa_nil)) (pa_cons (pv 2) pa_nil)))))))))))), ?_⟩
  walk_at "S"
  walk_at ""
  refine ⟨a, ns, 3, rfl, hS, by decide, by decide, fun b b0 b1 => ⟨a, ns, b, rfl, hS, fun W0 r0 c0 f0 xs0 ys0 H2 s2 hW0 hO0 => ⟨a, ns, 50, rfl, s2.seq hS, by decide, by decide, fun m m0 m1 => ?_⟩⟩⟩
  walk_at ""
  refine ⟨by decide, r0, c0, f0, _, W0, xs0, ys0, rfl, hW0, hO0, fun W r c f xs ys H3 s3 hW hO _ => ⟨r, c, f, W, xs, ys, rfl, hW, hO, fun H4 s4 => ?_⟩⟩
  walk_at ""
  refine ⟨true, rfl, ?_⟩
  rw [if_neg (fun z => nomatch z)]
  refine ⟨r, c, f, W, xs, ys, rfl, hW.same s4, hO, fun H5 s5 => ?_⟩
  walk_at ""
  rw [if_neg (by simp)]
  refine ⟨r, c, f, W, xs, ys, rfl, (hW.same s4).same s5, hO, fun H6 s6 => ?_⟩
  walk_at ""
  rw [if_neg (by simp)]
  have hW6 := ((hW.same s4).same s5).same s6
  have s06 := (((s2.trans s3).trans s4).trans s5).trans s6
  have hlen := wTxt_len hO
  refine ⟨a, ns, 1, rfl, s06.seq hS, by decide, by decide, fun g g0 g1 => ⟨wTxt W, g, rfl, hlen, g0, by omega, fun y H7 s7 hy hyr => ?_⟩⟩
  have hW7 := hW6.same s7
  refine ⟨wTxt W, W, rfl, by omega, hO, rows_text hO, fun r1 c1 f1 xs1 ys1 H8 s8 hW8 => ⟨r1, c1, f1, r, c, f, xs1, ys1, xs, ys, W, rfl, hW8, hW7.same s8, hO, fun H9 s9 => ⟨true, rfl, ?_⟩⟩⟩
  rw [if_pos rfl]
  exact ⟨y, W, rfl, hy, hO, hyr.trans (rows_text hO), fun r2 c2 f2 xs2 ys2 H10 s10 hW10 => ⟨r2, c2, f2, r, c, f, xs2, ys2, xs, ys, W, rfl, hW10, ((hW7.same s8).same s9).same s10, hO, fun H11 _ => k _⟩⟩
end
theorem all_mk {l : PySem.W.OpenLaw} {w : World} {K : PySem.W.Frag} {h : Heap} {mg : Str → Option Value} {fa : Addr} (X : K.In h) (G : h.Ns mainGlobals mg) (hfa : mg "law" = some (.ref fa)) {f0 f1 f2 f3 f4 f5 f6 f7 f8 f9 f10 f11 f12 f13 f14 f15 f16 f17 f18 f19 f20 f21 f22 f23 f24 f25 f26 f27 f28 f29 f30 f31 : Addr}
    {od0 an0 od1 an1 od2 an2 od3 an3 od4 an4 od5 an5 od6 an6 od7 an7 od8 an8 od9 an9 od10 an10 od11 an11 od12 an12 od13 an13 od14 an14 od15 an15 od16 an16 od17 an17 od18 an18 od19 an19 od20 an20 od21 an21 od22 an22 od23 an23 od24 an24 od25 an25 od26 an26 od27 an27 od28 an28 od29 an29 od30 an30 od31 an31 : Option Addr} {sl0 sl1 sl2 sl3 sl4 sl5 sl6 sl7 sl8 sl9 sl10 sl11 sl12 sl13 sl14 sl15 sl16 sl17 sl18 sl19 sl20 sl21 sl22 sl23 sl24 sl25 sl26 sl27 sl28 sl29 sl30 sl31 : Array (Option Value)} {oc0 kV0 dc0 pm0 cd0 ct0 oc1 kV1 dc1 pm1 cd1 ct1 oc2 kV2 dc2 pm2 cd2 ct2 oc3 kV3 dc3 pm3 cd3 ct3 oc4 kV4 dc4 pm4 cd4 ct4 oc5 kV5 dc5 pm5 cd5 ct5 oc6 kV6 dc6 pm6 cd6 ct6 oc7 kV7 dc7 pm7 cd7 ct7 oc8 kV8 dc8 pm8 cd8 ct8 oc9 kV9 dc9 pm9 cd9 ct9 oc10 kV10 dc10 pm10 cd10 ct10 oc11 kV11 dc11 pm11 cd11 ct11 oc12 kV12 dc12 pm12 cd12 ct12 oc13 kV13 dc13 pm13 cd13 ct13 oc14 kV14 dc14 pm14 cd14 ct14 oc15 kV15 dc15 pm15 cd15 ct15 oc16 kV16 dc16 pm16 cd16 ct16 oc17 kV17 dc17 pm17 cd17 ct17 oc18 kV18 dc18 pm18 cd18 ct18 oc19 kV19 dc19 pm19 cd19 ct19 oc20 kV20 dc20 pm20 cd20 ct20 oc21 kV21 dc21 pm21 cd21 ct21 oc22 kV22 dc22 pm22 cd22 ct22 oc23 kV23 dc23 pm23 cd23 ct23 oc24 kV24 dc24 pm24 cd24 ct24 oc25 kV25 dc25 pm25 cd25 ct25 oc26 kV26 dc26 pm26 cd26 ct26 oc27 kV27 dc27 pm27 cd27 ct27 oc28 kV28 dc28 pm28 cd28 ct28 oc29 kV29 dc29 pm29 cd29 ct29 oc30 kV30 dc30 pm30 cd30 ct30 oc31 kV31 dc31 pm31 cd31 ct31 : Value}
    (a0 : PySem.W.nsIn K mainGlobals "rows_in" = some (some (.ref f0))) (l0 : K.lookup f0 = some ⟨oc0, od0, .func (PySem.W.fnOf "rows_in" "rows_in" (defArgs s_rows_in) (defBody s_rows_in) (defScope s_rows_in) .none kV0 dc0 pm0 an0 cd0 ct0), sl0⟩) (c0 : PySem.W.codeIn K cd0 "rows_in" = true) (k0 : PySem.W.keepIn K (.ref f0) = true)
    (a1 : PySem.W.nsIn K mainGlobals "runs_in" = some (some (.ref f1))) (l1 : K.lookup f1 = some ⟨oc1, od1, .func (PySem.W.fnOf "runs_in" "runs_in" (defArgs s_runs_in) (defBody s_runs_in) (defScope s_runs_in) .none kV1 dc1 pm1 an1 cd1 ct1), sl1⟩) (c1 : PySem.W.codeIn K cd1 "runs_in" = true) (k1 : PySem.W.keepIn K (.ref f1) = true)
    (a2 : PySem.W.nsIn K mainGlobals "is_number" = some (some (.ref f2))) (l2 : K.lookup f2 = some ⟨oc2, od2, .func (PySem.W.fnOf "is_number" "is_number" (defArgs s_is_number) (defBody s_is_number) (defScope s_is_number) .none kV2 dc2 pm2 an2 cd2 ct2), sl2⟩) (c2 : PySem.W.codeIn K cd2 "is_number" = true) (k2 : PySem.W.keepIn K (.ref f2) = true)
    (a3 : PySem.W.nsIn K mainGlobals "begins_and_goes_on" = some (some (.ref f3))) (l3 : K.lookup f3 = some ⟨oc3, od3, .func (PySem.W.fnOf "begins_and_goes_on" "begins_and_goes_on" (defArgs s_begins_and_goes_on) (defBody s_begins_and_goes_on) (defScope s_begins_and_goes_on) .none kV3 dc3 pm3 an3 cd3 ct3), sl3⟩) (c3 : PySem.W.codeIn K cd3 "begins_and_goes_on" = true) (k3 : PySem.W.keepIn K (.ref f3) = true)
    (a4 : PySem.W.nsIn K mainGlobals "is_name" = some (some (.ref f4))) (l4 : K.lookup f4 = some ⟨oc4, od4, .func (PySem.W.fnOf "is_name" "is_name" (defArgs s_is_name) (defBody s_is_name) (defScope s_is_name) .none kV4 dc4 pm4 an4 cd4 ct4), sl4⟩) (c4 : PySem.W.codeIn K cd4 "is_name" = true) (k4 : PySem.W.keepIn K (.ref f4) = true)
    (a5 : PySem.W.nsIn K mainGlobals "is_word" = some (some (.ref f5))) (l5 : K.lookup f5 = some ⟨oc5, od5, .func (PySem.W.fnOf "is_word" "is_word" (defArgs s_is_word) (defBody s_is_word) (defScope s_is_word) .none kV5 dc5 pm5 an5 cd5 ct5), sl5⟩) (c5 : PySem.W.codeIn K cd5 "is_word" = true) (k5 : PySem.W.keepIn K (.ref f5) = true)
    (a6 : PySem.W.nsIn K mainGlobals "fit_world" = some (some (.ref f6))) (l6 : K.lookup f6 = some ⟨oc6, od6, .func (PySem.W.fnOf "fit_world" "fit_world" (defArgs s_fit_world) (defBody s_fit_world) (defScope s_fit_world) .none kV6 dc6 pm6 an6 cd6 ct6), sl6⟩) (c6 : PySem.W.codeIn K cd6 "fit_world" = true) (k6 : PySem.W.keepIn K (.ref f6) = true)
    (a7 : PySem.W.nsIn K mainGlobals "fit_called" = some (some (.ref f7))) (l7 : K.lookup f7 = some ⟨oc7, od7, .func (PySem.W.fnOf "fit_called" "fit_called" (defArgs s_fit_called) (defBody s_fit_called) (defScope s_fit_called) .none kV7 dc7 pm7 an7 cd7 ct7), sl7⟩) (c7 : PySem.W.codeIn K cd7 "fit_called" = true) (k7 : PySem.W.keepIn K (.ref f7) = true)
    (a8 : PySem.W.nsIn K mainGlobals "fit_facts" = some (some (.ref f8))) (l8 : K.lookup f8 = some ⟨oc8, od8, .func (PySem.W.fnOf "fit_facts" "fit_facts" (defArgs s_fit_facts) (defBody s_fit_facts) (defScope s_fit_facts) .none kV8 dc8 pm8 an8 cd8 ct8), sl8⟩) (c8 : PySem.W.codeIn K cd8 "fit_facts" = true) (k8 : PySem.W.keepIn K (.ref f8) = true)
    (a9 : PySem.W.nsIn K mainGlobals "is_thing" = some (some (.ref f9))) (l9 : K.lookup f9 = some ⟨oc9, od9, .func (PySem.W.fnOf "is_thing" "is_thing" (defArgs s_is_thing) (defBody s_is_thing) (defScope s_is_thing) .none kV9 dc9 pm9 an9 cd9 ct9), sl9⟩) (c9 : PySem.W.codeIn K cd9 "is_thing" = true) (k9 : PySem.W.keepIn K (.ref f9) = true)
    (a10 : PySem.W.nsIn K mainGlobals "rises" = some (some (.ref f10))) (l10 : K.lookup f10 = some ⟨oc10, od10, .func (PySem.W.fnOf "rises" "rises" (defArgs s_rises) (defBody s_rises) (defScope s_rises) .none kV10 dc10 pm10 an10 cd10 ct10), sl10⟩) (c10 : PySem.W.codeIn K cd10 "rises" = true) (k10 : PySem.W.keepIn K (.ref f10) = true)
    (a11 : PySem.W.nsIn K mainGlobals "world_text" = some (some (.ref f11))) (l11 : K.lookup f11 = some ⟨oc11, od11, .func (PySem.W.fnOf "world_text" "world_text" (defArgs s_world_text) (defBody s_world_text) (defScope s_world_text) .none kV11 dc11 pm11 an11 cd11 ct11), sl11⟩) (c11 : PySem.W.codeIn K cd11 "world_text" = true) (k11 : PySem.W.keepIn K (.ref f11) = true)
    (a12 : PySem.W.nsIn K mainGlobals "read_world" = some (some (.ref f12))) (l12 : K.lookup f12 = some ⟨oc12, od12, .func (PySem.W.fnOf "read_world" "read_world" (defArgs s_read_world) (defBody s_read_world) (defScope s_read_world) .none kV12 dc12 pm12 an12 cd12 ct12), sl12⟩) (c12 : PySem.W.codeIn K cd12 "read_world" = true) (k12 : PySem.W.keepIn K (.ref f12) = true)
    (a13 : PySem.W.nsIn K mainGlobals "read_size" = some (some (.ref f13))) (l13 : K.lookup f13 = some ⟨oc13, od13, .func (PySem.W.fnOf "read_size" "read_size" (defArgs s_read_size) (defBody s_read_size) (defScope s_read_size) .none kV13 dc13 pm13 an13 cd13 ct13), sl13⟩) (c13 : PySem.W.codeIn K cd13 "read_size" = true) (k13 : PySem.W.keepIn K (.ref f13) = true)
    (a14 : PySem.W.nsIn K mainGlobals "is_names_row" = some (some (.ref f14))) (l14 : K.lookup f14 = some ⟨oc14, od14, .func (PySem.W.fnOf "is_names_row" "is_names_row" (defArgs s_is_names_row) (defBody s_is_names_row) (defScope s_is_names_row) .none kV14 dc14 pm14 an14 cd14 ct14), sl14⟩) (c14 : PySem.W.codeIn K cd14 "is_names_row" = true) (k14 : PySem.W.keepIn K (.ref f14) = true)
    (a15 : PySem.W.nsIn K mainGlobals "read_fact" = some (some (.ref f15))) (l15 : K.lookup f15 = some ⟨oc15, od15, .func (PySem.W.fnOf "read_fact" "read_fact" (defArgs s_read_fact) (defBody s_read_fact) (defScope s_read_fact) .none kV15 dc15 pm15 an15 cd15 ct15), sl15⟩) (c15 : PySem.W.codeIn K cd15 "read_fact" = true) (k15 : PySem.W.keepIn K (.ref f15) = true)
    (a16 : PySem.W.nsIn K mainGlobals "read_number" = some (some (.ref f16))) (l16 : K.lookup f16 = some ⟨oc16, od16, .func (PySem.W.fnOf "read_number" "read_number" (defArgs s_read_number) (defBody s_read_number) (defScope s_read_number) .none kV16 dc16 pm16 an16 cd16 ct16), sl16⟩) (c16 : PySem.W.codeIn K cd16 "read_number" = true) (k16 : PySem.W.keepIn K (.ref f16) = true)
    (a17 : PySem.W.nsIn K mainGlobals "_law_cell_at" = some (some (.ref f17))) (l17 : K.lookup f17 = some ⟨oc17, od17, .func (PySem.W.fnOf "_law_cell_at" "_law_cell_at" (defArgs s_cell_at_L) (defBody s_cell_at_L) (defScope s_cell_at_L) .none kV17 dc17 pm17 an17 cd17 ct17), sl17⟩) (c17 : PySem.W.codeIn K cd17 "_law_cell_at" = true) (k17 : PySem.W.keepIn K (.ref f17) = true)
    (a18 : PySem.W.nsIn K mainGlobals "_law_whole" = some (some (.ref f18))) (l18 : K.lookup f18 = some ⟨oc18, od18, .func (PySem.W.fnOf "_law_whole" "_law_whole" (defArgs s_whole_L) (defBody s_whole_L) (defScope s_whole_L) .none kV18 dc18 pm18 an18 cd18 ct18), sl18⟩) (c18 : PySem.W.codeIn K cd18 "_law_whole" = true) (k18 : PySem.W.keepIn K (.ref f18) = true)
    (a19 : PySem.W.nsIn K mainGlobals "_law_mixed" = some (some (.ref f19))) (l19 : K.lookup f19 = some ⟨oc19, od19, .func (PySem.W.fnOf "_law_mixed" "_law_mixed" (defArgs s_mixed_L) (defBody s_mixed_L) (defScope s_mixed_L) .none kV19 dc19 pm19 an19 cd19 ct19), sl19⟩) (c19 : PySem.W.codeIn K cd19 "_law_mixed" = true) (k19 : PySem.W.keepIn K (.ref f19) = true)
    (a20 : PySem.W.nsIn K mainGlobals "_law_name_by" = some (some (.ref f20))) (l20 : K.lookup f20 = some ⟨oc20, od20, .func (PySem.W.fnOf "_law_name_by" "_law_name_by" (defArgs s_name_by_L) (defBody s_name_by_L) (defScope s_name_by_L) .none kV20 dc20 pm20 an20 cd20 ct20), sl20⟩) (c20 : PySem.W.codeIn K cd20 "_law_name_by" = true) (k20 : PySem.W.keepIn K (.ref f20) = true)
    (a21 : PySem.W.nsIn K mainGlobals "_law_thing_name" = some (some (.ref f21))) (l21 : K.lookup f21 = some ⟨oc21, od21, .func (PySem.W.fnOf "_law_thing_name" "_law_thing_name" (defArgs s_thing_name_L) (defBody s_thing_name_L) (defScope s_thing_name_L) .none kV21 dc21 pm21 an21 cd21 ct21), sl21⟩) (c21 : PySem.W.codeIn K cd21 "_law_thing_name" = true) (k21 : PySem.W.keepIn K (.ref f21) = true)
    (a22 : PySem.W.nsIn K mainGlobals "_law_word" = some (some (.ref f22))) (l22 : K.lookup f22 = some ⟨oc22, od22, .func (PySem.W.fnOf "_law_word" "_law_word" (defArgs s_word_L) (defBody s_word_L) (defScope s_word_L) .none kV22 dc22 pm22 an22 cd22 ct22), sl22⟩) (c22 : PySem.W.codeIn K cd22 "_law_word" = true) (k22 : PySem.W.keepIn K (.ref f22) = true)
    (a23 : PySem.W.nsIn K mainGlobals "_law_facts_by" = some (some (.ref f23))) (l23 : K.lookup f23 = some ⟨oc23, od23, .func (PySem.W.fnOf "_law_facts_by" "_law_facts_by" (defArgs s_facts_by_L) (defBody s_facts_by_L) (defScope s_facts_by_L) .none kV23 dc23 pm23 an23 cd23 ct23), sl23⟩) (c23 : PySem.W.codeIn K cd23 "_law_facts_by" = true) (k23 : PySem.W.keepIn K (.ref f23) = true)
    (a24 : PySem.W.nsIn K mainGlobals "_law_size_by" = some (some (.ref f24))) (l24 : K.lookup f24 = some ⟨oc24, od24, .func (PySem.W.fnOf "_law_size_by" "_law_size_by" (defArgs s_size_by_L) (defBody s_size_by_L) (defScope s_size_by_L) .none kV24 dc24 pm24 an24 cd24 ct24), sl24⟩) (c24 : PySem.W.codeIn K cd24 "_law_size_by" = true) (k24 : PySem.W.keepIn K (.ref f24) = true)
    (a25 : PySem.W.nsIn K mainGlobals "_law_world_by" = some (some (.ref f25))) (l25 : K.lookup f25 = some ⟨oc25, od25, .func (PySem.W.fnOf "_law_world_by" "_law_world_by" (defArgs s_world_by_L) (defBody s_world_by_L) (defScope s_world_by_L) .none kV25 dc25 pm25 an25 cd25 ct25), sl25⟩) (c25 : PySem.W.codeIn K cd25 "_law_world_by" = true) (k25 : PySem.W.keepIn K (.ref f25) = true)
    (a26 : PySem.W.nsIn K mainGlobals "_law_fewer" = some (some (.ref f26))) (l26 : K.lookup f26 = some ⟨oc26, od26, .func (PySem.W.fnOf "_law_fewer" "_law_fewer" (defArgs s_fewer_L) (defBody s_fewer_L) (defScope s_fewer_L) .none kV26 dc26 pm26 an26 cd26 ct26), sl26⟩) (c26 : PySem.W.codeIn K cd26 "_law_fewer" = true) (k26 : PySem.W.keepIn K (.ref f26) = true)
    (a27 : PySem.W.nsIn K mainGlobals "_law_text_of" = some (some (.ref f27))) (l27 : K.lookup f27 = some ⟨oc27, od27, .func (PySem.W.fnOf "_law_text_of" "_law_text_of" (defArgs s_text_of_L) (defBody s_text_of_L) (defScope s_text_of_L) .none kV27 dc27 pm27 an27 cd27 ct27), sl27⟩) (c27 : PySem.W.codeIn K cd27 "_law_text_of" = true) (k27 : PySem.W.keepIn K (.ref f27) = true)
    (a28 : PySem.W.nsIn K mainGlobals "_law_with_blanks" = some (some (.ref f28))) (l28 : K.lookup f28 = some ⟨oc28, od28, .func (PySem.W.fnOf "_law_with_blanks" "_law_with_blanks" (defArgs s_with_blanks_L) (defBody s_with_blanks_L) (defScope s_with_blanks_L) .none kV28 dc28 pm28 an28 cd28 ct28), sl28⟩) (c28 : PySem.W.codeIn K cd28 "_law_with_blanks" = true) (k28 : PySem.W.keepIn K (.ref f28) = true)
    (a29 : PySem.W.nsIn K mainGlobals "_law_read" = some (some (.ref f29))) (l29 : K.lookup f29 = some ⟨oc29, od29, .func (PySem.W.fnOf "_law_read" "_law_read" (defArgs s_read_L) (defBody s_read_L) (defScope s_read_L) .none kV29 dc29 pm29 an29 cd29 ct29), sl29⟩) (c29 : PySem.W.codeIn K cd29 "_law_read" = true) (k29 : PySem.W.keepIn K (.ref f29) = true)
    (a30 : PySem.W.nsIn K mainGlobals "_law_alike" = some (some (.ref f30))) (l30 : K.lookup f30 = some ⟨oc30, od30, .func (PySem.W.fnOf "_law_alike" "_law_alike" (defArgs s_alike_L) (defBody s_alike_L) (defScope s_alike_L) .none kV30 dc30 pm30 an30 cd30 ct30), sl30⟩) (c30 : PySem.W.codeIn K cd30 "_law_alike" = true) (k30 : PySem.W.keepIn K (.ref f30) = true)
    (a31 : PySem.W.nsIn K mainGlobals "law" = some (some (.ref f31))) (l31 : K.lookup f31 = some ⟨oc31, od31, .func (PySem.W.fnOf "law" "law" (defArgs s_law) (defBody s_law) (defScope s_law) .none kV31 dc31 pm31 an31 cd31 ct31), sl31⟩) (c31 : PySem.W.codeIn K cd31 "law" = true) (k31 : PySem.W.keepIn K (.ref f31) = true)
    {t0 : Tok} (g0 : PySem.W.nsIn K mainGlobals "FIGURES" = some (some (.str "0123456789" t0)))
    {t1 : Tok} (g1 : PySem.W.nsIn K mainGlobals "MOST_FIGURES" = some (some (.int 4 t1)))
    {t2 : Tok} (g2 : PySem.W.nsIn K mainGlobals "SMALL" = some (some (.str "abcdefghijklmnopqrstuvwxyz" t2)))
    {t3 : Tok} (g3 : PySem.W.nsIn K mainGlobals "SMALL_OR_FIGURE" = some (some (.str "abcdefghijklmnopqrstuvwxyz0123456789" t3)))
    {p4 : Addr} {dd4 : Option Addr} {nn4 : Nat} {ss4 : Array (Option Value)} {u4_0 u4_1 u4_2 u4_3 u4_4 u4_5 u4_6 : Tok} (g4 : PySem.W.nsIn K mainGlobals "KEPT_WORDS" = some (some (.ref p4))) (q4 : K.lookup p4 = some ⟨.type "tuple", dd4, .seq #[Value.str "not" u4_0, Value.str "and" u4_1, Value.str "or" u4_2, Value.str "then" u4_3, Value.str "all" u4_4, Value.str "some" u4_5, Value.str "false" u4_6] nn4, ss4⟩)
    {t5 : Tok} (g5 : PySem.W.nsIn K mainGlobals "MOST_SIGNS" = some (some (.int 8 t5)))
    {t6 : Tok} (g6 : PySem.W.nsIn K mainGlobals "MOST_THINGS_OF_A_FACT" = some (some (.int 3 t6)))
    {xnm0 xq0 : Str} {xC0 xN0 : Addr} {xbs0 : List Value} {xh0 : Bool} {xsn0 : List Str} {xsu0 : List Value} {xab0 : Bool} {xco0 : Option Bool} {xdd0 xod0 : Option Addr} {xka0 xkb0 xkc0 xkd0 xke0 : Option Value} {xoc0 : Value} {xes0 : List DictEntry} {xep0 : Nat} {xsl0 : Array (Option Value)}
    (xa0 : PySem.W.nsIn K mainGlobals "BoxError" = some (some (.ref xC0))) (xl0 : K.lookup xC0 = some (excClassObj xnm0 xq0 xC0 xN0 xbs0 ([.type "ValueError", .type "Exception", .type "BaseException", .type "object"]) xh0 xsn0 xsu0 xab0 xco0 xdd0 xka0 xkb0 xkc0 xkd0 xke0 "ValueError.__new__"))
    (xn0 : K.lookup xN0 = some ⟨xoc0, xod0, .dict (List.toArray xes0) xep0, xsl0⟩) (xy0 : (xes0.all fun e => match e.key with | .str _ _ => true | _ => false) = true) (xp0 : PySem.W.nsIn K xN0 "__init__" = some none) (xr0 : PySem.W.nsIn K xN0 "__getattribute__" = some none) (xu0 : PySem.W.nsIn K xN0 "__getattr__" = some none) (xv0 : PySem.W.nsIn K xN0 "__class__" = some none)
    {xnm1 xq1 : Str} {xC1 xN1 : Addr} {xbs1 : List Value} {xh1 : Bool} {xsn1 : List Str} {xsu1 : List Value} {xab1 : Bool} {xco1 : Option Bool} {xdd1 xod1 : Option Addr} {xka1 xkb1 xkc1 xkd1 xke1 : Option Value} {xoc1 : Value} {xes1 : List DictEntry} {xep1 : Nat} {xsl1 : Array (Option Value)}
    (xa1 : PySem.W.nsIn K mainGlobals "NoWorld" = some (some (.ref xC1))) (xl1 : K.lookup xC1 = some (excClassObj xnm1 xq1 xC1 xN1 xbs1 (Value.ref xC0 :: [.type "ValueError", .type "Exception", .type "BaseException", .type "object"]) xh1 xsn1 xsu1 xab1 xco1 xdd1 xka1 xkb1 xkc1 xkd1 xke1 "ValueError.__new__"))
    (xn1 : K.lookup xN1 = some ⟨xoc1, xod1, .dict (List.toArray xes1) xep1, xsl1⟩) (xy1 : (xes1.all fun e => match e.key with | .str _ _ => true | _ => false) = true) (xp1 : PySem.W.nsIn K xN1 "__init__" = some none) (xr1 : PySem.W.nsIn K xN1 "__getattribute__" = some none) (xu1 : PySem.W.nsIn K xN1 "__getattr__" = some none) (xv1 : PySem.W.nsIn K xN1 "__class__" = some none)
    (xm_NoWorld_NoWorld : PySem.W.mroIn K xC1 (.ref xC1) = some true) (xi_NoWorld_NoWorld : PySem.W.kitOne K (.ref xC1) (.ref xC1) = some true)
    (z_all : PySem.W.nsIn K mainGlobals "all" = some none)
    (z_bool : PySem.W.nsIn K mainGlobals "bool" = some none)
    (z_int : PySem.W.nsIn K mainGlobals "int" = some none)
    (z_isinstance : PySem.W.nsIn K mainGlobals "isinstance" = some none)
    (z_len : PySem.W.nsIn K mainGlobals "len" = some none)
    (z_list : PySem.W.nsIn K mainGlobals "list" = some none)
    (z_range : PySem.W.nsIn K mainGlobals "range" = some none)
    (z_sorted : PySem.W.nsIn K mainGlobals "sorted" = some none)
    (z_str : PySem.W.nsIn K mainGlobals "str" = some none)
    (z_tuple : PySem.W.nsIn K mainGlobals "tuple" = some none)
    (OK : ∀ (P : Program) (D : Defs) (base : Heap), Tx K mg D → FnOk P w K mg base CX0 8 D.a_law D.d_law ["_law_script"] (spLaw K)) :
    ∃ fd : FuncData, (∀ (s : Shared) (v : Value), BindsTo s fd ⟨[v], []⟩ [("_law_script", v)]) ∧ ∀ base : Heap, K.In base → base.Ns mainGlobals mg → FnOk l.prog w K mg base CX0 8 fa fd ["_law_script"] (spLaw K) := by
  have e := hfa.symm.trans (PySem.W.mg_of X G a31)
  cases e
  have F0 := fun_mk (st := s_rows_in) l0 c0 k0
  have b0 := F0.binds (ps := ["text"]) fun _ _ _ _ _ _ us hl => match us, hl with | [_], _ => rfl
  have F1 := fun_mk (st := s_runs_in) l1 c1 k1
  have b1 := F1.binds (ps := ["row"]) fun _ _ _ _ _ _ us hl => match us, hl with | [_], _ => rfl
  have F2 := fun_mk (st := s_is_number) l2 c2 k2
  have b2 := F2.binds (ps := ["text"]) fun _ _ _ _ _ _ us hl => match us, hl with | [_], _ => rfl
  have F3 := fun_mk (st := s_begins_and_goes_on) l3 c3 k3
  have b3 := F3.binds (ps := ["text", "first_signs"]) fun _ _ _ _ _ _ us hl => match us, hl with | [_, _], _ => rfl
  have F4 := fun_mk (st := s_is_name) l4 c4 k4
  have b4 := F4.binds (ps := ["text"]) fun _ _ _ _ _ _ us hl => match us, hl with | [_], _ => rfl
  have F5 := fun_mk (st := s_is_word) l5 c5 k5
  have b5 := F5.binds (ps := ["text"]) fun _ _ _ _ _ _ us hl => match us, hl with | [_], _ => rfl
  have F6 := fun_mk (st := s_fit_world) l6 c6 k6
  have b6 := F6.binds (ps := ["world"]) fun _ _ _ _ _ _ us hl => match us, hl with | [_], _ => rfl
  have F7 := fun_mk (st := s_fit_called) l7 c7 k7
  have b7 := F7.binds (ps := ["called", "size"]) fun _ _ _ _ _ _ us hl => match us, hl with | [_, _], _ => rfl
  have F8 := fun_mk (st := s_fit_facts) l8 c8 k8
  have b8 := F8.binds (ps := ["facts", "size"]) fun _ _ _ _ _ _ us hl => match us, hl with | [_, _], _ => rfl
  have F9 := fun_mk (st := s_is_thing) l9 c9 k9
  have b9 := F9.binds (ps := ["thing", "size"]) fun _ _ _ _ _ _ us hl => match us, hl with | [_, _], _ => rfl
  have F10 := fun_mk (st := s_rises) l10 c10 k10
  have b10 := F10.binds (ps := ["row"]) fun _ _ _ _ _ _ us hl => match us, hl with | [_], _ => rfl
  have F11 := fun_mk (st := s_world_text) l11 c11 k11
  have b11 := F11.binds (ps := ["world"]) fun _ _ _ _ _ _ us hl => match us, hl with | [_], _ => rfl
  have F12 := fun_mk (st := s_read_world) l12 c12 k12
  have b12 := F12.binds (ps := ["text"]) fun _ _ _ _ _ _ us hl => match us, hl with | [_], _ => rfl
  have F13 := fun_mk (st := s_read_size) l13 c13 k13
  have b13 := F13.binds (ps := ["row"]) fun _ _ _ _ _ _ us hl => match us, hl with | [_], _ => rfl
  have F14 := fun_mk (st := s_is_names_row) l14 c14 k14
  have b14 := F14.binds (ps := ["row"]) fun _ _ _ _ _ _ us hl => match us, hl with | [_], _ => rfl
  have F15 := fun_mk (st := s_read_fact) l15 c15 k15
  have b15 := F15.binds (ps := ["row"]) fun _ _ _ _ _ _ us hl => match us, hl with | [_], _ => rfl
  have F16 := fun_mk (st := s_read_number) l16 c16 k16
  have b16 := F16.binds (ps := ["run"]) fun _ _ _ _ _ _ us hl => match us, hl with | [_], _ => rfl
  have F17 := fun_mk (st := s_cell_at_L) l17 c17 k17
  have b17 := F17.binds (ps := ["_law_script", "_law_k"]) fun _ _ _ _ _ _ us hl => match us, hl with | [_, _], _ => rfl
  have F18 := fun_mk (st := s_whole_L) l18 c18 k18
  have b18 := F18.binds (ps := ["_law_found"]) fun _ _ _ _ _ _ us hl => match us, hl with | [_], _ => rfl
  have F19 := fun_mk (st := s_mixed_L) l19 c19 k19
  have b19 := F19.binds (ps := ["_law_script", "_law_k"]) fun _ _ _ _ _ _ us hl => match us, hl with | [_, _], _ => rfl
  have F20 := fun_mk (st := s_name_by_L) l20 c20 k20
  have b20 := F20.binds (ps := ["_law_number", "_law_firsts", "_law_turn"]) fun _ _ _ _ _ _ us hl => match us, hl with | [_, _, _], _ => rfl
  have F21 := fun_mk (st := s_thing_name_L) l21 c21 k21
  have b21 := F21.binds (ps := ["_law_base", "_law_turn"]) fun _ _ _ _ _ _ us hl => match us, hl with | [_, _], _ => rfl
  have F22 := fun_mk (st := s_word_L) l22 c22 k22
  have b22 := F22.binds (ps := ["_law_base", "_law_turn"]) fun _ _ _ _ _ _ us hl => match us, hl with | [_, _], _ => rfl
  have F23 := fun_mk (st := s_facts_by_L) l23 c23 k23
  have b23 := F23.binds (ps := ["_law_script", "_law_at", "_law_base", "_law_size"]) fun _ _ _ _ _ _ us hl => match us, hl with | [_, _, _, _], _ => rfl
  have F24 := fun_mk (st := s_size_by_L) l24 c24 k24
  have b24 := F24.binds (ps := ["_law_script"]) fun _ _ _ _ _ _ us hl => match us, hl with | [_], _ => rfl
  have F25 := fun_mk (st := s_world_by_L) l25 c25 k25
  have b25 := F25.binds (ps := ["_law_script", "_law_base"]) fun _ _ _ _ _ _ us hl => match us, hl with | [_, _], _ => rfl
  have F26 := fun_mk (st := s_fewer_L) l26 c26 k26
  have b26 := F26.binds (ps := ["_law_world", "_law_cell"]) fun _ _ _ _ _ _ us hl => match us, hl with | [_, _], _ => rfl
  have F27 := fun_mk (st := s_text_of_L) l27 c27 k27
  have b27 := F27.binds (ps := ["_law_world"]) fun _ _ _ _ _ _ us hl => match us, hl with | [_], _ => rfl
  have F28 := fun_mk (st := s_with_blanks_L) l28 c28 k28
  have b28 := F28.binds (ps := ["_law_text", "_law_cell"]) fun _ _ _ _ _ _ us hl => match us, hl with | [_, _], _ => rfl
  have F29 := fun_mk (st := s_read_L) l29 c29 k29
  have b29 := F29.binds (ps := ["_law_text"]) fun _ _ _ _ _ _ us hl => match us, hl with | [_], _ => rfl
  have F30 := fun_mk (st := s_alike_L) l30 c30 k30
  have b30 := F30.binds (ps := ["_law_found", "_law_world"]) fun _ _ _ _ _ _ us hl => match us, hl with | [_, _], _ => rfl
  have F31 := fun_mk (st := s_law) l31 c31 k31
  have b31 := F31.binds (ps := ["_law_script"]) fun _ _ _ _ _ _ us hl => match us, hl with | [_], _ => rfl
  let D : Defs := ⟨f0, PySem.W.fnOf "rows_in" "rows_in" (defArgs s_rows_in) (defBody s_rows_in) (defScope s_rows_in) .none kV0 dc0 pm0 an0 cd0 ct0, f1, PySem.W.fnOf "runs_in" "runs_in" (defArgs s_runs_in) (defBody s_runs_in) (defScope s_runs_in) .none kV1 dc1 pm1 an1 cd1 ct1, f2, PySem.W.fnOf "is_number" "is_number" (defArgs s_is_number) (defBody s_is_number) (defScope s_is_number) .none kV2 dc2 pm2 an2 cd2 ct2, f3, PySem.W.fnOf "begins_and_goes_on" "begins_and_goes_on" (defArgs s_begins_and_goes_on) (defBody s_begins_and_goes_on) (defScope s_begins_and_goes_on) .none kV3 dc3 pm3 an3 cd3 ct3, f4, PySem.W.fnOf "is_name" "is_name" (defArgs s_is_name) (defBody s_is_name) (defScope s_is_name) .none kV4 dc4 pm4 an4 cd4 ct4, f5, PySem.W.fnOf "is_word" "is_word" (defArgs s_is_word) (defBody s_is_word) (defScope s_is_word) .none kV5 dc5 pm5 an5 cd5 ct5, f6, PySem.W.fnOf "fit_world" "fit_world" (defArgs s_fit_world) (defBody s_fit_world) (defScope s_fit_world) .none kV6 dc6 pm6 an6 cd6 ct6, f7, PySem.W.fnOf "fit_called" "fit_called" (defArgs s_fit_called) (defBody s_fit_called) (defScope s_fit_called) .none kV7 dc7 pm7 an7 cd7 ct7, f8, PySem.W.fnOf "fit_facts" "fit_facts" (defArgs s_fit_facts) (defBody s_fit_facts) (defScope s_fit_facts) .none kV8 dc8 pm8 an8 cd8 ct8, f9, PySem.W.fnOf "is_thing" "is_thing" (defArgs s_is_thing) (defBody s_is_thing) (defScope s_is_thing) .none kV9 dc9 pm9 an9 cd9 ct9, f10, PySem.W.fnOf "rises" "rises" (defArgs s_rises) (defBody s_rises) (defScope s_rises) .none kV10 dc10 pm10 an10 cd10 ct10, f11, PySem.W.fnOf "world_text" "world_text" (defArgs s_world_text) (defBody s_world_text) (defScope s_world_text) .none kV11 dc11 pm11 an11 cd11 ct11, f12, PySem.W.fnOf "read_world" "read_world" (defArgs s_read_world) (defBody s_read_world) (defScope s_read_world) .none kV12 dc12 pm12 an12 cd12 ct12, f13, PySem.W.fnOf "read_size" "read_size" (defArgs s_read_size) (defBody s_read_size) (defScope s_read_size) .none kV13 dc13 pm13 an13 cd13 ct13, f14, PySem.W.fnOf "is_names_row" "is_names_row" (defArgs s_is_names_row) (defBody s_is_names_row) (defScope s_is_names_row) .none kV14 dc14 pm14 an14 cd14 ct14, f15, PySem.W.fnOf "read_fact" "read_fact" (defArgs s_read_fact) (defBody s_read_fact) (defScope s_read_fact) .none kV15 dc15 pm15 an15 cd15 ct15, f16, PySem.W.fnOf "read_number" "read_number" (defArgs s_read_number) (defBody s_read_number) (defScope s_read_number) .none kV16 dc16 pm16 an16 cd16 ct16, f17, PySem.W.fnOf "_law_cell_at" "_law_cell_at" (defArgs s_cell_at_L) (defBody s_cell_at_L) (defScope s_cell_at_L) .none kV17 dc17 pm17 an17 cd17 ct17, f18, PySem.W.fnOf "_law_whole" "_law_whole" (defArgs s_whole_L) (defBody s_whole_L) (defScope s_whole_L) .none kV18 dc18 pm18 an18 cd18 ct18, f19, PySem.W.fnOf "_law_mixed" "_law_mixed" (defArgs s_mixed_L) (defBody s_mixed_L) (defScope s_mixed_L) .none kV19 dc19 pm19 an19 cd19 ct19, f20, PySem.W.fnOf "_law_name_by" "_law_name_by" (defArgs s_name_by_L) (defBody s_name_by_L) (defScope s_name_by_L) .none kV20 dc20 pm20 an20 cd20 ct20, f21, PySem.W.fnOf "_law_thing_name" "_law_thing_name" (defArgs s_thing_name_L) (defBody s_thing_name_L) (defScope s_thing_name_L) .none kV21 dc21 pm21 an21 cd21 ct21, f22, PySem.W.fnOf "_law_word" "_law_word" (defArgs s_word_L) (defBody s_word_L) (defScope s_word_L) .none kV22 dc22 pm22 an22 cd22 ct22, f23, PySem.W.fnOf "_law_facts_by" "_law_facts_by" (defArgs s_facts_by_L) (defBody s_facts_by_L) (defScope s_facts_by_L) .none kV23 dc23 pm23 an23 cd23 ct23, f24, PySem.W.fnOf "_law_size_by" "_law_size_by" (defArgs s_size_by_L) (defBody s_size_by_L) (defScope s_size_by_L) .none kV24 dc24 pm24 an24 cd24 ct24, f25, PySem.W.fnOf "_law_world_by" "_law_world_by" (defArgs s_world_by_L) (defBody s_world_by_L) (defScope s_world_by_L) .none kV25 dc25 pm25 an25 cd25 ct25, f26, PySem.W.fnOf "_law_fewer" "_law_fewer" (defArgs s_fewer_L) (defBody s_fewer_L) (defScope s_fewer_L) .none kV26 dc26 pm26 an26 cd26 ct26, f27, PySem.W.fnOf "_law_text_of" "_law_text_of" (defArgs s_text_of_L) (defBody s_text_of_L) (defScope s_text_of_L) .none kV27 dc27 pm27 an27 cd27 ct27, f28, PySem.W.fnOf "_law_with_blanks" "_law_with_blanks" (defArgs s_with_blanks_L) (defBody s_with_blanks_L) (defScope s_with_blanks_L) .none kV28 dc28 pm28 an28 cd28 ct28, f29, PySem.W.fnOf "_law_read" "_law_read" (defArgs s_read_L) (defBody s_read_L) (defScope s_read_L) .none kV29 dc29 pm29 an29 cd29 ct29, f30, PySem.W.fnOf "_law_alike" "_law_alike" (defArgs s_alike_L) (defBody s_alike_L) (defScope s_alike_L) .none kV30 dc30 pm30 an30 cd30 ct30, fa, PySem.W.fnOf "law" "law" (defArgs s_law) (defBody s_law) (defScope s_law) .none kV31 dc31 pm31 an31 cd31 ct31, p4, xC0, xC1⟩
  have T : Tx K mg D := ⟨F0, PySem.W.mg_of X G a0, b0, F1, PySem.W.mg_of X G a1, b1, F2, PySem.W.mg_of X G a2, b2, F3, PySem.W.mg_of X G a3, b3, F4, PySem.W.mg_of X G a4, b4, F5, PySem.W.mg_of X G a5, b5, F6, PySem.W.mg_of X G a6, b6, F7, PySem.W.mg_of X G a7, b7, F8, PySem.W.mg_of X G a8, b8, F9, PySem.W.mg_of X G a9, b9, F10, PySem.W.mg_of X G a10, b10, F11, PySem.W.mg_of X G a11, b11, F12, PySem.W.mg_of X G a12, b12, F13, PySem.W.mg_of X G a13, b13, F14, PySem.W.mg_of X G a14, b14, F15, PySem.W.mg_of X G a15, b15, F16, PySem.W.mg_of X G a16, b16, F17, PySem.W.mg_of X G a17, b17, F18, PySem.W.mg_of X G a18, b18, F19, PySem.W.mg_of X G a19, b19, F20, PySem.W.mg_of X G a20, b20, F21, PySem.W.mg_of X G a21, b21, F22, PySem.W.mg_of X G a22, b22, F23, PySem.W.mg_of X G a23, b23, F24, PySem.W.mg_of X G a24, b24, F25, PySem.W.mg_of X G a25, b25, F26, PySem.W.mg_of X G a26, b26, F27, PySem.W.mg_of X G a27, b27, F28, PySem.W.mg_of X G a28, b28, F29, PySem.W.mg_of X G a29, b29, F30, PySem.W.mg_of X G a30, b30, F31, PySem.W.mg_of X G a31, b31, ⟨_, PySem.W.mg_of X G g0⟩, ⟨_, PySem.W.mg_of X G g1⟩, ⟨_, PySem.W.mg_of X G g2⟩, ⟨_, PySem.W.mg_of X G g3⟩, PySem.W.mg_of X G g4, fun H => .inr ⟨_, _, _, q4, rfl, rfl, (by show 7 ≤ sizeLine; decide), (.cons ⟨_, rfl⟩ (.cons ⟨_, rfl⟩ (.cons ⟨_, rfl⟩ (.cons ⟨_, rfl⟩ (.cons ⟨_, rfl⟩ (.cons ⟨_, rfl⟩ (.cons ⟨_, rfl⟩ .nil)))))))⟩, ⟨_, PySem.W.mg_of X G g5⟩, ⟨_, PySem.W.mg_of X G g6⟩, PySem.W.mg_none_of X G z_all, PySem.W.mg_none_of X G z_bool, PySem.W.mg_none_of X G z_int, PySem.W.mg_none_of X G z_isinstance, PySem.W.mg_none_of X G z_len, PySem.W.mg_none_of X G z_list, PySem.W.mg_none_of X G z_range, PySem.W.mg_none_of X G z_sorted, PySem.W.mg_none_of X G z_str, PySem.W.mg_none_of X G z_tuple, xcls0 (PySem.W.mg_of X G xa0) xl0 ⟨⟨_, _, _, _, _, xn0, xy0⟩, xp0, xr0, xu0, xv0⟩, xcls1 (PySem.W.mg_of X G xa1) xl1 ⟨⟨_, _, _, _, _, xn1, xy1⟩, xp1, xr1, xu1, xv1⟩ xl0 ⟨⟨_, _, _, _, _, xn0, xy0⟩, xp0, xr0, xu0, xv0⟩, subx_of xl1 xl1 rfl xm_NoWorld_NoWorld, xi_NoWorld_NoWorld⟩
  exact ⟨_, fun s v => .of_eq rfl, fun base _ _ => OK l.prog D base T⟩
theorem walk {l : PySem.W.OpenLaw} {q : Program} {loose : List Str} {XP : (Str → Option Value) → Heap → Prop} {YP : World → Heap → Prop} {d : DefRec} {K : Params → PySem.W.Frag} (hn : l.most = some 63) (hdf : d.params.defaults = [])
    (hY : ∀ (w : World) (h : Heap), YP w h → (K w.params).In h)
    (F : ∀ (w : World) (mg : Str → Option Value) (fa : Addr) (h : Heap), (K w.params).In h → h.Ns mainGlobals mg → mg d.name = some (.ref fa) →
      ∃ fd : FuncData, (∀ (s : Shared) (u : Value), BindsTo s fd ⟨[u], []⟩ [("_law_script", u)]) ∧ ∀ base : Heap, (K w.params).In base → base.Ns mainGlobals mg → FnOk l.prog w (K w.params) mg base CX0 8 fa fd ["_law_script"] (spLaw (K w.params))) :
    PySem.W.WalkO q loose XP YP l.row.toRowW d [] (fun f vs => PySem.call f vs) :=
  L2.walk_of (n := 63) (k := 8) (x := "_law_script") (CX := fun _ => CX0) (sp := fun w => spLaw (K w.params)) hn (by decide) hdf ⟨rfl, by decide, by decide, rfl⟩ hY F (fun _ _ a ns hl _ hS => ⟨a, ns, rfl, hS, hl, fun _ => rfl⟩) fun _ _ _ _ _ z => z
end K16
namespace PySem.W.Fast
def tw811976549818087080 := 0
def tw15590499889081335615 := 0
def tw3225097159002835757 := 0
def tw5496040071519556805 := 0
def tw6852991389492906350 := 0
def tw6753023707960223227 := 0
def tw4993575753018036696 := 0
def tw17814681808564307385 := 0
def tw8685686331970771902 := 0
def tw5205718201079088034 := 0
def tw1577352290308740542 := 0
def tw6734292345355887448 := 0
def tw6506330754758236787 := 0
def tw3586035357156696299 := 0
def tw18233309508985582142 := 0
def tw204462073676265457 := 0
def tw7578824532146491754 := 0
def tw2685575818653016381 := 0
def tw10428151473125634576 := 0
def tw7723793213538948020 := 0
def tw14407871173062463014 := 0
def tw2271269523908638703 := 0
def tw8529252763409695421 := 0
def tw10265590774018464350 := 0
def tw17085999566567411094 := 0
def tw6213042672792197136 := 0
def tw14505641109164951152 := 0
def tw21532391999247460 := 0
def tw1177793590172303612 := 0
def tw3843743477589487563 := 0
def tw16571305783679667723 := 0
def tw1928516833839582840 := 0
def tw5397986332325829478 := 0
def tw17102539181675098872 := 0
def tw2906173933086465597 := 0
def tw17713567652280196765 := 0
def tw16624805014243523046 := 0
def tw8890608358649955544 := 0
def tw9428738263912069589 := 0
def tw12712642765662810820 := 0
def tw13278078609145574108 := 0
def tw2360191550270134309 := 0
def tw7876063947743761776 := 0
def tw1066348218410417684 := 0
def tw10702160274054458439 := 0
def tw17690714220742387183 := 0
def tw17616127091243362006 := 0
def tw7945371032752730388 := 0
def tw10425648665026914104 := 0
def tw9188039551817688639 := 0
def tw13353247555554091897 := 0
def tw8380230119365661952 := 0
def tw11412348065899438691 := 0
def tw12604464907720374501 := 0
def tw18349273010473930821 := 0
def tw13636880061249763788 := 0
def tw7404748995286696061 := 0
def tw9028689125062508407 := 0
def tw5584654561615616730 := 0
def tw16475184485600239675 := 0
def tw15818892358380113989 := 0
def tw8991286458539745525 := 0
def tw11909586186035699388 := 0
def tw8190930819443061754 := 0
def tw13592793886835658331 := 0
def tw15973886449216417476 := 0
def tw17757168367771538269 := 0
def tw12956781518179538307 := 0
def tw1838999196851258075 := 0
def tw16752855535342892052 := 0
def tw4374286555966957471 := 0
def tw12083749536382094927 := 0
def tw4608464549560062047 := 0
def tw8553373382559579961 := 0
def tw11665728295063348007 := 0
def tw5685326775884872776 := 0
def tw18362858829021979512 := 0
def tw11415877416647128012 := 0
def tw16110936774333300433 := 0
def tw10500116958218081546 := 0
def tw2152954596404245485 := 0
def tw14789023812008675023 := 0
def tw3046429320665860693 := 0
def tw6236501699170697496 := 0
def tw6570552736140672636 := 0
def tw9956872375854545678 := 0
def tw4883936369888350539 := 0
def tw5833114499771909106 := 0
def tw12119254013089212267 := 0
def tw14709030819500044053 := 0
def tw450556959509823846 := 0
def tw12243367942208687841 := 0
def tw15302841361069640077 := 0
def tw15163889616220896763 := 0
def tw13604056410532852203 := 0
end PySem.W.Fast
open PySem PySem.W PyProof.Rows
set_option maxRecDepth 100000 in
set_option maxHeartbeats 0 in
theorem PySem.Challenge.cw_boxproof_k16_worlds_written_holds : PySem.Challenge.rw_boxproof_k16_worlds_written.Holds := by
  w_on; o_law; k_head; (case hw => w_witness2)
  k_fill
  refine K16.walk (l := PySem.Challenge.rw_boxproof_k16_worlds_written) rfl rfl (fun w h Y => PySem.W.kIn_of Y) ?F
  case F =>
    intro w mg fa h KX G hmg
    refine' K16.all_mk KX G hmg ?bpa0 ?bpl0 ?bpc0 ?bpk0 ?bpa1 ?bpl1 ?bpc1 ?bpk1 ?bpa2 ?bpl2 ?bpc2 ?bpk2 ?bpa3 ?bpl3 ?bpc3 ?bpk3 ?bpa4 ?bpl4 ?bpc4 ?bpk4 ?bpa5 ?bpl5 ?bpc5 ?bpk5 ?bpa6 ?bpl6 ?bpc6 ?bpk6 ?bpa7 ?bpl7 ?bpc7 ?bpk7 ?bpa8 ?bpl8 ?bpc8 ?bpk8 ?bpa9 ?bpl9 ?bpc9 ?bpk9 ?bpa10 ?bpl10 ?bpc10 ?bpk10 ?bpa11 ?bpl11 ?bpc11 ?bpk11 ?bpa12 ?bpl12 ?bpc12 ?bpk12 ?bpa13 ?bpl13 ?bpc13 ?bpk13 ?bpa14 ?bpl14 ?bpc14 ?bpk14 ?bpa15 ?bpl15 ?bpc15 ?bpk15 ?bpa16 ?bpl16 ?bpc16 ?bpk16 ?bpa17 ?bpl17 ?bpc17 ?bpk17 ?bpa18 ?bpl18 ?bpc18 ?bpk18 ?bpa19 ?bpl19 ?bpc19 ?bpk19 ?bpa20 ?bpl20 ?bpc20 ?bpk20 ?bpa21 ?bpl21 ?bpc21 ?bpk21 ?bpa22 ?bpl22 ?bpc22 ?bpk22 ?bpa23 ?bpl23 ?bpc23 ?bpk23 ?bpa24 ?bpl24 ?bpc24 ?bpk24 ?bpa25 ?bpl25 ?bpc25 ?bpk25 ?bpa26 ?bpl26 ?bpc26 ?bpk26 ?bpa27 ?bpl27 ?bpc27 ?bpk27 ?bpa28 ?bpl28 ?bpc28 ?bpk28 ?bpa29 ?bpl29 ?bpc29 ?bpk29 ?bpa30 ?bpl30 ?bpc30 ?bpk30 ?bpa31 ?bpl31 ?bpc31 ?bpk31 ?bpg0 ?bpg1 ?bpg2 ?bpg3 ?bpg4 ?bpq4 ?bpg5 ?bpg6 ?bpxa0 ?bpxl0 ?bpxn0 ?bpxy0 ?bpxp0 ?bpxr0 ?bpxu0 ?bpxv0 ?bpxa1 ?bpxl1 ?bpxn1 ?bpxy1 ?bpxp1 ?bpxr1 ?bpxu1 ?bpxv1 ?bpxm_NoWorld_NoWorld ?bpxi_NoWorld_NoWorld ?bpz_all ?bpz_bool ?bpz_int ?bpz_isinstance ?bpz_len ?bpz_list ?bpz_range ?bpz_sorted ?bpz_str ?bpz_tuple ?bpOK
    (case bpa0 => k_is)
    (case bpl0 => k_is)
    (case bpc0 => k_is)
    (case bpk0 => k_is)
    (case bpa1 => k_is)
    (case bpl1 => k_is)
    (case bpc1 => k_is)
    (case bpk1 => k_is)
    (case bpa2 => k_is)
    (case bpl2 => k_is)
    (case bpc2 => k_is)
    (case bpk2 => k_is)
    (case bpa3 => k_is)
    (case bpl3 => k_is)
    (case bpc3 => k_is)
    (case bpk3 => k_is)
    (case bpa4 => k_is)
    (case bpl4 => k_is)
    (case bpc4 => k_is)
    (case bpk4 => k_is)
    (case bpa5 => k_is)
    (case bpl5 => k_is)
    (case bpc5 => k_is)
    (case bpk5 => k_is)
    (case bpa6 => k_is)
    (case bpl6 => k_is)
    (case bpc6 => k_is)
    (case bpk6 => k_is)
    (case bpa7 => k_is)
    (case bpl7 => k_is)
    (case bpc7 => k_is)
    (case bpk7 => k_is)
    (case bpa8 => k_is)
    (case bpl8 => k_is)
    (case bpc8 => k_is)
    (case bpk8 => k_is)
    (case bpa9 => k_is)
    (case bpl9 => k_is)
    (case bpc9 => k_is)
    (case bpk9 => k_is)
    (case bpa10 => k_is)
    (case bpl10 => k_is)
    (case bpc10 => k_is)
    (case bpk10 => k_is)
    (case bpa11 => k_is)
    (case bpl11 => k_is)
    (case bpc11 => k_is)
    (case bpk11 => k_is)
    (case bpa12 => k_is)
    (case bpl12 => k_is)
    (case bpc12 => k_is)
    (case bpk12 => k_is)
    (case bpa13 => k_is)
    (case bpl13 => k_is)
    (case bpc13 => k_is)
    (case bpk13 => k_is)
    (case bpa14 => k_is)
    (case bpl14 => k_is)
    (case bpc14 => k_is)
    (case bpk14 => k_is)
    (case bpa15 => k_is)
    (case bpl15 => k_is)
    (case bpc15 => k_is)
    (case bpk15 => k_is)
    (case bpa16 => k_is)
    (case bpl16 => k_is)
    (case bpc16 => k_is)
    (case bpk16 => k_is)
    (case bpa17 => k_is)
    (case bpl17 => k_is)
    (case bpc17 => k_is)
    (case bpk17 => k_is)
    (case bpa18 => k_is)
    (case bpl18 => k_is)
    (case bpc18 => k_is)
    (case bpk18 => k_is)
    (case bpa19 => k_is)
    (case bpl19 => k_is)
    (case bpc19 => k_is)
    (case bpk19 => k_is)
    (case bpa20 => k_is)
    (case bpl20 => k_is)
    (case bpc20 => k_is)
    (case bpk20 => k_is)
    (case bpa21 => k_is)
    (case bpl21 => k_is)
    (case bpc21 => k_is)
    (case bpk21 => k_is)
    (case bpa22 => k_is)
    (case bpl22 => k_is)
    (case bpc22 => k_is)
    (case bpk22 => k_is)
    (case bpa23 => k_is)
    (case bpl23 => k_is)
    (case bpc23 => k_is)
    (case bpk23 => k_is)
    (case bpa24 => k_is)
    (case bpl24 => k_is)
    (case bpc24 => k_is)
    (case bpk24 => k_is)
    (case bpa25 => k_is)
    (case bpl25 => k_is)
    (case bpc25 => k_is)
    (case bpk25 => k_is)
    (case bpa26 => k_is)
    (case bpl26 => k_is)
    (case bpc26 => k_is)
    (case bpk26 => k_is)
    (case bpa27 => k_is)
    (case bpl27 => k_is)
    (case bpc27 => k_is)
    (case bpk27 => k_is)
    (case bpa28 => k_is)
    (case bpl28 => k_is)
    (case bpc28 => k_is)
    (case bpk28 => k_is)
    (case bpa29 => k_is)
    (case bpl29 => k_is)
    (case bpc29 => k_is)
    (case bpk29 => k_is)
    (case bpa30 => k_is)
    (case bpl30 => k_is)
    (case bpc30 => k_is)
    (case bpk30 => k_is)
    (case bpa31 => k_is)
    (case bpl31 => k_is)
    (case bpc31 => k_is)
    (case bpk31 => k_is)
    (case bpg0 => k_is)
    (case bpg1 => k_is)
    (case bpg2 => k_is)
    (case bpg3 => k_is)
    (case bpg4 => k_is)
    (case bpq4 => k_is)
    (case bpg5 => k_is)
    (case bpg6 => k_is)
    (case bpxa0 => k_is)
    (case bpxl0 => k_is)
    (case bpxn0 => k_is)
    (case bpxy0 => rfl)
    (case bpxp0 => k_is)
    (case bpxr0 => k_is)
    (case bpxu0 => k_is)
    (case bpxv0 => k_is)
    (case bpxa1 => k_is)
    (case bpxl1 => k_is)
    (case bpxn1 => k_is)
    (case bpxy1 => rfl)
    (case bpxp1 => k_is)
    (case bpxr1 => k_is)
    (case bpxu1 => k_is)
    (case bpxv1 => k_is)
    (case bpxm_NoWorld_NoWorld => k_is)
    (case bpxi_NoWorld_NoWorld => kit_is)
    (case bpz_all => k_is)
    (case bpz_bool => k_is)
    (case bpz_int => k_is)
    (case bpz_isinstance => k_is)
    (case bpz_len => k_is)
    (case bpz_list => k_is)
    (case bpz_range => k_is)
    (case bpz_sorted => k_is)
    (case bpz_str => k_is)
    (case bpz_tuple => k_is)
    case bpOK => exact fun P D base T => K16.ok_law T
#print axioms PySem.Challenge.cw_boxproof_k16_worlds_written_holds