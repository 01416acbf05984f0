import PyProof.Rows.All
import Wide.All
import OpenK.AllK
import Wide.FinOn
import Lean
import PyProof.EqAt
import PyProof.EqKinds
import PyProof.TupleCall
import PyProof.StrCalls
import PyProof.StrCalls2
import PyProof.FitsReplace
import PyProof.StrOps2
import PyProof.StrCalls6
import PyProof.ToksMono
import PyProof.StationsW
import PyProof.PassesOwn
import PyProof.Rows.CatchOwn
import PyProof.Rows.CatchBare
import PyProof.Rows.Own
import PyProof.ExcAttrAll.ValueError
import PyProof.ExcBaseAll.ValueError
import KE.RegKIsAll
import PyProof.FString4
import PyProof.StrLawsRepr
import PyProof.StrLawsReplace
import PyProof.NeKinds
import PyProof.ConsumeWalk
import PyProof.SumWalkG
import PyProof.ListRange
import KE.KTab
import PyProof.EnumFor
import PyProof.EnumStmt
import PyProof.EnumMake
import PyProof.TupleIter
import PyProof.ZipIter
import PyProof.Rows.ZipGen
import PyProof.CollectIter
import PyProof.TupleOfGen
import PyProof.AutoListH
import PyProof.FactsAll.list
import PyProof.SliceSyntax
import PyProof.SliceList
import PyProof.FactsAll.range
import PyProof.MaxThree
import PyProof.Rows.SortShellK
import PyProof.Rows.SortStr
import PySem.Challenge.RW_boxproof_k03_what_stands_in
set_option Elab.async false
set_option linter.all false
set_option maxRecDepth 100000
namespace L2
open PySem PySem.Spec PyProof.Rows
abbrev Key := Sum Int Str
def keyIs : Key → Value → Bool
  | .inl k, v => Value.isInt k v
  | .inr x, v => Value.isStrOf x v
def keyH (w : World) : Key → Int
  | .inl k => hashInt k
  | .inr x => hashStr w x
theorem keyIs_shape : ∀ {k : Key} {v : Value}, keyIs k v = true → (∃ i t, k = Sum.inl i ∧ v = Value.int i t) ∨ (∃ x t, k = Sum.inr x ∧ v = Value.str x t)
  | .inl i, v, h => by
    obtain ⟨t, e⟩ := Value.isInt_shape (k := i) (v := v) h
    exact .inl ⟨i, t, rfl, e⟩
  | .inr x, v, h => by
    obtain ⟨t, e⟩ := Value.isStrOf_shape (x := x) (v := v) h
    exact .inr ⟨x, t, rfl, e⟩
theorem keyIs_str (x : Str) (t : Tok) : keyIs (.inr x) (.str x t) = true := by simp [keyIs, Value.isStrOf]
theorem key_ll (a b : Int) : decide ((Sum.inl a : Key) = Sum.inl b) = (a == b) := by
  by_cases e : a = b
  · subst e; simp
  · have h : ¬ (Sum.inl a : Key) = Sum.inl b := fun q => e (Sum.inl.inj q)
    rw [decide_eq_false h]
    exact (beq_eq_false_iff_ne.mpr e).symm
theorem key_rr (a b : Str) : decide ((Sum.inr a : Key) = Sum.inr b) = decide (a = b) := by
  by_cases e : a = b
  · subst e; simp
  · have h : ¬ (Sum.inr a : Key) = Sum.inr b := fun q => e (Sum.inr.inj q)
    rw [decide_eq_false h, decide_eq_false e]
theorem key_lr (a : Int) (b : Str) : decide ((Sum.inl a : Key) = Sum.inr b) = false := decide_eq_false (fun q => nomatch q)
theorem key_rl (a : Str) (b : Int) : decide ((Sum.inr a : Key) = Sum.inl b) = false := decide_eq_false (fun q => nomatch q)
def mixKind (prog : Program) (w : World) : PySem.KeyKind prog w Key where
  is := keyIs
  hash := keyH w
  inj := fun v a b ha hb => by
    rcases keyIs_shape ha with ⟨i, t, rfl, rfl⟩ | ⟨x, t, rfl, rfl⟩
    · rcases keyIs_shape hb with ⟨j, u, rfl, e⟩ | ⟨y, u, rfl, e⟩
      · injection e with e1 _; rw [e1]
      · exact nomatch e
    · rcases keyIs_shape hb with ⟨j, u, rfl, e⟩ | ⟨y, u, rfl, e⟩
      · exact nomatch e
      · injection e with e1 _; rw [e1]
  byValue := fun k v h => by
    rcases keyIs_shape h with ⟨i, t, rfl, rfl⟩ | ⟨x, t, rfl, rfl⟩ <;> rfl
  pyHash := fun hv h => by
    rcases keyIs_shape hv with ⟨i, t, rfl, rfl⟩ | ⟨x, t, rfl, rfl⟩
    · exact wpAny_pyHash_int h
    · exact wpAny_pyHash_str h
  eqBool := fun hu hv h => by
    rcases keyIs_shape hu with ⟨i, t, rfl, rfl⟩ | ⟨x, t, rfl, rfl⟩
    · rcases keyIs_shape hv with ⟨j, u, rfl, rfl⟩ | ⟨y, u, rfl, rfl⟩
      · rw [key_ll] at h; exact wpAny_eqBool_int h
      · rw [key_lr] at h; exact SeqAt.EqAt.int_str i t y u _ _ _ _ h
    · rcases keyIs_shape hv with ⟨j, u, rfl, rfl⟩ | ⟨y, u, rfl, rfl⟩
      · rw [key_rl] at h; exact SeqAt.EqAt.str_int x t j u _ _ _ _ h
      · rw [key_rr] at h; exact wpAny_eqBool_str h
  «strs» := fun k x t v h => by
    rcases keyIs_shape h with ⟨i, u, rfl, e⟩ | ⟨y, u, rfl, e⟩
    · exact nomatch e
    · injection e with e1 _
      subst e1
      cases v <;> rfl
end L2
namespace L2
open PySem PySem.Spec PyProof.Rows
inductive V where
  | non | bl (b : Bool) | int (i : Int) | str (x : Str) | byt (b : Array UInt8) | flt (b : UInt64) | ref (a : Addr) | ty (n : String)
  deriving DecidableEq
def RelV : V → Value → Prop
  | .non, u => u = Value.none
  | .bl b, u => u = Value.bool b
  | .int i, u => ∃ t, u = Value.int i t
  | .str x, u => ∃ t, u = Value.str x t
  | .byt b, u => ∃ t, u = Value.bytes b t
  | .flt b, u => ∃ t, u = Value.float b t
  | .ref a, u => u = Value.ref a
  | .ty n, u => u = Value.type n
abbrev Vals : List V → List Value → Prop := Paired RelV
theorem Vals.length {xs : List V} {us : List Value} (r : Vals xs us) : xs.length = us.length := Paired.length r
theorem Vals.get : ∀ {xs : List V} {us : List Value} {i : Nat} {x : V}, Vals xs us → xs[i]? = some x → ∃ u, us[i]? = some u ∧ RelV x u
  | _, _, _, _, .nil, e => by simp at e
  | _, _, 0, _, .cons r _, e => by simp at e; subst e; exact ⟨_, rfl, r⟩
  | _, _, i + 1, x, .cons _ t, e => by
    obtain ⟨u, h1, h2⟩ := Vals.get (i := i) (x := x) t (by simpa using e)
    exact ⟨u, by simpa using h1, h2⟩
theorem Vals.set {x : V} {u : Value} (r : RelV x u) : ∀ {xs : List V} {us : List Value} (i : Nat), Vals xs us → Vals (xs.set i x) (us.set i u)
  | _, _, _, .nil => .nil
  | _, _, 0, .cons _ t => .cons r t
  | _, _, i + 1, .cons q t => .cons q (Vals.set r i t)
theorem Vals.append : ∀ {xs ys : List V} {us ws : List Value}, Vals xs us → Vals ys ws → Vals (xs ++ ys) (us ++ ws)
  | _, _, _, _, .nil, s => s
  | _, _, _, _, .cons r t, s => .cons r (Vals.append t s)
theorem Vals.take : ∀ {xs : List V} {us : List Value} (n : Nat), Vals xs us → Vals (xs.take n) (us.take n)
  | _, _, 0, _ => .nil
  | _, _, _ + 1, .nil => .nil
  | _, _, n + 1, .cons r t => .cons r (Vals.take n t)
theorem Vals.drop : ∀ {xs : List V} {us : List Value} (n : Nat), Vals xs us → Vals (xs.drop n) (us.drop n)
  | _, _, 0, r => r
  | _, _, _ + 1, .nil => .nil
  | _, _, n + 1, .cons _ t => Vals.drop n t
def RelO : Option V → Option Value → Prop
  | some v, some u => RelV v u
  | none, none => True
  | _, _ => False
def KV {κ : Type} : List (κ × V) → List (κ × Value) → Prop := Paired fun (p : κ × V) (q : κ × Value) => p.1 = q.1 ∧ RelV p.2 q.2
def kV : Key → V
  | .inl i => .int i
  | .inr x => .str x
inductive HO where
  | lst (xs : List V)
  | tup (xs : List V)
  | dK (kvs : List (Key × V)) | dT (kvs : List (List Key × V))
  | set (S : Int → Bool) (n : Nat)
  | ins (C dx : Addr) (fs : List (Str × V))
  | own (x : Addr)
  | xd (fs : List (Str × V))
  | met (f x : Addr)
  | rng (lo hi : Int)
  | frz (o : Obj) (u : HO)
  | tbl (ps : Array Value)
  | ext (φ : Heap → Prop)
abbrev Hp := Addr → Option HO
def upd (H : Hp) (a : Addr) (o : HO) : Hp := fun b => if b = a then some o else H b
theorem upd_same {H : Hp} {a : Addr} {o : HO} : upd H a o a = some o := by unfold upd; rw [if_pos rfl]
theorem upd_ne {H : Hp} {a b : Addr} {o : HO} (h : b ≠ a) : upd H a o b = H b := by unfold upd; rw [if_neg h]
theorem upd_upd {H : Hp} {a : Addr} {o u : HO} : upd (upd H a o) a u = upd H a u := by
  funext b; unfold upd; split <;> rfl
theorem ne_of_none {H : Hp} {a b : Addr} {o : HO} (h : H a = some o) (h' : H b = none) : a ≠ b := by
  intro e; subst e; rw [h] at h'; cases h'
section
variable (P : Program) (w : World)
def ObjOk (H : Hp) (h : Heap) (a : Addr) : HO → Prop
  | .lst xs => xs.length ≤ sizeLine ∧ ∃ (its : List Value) (n : Nat), Vals xs its ∧ h.get? a = some { cls := .type "list", data := .seq its.toArray n }
  | .tup xs => xs.length ≤ sizeLine ∧ ∃ its : List Value, Vals xs its ∧ IsTup h a its.toArray
  | .dK kvs => kvs.length ≤ sizeLine ∧ (a == sysModules) = false ∧ ∃ vs, KV kvs vs ∧ h.DictOf (mixKind P w) a vs
  | .dT kvs => kvs.length ≤ sizeLine ∧ (a == sysModules) = false ∧ ∃ xs : List (List Key × Addr × Value),
      Paired (fun (p : List Key × V) (q : List Key × Addr × Value) => p.1 = q.1 ∧ H q.2.1 = some (.tup (p.1.map kV)) ∧ RelV p.2 q.2.2) kvs xs ∧
      ∃ o es ep, h.get? a = some o ∧ o.ExactDict ∧ o.data = .dict es ep ∧ es.toList = xs.map (entryOfKey (tupleKind (mixKind P w))) ∧ (xs.map (·.1)).Nodup
  | .set S n => h.SetOf (intKind P w) a S n
  | .ins C dx fs => H dx = some (.own a) ∧ fs.length ≤ 1000 ∧ dx ≠ a ∧ h.get? a = some (PySem.W.instObj C dx) ∧
      ∃ mA, h.Ns1 dx mA ∧ (∀ f, RelO (fs.lookup f) (mA f)) ∧ PySem.Within mA (fs.map (·.1))
  | .own _ => ∃ o, h.get? a = some o
  | .xd fs => ∃ mA, h.Ns1 a mA ∧ ∀ f, RelO (fs.lookup f) (mA f)
  | .rng lo hi => ∃ t u v, h.get? a = some { cls := .type "range", data := .fields #[.int lo t, .int hi u, .int 1 v] }
  | .frz o u => h.get? a = some o ∧ ObjOk H h a u
  | .tbl ps => h.get? a = some { cls := .none, data := .fields ps }
  | .met f x => h.get? a = some (PySem.W.methodObj (.ref f) (.ref x))
  | .ext φ => φ h ∧ (∃ o, h.get? a = some o) ∧ ∀ h1 h2 : Heap, φ h1 → (∀ o, h1.get? a = some o → h2.get? a = some o) → φ h2
def HOk (H : Hp) (h : Heap) : Prop := ∀ a o, H a = some o → ObjOk P w H h a o
end
section
variable {P : Program} {w : World} {H H' : Hp} {h h' : Heap} {a : Addr} {o : HO}
theorem ObjOk.lt (x : ObjOk P w H h a o) : a < h.objs.size := by
  cases o with
  | lst xs => obtain ⟨_, _, _, _, e⟩ := x; exact Heap.lt_size e
  | tup xs => obtain ⟨_, _, _, p⟩ := x; exact p.lt
  | dK kvs => obtain ⟨_, _, _, _, o, _, _, e, _⟩ := x; exact Heap.lt_size e
  | dT kvs => obtain ⟨_, _, _, _, o, _, _, e, _⟩ := x; exact Heap.lt_size e
  | set S n => obtain ⟨o, _, _, _, e, _⟩ := x; exact Heap.lt_size e
  | ins C dx fs => obtain ⟨_, _, _, e, _⟩ := x; exact Heap.lt_size e
  | own y => obtain ⟨_, e⟩ := x; exact Heap.lt_size e
  | xd fs => obtain ⟨_, ⟨_, _, _, e, _⟩, _⟩ := x; exact Heap.lt_size e
  | rng lo hi => obtain ⟨_, _, _, e⟩ := x; exact Heap.lt_size e
  | frz ob u => obtain ⟨e, _⟩ := x; exact Heap.lt_size e
  | tbl ps => exact Heap.lt_size (show h.get? a = some _ from x)
  | met f y => exact Heap.lt_size (show h.get? a = some _ from x)
  | ext φ => obtain ⟨_, ⟨_, e⟩, _⟩ := x; exact Heap.lt_size e
theorem Paired.mapP {α β : Type} {F G : α → β → Prop} : ∀ {l₁ : List α} {l₂ : List β}, Paired F l₁ l₂ → (∀ a b, F a b → G a b) → Paired G l₁ l₂
  | _, _, .nil, _ => .nil
  | _, _, .cons r t, f => .cons (f _ _ r) (Paired.mapP t f)
theorem ObjOk.stay (x : ObjOk P w H h a o) (k : ∀ b u, (b = a ∨ H b = some (.own a)) → h.get? b = some u → h'.get? b = some u)
    (ho : ∀ b, H b = some (.own a) → H' b = some (.own a)) (ht : ∀ b xs, H b = some (.tup xs) → H' b = some (.tup xs)) : ObjOk P w H' h' a o := by
  induction o with
  | lst xs => obtain ⟨z, its, n, r, e⟩ := x; exact ⟨z, its, n, r, k _ _ (.inl rfl) e⟩
  | tup xs => obtain ⟨z, its, r, ob, e, c⟩ := x; exact ⟨z, its, r, ob, k _ _ (.inl rfl) e, c⟩
  | dK kvs => obtain ⟨z, y, vs, r, ob, es, ep, e, c⟩ := x; exact ⟨z, y, vs, r, ob, es, ep, k _ _ (.inl rfl) e, c⟩
  | dT kvs =>
    obtain ⟨z, y, xs, r, ob, es, ep, e, c⟩ := x
    exact ⟨z, y, xs, Paired.mapP r fun p q z => ⟨z.1, ht _ _ z.2.1, z.2.2⟩, ob, es, ep, k _ _ (.inl rfl) e, c⟩
  | set S n => obtain ⟨ob, es, ep, t, e, c⟩ := x; exact ⟨ob, es, ep, t, k _ _ (.inl rfl) e, c⟩
  | ins C dx fs =>
    obtain ⟨d, z, ne, e, mA, ⟨od, es, ep, e2, c⟩, r⟩ := x
    exact ⟨ho _ d, z, ne, k _ _ (.inl rfl) e, mA, ⟨od, es, ep, k _ _ (.inr d) e2, c⟩, r⟩
  | own y => obtain ⟨ob, e⟩ := x; exact ⟨ob, k _ _ (.inl rfl) e⟩
  | xd fs => obtain ⟨mA, ⟨od, es, ep, e, c⟩, r⟩ := x; exact ⟨mA, ⟨od, es, ep, k _ _ (.inl rfl) e, c⟩, r⟩
  | rng lo hi => obtain ⟨t, u, v, e⟩ := x; exact ⟨t, u, v, k _ _ (.inl rfl) e⟩
  | frz ob u ih => obtain ⟨e, q⟩ := x; exact ⟨k _ _ (.inl rfl) e, ih q⟩
  | tbl ps =>
    have e : h.get? a = some { cls := .none, data := .fields ps } := x
    show h'.get? a = some { cls := .none, data := .fields ps }
    exact k a _ (.inl rfl) e
  | met f y =>
    have e : h.get? a = some (PySem.W.methodObj (.ref f) (.ref y)) := x
    show h'.get? a = some (PySem.W.methodObj (.ref f) (.ref y))
    exact k a _ (.inl rfl) e
  | ext φ => obtain ⟨p, ⟨o, e⟩, st⟩ := x; exact ⟨st _ _ p fun o q => k _ _ (.inl rfl) q, ⟨o, k _ _ (.inl rfl) e⟩, st⟩
theorem HOk.lt (x : HOk P w H h) (e : H a = some o) : a < h.objs.size := (x a o e).lt
theorem HOk.fresh (x : HOk P w H h) (e : h.objs.size ≤ a) : H a = none := by
  cases q : H a with
  | none => rfl
  | some u => exact absurd (Nat.lt_of_lt_of_le (x.lt q) e) (Nat.lt_irrefl _)
theorem HOk.kept (x : HOk P w H h) (k : ∀ b u, h.get? b = some u → h'.get? b = some u) : HOk P w H h' := fun a o e =>
  (x a o e).stay (fun b u _ q => k b u q) (fun _ q => q) fun _ _ q => q
theorem HOk.laid (x : HOk P w H h) (k : ∀ b u, h.get? b = some u → h'.get? b = some u) (hp : h.objs.size ≤ a) (new : ObjOk P w (upd H a o) h' a o) : HOk P w (upd H a o) h' := fun b u e => by
  have hn := x.fresh hp
  by_cases hb : b = a
  · subst hb; rw [upd_same] at e; cases e; exact new
  · rw [upd_ne hb] at e
    exact (x b u e).stay (fun c v _ q => k c v q) (fun c q => by rw [upd_ne (ne_of_none q hn)]; exact q) fun c xs q => by rw [upd_ne (ne_of_none q hn)]; exact q
end
def Rd (H : Hp) (a : Addr) (u : HO) : Prop := H a = some u ∨ ∃ o, H a = some (.frz o u)
theorem Rd.of {H : Hp} {a : Addr} {u : HO} (h : H a = some u) : Rd H a u := .inl h
theorem Rd.ok {P : Program} {w : World} {H : Hp} {h : Heap} {a : Addr} {u : HO} (r : Rd H a u) (x : HOk P w H h) : ObjOk P w H h a u := by
  rcases r with r | ⟨o, r⟩
  · exact x a u r
  · obtain ⟨_, q⟩ := x a _ r
    exact q
def Mut : Option HO → Prop
  | some (.lst _) => True
  | some (.dK _) => True
  | some (.dT _) => True
  | some (.set _ _) => True
  | some (.ins _ _ _) => True
  | some (.ext _) => True
  | _ => False
section
variable {P : Program} {w : World} {H : Hp} {h h' : Heap} {x e : Addr} {o' : HO}
theorem HOk.write (ok : HOk P w H h) (mu : Mut (H x)) (he : e = x ∨ H e = some (.own x)) (k : ∀ b u, b ≠ e → h.get? b = some u → h'.get? b = some u) (heo : ∃ u, h'.get? e = some u)
    (new : ObjOk P w (upd H x o') h' x o') : HOk P w (upd H x o') h' := fun b u q => by
  have nown : ∀ c y, H c = some (.own y) → c ≠ x := fun c y r z => by subst z; rw [r] at mu; exact mu
  have ntup : ∀ c xs, H c = some (.tup xs) → c ≠ x := fun c xs r z => by subst z; rw [r] at mu; exact mu
  by_cases hb : b = x
  · subst hb; rw [upd_same] at q; cases q; exact new
  · rw [upd_ne hb] at q
    by_cases hbe : b = e
    · have q' : H b = some (.own x) := by
        rcases he with z | z
        · exact absurd (hbe.trans z) hb
        · rw [hbe]; exact z
      rw [q] at q'; cases q'
      obtain ⟨v, hv⟩ := heo
      exact ⟨v, by rw [hbe]; exact hv⟩
    · refine (ok b u q).stay (fun c v hc r => k c v ?_ r) (fun c r => by rw [upd_ne (nown c b r)]; exact r) fun c xs r => by rw [upd_ne (ntup c xs r)]; exact r
      rcases hc with rfl | hc
      · exact hbe
      · rintro rfl
        rcases he with z | z
        · exact nown c b hc z
        · rw [hc] at z; cases z; exact hb rfl
end
structure Un (fs ex : List Addr) (H H' : Hp) (h h' : Heap) : Prop where
  keep : ∀ b o, h.get? b = some o → H b = none → b ∉ fs → b ∉ ex → h'.get? b = some o
  slot : ∀ b o, h.get? b = some o → H b = none → b ∈ fs → b ∉ ex → ∃ sl, h'.get? b = some { o with slots := sl }
  free : ∀ b o, h.get? b = some o → H b = none → b ∉ ex → H' b = none
  there : ∀ b o, h.get? b = some o → b ∉ ex → ∃ o', h'.get? b = some o'
  tups : ∀ b xs, H b = some (.tup xs) → H' b = some (.tup xs)
  frzs : ∀ b o u, H b = some (.frz o u) → H' b = some (.frz o u)
  tbls : ∀ b ps, H b = some (.tbl ps) → ∃ more, H' b = some (.tbl (ps ++ more))
section
variable {fs fs' ex ex' : List Addr} {H H1 H2 : Hp} {h h1 h2 h' : Heap} {a x e : Addr} {o : HO}
theorem Un.any (u : Un fs ex H H1 h h1) {b : Addr} {ob : Obj} (q : h.get? b = some ob) (n : H b = none) (hx : b ∉ ex) : ∃ sl, h1.get? b = some { ob with slots := sl } := by
  by_cases hb : b ∈ fs
  · exact u.slot b ob q n hb hx
  · exact ⟨ob.slots, u.keep b ob q n hb hx⟩
theorem Un.trans (a : Un fs ex H H1 h h1) (b : Un fs ex H1 H2 h1 h2) : Un fs ex H H2 h h2 where
  keep := fun c ob q n hc hx => b.keep c ob (a.keep c ob q n hc hx) (a.free c ob q n hx) hc hx
  slot := fun c ob q n hc hx => by
    obtain ⟨sl, e1⟩ := a.slot c ob q n hc hx
    obtain ⟨sl', e2⟩ := b.slot c _ e1 (a.free c ob q n hx) hc hx
    exact ⟨sl', e2⟩
  free := fun c ob q n hx => by
    obtain ⟨o', e1⟩ := a.there c ob q hx
    exact b.free c o' e1 (a.free c ob q n hx) hx
  there := fun c ob q hx => by
    obtain ⟨o', e1⟩ := a.there c ob q hx
    exact b.there c o' e1 hx
  tups := fun c xs q => b.tups c xs (a.tups c xs q)
  frzs := fun c ob xs q => b.frzs c ob xs (a.frzs c ob xs q)
  tbls := fun c ps q => by
    obtain ⟨m1, e1⟩ := a.tbls c ps q
    obtain ⟨m2, e2⟩ := b.tbls c _ e1
    exact ⟨m1 ++ m2, by rw [e2, Array.append_assoc]⟩
theorem Un.kept (k : ∀ b u, h.get? b = some u → h'.get? b = some u) : Un fs ex H H h h' :=
  ⟨fun b ob q _ _ _ => k b ob q, fun b ob q _ _ _ => ⟨ob.slots, k b ob q⟩, fun _ _ _ n _ => n, fun b ob q _ => ⟨ob, k b ob q⟩, fun _ _ q => q, fun _ _ _ q => q, fun _ ps q => ⟨#[], by rw [q]; simp⟩⟩
theorem Un.refl : Un fs ex H H h h := Un.kept fun _ _ q => q
theorem Un.laid (k : ∀ b u, h.get? b = some u → h'.get? b = some u) (hp : h.objs.size ≤ a) (hn : H a = none) : Un fs ex H (upd H a o) h h' where
  keep := fun b u q _ _ _ => k b u q
  slot := fun b u q _ _ _ => ⟨u.slots, k b u q⟩
  free := fun b u q n _ => by rw [upd_ne (Nat.ne_of_lt (Nat.lt_of_lt_of_le (Heap.lt_size q) hp))]; exact n
  there := fun b u q _ => ⟨u, k b u q⟩
  tups := fun b xs q => by rw [upd_ne (ne_of_none q hn)]; exact q
  frzs := fun b u xs q => by rw [upd_ne (ne_of_none q hn)]; exact q
  tbls := fun b ps q => ⟨#[], by rw [upd_ne (ne_of_none q hn), q]; simp⟩
theorem Un.write (mu : Mut (H x)) (he : e = x ∨ H e = some (.own x)) (k : ∀ b u, b ≠ e → h.get? b = some u → h'.get? b = some u) (heo : ∃ u, h'.get? e = some u) : Un fs ex H (upd H x o) h h' := by
  have hx : ∀ b, H b = none → b ≠ x := fun b n z => by subst z; rw [n] at mu; exact mu
  have hb : ∀ b, H b = none → b ≠ e := fun b n z => by
    subst z
    rcases he with r | r
    · exact hx b n r
    · rw [n] at r; cases r
  have hm : ∀ b u, H b = some u → ¬ Mut (some u) → b ≠ x := fun b u q nm z => by subst z; rw [q] at mu; exact nm mu
  refine ⟨fun b u q n _ _ => k b u (hb b n) q, fun b u q n _ _ => ⟨u.slots, k b u (hb b n) q⟩, fun b u q n _ => by rw [upd_ne (hx b n)]; exact n, fun b u q _ => ?_,
    fun b xs q => by rw [upd_ne (hm b _ q fun z => z)]; exact q, fun b u xs q => by rw [upd_ne (hm b _ q fun z => z)]; exact q, fun b ps q => ⟨#[], by rw [upd_ne (hm b _ q fun z => z), q]; simp⟩⟩
  by_cases hbe : b = e
  · subst hbe; exact heo
  · exact ⟨u, k b u hbe q⟩
theorem Un.mono (u : Un fs ex H H1 h h1) (hs : ∀ b ∈ fs, b ∈ fs') (hx : ∀ b ∈ ex, b ∈ ex') : Un fs' ex' H H1 h h1 :=
  ⟨fun b ob q n hb he => u.keep b ob q n (fun z => hb (hs b z)) fun z => he (hx b z), fun _ _ q n _ he => u.any q n fun z => he (hx _ z), fun b ob q n he => u.free b ob q n fun z => he (hx b z), fun b ob q he => u.there b ob q fun z => he (hx b z), u.tups, u.frzs, u.tbls⟩
end
def trk (h : Heap) (H : Hp) : List Addr := (List.range h.objs.size).filter fun a => (H a).isSome
def hidT (h : Heap) (H : Hp) : Heap := PySem.W.hideAll h (trk h H)
theorem hidT_size (h : Heap) (H : Hp) : (hidT h H).objs.size = h.objs.size := PySem.W.hideAll_size _ _
theorem hidT_get {h : Heap} {H : Hp} {b : Addr} {o : Obj} (e : h.get? b = some o) (n : H b = none) : (hidT h H).get? b = some o :=
  PySem.W.hideAll_get _ e fun hm => by
    have q : (H b).isSome = true := (List.mem_filter.mp hm).2
    rw [n] at q; simp at q
theorem of_hidT {h : Heap} {H : Hp} {b : Addr} {o : Obj} (e : (hidT h H).get? b = some o) : h.get? b = some o ∧ H b = none := by
  have e' : h.get? b = some o := PySem.W.of_hideAll (trk h H) e
  refine ⟨e', ?_⟩
  cases q : H b with
  | none => rfl
  | some x =>
    have hm : b ∈ trk h H := List.mem_filter.mpr ⟨List.mem_range.mpr (Heap.lt_size e'), by simp [q]⟩
    have z : (hidT h H).get? b = none := PySem.W.hideAll_none (trk h H) hm
    rw [z] at e; cases e
def allNews (g h : Heap) (L : Addr) : List (Addr × Obj) := (List.range h.objs.size).filterMap fun a => if a = L ∨ (g.get? a).isSome = true then none else (h.get? a).map fun o => (a, o)
def rest (g h : Heap) (L d : Addr) : List (Addr × Obj) := (allNews g h L).filter fun p => decide (p.1 ≠ d)
end L2
namespace L2
open PySem PySem.Spec PyProof.Rows
structure Mod (K : PySem.W.Frag) (mg : Str → Option Value) (base : Heap) : Prop where
  kin : K.In base
  glob : base.Ns mainGlobals mg
  blt : ∃ mb, base.Ns builtinsNs mb ∧ ∀ x : Str, x ≠ "__name__" → mb x = bootBuiltins x
  nolimit : base.NoLimit
structure Cx where
  prog : Program
  w : World
  K : PySem.W.Frag
  mg : Str → Option Value
  base : Heap
  A : Around
  N : List Str
  s₀ : Shared
  H₀ : Hp
  env : Env
  outer : List Env
  stack : List Env
  ex : List Addr
  fn : Str → Bool
  calm : Bool
  pn : List (Addr × Obj)
  xe : Value → Shared → Prop
def frs (l : List Env) : List Addr := l.filterMap (·.frame)
abbrev Cx.fs (X : Cx) : List Addr := frs X.outer
def Vis (sc : Scope) (x : Str) : Prop := sc.names.lookup x = some .local ∨ sc.names.lookup x = some .cell ∨ sc.names.lookup x = some .free
def Loc (sc : Scope) (x : Str) : Prop := sc.names.lookup x = some .local ∨ sc.names.lookup x = some .cell
def Look (env : Env) (h : Heap) (m : Str → Option Value) (x : Str) (u : Value) : Prop :=
  (env.kindOf x = some .local ∧ m x = some u) ∨ ((env.kindOf x = some .cell ∨ env.kindOf x = some .free) ∧ ∃ c, env.cells.lookup x = some c ∧ h.IsCell c (some u))
structure Cx.Ok (X : Cx) : Prop where
  mod : Mod X.K X.mg X.base
  kind : X.env.scope.kind = .function
  glob : X.env.globals = mainGlobals
  blt : X.env.builtins = builtinsNs
  above : X.s₀.heap.objs.size ≤ X.env.locals
  inj : ∀ x y c, X.env.cells.lookup x = some c → X.env.cells.lookup y = some c → x = y
  has : ∀ x, (X.env.kindOf x = some .cell ∨ X.env.kindOf x = some .free) → ∃ c, X.env.cells.lookup x = some c
  cab : ∀ x c, X.fn x = true → X.env.cells.lookup x = some c → X.s₀.heap.objs.size ≤ c
  hd : X.calm = true → X.A.handled = none
  frames : X.A.frames = some X.stack
  stk : X.stack = X.outer ∨ (X.stack = X.env :: X.outer ∧ X.env.frame = some X.env.locals)
  exf : ∀ b ∈ X.ex, b ≠ X.env.locals ∧ ∀ x c, X.env.cells.lookup x = some c → c ≠ b
  bs : ∀ b o, X.base.get? b = some o → X.s₀.heap.get? b = some o ∧ X.H₀ b = none
  bsz : X.base.objs.size ≤ X.s₀.heap.objs.size
  noex : ∀ b o, X.base.get? b = some o → b ∉ X.ex
  exfs : ∀ b ∈ X.ex, b ∉ X.fs
  funs : X.s₀.heap.FunFrames X.base X.outer
  frf : ∀ b ∈ X.fs, X.H₀ b = none
structure Inv (X : Cx) (pins : List (Addr × Obj)) (σ : List (Option V)) (H : Hp) (s : Shared) : Prop where
  ok : X.Ok
  os : s.os = X.s₀.os
  bare : AllBare s.gens
  base : Un X.fs X.ex X.H₀ H X.s₀.heap s.heap
  loc : ∃ m, s.heap.Ns X.env.locals m ∧ ∀ (i : Nat) (x : Str) (v : V), X.N[i]? = some x → σ[i]? = some (some v) → Vis X.env.scope x → ∃ u, RelV v u ∧ Look X.env s.heap m x u
  cell : ∀ x c, X.env.cells.lookup x = some c → ∃ v, s.heap.IsCell c v
  free : H X.env.locals = none
  freeC : ∀ x c, X.env.cells.lookup x = some c → H c = none
  pin : ∀ p ∈ X.pn ++ pins, s.heap.get? p.1 = some p.2 ∧ H p.1 = none ∧ p.1 ≠ X.env.locals ∧ p.1 ∉ X.fs ∧ ∀ v, p.2.data ≠ .cell v
  hok : HOk X.prog X.w H s.heap
  len : σ.length = X.N.length
section
variable {X : Cx} {pins : List (Addr × Obj)} {σ : List (Option V)} {H H' : Hp} {s : Shared} {h' : Heap}
theorem Cx.Ok.nofr (ok : X.Ok) {b : Addr} {o : Obj} (e : X.base.get? b = some o) : b ∉ X.fs := fun hb => by
  have := (ok.funs.mem hb).1
  rw [e] at this; cases this
theorem Inv.bs (I : Inv X pins σ H s) : ∀ b o, X.base.get? b = some o → s.heap.get? b = some o ∧ H b = none := fun b o e =>
  ⟨I.base.keep b o (I.ok.bs b o e).1 (I.ok.bs b o e).2 (I.ok.nofr e) (I.ok.noex b o e), I.base.free b o (I.ok.bs b o e).1 (I.ok.bs b o e).2 (I.ok.noex b o e)⟩
theorem Inv.bk (I : Inv X pins σ H s) : ∀ b o, X.base.get? b = some o → s.heap.get? b = some o := fun b o e => (I.bs b o e).1
theorem Inv.mod (I : Inv X pins σ H s) : Mod X.K X.mg X.base := I.ok.mod
theorem Inv.kIn (I : Inv X pins σ H s) : X.K.In s.heap := I.ok.mod.kin.keeps I.bk
theorem Inv.nolimit (I : Inv X pins σ H s) : s.heap.NoLimit := I.ok.mod.nolimit.keeps I.bk
theorem Inv.fr (I : Inv X pins σ H s) : ∃ m, Fr X.base X.env.locals s.heap m :=
  let ⟨m, hn, _⟩ := I.loc
  ⟨m, hn, I.bk, Nat.le_trans I.ok.bsz I.ok.above⟩
theorem Inv.lt (I : Inv X pins σ H s) : X.env.locals < s.heap.objs.size := let ⟨_, hn, _⟩ := I.loc; hn.lt
theorem Inv.sz (I : Inv X pins σ H s) : X.s₀.heap.objs.size ≤ s.heap.objs.size := Nat.le_trans I.ok.above (Nat.le_of_lt I.lt)
theorem Inv.nofs (I : Inv X pins σ H s) {a : Addr} (h : s.heap.objs.size ≤ a) : a ∉ X.fs := fun hb => by
  obtain ⟨_, o, ho, _⟩ := I.ok.funs.mem hb
  exact absurd (Nat.lt_of_lt_of_le (Heap.lt_size ho) (Nat.le_trans I.sz h)) (Nat.lt_irrefl _)
theorem Inv.cne (I : Inv X pins σ H s) : ∀ x c, X.env.cells.lookup x = some c → c ≠ X.env.locals := fun x c e z => by
  obtain ⟨v, o, ho, hd⟩ := I.cell x c e
  obtain ⟨m, ⟨o', es, ep, ho', hd', _⟩, _⟩ := I.loc
  rw [z, ho'] at ho; cases ho; rw [hd'] at hd; cases hd
theorem Inv.funs (I : Inv X pins σ H s) : s.heap.FunFrames X.base X.outer := by
  have all : ∀ (l : List Env), (∀ b ∈ frs l, b ∈ X.fs) → X.s₀.heap.FunFrames X.base l → s.heap.FunFrames X.base l := by
    intro l
    induction l with
    | nil => intro _ _; trivial
    | cons env r ih =>
      intro hs hl
      obtain ⟨hk, ⟨L, o, hf, hn, ho, hd⟩, hr⟩ := hl
      have hL : L ∈ X.fs := hs L (by unfold frs; rw [List.filterMap_cons, hf]; exact List.mem_cons_self)
      obtain ⟨sl, e⟩ := I.base.slot L o ho (I.ok.frf L hL) hL fun z => I.ok.exfs L z hL
      exact ⟨hk, ⟨L, _, hf, hn, e, hd⟩, ih (fun b hb => hs b (by unfold frs; rw [List.filterMap_cons, hf]; exact List.mem_cons_of_mem _ hb)) hr⟩
  exact all X.outer (fun _ hb => hb) I.ok.funs
theorem Inv.stack (I : Inv X pins σ H s) : s.heap.FunFrames X.base X.stack := by
  rcases I.ok.stk with e | ⟨e, hf⟩
  · rw [e]; exact I.funs
  · rw [e]
    obtain ⟨m, hn, _⟩ := I.loc
    refine .cons (by rw [I.ok.kind]; decide) hf hn ?_ I.funs
    exact Heap.get?_none_of_le (Nat.le_trans I.ok.bsz I.ok.above)
theorem Inv.stkSub (I : Inv X pins σ H s) : ∀ b ∈ frs X.stack, b ∈ X.env.locals :: X.fs := fun b hb => by
  rcases I.ok.stk with e | ⟨e, hf⟩
  · rw [e] at hb; exact List.mem_cons_of_mem _ hb
  · rw [e] at hb
    unfold frs at hb
    rw [List.filterMap_cons, hf] at hb
    exact hb
theorem Inv.stkFree (I : Inv X pins σ H s) : ∀ b ∈ frs X.stack, H b = none := fun b hb => by
  rcases List.mem_cons.mp (I.stkSub b hb) with e | hb
  · rw [e]; exact I.free
  · obtain ⟨_, o, ho, _⟩ := I.ok.funs.mem hb
    exact I.base.free b o ho (I.ok.frf b hb) fun z => I.ok.exfs b z hb
theorem Inv.step {g' : Array GenState} {t' : Nat} {d' : Drawn} {ch : List Addr} (I : Inv X pins σ H s)
    (hch : ∀ b ∈ ch, (b ∈ X.ex ∨ X.s₀.heap.objs.size ≤ b) ∧ b ≠ X.env.locals ∧ (∀ x c, X.env.cells.lookup x = some c → c ≠ b) ∧ ∀ p ∈ X.pn ++ pins, p.1 ≠ b)
    (keep : ∀ b o, b ≠ X.env.locals → b ∉ X.fs → b ∉ ch → s.heap.get? b = some o → H b = none → h'.get? b = some o)
    (slot : ∀ b o, b ≠ X.env.locals → b ∈ X.fs → b ∉ ch → s.heap.get? b = some o → H b = none → ∃ sl, h'.get? b = some { o with slots := sl }) (free : ∀ b o, b ∉ ch → s.heap.get? b = some o → H b = none → H' b = none)
    (there : ∀ b o, b ∉ ch → s.heap.get? b = some o → ∃ o', h'.get? b = some o')
    (tups : ∀ b xs, H b = some (.tup xs) → H' b = some (.tup xs)) (frzs : ∀ b o u, H b = some (.frz o u) → H' b = some (.frz o u)) (tbls : ∀ b ps, H b = some (.tbl ps) → ∃ more, H' b = some (.tbl (ps ++ more)))
    (ns : ∀ m, s.heap.Ns X.env.locals m → h'.Ns X.env.locals m) (hok : HOk X.prog X.w H' h') (hg : AllBare g') :
    Inv X pins σ H' { s with heap := h', gens := g', drawn := d', toks := t' } := by
  have neL : ∀ b o, X.s₀.heap.get? b = some o → b ≠ X.env.locals := fun b o e => Nat.ne_of_lt (Nat.lt_of_lt_of_le (Heap.lt_size e) I.ok.above)
  have neC : ∀ b o, X.s₀.heap.get? b = some o → b ∉ X.ex → b ∉ ch := fun b o e hx hb => by
    rcases (hch b hb).1 with z | z
    · exact hx z
    · exact absurd (Nat.lt_of_lt_of_le (Heap.lt_size e) z) (Nat.lt_irrefl _)
  have cellK : ∀ x c, X.env.cells.lookup x = some c → ∀ v, s.heap.IsCell c v → h'.IsCell c v := fun x c e v ⟨o, ho, hd⟩ => by
    have nch : c ∉ ch := fun z => (hch c z).2.2.1 x c e rfl
    by_cases hc : c ∈ X.fs
    · obtain ⟨sl, q⟩ := slot c o (I.cne x c e) hc nch ho (I.freeC x c e)
      exact ⟨_, q, hd⟩
    · exact ⟨o, keep c o (I.cne x c e) hc nch ho (I.freeC x c e), hd⟩
  refine ⟨I.ok, I.os, hg, ⟨fun b o e n hb hx => ?_, fun b o e n hb hx => ?_, fun b o e n hx => ?_, fun b o e hx => ?_, fun b xs e => tups b xs (I.base.tups b xs e), fun b o xs e => frzs b o xs (I.base.frzs b o xs e), fun b ps e => ?_⟩, ?_, fun x c e => ?_, ?_, fun x c e => ?_, fun p hp => ?_, hok, I.len⟩
  · exact keep b o (neL b o e) hb (neC b o e hx) (I.base.keep b o e n hb hx) (I.base.free b o e n hx)
  · obtain ⟨sl, e1⟩ := I.base.slot b o e n hb hx
    obtain ⟨sl', e2⟩ := slot b _ (neL b o e) hb (neC b o e hx) e1 (I.base.free b o e n hx)
    exact ⟨sl', e2⟩
  · obtain ⟨o', e1⟩ := I.base.there b o e hx
    exact free b o' (neC b o e hx) e1 (I.base.free b o e n hx)
  · obtain ⟨o', e1⟩ := I.base.there b o e hx
    exact there b o' (neC b o e hx) e1
  · obtain ⟨m1, e1⟩ := I.base.tbls b ps e
    obtain ⟨m2, e2⟩ := tbls b _ e1
    exact ⟨m1 ++ m2, by rw [e2, Array.append_assoc]⟩
  · obtain ⟨m, hn, hl⟩ := I.loc
    refine ⟨m, ns m hn, fun i x v e1 e2 e3 => ?_⟩
    obtain ⟨u, r, l⟩ := hl i x v e1 e2 e3
    refine ⟨u, r, ?_⟩
    rcases l with l | ⟨k, c, e, z⟩
    · exact .inl l
    · exact .inr ⟨k, c, e, cellK x c e _ z⟩
  · obtain ⟨v, z⟩ := I.cell x c e
    exact ⟨v, cellK x c e v z⟩
  · obtain ⟨m, ⟨o, _, _, ho, _⟩, _⟩ := I.loc
    exact free _ o (fun z => (hch _ z).2.1 rfl) ho I.free
  · obtain ⟨v, o, ho, hd⟩ := I.cell x c e
    exact free c o (fun z => (hch c z).2.2.1 x c e rfl) ho (I.freeC x c e)
  · obtain ⟨e, n, ne, nf, d⟩ := I.pin p hp
    have nch : p.1 ∉ ch := fun z => (hch p.1 z).2.2.2 p hp rfl
    exact ⟨keep p.1 p.2 ne nf nch e n, free p.1 p.2 nch e n, ne, nf, d⟩
theorem Inv.un {t' : Nat} (I : Inv X pins σ H s) (u : Un X.fs [] H H' s.heap h') (hok : HOk X.prog X.w H' h') : Inv X pins σ H' { s with heap := h', toks := t' } := by
  obtain ⟨m, ⟨o, es, ep, ho, r⟩, _⟩ := id I.loc
  obtain ⟨sl, hL⟩ := u.any ho I.free (by simp)
  exact I.step (g' := s.gens) (d' := s.drawn) (ch := []) (fun _ z => nomatch z) (fun b o _ hb _ e n => u.keep b o e n hb (by simp)) (fun b o _ hb _ e n => u.slot b o e n hb (by simp)) (fun b o _ e n => u.free b o e n (by simp)) (fun b o _ e => u.there b o e (by simp)) u.tups u.frzs u.tbls (fun m' hm => by
    obtain ⟨o', es', ep', ho', r'⟩ := hm
    rw [ho] at ho'; cases ho'
    exact ⟨_, es', ep', hL, r'⟩) hok I.bare
theorem Inv.call {g' : Array GenState} {t' : Nat} {d' : Drawn} {ch : List Addr} (I : Inv X pins σ H s) (u : Un (frs X.stack) ch H H' s.heap h') (hok : HOk X.prog X.w H' h') (hg : AllBare g')
    (hch : ∀ b ∈ ch, (b ∈ X.ex ∨ X.s₀.heap.objs.size ≤ b) ∧ b ≠ X.env.locals ∧ (∀ x c, X.env.cells.lookup x = some c → c ≠ b) ∧ ∀ p ∈ X.pn ++ pins, p.1 ≠ b) :
    Inv X pins σ H' { s with heap := h', gens := g', drawn := d', toks := t' } := by
  obtain ⟨m, ⟨o, es, ep, ho, r⟩, _⟩ := id I.loc
  obtain ⟨sl, hL⟩ := u.any ho I.free fun z => (hch _ z).2.1 rfl
  exact I.step (ch := ch) hch (fun b o hL hb hc e n => u.keep b o e n (fun z => (List.mem_cons.mp (I.stkSub b z)).elim hL hb) hc) (fun b o _ _ hc e n => u.any e n hc) (fun b o hc e n => u.free b o e n hc) (fun b o hc e => u.there b o e hc) u.tups u.frzs u.tbls (fun m' hm => by
    obtain ⟨o', es', ep', ho', r'⟩ := hm
    rw [ho] at ho'; cases ho'
    exact ⟨_, es', ep', hL, r'⟩) hok hg
theorem Inv.turned {t' : Nat} {it : Addr} (I : Inv X pins σ H s) (k : ∀ b o, b ≠ it → s.heap.get? b = some o → h'.get? b = some o) (hn : H it = none) (hL : it ≠ X.env.locals)
    (h1 : it ∈ X.ex ∨ X.s₀.heap.objs.size ≤ it) (h2 : ∀ x c, X.env.cells.lookup x = some c → c ≠ it) (h3 : ∀ p ∈ X.pn ++ pins, p.1 ≠ it) : Inv X pins σ H { s with heap := h', toks := t' } := by
  have nit : ∀ b u, H b = some u → b ≠ it := fun b u e z => by rw [z, hn] at e; cases e
  refine I.step (g' := s.gens) (d' := s.drawn) (ch := [it]) (fun b hb => ?_) (fun b o _ _ hc e _ => k b o (fun z => hc (by simp [z])) e) (fun b o _ _ hc e _ => ⟨o.slots, k b o (fun z => hc (by simp [z])) e⟩) (fun _ _ _ _ n => n)
    (fun b o hc e => ⟨o, k b o (fun z => hc (by simp [z])) e⟩) (fun _ _ e => e) (fun _ _ _ e => e) (fun b ps e => ⟨#[], by rw [e]; simp⟩) (fun m hm => ?_) (fun b u e => ?_) I.bare
  · have e : b = it := by simpa using hb
    subst e
    exact ⟨h1, hL, h2, h3⟩
  · obtain ⟨o, es, ep, ho, r⟩ := hm
    exact ⟨o, es, ep, k _ o (Ne.symm hL) ho, r⟩
  · refine (I.hok b u e).stay (fun c v hc q => k c v ?_ q) (fun _ q => q) fun _ _ q => q
    rcases hc with z | z
    · rw [z]; exact nit b u e
    · exact nit c _ z
theorem Inv.tok (I : Inv X pins σ H s) (t : Nat) : Inv X pins σ H { s with toks := t } := I.un (h' := s.heap) (t' := t) Un.refl I.hok
theorem Inv.kept {t' : Nat} (I : Inv X pins σ H s) (k : ∀ b u, s.heap.get? b = some u → h'.get? b = some u) : Inv X pins σ H { s with heap := h', toks := t' } := I.un (Un.kept k) (I.hok.kept k)
theorem Inv.laid {a : Addr} {o : HO} {t' : Nat} (I : Inv X pins σ H s) (k : ∀ b u, s.heap.get? b = some u → h'.get? b = some u) (hp : s.heap.objs.size ≤ a) (new : ObjOk X.prog X.w (upd H a o) h' a o) :
    Inv X pins σ (upd H a o) { s with heap := h', toks := t' } := I.un (Un.laid k hp (I.hok.fresh hp)) (I.hok.laid k hp new)
theorem Inv.write {x e : Addr} {o : HO} {t' : Nat} (I : Inv X pins σ H s) (mu : Mut (H x)) (he : e = x ∨ H e = some (.own x)) (k : ∀ b u, b ≠ e → s.heap.get? b = some u → h'.get? b = some u) (heo : ∃ u, h'.get? e = some u)
    (new : ObjOk X.prog X.w (upd H x o) h' x o) : Inv X pins σ (upd H x o) { s with heap := h', toks := t' } := I.un (Un.write mu he k heo) (I.hok.write mu he k heo new)
theorem Inv.weak {σ' : List (Option V)} (I : Inv X pins σ H s) (hl : σ'.length = σ.length) (w : ∀ (i : Nat) v, σ'[i]? = some (some v) → σ[i]? = some (some v)) : Inv X pins σ' H s :=
  ⟨I.ok, I.os, I.bare, I.base, let ⟨m, hn, hl'⟩ := I.loc; ⟨m, hn, fun i x v e1 e2 e3 => hl' i x v e1 (w i v e2) e3⟩, I.cell, I.free, I.freeC, I.pin, I.hok, hl.trans I.len⟩
theorem Inv.pins_of {pins' : List (Addr × Obj)} (I : Inv X pins σ H s) (h : ∀ p ∈ pins', s.heap.get? p.1 = some p.2 ∧ H p.1 = none ∧ p.1 ≠ X.env.locals ∧ p.1 ∉ X.fs ∧ ∀ v, p.2.data ≠ .cell v) : Inv X pins' σ H s :=
  ⟨I.ok, I.os, I.bare, I.base, I.loc, I.cell, I.free, I.freeC, fun p hp => (List.mem_append.mp hp).elim (fun z => I.pin p (List.mem_append_left _ z)) (h p), I.hok, I.len⟩
theorem nodup_ix {N : List Str} (hN : N.Nodup) {i j : Nat} {x : Str} (a : N[i]? = some x) (b : N[j]? = some x) : i = j := by
  obtain ⟨h1, e1⟩ := List.getElem?_eq_some_iff.mp a
  obtain ⟨h2, e2⟩ := List.getElem?_eq_some_iff.mp b
  exact (List.getElem_inj hN).mp (e1.trans e2.symm)
theorem store_ok2 {M : Model} {A : Around} {E : Value → Shared → Prop} {i : Nat} {x : Str} {v : V} {u : Value} {Q : Unit → Shared → Prop} (I : Inv X pins σ H s) (hN : X.N.Nodup) (hi : X.N[i]? = some x) (hx : Loc X.env.scope x) (r : RelV v u)
    (h : ∀ s', Inv X pins (σ.set i (some v)) H s' → (∃ a, Heap.SameBut a s.heap s'.heap ∧ (a = X.env.locals ∨ X.env.cells.lookup x = some a)) → Q () s') (hf : X.fn x = true ∨ X.env.scope.names.lookup x = some .local := by first | exact .inl rfl | exact .inr rfl | assumption) : wpAny M A (storeName X.env x u) Q E s := by
  obtain ⟨m, hn, hl⟩ := id I.loc
  have hcls : (X.env.scope.kind == .class || (X.env.scope.kind == .module && X.env.locals != X.env.globals)) = false := by rw [I.ok.kind]; rfl
  have hiσ : i < σ.length := by rw [I.len]; exact (List.getElem?_eq_some_iff.mp hi).1
  have cne := I.cne
  have tracked : ∀ {a : Addr} {h' : Heap}, (∃ o, s.heap.get? a = some o ∧ H a = none) → Heap.SameBut a s.heap h' → HOk X.prog X.w H h' := fun {a h'} ha hs b ob e => by
    obtain ⟨_, _, hfree⟩ := ha
    refine (I.hok b ob e).stay (fun c w' hc q => (hs.2 c ?_).trans q) (fun _ q => q) fun _ _ q => q
    rintro rfl
    rcases hc with rfl | hc
    · rw [hfree] at e; cases e
    · rw [hfree] at hc; cases hc
  rcases hx with hk | hk
  · refine wpAny_storeName_local hk hn (fun h' hn' hs => ?_) hcls
    obtain ⟨oL, _, _, hoL, _⟩ := id hn
    refine h _ ⟨I.ok, I.os, I.bare, ⟨fun b o e n hb hx => ?_, fun b o e n hb hx => ?_, I.base.free, fun b o e hx => ?_, I.base.tups, I.base.frzs, I.base.tbls⟩, ⟨_, hn', fun j y v' e1 e2 e3 => ?_⟩, fun y c e => ?_, I.free, I.freeC, fun p hp => ?_, tracked ⟨oL, hoL, I.free⟩ hs, by simpa using I.len⟩ ⟨_, hs, .inl rfl⟩
    · exact (hs.2 b (Nat.ne_of_lt (Nat.lt_of_lt_of_le (Heap.lt_size e) I.ok.above))).trans (I.base.keep b o e n hb hx)
    · obtain ⟨sl, e1⟩ := I.base.slot b o e n hb hx
      exact ⟨sl, (hs.2 b (Nat.ne_of_lt (Nat.lt_of_lt_of_le (Heap.lt_size e) I.ok.above))).trans e1⟩
    · obtain ⟨o', e1⟩ := I.base.there b o e hx
      exact ⟨o', (hs.2 b (Nat.ne_of_lt (Nat.lt_of_lt_of_le (Heap.lt_size e) I.ok.above))).trans e1⟩
    · by_cases hj : j = i
      · subst hj
        rw [hi] at e1; cases e1
        rw [List.getElem?_set_self hiσ] at e2
        cases e2
        exact ⟨u, r, .inl ⟨hk, by simp⟩⟩
      · rw [List.getElem?_set_ne (Ne.symm hj)] at e2
        obtain ⟨u', r', q⟩ := hl j y v' e1 e2 e3
        refine ⟨u', r', ?_⟩
        rcases q with ⟨k, e⟩ | ⟨k, c, e, z⟩
        · refine .inl ⟨k, ?_⟩
          have : y ≠ x := fun e => hj (nodup_ix hN e1 (e ▸ hi))
          simp [this, e]
        · exact .inr ⟨k, c, e, z.sameBut hs (cne y c e)⟩
    · obtain ⟨w', z⟩ := I.cell y c e
      exact ⟨w', z.sameBut hs (cne y c e)⟩
    · obtain ⟨e, n, ne, nf, d⟩ := I.pin p hp
      exact ⟨(hs.2 p.1 ne).trans e, n, ne, nf, d⟩
  · have hfn : X.fn x = true := by
      rcases hf with z | z
      · exact z
      · rw [z] at hk; cases hk
    obtain ⟨c, hc⟩ := I.ok.has x (.inl hk)
    obtain ⟨w', z⟩ := I.cell x c hc
    refine wpAny_storeName_cell I.ok.kind hk hc z (fun h' hc' hs => ?_)
    obtain ⟨oc, hoc, hocd⟩ := id z
    refine h { s with heap := h' } ⟨I.ok, I.os, I.bare, ⟨fun b o e n hb hx => ?_, fun b o e n hb hx => ?_, I.base.free, fun b o e hx => ?_, I.base.tups, I.base.frzs, I.base.tbls⟩, ⟨m, hn.sameBut hs (Ne.symm (cne x c hc)), fun j y v' e1 e2 e3 => ?_⟩, fun y c' e => ?_, I.free, I.freeC, fun p hp => ?_, tracked ⟨oc, hoc, I.freeC x c hc⟩ hs, by simpa using I.len⟩ ⟨c, hs, .inr hc⟩
    · exact (hs.2 b (Nat.ne_of_lt (Nat.lt_of_lt_of_le (Heap.lt_size e) (I.ok.cab x c hfn hc)))).trans (I.base.keep b o e n hb hx)
    · obtain ⟨sl, e1⟩ := I.base.slot b o e n hb hx
      exact ⟨sl, (hs.2 b (Nat.ne_of_lt (Nat.lt_of_lt_of_le (Heap.lt_size e) (I.ok.cab x c hfn hc)))).trans e1⟩
    · obtain ⟨o', e1⟩ := I.base.there b o e hx
      exact ⟨o', (hs.2 b (Nat.ne_of_lt (Nat.lt_of_lt_of_le (Heap.lt_size e) (I.ok.cab x c hfn hc)))).trans e1⟩
    · by_cases hj : j = i
      · subst hj
        rw [hi] at e1; cases e1
        rw [List.getElem?_set_self hiσ] at e2
        cases e2
        exact ⟨u, r, .inr ⟨.inl hk, c, hc, hc'⟩⟩
      · rw [List.getElem?_set_ne (Ne.symm hj)] at e2
        obtain ⟨u', r', q⟩ := hl j y v' e1 e2 e3
        refine ⟨u', r', ?_⟩
        rcases q with q | ⟨k, c', e, z'⟩
        · exact .inl q
        · refine .inr ⟨k, c', e, z'.sameBut hs ?_⟩
          rintro rfl
          exact hj (nodup_ix hN e1 (I.ok.inj _ _ _ e hc ▸ hi))
    · by_cases hcc : c' = c
      · subst hcc; exact ⟨_, hc'⟩
      · obtain ⟨w2, z2⟩ := I.cell y c' e
        exact ⟨w2, z2.sameBut hs hcc⟩
    · obtain ⟨e, n, ne, nf, d⟩ := I.pin p hp
      refine ⟨(hs.2 p.1 ?_).trans e, n, ne, nf, d⟩
      intro q
      rw [q, hoc] at e
      have q' : oc = p.2 := Option.some.inj e
      exact d w' (by rw [← q']; exact hocd)
theorem store_ok {M : Model} {A : Around} {E : Value → Shared → Prop} {i : Nat} {x : Str} {v : V} {u : Value} {Q : Unit → Shared → Prop} (I : Inv X pins σ H s) (hN : X.N.Nodup) (hi : X.N[i]? = some x) (hx : Loc X.env.scope x) (r : RelV v u)
    (h : ∀ s', Inv X pins (σ.set i (some v)) H s' → Q () s') (hf : X.fn x = true ∨ X.env.scope.names.lookup x = some .local := by first | exact .inl rfl | exact .inr rfl | assumption) : wpAny M A (storeName X.env x u) Q E s :=
  store_ok2 I hN hi hx r (fun s' I' _ => h s' I') hf
theorem Inv.call' {s' : Shared} {ch : List Addr} (I : Inv X pins σ H s) (ho : s'.os = s.os) (u : Un (frs X.stack) ch H H' s.heap s'.heap) (hok : HOk X.prog X.w H' s'.heap) (hg : AllBare s'.gens)
    (hch : ∀ b ∈ ch, (b ∈ X.ex ∨ X.s₀.heap.objs.size ≤ b) ∧ b ≠ X.env.locals ∧ (∀ x c, X.env.cells.lookup x = some c → c ≠ b) ∧ ∀ p ∈ X.pn ++ pins, p.1 ≠ b) : Inv X pins σ H' s' := by
  obtain ⟨h', g', d', t', o'⟩ := s'
  have e : o' = s.os := ho
  subst e
  exact I.call (g' := g') (t' := t') (d' := d') u hok hg hch
end
abbrev XK := Value → Option Addr → Hp → Prop
abbrev St := List (Option V)
abbrev VK := V → Hp → Prop
abbrev TE := St → Hp → VK → Prop
abbrev TT := St → Hp → (Bool → Hp → Prop) → Prop
abbrev TA := St → Hp → (List V → Hp → Prop) → Prop
structure Ends where
  nx : St → Hp → Prop
  rt : VK
  bk : St → Hp → Prop := fun _ _ => False
  ct : St → Hp → Prop := fun _ _ => False
abbrev TS := Ends → St → Hp → Prop
def EP (X : Cx) (pins : List (Addr × Obj)) (σ : St) (Q : VK) (u : Value) (s' : Shared) : Prop := ∃ v H', Inv X pins σ H' s' ∧ RelV v u ∧ Q v H'
def TP (X : Cx) (pins : List (Addr × Obj)) (σ : St) (Q : Bool → Hp → Prop) (b : Bool) (s' : Shared) : Prop := ∃ H', Inv X pins σ H' s' ∧ Q b H'
def AP (X : Cx) (pins : List (Addr × Obj)) (σ : St) (Q : List V → Hp → Prop) (us : List Value) (s' : Shared) : Prop := ∃ vs H', Inv X pins σ H' s' ∧ Vals vs us ∧ Q vs H'
def SP (X : Cx) (pins : List (Addr × Obj)) (D : Ends) (f : Flow) (s' : Shared) : Prop :=
  match f with
  | .next => ∃ σ' H', Inv X pins σ' H' s' ∧ D.nx σ' H'
  | .brk => ∃ σ' H', Inv X pins σ' H' s' ∧ D.bk σ' H'
  | .cont => ∃ σ' H', Inv X pins σ' H' s' ∧ D.ct σ' H'
  | .ret u => ∃ v σ' H', Inv X pins σ' H' s' ∧ RelV v u ∧ D.rt v H'
def PE (X : Cx) (e : Expr) (t : TE) : Prop :=
  ∀ (pins : List (Addr × Obj)) (s : Shared) (σ : St) (H : Hp) (Q : VK), Inv X pins σ H s → t σ H Q → wpAny (model X.prog X.w) X.A (eval e X.env) (EP X pins σ Q) X.xe s
def PT (X : Cx) (e : Expr) (t : TT) : Prop :=
  ∀ (pins : List (Addr × Obj)) (s : Shared) (σ : St) (H : Hp) (Q : Bool → Hp → Prop), Inv X pins σ H s → t σ H Q → wpAny (model X.prog X.w) X.A (isTrue e X.env (eval e X.env)) (TP X pins σ Q) X.xe s
def PW (X : Cx) (e : Expr) (t : TT) : Prop :=
  ∀ (whole : Sem Value) (pins : List (Addr × Obj)) (s : Shared) (σ : St) (H : Hp) (Q : Bool → Hp → Prop), Inv X pins σ H s → t σ H Q → wpAny (model X.prog X.w) X.A (isTrue e X.env whole) (TP X pins σ Q) X.xe s
theorem PW.pt {X : Cx} {e : Expr} {t : TT} (h : PW X e t) : PT X e t := h _
def PA (X : Cx) (es : List Expr) (t : TA) : Prop :=
  ∀ (pos : Pos) (pins : List (Addr × Obj)) (s : Shared) (σ : St) (H : Hp) (Q : List V → Hp → Prop), Inv X pins σ H s → t σ H Q → wpAny (model X.prog X.w) X.A (spliced (backTo pos (starEach es X.env))) (AP X pins σ Q) X.xe s
def PS (X : Cx) (st : Stmt) (t : TS) : Prop :=
  ∀ (pins : List (Addr × Obj)) (s : Shared) (σ : St) (H : Hp) (D : Ends), Inv X pins σ H s → t D σ H → wpAny (model X.prog X.w) X.A (exec st X.env) (SP X pins D) X.xe s
def PSs (X : Cx) (st : List Stmt) (t : TS) : Prop :=
  ∀ (pins : List (Addr × Obj)) (s : Shared) (σ : St) (H : Hp) (D : Ends), Inv X pins σ H s → t D σ H → wpAny (model X.prog X.w) X.A (execs st X.env) (SP X pins D) X.xe s
theorem thn {α : Type} {t : Sem α} {Q Q' : α → Shared → Prop} {M : Model} {A : Around} {E : Value → Shared → Prop} {s : Shared} (h : wpAny M A t Q E s) (hQ : ∀ a s, Q a s → Q' a s) : wpAny M A t Q' E s := wpAny_mono h hQ fun _ _ x => x
end L2
namespace L2
open PySem PySem.Spec PyProof.Rows
section
variable {X : Cx}
def tVar (i : Nat) : TE := fun σ H Q => ∃ v, σ[i]? = some (some v) ∧ Q v H
def tC (v : V) : TE := fun _ H Q => Q v H
theorem pe_var {i : Nat} {x : Str} {pos : Pos} (hN : X.N[i]? = some x) (hv : Vis X.env.scope x) (hd : (x == ("__debug__" : Str)) = false := by decide) (hcd : (x == ("__classdict__" : Str)) = false := by decide) : PE X (.Name x pos) (tVar i) := by
  intro pins s σ H Q I h
  obtain ⟨v, e, h⟩ := h
  obtain ⟨m, hn, hl⟩ := I.loc
  obtain ⟨u, r, l⟩ := hl i x v hN e hv
  have fin : EP X pins σ Q u s := ⟨v, H, I, r, h⟩
  rcases l with ⟨hk, hm⟩ | ⟨hk, c, hc, hcell⟩
  · exact wpAny_Name (wpAny_loadName_local I.ok.kind hk hn hm fin) hd
  · rcases hk with hk | hk
    · exact wpAny_Name (wpAny_loadName_cell I.ok.kind hk hc hcell fin) hd
    · exact wpAny_Name (wpAny_loadName_free I.ok.kind hk hc hcell fin hcd) hd
theorem pe_int {i j pos} : PE X (.Constant (.int i) j pos) (tC (.int i)) := fun _ _ _ H _ I h => wpAny_Constant_int ⟨.int i, H, I.tok _, ⟨_, rfl⟩, h⟩
theorem pe_bl {b j pos} : PE X (.Constant (.bool b) j pos) (tC (.bl b)) := fun _ _ _ H _ I h => Constant_bool ⟨.bl b, H, I, rfl, h⟩
theorem pe_str {x j pos} : PE X (.Constant (.str x) j pos) (tC (.str x)) := fun _ _ _ H _ I h => Calls.Constant_str ⟨.str x, H, I.tok _, ⟨_, rfl⟩, h⟩
def Gl (X : Cx) (x : Str) : Prop := X.env.kindOf x = some .globalImplicit
theorem ld_glob {E : Value → Shared → Prop} {pins : List (Addr × Obj)} {s : Shared} {σ : St} {H : Hp} {x : Str} {u : Value} {pos : Pos} {Q : Value → Shared → Prop} (I : Inv X pins σ H s) (hg : Gl X x) (hm : X.mg x = some u) (h : Q u s)
    (hd : (x == ("__debug__" : Str)) = false := by decide) : wpAny (model X.prog X.w) X.A (eval (.Name x pos) X.env) Q E s :=
  Calls.Name_function_global I.ok.kind hg (Calls.loadGlobal_global (by rw [I.ok.glob]; exact I.mod.glob.keeps I.bk) hm h) hd
theorem ld_blt {E : Value → Shared → Prop} {pins : List (Addr × Obj)} {s : Shared} {σ : St} {H : Hp} {x : Str} {u : Value} {pos : Pos} {Q : Value → Shared → Prop} (I : Inv X pins σ H s) (hg : Gl X x) (hm : X.mg x = none) (hv : bootBuiltins x = some u) (h : Q u s)
    (hn : x ≠ "__name__" := by decide) (hd : (x == ("__debug__" : Str)) = false := by decide) : wpAny (model X.prog X.w) X.A (eval (.Name x pos) X.env) Q E s := by
  obtain ⟨mb, h1, h2⟩ := I.mod.blt
  exact Calls.Name_function_global I.ok.kind hg (Calls.loadGlobal_builtin (by rw [I.ok.glob]; exact I.mod.glob.keeps I.bk) hm (by rw [I.ok.blt]; exact h1.keeps I.bk) ((h2 x hn).trans hv) h) hd
theorem pe_glob {x : Str} {v : V} {u : Value} {pos : Pos} (hg : Gl X x) (hm : X.mg x = some u) (r : RelV v u) (hd : (x == ("__debug__" : Str)) = false := by decide) : PE X (.Name x pos) (tC v) :=
  fun _ _ _ H _ I h => ld_glob I hg hm ⟨v, H, I, r, h⟩ hd
theorem pe_bltn {x : Str} {v : V} {u : Value} {pos : Pos} (hg : Gl X x) (hm : X.mg x = none) (hv : bootBuiltins x = some u) (r : RelV v u) (hn : x ≠ "__name__" := by decide) (hd : (x == ("__debug__" : Str)) = false := by decide) : PE X (.Name x pos) (tC v) :=
  fun _ _ _ H _ I h => ld_blt I hg hm hv ⟨v, H, I, r, h⟩ hn hd
variable {a b : Expr} {ta tb : TE} {pos : Pos}
def tIsN (ta : TE) : TE := fun σ H Q => ta σ H fun x H1 => Q (.bl (decide (x = .non))) H1
def tNotN (ta : TE) : TE := fun σ H Q => ta σ H fun x H1 => Q (.bl (!decide (x = .non))) H1
def tB (t : TE) : TT := fun σ H Q => t σ H fun x H1 => ∃ c, x = .bl c ∧ Q c H1
theorem pt_val {e : Expr} {t : TE} (h : PE X e t) (he : ∀ whole, isTrue e X.env whole = (do let v ← whole; standAt e.pos; holding [v] (truthy v)) := by intro _; rfl) : PT X e (tB t) := by
  intro pins s σ H Q I hw
  refine isTrue_plain (thn (h pins s σ H _ I hw) fun v s1 ⟨x, H1, I1, r1, q1⟩ => ?_) (he _)
  obtain ⟨d, rfl, q⟩ := q1
  cases r1
  exact wpAny_truthy_bool ⟨H1, I1, q⟩
variable {tA tB' : TT} {rest : List Expr}
def tAnd (t u : TT) : TT := fun σ H Q => t σ H fun c H1 => if c = true then u σ H1 Q else Q false H1
def tOr (t u : TT) : TT := fun σ H Q => t σ H fun c H1 => if c = true then Q true H1 else u σ H1 Q
def tNot (t : TT) : TT := fun σ H Q => t σ H fun c H1 => Q (!c) H1
theorem pw_and1 (ha : PT X a tA) : PW X (.BoolOp .And [a] pos) tA := by
  intro wh pins s σ H Q I h
  refine isTrue_and (thn (ha pins s σ H Q I h) fun c s1 e => ?_)
  cases c with
  | true => exact isTrue_and_nil e
  | false => exact e
theorem pw_or1 (ha : PT X a tA) : PW X (.BoolOp .Or [a] pos) tA := by
  intro wh pins s σ H Q I h
  refine isTrue_or (thn (ha pins s σ H Q I h) fun c s1 e => ?_)
  cases c with
  | false => exact isTrue_or_nil e
  | true => exact e
theorem pw_and (ha : PT X a tA) (hb : PW X (.BoolOp .And (b :: rest) pos) tB') : PW X (.BoolOp .And (a :: b :: rest) pos) (tAnd tA tB') := by
  intro wh pins s σ H Q I h
  refine isTrue_and (thn (ha pins s σ H _ I h) fun c s1 ⟨H1, I1, q1⟩ => ?_)
  cases c with
  | true => exact hb wh pins s1 σ H1 Q I1 q1
  | false => exact ⟨H1, I1, q1⟩
theorem pw_or (ha : PT X a tA) (hb : PW X (.BoolOp .Or (b :: rest) pos) tB') : PW X (.BoolOp .Or (a :: b :: rest) pos) (tOr tA tB') := by
  intro wh pins s σ H Q I h
  refine isTrue_or (thn (ha pins s σ H _ I h) fun c s1 ⟨H1, I1, q1⟩ => ?_)
  cases c with
  | true => exact ⟨H1, I1, q1⟩
  | false => exact hb wh pins s1 σ H1 Q I1 q1
theorem pt_not (ha : PT X a tA) : PT X (.UnaryOp .Not a pos) (tNot tA) := by
  intro pins s σ H Q I h
  exact isTrue_not (ha pins s σ H (fun c H1 => Q (!c) H1) I h)
def tAndV (ta tb : TE) : TE := fun σ H Q => ta σ H fun x H1 => ∃ c, x = .bl c ∧ if c = true then tb σ H1 Q else Q (.bl false) H1
def tOrV (ta tb : TE) : TE := fun σ H Q => ta σ H fun x H1 => ∃ c, x = .bl c ∧ if c = true then Q (.bl true) H1 else tb σ H1 Q
def tNotV (ta : TE) : TE := fun σ H Q => ta σ H fun x H1 => ∃ c, x = .bl c ∧ Q (.bl (!c)) H1
theorem pe_one {op} {t : TE} (h : PE X a t) : PE X (.BoolOp op [a] pos) t := fun pins s σ H Q I hw => BoolOp_one (h pins s σ H Q I hw)
theorem pe_and (ha : PE X a ta) (hb : PE X (.BoolOp .And (b :: rest) pos) tb) : PE X (.BoolOp .And (a :: b :: rest) pos) (tAndV ta tb) := by
  intro pins s σ H Q I h
  refine BoolOp_and (thn (ha pins s σ H _ I h) fun v s1 ⟨x, H1, I1, r1, q1⟩ => ?_)
  obtain ⟨c, rfl, q1⟩ := q1
  cases r1
  refine wpAny_truthy_bool ?_
  cases c with
  | true => exact hb pins s1 σ H1 Q I1 q1
  | false => exact ⟨.bl false, H1, I1, rfl, q1⟩
def tIf (t : TT) (ta tb : TE) : TE := fun σ H Q => t σ H fun c H1 => if c = true then ta σ H1 Q else tb σ H1 Q
end
end L2
namespace L2
open PySem PySem.Spec PyProof.Rows
def SqL (K : PySem.W.Frag) (H : Hp) (a : Addr) (xs : List V) : Prop :=
  Rd H a (.lst xs) ∨
    ∃ (o : Obj) (its : Array Value) (n : Nat), K.lookup a = some o ∧ o.cls = .type "list" ∧ o.dict = none ∧ o.data = .seq its n ∧ its.size ≤ sizeLine ∧ Vals xs its.toList
def SqT (K : PySem.W.Frag) (H : Hp) (a : Addr) (xs : List V) : Prop :=
  Rd H a (.tup xs) ∨
    ∃ (o : Obj) (its : Array Value) (n : Nat), K.lookup a = some o ∧ o.cls = .type "tuple" ∧ o.data = .seq its n ∧ its.size ≤ sizeLine ∧ Vals xs its.toList
def absV : Value → Option V
  | .none => some .non
  | .bool b => some (.bl b)
  | .int i _ => some (.int i)
  | .str x _ => some (.str x)
  | .bytes b _ => some (.byt b)
  | .float b _ => some (.flt b)
  | .ref a => some (.ref a)
  | .type n => some (.ty n)
  | _ => none
theorem RelV.abs {x : V} {u : Value} (r : RelV x u) : absV u = some x := by
  cases x with
  | non => cases r; rfl
  | bl _ => cases r; rfl
  | int _ => obtain ⟨t, rfl⟩ := r; rfl
  | str _ => obtain ⟨t, rfl⟩ := r; rfl
  | byt _ => obtain ⟨t, rfl⟩ := r; rfl
  | flt _ => obtain ⟨t, rfl⟩ := r; rfl
  | ref _ => cases r; rfl
  | ty _ => cases r; rfl
theorem RelV.inj {x y : V} {u : Value} (r : RelV x u) (q : RelV y u) : x = y := Option.some.inj (r.abs.symm.trans q.abs)
theorem Vals.inj : ∀ {xs ys : List V} {us : List Value}, Vals xs us → Vals ys us → xs = ys
  | _, _, _, .nil, .nil => rfl
  | _, _, _, .cons r t, .cons r' t' => by rw [r.inj r', Vals.inj t t']
section
variable {X : Cx} {pins : List (Addr × Obj)} {σ : St} {H : Hp} {s : Shared} {a : Addr} {xs ys : List V}
theorem SqL.of {K : PySem.W.Frag} (h : H a = some (.lst xs)) : SqL K H a xs := .inl (.inl h)
theorem SqT.of {K : PySem.W.Frag} (h : H a = some (.tup xs)) : SqT K H a xs := .inl (.inl h)
theorem Inv.list (I : Inv X pins σ H s) (h : SqL X.K H a xs) : ∃ its : List Value, Vals xs its ∧ PlainL s.heap a its.toArray ∧ xs.length ≤ sizeLine := by
  rcases h with h | ⟨o, its, n, hk, hc, hd, hs, hz, r⟩
  · obtain ⟨z, its, n, r, e⟩ := h.ok I.hok
    exact ⟨its, r, ⟨_, n, e, rfl, rfl, rfl⟩, z⟩
  · refine ⟨its.toList, r, ⟨o, n, I.kIn a o hk, hc, hd, by simpa using hs⟩, ?_⟩
    have e := r.length
    simp only [Array.length_toList] at e
    omega
theorem Inv.tuple (I : Inv X pins σ H s) (h : SqT X.K H a xs) : ∃ its : List Value, Vals xs its ∧ IsTup s.heap a its.toArray ∧ xs.length ≤ sizeLine := by
  rcases h with h | ⟨o, its, n, hk, hc, hs, hz, r⟩
  · obtain ⟨z, its, r, p⟩ := h.ok I.hok
    exact ⟨its, r, p, z⟩
  · refine ⟨its.toList, r, ⟨o, I.kIn a o hk, hc, n, by simpa using hs⟩, ?_⟩
    have e := r.length
    simp only [Array.length_toList] at e
    omega
theorem Inv.list_inj (I : Inv X pins σ H s) (h : SqL X.K H a xs) (h' : SqL X.K H a ys) : xs = ys := by
  obtain ⟨its, r, ⟨o, n, e, _, _, d⟩, _⟩ := I.list h
  obtain ⟨its', r', ⟨o', n', e', _, _, d'⟩, _⟩ := I.list h'
  rw [e] at e'; cases e'
  rw [d] at d'
  injection d' with d1 _
  have : its = its' := by simpa using congrArg Array.toList d1
  subst this
  exact r.inj r'
theorem Inv.tuple_inj (I : Inv X pins σ H s) (h : SqT X.K H a xs) (h' : SqT X.K H a ys) : xs = ys := by
  obtain ⟨its, r, ⟨o, e, _, n, d⟩, _⟩ := I.tuple h
  obtain ⟨its', r', ⟨o', e', _, n', d'⟩, _⟩ := I.tuple h'
  rw [e] at e'; cases e'
  rw [d] at d'
  injection d' with d1 _
  have : its = its' := by simpa using congrArg Array.toList d1
  subst this
  exact r.inj r'
end
abbrev Cx.wish (X : Cx) (E : Value → Shared → Prop) : Cx := { X with xe := E }
abbrev Cx.nox (X : Cx) : Cx := X.wish fun _ _ => False
theorem Cx.Ok.wish {X : Cx} (ok : X.Ok) (E : Value → Shared → Prop) : (X.wish E).Ok :=
  ⟨ok.mod, ok.kind, ok.glob, ok.blt, ok.above, ok.inj, ok.has, ok.cab, ok.hd, ok.frames, ok.stk, ok.exf, ok.bs, ok.bsz, ok.noex, ok.exfs, ok.funs, ok.frf⟩
theorem Cx.Ok.unwish {X : Cx} {E : Value → Shared → Prop} (ok : (X.wish E).Ok) : X.Ok :=
  ⟨ok.mod, ok.kind, ok.glob, ok.blt, ok.above, ok.inj, ok.has, ok.cab, ok.hd, ok.frames, ok.stk, ok.exf, ok.bs, ok.bsz, ok.noex, ok.exfs, ok.funs, ok.frf⟩
section
variable {X : Cx} {pins : List (Addr × Obj)} {σ : St} {H : Hp} {s : Shared} {E : Value → Shared → Prop}
theorem Inv.wish (I : Inv X pins σ H s) (E : Value → Shared → Prop) : Inv (X.wish E) pins σ H s := ⟨I.ok.wish E, I.os, I.bare, I.base, I.loc, I.cell, I.free, I.freeC, I.pin, I.hok, I.len⟩
theorem Inv.unwish (I : Inv (X.wish E) pins σ H s) : Inv X pins σ H s := ⟨I.ok.unwish, I.os, I.bare, I.base, I.loc, I.cell, I.free, I.freeC, I.pin, I.hok, I.len⟩
theorem SP.unwish {D : Ends} {f : Flow} {s' : Shared} (h : SP (X.wish E) pins D f s') : SP X pins D f s' := by
  cases f with
  | next => obtain ⟨σ', H', I, q⟩ := h; exact ⟨σ', H', I.unwish, q⟩
  | brk => obtain ⟨σ', H', I, q⟩ := h; exact ⟨σ', H', I.unwish, q⟩
  | cont => obtain ⟨σ', H', I, q⟩ := h; exact ⟨σ', H', I.unwish, q⟩
  | ret u => obtain ⟨v, σ', H', I, r, q⟩ := h; exact ⟨v, σ', H', I.unwish, r, q⟩
theorem PE.nox {e : Expr} {t : TE} (h : PE X.nox e t) : PE X e t := fun pins s σ H Q I hw =>
  wpAny_mono (h pins s σ H Q (I.wish _) hw) (fun _ _ ⟨v, H', I', r, q⟩ => ⟨v, H', I'.unwish, r, q⟩) fun _ _ z => False.elim z
theorem PT.nox {e : Expr} {t : TT} (h : PT X.nox e t) : PT X e t := fun pins s σ H Q I hw =>
  wpAny_mono (h pins s σ H Q (I.wish _) hw) (fun _ _ ⟨H', I', q⟩ => ⟨H', I'.unwish, q⟩) fun _ _ z => False.elim z
theorem PSs.nox {st : List Stmt} {t : TS} (h : PSs X.nox st t) : PSs X st t := fun pins s σ H D I hw =>
  wpAny_mono (h pins s σ H D (I.wish _) hw) (fun _ _ q => q.unwish) fun _ _ z => False.elim z
end
section
variable {X : Cx} {st : Stmt} {rest : List Stmt} {t u : TS} {e : Expr} {te : TE} {pos : Pos}
def tNext : TS := fun D σ H => D.nx σ H
def tSeq (t u : TS) : TS := fun D σ H => t { D with nx := u D } σ H
theorem pss_nil : PSs X [] tNext := fun _ _ σ H _ I h => wpAny_execs_nil ⟨σ, H, I, h⟩
theorem pss_cons (h1 : PS X st t) (h2 : PSs X rest u) : PSs X (st :: rest) (tSeq t u) := by
  intro pins s σ H D I h
  refine wpAny_execs_cons (thn (h1 pins s σ H { D with nx := u D } I h) fun f s1 q => ?_)
  cases f with
  | next =>
    obtain ⟨σ', H', I', q⟩ := q
    exact h2 pins s1 σ' H' D I' q
  | ret v => exact q
  | brk => exact q
  | cont => exact q
theorem pss_one (h1 : PS X st t) : PSs X [st] t := by
  intro pins s σ H D I h
  refine wpAny_execs_cons (thn (h1 pins s σ H D I h) fun f s1 q => ?_)
  cases f with
  | next => exact wpAny_execs_nil q
  | ret v => exact q
  | brk => exact q
  | cont => exact q
def tBreak : TS := fun D σ H => D.bk σ H
def tCont : TS := fun D σ H => D.ct σ H
theorem Inv.quiet {pins : List (Addr × Obj)} {σ : St} {H : Hp} {s : Shared} (I : Inv X pins σ H s) : interactive X.env = false := by simp [interactive, I.ok.kind]
def tDrop (te : TE) : TS := fun D σ H => te σ H fun _ H1 => D.nx σ H1
theorem ps_expr (he : PE X e te) (hs : swapsWith e none pos.line X.env = pure false := by rfl) : PS X (.Expr e pos) (tDrop te) := by
  intro pins s σ H D I h
  exact wpAny_Expr_any (thn (he pins s σ H _ I h) fun v s1 ⟨x, H1, I1, r1, q1⟩ => ⟨σ, H1, I1, q1⟩) I.quiet hs
def tRet (te : TE) : TS := fun D σ H => te σ H D.rt
theorem ps_ret (he : PE X e te) : PS X (.Return (some e) pos) (tRet te) := by
  intro pins s σ H D I h
  exact wpAny_Return_some (thn (he pins s σ H _ I h) fun v s1 ⟨x, H1, I1, r1, q1⟩ => ⟨x, σ, H1, I1, r1, q1⟩)
def tRetN : TS := fun D _ H => D.rt .non H
def tIfS (c : TT) (t u : TS) : TS := fun D σ H => c σ H fun b H1 => if b = true then t D σ H1 else u D σ H1
theorem ps_if {c : Expr} {a b : List Stmt} {tc : TT} (hc : PT X c tc) (ha : PSs X a t) (hb : PSs X b u) : PS X (.If c a b pos) (tIfS tc t u) := by
  intro pins s σ H D I h
  refine wpAny_If (thn (hc pins s σ H _ I h) fun d s1 ⟨H1, I1, q1⟩ => ?_)
  cases d with
  | true => exact ha pins s1 σ H1 D I1 q1
  | false => exact hb pins s1 σ H1 D I1 q1
end
abbrev TG := V → St → Hp → (St → Hp → Prop) → Prop
abbrev TGs := List V → St → Hp → (St → Hp → Prop) → Prop
def PG (X : Cx) (target : Expr) (t : TG) : Prop :=
  ∀ (pins : List (Addr × Obj)) (s : Shared) (σ : St) (H : Hp) (v : V) (u : Value) (Q : St → Hp → Prop), Inv X pins σ H s → RelV v u → t v σ H Q →
    wpAny (model X.prog X.w) X.A (assign target X.env u) (fun _ s' => ∃ σ' H', Inv X pins σ' H' s' ∧ Q σ' H') X.xe s
abbrev TSet := V → V → V → Hp → (Hp → Prop) → Prop
def PSet (X : Cx) (t : TSet) : Prop :=
  ∀ (pins : List (Addr × Obj)) (s : Shared) (σ : St) (H : Hp) (o i v : V) (ov iv u : Value) (Q : Hp → Prop), Inv X pins σ H s → RelV o ov → RelV i iv → RelV v u → t o i v H Q →
    wpAny (model X.prog X.w) X.A (setItem ov iv u) (fun _ s' => ∃ H', Inv X pins σ H' s' ∧ Q H') X.xe s
abbrev TIp := V → V → Hp → VK → Prop
section
variable {X : Cx} {pos : Pos}
def gName (i : Nat) : TG := fun v σ H Q => Q (σ.set i (some v)) H
theorem pg_name {i : Nat} {x : Str} (hN : X.N.Nodup) (hi : X.N[i]? = some x) (hx : Loc X.env.scope x) (hf : X.fn x = true ∨ X.env.scope.names.lookup x = some .local := by first | exact .inl rfl | exact .inr rfl | assumption) : PG X (.Name x pos) (gName i) := by
  intro pins s σ H v u Q I r h
  exact wpAny_assign_Name (store_ok I hN hi hx r (fun s' I' => ⟨_, H, I', h⟩) hf)
def gNil : TGs := fun vs σ H Q => vs = [] ∧ Q σ H
def gCons (t : TG) (u : TGs) : TGs := fun vs σ H Q => ∃ v r, vs = v :: r ∧ t v σ H fun σ' H' => u r σ' H' Q
def gTup (K : PySem.W.Frag) (n : Nat) (t : TGs) : TG := fun v σ H Q => ∃ a xs, v = .ref a ∧ SqT K H a xs ∧ xs.length = n ∧ t xs σ H Q
def gSub (to ti : TE) (t : TSet) : TG := fun v σ H Q => to σ H fun o H1 => ti σ H1 fun i H2 => t o i v H2 fun H3 => Q σ H3
theorem pg_sub {o i : Expr} {to ti : TE} {t : TSet} (ho : PE X o to) (hi : PE X i ti) (hs : PSet X t)
    (ha : ∀ v, assign (.Subscript o i pos) X.env v = (do
      let ov ← holding [v] (eval o X.env)
      let iv ← holding [v, ov] (eval i X.env)
      standAt pos
      holding [v, ov, iv] (setItem ov iv v)
      release [v, ov, iv] []) := by intro _; rfl) : PG X (.Subscript o i pos) (gSub to ti t) := by
  intro pins s σ H v u Q I r h
  rw [ha]
  refine wpAny_bind (wpAny_holding (thn (ho pins s σ H _ I h) fun ov s1 ⟨x, H1, I1, r1, q1⟩ => ?_))
  refine wpAny_bind (wpAny_holding (thn (hi pins s1 σ H1 _ I1 q1) fun iv s2 ⟨y, H2, I2, r2, q2⟩ => ?_))
  refine wpAny_bind (wpAny_standAt (wpAny_bind (wpAny_holding (thn (hs pins s2 σ H2 x y v ov iv u _ I2 r1 r2 r q2) fun _ s3 ⟨H3, I3, q3⟩ => ?_))))
  exact wpAny_release ⟨σ, H3, I3, q3⟩
def tAsg (te : TE) (g : TG) : TS := fun D σ H => te σ H fun x H1 => g x σ H1 D.nx
theorem ps_asg {tg e : Expr} {te : TE} {g : TG} (he : PE X e te) (hg : PG X tg g) (hs : swapsWithSole [tg] e pos.line X.env = pure false := by rfl) (hw : swappedStores [tg] e X.env = pure none := by rfl)
    (h1 : (assignEach [tg] X.env).map (·.2) = [assign tg X.env] := by rfl) : PS X (.Assign [tg] e pos) (tAsg te g) := by
  intro pins s σ H D I h
  refine wpAny_Assign_stores (thn (he pins s σ H _ I h) fun v s1 ⟨x, H1, I1, r1, q1⟩ => ?_) hs hw
  rw [h1]
  exact thn (hg pins s1 σ H1 x v _ I1 r1 q1) fun _ s2 q => q
theorem ps_set {i : Nat} {x : Str} {e : Expr} {te : TE} {pos' : Pos} (hN : X.N.Nodup) (hi : X.N[i]? = some x) (hx : Loc X.env.scope x) (he : PE X e te) (hs : swapsWith e (some (.Name x pos')) pos.line X.env = pure false := by rfl) (hf : X.fn x = true ∨ X.env.scope.names.lookup x = some .local := by first | exact .inl rfl | exact .inr rfl | assumption) :
    PS X (.Assign [.Name x pos'] e pos) (tAsg te (gName i)) := by
  intro pins s σ H D I h
  refine wpAny_Assign_Name (thn (he pins s σ H _ I h) fun v s1 ⟨y, H1, I1, r1, q1⟩ => ?_) hs
  exact store_ok I1 hN hi hx r1 (fun s2 I2 => ⟨_, H1, I2, q1⟩) hf
def tAug (i : Nat) (te : TE) (ti : TIp) : TS := fun D σ H => ∃ x, σ[i]? = some (some x) ∧ te σ H fun y H1 => ti x y H1 fun z H2 => D.nx (σ.set i (some z)) H2
def ipI (f : Int → Int → Int) : TIp := fun x y H Q => ∃ i j, x = .int i ∧ y = .int j ∧ Q (.int (f i j)) H
end
section
variable {X : Cx} {pos : Pos}
def tWhile (c : TT) (tb : TS) : TS := fun D σ H => ∃ W : Nat → St → Hp → Prop, (∃ m, W m σ H) ∧ ∀ m σ H, W m σ H →
  c σ H fun b H1 => if b = true then ∃ N : St → Hp → Prop, (∀ σ' H', N σ' H' → ∃ m', m' < m ∧ W m' σ' H') ∧ tb { D with nx := N, ct := N, bk := D.nx } σ H1 else D.nx σ H1
end
structure It where
  go : Nat → Hp → Prop
  yld : Nat → Hp → V → Hp → Prop
  stop : Nat → Hp → Prop
def FpOk (X : Cx) (pins : List (Addr × Obj)) (H : Hp) (b : Addr) : Prop :=
  H b = none ∧ b ≠ X.env.locals ∧ b ∉ X.fs ∧ (b ∈ X.ex ∨ X.s₀.heap.objs.size ≤ b) ∧ (∀ x c, X.env.cells.lookup x = some c → c ≠ b) ∧ ∀ p ∈ X.pn ++ pins, p.1 ≠ b
theorem Inv.fpOk {X : Cx} {pins : List (Addr × Obj)} {σ : St} {H H' : Hp} {s : Shared} {b : Addr} (I : Inv X pins σ H s) (hb : s.heap.objs.size ≤ b) (hn : H' b = none) : FpOk X pins H' b := by
  refine ⟨hn, Nat.ne_of_gt (Nat.lt_of_lt_of_le I.lt hb), I.nofs hb, .inr (Nat.le_trans I.sz hb), fun x c e z => ?_, fun p hp z => ?_⟩
  · obtain ⟨v, q⟩ := I.cell x c e
    exact absurd (Nat.lt_of_lt_of_le q.lt (by rw [z]; exact hb)) (Nat.lt_irrefl _)
  · exact absurd (Nat.lt_of_lt_of_le (Heap.lt_size (I.pin p hp).1) (by rw [z]; exact hb)) (Nat.lt_irrefl _)
structure Turn (P : Program) (w : World) (K : PySem.W.Frag) (tg : Expr) (J : It) (fp : List Addr) (it : Addr) (tn : Nat → Heap → Prop) : Prop where
  mem : it ∈ fp
  obj : ∀ i h, tn i h → ∀ b ∈ fp, ∃ o, h.get? b = some o ∧ ∀ v, o.data ≠ .cell v
  keep : ∀ i h h', tn i h → (∀ b ∈ fp, ∀ o, h.get? b = some o → h'.get? b = some o) → tn i h'
  item : ∀ (X : Cx), X.prog = P → X.w = w → X.K = K → X.calm = true → ∀ (i : Nat) (pins : List (Addr × Obj)) (s : Shared) (σ : St) (H : Hp) (E : Value → Shared → Prop), Inv X pins σ H s → (∀ b ∈ fp, FpOk X pins H b) → tn i s.heap → J.go i H →
    wpAny (model P w) X.A (pyNext (.ref it)) (fun r s1 => ∃ u, r = some u ∧
      wpAny (model P w) X.A (letOwnedTupleGo tg (.ref it) u) (fun _ s2 => ∃ x H', Inv X pins σ H' s2 ∧ RelV x u ∧ J.yld i H x H' ∧ tn (i + 1) s2.heap ∧ ∀ b ∈ fp, H' b = none) E s1) E s
  done : ∀ (X : Cx), X.prog = P → X.w = w → X.K = K → X.calm = true → ∀ (i : Nat) (pins : List (Addr × Obj)) (s : Shared) (σ : St) (H : Hp) (E : Value → Shared → Prop), Inv X pins σ H s → (∀ b ∈ fp, FpOk X pins H b) → tn i s.heap → J.stop i H →
    wpAny (model P w) X.A (pyNext (.ref it)) (fun r s1 => r = none ∧ Inv X pins σ H s1) E s
  self : ∀ (A : Around) (i : Nat) (s : Shared) (Q : Value → Shared → Prop) (E : Value → Shared → Prop), tn i s.heap → Q (.ref it) s → wpAny (model P w) A (pyIter (.ref it)) Q E s
abbrev TI := St → Hp → (It → Hp → Prop) → Prop
def PIE (X : Cx) (pins : List (Addr × Obj)) (σ : St) (tg : Expr) (R : It → Hp → Prop) (itv : Value) (s2 : Shared) : Prop :=
  ∃ (it : Addr) (fp : List Addr) (tn : Nat → Heap → Prop) (J : It) (H' : Hp), itv = .ref it ∧ Inv X pins σ H' s2 ∧ Turn X.prog X.w X.K tg J fp it tn ∧ tn 0 s2.heap ∧ (∀ b ∈ fp, FpOk X pins H' b) ∧ R J H'
def PI (X : Cx) (tg iter : Expr) (wi : TI) : Prop :=
  ∀ (pins : List (Addr × Obj)) (s : Shared) (σ : St) (H : Hp) (R : It → Hp → Prop), Inv X pins σ H s → wi σ H R →
    wpAny (model X.prog X.w) X.A (eval iter X.env) (fun v s1 => wpAny (model X.prog X.w) X.A (pyIter v) (PIE X pins σ tg R) X.xe s1) X.xe s
theorem go_of {M : Model} {A : Around} {E : Value → Shared → Prop} {s : Shared} {tg : Expr} {it : Addr} {u : Value} {o : Obj} {n : String} {vs : Array Value} {Q : Unit → Shared → Prop} (ho : s.heap.get? it = some o) (hc : o.cls = .type n) (hd : o.data = .fields vs)
    (hn : ["enumerate", "zip", "dict_itemiterator", "dict_reverseitemiterator", "odict_iterator", "itertools.zip_longest", "itertools.pairwise"].contains n = false) (hQ : Q () s) : wpAny M A (letOwnedTupleGo tg (.ref it) u) Q E s := by
  unfold letOwnedTupleGo
  cases tg <;> first
    | exact wpAny_pure hQ
    | (cases u <;> first
        | exact wpAny_pure hQ
        | (refine wpAny_bind (wpAny_load ho ?_)
           rw [hc, hd]
           show wpAny M A (if (["enumerate", "zip", "dict_itemiterator", "dict_reverseitemiterator", "odict_iterator", "itertools.zip_longest", "itertools.pairwise"].contains n && vs[0]? == some (rawInt _)) = true then _ else _) Q E s
           rw [if_neg (by intro h; rw [hn, Bool.false_and] at h; cases h)]
           exact wpAny_pure hQ))
def Itl (K : PySem.W.Frag) (a : Addr) : It :=
  ⟨fun i H => ∃ xs x, SqL K H a xs ∧ xs[i]? = some x, fun i H x H' => H' = H ∧ ∀ xs, SqL K H a xs → xs[i]? = some x, fun i H => ∃ xs, SqL K H a xs ∧ xs.length ≤ i⟩
def Itt (K : PySem.W.Frag) (a : Addr) : It :=
  ⟨fun i H => ∃ xs x, SqT K H a xs ∧ xs[i]? = some x, fun i H x H' => H' = H ∧ ∀ xs, SqT K H a xs → xs[i]? = some x, fun i H => ∃ xs, SqT K H a xs ∧ xs.length ≤ i⟩
def Itr (lo : Int) (n : Nat) : It := ⟨fun i _ => i < n, fun i H x H' => H' = H ∧ x = .int (lo + i), fun i _ => n ≤ i⟩
theorem turn_list {P : Program} {w : World} {K : PySem.W.Frag} {tg : Expr} (a it : Addr) : Turn P w K tg (Itl K a) [it] it (fun i h => h.IsListIter it a i) where
  mem := by simp
  obj := fun i h st b hb => by
    have e : b = it := by simpa using hb
    subst e
    obtain ⟨o, e, c, d⟩ := st
    exact ⟨o, e, fun v z => by rw [d] at z; cases z⟩
  keep := fun i h h' st k => st.at fun o e => k it (by simp) o e
  item := by
    intro X hP hw hK hc i pins s σ H E I hf st hg
    subst hP hw hK
    obtain ⟨xs, x, hq, hx⟩ := hg
    obtain ⟨its, rv, p, hz⟩ := I.list hq
    obtain ⟨u, hu, ru⟩ := rv.get hx
    obtain ⟨f0, f1, f2, f3, f4, f5⟩ := hf it (by simp)
    refine wpAny_pyNext_list_item st p.isList (x := u) (by simpa using hu) fun h' st' sb => ?_
    have I1 : Inv X pins σ H { s with heap := h' } := I.turned (t' := s.toks) (fun b o hb e => (sb.2 b hb).trans e) f0 f1 f3 f4 f5
    obtain ⟨o, e, c, d⟩ := id st'
    exact ⟨u, rfl, go_of (s := { s with heap := h' }) e c d (by decide) ⟨x, H, I1, ru, ⟨rfl, fun ys hy => by rw [I.list_inj hy hq]; exact hx⟩, st', fun b hb => (hf b hb).1⟩⟩
  done := by
    intro X hP hw hK hc i pins s σ H E I hf st hg
    subst hP hw hK
    obtain ⟨xs, hq, hx⟩ := hg
    obtain ⟨its, rv, p, hz⟩ := I.list hq
    obtain ⟨f0, f1, f2, f3, f4, f5⟩ := hf it (by simp)
    have hl := rv.length
    exact wpAny_pyNext_list_end (I.ok.hd hc) st p.isList (by simp; omega) fun h' eb => ⟨rfl, I.turned (t' := s.toks) (fun b o hb e => eb b o hb e) f0 f1 f3 f4 f5⟩
  self := fun _ _ _ _ _ st h => wpAny_pyIter_listiter st h
theorem turn_tuple {P : Program} {w : World} {K : PySem.W.Frag} {tg : Expr} (a it : Addr) : Turn P w K tg (Itt K a) [it] it (fun i h => h.IsTupleIter it a i) where
  mem := by simp
  obj := fun i h st b hb => by
    have e : b = it := by simpa using hb
    subst e
    obtain ⟨o, e, c, d⟩ := st
    exact ⟨o, e, fun v z => by rw [d] at z; cases z⟩
  keep := fun i h h' st k => st.at fun o e => k it (by simp) o e
  item := by
    intro X hP hw hK hc i pins s σ H E I hf st hg
    subst hP hw hK
    obtain ⟨xs, x, hq, hx⟩ := hg
    obtain ⟨its, rv, p, hz⟩ := I.tuple hq
    obtain ⟨u, hu, ru⟩ := rv.get hx
    obtain ⟨f0, f1, f2, f3, f4, f5⟩ := hf it (by simp)
    refine wpAny_pyNext_tuple_item st (show s.heap.IsTuple a its.toArray from p) (x := u) (by simpa using hu) fun h' st' sb => ?_
    have I1 : Inv X pins σ H { s with heap := h' } := I.turned (t' := s.toks) (fun b o hb e => (sb.2 b hb).trans e) f0 f1 f3 f4 f5
    obtain ⟨o, e, c, d⟩ := id st'
    exact ⟨u, rfl, go_of (s := { s with heap := h' }) e c d (by decide) ⟨x, H, I1, ru, ⟨rfl, fun ys hy => by rw [I.tuple_inj hy hq]; exact hx⟩, st', fun b hb => (hf b hb).1⟩⟩
  done := by
    intro X hP hw hK hc i pins s σ H E I hf st hg
    subst hP hw hK
    obtain ⟨xs, hq, hx⟩ := hg
    obtain ⟨its, rv, p, hz⟩ := I.tuple hq
    obtain ⟨f0, f1, f2, f3, f4, f5⟩ := hf it (by simp)
    have hl := rv.length
    exact wpAny_pyNext_tuple_end (I.ok.hd hc) st (show s.heap.IsTuple a its.toArray from p) (by simp; omega) fun h' eb => ⟨rfl, I.turned (t' := s.toks) (fun b o hb e => eb b o hb e) f0 f1 f3 f4 f5⟩
  self := fun _ _ _ _ _ st h => wpAny_pyIter_tupleiter st h
theorem turn_range {P : Program} {w : World} {K : PySem.W.Frag} {tg : Expr} (it : Addr) (lo : Int) (n : Nat) : Turn P w K tg (Itr lo n) [it] it (fun i h => IsRangeIter h it (lo + (i : Nat) * 1) ((n : Int) - (i : Nat)) 1) where
  mem := by simp
  obj := fun i h st b hb => by
    have e : b = it := by simpa using hb
    subst e
    exact ⟨_, st, fun v z => by
      have z' : Data.fields _ = Data.cell v := z
      cases z'⟩
  keep := fun i h h' st k => k it (by simp) _ st
  item := by
    intro X hP hw hK hc i pins s σ H E I hf st hg
    subst hP hw hK
    obtain ⟨f0, f1, f2, f3, f4, f5⟩ := hf it (by simp)
    have W := Walks.range (prog := X.prog) (w := X.w) (I.ok.hd hc) it lo 1 n
    refine W.item i s _ _ hg st fun v h' tk hv st' kk => ?_
    obtain ⟨t, rfl⟩ := hv
    have I1 : Inv X pins σ H { s with heap := h', toks := tk } := I.turned (fun b o hb e => kk b o (by simpa using hb) e) f0 f1 f3 f4 f5
    refine ⟨_, rfl, go_of (s := { s with heap := h', toks := tk }) (n := "range_iterator") st' rfl rfl (by decide) ⟨.int (lo + i), H, I1, ⟨t, ?_⟩, ⟨rfl, rfl⟩, st', fun b hb => (hf b hb).1⟩⟩
    rw [Int.mul_one]
  done := by
    intro X hP hw hK hc i pins s σ H E I hf st hg
    subst hP hw hK
    obtain ⟨f0, f1, f2, f3, f4, f5⟩ := hf it (by simp)
    exact wpAny_pyNext_range_end (I.ok.hd hc) st (by have : n ≤ i := hg; omega) fun h' eb => ⟨rfl, I.turned (t' := s.toks) (fun b o hb e => eb b o hb e) f0 f1 f3 f4 f5⟩
  self := fun _ _ _ _ _ st h => wpAny_pyIter_rangeiter st h
end L2
namespace L2
open PySem PySem.Spec PyProof.Rows
section
variable {X : Cx} {tg : Expr}
theorem range_it {pins : List (Addr × Obj)} {σ : St} {H : Hp} {s : Shared} {R : It → Hp → Prop} {E : Value → Shared → Prop} {lo hi : Int} {t u v : Tok} {tk : Nat} (I : Inv X pins σ H s) (h1 : -(2 ^ 62) ≤ lo) (h2 : lo < 2 ^ 62) (h3 : -(2 ^ 62) ≤ hi) (h4 : hi < 2 ^ 62)
    (q : R (Itr lo (hi - lo).toNat) H) : wpAny (model X.prog X.w) X.A (pyIter (.ref s.heap.objs.size)) (PIE X pins σ tg R) E { s with heap := s.heap.push { cls := .type "range", data := .fields #[.int lo t, .int hi u, .int 1 v] }, toks := tk } := by
  refine wpAny_pyIter_range (IsRange.new ..) (small_one h1 h2 h3 h4) ?_
  have I1 : Inv X pins σ H { s with heap := s.heap.push { cls := .type "range", data := .fields #[.int lo t, .int hi u, .int 1 v] }, toks := tk } := I.kept fun b o e => Heap.get?_push_of_some _ e
  refine ⟨(s.heap.push { cls := .type "range", data := .fields #[.int lo t, .int hi u, .int 1 v] }).objs.size, [(s.heap.push { cls := .type "range", data := .fields #[.int lo t, .int hi u, .int 1 v] }).objs.size], _, _, H, rfl,
    I1.kept (t' := tk) fun b o e => Heap.get?_push_of_some _ e, turn_range _ lo (hi - lo).toNat, ?_, fun b hb => ?_, q⟩
  · have e1 : lo + ((0 : Nat) : Int) * 1 = lo := by simp
    have e2 : (((hi - lo).toNat : Nat) : Int) - ((0 : Nat) : Int) = Builtin.Range.rangeSize lo hi 1 := by rw [rangeSize_one]; split <;> omega
    show IsRangeIter _ _ (lo + ((0 : Nat) : Int) * 1) ((((hi - lo).toNat : Nat) : Int) - ((0 : Nat) : Int)) 1
    rw [e1, e2]
    exact Heap.get?_push_size _ rfl
  · have e : b = (s.heap.push { cls := .type "range", data := .fields #[.int lo t, .int hi u, .int 1 v] }).objs.size := by simpa using hb
    subst e
    exact I1.fpOk (Nat.le_refl _) (I1.hok.fresh (Nat.le_refl _))
def iRng1 (ta : TA) : TI := fun σ H R => ta σ H fun vs H1 => ∃ j : Int, vs = [.int j] ∧ -(2 ^ 62) ≤ j ∧ j < 2 ^ 62 ∧ R (Itr 0 j.toNat) H1
def iRng2 (ta : TA) : TI := fun σ H R => ta σ H fun vs H1 => ∃ i j : Int, vs = [.int i, .int j] ∧ (-(2 ^ 62) ≤ i ∧ i < 2 ^ 62 ∧ -(2 ^ 62) ≤ j ∧ j < 2 ^ 62) ∧ R (Itr i (j - i).toNat) H1
theorem pi_range1 {a : Expr} {ta : TA} {p pos : Pos} (hg : Gl X "range") (hm : X.mg "range" = none) (ha : PA X [a] ta) (hs : starEach [a] X.env = [(false, eval a X.env)] := by rfl) : PI X tg (.Call (.Name "range" p) [a] [] pos) (iRng1 ta) := by
  intro pins s σ H R I h
  refine Call_ (ld_blt I hg hm boot_range (PyProof.Rows.callWith_type1 (thn (ha pos pins s σ H _ I h) fun us s1 ⟨vs, H1, I1, r1, q1⟩ => ?_) hs rfl))
  obtain ⟨j, e, q1, q2, q⟩ := q1
  subst e
  cases r1 with
  | cons r rr =>
    cases rr
    obtain ⟨t, rfl⟩ := r
    exact call_range_1 (range_it I1 (by omega) (by omega) q1 q2 (by simpa using q))
def tFor (wi : TI) (g : TG) (tb : TS) : TS := fun D σ H => wi σ H fun J H1 => ∃ W : Nat → Nat → St → Hp → Prop, (∃ m, W 0 m σ H1) ∧ ∀ i m σ H, W i m σ H →
  (J.stop i H ∧ D.nx σ H) ∨ (J.go i H ∧ ∃ N : St → Hp → Prop, (∀ σ' H', N σ' H' → ∃ m', m' < m ∧ W (i + 1) m' σ' H') ∧ ∀ x H', J.yld i H x H' → g x σ H' fun σ2 H2 => tb { D with nx := N, ct := N, bk := D.nx } σ2 H2)
def pinsAt (fp : List Addr) (h : Heap) : List (Addr × Obj) := fp.filterMap fun b => (h.get? b).map fun o => (b, o)
theorem mem_pinsAt {fp : List Addr} {h : Heap} {b : Addr} {o : Obj} (hb : b ∈ fp) (e : h.get? b = some o) : (b, o) ∈ pinsAt fp h := List.mem_filterMap.mpr ⟨b, hb, by rw [e]; rfl⟩
theorem of_pinsAt {fp : List Addr} {h : Heap} {p : Addr × Obj} (hp : p ∈ pinsAt fp h) : p.1 ∈ fp ∧ h.get? p.1 = some p.2 := by
  obtain ⟨b, hb, e⟩ := List.mem_filterMap.mp hp
  cases q : h.get? b with
  | none => rw [q] at e; cases e
  | some o =>
    rw [q] at e
    have e' : (b, o) = p := Option.some.inj e
    subst e'
    exact ⟨hb, q⟩
theorem Inv.pinned {pins : List (Addr × Obj)} {σ : St} {H : Hp} {s : Shared} {fp : List Addr} (I : Inv X pins σ H s) (hf : ∀ b ∈ fp, FpOk X pins H b) (ho : ∀ b ∈ fp, ∃ o, s.heap.get? b = some o ∧ ∀ v, o.data ≠ .cell v) : Inv X (pins ++ pinsAt fp s.heap) σ H s :=
  I.pins_of fun p hp => (List.mem_append.mp hp).elim (fun z => I.pin p (List.mem_append_right _ z)) fun z => by
    obtain ⟨hb, e⟩ := of_pinsAt z
    obtain ⟨f0, f1, f2, _⟩ := hf p.1 hb
    obtain ⟨o, e', d⟩ := ho p.1 hb
    rw [e] at e'; cases e'
    exact ⟨e, f0, f1, f2, d⟩
theorem Inv.unpinned {pins pl : List (Addr × Obj)} {σ : St} {H : Hp} {s : Shared} (I : Inv X (pins ++ pl) σ H s) : Inv X pins σ H s := I.pins_of fun p hp => I.pin p (List.mem_append_right _ (List.mem_append_left _ hp))
theorem ps_for {iter : Expr} {body : List Stmt} {wi : TI} {g : TG} {tb : TS} {pos : Pos} (hp : PassesOwn (model X.prog X.w) X.A X.env X.xe) (hc : X.calm = true) (hi : PI X tg iter wi) (hg : PG X tg g) (hb : PSs X body tb)
    (hs : ∀ x, foldedSetIterable iter X.env x = pure x := by intro _; rfl) : PS X (.For tg iter body [] pos) (tFor wi g tb) := by
  intro pins s σ H D I h
  refine wpAny_For (thn (hi pins s σ H _ I h) fun v s1 h1 => thn h1 fun itv s2 h2 => ?_) hs
  obtain ⟨it, fp, tn, J, H2, e, I2, T, st2, f2, W, ⟨m0, w0⟩, turn⟩ := h2
  subst e
  have stat : ∀ {H' : Hp}, (∀ b ∈ fp, H' b = none) → ∀ b ∈ fp, FpOk X pins H' b := fun hn b hb => ⟨hn b hb, (f2 b hb).2⟩
  refine codeAny_forLoop_any (fun n s' => ∃ i σ' H', Inv X pins σ' H' s' ∧ tn i s'.heap ∧ (∀ b ∈ fp, H' b = none) ∧ W i n σ' H') ?_ m0 ⟨0, σ, H2, I2, st2, fun b hb => (f2 b hb).1, w0⟩
  rintro n s3 ⟨i, σ3, H3, I3, st3, fr3, w3⟩
  rcases turn i n σ3 H3 w3 with ⟨stop, qn⟩ | ⟨go, N, hN, step⟩
  · refine wpAny_passesOwn hp (thn (T.done X rfl rfl rfl hc i pins s3 σ3 H3 X.xe I3 (stat fr3) st3 stop) fun r s4 ⟨hr, I4⟩ => ?_)
    subst hr
    exact wpAny_execs_nil ⟨σ3, H3, I4, qn⟩
  · refine wpAny_passesOwn hp (thn (T.item X rfl rfl rfl hc i pins s3 σ3 H3 X.xe I3 (stat fr3) st3 go) fun r s4 ⟨u, hr, h4⟩ => ?_)
    subst hr
    refine wpAny_passesOwn hp (thn h4 fun _ s5 ⟨x, H5, I5, r5, y5, st5, fr5⟩ => ?_)
    have I5' := I5.pinned (stat fr5) (T.obj _ _ st5)
    refine wpAny_passesOwn hp (thn (hg _ s5 σ3 H5 x u _ I5' r5 (step x H5 y5)) fun _ s6 ⟨σ6, H6, I6, q6⟩ => ?_)
    refine wpAny_passesOwn hp (thn (hb _ s6 σ6 H6 _ I6 q6) fun f s7 q7 => ?_)
    have again : ∀ {σ7 : St} {H7 : Hp}, Inv X (pins ++ pinsAt fp s5.heap) σ7 H7 s7 → N σ7 H7 → ∃ m, m < n ∧ ∃ i σ' H', Inv X pins σ' H' s7 ∧ tn i s7.heap ∧ (∀ b ∈ fp, H' b = none) ∧ W i m σ' H' := fun {σ7 H7} I7 n7 => by
      obtain ⟨m', hm, w7⟩ := hN σ7 H7 n7
      refine ⟨m', hm, i + 1, σ7, H7, I7.unpinned, T.keep _ _ _ st5 fun b hb o e => (I7.pin (b, o) (List.mem_append_right _ (List.mem_append_right _ (mem_pinsAt hb e)))).1, fun b hb => ?_, w7⟩
      obtain ⟨o, e, d⟩ := T.obj _ _ st5 b hb
      exact (I7.pin (b, o) (List.mem_append_right _ (List.mem_append_right _ (mem_pinsAt hb e)))).2.1
    cases f with
    | next => obtain ⟨σ7, H7, I7, n7⟩ := q7; exact again I7 n7
    | cont => obtain ⟨σ7, H7, I7, n7⟩ := q7; exact again I7 n7
    | brk => obtain ⟨σ7, H7, I7, q7⟩ := q7; exact ⟨σ7, H7, I7.unpinned, q7⟩
    | ret v => obtain ⟨x7, σ7, H7, I7, r7, q7⟩ := q7; exact ⟨x7, σ7, H7, I7.unpinned, r7, q7⟩
end
theorem for_list {K : PySem.W.Frag} {a : Addr} {xs : List V} {g : TG} {tb : TS} {D : Ends} {σ : St} {H : Hp} (Pv : Nat → St → Hp → Prop) (h0 : Pv 0 σ H) (hl : ∀ i σ H, i ≤ xs.length → Pv i σ H → SqL K H a xs)
    (hs : ∀ i x σ H, xs[i]? = some x → Pv i σ H → g x σ H fun σ2 H2 => tb { D with nx := Pv (i + 1), ct := Pv (i + 1), bk := D.nx } σ2 H2) (hd : ∀ σ H, Pv xs.length σ H → D.nx σ H) :
    ∃ W : Nat → Nat → St → Hp → Prop, (∃ m, W 0 m σ H) ∧ ∀ i m σ H, W i m σ H →
      ((Itl K a).stop i H ∧ D.nx σ H) ∨ ((Itl K a).go i H ∧ ∃ N : St → Hp → Prop, (∀ σ' H', N σ' H' → ∃ m', m' < m ∧ W (i + 1) m' σ' H') ∧ ∀ x H', (Itl K a).yld i H x H' → g x σ H' fun σ2 H2 => tb { D with nx := N, ct := N, bk := D.nx } σ2 H2) := by
  refine ⟨fun i m σ H => m = xs.length - i ∧ i ≤ xs.length ∧ Pv i σ H, ⟨xs.length, by simp, Nat.zero_le _, h0⟩, ?_⟩
  rintro i m σ H ⟨rfl, hi, p⟩
  have q := hl i σ H hi p
  by_cases hlt : i < xs.length
  · refine .inr ⟨⟨xs, xs[i], q, by simp [hlt]⟩, Pv (i + 1), fun σ' H' p' => ⟨xs.length - (i + 1), by omega, rfl, hlt, p'⟩, fun x H' y => ?_⟩
    obtain ⟨e, y⟩ := y
    subst e
    exact hs i x σ _ (y xs q) p
  · have e : i = xs.length := by omega
    subst e
    exact .inl ⟨⟨xs, q, Nat.le_refl _⟩, hd σ H p⟩
theorem for_tup {K : PySem.W.Frag} {a : Addr} {xs : List V} {g : TG} {tb : TS} {D : Ends} {σ : St} {H : Hp} (Pv : Nat → St → Hp → Prop) (h0 : Pv 0 σ H) (hl : ∀ i σ H, i ≤ xs.length → Pv i σ H → SqT K H a xs)
    (hs : ∀ i x σ H, xs[i]? = some x → Pv i σ H → g x σ H fun σ2 H2 => tb { D with nx := Pv (i + 1), ct := Pv (i + 1), bk := D.nx } σ2 H2) (hd : ∀ σ H, Pv xs.length σ H → D.nx σ H) :
    ∃ W : Nat → Nat → St → Hp → Prop, (∃ m, W 0 m σ H) ∧ ∀ i m σ H, W i m σ H →
      ((Itt K a).stop i H ∧ D.nx σ H) ∨ ((Itt K a).go i H ∧ ∃ N : St → Hp → Prop, (∀ σ' H', N σ' H' → ∃ m', m' < m ∧ W (i + 1) m' σ' H') ∧ ∀ x H', (Itt K a).yld i H x H' → g x σ H' fun σ2 H2 => tb { D with nx := N, ct := N, bk := D.nx } σ2 H2) := by
  refine ⟨fun i m σ H => m = xs.length - i ∧ i ≤ xs.length ∧ Pv i σ H, ⟨xs.length, by simp, Nat.zero_le _, h0⟩, ?_⟩
  rintro i m σ H ⟨rfl, hi, p⟩
  have q := hl i σ H hi p
  by_cases hlt : i < xs.length
  · refine .inr ⟨⟨xs, xs[i], q, by simp [hlt]⟩, Pv (i + 1), fun σ' H' p' => ⟨xs.length - (i + 1), by omega, rfl, hlt, p'⟩, fun x H' y => ?_⟩
    obtain ⟨e, y⟩ := y
    subst e
    exact hs i x σ _ (y xs q) p
  · have e : i = xs.length := by omega
    subst e
    exact .inl ⟨⟨xs, q, Nat.le_refl _⟩, hd σ H p⟩
theorem for_range {lo : Int} {n : Nat} {g : TG} {tb : TS} {D : Ends} {σ : St} {H : Hp} (Pv : Nat → St → Hp → Prop) (h0 : Pv 0 σ H)
    (hs : ∀ i σ H, i < n → Pv i σ H → g (.int (lo + i)) σ H fun σ2 H2 => tb { D with nx := Pv (i + 1), ct := Pv (i + 1), bk := D.nx } σ2 H2) (hd : ∀ σ H, Pv n σ H → D.nx σ H) :
    ∃ W : Nat → Nat → St → Hp → Prop, (∃ m, W 0 m σ H) ∧ ∀ i m σ H, W i m σ H →
      ((Itr lo n).stop i H ∧ D.nx σ H) ∨ ((Itr lo n).go i H ∧ ∃ N : St → Hp → Prop, (∀ σ' H', N σ' H' → ∃ m', m' < m ∧ W (i + 1) m' σ' H') ∧ ∀ x H', (Itr lo n).yld i H x H' → g x σ H' fun σ2 H2 => tb { D with nx := N, ct := N, bk := D.nx } σ2 H2) := by
  refine ⟨fun i m σ H => m = n - i ∧ i ≤ n ∧ Pv i σ H, ⟨n, by simp, Nat.zero_le _, h0⟩, ?_⟩
  rintro i m σ H ⟨rfl, hi, p⟩
  by_cases hlt : i < n
  · refine .inr ⟨hlt, Pv (i + 1), fun σ' H' p' => ⟨n - (i + 1), by omega, rfl, hlt, p'⟩, fun x H' y => ?_⟩
    obtain ⟨e, y⟩ := y
    subst e y
    exact hs i σ _ hlt p
  · have e : i = n := by omega
    subst e
    exact .inl ⟨Nat.le_refl _, hd σ H p⟩
end L2
namespace L2
open PySem PySem.Spec PyProof.Rows
abbrev R2 := V → V → Hp → VK → Prop
def OpR (X : Cx) (f : Value → Value → Sem Value) (r : R2) : Prop :=
  ∀ (pins : List (Addr × Obj)) (s : Shared) (σ : St) (H : Hp) (x y : V) (v u : Value) (Q : VK), Inv X pins σ H s → RelV x v → RelV y u → r x y H Q →
    wpAny (model X.prog X.w) X.A (f v u) (EP X pins σ Q) X.xe s
def UnR (X : Cx) (f : Value → Sem Value) (r : V → Hp → VK → Prop) : Prop :=
  ∀ (pins : List (Addr × Obj)) (s : Shared) (σ : St) (H : Hp) (x : V) (v : Value) (Q : VK), Inv X pins σ H s → RelV x v → r x H Q →
    wpAny (model X.prog X.w) X.A (f v) (EP X pins σ Q) X.xe s
def CallR (X : Cx) (f : Value) (r : List V → Hp → VK → Prop) : Prop :=
  ∀ (pins : List (Addr × Obj)) (s : Shared) (σ : St) (H : Hp) (xs : List V) (us : List Value) (Q : VK), Inv X pins σ H s → Vals xs us → r xs H Q →
    wpAny (model X.prog X.w) X.A (call f us) (EP X pins σ Q) X.xe s
def tOp (r : R2) (ta tb : TE) : TE := fun σ H Q => ta σ H fun x H1 => tb σ H1 fun y H2 => r x y H2 Q
def tUn (r : V → Hp → VK → Prop) (ta : TE) : TE := fun σ H Q => ta σ H fun x H1 => r x H1 Q
def rI (C : Int → Int → Prop) (g : Int → Int → V) : R2 := fun x y H Q => ∃ i j, x = .int i ∧ y = .int j ∧ C i j ∧ Q (g i j) H
def rI0 (g : Int → Int → V) : R2 := fun x y H Q => ∃ i j, x = .int i ∧ y = .int j ∧ Q (g i j) H
section
variable {X : Cx} {a b c : Expr} {ta tb tc : TE} {pos : Pos}
theorem binT (ha : PE X a ta) (hb : PE X b tb) {pins : List (Addr × Obj)} {s : Shared} {σ : St} {H : Hp} {R : V → V → Hp → Prop} (I : Inv X pins σ H s)
    (h : ta σ H fun x H1 => tb σ H1 fun y H2 => R x y H2) {Q : Value → Shared → Prop} {f : Value → Value → Sem Value}
    (hf : ∀ v u s2 x y H2, Inv X pins σ H2 s2 → RelV x v → RelV y u → R x y H2 → wpAny (model X.prog X.w) X.A (f v u) Q X.xe s2) :
    wpAny (model X.prog X.w) X.A (eval a X.env) (fun v s₁ => wpAny (model X.prog X.w) X.A (eval b X.env) (fun u s₂ => wpAny (model X.prog X.w) X.A (f v u) Q X.xe s₂) X.xe s₁) X.xe s := by
  refine thn (ha pins s σ H _ I h) fun v s1 ⟨x, H1, I1, r1, q1⟩ => ?_
  refine thn (hb pins s1 σ H1 _ I1 q1) fun u s2 ⟨y, H2, I2, r2, q2⟩ => ?_
  exact hf v u s2 x y H2 I2 r1 r2 q2
theorem pe_op {op : Operator} {r : R2} (ho : OpR X (binaryOp op) r) (ha : PE X a ta) (hb : PE X b tb) : PE X (.BinOp a op b pos) (tOp r ta tb) := by
  intro pins s σ H Q I h
  exact wpAny_BinOp (binT ha hb I h fun v u s2 x y H2 I2 rx ry q => ho pins s2 σ H2 x y v u Q I2 rx ry q)
theorem opI {f : Value → Value → Sem Value} {C : Int → Int → Prop} {g : Int → Int → Int}
    (rule : ∀ (i j : Int) (t u : Tok) (s : Shared) (Q : Value → Shared → Prop) (E : Value → Shared → Prop), C i j → Q (.int (g i j) s.toks) { s with toks := s.toks + 1 } → wpAny (model X.prog X.w) X.A (f (.int i t) (.int j u)) Q E s) :
    OpR X f (rI C fun i j => .int (g i j)) := by
  intro pins s σ H x y v u Q I rx ry h
  obtain ⟨i, j, rfl, rfl, hc, q⟩ := h
  obtain ⟨t, rfl⟩ := rx
  obtain ⟨t', rfl⟩ := ry
  exact rule i j t t' s _ _ hc ⟨.int (g i j), H, I.tok _, ⟨_, rfl⟩, q⟩
theorem opI0 {f : Value → Value → Sem Value} {g : Int → Int → Int}
    (rule : ∀ (i j : Int) (t u : Tok) (s : Shared) (Q : Value → Shared → Prop) (E : Value → Shared → Prop), Q (.int (g i j) s.toks) { s with toks := s.toks + 1 } → wpAny (model X.prog X.w) X.A (f (.int i t) (.int j u)) Q E s) :
    OpR X f (rI0 fun i j => .int (g i j)) := by
  intro pins s σ H x y v u Q I rx ry h
  obtain ⟨i, j, rfl, rfl, q⟩ := h
  obtain ⟨t, rfl⟩ := rx
  obtain ⟨t', rfl⟩ := ry
  exact rule i j t t' s _ _ ⟨.int (g i j), H, I.tok _, ⟨_, rfl⟩, q⟩
theorem opB0 {f : Value → Value → Sem Value} {g : Int → Int → Bool}
    (rule : ∀ (i j : Int) (t u : Tok) (s : Shared) (Q : Value → Shared → Prop) (E : Value → Shared → Prop), Q (.bool (g i j)) s → wpAny (model X.prog X.w) X.A (f (.int i t) (.int j u)) Q E s) :
    OpR X f (rI0 fun i j => .bl (g i j)) := by
  intro pins s σ H x y v u Q I rx ry h
  obtain ⟨i, j, rfl, rfl, q⟩ := h
  obtain ⟨t, rfl⟩ := rx
  obtain ⟨t', rfl⟩ := ry
  exact rule i j t t' s _ _ ⟨.bl (g i j), H, I, rfl, q⟩
def CDiv (i j : Int) : Prop := 0 < j ∧ j < 1073741824
def CMul (i j : Int) : Prop := (-(2 ^ 64) < i ∧ i < 2 ^ 64) ∨ (-(2 ^ 64) < j ∧ j < 2 ^ 64)
theorem CMul.ok {i j : Int} (h : CMul i j) : IntMulOk i j := by
  rcases h with ⟨h1, h2⟩ | ⟨h1, h2⟩
  · exact .of_left (intBits_le_64 h1 h2)
  · exact .of_right (intBits_le_64 h1 h2)
theorem op_add : OpR X (binaryOp .Add) (rI0 fun i j => .int (i + j)) := opI0 fun _ _ _ _ _ _ _ q => add_int q
theorem op_sub : OpR X (binaryOp .Sub) (rI0 fun i j => .int (i - j)) := opI0 fun _ _ _ _ _ _ _ q => sub_int q
theorem op_mul : OpR X (binaryOp .Mult) (rI CMul fun i j => .int (i * j)) := opI fun _ _ _ _ _ _ _ hc q => mul_int q hc.ok
theorem op_fdiv : OpR X (binaryOp .FloorDiv) (rI CDiv fun i j => .int (i / j)) := opI fun i j _ _ _ _ _ hc q => by
  have h1 : (0 : Int) < j := hc.1
  have h2 : j < 1073741824 := hc.2
  exact floordiv_int (by omega) (by rw [Int.fdiv_eq_ediv_of_nonneg i (by omega)]; exact q) (.inl (PyProof.noPylong_small (by omega)))
theorem op_mod : OpR X (binaryOp .Mod) (rI (fun _ j => 0 < j) fun i j => .int (i % j)) := opI fun i j _ _ _ _ _ hc q => by
  have h1 : (0 : Int) < j := hc
  exact mod_int' (by omega) (by rw [Int.fmod_eq_emod_of_nonneg i (by omega)]; exact q)
end
def scal : V → V → Bool
  | .non, .non => true | .non, .int _ => true | .int _, .non => true | .non, .bl _ => true | .bl _, .non => true | .non, .str _ => true | .str _, .non => true
  | .int _, .int _ => true | .bl _, .bl _ => true | .str _, .str _ => true | .byt _, .byt _ => true
  | .int _, .str _ => true | .str _, .int _ => true | .bl _, .str _ => true | .str _, .bl _ => true
  | _, _ => false
def rEq : R2 := fun x y H Q => scal x y = true ∧ Q (.bl (decide (x = y))) H
def rNe : R2 := fun x y H Q => scal x y = true ∧ Q (.bl (!decide (x = y))) H
theorem dec_int {i j : Int} : decide (V.int i = V.int j) = (i == j) := by
  rw [Bool.eq_iff_iff]
  simp
theorem dec_bl {i j : Bool} : decide (V.bl i = V.bl j) = (i == j) := by
  rw [Bool.eq_iff_iff]
  simp
theorem dec_str {i j : Str} : decide (V.str i = V.str j) = (i == j) := by
  rw [Bool.eq_iff_iff]
  simp
theorem dec_byt {i j : Array UInt8} : decide (V.byt i = V.byt j) = (i.toList == j.toList) := by
  rw [Bool.eq_iff_iff]
  cases i
  cases j
  simp
section
variable {X : Cx} {a b c : Expr} {ta tb tc : TE} {pos : Pos}
theorem fin_bl {pins : List (Addr × Obj)} {σ : St} {H : Hp} {s : Shared} {Q : VK} {k k' : Bool} (I : Inv X pins σ H s) (q : Q (.bl k) H) (e : k = k') : EP X pins σ Q (.bool k') s := by
  subst e
  exact ⟨.bl k, H, I, rfl, q⟩
theorem op_eq : OpR X (compareOp .Eq) rEq := by
  intro pins s σ H x y v u Q I rx ry h
  obtain ⟨hs, q⟩ := h
  cases x with
  | non =>
    cases rx
    cases y with
    | non => cases ry; exact PySem.EqNone.eq_none_none (fin_bl I q (by simp))
    | bl j => cases ry; exact PySem.EqNone.eq_none_bool (fin_bl I q (by simp))
    | int j => obtain ⟨t', rfl⟩ := ry; exact PySem.EqNone.eq_none_int (fin_bl I q (by simp))
    | str j => obtain ⟨t', rfl⟩ := ry; exact PySem.EqNone.eq_none_str (fin_bl I q (by simp))
    | _ => exact absurd (show false = true from hs) Bool.false_ne_true
  | bl i =>
    cases rx
    cases y with
    | non => cases ry; exact PySem.EqNone.eq_bool_none (fin_bl I q (by simp))
    | bl j => cases ry; exact eq_bool (fin_bl I q dec_bl)
    | str j => obtain ⟨t', rfl⟩ := ry; exact PySem.EqMixed.eq_bool_str (fin_bl I q (by simp))
    | _ => exact absurd (show false = true from hs) Bool.false_ne_true
  | int i =>
    obtain ⟨t, rfl⟩ := rx
    cases y with
    | non => cases ry; exact PySem.EqNone.eq_int_none (fin_bl I q (by simp))
    | int j => obtain ⟨t', rfl⟩ := ry; exact eq_int (fin_bl I q dec_int)
    | str j => obtain ⟨t', rfl⟩ := ry; exact PySem.EqMixed.eq_int_str (fin_bl I q (by simp))
    | _ => exact absurd (show false = true from hs) Bool.false_ne_true
  | str i =>
    obtain ⟨t, rfl⟩ := rx
    cases y with
    | non => cases ry; exact PySem.EqNone.eq_str_none (fin_bl I q (by simp))
    | bl j => cases ry; exact PySem.EqMixed.eq_str_bool (fin_bl I q (by simp))
    | int j => obtain ⟨t', rfl⟩ := ry; exact PySem.EqMixed.eq_str_int (fin_bl I q (by simp))
    | str j => obtain ⟨t', rfl⟩ := ry; exact eq_str (fin_bl I q dec_str)
    | _ => exact absurd (show false = true from hs) Bool.false_ne_true
  | byt i =>
    obtain ⟨t, rfl⟩ := rx
    cases y with
    | byt j => obtain ⟨t', rfl⟩ := ry; exact PySem.W.eq_bytes (fin_bl I q dec_byt)
    | _ => exact absurd (show false = true from hs) Bool.false_ne_true
  | _ => cases y <;> exact absurd (show false = true from hs) Bool.false_ne_true
theorem op_ne : OpR X (compareOp .NotEq) rNe := by
  intro pins s σ H x y v u Q I rx ry h
  obtain ⟨hs, q⟩ := h
  cases x with
  | non =>
    cases rx
    cases y with
    | non => cases ry; exact PySem.EqNone.ne_none_none (fin_bl I q (by simp))
    | bl j => cases ry; exact PySem.EqNone.ne_none_bool (fin_bl I q (by simp))
    | int j => obtain ⟨t', rfl⟩ := ry; exact PySem.EqNone.ne_none_int (fin_bl I q (by simp))
    | str j => obtain ⟨t', rfl⟩ := ry; exact PySem.EqNone.ne_none_str (fin_bl I q (by simp))
    | _ => exact absurd (show false = true from hs) Bool.false_ne_true
  | bl i =>
    cases rx
    cases y with
    | non => cases ry; exact PySem.EqNone.ne_bool_none (fin_bl I q (by simp))
    | bl j => cases ry; exact ne_bool (fin_bl I q (congrArg not dec_bl))
    | str j => obtain ⟨t', rfl⟩ := ry; exact PySem.EqMixed.ne_bool_str (fin_bl I q (by simp))
    | _ => exact absurd (show false = true from hs) Bool.false_ne_true
  | int i =>
    obtain ⟨t, rfl⟩ := rx
    cases y with
    | non => cases ry; exact PySem.EqNone.ne_int_none (fin_bl I q (by simp))
    | int j => obtain ⟨t', rfl⟩ := ry; exact ne_int (fin_bl I q (congrArg not dec_int))
    | str j => obtain ⟨t', rfl⟩ := ry; exact PySem.EqMixed.ne_int_str (fin_bl I q (by simp))
    | _ => exact absurd (show false = true from hs) Bool.false_ne_true
  | str i =>
    obtain ⟨t, rfl⟩ := rx
    cases y with
    | non => cases ry; exact PySem.EqNone.ne_str_none (fin_bl I q (by simp))
    | bl j => cases ry; exact PySem.EqMixed.ne_str_bool (fin_bl I q (by simp))
    | int j => obtain ⟨t', rfl⟩ := ry; exact PySem.EqMixed.ne_str_int (fin_bl I q (by simp))
    | str j => obtain ⟨t', rfl⟩ := ry; exact ne_str (fin_bl I q (congrArg not dec_str))
    | _ => exact absurd (show false = true from hs) Bool.false_ne_true
  | byt i =>
    obtain ⟨t, rfl⟩ := rx
    cases y with
    | byt j => obtain ⟨t', rfl⟩ := ry; exact PySem.W.ne_bytes (fin_bl I q (congrArg not dec_byt))
    | _ => exact absurd (show false = true from hs) Bool.false_ne_true
  | _ => cases y <;> exact absurd (show false = true from hs) Bool.false_ne_true
theorem op_lt : OpR X (compareOp .Lt) (rI0 fun i j => .bl (decide (i < j))) := opB0 fun _ _ _ _ _ _ _ q => lt_int q
theorem op_gt : OpR X (compareOp .Gt) (rI0 fun i j => .bl (decide (j < i))) := opB0 fun _ _ _ _ _ _ _ q => gt_int q
theorem op_lt_str : OpR X (compareOp .Lt) (fun x y H Q => ∃ i j, x = .str i ∧ y = .str j ∧ Q (.bl (decide (i.cps.toList < j.cps.toList))) H) := by
  intro pins s σ H x y v u Q I rx ry h
  obtain ⟨i, j, rfl, rfl, q⟩ := h
  obtain ⟨t, rfl⟩ := rx
  obtain ⟨t', rfl⟩ := ry
  exact lt_str (fin_bl I q rfl)
theorem op_in_str : OpR X (compareOp .In) (fun x y H Q => ∃ i j, x = .str i ∧ y = .str j ∧ Q (.bl (!(Builtin.Str.occurrences j i 0 j.length 1).isEmpty)) H) := by
  intro pins s σ H x y v u Q I rx ry h
  obtain ⟨i, j, rfl, rfl, q⟩ := h
  obtain ⟨t, rfl⟩ := rx
  obtain ⟨t', rfl⟩ := ry
  exact in_str (fin_bl I q rfl)
theorem OpR.or {f : Value → Value → Sem Value} {r r' : R2} (h : OpR X f r) (h' : OpR X f r') : OpR X f (fun x y H Q => r x y H Q ∨ r' x y H Q) := by
  intro pins s σ H x y v u Q I rx ry q
  rcases q with q | q
  · exact h pins s σ H x y v u Q I rx ry q
  · exact h' pins s σ H x y v u Q I rx ry q
theorem nomark (b : Expr) {op : CmpOp} (h : op ≠ .In := by decide) (h2 : op ≠ .NotIn := by decide) : behindInMarks op b = false := by
  have e1 : (op == CmpOp.In) = false := by cases op <;> first | rfl | exact absurd rfl h
  have e2 : (op == CmpOp.NotIn) = false := by cases op <;> first | rfl | exact absurd rfl h2
  cases b <;> simp [behindInMarks, e1, e2]
theorem pe_cmpR {op : CmpOp} {r : R2} (ho : OpR X (compareOp op) r) (ha : PE X a ta) (hb : PE X b tb) (hm : behindInMarks op b = false) : PE X (.Compare a [op] [b] pos) (tOp r ta tb) := by
  intro pins s σ H Q I h
  exact wpAny_Compare1 (binT ha hb I h fun v u s2 x y H2 I2 rx ry q => ho pins s2 σ H2 x y v u Q I2 rx ry q) hm
def tTest (t : TE) : TT := fun σ H Q => t σ H fun x H' => ∃ k, x = .bl k ∧ Q k H'
theorem pt_cmpR {op : CmpOp} {r : R2} (ho : OpR X (compareOp op) r) (ha : PE X a ta) (hb : PE X b tb) (hm : behindInMarks op b = false) : PT X (.Compare a [op] [b] pos) (tTest (tOp r ta tb)) := by
  intro pins s σ H Q I h
  refine wpAny_isTrue_Compare1 (thn (ha pins s σ H _ I h) fun v s1 ⟨x, H1, I1, r1, q1⟩ => thn (hb pins s1 σ H1 _ I1 q1) fun u s2 ⟨y, H2, I2, r2, q2⟩ =>
    thn (ho pins s2 σ H2 x y v u _ I2 r1 r2 q2) fun c s3 ⟨z, H3, I3, r3, k, e, q3⟩ => ?_) hm
  subst e
  cases r3
  exact wpAny_truthy_bool ⟨H3, I3, q3⟩
def tChain (r r' : R2) (ta tb tc : TE) : TE := fun σ H Q => ta σ H fun x H1 => tb σ H1 fun y H2 => r x y H2 fun z H3 => ∃ k, z = .bl k ∧
  (if k = true then tc σ H3 fun w' H4 => r' y w' H4 Q else Q (.bl false) H3)
theorem line63 : (sizeLine : Nat) < 2 ^ 63 := by rw [sizeLine_eq]; decide
theorem op_add_str : OpR X (binaryOp .Add) (fun x y H Q => ∃ i j, x = .str i ∧ y = .str j ∧ i.length + j.length ≤ sizeLine ∧ Q (.str (i ++ j)) H) := by
  intro pins s σ H x y v u Q I rx ry h
  obtain ⟨i, j, rfl, rfl, hz, q⟩ := h
  obtain ⟨t, rfl⟩ := rx
  obtain ⟨t', rfl⟩ := ry
  exact add_str (fun t' tk => ⟨.str (i ++ j), H, I.tok _, ⟨_, rfl⟩, q⟩) hz
theorem vals1 {x : V} {us : List Value} (r : Vals [x] us) : ∃ u, us = [u] ∧ RelV x u := by
  cases r with
  | cons r1 r2 => cases r2; exact ⟨_, rfl, r1⟩
theorem vals2 {x y : V} {us : List Value} (r : Vals [x, y] us) : ∃ u w', us = [u, w'] ∧ RelV x u ∧ RelV y w' := by
  cases r with
  | cons r1 r2 =>
    cases r2 with
    | cons r3 r4 => cases r4; exact ⟨_, _, rfl, r1, r3⟩
theorem call_int1 : CallR X (.type "int") (fun xs H Q => (∃ i, xs = [.int i] ∧ Q (.int i) H) ∨ ∃ k, xs = [.bl k] ∧ Q (.int (if k then 1 else 0)) H) := by
  intro pins s σ H xs us Q I r h
  rcases h with ⟨i, rfl, q⟩ | ⟨k, rfl, q⟩
  · obtain ⟨u, rfl, t, rfl⟩ := vals1 r
    exact call_int_int ⟨.int i, H, I, ⟨_, rfl⟩, q⟩
  · obtain ⟨u, rfl, r1⟩ := vals1 r
    cases r1
    exact call_int_bool ⟨.int (if k then 1 else 0), H, I.tok _, ⟨_, rfl⟩, q⟩
def LenV (K : PySem.W.Frag) (x : V) (H : Hp) (n : Nat) : Prop :=
  match x with
  | .str y => y.length ≤ sizeLine ∧ n = y.length
  | .byt y => y.size ≤ sizeLine ∧ n = y.size
  | .ref p => (∃ xs, SqL K H p xs ∧ n = xs.length) ∨ ∃ xs, SqT K H p xs ∧ n = xs.length
  | _ => False
theorem call_len : CallR X (.builtin "len") (fun xs H Q => ∃ x n, xs = [x] ∧ LenV X.K x H n ∧ Q (.int n) H) := by
  intro pins s σ H xs us Q I r h
  obtain ⟨x, n, rfl, e, q⟩ := h
  obtain ⟨u, rfl, rx⟩ := vals1 r
  have hl := line63
  have hs : sizeLine = 16777216 := sizeLine_eq
  cases x with
  | str y =>
    obtain ⟨t, rfl⟩ := rx
    obtain ⟨hy, e'⟩ : y.length ≤ sizeLine ∧ n = y.length := e
    subst e'
    exact len_str (by omega) ⟨.int _, H, I.tok _, ⟨_, rfl⟩, q⟩
  | byt y =>
    obtain ⟨t, rfl⟩ := rx
    obtain ⟨hy, e'⟩ : y.size ≤ sizeLine ∧ n = y.size := e
    subst e'
    exact PySem.W.len_bytes (by omega) ⟨.int _, H, I.tok _, ⟨_, rfl⟩, q⟩
  | ref p =>
    cases rx
    have e' : (∃ xs, SqL X.K H p xs ∧ n = xs.length) ∨ ∃ xs, SqT X.K H p xs ∧ n = xs.length := e
    rcases e' with ⟨xs, hx, e'⟩ | ⟨xs, hx, e'⟩
    · subst e'
      obtain ⟨its, r', pl, hz⟩ := I.list hx
      have hlen := r'.length
      exact Calls.call_len_list pl.isList (by simp only [List.size_toArray]; omega) ⟨.int xs.length, H, I.tok _, ⟨_, by simp only [List.size_toArray]; rw [hlen]⟩, q⟩
    · subst e'
      obtain ⟨its, r', pl, hz⟩ := I.tuple hx
      have hlen := r'.length
      exact len_tuple pl (by simp only [List.size_toArray]; omega) ⟨.int xs.length, H, I.tok _, ⟨_, by simp only [List.size_toArray]; rw [hlen]⟩, q⟩
  | _ => exact (show False from e).elim
end
end L2
namespace L2
open PySem PySem.Spec PyProof.Rows
structure ObjM (h : Heap) (x dx C : Addr) (mA : Str → Option Value) : Prop where
  obj : h.get? x = some (PySem.W.instObj C dx)
  ns : h.Ns1 dx mA
  ne : dx ≠ x
theorem lookIn_ns {h : Heap} {dx : Addr} {mA : Str → Option Value} (n : h.Ns1 dx mA) : ∃ od, h.get? dx = some od ∧ ∀ name, PySem.W.lookIn name od = some (mA name) := by
  obtain ⟨o, es, ep, ho, hd, hk, _, hm⟩ := n
  refine ⟨o, ho, fun name => ?_⟩
  have e := hm name
  unfold nsFind findBy at e
  rw [← Array.find?_toList] at e
  unfold PySem.W.lookIn
  rw [hd]
  dsimp only
  split
  · rename_i y q
    rw [q] at e
    exact congrArg some e
  · rename_i q
    rw [q] at e
    have a : es.toList.any (·.refKey) = false := by
      rw [List.any_eq_false]
      intro y hy
      obtain ⟨z, t, hkey⟩ := hk y (Array.mem_toList_iff.mp hy)
      simp [DictEntry.refKey, hkey]
    have a' : ¬ es.toList.any (·.refKey) = true := by rw [a]; exact Bool.false_ne_true
    rw [if_neg a']
    exact congrArg some e
theorem ObjM.look {h : Heap} {x dx C : Addr} {mA : Str → Option Value} (I : ObjM h x dx C mA) : ∃ od, PySem.W.InstAt h x (PySem.W.instObj C dx) C (some od) ∧ ∀ name, PySem.W.lookIn name od = some (mA name) :=
  let ⟨od, ho, hl⟩ := lookIn_ns I.ns
  ⟨od, ⟨I.obj, rfl, rfl, ho⟩, hl⟩
section
variable {prog : Program} {w : World} {A : Around} {E : Value → Shared → Prop} {s : Shared} {K : PySem.W.Frag} {x dx C f : Addr} {mA : Str → Option Value} {name : Str} {v : Value}
end
def putF (f : Str) (v : V) : List (Str × V) → List (Str × V)
  | [] => [(f, v)]
  | (g, x) :: r => if g = f then (g, v) :: r else (g, x) :: putF f v r
section
variable {P : Program} {w : World} {H H' : Hp} {h h' : Heap} {a C dx : Addr} {fs fs' : List (Str × V)}
theorem ins_get (hok : HOk P w H h) (e : H a = some (.ins C dx fs)) : ∃ mA, ObjM h a dx C mA ∧ (∀ f, RelO (fs.lookup f) (mA f)) ∧ PySem.Within mA (fs.map (·.1)) ∧ fs.length ≤ 1000 ∧ H dx = some (.own a) := by
  obtain ⟨d, z, ne, ob, mA, n, r, q⟩ := (show ObjOk P w H h a (.ins C dx fs) from hok a _ e)
  exact ⟨mA, ⟨ob, n, ne⟩, r, q, z, d⟩
end
structure Cls (K : PySem.W.Frag) (C : Addr) : Prop where
  pg : PySem.W.plainGet K C Str.empty = true
  hd : PySem.W.hasDictIn K C = true
  po : PySem.W.plainOver K C = true
  sa : PySem.W.findIn K (.ref C) "__setattr__" = some (some (.builtin "object.__setattr__"))
theorem Cls.get {K : PySem.W.Frag} {C : Addr} (c : Cls K C) (f : Str) : PySem.W.plainGet K C f = true := c.pg
def NoAttr (K : PySem.W.Frag) (C : Addr) (f : Str) : Prop := PySem.W.findIn K (.ref C) f = some none
structure Con (K : PySem.W.Frag) (C : Addr) (f : Str) (v : V) (u : Value) : Prop where
  at_ : PySem.W.findIn K (.ref C) f = some (some u)
  rel : RelV v u
  get : PySem.W.specialIn K u "__get__" = some none
  cp : PySem.W.copiedNames.contains f = false
structure Meth (K : PySem.W.Frag) (C : Addr) (m : Str) (f : Addr) : Prop where
  at_ : PySem.W.findIn K (.ref C) m = some (some (.ref f))
  fn : PySem.W.isFn K (.ref f) = true
  kp : PySem.W.keepIn K (.ref f) = true
section
variable {X : Cx} {pins : List (Addr × Obj)} {σ : St} {H : Hp} {s : Shared} {a C dx : Addr} {fs : List (Str × V)} {f : Str} {v : V} {A : Around} {E : Value → Shared → Prop}
theorem Inv.made (I : Inv X pins σ H s) : Inv X pins σ (upd (upd H s.heap.objs.size (.own (s.heap.objs.size + 1))) (s.heap.objs.size + 1) (.ins C s.heap.objs.size []))
    { s with heap := (s.heap.push PySem.W.emptyDict).push (PySem.W.instObj C s.heap.objs.size) } := by
  have e1 : (s.heap.push PySem.W.emptyDict).get? s.heap.objs.size = some PySem.W.emptyDict := Heap.get?_push_size s.heap rfl
  have e2 : ((s.heap.push PySem.W.emptyDict).push (PySem.W.instObj C s.heap.objs.size)).get? (s.heap.objs.size + 1) = some (PySem.W.instObj C s.heap.objs.size) := by
    have := Heap.get?_push_size (s.heap.push PySem.W.emptyDict) (o := PySem.W.instObj C s.heap.objs.size) rfl
    rwa [Heap.size_push] at this
  have e3 : (s.heap.push PySem.W.emptyDict).Ns s.heap.objs.size (fun _ => none) := ⟨PySem.W.emptyDict, #[], _, e1, rfl, (fun e he => absurd he (by simp)), fun _ => rfl⟩
  have I1 := I.laid (a := s.heap.objs.size) (o := .own (s.heap.objs.size + 1)) (h' := s.heap.push PySem.W.emptyDict) (t' := s.toks) (fun b u q => Heap.get?_push_of_some _ q) (Nat.le_refl _) ⟨_, e1⟩
  refine I1.laid (a := s.heap.objs.size + 1) (o := .ins C s.heap.objs.size []) (t' := s.toks) (fun b u q => Heap.get?_push_of_some _ q) (Nat.le_of_eq (Heap.size_push _ _)) ?_
  have ne : s.heap.objs.size ≠ s.heap.objs.size + 1 := Nat.ne_of_lt (Nat.lt_succ_self _)
  refine ⟨by rw [upd_ne ne, upd_same], Nat.zero_le _, ne, e2, fun _ => none, (Heap.Ns1.of_empty e3).at fun o q => Heap.get?_push_of_some _ q, fun _ => True.intro, fun y hy => absurd rfl hy⟩
end
def tFld (K : PySem.W.Frag) (ta : TE) (f : Str) : TE := fun σ H Q => ta σ H fun x H1 => ∃ a C dx fs v, x = .ref a ∧ H1 a = some (.ins C dx fs) ∧ Cls K C ∧ NoAttr K C f ∧ fs.lookup f = some v ∧ Q v H1
def sFld (K : PySem.W.Frag) (ta tv : TE) (f : Str) : TS := fun D σ H => tv σ H fun y H1 => ta σ H1 fun x H2 => ∃ a C dx fs, x = .ref a ∧ H2 a = some (.ins C dx fs) ∧ Cls K C ∧ NoAttr K C f ∧ fs.length < 1000 ∧
  D.nx σ (upd H2 a (.ins C dx (putF f y fs)))
section
variable {X : Cx} {o e value : Expr} {f : Str} {pos pos' tpos : Pos} {ta tv : TE}
end
section
variable {X : Cx} {pins : List (Addr × Obj)} {σ : St} {H : Hp} {s : Shared} {A : Around} {E : Value → Shared → Prop} {Q : Value → Shared → Prop} {c : Value} {b : Bool}
inductive TyOf (K : PySem.W.Frag) (H : Hp) : V → Value → Prop where
  | non : TyOf K H .non (.type "NoneType")
  | bl (x : Bool) : TyOf K H (.bl x) (.type "bool")
  | int (i : Int) : TyOf K H (.int i) (.type "int")
  | str (x : Str) : TyOf K H (.str x) (.type "str")
  | flt (x : UInt64) : TyOf K H (.flt x) (.type "float")
  | lst {a : Addr} {xs : List V} (e : H a = some (.lst xs)) : TyOf K H (.ref a) (.type "list")
  | frz {a : Addr} {o : Obj} {xs : List V} (e : H a = some (.frz o (.lst xs))) : TyOf K H (.ref a) (.type "list")
  | tup {a : Addr} {xs : List V} (e : H a = some (.tup xs)) : TyOf K H (.ref a) (.type "tuple")
  | dK {a : Addr} {kvs : List (Key × V)} (e : H a = some (.dK kvs)) : TyOf K H (.ref a) (.type "dict")
  | dT {a : Addr} {kvs : List (List Key × V)} (e : H a = some (.dT kvs)) : TyOf K H (.ref a) (.type "dict")
  | ins {a C dx : Addr} {fs : List (Str × V)} (e : H a = some (.ins C dx fs)) (cl : Cls K C) (ha : PySem.W.findIn K (.ref C) "__class__" = some (some (.builtin "object.__class__")))
      (hn : PySem.W.specialIn K (.builtin "object.__class__") "__get__" = some (some (.builtin "getset_descriptor.__get__"))) (htk : PySem.W.takesIn K (.builtin "object.__class__") = some true)
      (hm : PySem.W.mroIn K C (.type "object") = some true) : TyOf K H (.ref a) (.ref C)
theorem isinst_ok {x : V} {u t : Value} (I : Inv X pins σ H s) (rx : RelV x u) (ty : TyOf X.K H x t) (e : PySem.W.kitOne X.K t c = some b) (h : ∀ tk, Q (.bool b) { s with toks := tk }) :
    wpAny (model X.prog X.w) A (call (.builtin "isinstance") [u, c]) Q E s := by
  cases ty with
  | non => cases (show u = Value.none from rx); exact PySem.W.kia_one PySem.W.kitx_none I.kIn True.intro e (fun z => nomatch z) h
  | bl y => cases (show u = Value.bool y from rx); exact PySem.W.kia_one PySem.W.kitx_bool I.kIn True.intro e (fun z => nomatch z) h
  | int i => obtain ⟨t, q⟩ := (show ∃ t, u = Value.int i t from rx); cases q; exact PySem.W.kia_one PySem.W.kitx_int I.kIn True.intro e (fun z => nomatch z) h
  | str y => obtain ⟨t, q⟩ := (show ∃ t, u = Value.str y t from rx); cases q; exact PySem.W.kia_one PySem.W.kitx_str I.kIn True.intro e (fun z => nomatch z) h
  | flt y => obtain ⟨t, q⟩ := (show ∃ t, u = Value.float y t from rx); cases q; exact PySem.W.kia_one PySem.W.kitx_float I.kIn True.intro e (fun z => nomatch z) h
  | @lst a xs ea =>
    cases (show u = Value.ref a from rx)
    obtain ⟨_, _, n, _, h1⟩ := (show ObjOk X.prog X.w H s.heap a (.lst xs) from I.hok a _ ea)
    exact PySem.W.kia_one PySem.W.kitx_list I.kIn ⟨_, h1, rfl⟩ e (fun z => nomatch z) h
  | @frz a ob xs ea =>
    cases (show u = Value.ref a from rx)
    obtain ⟨_, _, _, n, _, h1⟩ := (show ObjOk X.prog X.w H s.heap a (.frz ob (.lst xs)) from I.hok a _ ea)
    exact PySem.W.kia_one PySem.W.kitx_list I.kIn ⟨_, h1, rfl⟩ e (fun z => nomatch z) h
  | @tup a xs ea =>
    cases (show u = Value.ref a from rx)
    obtain ⟨_, _, _, p⟩ := (show ObjOk X.prog X.w H s.heap a (.tup xs) from I.hok a _ ea)
    obtain ⟨o, h1, h2, _⟩ := p
    exact PySem.W.kia_one PySem.W.kitx_tuple I.kIn ⟨o, h1, h2⟩ e (fun z => nomatch z) h
  | @dK a kvs ea =>
    cases (show u = Value.ref a from rx)
    obtain ⟨_, _, vs, _, p⟩ := (show ObjOk X.prog X.w H s.heap a (.dK kvs) from I.hok a _ ea)
    obtain ⟨o, es, ep, h1, h2, _⟩ := p
    exact PySem.W.kia_one PySem.W.kitx_dict I.kIn ⟨o, h1, h2.1⟩ e (fun z => nomatch z) h
  | @dT a kvs ea =>
    cases (show u = Value.ref a from rx)
    obtain ⟨_, _, xs, _, o, es, ep, h1, h2, _⟩ := (show ObjOk X.prog X.w H s.heap a (.dT kvs) from I.hok a _ ea)
    exact PySem.W.kia_one PySem.W.kitx_dict I.kIn ⟨o, h1, h2.1⟩ e (fun z => nomatch z) h
  | @ins a C dx fs ea cl ha hn htk hm =>
    cases (show u = Value.ref a from rx)
    obtain ⟨mA, O, _⟩ := ins_get I.hok ea
    obtain ⟨od, J, _⟩ := O.look
    exact PySem.W.kia_one (PySem.W.kitx_own (cl.get _) cl.hd ha hn htk hm) I.kIn J e (fun z => nomatch z) h
end
end L2
namespace L2
open PySem PySem.Spec PyProof.Rows
structure Room (k : Nat) (A : Around) : Prop where
  hd : A.handled = none
  dp : A.depth + 3 * k + 5 < recursionLimit
  un : A.units + 16 * k + 200 < cLine
  gd : A.guards = some []
theorem Room.mono {j k : Nat} {A : Around} (r : Room k A) (h : j ≤ k) : Room j A := ⟨r.hd, by have := r.dp; omega, by have := r.un; omega, r.gd⟩
theorem Room.deeper {k : Nat} {A : Around} (r : Room (k + 1) A) (env : Env) : Room k (A.deeper env) :=
  ⟨r.hd, by have := r.dp; show A.depth + 1 + 3 * k + 5 < _; omega, by have := r.un; show A.units + 3 + 16 * k + 200 < _; omega, r.gd⟩
theorem Room.in1 {k : Nat} {A : Around} (r : Room (k + 1) A) : Room k A.in1 :=
  ⟨r.hd, by have := r.dp; show A.depth + 3 * k + 5 < _; omega, by have := r.un; show A.units + 1 + 16 * k + 200 < _; omega, r.gd⟩
theorem Room.depth {k : Nat} {A : Around} (r : Room k A) : A.depth < recursionLimit := by have := r.dp; omega
theorem Room.units {k : Nat} {A : Around} (r : Room k A) : A.units + 64 < cLine := by have := r.un; omega
def tNil : TA := fun _ H Q => Q [] H
def tCons (ta : TE) (tr : TA) : TA := fun σ H Q => ta σ H fun x H1 => tr σ H1 fun xs H2 => Q (x :: xs) H2
section
variable {X : Cx} {e : Expr} {es : List Expr} {te : TE} {t : TA} {pos : Pos}
theorem pa_nil : PA X [] tNil := fun _ _ _ _ H Q I h => Calls.spliced_nil ⟨[], H, I, .nil, h⟩
theorem pa_cons (ha : PE X e te) (hr : PA X es t) (hs : starEach (e :: es) X.env = (false, eval e X.env) :: starEach es X.env := by rfl) : PA X (e :: es) (tCons te t) := by
  intro pos pins s σ H Q I h
  rw [hs]
  show wpAny _ _ (spliced ((false, eval e X.env) :: backTo pos (starEach es X.env))) _ _ s
  refine Calls.spliced_cons (thn (ha pins s σ H _ I h) fun u s1 ⟨x, H1, I1, r1, q1⟩ => ?_)
  exact thn (hr pos pins s1 σ H1 _ I1 q1) fun us s2 ⟨xs, H2, I2, r2, q2⟩ => ⟨x :: xs, H2, I2, .cons r1 r2, q2⟩
def tTup (t : TA) : TE := fun σ H Q => t σ H fun xs H1 => xs.length ≤ sizeLine ∧ ∀ p, H1 p = none → Q (.ref p) (upd H1 p (.tup xs))
def tLst (t : TA) : TE := fun σ H Q => t σ H fun xs H1 => xs.length ≤ sizeLine ∧ ∀ p, H1 p = none → Q (.ref p) (upd H1 p (.lst xs))
theorem pe_tup {x1} (h : PA X es t) : PE X (.Tuple es x1 pos) (tTup t) := by
  intro pins s σ H Q I hq
  refine wpAny_Tuple_spliced (thn (h pos pins s σ H _ I hq) fun us s1 ⟨xs, H1, I1, r, z, q⟩ => ⟨by rw [← r.length]; exact z, ?_⟩)
  have hf : H1 s1.heap.objs.size = none := I1.hok.fresh (Nat.le_refl _)
  refine ⟨.ref s1.heap.objs.size, upd H1 s1.heap.objs.size (.tup xs), I1.laid (t' := s1.toks) (fun b u e => Heap.get?_push_of_some _ e) (Nat.le_refl _) ?_, rfl, q _ hf⟩
  exact ⟨z, us, r, ⟨_, Heap.get?_push_size _ rfl, rfl, _, rfl⟩⟩
theorem pe_lst (h : PA X es t) : PE X (.List es pos) (tLst t) := by
  intro pins s σ H Q I hq
  refine wpAny_List_spliced (thn (h pos pins s σ H _ I hq) fun us s1 ⟨xs, H1, I1, r, z, q⟩ => ⟨by rw [← r.length]; exact z, ?_⟩)
  have hf : H1 s1.heap.objs.size = none := I1.hok.fresh (Nat.le_refl _)
  refine ⟨.ref s1.heap.objs.size, upd H1 s1.heap.objs.size (.lst xs), I1.laid (t' := s1.toks) (fun b u e => Heap.get?_push_of_some _ e) (Nat.le_refl _) ?_, rfl, q _ hf⟩
  exact ⟨z, us, 0, r, Heap.get?_push_size _ rfl⟩
end
abbrev Sp := List V → Hp → VK → XK → Prop
abbrev CXT := List Env → Hp → Shared → XK → Value → Shared → Prop
structure Env0 (P : Program) (w : World) (K : PySem.W.Frag) (mg : Str → Option Value) (base : Heap) (A : Around) (outer : List Env) (s : Shared) (H : Hp) : Prop where
  frames : A.frames = some outer
  mod : Mod K mg base
  bs : ∀ b o, base.get? b = some o → s.heap.get? b = some o ∧ H b = none
  bsz : base.objs.size ≤ s.heap.objs.size
  funs : s.heap.FunFrames base outer
  frf : ∀ b ∈ frs outer, H b = none
  hok : HOk P w H s.heap
  bare : AllBare s.gens
def CE (outer : List Env) (P : Program) (w : World) (H : Hp) (s : Shared) (Q : VK) (u : Value) (s' : Shared) : Prop :=
  ∃ v H', s'.os = s.os ∧ AllBare s'.gens ∧ Un (frs outer) [] H H' s.heap s'.heap ∧ HOk P w H' s'.heap ∧ RelV v u ∧ Q v H'
def CR (CX : CXT) (outer : List Env) (P : Program) (w : World) (H : Hp) (s : Shared) (Q : VK) (E : XK) (r : Result) (s' : Shared) : Prop :=
  match r with
  | .ok (.ret u) => CE outer P w H s Q u s'
  | .ok _ => False
  | .error e => CX outer H s E e s'
structure FnOk (P : Program) (w : World) (K : PySem.W.Frag) (mg : Str → Option Value) (base : Heap) (CX : CXT) (k : Nat) (f : Addr) (fd : FuncData) (ps : List Str) (sp : Sp) : Prop where
  len : ∀ vs H Q E, sp vs H Q E → vs.length = ps.length
  run : ∀ (A : Around) (outer : List Env) (s : Shared) (H : Hp) (args : Args) (us : List Value) (vs : List V) (Q : VK) (E : XK), Room k A → Env0 P w K mg base A outer s H → BindsTo s fd args (ps.zip us) → Vals vs us → sp vs H Q E →
    codeAny (model P w) A (.call (.ref f) args) (CR CX outer P w H s Q E) s
theorem FnOk.mono {P : Program} {w : World} {K : PySem.W.Frag} {mg : Str → Option Value} {base : Heap} {CX : CXT} {j k : Nat} {f : Addr} {fd : FuncData} {ps : List Str} {sp : Sp} (F : FnOk P w K mg base CX j f fd ps sp) (h : j ≤ k) :
    FnOk P w K mg base CX k f fd ps sp := ⟨F.len, fun A outer s H args us vs Q E hr => F.run A outer s H args us vs Q E (hr.mono h)⟩
theorem FnOk.imp {P : Program} {w : World} {K : PySem.W.Frag} {mg : Str → Option Value} {base : Heap} {CX : CXT} {k : Nat} {f : Addr} {fd : FuncData} {ps : List Str} {sp sp' : Sp} (F : FnOk P w K mg base CX k f fd ps sp)
    (h : ∀ vs H Q E, sp' vs H Q E → sp vs H Q E) : FnOk P w K mg base CX k f fd ps sp' :=
  ⟨fun vs H Q E q => F.len vs H Q E (h _ _ _ _ q), fun A outer s H args us vs Q E hr he hb hv hs => F.run A outer s H args us vs Q E hr he hb hv (h _ _ _ _ hs)⟩
theorem Env0.in1 {P : Program} {w : World} {K : PySem.W.Frag} {mg : Str → Option Value} {base : Heap} {A : Around} {outer : List Env} {s : Shared} {H : Hp} (e : Env0 P w K mg base A outer s H) :
    Env0 P w K mg base A.in1 outer s H := ⟨e.frames, e.mod, e.bs, e.bsz, e.funs, e.frf, e.hok, e.bare⟩
section
variable {X : Cx} {pins : List (Addr × Obj)} {σ : St} {H : Hp} {s s' : Shared}
theorem Inv.env0 (I : Inv X pins σ H s) : Env0 X.prog X.w X.K X.mg X.base X.A X.stack s H :=
  ⟨I.ok.frames, I.ok.mod, I.bs, Nat.le_trans I.ok.bsz I.sz, I.stack, I.stkFree, I.hok, I.bare⟩
theorem Inv.after {Q : VK} {u : Value} (I : Inv X pins σ H s) (h : CE X.stack X.prog X.w H s Q u s') : EP X pins σ Q u s' := by
  obtain ⟨v, H', os, bare, un, hok, r, q⟩ := h
  obtain ⟨hh, g, d, t, os'⟩ := s'
  obtain rfl : os' = s.os := os
  exact ⟨v, H', I.call (h' := hh) (g' := g) (d' := d) (t' := t) (ch := []) un hok bare (fun b z => absurd z (by simp)), r, q⟩
end
def tCall (sp : Sp) (dvs : List V) (E : XK) (t : TA) : TE := fun σ H Q => t σ H fun vs H1 => sp (vs ++ dvs) H1 Q E
def tMeth (C : Addr) (m : Str) (sp : Sp) (dvs : List V) (E : XK) (ta : TE) (t : TA) : TE := fun σ H Q => ta σ H fun x H1 => ∃ a dx fs, x = .ref a ∧ H1 a = some (.ins C dx fs) ∧ fs.lookup m = none ∧
  t σ H1 fun vs H2 => sp (x :: (vs ++ dvs)) H2 Q E
def tMake (C : Addr) (sp : Sp) (dvs : List V) (E : XK) (t : TA) : TE := fun σ H Q => t σ H fun vs H1 => ∀ x dx, H1 x = none → H1 dx = none → dx ≠ x →
  sp (.ref x :: (vs ++ dvs)) (upd (upd H1 dx (.own x)) x (.ins C dx [])) (fun v H2 => v = .non ∧ Q (.ref x) H2) E
def Binds (K : PySem.W.Frag) (fd : FuncData) (ps : List Str) (ds : List Value) : Prop :=
  ∀ (s : Shared) (us : List Value), K.In s.heap → (us ++ ds).length = ps.length → BindsTo s fd ⟨us, []⟩ (ps.zip (us ++ ds))
theorem Binds.all {K : PySem.W.Frag} {fd : FuncData} {ps : List Str} (h : ∀ us : List Value, us.length = ps.length → bindArgs fd ⟨us, []⟩ = pure (ps.zip us)) : Binds K fd ps [] := fun s us _ hl => by
  rw [List.append_nil] at hl ⊢
  exact .of_eq (h us hl)
def Passes (CX : CXT) (X : Cx) (E : XK) : Prop := ∀ (pins : List (Addr × Obj)) (σ : St) (H : Hp) (s : Shared) (e : Value) (s' : Shared), Inv X pins σ H s → CX X.stack H s E e s' → X.xe e s'
section
variable {X : Cx} {CX : CXT} {k : Nat} {f C : Addr} {fd : FuncData} {ps : List Str} {sp : Sp} {dvs : List V} {ds : List Value} {E : XK} {x m : Str} {p pos apos : Pos} {e o : Expr} {es : List Expr} {ta : TE} {t : TA}
theorem run_fn {pins : List (Addr × Obj)} {σ : St} {H : Hp} {s : Shared} {Q : VK} {us : List Value} {vs : List V} (F : FnOk X.prog X.w X.K X.mg X.base CX k f fd ps sp) (hr : Room k X.A) (hb : Binds X.K fd ps ds) (hd : Vals dvs ds) (hx : Passes CX X E)
    (I : Inv X pins σ H s) (r : Vals vs us) (h : sp (vs ++ dvs) H Q E) : wpAny (model X.prog X.w) X.A (call (.ref f) us) (EP X pins σ Q) X.xe s := by
  have r2 : Vals (vs ++ dvs) (us ++ ds) := r.append hd
  have hl : (us ++ ds).length = ps.length := by rw [← r2.length]; exact F.len _ _ _ _ h
  refine wpAny_call (codeAny_mono (F.run X.A X.stack s H ⟨us, []⟩ (us ++ ds) (vs ++ dvs) Q E hr I.env0 (hb s us I.kIn hl) r2 h) fun r s' hq => ?_)
  cases r with
  | error e => exact hx pins σ H s e s' I hq
  | ok fl =>
    cases fl with
    | ret u => exact I.after hq
    | next => exact False.elim hq
    | brk => exact False.elim hq
    | cont => exact False.elim hq
theorem pe_call (F : FnOk X.prog X.w X.K X.mg X.base CX k f fd ps sp) (hr : Room k X.A) (hg : Gl X x) (hm : X.mg x = some (.ref f)) (hk : PySem.W.keepIn X.K (.ref f) = true) (hb : Binds X.K fd ps ds) (hd : Vals dvs ds) (hx : Passes CX X E)
    (ha : PA X (e :: es) t) (hdb : (x == ("__debug__" : Str)) = false := by decide) (he : starEach (e :: es) X.env = (false, eval e X.env) :: starEach es X.env := by rfl) (hpl : (backTo pos (starEach es X.env)).any (·.1) = false := by rfl) :
    PE X (.Call (.Name x p) (e :: es) [] pos) (tCall sp dvs E t) := by
  intro pins s σ H Q I h
  refine wpAny_Call_Name_kw (ld_glob I hg hm ?_ hdb)
  refine PySem.W.callWith_K (h₀ := X.base) I.ok.mod.kin hk (thn (ha pos pins s σ H _ I h) fun us s1 ⟨vs, H1, I1, r, q⟩ => ⟨I1.kIn, ?_⟩) he hpl
  exact run_fn F hr hb hd hx I1 r q
structure Mk (K : PySem.W.Frag) (C f : Addr) : Prop where
  makes : PySem.W.makesIn K C = true
  init : PySem.W.findIn K (.ref C) "__init__" = some (some (.ref f))
  fn : PySem.W.isFn K (.ref f) = true
  kp : PySem.W.keepIn K (.ref C) = true
end
section
variable {X : Cx} {CX : CXT} {k : Nat} {f C : Addr} {fd : FuncData} {ps ks : List Str} {sp : Sp} {E : XK} {x m : Str} {p pos apos kpos : Pos} {e o : Expr} {es : List Expr} {kws : List Keyword} {te ta : TE} {t tk : TA} {nm : Option Str}
structure KBinds (K : PySem.W.Frag) (fd : FuncData) (ps ks : List Str) (g : List Value → List Value → List Value) (gV : List V → List V → List V) : Prop where
  to : ∀ (s : Shared) (us ws : List Value), K.In s.heap → (g us ws).length = ps.length → BindsTo s fd ⟨us, ks.zip ws⟩ (ps.zip (g us ws))
  rel : ∀ {vs : List V} {us : List Value} {zs : List V} {ws : List Value}, Vals vs us → Vals zs ws → Vals (gV vs zs) (g us ws)
variable {g : List Value → List Value → List Value} {gV : List V → List V → List V}
end
structure FnScope (N P : List Str) (sc : Scope) : Prop where
  kind : sc.kind = .function
  co : sc.isCoroutine = false
  gen : sc.isGenerator = false
  nd : N.Nodup
  pre : N.take P.length = P
  par : ∀ x ∈ P, sc.names.lookup x = some .local ∨ sc.names.lookup x = some .cell
  nofree : ∀ y ∈ sc.names, y.2 ≠ .free
theorem bindL_out {kindOf : Str → Option NameKind} {x : Str} : ∀ {binds : List (Str × Value)} {m : Str → Option Value}, (∀ v, (x, v) ∉ binds) → bindL kindOf binds m x = m x
  | [], _, _ => rfl
  | (n, v) :: r, m, h => by
    unfold bindL
    rw [bindL_out fun w hw => h w (List.mem_cons_of_mem _ hw)]
    split
    · have : x ≠ n := by rintro rfl; exact h v List.mem_cons_self
      simp [this]
    · rfl
theorem bindC_out {kindOf : Str → Option NameKind} {x : Str} : ∀ {binds : List (Str × Value)} {m : Str → Option Value}, (∀ v, (x, v) ∉ binds) → bindC kindOf binds m x = m x
  | [], _, _ => rfl
  | (n, v) :: r, m, h => by
    unfold bindC
    rw [bindC_out fun w hw => h w (List.mem_cons_of_mem _ hw)]
    split
    · rfl
    · have : x ≠ n := by rintro rfl; exact h v List.mem_cons_self
      simp [this]
theorem bindL_get {kindOf : Str → Option NameKind} {x : Str} {v : Value} : ∀ {P : List Str} {vs : List Value} {i : Nat} {m : Str → Option Value}, P.Nodup → P[i]? = some x → vs[i]? = some v → kindOf x = some .local →
    bindL kindOf (P.zip vs) m x = some v
  | [], _, _, _, _, h, _, _ => by simp at h
  | _ :: _, [], _, _, _, _, h, _ => by simp at h
  | p :: P, w :: vs, 0, m, nd, h1, h2, hk => by
    simp at h1 h2; subst h1; subst h2
    show bindL kindOf ((p, w) :: P.zip vs) m p = _
    unfold bindL
    rw [bindL_out fun v hv => (List.nodup_cons.mp nd).1 (List.of_mem_zip hv).1, if_pos hk]
    simp
  | p :: P, w :: vs, i + 1, m, nd, h1, h2, hk => by
    show bindL kindOf ((p, w) :: P.zip vs) m x = _
    unfold bindL
    exact bindL_get (i := i) (List.nodup_cons.mp nd).2 (by simpa using h1) (by simpa using h2) hk
theorem bindC_get {kindOf : Str → Option NameKind} {x : Str} {v : Value} : ∀ {P : List Str} {vs : List Value} {i : Nat} {m : Str → Option Value}, P.Nodup → P[i]? = some x → vs[i]? = some v → kindOf x ≠ some .local →
    bindC kindOf (P.zip vs) m x = some v
  | [], _, _, _, _, h, _, _ => by simp at h
  | _ :: _, [], _, _, _, _, h, _ => by simp at h
  | p :: P, w :: vs, 0, m, nd, h1, h2, hk => by
    simp at h1 h2; subst h1; subst h2
    show bindC kindOf ((p, w) :: P.zip vs) m p = _
    unfold bindC
    rw [bindC_out fun v hv => (List.nodup_cons.mp nd).1 (List.of_mem_zip hv).1, if_neg hk]
    simp
  | p :: P, w :: vs, i + 1, m, nd, h1, h2, hk => by
    show bindC kindOf ((p, w) :: P.zip vs) m x = _
    unfold bindC
    exact bindC_get (i := i) (List.nodup_cons.mp nd).2 (by simpa using h1) (by simpa using h2) hk
def start (N : List Str) (vs : List V) : St := vs.map some ++ List.replicate (N.length - vs.length) none
def cxOf (CX : CXT) (P : Program) (w : World) (K : PySem.W.Frag) (mg : Str → Option Value) (base : Heap) (N : List Str) (qual : Str) (scope : Scope) (f : Addr) (cd : Value) (A : Around) (outer : List Env) (s : Shared) (H : Hp) (E : XK) : Cx where
  prog := P
  w := w
  K := K
  mg := mg
  base := base
  A := A.deeper (envOfC qual scope s.heap.objs.size f cd)
  N := N
  s₀ := s
  H₀ := H
  env := envOfC qual scope s.heap.objs.size f cd
  outer := outer
  stack := envOfC qual scope s.heap.objs.size f cd :: outer
  ex := []
  calm := true
  fn := fun _ => true
  pn := []
  xe := fun e s' => wpAny (model P w) (A.deeper (envOfC qual scope s.heap.objs.size f cd)) (leaving (envOfC qual scope s.heap.objs.size f cd) e) (fun _ s'' => CX outer H s E e s'') (fun e' s'' => CX outer H s E e' s'') s'
theorem cell_has {sc : Scope} {n : Nat} {x : Str} (h : sc.names.lookup x = some .cell) : ∃ c, (cellsFrom n sc.names []).lookup x = some c := by
  have q := PySem.W.cellsFrom_some sc.names n [] (.inl h)
  exact Option.isSome_iff_exists.mp q
theorem inv_start {CX : CXT} {P : Program} {w : World} {K : PySem.W.Frag} {mg : Str → Option Value} {base : Heap} {N ps : List Str} {qual : Str} {scope : Scope} {f : Addr} {cd : Value} {A : Around} {outer : List Env} {s s1 : Shared} {H : Hp} {E : XK} {us : List Value} {vs : List V}
    (S : FnScope N ps scope) (hd : A.handled = none) (e0 : Env0 P w K mg base A outer s H) (hl : vs.length = ps.length) (r : Vals vs us)
    (x : InCallC s s.heap.objs.size (bindL (envOfC qual scope s.heap.objs.size f cd).kindOf (ps.zip us) fun _ => none) (cellsFrom (s.heap.objs.size + 1) scope.names []) (bindC (envOfC qual scope s.heap.objs.size f cd).kindOf (ps.zip us) fun _ => none) s1) :
    Inv (cxOf CX P w K mg base N qual scope f cd A outer s H E) [] (start N vs) H s1 := by
  have hpl : ps.length ≤ N.length := by have := congrArg List.length S.pre; rw [List.length_take] at this; omega
  obtain ⟨h1, tk, rfl, hk⟩ := x.done
  have noA : ∀ b : Addr, b ∉ (cxOf CX P w K mg base N qual scope f cd A outer s H E).ex := fun b z => absurd (show b ∈ ([] : List Addr) from z) (by simp)
  refine ⟨⟨e0.mod, S.kind, rfl, rfl, Nat.le_refl _, fun y z c h1 h2 => ?_, fun y hy => ?_, fun y c _ h => ?_, fun _ => hd, Around.frames_deeper e0.frames, .inr ⟨rfl, rfl⟩, fun b z => absurd z (noA b), e0.bs, e0.bsz, fun b _ _ => noA b, fun b z => absurd z (noA b), e0.funs, e0.frf⟩,
    rfl, e0.bare, Un.kept hk, ⟨_, x.toInCall.ns, fun i y v h1 h2 h3 => ?_⟩, fun y c h => ⟨_, x.cell y c h⟩, e0.hok.fresh (Nat.le_refl _), fun y c h => ?_, fun p hp => absurd (show p ∈ ([] : List (Addr × Obj)) from hp) (by simp), e0.hok.kept hk, ?_⟩
  · exact name_of_addr x.apart (PySem.mem_of_lookup h1) (PySem.mem_of_lookup h2)
  · have hy : scope.names.lookup y = some .cell ∨ scope.names.lookup y = some .free := hy
    rcases hy with hy | hy
    · exact cell_has hy
    · exact absurd rfl (S.nofree _ (PySem.mem_of_lookup hy))
  · exact Nat.le_of_lt (x.above y c (PySem.mem_of_lookup h))
  · have hi : i < vs.length := by
      unfold start at h2
      by_cases hi : i < vs.length
      · exact hi
      · rw [List.getElem?_append_right (by simpa using hi)] at h2
        rw [List.getElem?_replicate] at h2
        split at h2 <;> cases h2
    have ha : vs[i]? = some v := by
      unfold start at h2
      rw [List.getElem?_append_left (by simpa using hi), List.getElem?_map] at h2
      cases e : vs[i]? with
      | none => rw [e] at h2; cases h2
      | some a => rw [e] at h2; cases h2; rfl
    obtain ⟨u, hu, rv⟩ := r.get ha
    have hp : ps[i]? = some y := by
      rw [← S.pre, List.getElem?_take_of_lt (by omega)]; exact h1
    have ndP : ps.Nodup := by rw [← S.pre]; exact S.nd.sublist (List.take_sublist _ _)
    refine ⟨u, rv, ?_⟩
    rcases S.par y (List.mem_of_getElem? hp) with k | k
    · exact .inl ⟨k, bindL_get ndP hp hu k⟩
    · obtain ⟨c, e⟩ := cell_has (n := s.heap.objs.size + 1) k
      refine .inr ⟨.inl k, c, e, ?_⟩
      have q := x.cell y c e
      rw [bindC_get ndP hp hu (by show scope.names.lookup y ≠ _; rw [k]; decide)] at q
      exact q
  · exact e0.hok.fresh (Nat.le_of_lt (x.above y c (PySem.mem_of_lookup h)))
  · unfold start
    show _ = N.length
    rw [List.length_append, List.length_map, List.length_replicate]
    omega
theorem fn_of {CX : CXT} {P : Program} {w : World} {K : PySem.W.Frag} {mg : Str → Option Value} {base : Heap} {k : Nat} {f : Addr} {name qual : Str} {params : Arguments} {body : List Stmt} {scope : Scope} {dV kV doc pm cdv ct oc : Value} {an od : Option Addr}
    {osl : Array (Option Value)} {N ps : List Str} {sp : Sp} (lk : K.lookup f = some ⟨oc, od, .func (PySem.W.fnOf name qual params body scope dV kV doc pm an cdv ct), osl⟩) (hcd : PySem.W.codeIn K cdv qual = true) (S : FnScope N ps scope)
    (len : ∀ vs H Q E, sp vs H Q E → vs.length = ps.length)
    (hbody : ∀ (A : Around) (outer : List Env) (s : Shared) (H : Hp) (vs : List V) (Q : VK) (E : XK), Room k (A.deeper (envOfC qual scope s.heap.objs.size f cdv)) → sp vs H Q E →
      ∃ t, PSs (cxOf CX P w K mg base N qual scope f cdv A outer s H E) body t ∧ t { nx := fun _ H' => Q .non H', rt := Q } (start N vs) H) :
    FnOk P w K mg base CX (k + 1) f (PySem.W.fnOf name qual params body scope dV kV doc pm an cdv ct) ps sp := by
  refine ⟨len, fun A outer s H args us vs Q E hr e0 hb r hsp => ?_⟩
  have hl := len _ _ _ _ hsp
  have KX : K.In s.heap := e0.mod.kin.keeps fun b o e => (e0.bs b o e).1
  have lim : s.heap.NoLimit := e0.mod.nolimit.keeps fun b o e => (e0.bs b o e).1
  have hkind : ∀ y ∈ ps.zip us, scope.names.lookup y.1 = some .local ∨ (scope.names.lookup y.1 = some .cell ∧ ((cellsFrom (s.heap.objs.size + 1) scope.names []).lookup y.1).isSome = true) := fun ⟨n, v⟩ hy => by
    rcases S.par n (List.of_mem_zip hy).1 with q | q
    · exact .inl q
    · exact .inr ⟨q, PySem.W.cellsFrom_some _ _ _ (.inl q)⟩
  refine codeAny_call_function hr.depth (KX _ _ lk) rfl S.co S.gen rfl (PySem.W.codeRec_of KX hcd) (hb _ _ _ _ ?_)
  refine wpAny_newFunctionEnv_cells S.kind hkind fun env he s1 x => ?_
  subst he
  refine ⟨lim.keeps x.toInCall.keep, codeAny_func ?_⟩
  obtain ⟨t, ht, hq⟩ := hbody A outer s H vs Q E (hr.deeper _) hsp
  have I : Inv (cxOf CX P w K mg base N qual scope f cdv A outer s H E) [] (start N vs) H s1 := inv_start S hr.hd e0 hl r x
  refine wpAny_mono (ht [] s1 (start N vs) H _ I hq) (fun fl s' hs => ?_) fun e s' hs => hs
  have fin : ∀ {σ' : St} {H' : Hp} {v : V} {u : Value}, Inv (cxOf CX P w K mg base N qual scope f cdv A outer s H E) [] σ' H' s' → RelV v u → Q v H' → CE outer P w H s Q u s' :=
    fun {σ' H' v u} J rv q => ⟨v, H', J.os, J.bare, J.base, J.hok, rv, q⟩
  cases fl with
  | ret u =>
    obtain ⟨v, σ', H', J, rv, q⟩ := hs
    exact fin J rv q
  | next =>
    obtain ⟨σ', H', J, q⟩ := hs
    exact fin (v := V.non) (u := Value.none) J rfl q
  | brk =>
    obtain ⟨_, _, _, q⟩ := hs
    exact False.elim q
  | cont =>
    obtain ⟨_, _, _, q⟩ := hs
    exact False.elim q
end L2
namespace L2
open PySem PySem.Spec PyProof.Rows
section
variable {X : Cx} {x : Str} {p pos : Pos} {e : Expr} {es : List Expr} {t : TA} {id T : String} {r : List V → Hp → VK → Prop}
def tCB (r : List V → Hp → VK → Prop) (t : TA) : TE := fun σ H Q => t σ H fun vs H1 => r vs H1 Q
theorem pe_callB (hc : CallR X (.builtin id) r) (hg : Gl X x) (hm : X.mg x = none) (hv : bootBuiltins x = some (.builtin id)) (ha : PA X (e :: es) t) (hn : x ≠ "__name__" := by decide) (hdb : (x == ("__debug__" : Str)) = false := by decide)
    (he : starEach (e :: es) X.env = (false, eval e X.env) :: starEach es X.env := by rfl) (hpl : (backTo pos (starEach es X.env)).any (·.1) = false := by rfl) : PE X (.Call (.Name x p) (e :: es) [] pos) (tCB r t) := by
  intro pins s σ H Q I h
  refine wpAny_Call_Name_kw (ld_blt I hg hm hv ?_ hn hdb)
  exact PyProof.Rows.callWith_builtin1 (thn (ha pos pins s σ H _ I h) fun us s1 ⟨vs, H1, I1, r1, q1⟩ => hc pins s1 σ H1 vs us Q I1 r1 q1) he hpl
theorem pe_callTy (hc : CallR X (.type T) r) (hg : Gl X x) (hm : X.mg x = none) (hv : bootBuiltins x = some (.type T)) (ha : PA X (e :: es) t) (hn : x ≠ "__name__" := by decide) (hdb : (x == ("__debug__" : Str)) = false := by decide)
    (he : starEach (e :: es) X.env = (false, eval e X.env) :: starEach es X.env := by rfl) (hpl : (backTo pos (starEach es X.env)).any (·.1) = false := by rfl) : PE X (.Call (.Name x p) (e :: es) [] pos) (tCB r t) := by
  intro pins s σ H Q I h
  refine wpAny_Call_Name_kw (ld_blt I hg hm hv ?_ hn hdb)
  exact PyProof.Rows.callWith_type1 (thn (ha pos pins s σ H _ I h) fun us s1 ⟨vs, H1, I1, r1, q1⟩ => hc pins s1 σ H1 vs us Q I1 r1 q1) he hpl
end
end L2
namespace HT
open PySem PyProof.Rows
section
open PySem.SeqAt
open PySem.AutoSeq1 (wpAny_loadPart')
open PySem.MeetsSeq PySem.MeetsSeq2 PySem.MeetsSeq3
end
section
variable {prog : Program} {w : World} {A : Around} {E : Value → Shared → Prop} {s : Shared}
theorem cat_tup {t b : Addr} {vs ws : List Value} {Q : Value → Shared → Prop} (ht : IsTup s.heap t vs.toArray) (hb : IsTup s.heap b ws.toArray) (hv : vs ≠ [])
    (h1 : ws = [] → Q (.ref t) s) (h2 : ws ≠ [] → Q (.ref s.heap.objs.size) { s with heap := s.heap.push { cls := .type "tuple", data := .seq (vs ++ ws).toArray } })
    (hsz : vs.length + ws.length ≤ sizeLine) : wpAny (model prog w) A (binaryOp .Add (.ref t) (.ref b)) Q E s := by
  obtain ⟨⟨cls, dd, data, sl⟩, ho, hc, n, hd⟩ := id ht
  obtain ⟨⟨cls2, dd2, data2, sl2⟩, ho2, hc2, n2, hd2⟩ := id hb
  simp only at hc hd hc2 hd2
  subst hc hd hc2 hd2
  have e : vs.toArray ++ ws.toArray = (vs ++ ws).toArray := by simp
  by_cases hw : ws = []
  · exact concat_meets ⟨_, ho, rfl⟩ ⟨_, ho2, rfl⟩ noFill_tuple_add seq_tuple_add PySem.F.slot_tuple_add PySem.F.entry_tuple_add (PySem.F.args_tuple_add_2 _ _)
      (tuple_addW1 t b vs.toArray ws.toArray n n2 dd dd2 sl sl2 (by simpa using hv) (by simp [hw])) ⟨ho, ho2, h1 hw⟩
  · refine concat_meets ⟨_, ho, rfl⟩ ⟨_, ho2, rfl⟩ noFill_tuple_add seq_tuple_add PySem.F.slot_tuple_add PySem.F.entry_tuple_add (PySem.F.args_tuple_add_2 _ _)
      (tuple_addW2 t b vs.toArray ws.toArray n n2 dd dd2 sl sl2 (by simpa using hv) (by simpa using hw) (by rw [List.size_toArray, List.size_toArray]; exact hsz)) ⟨ho, ho2, ?_⟩
    rw [e]
    exact h2 hw
def sIx (n d : Nat) : Option Int → Nat
  | none => d
  | some v => if v < 0 then (v + (n : Int)).toNat else min v.toNat n
theorem sIx_none (n d : Nat) : sIx n d none = d := rfl
theorem sIx_nat (n d k : Nat) : sIx n d (some (k : Int)) = min k n := by
  show (if (k : Int) < 0 then ((k : Int) + (n : Int)).toNat else min (k : Int).toNat n) = min k n
  rw [if_neg (by omega), Int.toNat_natCast]
theorem sIx_le (n d : Nat) (hd : d ≤ n) (o : Option Int) : sIx n d o ≤ n := by
  cases o with
  | none => exact hd
  | some v =>
    show (if v < 0 then (v + (n : Int)).toNat else min v.toNat n) ≤ n
    by_cases hv : v < 0
    · rw [if_pos hv]; omega
    · rw [if_neg hv]; exact Nat.min_le_right _ _
theorem clip_eq (v : Int) (n d : Nat) : (if v < 0 then max (v + (n : Int)) 0 else min v (n : Int)) = ((sIx n d (some v) : Nat) : Int) := by
  show (if v < 0 then max (v + (n : Int)) 0 else min v (n : Int)) = (((if v < 0 then (v + (n : Int)).toNat else min v.toNat n) : Nat) : Int)
  by_cases hv : v < 0
  · simp only [if_pos hv]; omega
  · simp only [if_neg hv]; omega
theorem adjust_gen (lo hi : Option Int) (n : Nat) : Builtin.Slice.sliceAdjust lo hi 1 (n : Int) = (((sIx n 0 lo : Nat) : Int), ((sIx n n hi : Nat) : Int)) := by
  have h1 : ¬ ((1 : Int) < 0) := by omega
  unfold Builtin.Slice.sliceAdjust
  simp only [h1, if_false]
  refine Prod.ext ?_ ?_
  · cases lo with
    | none => rfl
    | some v => exact clip_eq v n 0
  · cases hi with
    | none => rfl
    | some v => exact clip_eq v n n
theorem places_gen (i j : Nat) : Builtin.Slice.slicePlaces (i : Int) (j : Int) 1 = j - i := by
  unfold Builtin.Slice.slicePlaces
  have h1 : (1 : Int) > 0 := by omega
  simp only [h1, if_true, Int.ediv_one]
  split <;> omega
theorem slicePart_ {v : Value} {o : Option Int} {Q : Option Int → Shared → Prop} (p : IsPart v o) (h : Q o s) : wpAny (model prog w) A (Builtin.Slice.slicePartIndex v) Q E s := by
  cases p with
  | none => exact slicePart_none h
  | int i t => exact slicePart_int h
theorem sliceApplied_gen {sl : Addr} {vl vu : Value} {lo hi : Option Int} {n : Nat} {Q : Int × Int × Nat → Shared → Prop} (hs : s.heap.IsSliceOf sl vl vu .none) (pl : IsPart vl lo) (pu : IsPart vu hi)
    (h : Q (((sIx n 0 lo : Nat) : Int), 1, sIx n n hi - sIx n 0 lo) s) : wpAny (model prog w) A (Builtin.Slice.sliceApplied (.ref sl) (pure (n : Int))) Q E s := by
  obtain ⟨os, hos, hcs, hds⟩ := id hs
  unfold Builtin.Slice.sliceApplied Builtin.Slice.sliceFields
  refine wpAny_bind (wpAny_bind (wpAny_field hos hds (x := vl) rfl (wpAny_bind (wpAny_field hos hds (x := vu) rfl (wpAny_bind (wpAny_field hos hds (x := .none) rfl (wpAny_pure ?_)))))))
  refine wpAny_bind (slicePart_none ?_)
  show wpAny _ _ (if ((1 : Int) == 0) = true then _ else _) _ _ s
  rw [if_neg (by decide)]
  refine wpAny_bind (slicePart_ pl (wpAny_bind (slicePart_ pu (wpAny_bind (wpAny_pure ?_)))))
  show wpAny _ _ (match Builtin.Slice.sliceAdjust lo hi 1 (n : Int) with | (lo, hi) => pure (lo, (1 : Int), Builtin.Slice.slicePlaces lo hi 1)) _ _ s
  rw [adjust_gen lo hi n]
  show wpAny _ _ (pure (((sIx n 0 lo : Nat) : Int), (1 : Int), Builtin.Slice.slicePlaces ((sIx n 0 lo : Nat) : Int) ((sIx n n hi : Nat) : Int) 1)) _ _ s
  rw [places_gen]
  exact wpAny_pure h
theorem pick_gen (xs : Array Value) (i k : Nat) : ((List.range k).filterMap fun (m : Nat) => xs[((i : Int) + (m : Int) * 1).toNat]?).toArray = ((xs.toList.drop i).take k).toArray := by
  have e : (fun (m : Nat) => xs[((i : Int) + (m : Int) * 1).toNat]?) = fun m => xs[i + m]? := by
    funext m
    have : ((i : Int) + (m : Int) * 1).toNat = i + m := by omega
    rw [this]
  rw [e]
  have := pick_run xs i k
  rw [List.filterMap_map] at this
  have e2 : ((fun x => xs[x]?) ∘ fun x => i + x) = fun m => xs[i + m]? := rfl
  rw [e2] at this
  rw [this]
theorem getItem_tuple_cut {t sl : Addr} {items : Array Value} {vl vu : Value} {lo hi : Option Int} {Q : Value → Shared → Prop} (ht : IsTup s.heap t items) (hs : s.heap.IsSliceOf sl vl vu .none) (pl : IsPart vl lo) (pu : IsPart vu hi)
    (hw : ¬ (sIx items.size 0 lo = 0 ∧ sIx items.size items.size hi = items.size))
    (h : Q (.ref s.heap.objs.size) { s with heap := s.heap.push { cls := .type "tuple", data := .seq ((items.toList.drop (sIx items.size 0 lo)).take (sIx items.size items.size hi - sIx items.size 0 lo)).toArray } })
    (hsz : items.size ≤ sizeLine) : wpAny (model prog w) A (getItem (.ref t) (.ref sl)) Q E s := by
  have htake : sizeOk (.seq ((items.toList.drop (sIx items.size 0 lo)).take (sIx items.size items.size hi - sIx items.size 0 lo)).toArray) := by
    show ((items.toList.drop (sIx items.size 0 lo)).take (sIx items.size items.size hi - sIx items.size 0 lo)).toArray.size ≤ sizeLine
    rw [List.size_toArray, List.length_take, List.length_drop, Array.length_toList]
    omega
  have hj : sIx items.size items.size hi ≤ items.size := sIx_le _ _ (Nat.le_refl _) hi
  obtain ⟨os, hos, hcs, hds⟩ := id hs
  have hTs : s.TypeIs (.ref sl) "slice" := ⟨os, hos, hcs⟩
  unfold getItem
  try with_reducible refine wpAny_holding ?_
  first | refine wpAny_bind (wpAny_pure ?_) | skip
  refine wpAny_bind (wpAny_sequenceKey ht.typeIs (by decide) ?_)
  refine wpAny_bind (wpAny_callSpecial?_slot (name := Str.ofString "__getitem__") ht.typeIs PyProof.Rows.slot_tuple_getitem
    (wpAny_call_entry PyProof.Rows.slot_tuple_getitem ht.typeIs entry_tuple_getitem ?_ (args_tuple_getitem _ _)))
  show wpAny _ _ (Builtin.Tuple.tupleItemsOf (.ref t) >>= _) _ _ s
  refine wpAny_bind (tupleItemsOf_ ht ?_)
  refine wpAny_bind (wpAny_typeOf hTs ?_)
  rw [if_pos (by decide)]
  refine wpAny_bind (sliceApplied_gen hs pl pu ?_)
  have hno : ¬ ((((sIx items.size 0 lo : Nat) : Int) == 0 && (1 : Int) == 1 && (sIx items.size items.size hi - sIx items.size 0 lo) == items.size) = true) := by
    intro q
    rw [Bool.and_eq_true, Bool.and_eq_true] at q
    have q1 : ((sIx items.size 0 lo : Nat) : Int) = 0 := eq_of_beq q.1.1
    have q2 : sIx items.size items.size hi - sIx items.size 0 lo = items.size := eq_of_beq q.2
    exact hw ⟨by omega, by omega⟩
  show wpAny _ _ (if (((sIx items.size 0 lo : Nat) : Int) == 0 && (1 : Int) == 1 && (sIx items.size items.size hi - sIx items.size 0 lo) == items.size) = true then _ else _) _ _ s
  rw [if_neg hno, pick_gen]
  first
    | exact wpAny_bind (m := Builtin.Tuple.tupleExact _) (wpAny_newObj_type (wpAny_pure ⟨_, rfl, wpAny_pure h⟩) htake)
    | exact wpAny_bind (m := Builtin.Tuple.tupleExact _) (wpAny_newObj_type (wpAny_bind (wpAny_pure (wpAny_pure ⟨_, rfl, wpAny_pure h⟩))) htake)
    | exact wpAny_bind (wpAny_bind (m := Builtin.Tuple.tupleExact _) (wpAny_newObj_type (wpAny_pure (wpAny_pure ⟨_, rfl, wpAny_pure h⟩)) htake))
    | exact wpAny_bind (wpAny_bind (m := Builtin.Tuple.tupleExact _) (wpAny_newObj_type (wpAny_pure ⟨_, rfl, wpAny_pure h⟩) htake))
end
end HT
namespace L2
open PySem PySem.Spec PyProof.Rows
abbrev TO := St → Hp → (Option Int → Hp → Prop) → Prop
def PO (X : Cx) (e : Option Expr) (t : TO) : Prop :=
  ∀ (pins : List (Addr × Obj)) (s : Shared) (σ : St) (H : Hp) (Q : Option Int → Hp → Prop), Inv X pins σ H s → t σ H Q →
    wpAny (model X.prog X.w) X.A (evalPart e X.env) (fun u s' => ∃ o H', Inv X pins σ H' s' ∧ IsPart u o ∧ Q o H') X.xe s
def tNoPart : TO := fun _ H Q => Q none H
def tPart (t : TE) : TO := fun σ H Q => t σ H fun x H1 => ∃ i, x = .int i ∧ Q (some i) H1
section
variable {X : Cx} {e : Expr} {te : TE} {lo hi : Option Expr} {tl th : TO} {pos p2 : Pos}
theorem po_none : PO X none tNoPart := by
  intro pins s σ H Q I h
  rw [evalPart_none]
  exact wpAny_pure ⟨none, H, I, .none, h⟩
theorem po_some (h : PE X e te) : PO X (some e) (tPart te) := by
  intro pins s σ H Q I hw
  rw [evalPart_some]
  refine thn (h pins s σ H _ I hw) fun u s1 ⟨x, H1, I1, r1, q1⟩ => ?_
  obtain ⟨i, rfl, q⟩ := q1
  obtain ⟨t, rfl⟩ := r1
  exact ⟨some i, H1, I1, .int i t, q⟩
def SlR (X : Cx) (r : V → Option Int → Option Int → Hp → VK → Prop) : Prop :=
  ∀ (pins : List (Addr × Obj)) (s : Shared) (σ : St) (H : Hp) (x : V) (v vl vu : Value) (lo hi : Option Int) (sl : Addr) (Q : VK), Inv X pins σ H s → RelV x v → s.heap.IsSliceOf sl vl vu .none → IsPart vl lo → IsPart vu hi → r x lo hi H Q →
    ∃ T id, typeLookup (.type T) "__getitem__" = pure (some (.builtin id)) ∧ s.TypeIs v T ∧ wpAny (model X.prog X.w) X.A (getItem v (.ref sl)) (EP X pins σ Q) X.xe s
theorem SlR.or {r r' : V → Option Int → Option Int → Hp → VK → Prop} (h : SlR X r) (h' : SlR X r') : SlR X (fun x lo hi H Q => r x lo hi H Q ∨ r' x lo hi H Q) := by
  intro pins s σ H x v vl vu lo hi sl Q I rx hs pl pu q
  rcases q with q | q
  · exact h pins s σ H x v vl vu lo hi sl Q I rx hs pl pu q
  · exact h' pins s σ H x v vl vu lo hi sl Q I rx hs pl pu q
def tSl (r : V → Option Int → Option Int → Hp → VK → Prop) (te : TE) (tl th : TO) : TE := fun σ H Q => te σ H fun x H1 => tl σ H1 fun l H2 => th σ H2 fun u H3 => r x l u H3 Q
theorem pe_slice {r : V → Option Int → Option Int → Hp → VK → Prop} (hr : SlR X r) (he : PE X e te) (hl : PO X lo tl) (hu : PO X hi th) : PE X (.Subscript e (.Slice lo hi none p2) pos) (tSl r te tl th) := by
  intro pins s σ H Q I h
  refine Subscript_ (thn (he pins s σ H _ I h) fun v s1 ⟨x, H1, I1, r1, q1⟩ => ?_)
  refine wpAny_Slice (thn (hl pins s1 σ H1 _ I1 q1) fun vl s2 ⟨l, H2, I2, pl, q2⟩ => thn (hu pins s2 σ H2 _ I2 q2) fun vu s3 ⟨u, H3, I3, pu, q3⟩ => ?_)
  rw [evalPart_none]
  refine wpAny_pure ?_
  have I4 : Inv X pins σ H3 { s3 with heap := s3.heap.push { cls := .type "slice", data := .fields #[vl, vu, .none] } } := I3.kept (t' := s3.toks) fun b ob q => Heap.get?_push_of_some _ q
  obtain ⟨T, id, hT, ht, hg⟩ := hr pins { s3 with heap := s3.heap.push { cls := .type "slice", data := .fields #[vl, vu, .none] } } σ H3 x v vl vu l u s3.heap.objs.size Q I4 r1 (Heap.IsSliceOf.new ..) pl pu q3
  show wpAny (model X.prog X.w) X.A (subscriptTail e (.Slice lo hi none p2) v (.ref s3.heap.objs.size)) (EP X pins σ Q) X.xe { s3 with heap := s3.heap.push { cls := .type "slice", data := .fields #[vl, vu, .none] } }
  exact tail_any (ops := [.ref s3.heap.objs.size, v]) ht hT hg (by with_unfolding_all rfl)
def cutV (xs : List V) (lo hi : Option Int) : List V := (xs.drop (HT.sIx xs.length 0 lo)).take (HT.sIx xs.length xs.length hi - HT.sIx xs.length 0 lo)
theorem cutV_length (xs : List V) (lo hi : Option Int) : (cutV xs lo hi).length ≤ xs.length := by
  unfold cutV
  rw [List.length_take, List.length_drop]
  omega
def rSlT (K : PySem.W.Frag) : V → Option Int → Option Int → Hp → VK → Prop := fun x lo hi H Q => ∃ a xs, x = .ref a ∧ SqT K H a xs ∧
  ¬ (HT.sIx xs.length 0 lo = 0 ∧ HT.sIx xs.length xs.length hi = xs.length) ∧ ∀ p, H p = none → Q (.ref p) (upd H p (.tup (cutV xs lo hi)))
theorem sl_tup : SlR X (rSlT X.K) := by
  intro pins s σ H x v vl vu lo hi sl Q I rx hs pl pu h
  obtain ⟨a, xs, rfl, hx, hw, q⟩ := h
  cases rx
  obtain ⟨its, r, ht, hz⟩ := I.tuple hx
  have hlen : its.toArray.size = xs.length := by rw [List.size_toArray]; exact r.length.symm
  refine ⟨"tuple", _, PyProof.Rows.slot_tuple_getitem.lookup, ht.typeIs, ?_⟩
  refine HT.getItem_tuple_cut ht hs pl pu (by rw [hlen]; exact hw) ?_ (by rw [hlen]; exact hz)
  rw [hlen]
  refine ⟨.ref s.heap.objs.size, _, I.laid (t' := s.toks) (o := .tup (cutV xs lo hi)) (fun b ob q => Heap.get?_push_of_some _ q) (Nat.le_refl _) ?_, rfl, q _ (I.hok.fresh (Nat.le_refl _))⟩
  exact ⟨Nat.le_trans (cutV_length xs lo hi) hz, _, (r.drop (HT.sIx xs.length 0 lo)).take (HT.sIx xs.length xs.length hi - HT.sIx xs.length 0 lo), IsTup.new _ _⟩
def rCatT (K : PySem.W.Frag) : R2 := fun x y H Q => ∃ a b xs ys, x = .ref a ∧ y = .ref b ∧ SqT K H a xs ∧ SqT K H b ys ∧ xs ≠ [] ∧ xs.length + ys.length ≤ sizeLine ∧
  (ys = [] → Q (.ref a) H) ∧ (ys ≠ [] → ∀ p, H p = none → Q (.ref p) (upd H p (.tup (xs ++ ys))))
theorem Vals.nil_iff {xs : List V} {us : List Value} (r : Vals xs us) : us = [] ↔ xs = [] := by
  cases r with
  | nil => simp
  | cons _ _ => simp
theorem op_catT : OpR X (binaryOp .Add) (rCatT X.K) := by
  intro pins s σ H x y v u Q I rx ry h
  obtain ⟨a, b, xs, ys, rfl, rfl, ha, hb, hx, hz, q1, q2⟩ := h
  cases rx
  cases ry
  obtain ⟨its, r1, p1, _⟩ := I.tuple ha
  obtain ⟨its2, r2, p2, _⟩ := I.tuple hb
  refine HT.cat_tup p1 p2 (fun z => hx (r1.nil_iff.mp z)) (fun z => ⟨.ref a, H, I, rfl, q1 (r2.nil_iff.mp z)⟩) (fun z => ?_) (by rw [← r1.length, ← r2.length]; exact hz)
  refine ⟨.ref s.heap.objs.size, _, I.laid (t' := s.toks) (o := .tup (xs ++ ys)) (fun b ob q => Heap.get?_push_of_some _ q) (Nat.le_refl _) ?_, rfl, q2 (fun w => z (r2.nil_iff.mpr w)) _ (I.hok.fresh (Nat.le_refl _))⟩
  exact ⟨by rw [List.length_append]; exact hz, _, r1.append r2, IsTup.new _ _⟩
end
end L2
namespace L2
open PySem PySem.Spec PyProof.Rows
def ixN (n : Nat) (i : Int) : Option Nat := if 0 ≤ i then (if i < n then some i.toNat else none) else if -(n : Int) ≤ i then some (i + n).toNat else none
def atI {α : Type} (xs : List α) (i : Int) : Option α := (ixN xs.length i).bind fun j => xs[j]?
theorem ixN_seq {n : Nat} {i : Int} {j : Nat} (h : ixN n i = some j) : seqIndex? i n = some j ∧ j < n ∧ -(n : Int) ≤ i ∧ i < n := by
  unfold ixN at h
  by_cases h0 : 0 ≤ i
  · rw [if_pos h0] at h
    by_cases h1 : i < n
    · rw [if_pos h1] at h
      have e : i.toNat = j := Option.some.inj h
      exact ⟨by rw [seqIndex_of h0 h1, e], by omega, by omega, h1⟩
    · rw [if_neg h1] at h; cases h
  · rw [if_neg h0] at h
    by_cases h1 : -(n : Int) ≤ i
    · rw [if_pos h1] at h
      have e : (i + n).toNat = j := Option.some.inj h
      exact ⟨by rw [seqIndex_neg (by omega) h1, e], by omega, h1, by omega⟩
    · rw [if_neg h1] at h; cases h
theorem atI_get {α : Type} {xs : List α} {i : Int} {v : α} (h : atI xs i = some v) : ∃ j, seqIndex? i xs.length = some j ∧ xs[j]? = some v ∧ j < xs.length ∧ -(xs.length : Int) ≤ i ∧ i < xs.length := by
  unfold atI at h
  cases e : ixN xs.length i with
  | none => rw [e] at h; cases h
  | some j =>
    rw [e] at h
    obtain ⟨h1, h2, h3, h4⟩ := ixN_seq e
    exact ⟨j, h1, h, h2, h3, h4⟩
theorem atI_nat {α : Type} {xs : List α} {j : Nat} {v : α} (h : xs[j]? = some v) : atI xs (j : Int) = some v := by
  have hj : j < xs.length := (List.getElem?_eq_some_iff.mp h).1
  have e : ixN xs.length (j : Int) = some j := by
    unfold ixN
    rw [if_pos (by omega), if_pos (by omega)]; simp
  unfold atI; rw [e]; exact h
def PlainIx (b : Expr) : Prop := ∀ o i, subscripted b false o i = operate [o, i] (getItem o i)
def IxR (X : Cx) (r : R2) : Prop :=
  ∀ (value slice : Expr) (pins : List (Addr × Obj)) (s : Shared) (σ : St) (H : Hp) (x y : V) (v u : Value) (Q : VK), Inv X pins σ H s → RelV x v → RelV y u → r x y H Q →
    subscripted slice false v u = operate [v, u] (getItem v u) → wpAny (model X.prog X.w) X.A (subscriptTail value slice v u) (EP X pins σ Q) X.xe s
def MtR (X : Cx) (id : String) (r : V → List V → Hp → VK → Prop) : Prop :=
  ∀ (pins : List (Addr × Obj)) (s : Shared) (σ : St) (H : Hp) (x : V) (xs : List V) (v : Value) (us : List Value) (Q : VK), Inv X pins σ H s → RelV x v → Vals xs us → r x xs H Q →
    wpAny (model X.prog X.w) X.A (call (.builtin id) (v :: us)) (EP X pins σ Q) X.xe s
section
variable {X : Cx} {a b : Expr} {ta tb : TE} {pos : Pos}
theorem IxR.or {r r' : R2} (h : IxR X r) (h' : IxR X r') : IxR X (fun x y H Q => r x y H Q ∨ r' x y H Q) := by
  intro value slice pins s σ H x y v u Q I rx ry q hs
  rcases q with q | q
  · exact h value slice pins s σ H x y v u Q I rx ry q hs
  · exact h' value slice pins s σ H x y v u Q I rx ry q hs
theorem MtR.or {id : String} {r r' : V → List V → Hp → VK → Prop} (h : MtR X id r) (h' : MtR X id r') : MtR X id (fun x xs H Q => r x xs H Q ∨ r' x xs H Q) := by
  intro pins s σ H x xs v us Q I rx rs q
  rcases q with q | q
  · exact h pins s σ H x xs v us Q I rx rs q
  · exact h' pins s σ H x xs v us Q I rx rs q
theorem pe_ix {r : R2} (hr : IxR X r) (ha : PE X a ta) (hb : PE X b tb) (hs : PlainIx b) : PE X (.Subscript a b pos) (tOp r ta tb) := by
  intro pins s σ H Q I h
  exact Subscript_ (binT ha hb I h fun v u s2 x y H2 I2 rx ry q => hr a b pins s2 σ H2 x y v u Q I2 rx ry q (hs _ _))
def rIxL (K : PySem.W.Frag) : R2 := fun x y H Q => ∃ p xs i v, x = .ref p ∧ y = .int i ∧ SqL K H p xs ∧ atI xs i = some v ∧ Q v H
def rIxT (K : PySem.W.Frag) : R2 := fun x y H Q => ∃ p xs i v, x = .ref p ∧ y = .int i ∧ SqT K H p xs ∧ atI xs i = some v ∧ Q v H
def rIxS : R2 := fun x y H Q => ∃ z i c, x = .str z ∧ y = .int i ∧ z.length ≤ sizeLine ∧ atI z.cps.toList i = some c ∧ Q (.str ⟨#[c]⟩) H
theorem ix_list : IxR X (rIxL X.K) := by
  intro value slice pins s σ H x y v u Q I rx ry h hs
  obtain ⟨p, xs, i, z, rfl, rfl, hq, he, q⟩ := h
  cases rx
  obtain ⟨t, rfl⟩ := ry
  obtain ⟨its, r, pl, hz⟩ := I.list hq
  obtain ⟨j, h1, h2, h3, h4, h5⟩ := atI_get he
  obtain ⟨w, ew, rw'⟩ := r.get h2
  have hl := r.length
  have hn := line63
  have fin : EP X pins σ Q w s := ⟨z, H, I, rw', q⟩
  by_cases h0 : 0 ≤ i
  · have hj : i.toNat = j := by
      rw [seqIndex_of h0 h5] at h1
      exact Option.some.inj h1
    exact item_listR pl.isList h0 (by omega) (by rw [hj]; simpa using ew) fin hs
  · have hj : (i + (its.toArray.size : Int)).toNat = j := by
      rw [seqIndex_neg (by omega) h4] at h1
      rw [List.size_toArray, ← hl]
      exact Option.some.inj h1
    exact subscriptTail_builtinR (x := w) pl.isList.typeIs slot_list_getitem.lookup
      (wpAny_getItem_list_neg (Q := fun r s' => r = w ∧ EP X pins σ Q r s') pl.isList (by omega) (by rw [List.size_toArray] <;> omega) (by omega) (by rw [hj]; simpa using ew) ⟨rfl, fin⟩) hs
theorem ix_tup : IxR X (rIxT X.K) := by
  intro value slice pins s σ H x y v u Q I rx ry h hs
  obtain ⟨p, xs, i, z, rfl, rfl, hq, he, q⟩ := h
  cases rx
  obtain ⟨t, rfl⟩ := ry
  obtain ⟨its, r, pl, hz⟩ := I.tuple hq
  obtain ⟨j, h1, h2, h3, h4, h5⟩ := atI_get he
  obtain ⟨w, ew, rw'⟩ := r.get h2
  have hl := r.length
  have hn := line63
  have fin : EP X pins σ Q w s := ⟨z, H, I, rw', q⟩
  exact subscriptTail_builtinR (x := w) pl.typeIs slot_tuple_getitem.lookup
    (getItem_tuple (j := j) (Q := fun r s' => r = w ∧ EP X pins σ Q r s') pl (by omega) (by omega) (by rw [List.size_toArray, ← hl]; exact h1) (by simpa using ew) ⟨rfl, fin⟩) hs
theorem ix_str : IxR X rIxS := by
  intro value slice pins s σ H x y v u Q I rx ry h hs
  obtain ⟨z, i, c, rfl, rfl, hz, he, q⟩ := h
  obtain ⟨t, rfl⟩ := rx
  obtain ⟨t', rfl⟩ := ry
  obtain ⟨j, h1, h2, h3, h4, h5⟩ := atI_get he
  have hl : z.cps.toList.length = z.length := by simp [Str.length]
  rw [hl] at h1 h4 h5
  have hn := line63
  exact tail_any (typeIs_str s z t) slot_str_getitem.lookup (getItem_str (c := c) (by
    have e1 : decide (i < -(2 ^ 63 : Int)) = false := decide_eq_false (by omega)
    have e2 : decide (i ≥ 2 ^ 63) = false := decide_eq_false (by omega)
    rw [e1, e2, Bool.or_false]) (by rw [h1]; simpa using h2) ⟨.str ⟨#[c]⟩, H, I.tok _, ⟨_, rfl⟩, q⟩) hs
def rIx (K : PySem.W.Frag) : R2 := fun x y H Q => rIxL K x y H Q ∨ rIxT K x y H Q ∨ rIxS x y H Q
theorem ix_seq : IxR X (rIx X.K) := ix_list.or (ix_tup.or ix_str)
theorem mapSeq_set (its : List Value) (n j : Nat) (u : Value) : Obj.mapSeq (·.setIfInBounds j u) { cls := .type "list", data := .seq its.toArray n } = { cls := .type "list", data := .seq (its.set j u).toArray n } := by
  simp [Obj.mapSeq]
theorem Inv.lst {pins : List (Addr × Obj)} {σ : St} {H : Hp} {s : Shared} {p : Addr} {xs : List V} (I : Inv X pins σ H s) (h : H p = some (.lst xs)) :
    ∃ (its : List Value) (n : Nat), Vals xs its ∧ s.heap.get? p = some { cls := .type "list", data := .seq its.toArray n } ∧ xs.length ≤ sizeLine := by
  obtain ⟨z, its, n, r, e⟩ := I.hok p _ h
  exact ⟨its, n, r, e, z⟩
theorem Inv.lstUpd {pins : List (Addr × Obj)} {σ : St} {H : Hp} {s : Shared} {p : Addr} {xs ys : List V} {its its' : List Value} {n n' : Nat} {f : Obj → Obj} (I : Inv X pins σ H s) (h : H p = some (.lst xs))
    (ho : s.heap.get? p = some { cls := .type "list", data := .seq its.toArray n }) (hf : f { cls := .type "list", data := .seq its.toArray n } = { cls := .type "list", data := .seq its'.toArray n' }) (r : Vals ys its') (hz : ys.length ≤ sizeLine) (t : Nat) :
    Inv X pins σ (upd H p (.lst ys)) { s with heap := s.heap.update p f, toks := t } := by
  have e : (s.heap.update p f).get? p = some { cls := .type "list", data := .seq its'.toArray n' } := by
    rw [Heap.get?_update_self f ho (by rw [hf] <;> rfl), hf]
  refine I.write (x := p) (e := p) (by rw [h]; trivial) (.inl rfl) (fun b u hb q => (Heap.get?_update_other _ _ (Ne.symm hb)).trans q) ⟨_, e⟩ ?_
  exact ⟨hz, its', n', r, e⟩
def rSetL : V → V → V → Hp → (Hp → Prop) → Prop := fun o i v H Q => ∃ p xs k j, o = .ref p ∧ i = .int k ∧ H p = some (.lst xs) ∧ ixN xs.length k = some j ∧ Q (upd H p (.lst (xs.set j v)))
theorem set_list : PSet X rSetL := by
  intro pins s σ H o i v ov iv u Q I ro ri rv h
  obtain ⟨p, xs, k, j, rfl, rfl, hp, hj, q⟩ := h
  cases ro
  obtain ⟨t, rfl⟩ := ri
  obtain ⟨its, n, r, ho, hz⟩ := I.lst hp
  obtain ⟨h1, h2, h3, h4⟩ := ixN_seq hj
  have hl := r.length
  have hn := line63
  have I' : Inv X pins σ (upd H p (.lst (xs.set j v))) { s with heap := s.heap.update p (Obj.mapSeq (·.setIfInBounds j u)) } :=
    I.lstUpd hp ho (mapSeq_set its n j u) (r.set rv j) (by rw [List.length_set]; exact hz) s.toks
  by_cases h0 : 0 ≤ k
  · have hk : k.toNat = j := by
      rw [seqIndex_of h0 h4] at h1
      exact Option.some.inj h1
    exact PySem.W.ki_setAt ho h0 (by omega) (by rw [List.size_toArray, ← hl]; exact h4) (by rw [hk]; exact ⟨_, I', q⟩)
  · have hk : (k + (its.toArray.size : Int)).toNat = j := by
      rw [seqIndex_neg (by omega) h3] at h1
      rw [List.size_toArray, ← hl]
      exact Option.some.inj h1
    exact PySem.W.ki_setBack ho (by omega) (by rw [List.size_toArray, ← hl]; exact h3) (by omega) (by rw [hk]; exact ⟨_, I', q⟩)
theorem slice_bounds (lo hi : Option Int) (n : Nat) : (sliceBounds lo hi none n).1 = ((HT.sIx n 0 lo : Nat) : Int) ∧ (sliceBounds lo hi none n).2.1 = ((HT.sIx n n hi : Nat) : Int) ∧ (sliceBounds lo hi none n).2.2 = 1 := by
  refine ⟨?_, ?_, rfl⟩
  · cases lo with
    | none => simp [sliceBounds, HT.sIx]
    | some i =>
      simp only [sliceBounds, HT.sIx, Option.getD_none, show (1 : Int) > 0 by decide, if_true]
      by_cases h : i < 0
      · simp only [h, if_true] <;> omega
      · simp only [h, if_false] <;> omega
  · cases hi with
    | none => simp [sliceBounds, HT.sIx]
    | some i =>
      simp only [sliceBounds, HT.sIx, Option.getD_none, show (1 : Int) > 0 by decide, if_true]
      by_cases h : i < 0
      · simp only [h, if_true] <;> omega
      · simp only [h, if_false] <;> omega
theorem slicePick_cut (its : List Value) (lo hi : Option Int) : slicePick its.toArray lo hi none = ((its.drop (HT.sIx its.length 0 lo)).take (HT.sIx its.length its.length hi - HT.sIx its.length 0 lo)).toArray := by
  obtain ⟨h1, h2, h3⟩ := slice_bounds lo hi its.toArray.size
  unfold slicePick
  rw [h1, h2, h3]
  simp only [sliceRange_one, pick_run, List.size_toArray] <;> rfl
def rSlL (K : PySem.W.Frag) : V → Option Int → Option Int → Hp → VK → Prop := fun x lo hi H Q => ∃ a xs, x = .ref a ∧ SqL K H a xs ∧ ∀ p, H p = none → Q (.ref p) (upd H p (.lst (cutV xs lo hi)))
theorem sl_list : SlR X (rSlL X.K) := by
  intro pins s σ H x v vl vu lo hi sl Q I rx hs pl pu h
  obtain ⟨a, xs, rfl, hx, q⟩ := h
  cases rx
  obtain ⟨its, r, ht, hz⟩ := I.list hx
  have hlen := r.length
  refine ⟨"list", _, slot_list_getitem.lookup, ht.isList.typeIs, ?_⟩
  refine wpAny_getItem_list_slice ht.isList hs pl pu .none (by simp) ?_ (by rw [List.size_toArray] <;> omega)
  rw [slicePick_cut, ← hlen]
  refine ⟨.ref s.heap.objs.size, _, I.laid (t' := s.toks) (o := .lst (cutV xs lo hi)) (fun b ob q => Heap.get?_push_of_some _ q) (Nat.le_refl _) ?_, rfl, q _ (I.hok.fresh (Nat.le_refl _))⟩
  exact ⟨Nat.le_trans (cutV_length xs lo hi) hz, _, 0, (r.drop (HT.sIx xs.length 0 lo)).take (HT.sIx xs.length xs.length hi - HT.sIx xs.length 0 lo), Heap.get?_push_size _ rfl⟩
def flatV : V → Bool
  | .non => true
  | .bl _ => true
  | .int _ => true
  | .str _ => true
  | _ => false
def eqV : V → V → Bool
  | .non, .non => true
  | .bl a, .bl b => a == b
  | .bl a, .int b => (if a then 1 else 0) == b
  | .int a, .bl b => a == (if b then 1 else 0)
  | .int a, .int b => a == b
  | .str a, .str b => a == b
  | _, _ => false
theorem eqAt_V {A : Around} {s : Shared} {y x : V} {u v : Value} (ry : RelV y u) (rx : RelV x v) (fy : flatV y = true) (fx : flatV x = true) : SeqAt.EqAt A s u v (eqV y x) := by
  cases y with
  | non =>
    cases ry
    cases x with
    | non => cases rx; exact SeqAt.EqAt.same _
    | bl b => cases rx; exact SeqAt.EqAt.none_bool b
    | int b => obtain ⟨t, rfl⟩ := rx; exact SeqAt.EqAt.none_int b t
    | str b => obtain ⟨t, rfl⟩ := rx; exact SeqAt.EqAt.none_str b t
    | _ => exact absurd (show false = true from fx) Bool.false_ne_true
  | bl a =>
    cases ry
    cases x with
    | non => cases rx; exact SeqAt.EqAt.bool_none a
    | bl b => cases rx; exact SeqAt.EqAt.bool_bool a b
    | int b => obtain ⟨t, rfl⟩ := rx; exact SeqAt.EqAt.bool_int a b t
    | str b => obtain ⟨t, rfl⟩ := rx; exact SeqAt.EqAt.bool_str a b t
    | _ => exact absurd (show false = true from fx) Bool.false_ne_true
  | int a =>
    obtain ⟨t', rfl⟩ := ry
    cases x with
    | non => cases rx; exact SeqAt.EqAt.int_none a t'
    | bl b => cases rx; exact SeqAt.EqAt.int_bool a t' b
    | int b => obtain ⟨t, rfl⟩ := rx; exact SeqAt.EqAt.int_int a t' b t
    | str b => obtain ⟨t, rfl⟩ := rx; exact SeqAt.EqAt.int_str a t' b t
    | _ => exact absurd (show false = true from fx) Bool.false_ne_true
  | str a =>
    obtain ⟨t', rfl⟩ := ry
    cases x with
    | non => cases rx; exact SeqAt.EqAt.str_none a t'
    | bl b => cases rx; exact SeqAt.EqAt.str_bool a t' b
    | int b => obtain ⟨t, rfl⟩ := rx; exact SeqAt.EqAt.str_int a t' b t
    | str b => obtain ⟨t, rfl⟩ := rx; exact SeqAt.EqAt.str_str a t' b t
    | _ => exact absurd (show false = true from fx) Bool.false_ne_true
  | _ => exact absurd (show false = true from fy) Bool.false_ne_true
def eqU (x : V) (u : Value) : Bool := match u with
  | .none => eqV .non x
  | .bool b => eqV (.bl b) x
  | .int i _ => eqV (.int i) x
  | .str z _ => eqV (.str z) x
  | _ => false
theorem eqU_of {x y : V} {u : Value} (r : RelV y u) (f : flatV y = true) : eqU x u = eqV y x := by
  cases y with
  | non => cases r; rfl
  | bl b => cases r; rfl
  | int i => obtain ⟨t, rfl⟩ := r; rfl
  | str z => obtain ⟨t, rfl⟩ := r; rfl
  | _ => exact absurd (show false = true from f) Bool.false_ne_true
theorem any_eqU {x : V} : ∀ {xs : List V} {us : List Value}, Vals xs us → xs.all flatV = true → us.any (eqU x) = xs.any fun y => eqV y x
  | _, _, .nil, _ => rfl
  | y :: xs, u :: us, .cons r t, f => by
    rw [List.all_cons, Bool.and_eq_true] at f
    rw [List.any_cons, List.any_cons, eqU_of r f.1, any_eqU t f.2]
theorem mem_eqAt {A : Around} {s : Shared} {x : V} {v : Value} (rx : RelV x v) (fx : flatV x = true) : ∀ {xs : List V} {us : List Value}, Vals xs us → xs.all flatV = true → ∀ u ∈ us, SeqAt.EqAt A s u v (eqU x u)
  | _, _, .nil, _ => fun u hu => by cases hu
  | y :: xs, u :: us, .cons r t, f => fun u' hu => by
    rw [List.all_cons, Bool.and_eq_true] at f
    rcases List.mem_cons.mp hu with rfl | hu
    · rw [eqU_of r f.1]; exact eqAt_V r rx f.1 fx
    · exact mem_eqAt rx fx t f.2 u' hu
def inV (x : V) (xs : List V) : Bool := xs.any fun y => eqV y x
def rIn (K : PySem.W.Frag) (neg : Bool) : R2 := fun x y H Q => ∃ p xs, y = .ref p ∧ (SqL K H p xs ∨ SqT K H p xs) ∧ flatV x = true ∧ xs.all flatV = true ∧ Q (.bl (if neg then !inV x xs else inV x xs)) H
theorem op_in_seq : OpR X (compareOp .In) (rIn X.K false) := by
  intro pins s σ H x y v u Q I rx ry h
  obtain ⟨p, xs, rfl, hq, fx, fs, q⟩ := h
  cases ry
  rcases hq with hq | hq
  · obtain ⟨its, r, pl, hz⟩ := I.list hq
    refine SeqAt.in_listAt (eqU x) pl.isList (fun w hw => mem_eqAt rx fx r fs w (by simpa using hw)) ⟨.bl _, H, I, rfl, ?_⟩
    rw [show its.toArray.any (eqU x) = its.any (eqU x) by simp, any_eqU r fs]
    exact q
  · obtain ⟨its, r, pl, hz⟩ := I.tuple hq
    refine SeqAt.in_tupleAt (eqU x) pl (fun w hw => mem_eqAt rx fx r fs w (by simpa using hw)) ⟨.bl _, H, I, rfl, ?_⟩
    rw [show its.toArray.any (eqU x) = its.any (eqU x) by simp, any_eqU r fs]
    exact q
theorem op_notIn_seq : OpR X (compareOp .NotIn) (rIn X.K true) := by
  intro pins s σ H x y v u Q I rx ry h
  obtain ⟨p, xs, rfl, hq, fx, fs, q⟩ := h
  cases ry
  rcases hq with hq | hq
  · obtain ⟨its, r, pl, hz⟩ := I.list hq
    refine SeqAt.notIn_listAt (eqU x) pl.isList (fun w hw => mem_eqAt rx fx r fs w (by simpa using hw)) ⟨.bl _, H, I, rfl, ?_⟩
    rw [show its.toArray.any (eqU x) = its.any (eqU x) by simp, any_eqU r fs]
    exact q
  · obtain ⟨its, r, pl, hz⟩ := I.tuple hq
    refine SeqAt.notIn_tupleAt (eqU x) pl (fun w hw => mem_eqAt rx fx r fs w (by simpa using hw)) ⟨.bl _, H, I, rfl, ?_⟩
    rw [show its.toArray.any (eqU x) = its.any (eqU x) by simp, any_eqU r fs]
    exact q
theorem op_notIn_str : OpR X (compareOp .NotIn) (fun x y H Q => ∃ i j, x = .str i ∧ y = .str j ∧ Q (.bl (!(!(Builtin.Str.occurrences j i 0 j.length 1).isEmpty))) H) := by
  intro pins s σ H x y v u Q I rx ry h
  obtain ⟨i, j, rfl, rfl, q⟩ := h
  obtain ⟨t, rfl⟩ := rx
  obtain ⟨t', rfl⟩ := ry
  exact notIn_str ⟨.bl _, H, I, rfl, q⟩
theorem CallR.or {f : Value} {r r' : List V → Hp → VK → Prop} (h : CallR X f r) (h' : CallR X f r') : CallR X f (fun xs H Q => r xs H Q ∨ r' xs H Q) := by
  intro pins s σ H xs us Q I rs q
  rcases q with q | q
  · exact h pins s σ H xs us Q I rs q
  · exact h' pins s σ H xs us Q I rs q
theorem call_list_of : CallR X (.type "list") (fun xs H Q => ∃ p ys, xs = [.ref p] ∧ (SqL X.K H p ys ∨ SqT X.K H p ys) ∧ ∀ l, H l = none → Q (.ref l) (upd H l (.lst ys))) := by
  intro pins s σ H xs us Q I r h
  obtain ⟨p, ys, rfl, hq, q⟩ := h
  obtain ⟨u, rfl, rx⟩ := vals1 r
  cases rx
  have fin : ∀ (its : List Value), Vals ys its → ys.length ≤ sizeLine → ∀ (h' : Heap) (c' : Nat), (∀ b o', s.heap.get? b = some o' → h'.get? b = some o') →
      h'.get? s.heap.objs.size = some { cls := .type "list", dict := none, data := .seq its.toArray c', slots := #[] } → EP X pins σ Q (.ref s.heap.objs.size) { s with heap := h' } := fun its r' hz h' c' kp e =>
    ⟨.ref s.heap.objs.size, _, I.laid (t' := s.toks) kp (Nat.le_refl _) (show ObjOk X.prog X.w _ h' _ (.lst ys) from ⟨hz, its, c', r', e⟩), rfl, q _ (I.hok.fresh (Nat.le_refl _))⟩
  rcases hq with hq | hq
  · obtain ⟨its, r', pl, hz⟩ := I.list hq
    have hlen := r'.length
    obtain ⟨o, ho, hc, n, hd⟩ := pl.isList
    exact call_list_seq p (.inl rfl) ho hc hd (fun h' c' kp e => fin its r' hz h' c' kp e) (by simp only [List.size_toArray] <;> omega)
  · obtain ⟨its, r', pl, hz⟩ := I.tuple hq
    have hlen := r'.length
    obtain ⟨o, ho, hc, n, hd⟩ := pl
    exact call_list_seq p (.inr rfl) ho hc hd (fun h' c' kp e => fin its r' hz h' c' kp e) (by simp only [List.size_toArray] <;> omega)
theorem call_tuple_of : CallR X (.type "tuple") (fun xs H Q => ∃ p ys, xs = [.ref p] ∧ ((SqL X.K H p ys ∧ ∀ l, H l = none → Q (.ref l) (upd H l (.tup ys))) ∨ (SqT X.K H p ys ∧ Q (.ref p) H))) := by
  intro pins s σ H xs us Q I r h
  obtain ⟨p, ys, rfl, h⟩ := h
  obtain ⟨u, rfl, rx⟩ := vals1 r
  cases rx
  rcases h with ⟨hq, q⟩ | ⟨hq, q⟩
  · obtain ⟨its, r', pl, hz⟩ := I.list hq
    have hlen := r'.length
    refine call_tuple_list pl.isList (fun h' kp => ?_) (by simp only [List.size_toArray] <;> omega)
    have I1 : Inv X pins σ H { s with heap := h' } := I.kept (t' := s.toks) kp
    have I2 : Inv X pins σ (upd H h'.objs.size (.tup ys)) { s with heap := h'.push { cls := .type "tuple", data := .seq its.toArray } } :=
      I1.laid (t' := s.toks) (fun b o e => Heap.get?_push_of_some _ e) (Nat.le_refl _) (show ObjOk X.prog X.w _ _ _ (.tup ys) from ⟨hz, its, r', IsTup.new _ _⟩)
    exact ⟨.ref h'.objs.size, _, I2, rfl, q _ (I1.hok.fresh (Nat.le_refl _))⟩
  · obtain ⟨its, r', pl, hz⟩ := I.tuple hq
    exact call_tuple_same pl ⟨.ref p, H, I, rfl, q⟩
def tyV (K : PySem.W.Frag) (T : String) (x : V) (H : Hp) : Prop := match x with
  | .str _ => T = "str"
  | .int _ => T = "int"
  | .ref p => (T = "list" ∧ ∃ xs, SqL K H p xs) ∨ (T = "tuple" ∧ ∃ o, K.lookup p = some o ∧ o.cls = .type "tuple" ∧ o.dict = none) ∨
      (T = "dict" ∧ ((∃ kvs, H p = some (.dK kvs)) ∨ ∃ kvs, H p = some (.dT kvs))) ∨ (T = "set" ∧ ∃ S n, H p = some (.set S n))
  | _ => False
theorem tyV_is {pins : List (Addr × Obj)} {σ : St} {H : Hp} {s : Shared} {T : String} {x : V} {v : Value} (I : Inv X pins σ H s) (r : RelV x v) (ty : tyV X.K T x H) :
    s.TypeIs v T ∧ ∀ a, v = .ref a → ∃ ob, s.heap.get? a = some ob ∧ ob.dict = none := by
  cases x with
  | str z =>
    obtain ⟨t, rfl⟩ := r
    cases (show T = "str" from ty)
    exact ⟨typeIs_str s z t, fun _ e => nomatch e⟩
  | int i =>
    obtain ⟨t, rfl⟩ := r
    cases (show T = "int" from ty)
    exact ⟨typeIs_int s i t, fun _ e => nomatch e⟩
  | ref p =>
    cases r
    rcases ty with ⟨rfl, xs, hq⟩ | ⟨rfl, o, hk, hc, hd⟩ | ⟨rfl, hk⟩ | ⟨rfl, S, n, hk⟩
    · obtain ⟨its, _, pl, _⟩ := I.list hq
      refine ⟨pl.isList.typeIs, fun a e => ?_⟩
      cases e
      obtain ⟨o, n, e, c, hd, _⟩ := pl
      exact ⟨o, e, hd⟩
    · refine ⟨⟨o, I.kIn p o hk, hc⟩, fun a e => ?_⟩
      cases e
      exact ⟨o, I.kIn _ o hk, hd⟩
    · have z : ∃ o, s.heap.get? p = some o ∧ o.ExactDict := by
        rcases hk with ⟨kvs, hk⟩ | ⟨kvs, hk⟩
        · obtain ⟨_, _, _, _, o, _, _, e, ex, _⟩ := I.hok p _ hk
          exact ⟨o, e, ex⟩
        · obtain ⟨_, _, _, _, o, _, _, e, ex, _⟩ := I.hok p _ hk
          exact ⟨o, e, ex⟩
      obtain ⟨o, e, ex⟩ := z
      refine ⟨⟨o, e, ex.1⟩, fun a e2 => ?_⟩
      cases e2
      exact ⟨o, e, ex.2.1⟩
    · obtain ⟨o, _, _, _, e, ex, _⟩ := I.hok p _ hk
      refine ⟨⟨o, e, ex.1⟩, fun a e2 => ?_⟩
      cases e2
      exact ⟨o, e, ex.2.1⟩
  | _ => exact False.elim ty
def tBM0 (K : PySem.W.Frag) (T : String) (r : V → List V → Hp → VK → Prop) (to : TE) : TE := fun σ H Q => to σ H fun x H1 => tyV K T x H1 ∧ r x [] H1 Q
def tBM (K : PySem.W.Frag) (T : String) (r : V → List V → Hp → VK → Prop) (to : TE) (t : TA) : TE := fun σ H Q => to σ H fun x H1 => tyV K T x H1 ∧ t σ H1 fun xs H2 => r x xs H2 Q
variable {o e : Expr} {es : List Expr} {to : TE} {t : TA} {name : Str} {apos cpos : Pos} {T id : String} {r : V → List V → Hp → VK → Prop}
theorem pe_bm0 (pa : PlainAttrs T) (slot : Slot T name id) (hty : typeOf (.builtin id) = pure (.type "method_descriptor")) (hm : MtR X id r) (ho : PE X o to)
    (hbase : attributeBase o name X.env (eval o X.env) = eval o X.env := by rfl) (hline : (apos.endLine == cpos.line) = true := by rfl) : PE X (.Call (.Attribute o name apos) [] [] cpos) (tBM0 X.K T r to) := by
  intro pins s σ H Q I h
  refine wpAny_Call_method0_late hbase hline (thn (ho pins s σ H _ I h) fun v s1 ⟨x, H1, I1, r1, ty, q1⟩ => ?_)
  obtain ⟨h1, h2⟩ := tyV_is I1 r1 ty
  exact ⟨T, id, pa, slot, hty, h1, h2, Calls.callWith_builtin rfl (PySem.evalArgs_none (hm pins s1 σ H1 x [] v [] Q I1 r1 .nil q1))⟩
theorem pe_bm (pa : PlainAttrs T) (slot : Slot T name id) (hty : typeOf (.builtin id) = pure (.type "method_descriptor")) (hm : MtR X id r) (ho : PE X o to) (ha : PA X (e :: es) t)
    (hbase : attributeBase o name X.env (eval o X.env) = eval o X.env := by rfl)
    (hfew : ((backTo cpos (starEach (e :: es) X.env)).all (fun x => !x.1) && (backToKw cpos (keywordEach [] X.env)).all (fun x => x.1.isSome)
      && decide ((e :: es).length + ([] : List Keyword).length + (if ([] : List Keyword).isEmpty then 0 else 1) < 30)) = true := by rfl)
    (hline : (apos.endLine == cpos.line) = true := by rfl) (hs : starEach (e :: es) X.env = (false, eval e X.env) :: starEach es X.env := by rfl) (hplain : (backTo cpos (starEach es X.env)).any (·.1) = false := by rfl) :
    PE X (.Call (.Attribute o name apos) (e :: es) [] cpos) (tBM X.K T r to t) := by
  intro pins s σ H Q I h
  refine wpAny_Call_method_late hbase hfew hline rfl (thn (ho pins s σ H _ I h) fun v s1 ⟨x, H1, I1, r1, ty, q1⟩ => ?_)
  obtain ⟨h1, h2⟩ := tyV_is I1 r1 ty
  refine ⟨T, id, pa, slot, hty, h1, h2, ?_⟩
  have hA := ha cpos pins s1 σ H1 _ I1 q1
  rw [hs] at hA ⊢
  refine Calls.callWith_builtin (by show (false || (backTo cpos (starEach es X.env)).any (·.1)) = false; rw [hplain] <;> rfl) (Calls.evalArgs_plain ?_)
  exact thn hA fun us s2 ⟨vs, H2, I2, r2, q2⟩ => hm pins s2 σ H2 x vs v us Q I2 r1 r2 q2
end
end L2
namespace L2
open PySem PySem.Spec PyProof.Rows
def MtM (X : Cx) (id : String) (r : V → List V → Hp → VK → Prop) : Prop :=
  ∀ (pins : List (Addr × Obj)) (s : Shared) (σ : St) (H : Hp) (x : V) (xs : List V) (v : Value) (us : List Value) (Q : VK), Inv X pins σ H s → RelV x v → Vals xs us → r x xs H Q →
    wpAny (model X.prog X.w) X.A (call (.builtin id) (v :: us)) (EP X pins σ Q) X.xe s
theorem Vals.one : ∀ {x : V} {us : List Value}, Vals [x] us → ∃ u, us = [u] ∧ RelV x u
  | _, _, .cons r .nil => ⟨_, rfl, r⟩
theorem Vals.two : ∀ {x y : V} {us : List Value}, Vals [x, y] us → ∃ u v, us = [u, v] ∧ RelV x u ∧ RelV y v
  | _, _, _, .cons r (.cons q .nil) => ⟨_, _, rfl, r, q⟩
theorem Vals.zero : ∀ {us : List Value}, Vals [] us → us = []
  | _, .nil => rfl
theorem Vals.eraseIdx : ∀ {xs : List V} {us : List Value} (i : Nat), Vals xs us → Vals (xs.eraseIdx i) (us.eraseIdx i)
  | _, _, _, .nil => .nil
  | _, _, 0, .cons _ t => t
  | _, _, i + 1, .cons r t => .cons r (Vals.eraseIdx i t)
theorem Vals.reverse {xs : List V} {us : List Value} (h : Vals xs us) : Vals xs.reverse us.reverse := by
  induction h with
  | nil => exact .nil
  | cons r t ih => rw [List.reverse_cons, List.reverse_cons]; exact Vals.append ih (.cons r .nil)
theorem Vals.rep {xs : List V} {us : List Value} (h : Vals xs us) : ∀ k : Nat, Vals (List.replicate k xs).flatten (List.replicate k us).flatten
  | 0 => .nil
  | k + 1 => by
    rw [List.replicate_succ, List.replicate_succ, List.flatten_cons, List.flatten_cons]
    exact Vals.append h (Vals.rep h k)
theorem foldl_rep (its : List Value) : ∀ (k : Nat) (acc : List Value),
    List.foldl (fun x1 x2 => x1 ++ x2) acc.toArray (List.replicate k its.toArray) = (acc ++ (List.replicate k its).flatten).toArray
  | 0, acc => by simp
  | k + 1, acc => by
    have e : acc.toArray ++ its.toArray = (acc ++ its).toArray := by simp
    have e2 : (acc ++ its) ++ (List.replicate k its).flatten = acc ++ (List.replicate (k + 1) its).flatten := by
      rw [List.replicate_succ, List.flatten_cons, List.append_assoc]
    rw [← e2, ← foldl_rep its k (acc ++ its), ← e, List.replicate_succ, List.foldl_cons]
section
variable {X : Cx} {pins : List (Addr × Obj)} {σ : St} {H : Hp} {s : Shared} {l b : Addr} {xs ys zs : List V}
theorem Inv.lset {its its' : List Value} {n : Nat} {f : Array Value → Array Value} {t' : Nat} (I : Inv X pins σ H s) (hH : H l = some (.lst xs))
    (e : s.heap.get? l = some { cls := .type "list", data := .seq its.toArray n }) (hf : f its.toArray = its'.toArray) (hv : Vals ys its') (hz : ys.length ≤ sizeLine) :
    Inv X pins σ (upd H l (.lst ys)) { s with heap := s.heap.update l (Obj.mapSeq f), toks := t' } := by
  have q := PySem.IsL.update e f
  rw [hf] at q
  refine I.write (x := l) (e := l) (by rw [hH]; exact trivial) (.inl rfl) (fun b' u hb hu => (Heap.get?_update_other s.heap (Obj.mapSeq f) (Ne.symm hb)).trans hu) ⟨_, q⟩ ?_
  exact ⟨hz, its', _, hv, q⟩
theorem Inv.lnew {its : List Value} {t' : Nat} (I : Inv X pins σ H s) (hv : Vals ys its) (hz : ys.length ≤ sizeLine) :
    Inv X pins σ (upd H s.heap.objs.size (.lst ys)) { s with heap := s.heap.push { cls := .type "list", data := .seq its.toArray }, toks := t' } :=
  I.laid (fun _ _ q => Heap.get?_push_of_some _ q) (Nat.le_refl _) ⟨hz, its, 0, hv, Heap.get?_push_size _ rfl⟩
theorem Inv.fresh (I : Inv X pins σ H s) : H s.heap.objs.size = none := I.hok.fresh (Nat.le_refl _)
theorem Inv.lstM (I : Inv X pins σ H s) (hH : H l = some (.lst xs)) : xs.length ≤ sizeLine ∧ ∃ (its : List Value) (n : Nat), Vals xs its ∧ xs.length = its.length ∧ s.heap.get? l = some { cls := .type "list", data := .seq its.toArray n } := by
  obtain ⟨z, its, n, r, e⟩ := I.hok l _ hH
  exact ⟨z, its, n, r, r.length, e⟩
theorem notLongL {n : Nat} (h : n ≤ sizeLine) : Builtin.List.listTooLong n = false := by
  unfold Builtin.List.listTooLong
  exact decide_eq_false (by omega)
end
section
variable {X : Cx}
def rAppend : V → List V → Hp → VK → Prop := fun x vs H Q => ∃ l xs y, x = .ref l ∧ vs = [y] ∧ H l = some (.lst xs) ∧ xs.length < sizeLine ∧ Q .non (upd H l (.lst (xs ++ [y])))
theorem mt_append : MtM X "list.append" rAppend := by
  intro pins s σ H x vs v us Q I rx rv h
  obtain ⟨l, xs, y, rfl, rfl, hH, hz, q⟩ := h
  cases rx
  obtain ⟨u, rfl, ru⟩ := rv.one
  obtain ⟨z, its, n, r, hl, e⟩ := I.lstM hH
  refine call_meets F.slot_list_append ⟨_, e, rfl⟩ F.entry_list_append (F.args_list_append_2 _ _) (PySem.list_append l its.toArray n u (by rw [List.size_toArray]; omega)) ⟨e, ?_⟩
  refine ⟨.non, _, I.lset (its' := its ++ [u]) hH e (by simp) (r.append (.cons ru .nil)) ?_, rfl, q⟩
  rw [List.length_append, List.length_singleton]
  omega
def rExtend : V → List V → Hp → VK → Prop := fun x vs H Q => ∃ l b xs zs, x = .ref l ∧ vs = [.ref b] ∧ H l = some (.lst xs) ∧ H b = some (.lst zs) ∧ xs.length + zs.length ≤ sizeLine ∧ Q .non (upd H l (.lst (xs ++ zs)))
theorem mt_extend : MtM X "list.extend" rExtend := by
  intro pins s σ H x vs v us Q I rx rv h
  obtain ⟨l, b, xs, zs, rfl, rfl, hH, hB, hz, q⟩ := h
  cases rx
  obtain ⟨u, rfl, ru⟩ := rv.one
  cases ru
  obtain ⟨z, its, n, r, hl, e⟩ := I.lstM hH
  obtain ⟨z2, its2, n2, r2, hl2, e2⟩ := I.lstM hB
  have hsz : its.toArray.size + its2.toArray.size ≤ sizeLine := by rw [List.size_toArray, List.size_toArray]; omega
  have hlong : ¬ (!its.toArray.isEmpty && Builtin.List.listTooLong (its.toArray.size + its2.toArray.size)) = true := by
    rw [notLongL hsz, Bool.and_false]
    exact Bool.false_ne_true
  refine call_meets F.slot_list_extend ⟨_, e, rfl⟩ F.entry_list_extend (F.args_list_extend_2 _ _)
    (AutoSeq1.list_extend_list_list_0 l its.toArray n b its2.toArray n2 hlong (by rw [List.size_toArray]; omega) (by omega)) ⟨e, e2, ?_⟩
  refine ⟨.non, _, I.lset (its' := its ++ its2) hH e (by simp) (r.append r2) ?_, rfl, q⟩
  rw [List.length_append]
  omega
def rCat : R2 := fun x y H Q => ∃ l b xs zs, x = .ref l ∧ y = .ref b ∧ H l = some (.lst xs) ∧ H b = some (.lst zs) ∧ xs.length + zs.length ≤ sizeLine ∧ ∀ p, H p = none → Q (.ref p) (upd H p (.lst (xs ++ zs)))
theorem op_cat : OpR X (binaryOp .Add) rCat := by
  intro pins s σ H x y v u Q I rx ry h
  obtain ⟨l, b, xs, zs, rfl, rfl, hH, hB, hz, q⟩ := h
  cases rx
  cases ry
  obtain ⟨z, its, n, r, hl, e⟩ := I.lstM hH
  obtain ⟨z2, its2, n2, r2, hl2, e2⟩ := I.lstM hB
  refine PySem.P.add_list e e2 ?_ (by rw [List.size_toArray, List.size_toArray]; omega)
  have ea : its.toArray ++ its2.toArray = (its ++ its2).toArray := by simp
  rw [ea]
  exact ⟨.ref _, _, I.lnew (t' := s.toks) (r.append r2) (by rw [List.length_append]; omega), rfl, q _ I.fresh⟩
def rRep : R2 := fun x y H Q => ∃ l k xs, x = .ref l ∧ y = .int k ∧ H l = some (.lst xs) ∧ -(2 ^ 63) ≤ k ∧ k < 2 ^ 63 ∧ xs.length * k.toNat ≤ sizeLine ∧
  ∀ p, H p = none → Q (.ref p) (upd H p (.lst (List.replicate k.toNat xs).flatten))
theorem len_rep {α : Type} (xs : List α) (k : Nat) : (List.replicate k xs).flatten.length = k * xs.length := by
  induction k with
  | zero => simp
  | succ k ih => rw [List.replicate_succ, List.flatten_cons, List.length_append, ih, Nat.succ_mul, Nat.add_comm]
theorem op_rep : OpR X (binaryOp .Mult) rRep := by
  intro pins s σ H x y v u Q I rx ry h
  obtain ⟨l, k, xs, rfl, rfl, hH, h1, h2, hz, q⟩ := h
  cases rx
  obtain ⟨t, rfl⟩ := ry
  obtain ⟨z, its, n, r, hl, e⟩ := I.lstM hH
  have hlen : its.toArray.size * k.toNat ≤ sizeLine := by rw [List.size_toArray, ← hl]; exact hz
  have hcap : ¬ its.toArray.size * k.toNat > (2 ^ 63 - 1) / 8 := by
    have : (sizeLine : Nat) ≤ (2 ^ 63 - 1) / 8 := by decide
    omega
  have hfit : ¬ (!Builtin.List.listFitsIndex k) = true := by
    rw [fitsIndex_both h1 h2]
    exact Bool.false_ne_true
  have hlong : ¬ Builtin.List.listTooLong (its.toArray.size * k.toNat) = true := by
    rw [notLongL hlen]
    exact Bool.false_ne_true
  have hnew : List.foldl (fun x1 x2 => x1 ++ x2) #[] (List.replicate (if its.toArray.isEmpty = true then 0 else k.toNat) its.toArray) = (List.replicate k.toNat its).flatten.toArray := by
    have f0 : ∀ m : Nat, List.foldl (fun x1 x2 => x1 ++ x2) #[] (List.replicate m its.toArray) = (List.replicate m its).flatten.toArray := fun m => by
      have := foldl_rep its m []
      rw [List.nil_append] at this
      exact this
    rw [f0]
    cases its with
    | nil => simp
    | cons a r' => rw [if_neg (by simp)]
  refine wpAny_binaryOp_repeat_ref (T := "list") (U := "int") (by decide) ⟨_, e, rfl⟩ (fun s' => typeIs_int s' k t) noFill_list_mul F.fills_int_mul F.slot_int_rmul repeat_list F.slot_int_index.lookup
    (call_meets F.slot_int_rmul (typeIs_int s k t) F.entry_int_rmul (F.args_int_rmul_2 _ _) (int___rmul___int_list k t l its.toArray n)
      ⟨e, rfl, ⟨_, e, rfl⟩, call_meets F.slot_list_mul ⟨_, e, rfl⟩ F.entry_list_mul (F.args_list_mul_2 _ _) (AutoListH.list___mul___list_int_3 l its.toArray n k t hfit hcap hlong) ⟨e, ?_⟩⟩)
  rw [hnew]
  exact ⟨.ref _, _, I.lnew (t' := s.toks) (r.rep k.toNat) (by rw [len_rep, Nat.mul_comm]; exact hz), rfl, q _ I.fresh⟩
end
section
variable {prog : Program} {w : World} {A : Around} {E : Value → Shared → Prop} {s : Shared}
end
section
variable {X : Cx}
end
end L2
namespace Att
open PySem PySem.W PySem.Calls PyProof.Rows
theorem ints_of_wellAll {P : Params} {h : Heap} : ∀ (ns : List Int) (vs : List Value), WellAll P h vs (ns.map WData.int) → IntsAre vs ns := by
  intro ns
  induction ns with
  | nil =>
    intro vs w
    rw [List.map_nil] at w
    cases w
    exact .nil
  | cons n ns ih =>
    intro vs w
    rw [List.map_cons] at w
    cases w with
    | cons a b =>
      cases a
      exact .cons _ _ (ih _ b)
theorem script_of {l : OpenLaw} {n : Nat} (hn : l.most = some n) {P : Params} {h : Heap} {args : List WData} {vals : List Value}
    (hpre : l.row.toRowW.claim.pre args = true) (hwl : WellAll P h vals args) :
    ∃ a vs ns, vals = [Value.ref a] ∧ args = [WData.list (ns.map WData.int)] ∧ h.get? a = some { cls := .type "list", data := .seq vs.toArray } ∧ IntsAre vs ns ∧ ns.length ≤ n := by
  have hsh : WShape.hasAll [] args [.list .int] = true := (pre_splitW hpre).1
  have hc : l.pre.holds [] { args := args } = true := (pre_splitW hpre).2
  obtain ⟨d, r, rfl, h1, h2⟩ := hasAllW_cons hsh
  obtain rfl := hasAllW_nil h2
  obtain ⟨xs, rfl, h3⟩ := hasW_list h1
  obtain ⟨ns, rfl⟩ := items_int h3
  have hlen : ns.length ≤ n := by
    unfold OpenLaw.pre at hc
    have h4 : (WTm.not (.lt (.lit (.int (n : Int))) (.len (.arg 0)))).holds [] { args := [.list (ns.map .int)] } = true := by
      have h4 := (holds_andW hc).1
      rw [hn] at h4
      exact h4
    have h5 := condW_of h4 (w_not (w_lt w_lit (w_len_list (w_arg rfl))))
    rw [List.length_map] at h5
    refine Nat.le_of_not_lt fun q => ?_
    have q' : (n : Int) < ((ns.length : Nat) : Int) := by omega
    first
      | (rw [decide_eq_true q'] at h5; exact absurd h5 (by decide))
      | (simp at h5; omega)
  cases hwl with
  | cons w1 w2 =>
    cases w2
    cases w1 with
    | list ho hall => exact ⟨_, _, ns, rfl, rfl, ho, ints_of_wellAll ns _ hall, hlen⟩
theorem post_true (l : OpenLaw) (args : List WData) : l.row.toRowW.claim.post args (.bool true) args = true :=
  postW_of (r := l.row.toRowW) (X := (true == true))
    (show WShape.has [] (.bool true) .bool = true by first | rfl | decide | simp [WShape.has, WShape.arms, WShape.armsAll])
    (show (WTm.eq .res (.lit (.bool true))).value [] { args := args, res := some (.bool true), after := args } = some (.bool (true == true)) from w_eq_bool (w_res rfl) w_lit) rfl
theorem attach_call {l : OpenLaw} {n : Nat} {q : Program} {loose : List Str} {XP : (Str → Option Value) → Heap → Prop} {YP : World → Heap → Prop} {d : DefRec}
    (hn : l.most = some n) (hdf : d.params.defaults = [])
    (call : ∀ (w : World) (s₀ s₁ : Shared) (mg mb : Str → Option Value) (fa : Addr) (o : Obj) (pm cd doc : Value) (a : Addr) (vs : List Value) (ns : List Int),
      Ground q loose [] XP w s₀ mg mb s₁.heap → YP w s₁.heap →
      s₁.heap.get? fa = some o → o.data = .func (docDef d.name d.params d.body d.scope pm cd doc) → s₁.heap.CodeRec cd d.name → mg d.name = some (.ref fa) →
      s₁.heap.get? a = some { cls := .type "list", data := .seq vs.toArray } → IntsAre vs ns → ns.length ≤ n → s₁.gens = #[] →
      codeAny (model l.prog w) callerA (.call (.ref fa) ⟨[.ref a], []⟩) (fun r s' => r = .ok (.ret (.bool true)) ∧ OldK s₁.heap s'.heap ∧ s'.os = s₁.os ∧ AllBare s'.gens) s₁) :
    WalkO q loose XP YP l.row.toRowW d [] (fun f vs => PySem.call f vs) := by
  intro w s₀ s₁ mg mb G Y fa o pm cd doc dV kV ho hd hcd hD hmg hg args vals as hpre hlay hrd hwl hlo
  obtain rfl : dV = .none := Dflts.none hD hdf
  obtain rfl : kV = .none := Dflts.noKw hD
  obtain ⟨a, vs, ns, rfl, rfl, hobj, hints, hlen⟩ := script_of hn hpre hwl
  refine enter_call (codeAny_mono (call w s₀ s₁ mg mb fa o pm cd doc a vs ns G Y ho (fd_plain hd) hcd hmg hobj hints hlen hg) fun r s' hq => ?_)
  obtain ⟨rfl, h2, h3, h4⟩ := hq
  exact ⟨.inl ⟨.bool true, .bool true, [], rfl, fun _ => rfl, .bool true, post_true l _, fun _ => ⟨List.Pairwise.nil, fun _ hm => (nomatch hm)⟩⟩, h2, h3, h4⟩
section
variable {prog : Program} {w : World} {A : Around} {E : Value → Shared → Prop} {s : Shared} {K : Frag}
end
end Att
namespace L2
open PySem PySem.Spec PyProof.Rows
theorem vals_ints : ∀ {vs : List Value} {ns : List Int}, IntsAre vs ns → Vals (ns.map V.int) vs
  | _, _, .nil => .nil
  | _, _, .cons n t h => .cons ⟨t, rfl⟩ (vals_ints h)
def Only (H : Hp) : Prop := ∀ b, H b = none ∨ ∃ o xs, H b = some (.frz o (.lst xs))
theorem law_call {P : Program} {w : World} {K : PySem.W.Frag} {mg mb : Str → Option Value} {CX : CXT} {k : Nat} {fa a : Addr} {fd : FuncData} {x : Str} {sp : Sp} {s₁ : Shared} {vs : List Value} {ns : List Int}
    (KX : K.In s₁.heap) (hns : s₁.heap.Ns mainGlobals mg) (hb : s₁.heap.Ns builtinsNs mb) (hbb : ∀ x : Str, x ≠ "__name__" → mb x = bootBuiltins x) (hlim : s₁.heap.NoLimit) (hg : s₁.gens = #[])
    (ha : s₁.heap.get? a = some { cls := .type "list", data := .seq vs.toArray }) (hi : IntsAre vs ns) (hl : ns.length ≤ sizeLine) (hr : Room k callerA)
    (F : ∀ base : Heap, K.In base → base.Ns mainGlobals mg → FnOk P w K mg base CX k fa fd [x] sp) (hbind : ∀ (s : Shared) (u : Value), BindsTo s fd ⟨[u], []⟩ [(x, u)])
    (hsp : ∀ H : Hp, Only H → SqL K H a (ns.map V.int) → sp [.ref a] H (fun v _ => v = .bl true) fun _ _ _ => False)
    (hCX : ∀ H e s', CX [] H s₁ (fun _ _ _ => False) e s' → False) :
    codeAny (model P w) callerA (.call (.ref fa) ⟨[.ref a], []⟩) (fun r s' => r = .ok (.ret (.bool true)) ∧ OldK s₁.heap s'.heap ∧ s'.os = s₁.os ∧ AllBare s'.gens) s₁ := by
  have rv := vals_ints hi
  have lenV := hi.length
  have core : ∀ H : Hp, Only H → SqL K H a (ns.map V.int) → HOk P w H s₁.heap → (∀ b, H b ≠ none → b = a) → (H a ≠ none → K.lookup a = none) →
      codeAny (model P w) callerA (.call (.ref fa) ⟨[.ref a], []⟩) (fun r s' => r = .ok (.ret (.bool true)) ∧ OldK s₁.heap s'.heap ∧ s'.os = s₁.os ∧ AllBare s'.gens) s₁ := by
    intro H hO hS hok hA hK
    have base_of : ∀ {b : Addr} {o : Obj}, s₁.heap.get? b = some o → H b = none → (hidT s₁.heap H).get? b = some o := fun e n => hidT_get e n
    have noA : ∀ {b : Addr} {o : Obj} {es : Array DictEntry} {ep : Nat}, s₁.heap.get? b = some o → o.data = .dict es ep → H b = none := fun {b o es ep} e d => by
      cases q : H b with
      | none => rfl
      | some u =>
        have e' : b = a := hA b (by rw [q]; simp)
        subst e'
        rw [ha] at e; cases e
        have d' : Data.seq vs.toArray _ = Data.dict es ep := d
        cases d'
    have nsK : ∀ {b : Addr} {m : Str → Option Value}, s₁.heap.Ns b m → (hidT s₁.heap H).Ns b m := fun {b m} ⟨o, es, ep, e, d, r⟩ => ⟨o, es, ep, base_of e (noA e d), d, r⟩
    have hKb : K.In (hidT s₁.heap H) := fun b o e => base_of (KX b o e) (by
      cases q : H b with
      | none => rfl
      | some u =>
        have e' : b = a := hA b (by rw [q]; simp)
        subst e'
        rw [hK (by rw [q]; simp)] at e; cases e)
    have hM : Mod K mg (hidT s₁.heap H) := ⟨hKb, nsK hns, ⟨mb, nsK hb, hbb⟩, let ⟨mc, h1, h2⟩ := hlim; ⟨mc, nsK h1, h2⟩⟩
    have e0 : Env0 P w K mg (hidT s₁.heap H) callerA [] s₁ H := ⟨rfl, hM, fun b o e => of_hidT e, Nat.le_of_eq (hidT_size _ _), trivial, fun b hb => absurd (show b ∈ ([] : List Addr) from hb) (by simp), hok, .of_eq hg⟩
    refine codeAny_mono ((F _ hKb (nsK hns)).run callerA [] s₁ H ⟨[.ref a], []⟩ [.ref a] [.ref a] _ _ hr e0 (hbind s₁ (.ref a)) (.cons rfl .nil) (hsp H hO hS)) fun r s' h => ?_
    cases r with
    | error e => exact (hCX H e s' h).elim
    | ok fl =>
      cases fl with
      | next => exact False.elim h
      | brk => exact False.elim h
      | cont => exact False.elim h
      | ret u =>
        obtain ⟨v, H', os, bare, un, hok', r', q⟩ := h
        have q' : v = .bl true := q
        subst q'
        obtain rfl : u = Value.bool true := r'
        refine ⟨rfl, OldK.of_keep fun b o e => ?_, os, bare⟩
        cases q : H b with
        | none => exact un.keep b o e q (by intro z; exact absurd (show b ∈ ([] : List Addr) from z) (by simp)) (by simp)
        | some u =>
          rcases hO b with z | ⟨ob, xs, z⟩
          · rw [q] at z; cases z
          · have z2 := un.frzs b ob _ z
            obtain ⟨e1, _⟩ := hok b _ z
            obtain ⟨e2, _⟩ := hok' b _ z2
            rw [e] at e1; cases e1
            exact e2
  cases hk : K.lookup a with
  | some o =>
    have e := KX a o hk
    rw [ha] at e
    cases e
    refine core (fun _ => none) (fun _ => .inl rfl) (.inr ⟨_, vs.toArray, _, hk, rfl, rfl, rfl, by rw [List.size_toArray, lenV]; exact hl, by simpa using rv⟩) (fun b u z => by have z' : (none : Option HO) = some u := z; cases z') (fun b z => absurd rfl z) fun z => absurd rfl z
  | none =>
    refine core (fun b => if b = a then some (.frz { cls := .type "list", data := .seq vs.toArray } (.lst (ns.map V.int))) else none) (fun b => ?_) (.inl (.inr ⟨{ cls := .type "list", data := .seq vs.toArray }, if_pos rfl⟩)) (fun b u z => ?_) (fun b z => ?_) fun _ => hk
    · by_cases hb : b = a
      · exact .inr ⟨_, _, if_pos hb⟩
      · exact .inl (if_neg hb)
    · by_cases hb : b = a
      · have z' := (if_pos hb).symm.trans z
        cases z'
        subst hb
        exact ⟨ha, by rw [List.length_map]; exact hl, vs, _, rv, ha⟩
      · have z' := (if_neg hb).symm.trans z
        cases z'
    · by_cases hb : b = a
      · exact hb
      · exact absurd (if_neg hb) z
end L2
namespace L2
open PySem PySem.Spec PyProof.Rows
theorem walk_of {l : PySem.W.OpenLaw} {n k : Nat} {q : Program} {loose : List Str} {XP : (Str → Option Value) → Heap → Prop} {YP : World → Heap → Prop} {d : DefRec} {K : Params → PySem.W.Frag} {CX : World → CXT} {sp : World → Sp} {x : Str}
    (hn : l.most = some n) (hn2 : n ≤ sizeLine) (hdf : d.params.defaults = []) (hr : Room k callerA)
    (hY : ∀ (w : World) (h : Heap), YP w h → (K w.params).In h)
    (F : ∀ (w : World) (mg : Str → Option Value) (fa : Addr) (h : Heap), (K w.params).In h → h.Ns mainGlobals mg → mg d.name = some (.ref fa) →
      ∃ fd : FuncData, (∀ (s : Shared) (u : Value), BindsTo s fd ⟨[u], []⟩ [(x, u)]) ∧
        ∀ base : Heap, (K w.params).In base → base.Ns mainGlobals mg → FnOk l.prog w (K w.params) mg base (CX w) k fa fd [x] (sp w))
    (hsp : ∀ (w : World) (H : Hp) (a : Addr) (ns : List Int), ns.length ≤ n → Only H → SqL (K w.params) H a (ns.map V.int) → sp w [.ref a] H (fun v _ => v = .bl true) fun _ _ _ => False)
    (hCX : ∀ (w : World) (H : Hp) (s : Shared) (e : Value) (s' : Shared), CX w [] H s (fun _ _ _ => False) e s' → False) :
    PySem.W.WalkO q loose XP YP l.row.toRowW d [] (fun f vs => PySem.call f vs) := by
  refine Att.attach_call hn hdf fun w s₀ s₁ mg mb fa o pm cd doc a vs ns G Y ho hd hcd hmg hobj hints hlen hg => ?_
  have KX := hY w _ Y
  obtain ⟨fd, hb, hF⟩ := F w mg fa _ KX G.T.g hmg
  exact law_call KX G.T.g G.T.b G.T.builtins G.T.nolimit hg hobj hints (Nat.le_trans hlen hn2) hr hF hb (fun H hO hS => hsp w H a ns hlen hO hS) fun H e s' => hCX w H s₁ e s'
end L2
namespace L2
open PySem PySem.Spec PyProof.Rows
def defArgs (s : Stmt) : Arguments := match s with
  | .FunctionDef _ a _ _ _ _ _ _ _ _ => a
  | _ => { posonlyargs := [], args := [], vararg := none, kwonlyargs := [], kw_defaults := [], kwarg := none, defaults := [] }
def defBody (s : Stmt) : List Stmt := match s with
  | .FunctionDef _ _ b _ _ _ _ _ _ _ => b
  | _ => []
def defScope (s : Stmt) : Scope := match s with
  | .FunctionDef _ _ _ _ _ _ sc _ _ _ => sc
  | _ => { kind := .function, names := [], isGenerator := false, isCoroutine := false }
abbrev CX0 : CXT := fun _ _ _ _ _ _ => False
abbrev E0 : XK := fun _ _ _ => False
theorem pass0 {X : Cx} : Passes CX0 X E0 := fun _ _ _ _ _ _ _ h => h.elim
structure Fun (K : PySem.W.Frag) (x qual : Str) (st : Stmt) (f : Addr) (fd : FuncData) : Prop where
  ex : ∃ (oc : Value) (od : Option Addr) (kV doc pm : Value) (an : Option Addr) (cdv ct : Value) (osl : Array (Option Value)),
    fd = PySem.W.fnOf x qual (defArgs st) (defBody st) (defScope st) .none kV doc pm an cdv ct ∧ K.lookup f = some ⟨oc, od, .func fd, osl⟩ ∧ PySem.W.codeIn K cdv qual = true
  kp : PySem.W.keepIn K (.ref f) = true
section
variable {P : Program} {w : World} {K : PySem.W.Frag} {mg : Str → Option Value} {base : Heap}
theorem Fun.ok {x qual : Str} {st : Stmt} {f : Addr} {fd : FuncData} {N ps : List Str} {k : Nat} {sp : Sp} (F : Fun K x qual st f fd) (S : FnScope N ps (defScope st)) (len : ∀ vs H Q E, sp vs H Q E → vs.length = ps.length)
    (hbody : ∀ (cdv : Value) (A : Around) (outer : List Env) (s : Shared) (H : Hp) (vs : List V) (Q : VK) (E : XK), Room k (A.deeper (envOfC qual (defScope st) s.heap.objs.size f cdv)) → sp vs H Q E →
      ∃ t, PSs (cxOf CX0 P w K mg base N qual (defScope st) f cdv A outer s H E).nox (defBody st) t ∧ t { nx := fun _ H' => Q .non H', rt := Q } (start N vs) H) : FnOk P w K mg base CX0 (k + 1) f fd ps sp := by
  obtain ⟨oc, od, kV, doc, pm, an, cdv, ct, osl, rfl, lk, hcd⟩ := F.ex
  refine fn_of lk hcd S len fun A outer s H vs Q E hr hsp => ?_
  obtain ⟨t, h, q⟩ := hbody cdv A outer s H vs Q E hr hsp
  exact ⟨t, h.nox, q⟩
theorem Fun.binds {x qual : Str} {st : Stmt} {f : Addr} {fd : FuncData} {ps : List Str} (F : Fun K x qual st f fd)
    (h : ∀ (kV doc pm : Value) (an : Option Addr) (cdv ct : Value) (us : List Value), us.length = ps.length → bindArgs (PySem.W.fnOf x qual (defArgs st) (defBody st) (defScope st) .none kV doc pm an cdv ct) ⟨us, []⟩ = pure (ps.zip us)) : Binds K fd ps [] := by
  obtain ⟨oc, od, kV, doc, pm, an, cdv, ct, osl, rfl, lk, hcd⟩ := F.ex
  exact .all (h kV doc pm an cdv ct)
theorem fun_mk {x qual : Str} {st : Stmt} {f : Addr} {oc : Value} {od an : Option Addr} {osl : Array (Option Value)} {kV doc pm cdv ct : Value} (l : K.lookup f = some ⟨oc, od, .func (PySem.W.fnOf x qual (defArgs st) (defBody st) (defScope st) .none kV doc pm an cdv ct), osl⟩)
    (c : PySem.W.codeIn K cdv qual = true) (k : PySem.W.keepIn K (.ref f) = true) : Fun K x qual st f (PySem.W.fnOf x qual (defArgs st) (defBody st) (defScope st) .none kV doc pm an cdv ct) := ⟨⟨oc, od, kV, doc, pm, an, cdv, ct, osl, rfl, l, c⟩, k⟩
end
section
variable {X : Cx}
theorem pv (i : Nat) {x : Str} {pos : Pos} (hN : X.N[i]? = some x := by rfl) (hv : Vis X.env.scope x := by first | exact Or.inl rfl | exact Or.inr (Or.inl rfl) | exact Or.inr (Or.inr rfl)) (hd : (x == ("__debug__" : Str)) = false := by decide)
    (hcd : (x == ("__classdict__" : Str)) = false := by decide) : PE X (.Name x pos) (tVar i) := pe_var hN hv hd hcd
end
theorem iteF {A B : Prop} (h : B) : if false = true then A else B := by
  rw [if_neg Bool.false_ne_true]
  exact h
theorem iteT {A B : Prop} (h : A) : if true = true then A else B := by
  rw [if_pos rfl]
  exact h
theorem ite2 {c A B : Prop} [Decidable c] (h1 : c → A) (h2 : ¬ c → B) : if c then A else B := by
  by_cases h : c
  · rw [if_pos h]
    exact h1 h
  · rw [if_neg h]
    exact h2 h
def Same (H H' : Hp) : Prop := ∀ b o, H b = some o → H' b = some o
theorem Same.refl (H : Hp) : Same H H := fun _ _ h => h
theorem Same.trans {H H1 H2 : Hp} (a : Same H H1) (b : Same H1 H2) : Same H H2 := fun c o h => b c o (a c o h)
theorem Same.free {H H' : Hp} (e : Same H H') {l : Addr} (h : H' l = Option.none) : H l = Option.none := by
  cases q : H l with
  | none => rfl
  | some o =>
    rw [e l o q] at h
    cases h
theorem Same.seq {K : PySem.W.Frag} {H H' : Hp} {a : Addr} {xs : List V} (e : Same H H') (h : SqL K H a xs) : SqL K H' a xs := by
  rcases h with (h | ⟨o, h⟩) | h
  · exact .inl (.inl (e _ _ h))
  · exact .inl (.inr ⟨o, e _ _ h⟩)
  · exact .inr h
end L2
set_option Elab.async false
set_option linter.all false
set_option maxRecDepth 100000
set_option maxHeartbeats 4000000
namespace L2
open PySem PySem.Spec PyProof.Rows
theorem part_of {v : Value} {o : Option Int} (p : IsPart v o) : ∃ q : Option (Int × Tok), v = partValue q ∧ q.map (·.1) = o := by
  cases p with
  | none => exact ⟨none, rfl, rfl⟩
  | int i t => exact ⟨some (i, t), rfl, rfl⟩
def rSlS : V → Option Int → Option Int → Hp → VK → Prop := fun x lo hi H Q => ∃ z, x = .str z ∧ z.length ≤ sizeLine ∧ Q (.str (Txt.slice z lo hi)) H
theorem sl_str {X : Cx} : SlR X rSlS := by
  intro pins s σ H x v vl vu lo hi sl Q I rx hs pl pu h
  obtain ⟨z, rfl, hz, q⟩ := h
  obtain ⟨t, rfl⟩ := rx
  obtain ⟨ql, rfl, rfl⟩ := part_of pl
  obtain ⟨qu, rfl, rfl⟩ := part_of pu
  refine ⟨"str", _, F.slot_str_getitem.lookup, typeIs_str _ _ _, ?_⟩
  refine wpAny_getItem_str_slice (l := ql) (u := qu) (st := none) hs rfl ?_
  exact post_val_or_str ⟨Nat.le_trans (Txt.slice_le z _ _) hz, fun t' k => ⟨.str _, H, I.tok _, ⟨t', rfl⟩, q⟩⟩
def Its (x : Str) : It := ⟨fun i _ => i < x.cps.size, fun i H v H' => H' = H ∧ ∃ c, x.cps[i]? = some c ∧ v = .str ⟨#[c]⟩, fun i _ => x.cps.size ≤ i⟩
theorem turn_str {P : Program} {w : World} {K : PySem.W.Frag} {tg : Expr} (x : Str) (t : Tok) (it : Addr) (ty : String) (hty : ty = "str_ascii_iterator" ∨ ty = "str_iterator") :
    Turn P w K tg (Its x) [it] it (fun i h => h.IsStrIter it ty x t i) where
  mem := by simp
  obj := fun i h st b hb => by
    have e : b = it := by simpa using hb
    subst e
    obtain ⟨o, e, c, d⟩ := st
    exact ⟨o, e, fun v z => by rw [d] at z; cases z⟩
  keep := fun i h h' st k => by
    obtain ⟨o, e, r⟩ := st
    exact ⟨o, k it (by simp) o e, r⟩
  item := by
    intro X hP hw hK hc i pins s σ H E I hf st hg
    subst hP hw hK
    obtain ⟨f0, f1, f2, f3, f4, f5⟩ := hf it (by simp)
    have hg' : i < x.cps.size := hg
    have hx : x.cps[i]? = some x.cps[i] := by simp [hg']
    rcases hty with rfl | rfl
    · refine wpAny_pyNext_ascii_item st hx fun h' st' sb => ?_
      have I1 : Inv X pins σ H { s with heap := h', toks := s.toks + 1 } := I.turned (fun b o hb e => (sb.2 b hb).trans e) f0 f1 f3 f4 f5
      obtain ⟨o, e, c, d⟩ := id st'
      exact ⟨_, rfl, go_of (s := { s with heap := h', toks := s.toks + 1 }) e c d (by decide) ⟨.str ⟨#[x.cps[i]]⟩, H, I1, ⟨_, rfl⟩, ⟨rfl, _, hx, rfl⟩, st', fun b hb => (hf b hb).1⟩⟩
    · refine wpAny_pyNext_wide_item st hx fun h' st' sb => ?_
      have I1 : Inv X pins σ H { s with heap := h', toks := s.toks + 1 } := I.turned (fun b o hb e => (sb.2 b hb).trans e) f0 f1 f3 f4 f5
      obtain ⟨o, e, c, d⟩ := id st'
      exact ⟨_, rfl, go_of (s := { s with heap := h', toks := s.toks + 1 }) e c d (by decide) ⟨.str ⟨#[x.cps[i]]⟩, H, I1, ⟨_, rfl⟩, ⟨rfl, _, hx, rfl⟩, st', fun b hb => (hf b hb).1⟩⟩
  done := by
    intro X hP hw hK hc i pins s σ H E I hf st hg
    subst hP hw hK
    obtain ⟨f0, f1, f2, f3, f4, f5⟩ := hf it (by simp)
    have hx : x.cps[i]? = none := by
      have : x.cps.size ≤ i := hg
      simp [this]
    rcases hty with rfl | rfl
    · exact wpAny_pyNext_ascii_end (I.ok.hd hc) st hx fun h' eb => ⟨rfl, I.turned (t' := s.toks) (fun b o hb e => eb b o hb e) f0 f1 f3 f4 f5⟩
    · exact wpAny_pyNext_wide_end (I.ok.hd hc) st hx fun h' eb => ⟨rfl, I.turned (t' := s.toks) (fun b o hb e => eb b o hb e) f0 f1 f3 f4 f5⟩
  self := fun _ _ _ _ _ st h => by
    rcases hty with rfl | rfl
    · exact wpAny_pyIter_striter_ascii st h
    · exact wpAny_pyIter_striter_wide st h
theorem pi_str_at {X : Cx} {tg : Expr} {pins : List (Addr × Obj)} {σ : St} {H1 : Hp} {s1 : Shared} {R : It → Hp → Prop} {z : Str} {v : Value} {E : Value → Shared → Prop} (I1 : Inv X pins σ H1 s1) (r1 : RelV (.str z) v) (q : R (Its z) H1) :
    wpAny (model X.prog X.w) X.A (pyIter v) (PIE X pins σ tg R) E s1 := by
  obtain ⟨t, rfl⟩ := r1
  have fp : ∀ (b : Addr), b ∈ [s1.heap.objs.size] → FpOk X pins H1 b := fun b hb => by
    have e : b = s1.heap.objs.size := by simpa using hb
    subst e
    exact I1.fpOk (Nat.le_refl _) (I1.hok.fresh (Nat.le_refl _))
  cases ha : z.cps.all (· < 128)
  · refine wpAny_pyIter_wide ha ?_
    exact ⟨s1.heap.objs.size, [s1.heap.objs.size], _, _, H1, rfl, I1.kept (t' := s1.toks) fun b o e => Heap.get?_push_of_some _ e, turn_str z t _ "str_iterator" (.inr rfl), ⟨_, Heap.get?_push_size _ rfl, rfl, rfl⟩, fp, q⟩
  · refine wpAny_pyIter_ascii ha ?_
    exact ⟨s1.heap.objs.size, [s1.heap.objs.size], _, _, H1, rfl, I1.kept (t' := s1.toks) fun b o e => Heap.get?_push_of_some _ e, turn_str z t _ "str_ascii_iterator" (.inl rfl), ⟨_, Heap.get?_push_size _ rfl, rfl, rfl⟩, fp, q⟩
def clos (cells : List (Str × Addr)) : List (Str × NameKind) → List (Str × Addr) → List (Str × Addr)
  | [], acc => acc
  | (n, k) :: r, acc => if k == .free then clos cells r ((n, (cells.lookup n).getD 0) :: acc) else clos cells r acc
theorem closureFor_clos {scope : Scope} {env : Env} (h : ∀ y ∈ scope.names, y.2 = .free → ∃ c, env.cells.lookup y.1 = some c) : closureFor scope env = pure (clos env.cells scope.names []) := by
  have go : ∀ (names : List (Str × NameKind)) (acc : List (Str × Addr)), (∀ y ∈ names, y.2 = .free → ∃ c, env.cells.lookup y.1 = some c) →
      (forIn names acc fun (x : Str × NameKind) (r : List (Str × Addr)) => (if x.2 == NameKind.free then do let a ← cellOf env x.1; pure (ForInStep.yield ((x.1, a) :: r)) else pure (ForInStep.yield r) : Sem (ForInStep (List (Str × Addr))))) = pure (clos env.cells names acc) := by
    intro names
    induction names with
    | nil => intro acc _; rfl
    | cons x r ih =>
      intro acc hx
      obtain ⟨n, k⟩ := x
      rw [List.forIn_cons]
      have hr : ∀ y ∈ r, y.2 = .free → ∃ c, env.cells.lookup y.1 = some c := fun y hy => hx y (List.mem_cons_of_mem _ hy)
      by_cases hk : k = .free
      · subst hk
        obtain ⟨c, hc⟩ := hx (n, .free) List.mem_cons_self rfl
        have hc' : env.cells.lookup n = some c := hc
        have e : cellOf env n = pure c := by unfold cellOf; rw [hc']
        simp only [beq_self_eq_true, if_true, e, pure_bind]
        rw [ih _ hr]
        simp only [clos, beq_self_eq_true, if_true, hc', Option.getD_some]
      · have hb : (k == NameKind.free) = false := by simpa using hk
        simp only [hb, Bool.false_eq_true, if_false, pure_bind]
        rw [ih _ hr]
        simp only [clos, hb, Bool.false_eq_true, if_false]
  have := go scope.names [] h
  unfold closureFor
  first
    | (rw [this]; rfl)
    | (simp only [this, pure_bind]; rfl)
    | simpa using this
theorem clos_lookup {cells : List (Str × Addr)} : ∀ (names : List (Str × NameKind)) (acc : List (Str × Addr)) (y : Str) (c : Addr),
    (∀ z ∈ names, z.2 = .free → ∃ c, cells.lookup z.1 = some c) → (∀ d, acc.lookup y = some d → cells.lookup y = some d) → (clos cells names acc).lookup y = some c → cells.lookup y = some c
  | [], acc, y, c, _, ha, h => ha c h
  | (n, k) :: r, acc, y, c, hx, ha, h => by
    have hr : ∀ z ∈ r, z.2 = .free → ∃ c, cells.lookup z.1 = some c := fun z hz => hx z (List.mem_cons_of_mem _ hz)
    by_cases hk : k = .free
    · subst hk
      simp only [clos, beq_self_eq_true, if_true] at h
      refine clos_lookup r _ y c hr (fun d hd => ?_) h
      by_cases hy : y = n
      · subst hy
        obtain ⟨e, he⟩ := hx (y, .free) List.mem_cons_self rfl
        have he' : cells.lookup y = some e := he
        simp only [List.lookup_cons, beq_self_eq_true, he', Option.getD_some] at hd
        rw [he', hd]
      · have hb : (y == n) = false := by simpa using hy
        simp only [List.lookup_cons, hb] at hd
        exact ha d hd
    · have hb : (k == NameKind.free) = false := by simpa using hk
      simp only [clos, hb, Bool.false_eq_true, if_false] at h
      exact clos_lookup r acc y c hr ha h
theorem clos_keep {cells : List (Str × Addr)} : ∀ (names : List (Str × NameKind)) (acc : List (Str × Addr)) (y : Str), (∃ c, acc.lookup y = some c) → ∃ c, (clos cells names acc).lookup y = some c
  | [], _, _, h => h
  | (n, k) :: r, acc, y, h => by
    by_cases hk : k = .free
    · subst hk
      simp only [clos, beq_self_eq_true, if_true]
      refine clos_keep r _ y ?_
      by_cases hy : y = n
      · subst hy; exact ⟨(cells.lookup y).getD 0, by simp only [List.lookup_cons, beq_self_eq_true]⟩
      · have hb : (y == n) = false := by simpa using hy
        simp only [List.lookup_cons, hb]; exact h
    · have hb : (k == NameKind.free) = false := by simpa using hk
      simp only [clos, hb, Bool.false_eq_true, if_false]
      exact clos_keep r acc y h
theorem clos_has {cells : List (Str × Addr)} : ∀ (names : List (Str × NameKind)) (acc : List (Str × Addr)) (y : Str), (y, NameKind.free) ∈ names → ∃ c, (clos cells names acc).lookup y = some c
  | [], _, _, h => by simp at h
  | (n, k) :: r, acc, y, h => by
    rcases List.mem_cons.mp h with e | h
    · injection e with e1 e2
      subst e1 e2
      simp only [clos, beq_self_eq_true, if_true]
      exact clos_keep r _ y ⟨(cells.lookup y).getD 0, by simp only [List.lookup_cons, beq_self_eq_true]⟩
    · by_cases hk : k = .free
      · rw [hk]
        simp only [clos, beq_self_eq_true, if_true]
        exact clos_has r _ y h
      · have hb : (k == NameKind.free) = false := by simpa using hk
        simp only [clos, hb, Bool.false_eq_true, if_false]
        exact clos_has r _ y h
theorem relabel_kind {env : Env} : ∀ {names : List (Str × NameKind)} {x : Str} {k : NameKind}, (names.map fun (n, k) => if (k == NameKind.free && env.scope.kind == .function && env.kindOf n == some .cell) then (n, NameKind.cell) else (n, k)).lookup x = some k →
    names.lookup x = some k ∨ (k = .cell ∧ names.lookup x = some .free)
  | [], _, _, h => by simp at h
  | (n, j) :: r, x, k, h => by
    have ih := @relabel_kind env r x k
    have h' : List.lookup x ((if (j == NameKind.free && env.scope.kind == .function && env.kindOf n == some .cell) = true then (n, NameKind.cell) else (n, j)) ::
      (r.map fun (n, k) => if (k == NameKind.free && env.scope.kind == .function && env.kindOf n == some .cell) then (n, NameKind.cell) else (n, k))) = some k := h
    cases hx : x == n with
    | true =>
      by_cases hc : (j == NameKind.free && env.scope.kind == .function && env.kindOf n == some .cell) = true
      · rw [if_pos hc] at h'
        simp only [List.lookup_cons, hx] at h' ⊢
        have hj : j = .free := by
          have : (j == NameKind.free) = true := by
            cases q : (j == NameKind.free) with
            | true => rfl
            | false => rw [q] at hc; simp at hc
          simpa using this
        subst hj
        exact .inr ⟨(Option.some.inj h').symm, rfl⟩
      · rw [if_neg hc] at h'
        simp only [List.lookup_cons, hx] at h' ⊢
        exact .inl h'
    | false =>
      have h2 : List.lookup x (r.map fun (n, k) => if (k == NameKind.free && env.scope.kind == .function && env.kindOf n == some .cell) then (n, NameKind.cell) else (n, k)) = some k := by
        by_cases hc : (j == NameKind.free && env.scope.kind == .function && env.kindOf n == some .cell) = true
        · rw [if_pos hc] at h'; simpa only [List.lookup_cons, hx] using h'
        · rw [if_neg hc] at h'; simpa only [List.lookup_cons, hx] using h'
      rcases ih h2 with q | ⟨q1, q2⟩
      · exact .inl (by simpa only [List.lookup_cons, hx] using q)
      · exact .inr ⟨q1, by simpa only [List.lookup_cons, hx] using q2⟩
abbrev cxC (X : Cx) (NC : List Str) (scope : Scope) (C : Addr) (s : Shared) (H : Hp) (ex : List Addr) : Cx :=
  { X with N := NC, s₀ := s, H₀ := H, env := compEnvC scope (clos X.env.cells scope.names []) C X.env, outer := X.stack, stack := X.stack, ex := ex, fn := fun _ => false, pn := [], xe := fun _ _ => False }
def slotsC (nt : Nat) (is : List Nat) (σ : St) : St := List.replicate nt none ++ is.map fun i => (σ[i]?).join
theorem slotsC_len (nt : Nat) (is : List Nat) (σ : St) : (slotsC nt is σ).length = nt + is.length := by simp [slotsC]
def PIf (X : Cx) (ifs : List Expr) (t : TT) : Prop :=
  ∀ (pins : List (Addr × Obj)) (s : Shared) (σ : St) (H : Hp) (Q : Bool → Hp → Prop), Inv X pins σ H s → t σ H Q →
    wpAny (model X.prog X.w) X.A (forIn ifs true fun c r => if r = true then do let ok ← isTrue c X.env (eval c X.env); pure (ForInStep.yield ok) else pure (ForInStep.yield r)) (TP X pins σ Q) X.xe s
def tTrue : TT := fun _ H Q => Q true H
theorem pif_nil {X : Cx} : PIf X [] tTrue := fun _ _ _ H _ I h => wpAny_tests_nil ⟨H, I, h⟩
theorem pif_one {X : Cx} {c : Expr} {t : TT} (h : PT X c t) : PIf X [c] t := fun pins s σ H Q I hw => wpAny_tests_one (h pins s σ H Q I hw)
section
variable {prog : Program} {w : World} {A : Around} {R : Result → Shared → Prop} {s : Shared}
theorem compLoop_any {elt target iter : Expr} {ifs : List Expr} {scope : Scope} {pos : Pos} {it acc : Value} {env : Env} (I : Nat → Shared → Prop)
    (turn : ∀ n s, I n s → wpAny (model prog w) A (pyNext it) (fun r s₁ => match r with
      | none => R (.ok .next) s₁
      | some v => wpAny (model prog w) A (letOwnedTupleGo target it v) (fun _ s₁' => wpAny (model prog w) A (assign target env v) (fun _ s₂ =>
          wpAny (model prog w) A (forIn ifs true fun c r => if r = true then do let ok ← isTrue c env (eval c env); pure (ForInStep.yield ok) else pure (ForInStep.yield r)) (fun ok s₃ =>
            if ok = true then wpAny (model prog w) A (eval elt env) (fun x s₄ =>
              wpAny (model prog w) A (call (.builtin "list.append") [acc, x]) (fun _ s₅ => ∃ m, m < n ∧ I m s₅) (fun _ _ => False) s₄) (fun _ _ => False) s₃
            else ∃ m, m < n ∧ I m s₃) (fun _ _ => False) s₂) (fun _ _ => False) s₁') (fun _ _ => False) s₁) (fun _ _ => False) s)
    (n : Nat) (h : I n s) :
    codeAny (model prog w) A (.compLoop (.ListComp elt [⟨target, iter, ifs, 0⟩] scope pos) 0 it acc env) R s := by
  refine codeAny_loop rfl I (fun n s hI => ?_) n h
  show wpAny _ A ((compTurn (.ListComp elt [⟨target, iter, ifs, 0⟩] scope pos) 0 it acc env).onRaise (fun x => do noteFrame x env; theTreesLotGoes x)) _ _ s
  refine wpAny_noted ?_
  rw [compTurn_list]
  refine wpAny_bind (wpAny_standAt (wpAny_bind (wpAny_mono (turn n s hI) (fun r s₁ h₁ => ?_) fun _ _ h' => h'.elim)))
  cases r with
  | none => exact wpAny_pure h₁
  | some v =>
    refine wpAny_bind (wpAny_mono h₁ (fun _ s₁' h₁' => ?_) fun _ _ h' => h'.elim)
    refine wpAny_bind (wpAny_mono h₁' (fun _ s₂ h₂ => wpAny_bind (wpAny_mono h₂ (fun ok s₃ h₃ => ?_) fun _ _ h' => h'.elim)) fun _ _ h' => h'.elim)
    cases ok with
    | false => exact wpAny_pure ⟨rfl, h₃⟩
    | true =>
      exact wpAny_bind (wpAny_bind (wpAny_mono h₃ (fun x s₄ h₄ => wpAny_bind (wpAny_mono h₄ (fun _ s₅ h₅ => wpAny_pure (wpAny_pure ⟨rfl, h₅⟩)) fun _ _ h' => h'.elim)) fun _ _ h' => h'.elim))
end
def tComp (wi : TI) (nt : Nat) (is : List Nat) (g : TG) (tt : TT) (te : TE) : TE := fun σ H Q => wi σ H fun J H1 => ∃ W : Nat → Nat → List V → Hp → Prop, (∃ m, W 0 m [] H1) ∧ ∀ i m acc H, W i m acc H →
  (J.stop i H ∧ ∀ p, H p = none → Q (.ref p) (upd H p (.lst acc))) ∨
  (J.go i H ∧ acc.length < sizeLine ∧ ∃ N : List V → Hp → Prop, (∀ acc' H', N acc' H' → ∃ m', m' < m ∧ W (i + 1) m' acc' H') ∧ ∀ x H', J.yld i H x H' → g x (slotsC nt is σ) H' fun σ2 H2 => tt σ2 H2 fun b H3 =>
    if b = true then te σ2 H3 fun y H4 => N (acc ++ [y]) H4 else N acc H3)
structure CompSc (X : Cx) (NC : List Str) (nt : Nat) (is : List Nat) (csc : Scope) : Prop where
  kind : csc.kind = .function
  nocell : (csc.names.all fun y => y.2 != .cell) = true
  locs : (csc.names.all fun y => y.2 != .local || csc.names.lookup y.1 == some .local) = true
  frees : (csc.names.all fun y => y.2 != .free || (X.env.kindOf y.1 == some .cell || X.env.kindOf y.1 == some .free)) = true
  len : NC.length = nt + is.length
  slots : (NC.drop nt).map some = is.map fun i => X.N[i]?
  isfree : ((NC.drop nt).all fun y => csc.names.lookup y == some .free) = true
section
variable {X : Cx} {pins : List (Addr × Obj)} {σ : St} {H : Hp} {s : Shared} {NC : List Str} {nt : Nat} {is : List Nat} {csc : Scope}
theorem CompSc.free_kind (S : CompSc X NC nt is csc) {y : Str} (h : (y, NameKind.free) ∈ csc.names) : X.env.kindOf y = some .cell ∨ X.env.kindOf y = some .free := by
  have q := List.all_eq_true.mp S.frees _ h
  simpa using q
theorem CompSc.no_cell (S : CompSc X NC nt is csc) {y : Str} (h : (y, NameKind.cell) ∈ csc.names) : False := by
  have q := List.all_eq_true.mp S.nocell _ h
  simp at q
theorem CompSc.has_cells (S : CompSc X NC nt is csc) (I : Inv X pins σ H s) : ∀ y ∈ csc.names, y.2 = .free → ∃ c, X.env.cells.lookup y.1 = some c := fun y hy e => by
  obtain ⟨n, k⟩ := y
  have e' : k = .free := e
  subst e'
  exact I.ok.has n (S.free_kind hy)
theorem fp_lt {fp : List Addr} (ho : ∀ b ∈ fp, ∃ o, s.heap.get? b = some o) : ∀ b ∈ fp, b < s.heap.objs.size := fun b hb => let ⟨_, e⟩ := ho b hb; Heap.lt_size e
theorem inv_block (S : CompSc X NC nt is csc) (I : Inv X pins σ H s) {fp : List Addr} (hf : ∀ b ∈ fp, FpOk X pins H b) (ho : ∀ b ∈ fp, ∃ o, s.heap.get? b = some o) {h' : Heap} {C : Addr} {m : Str → Option Value} {t' : Nat}
    (hC : s.heap.objs.size ≤ C) (k : ∀ b o, s.heap.get? b = some o → h'.get? b = some o) (hn : h'.Ns C m) : Inv (cxC X NC csc C s H fp) [] (slotsC nt is σ) H { s with heap := h', toks := t' } := by
  have hcells := S.has_cells I
  have hlook : ∀ y c, (clos X.env.cells csc.names []).lookup y = some c → X.env.cells.lookup y = some c := fun y c h => clos_lookup csc.names [] y c hcells (by intro d hd; simp at hd) h
  have hlt := fp_lt ho
  have hfree : ∀ y, csc.names.lookup y = some .free → ∃ c, (clos X.env.cells csc.names []).lookup y = some c := fun y h => clos_has csc.names [] y (PySem.mem_of_lookup h)
  refine ⟨⟨I.ok.mod, S.kind, I.ok.glob, I.ok.blt, hC, fun x y c h1 h2 => I.ok.inj x y c (hlook x c h1) (hlook y c h2), fun x hx => ?_, fun x c h _ => (Bool.false_ne_true h).elim, I.ok.hd, I.ok.frames, .inl rfl,
    fun b hb => ⟨Nat.ne_of_lt (Nat.lt_of_lt_of_le (hlt b hb) hC), fun x c h => (hf b hb).2.2.2.2.1 x c (hlook x c h)⟩, I.bs, Nat.le_trans I.ok.bsz I.sz, fun b o e hb => ?_, fun b hb hs => ?_, I.stack, I.stkFree⟩,
    rfl, I.bare, Un.kept k, ⟨m, hn, fun i x v e1 e2 e3 => ?_⟩, fun x c h => ?_, I.hok.fresh hC, fun x c h => I.freeC x c (hlook x c h), fun p hp => absurd (show p ∈ ([] : List (Addr × Obj)) from hp) (by simp), I.hok.kept k, ?_⟩
  · have hx' : (relabel csc X.env).names.lookup x = some .cell ∨ (relabel csc X.env).names.lookup x = some .free := hx
    rcases hx' with h | h
    · rcases relabel_kind h with q | ⟨_, q⟩
      · exact (S.no_cell (PySem.mem_of_lookup q)).elim
      · exact hfree x q
    · rcases relabel_kind h with q | ⟨q, _⟩
      · exact hfree x q
      · cases q
  · rcases (hf b hb).2.2.2.1 with z | z
    · exact I.ok.noex b o e z
    · exact absurd (Nat.lt_of_lt_of_le (Heap.lt_size e) (Nat.le_trans I.ok.bsz z)) (Nat.lt_irrefl _)
  · rcases List.mem_cons.mp (I.stkSub b hs) with e | e
    · exact (hf b hb).2.1 e
    · exact (hf b hb).2.2.1 e
  · have hi : nt ≤ i := by
      by_cases hi : nt ≤ i
      · exact hi
      · have : (slotsC nt is σ)[i]? = some none := by
          unfold slotsC
          rw [List.getElem?_append_left (by simpa using hi), List.getElem?_replicate, if_pos (by omega)]
        rw [this] at e2; cases e2
    obtain ⟨j, rfl⟩ : ∃ j, i = nt + j := ⟨i - nt, by omega⟩
    have e2' : (is.map fun i => (σ[i]?).join)[j]? = some (some v) := by
      unfold slotsC at e2
      rw [List.getElem?_append_right (by simp)] at e2
      simpa using e2
    rw [List.getElem?_map] at e2'
    cases ej : is[j]? with
    | none => rw [ej] at e2'; cases e2'
    | some i' =>
      rw [ej] at e2'
      have e3' : (σ[i']?).join = some v := Option.some.inj e2'
      have e4 : σ[i']? = some (some v) := by
        cases q : σ[i']? with
        | none => rw [q] at e3'; cases e3'
        | some o => rw [q] at e3'; exact congrArg some e3'
      have e5 : X.N[i']? = some x := by
        have q := congrArg (fun l => l[j]?) S.slots
        simp only [List.getElem?_map, ej, Option.map_some] at q
        have q2 : (NC.drop nt)[j]? = some x := by rw [List.getElem?_drop]; exact e1
        rw [q2] at q
        simpa using q.symm
      have hxfree : csc.names.lookup x = some .free := by
        have q2 : (NC.drop nt)[j]? = some x := by rw [List.getElem?_drop]; exact e1
        have q := List.all_eq_true.mp S.isfree x (List.mem_of_getElem? q2)
        simpa using q
      have hk := S.free_kind (PySem.mem_of_lookup hxfree)
      obtain ⟨m0, _, hl⟩ := I.loc
      obtain ⟨u, r, l⟩ := hl i' x v e5 e4 (hk.elim (fun z => .inr (.inl z)) fun z => .inr (.inr z))
      refine ⟨u, r, ?_⟩
      rcases l with ⟨z, _⟩ | ⟨_, c, hc, hcell⟩
      · rw [z] at hk; rcases hk with q | q <;> cases q
      · obtain ⟨c', hc'⟩ := hfree x hxfree
        have e6 := hlook x c' hc'
        rw [hc] at e6; cases e6
        refine .inr ⟨?_, c, hc', ?_⟩
        · have e3'' : (relabel csc X.env).names.lookup x = some .local ∨ (relabel csc X.env).names.lookup x = some .cell ∨ (relabel csc X.env).names.lookup x = some .free := e3
          rcases e3'' with z | z | z
          · rcases relabel_kind z with q | ⟨q, _⟩
            · rw [hxfree] at q; cases q
            · cases q
          · exact .inl z
          · exact .inr z
        · obtain ⟨o, ho, hd⟩ := hcell
          exact ⟨o, k c o ho, hd⟩
  · obtain ⟨v, o, ho, hd⟩ := I.cell x c (hlook x c h)
    exact ⟨v, o, k c o ho, hd⟩
  · rw [slotsC_len]; exact S.len.symm
theorem inv_behind (I : Inv X pins σ H s) {fp : List Addr} (hf : ∀ b ∈ fp, FpOk X pins H b) {σ' : St} {H' : Hp} {s' : Shared} {C D : Addr} {pins' : List (Addr × Obj)} {acc : List V} {its : List Value} {n : Nat}
    (J : Inv (cxC X NC csc C s H fp) pins' σ' H' s') (hC : s.heap.objs.size ≤ C) (hD : s.heap.objs.size ≤ D) (hDo : s'.heap.get? D = some { cls := .type "list", data := .seq its.toArray n }) (hDn : H' D = none) (hv : Vals acc its)
    (hz : acc.length ≤ sizeLine) : Inv X pins σ (upd H' D (.lst acc)) s' := by
  have hne : ∀ b o, s.heap.get? b = some o → b ≠ D := fun b o e z => absurd (Nat.lt_of_lt_of_le (Heap.lt_size e) (z ▸ hD)) (Nat.lt_irrefl _)
  have hu : Un (frs X.stack) fp H H' s.heap s'.heap := J.base
  refine I.call' (ch := fp) J.os ⟨hu.keep, hu.slot, fun b o e n hx => by rw [upd_ne (hne b o e)]; exact hu.free b o e n hx, hu.there, fun b xs e => ?_, fun b o u e => ?_, fun b ps e => ?_⟩ (fun b u q => ?_) J.bare fun b hb => ?_
  · have q := hu.tups b xs e
    rw [upd_ne (ne_of_none q hDn)]; exact q
  · have q := hu.frzs b o u e
    rw [upd_ne (ne_of_none q hDn)]; exact q
  · obtain ⟨more, q⟩ := hu.tbls b ps e
    exact ⟨more, by rw [upd_ne (ne_of_none q hDn)]; exact q⟩
  · by_cases hb : b = D
    · subst hb
      rw [upd_same] at q; cases q
      exact ⟨hz, its, n, hv, hDo⟩
    · rw [upd_ne hb] at q
      exact (J.hok b u q).stay (fun _ _ _ e => e) (fun c r => by rw [upd_ne (ne_of_none r hDn)]; exact r) fun c xs r => by rw [upd_ne (ne_of_none r hDn)]; exact r
  · obtain ⟨_, f1, f2, f3, f4, f5⟩ := hf b hb
    exact ⟨f3, f1, f4, f5⟩
theorem comp_run {elt tg iter : Expr} {ifs : List Expr} {pos : Pos} {wi : TI} {g : TG} {tt : TT} {te : TE} {Q : VK} {use : Option (Value → Sem Unit)} {QQ : Value → Shared → Prop} {epos : Pos}
    (S : CompSc X NC nt is csc) (hc : X.calm = true) (hi : PI X tg iter wi)
    (hg : ∀ C s H ex, PG (cxC X NC csc C s H ex) tg g) (ht : ∀ C s H ex, PIf (cxC X NC csc C s H ex) ifs tt) (he : ∀ C s H ex, PE (cxC X NC csc C s H ex) elt te)
    (hgk : ∀ x (σ : St) H Q, g x σ H Q → g x σ H fun σ2 H2 => σ2.drop nt = σ.drop nt ∧ Q σ2 H2)
    (I : Inv X pins σ H s) (h : tComp wi nt is g tt te σ H Q)
    (fin : ∀ (s' : Shared) (C D : Addr) (H' : Hp) (m : Str → Option Value), Inv X pins σ H' s' → Q (.ref D) H' → s'.heap.Ns C m → H' C = none → C ≠ X.env.locals → X.s₀.heap.objs.size ≤ C → (∀ x c, X.env.cells.lookup x = some c → c ≠ C) → (∀ p ∈ X.pn ++ pins, p.1 ≠ C) →
      compPost (model X.prog X.w) X.A X.xe use QQ (.ref D) C (.ok .next) s')
    (hs : ∀ x, foldedSetIterable iter X.env x = pure x) :
    wpAny (model X.prog X.w) X.A (comprehension (.ListComp elt [⟨tg, iter, ifs, 0⟩] csc pos) csc X.env epos (newList []) false (eval iter X.env) use) QQ X.xe s := by
  have hcells := S.has_cells I
  have hnames : ∀ x ∈ csc.names, x.2 = .local → csc.names.lookup x.1 = some .local := fun x hx hl => by
    have q := List.all_eq_true.mp S.locs x hx
    simpa [hl] using q
  have hcell : ∀ y ∈ csc.names, y.2 ≠ .cell := fun y hy e => by
    obtain ⟨n, k⟩ := y
    have e' : k = .cell := e
    subst e'
    exact S.no_cell hy
  refine wpAny_comprehension_free (g := ⟨tg, iter, ifs, 0⟩) (gs := []) (cl := clos X.env.cells csc.names []) rfl hs (closureFor_clos hcells) S.kind hnames ?_
  refine thn (hi pins s σ H _ I h) fun v s1 h1 => thn h1 fun itv s2 h2 => ?_
  obtain ⟨it, fp, tn, J, H2, rfl, I2, T, st2, f2, W, ⟨m0, w0⟩, turn⟩ := h2
  have fo : ∀ b ∈ fp, ∃ o, s2.heap.get? b = some o := fun b hb => let ⟨o, e, _⟩ := T.obj 0 _ st2 b hb; ⟨o, e⟩
  have flt := fp_lt fo
  refine wpAny_newObj_type (wpAny_newFunctionEnv hcell (by intro y hy; simp at hy) (fun h₁ hns₁ hsb₁ => ?_) S.kind)
  dsimp only at hns₁ hsb₁ ⊢
  generalize hH2 : s2.heap.push { cls := .type "list", dict := none, data := .seq ([] : List Value).toArray } = P2 at hns₁ hsb₁ ⊢
  have hCs : P2.objs.size = s2.heap.objs.size + 1 := by rw [← hH2, Heap.size_push]
  generalize hCC : P2.objs.size = C at hns₁ hsb₁ hCs ⊢
  generalize hDD : s2.heap.objs.size = D at hCs ⊢
  have hD : s2.heap.objs.size ≤ D := Nat.le_of_eq hDD
  have hC : s2.heap.objs.size ≤ C := by omega
  have hDC : D ≠ C := by omega
  have old : ∀ b o, s2.heap.get? b = some o → h₁.get? b = some o := fun b o e => hsb₁.extBut b o (Nat.ne_of_lt (Nat.lt_of_lt_of_le (Heap.lt_size e) hC)) (Heap.get?_push_of_some _ (hH2 ▸ Heap.get?_push_of_some _ e))
  have accO : h₁.get? D = some { cls := .type "list", data := .seq ([] : List Value).toArray 0 } := by
    refine hsb₁.extBut _ _ hDC (Heap.get?_push_of_some _ ?_)
    rw [← hH2, ← hDD]
    exact Heap.get?_push_size _ rfl
  have Istart : Inv (cxC X NC csc C s2 H2 fp) [] (slotsC nt is σ) H2 { s2 with heap := h₁, toks := s2.toks + ([] : List (Str × Value)).length } := inv_block S I2 f2 fo hC old hns₁
  have HD0 : H2 D = none := I2.hok.fresh hD
  have HC0 : H2 C = none := I2.hok.fresh hC
  have fpY : ∀ {H' : Hp} {pl : List (Addr × Obj)}, (∀ b ∈ fp, H' b = none) → (∀ p ∈ pl, p.1 ∉ fp) → ∀ b ∈ fp, FpOk (cxC X NC csc C s2 H2 fp) pl H' b := fun {H' pl} hn hp b hb => by
    obtain ⟨_, g1, g2, g3, g4, g5⟩ := f2 b hb
    refine ⟨hn b hb, Nat.ne_of_lt (Nat.lt_of_lt_of_le (flt b hb) hC), fun z => ?_, .inl hb, fun x c e => g4 x c (clos_lookup csc.names [] x c hcells (by intro d hd; simp at hd) e), fun p hpp z => ?_⟩
    · rcases List.mem_cons.mp (I2.stkSub b z) with e | e
      · exact g1 e
      · exact g2 e
    · exact hp p (by simpa using hpp) (z ▸ hb)
  have dne : D ∉ fp := fun hb => absurd (flt D hb) (Nat.not_lt.mpr hD)
  have cellD : ∀ {σ' : St} {H' : Hp} {s' : Shared} {pl : List (Addr × Obj)} {its : List Value} {n : Nat}, Inv (cxC X NC csc C s2 H2 fp) pl σ' H' s' → s'.heap.get? D = some { cls := .type "list", data := .seq its.toArray n } →
      ∀ x c, (cxC X NC csc C s2 H2 fp).env.cells.lookup x = some c → c ≠ D := fun {σ' H' s' pl its n} K e x c hx z => by
    obtain ⟨v, o, ho, hd⟩ := K.cell x c hx
    rw [z, e] at ho; cases ho; cases hd
  have loop : ∀ s₃ : Shared, s₃ = { s2 with heap := h₁, toks := s2.toks + ([] : List (Str × Value)).length } →
      codeAny (model X.prog X.w) X.A (.compLoop (.ListComp elt [⟨tg, iter, ifs, 0⟩] csc pos) 0 (.ref it) (.ref D) (compEnvC csc (clos X.env.cells csc.names []) C X.env)) (compPost (model X.prog X.w) X.A X.xe use QQ (.ref D) C) s₃ := by
    rintro s₃ rfl
    refine compLoop_any (fun n s' => ∃ i H' acc its k, Inv (cxC X NC csc C s2 H2 fp) [] (slotsC nt is σ) H' s' ∧ tn i s'.heap ∧ (∀ b ∈ fp, H' b = none) ∧ s'.heap.get? D = some { cls := .type "list", data := .seq its.toArray k } ∧ H' D = none ∧
      Vals acc its ∧ acc.length ≤ sizeLine ∧ W i n acc H') ?_ m0 ⟨0, H2, [], [], 0, Istart, T.keep _ _ _ st2 (fun b hb o e => old b o e), fun b hb => (f2 b hb).1, accO, HD0, .nil, Nat.zero_le _, w0⟩
    rintro n s3 ⟨i, H3, acc, its, k, I3, st3, fr3, o3, n3, v3, z3, w3⟩
    have pinD : Inv (cxC X NC csc C s2 H2 fp) [(D, { cls := .type "list", data := .seq its.toArray k })] (slotsC nt is σ) H3 s3 := I3.pins_of fun p hp => by
      have e : p = (D, { cls := .type "list", data := .seq its.toArray k }) := by simpa using hp
      subst e
      refine ⟨o3, n3, hDC, fun z => ?_, fun v z => by cases z⟩
      rcases List.mem_cons.mp (I2.stkSub D z) with e | e
      · exact absurd I2.lt (Nat.not_lt.mpr (by rw [← e]; exact hD))
      · exact I2.nofs hD e
    have fpD : ∀ p ∈ [((D, { cls := .type "list", data := .seq its.toArray k }) : Addr × Obj)], p.1 ∉ fp := fun p hp => by
      have e : p = (D, { cls := .type "list", data := .seq its.toArray k }) := by simpa using hp
      subst e; exact dne
    rcases turn i n acc H3 w3 with ⟨stop, qn⟩ | ⟨go, hlen, N, hN, step⟩
    · refine thn (T.done (cxC X NC csc C s2 H2 fp) rfl rfl rfl hc i _ s3 _ H3 (fun _ _ => False) pinD (fpY fr3 fpD) st3 stop) fun r s4 ⟨hr, I4⟩ => ?_
      subst hr
      obtain ⟨e4, n4, _⟩ := I4.pin (D, { cls := .type "list", data := .seq its.toArray k }) (List.mem_append_right _ (List.mem_singleton.mpr rfl))
      have J := inv_behind (NC := NC) (csc := csc) I2 f2 I4 hC hD e4 n4 v3 z3
      obtain ⟨m4, hm4, _⟩ := I4.loc
      have nC : H3 C = none := I4.free
      refine fin s4 C D _ m4 J (qn D n4) hm4 (by rw [upd_ne (Ne.symm hDC)]; exact nC) (fun z => absurd I2.lt (Nat.not_lt.mpr (by rw [← z]; exact hC))) (Nat.le_trans I2.sz hC) (fun x c e z => ?_) fun p hp z => ?_
      · obtain ⟨v, o, ho, _⟩ := I2.cell x c e
        exact absurd (Heap.lt_size ho) (Nat.not_lt.mpr (by rw [z]; exact hC))
      · exact absurd (Heap.lt_size (I2.pin p hp).1) (Nat.not_lt.mpr (by rw [z]; exact hC))
    · refine thn (T.item (cxC X NC csc C s2 H2 fp) rfl rfl rfl hc i _ s3 _ H3 (fun _ _ => False) pinD (fpY fr3 fpD) st3 go) fun r s4 ⟨u, hr, h4⟩ => ?_
      subst hr
      refine thn h4 fun _ s5 ⟨x, H5, I5, r5, y5, st5, fr5⟩ => ?_
      have I5' := I5.pinned (fpY fr5 fpD) (T.obj _ _ st5)
      refine thn (hg C s2 H2 fp _ s5 _ H5 x u _ I5' r5 (hgk _ _ _ _ (step x H5 y5))) fun _ s6 ⟨σ6, H6, I6, d6, q6⟩ => ?_
      refine thn (ht C s2 H2 fp _ s6 σ6 H6 _ I6 q6) fun ok s7 ⟨H7, I7, q7⟩ => ?_
      have tnk : ∀ {σ' : St} {H' : Hp} {s' : Shared}, Inv (cxC X NC csc C s2 H2 fp) ([(D, { cls := .type "list", data := .seq its.toArray k })] ++ pinsAt fp s5.heap) σ' H' s' →
          tn (i + 1) s'.heap ∧ (∀ b ∈ fp, H' b = none) ∧ s'.heap.get? D = some { cls := .type "list", data := .seq its.toArray k } ∧ H' D = none := fun {σ' H' s'} K => by
        refine ⟨T.keep _ _ _ st5 fun b hb o e => (K.pin (b, o) (List.mem_append_right _ (List.mem_append_right _ (mem_pinsAt hb e)))).1, fun b hb => ?_, ?_, ?_⟩
        · obtain ⟨o, e, d⟩ := T.obj _ _ st5 b hb
          exact (K.pin (b, o) (List.mem_append_right _ (List.mem_append_right _ (mem_pinsAt hb e)))).2.1
        · exact (K.pin (D, { cls := .type "list", data := .seq its.toArray k }) (List.mem_append_right _ (List.mem_append_left _ (List.mem_singleton.mpr rfl)))).1
        · exact (K.pin (D, { cls := .type "list", data := .seq its.toArray k }) (List.mem_append_right _ (List.mem_append_left _ (List.mem_singleton.mpr rfl)))).2.1
      have reset : ∀ {σ' : St} {H' : Hp} {s' : Shared} {pl : List (Addr × Obj)}, σ'.drop nt = (slotsC nt is σ).drop nt → Inv (cxC X NC csc C s2 H2 fp) pl σ' H' s' → Inv (cxC X NC csc C s2 H2 fp) [] (slotsC nt is σ) H' s' := fun {σ' H' s' pl} hd K => by
        have K0 : Inv (cxC X NC csc C s2 H2 fp) [] σ' H' s' := K.pins_of fun p hp => absurd hp (by simp)
        refine K0.weak ?_ fun j v hj => ?_
        · rw [slotsC_len, K.len]; exact S.len.symm
        · by_cases hjn : j < nt
          · exfalso
            unfold slotsC at hj
            rw [List.getElem?_append_left (by simpa using hjn), List.getElem?_replicate, if_pos hjn] at hj
            cases hj
          · have q := congrArg (fun l => l[j - nt]?) hd
            simp only [List.getElem?_drop] at q
            rw [show nt + (j - nt) = j by omega] at q
            rw [q]; exact hj
      cases ok with
      | false =>
        obtain ⟨m', lt, w7⟩ : ∃ m', m' < n ∧ W (i + 1) m' acc H7 := hN _ _ q7
        obtain ⟨t7, f7, e7, n7⟩ := tnk I7
        exact ⟨m', lt, i + 1, H7, acc, its, k, reset d6 I7, t7, f7, e7, n7, v3, z3, w7⟩
      | true =>
        have q7' : te σ6 H7 fun y H4 => N (acc ++ [y]) H4 := q7
        refine thn (he C s2 H2 fp _ s7 σ6 H7 _ I7 q7') fun u8 s8 ⟨y, H8, I8, r8, qN⟩ => ?_
        obtain ⟨m', lt, w8⟩ := hN _ _ qN
        obtain ⟨t8, f8, e8, n8⟩ := tnk I8
        have I8r := reset d6 I8
        have hl := v3.length
        refine call_meets F.slot_list_append ⟨_, e8, rfl⟩ F.entry_list_append (F.args_list_append_2 _ _) (PySem.list_append D its.toArray k u8 (by rw [List.size_toArray]; omega)) ⟨e8, ?_⟩
        have q := PySem.IsL.update e8 (fun a => a.push u8)
        have hq : (its.toArray.push u8) = (its ++ [u8]).toArray := by simp
        rw [hq] at q
        have kk : ∀ b o, b ≠ D → s8.heap.get? b = some o → (s8.heap.update D (Obj.mapSeq fun a => a.push u8)).get? b = some o := fun b o hb e => (Heap.get?_update_other s8.heap _ (Ne.symm hb)).trans e
        refine ⟨m', lt, i + 1, H8, acc ++ [y], its ++ [u8], _, I8r.turned (t' := s8.toks) kk n8 hDC (.inr hD) (cellD I8r e8) (fun p hp => absurd (show p ∈ ([] : List (Addr × Obj)) from hp) (by simp)), T.keep _ _ _ t8 (fun b hb o e => kk b o (fun z => dne (z ▸ hb)) e), f8, q, n8, v3.append (.cons r8 .nil), ?_, w8⟩
        rw [List.length_append, List.length_singleton]
        omega
  exact codeAny_compStart_list (loop _ rfl) (T.self X.A 0 _ _ _ (T.keep _ _ _ st2 (fun b hb o e => old b o e)) (loop _ rfl))
theorem gName_keep {i nt : Nat} (hi : i < nt) : ∀ x (σ : St) (H : Hp) Q, gName i x σ H Q → gName i x σ H fun σ2 H2 => σ2.drop nt = σ.drop nt ∧ Q σ2 H2 := fun x σ H Q h => ⟨List.drop_set_of_lt hi, h⟩
theorem pe_comp {elt tg iter : Expr} {ifs : List Expr} {pos : Pos} {wi : TI} {g : TG} {tt : TT} {te : TE} (nt : Nat) (is : List Nat) (NC : List Str)
    (S : CompSc X NC nt is csc) (hc : X.calm = true) (hi : PI X tg iter wi)
    (hg : ∀ C s H ex, PG (cxC X NC csc C s H ex) tg g) (hgk : ∀ x (σ : St) H Q, g x σ H Q → g x σ H fun σ2 H2 => σ2.drop nt = σ.drop nt ∧ Q σ2 H2)
    (ht : ∀ C s H ex, PIf (cxC X NC csc C s H ex) ifs tt) (he : ∀ C s H ex, PE (cxC X NC csc C s H ex) elt te)
    (hs : ∀ x, foldedSetIterable iter X.env x = pure x := by intro _; rfl) : PE X (.ListComp elt [⟨tg, iter, ifs, 0⟩] csc pos) (tComp wi nt is g tt te) := by
  intro pins s σ H Q I h
  rw [eval_ListComp]
  refine comp_run S hc hi hg ht he hgk I h (fun s' C D H' m J q hm hC hL hz hcl hp => ⟨m, hm, fun h' hsb => ?_⟩) hs
  exact ⟨.ref D, H', J.turned (t' := s'.toks) (fun b o hb e => hsb.extBut b o hb e) hC hL (.inr hz) hcl hp, rfl, q⟩
theorem ps_setComp {i : Nat} {y : Str} {elt tg iter : Expr} {ifs : List Expr} {pos spos py : Pos} {wi : TI} {g : TG} {tt : TT} {te : TE} (nt : Nat) (is : List Nat) (NC : List Str) (hN : X.N.Nodup) (hy : X.N[i]? = some y) (hyl : X.env.scope.names.lookup y = some .local)
    (S : CompSc X NC nt is csc) (hc : X.calm = true) (hi : PI X tg iter wi)
    (hg : ∀ C s H ex, PG (cxC X NC csc C s H ex) tg g) (hgk : ∀ x (σ : St) H Q, g x σ H Q → g x σ H fun σ2 H2 => σ2.drop nt = σ.drop nt ∧ Q σ2 H2)
    (ht : ∀ C s H ex, PIf (cxC X NC csc C s H ex) ifs tt) (he : ∀ C s H ex, PE (cxC X NC csc C s H ex) elt te)
    (hsw : swapsWith (.ListComp elt [⟨tg, iter, ifs, 0⟩] csc pos) (some (.Name y py)) spos.line X.env = pure true := by rfl)
    (hs : ∀ x, foldedSetIterable iter X.env x = pure x := by intro _; rfl) : PS X (.Assign [.Name y py] (.ListComp elt [⟨tg, iter, ifs, 0⟩] csc pos) spos) (tAsg (tComp wi nt is g tt te) (gName i)) := by
  intro pins s σ H D I h
  rw [exec_Assign_Name_used _ _ _ _ hsw]
  refine wpAny_bind (wpAny_standAt (wpAny_bind ?_))
  show wpAny _ X.A (do let _ ← comprehension (.ListComp elt [⟨tg, iter, ifs, 0⟩] csc pos) csc X.env _ (newList []) false (eval iter X.env) (some (assign (.Name y py) X.env))) _ _ s
  refine wpAny_bind (thn (comp_run (QQ := fun _ s' => SP X pins D .next s') S hc hi hg ht he hgk I h (fun s' C Da H' m J q hm hC hL hz hcl hp => ?_) hs) fun _ s' hq => wpAny_pure (wpAny_pure hq))
  show wpAny _ X.A (assign (.Name y py) X.env (.ref Da)) _ _ _
  refine wpAny_assign_Name (store_ok2 J hN hy (.inl hyl) (v := .ref Da) rfl (fun s'' J' ⟨a, hsb, ha⟩ => ⟨m, hm.sameBut hsb (fun z => ?_), fun h3 hs3 => ?_⟩) (.inr hyl))
  · rcases ha with e | e
    · exact hL (z.trans e)
    · exact hcl y a e z.symm
  · exact ⟨_, H', J'.turned (t' := s''.toks) (fun b o hb e => hs3.extBut b o hb e) hC hL (.inr hz) hcl hp, q⟩
end
section
variable {K : PySem.W.Frag} {nt : Nat} {is : List Nat} {g : TG} {tt : TT} {te : TE} {σ : St} {H : Hp} {Q : VK}
def CompW (J : It) (nt : Nat) (is : List Nat) (g : TG) (tt : TT) (te : TE) (σ : St) (H : Hp) (Q : VK) : Prop := ∃ W : Nat → Nat → List V → Hp → Prop, (∃ m, W 0 m [] H) ∧ ∀ i m acc H, W i m acc H →
  (J.stop i H ∧ ∀ p, H p = none → Q (.ref p) (upd H p (.lst acc))) ∨
  (J.go i H ∧ acc.length < sizeLine ∧ ∃ N : List V → Hp → Prop, (∀ acc' H', N acc' H' → ∃ m', m' < m ∧ W (i + 1) m' acc' H') ∧ ∀ x H', J.yld i H x H' → g x (slotsC nt is σ) H' fun σ2 H2 => tt σ2 H2 fun b H3 =>
    if b = true then te σ2 H3 fun y H4 => N (acc ++ [y]) H4 else N acc H3)
theorem tComp_eq {wi : TI} : tComp wi nt is g tt te σ H Q = wi σ H fun J H1 => CompW J nt is g tt te σ H1 Q := rfl
theorem comp_gen {J : It} {n : Nat} (Pv : Nat → List V → Hp → Prop) (h0 : Pv 0 [] H)
    (hgo : ∀ i acc H, i < n → Pv i acc H → J.go i H ∧ acc.length < sizeLine ∧ ∀ x H', J.yld i H x H' → g x (slotsC nt is σ) H' fun σ2 H2 => tt σ2 H2 fun b H3 => if b = true then te σ2 H3 fun y H4 => Pv (i + 1) (acc ++ [y]) H4 else Pv (i + 1) acc H3)
    (hst : ∀ acc H, Pv n acc H → J.stop n H ∧ ∀ p, H p = none → Q (.ref p) (upd H p (.lst acc))) : CompW J nt is g tt te σ H Q := by
  refine ⟨fun i m acc H => m = n - i ∧ i ≤ n ∧ Pv i acc H, ⟨n, by simp, Nat.zero_le _, h0⟩, ?_⟩
  rintro i m acc H ⟨rfl, hi, p⟩
  by_cases hlt : i < n
  · obtain ⟨h1, h2, h3⟩ := hgo i acc H hlt p
    exact .inr ⟨h1, h2, Pv (i + 1), fun acc' H' q => ⟨n - (i + 1), by omega, rfl, hlt, q⟩, h3⟩
  · have e : i = n := by omega
    subst e
    exact .inl (hst acc H p)
theorem comp_range {lo : Int} {n : Nat} (Pv : Nat → List V → Hp → Prop) (h0 : Pv 0 [] H)
    (hs : ∀ i acc H, i < n → Pv i acc H → acc.length < sizeLine ∧ g (.int (lo + i)) (slotsC nt is σ) H fun σ2 H2 => tt σ2 H2 fun b H3 => if b = true then te σ2 H3 fun y H4 => Pv (i + 1) (acc ++ [y]) H4 else Pv (i + 1) acc H3)
    (hd : ∀ acc H, Pv n acc H → ∀ p, H p = none → Q (.ref p) (upd H p (.lst acc))) : CompW (Itr lo n) nt is g tt te σ H Q := by
  refine comp_gen (n := n) Pv h0 (fun i acc H hi p => ?_) fun acc H p => ⟨Nat.le_refl _, hd acc H p⟩
  obtain ⟨h1, h2⟩ := hs i acc H hi p
  refine ⟨hi, h1, fun x H' y => ?_⟩
  obtain ⟨rfl, rfl⟩ := y
  exact h2
theorem comp_str {z : Str} (Pv : Nat → List V → Hp → Prop) (h0 : Pv 0 [] H)
    (hs : ∀ i c acc H, z.cps.toList[i]? = some c → Pv i acc H → acc.length < sizeLine ∧ g (.str ⟨#[c]⟩) (slotsC nt is σ) H fun σ2 H2 => tt σ2 H2 fun b H3 => if b = true then te σ2 H3 fun y H4 => Pv (i + 1) (acc ++ [y]) H4 else Pv (i + 1) acc H3)
    (hd : ∀ acc H, Pv z.cps.toList.length acc H → ∀ p, H p = none → Q (.ref p) (upd H p (.lst acc))) : CompW (Its z) nt is g tt te σ H Q := by
  have hl : z.cps.toList.length = z.cps.size := by simp
  refine comp_gen (n := z.cps.toList.length) Pv h0 (fun i acc H hi p => ?_) fun acc H p => ⟨Nat.le_of_eq hl.symm, hd acc H p⟩
  have hx : z.cps.toList[i]? = some z.cps.toList[i] := by simp [hi]
  obtain ⟨h1, h2⟩ := hs i _ acc H hx p
  refine ⟨(by show i < z.cps.size; omega), h1, fun x H' y => ?_⟩
  obtain ⟨rfl, c, hc, rfl⟩ := y
  rw [← Array.getElem?_toList, hx] at hc
  cases hc
  exact h2
theorem comp_list {a : Addr} {xs : List V} (Pv : Nat → List V → Hp → Prop) (h0 : Pv 0 [] H) (hl : ∀ i acc H, i ≤ xs.length → Pv i acc H → SqL K H a xs)
    (hs : ∀ i x acc H, xs[i]? = some x → Pv i acc H → acc.length < sizeLine ∧ g x (slotsC nt is σ) H fun σ2 H2 => tt σ2 H2 fun b H3 => if b = true then te σ2 H3 fun y H4 => Pv (i + 1) (acc ++ [y]) H4 else Pv (i + 1) acc H3)
    (hd : ∀ acc H, Pv xs.length acc H → ∀ p, H p = none → Q (.ref p) (upd H p (.lst acc))) : CompW (Itl K a) nt is g tt te σ H Q := by
  refine comp_gen (n := xs.length) Pv h0 (fun i acc H hi p => ?_) fun acc H p => ⟨⟨xs, hl _ _ _ (Nat.le_refl _) p, Nat.le_refl _⟩, hd acc H p⟩
  have hx : xs[i]? = some xs[i] := by simp [hi]
  have q := hl i acc H (Nat.le_of_lt hi) p
  obtain ⟨h1, h2⟩ := hs i _ acc H hx p
  refine ⟨⟨xs, _, q, hx⟩, h1, fun x H' y => ?_⟩
  obtain ⟨rfl, y⟩ := y
  have e := y xs q
  rw [hx] at e
  cases e
  exact h2
theorem comp_tup {a : Addr} {xs : List V} (Pv : Nat → List V → Hp → Prop) (h0 : Pv 0 [] H) (hl : ∀ i acc H, i ≤ xs.length → Pv i acc H → SqT K H a xs)
    (hs : ∀ i x acc H, xs[i]? = some x → Pv i acc H → acc.length < sizeLine ∧ g x (slotsC nt is σ) H fun σ2 H2 => tt σ2 H2 fun b H3 => if b = true then te σ2 H3 fun y H4 => Pv (i + 1) (acc ++ [y]) H4 else Pv (i + 1) acc H3)
    (hd : ∀ acc H, Pv xs.length acc H → ∀ p, H p = none → Q (.ref p) (upd H p (.lst acc))) : CompW (Itt K a) nt is g tt te σ H Q := by
  refine comp_gen (n := xs.length) Pv h0 (fun i acc H hi p => ?_) fun acc H p => ⟨⟨xs, hl _ _ _ (Nat.le_refl _) p, Nat.le_refl _⟩, hd acc H p⟩
  have hx : xs[i]? = some xs[i] := by simp [hi]
  have q := hl i acc H (Nat.le_of_lt hi) p
  obtain ⟨h1, h2⟩ := hs i _ acc H hx p
  refine ⟨⟨xs, _, q, hx⟩, h1, fun x H' y => ?_⟩
  obtain ⟨rfl, y⟩ := y
  have e := y xs q
  rw [hx] at e
  cases e
  exact h2
end
section
variable {X : Cx}
theorem call_all (hc : X.calm = true) : CallR X (.builtin "all") (fun xs H Q => ∃ (p : Addr) (bs : List Bool), xs = [.ref p] ∧ SqL X.K H p (bs.map V.bl) ∧ Q (.bl (bs.all id)) H) := by
  intro pins s σ H xs us Q I r h
  obtain ⟨p, bs, rfl, hq, q⟩ := h
  obtain ⟨u, rfl, rx⟩ := vals1 r
  cases rx
  obtain ⟨its, rv, pl, hz⟩ := I.list hq
  have hlen : bs.length = its.length := by have := rv.length; simpa using this
  refine call_all_walk (wpAny_pyIter_list pl.isList ?_)
  have hne : p ≠ s.heap.objs.size := by
    obtain ⟨o, _, e, _⟩ := pl
    exact Nat.ne_of_lt (Heap.lt_size e)
  refine ⟨s.heap.objs.size, _, _, _, _, _, fun i => bs.getD i false, rfl, Walks.list (A := X.A.in1) (show X.A.in1.handled = none from I.ok.hd hc) _ p hne its.toArray, ⟨⟨_, Heap.get?_push_size _ rfl, rfl, rfl⟩, pl.isList.push _⟩, ?_, fun h' tk hk => ?_⟩
  · intro i v s' Q' E' hP hQ'
    have hv : its[i]? = some v := by simpa using hP
    have hi : i < bs.length := by rw [hlen]; exact (List.getElem?_eq_some_iff.mp hv).1
    obtain ⟨v', hv', rv'⟩ := rv.get (i := i) (x := V.bl bs[i]) (by simp [hi])
    rw [hv] at hv'; cases hv'
    cases (show v = Value.bool bs[i] from rv')
    have e : bs.getD i false = bs[i] := by simp [hi]
    have hQ2 : Q' (bs.getD i false) s' := hQ'
    rw [e] at hQ2
    exact wpAny_truthy_bool hQ2
  · have e : ((List.range its.toArray.size).all fun i => bs.getD i false) = bs.all id := by
      rw [List.size_toArray, ← hlen]
      rw [Bool.eq_iff_iff, List.all_eq_true, List.all_eq_true]
      constructor
      · intro h x hx
        obtain ⟨i, hi, rfl⟩ := List.mem_iff_getElem.mp hx
        have := h i (List.mem_range.mpr hi)
        simpa [hi] using this
      · intro h i hi
        have hi' := List.mem_range.mp hi
        have := h bs[i] (List.getElem_mem hi')
        simpa [hi'] using this
    rw [e]
    refine ⟨.bl (bs.all id), H, ?_, rfl, q⟩
    exact I.kept (t' := tk) fun b o e => hk b o (fun z => absurd (Heap.lt_size e) (Nat.not_lt.mpr (Nat.le_of_eq (List.mem_singleton.mp z).symm))) (Heap.get?_push_of_some _ e)
theorem strsAre_of : ∀ {ys : List Str} {us : List Value}, Vals (ys.map V.str) us → StrsAre us ys
  | [], _, r => by rw [List.map_nil] at r; cases r; exact .nil
  | y :: ys, _, r => by
    rw [List.map_cons] at r
    cases r with
    | cons r1 r2 =>
      obtain ⟨t, rfl⟩ := r1
      exact .cons y t (strsAre_of r2)
def rJoin (K : PySem.W.Frag) : V → List V → Hp → VK → Prop := fun x vs H Q => ∃ (sep : Str) (p : Addr) (ys : List Str), x = .str sep ∧ vs = [.ref p] ∧ SqL K H p (ys.map V.str) ∧ (ys.map (·.length)).sum + ys.length * sep.length ≤ 16777216 ∧ Q (.str (Txt.join sep ys)) H
theorem mt_join : MtR X "str.join" (rJoin X.K) := by
  intro pins s σ H x vs v us Q I rx rv h
  obtain ⟨sep, p, ys, rfl, rfl, hq, hz, q⟩ := h
  obtain ⟨t, rfl⟩ := rx
  obtain ⟨u, rfl, ru⟩ := vals1 rv
  cases ru
  obtain ⟨its, r', pl, _⟩ := I.list hq
  exact join_list pl.isList (by simpa using strsAre_of r') hz fun t' k => ⟨.str _, H, I.tok _, ⟨t', rfl⟩, q⟩
def rInst (K : PySem.W.Frag) (T : String) : List V → Hp → VK → Prop := fun vs H Q => ∃ x t b, vs = [x, .ty T] ∧ TyOf K H x t ∧ PySem.W.kitOne K t (.type T) = some b ∧ Q (.bl b) H
theorem call_inst {T : String} : CallR X (.builtin "isinstance") (rInst X.K T) := by
  intro pins s σ H xs us Q I r h
  obtain ⟨x, t, b, rfl, ty, e, q⟩ := h
  obtain ⟨u, u2, rfl, rx, r2⟩ := vals2 r
  cases (show u2 = Value.type T from r2)
  exact isinst_ok I rx ty e fun tk => ⟨.bl b, H, I.tok tk, rfl, q⟩
def eqVs : List V → List V → Bool
  | [], [] => true
  | x :: xs, y :: ys => eqV x y && eqVs xs ys
  | _, _ => false
def rEqL (K : PySem.W.Frag) : R2 := fun x y H Q => ∃ p q xs ys, x = .ref p ∧ y = .ref q ∧ SqL K H p xs ∧ SqL K H q ys ∧ xs.all flatV = true ∧ ys.all flatV = true ∧ Q (.bl (eqVs xs ys)) H
end
end L2
set_option Elab.async false
set_option linter.all false
set_option maxRecDepth 100000
set_option maxHeartbeats 4000000
namespace L2
open PySem PySem.Spec PyProof.Rows
section
variable {X : Cx} {tg l : Expr} {tl : TE} {a : Expr} {pos : Pos} {tA : TT}
theorem op_modP : OpR X (binaryOp .Mod) (rI (fun _ j => 0 < j) fun i j => .int (i % j)) := op_mod
theorem op_fdivP : OpR X (binaryOp .FloorDiv) (rI CDiv fun i j => .int (i / j)) := op_fdiv
def rAddS : R2 := fun x y H Q => ∃ i j, x = .str i ∧ y = .str j ∧ i.length + j.length ≤ sizeLine ∧ Q (.str (i ++ j)) H
def rAddA (K : PySem.W.Frag) : R2 := fun x y H Q => rI0 (fun i j => .int (i + j)) x y H Q ∨ (rAddS x y H Q ∨ (rCat x y H Q ∨ rCatT K x y H Q))
theorem opA_add (K : PySem.W.Frag) (hK : X.K = K := by rfl) : OpR X (binaryOp .Add) (rAddA K) := hK ▸ (OpR.or op_add (OpR.or op_add_str (OpR.or op_cat op_catT)) : OpR X (binaryOp .Add) (rAddA X.K))
def rMulA : R2 := fun x y H Q => rI CMul (fun i j => .int (i * j)) x y H Q ∨ rRep x y H Q
theorem opA_mul : OpR X (binaryOp .Mult) rMulA := OpR.or op_mul op_rep
def rEqA (K : PySem.W.Frag) : R2 := fun x y H Q => rEq x y H Q ∨ rEqL K x y H Q
theorem opA_ne (hu : X.A.units + 64 < cLine) : OpR X (compareOp .NotEq) rNe := op_ne
def rLtS : R2 := fun x y H Q => ∃ i j, x = .str i ∧ y = .str j ∧ Q (.bl (decide (i.cps.toList < j.cps.toList))) H
def rLtA : R2 := fun x y H Q => rI0 (fun i j => .bl (decide (i < j))) x y H Q ∨ rLtS x y H Q
theorem opA_lt : OpR X (compareOp .Lt) rLtA := OpR.or op_lt op_lt_str
def inS (i j : Str) : Bool := !(Builtin.Str.occurrences j i 0 j.length 1).isEmpty
def rInS (neg : Bool) : R2 := fun x y H Q => ∃ i j, x = .str i ∧ y = .str j ∧ Q (.bl (if neg then !inS i j else inS i j)) H
def rInA (K : PySem.W.Frag) (neg : Bool) : R2 := fun x y H Q => rInS neg x y H Q ∨ rIn K neg x y H Q
theorem opA_in (K : PySem.W.Frag) (hK : X.K = K := by rfl) : OpR X (compareOp .In) (rInA K false) := hK ▸ (OpR.or op_in_str op_in_seq : OpR X (compareOp .In) (rInA X.K false))
theorem opA_notin (K : PySem.W.Frag) (hK : X.K = K := by rfl) : OpR X (compareOp .NotIn) (rInA K true) := hK ▸ (OpR.or op_notIn_str op_notIn_seq : OpR X (compareOp .NotIn) (rInA X.K true))
def rSlA (K : PySem.W.Frag) : V → Option Int → Option Int → Hp → VK → Prop := fun x lo hi H Q => rSlS x lo hi H Q ∨ (rSlL K x lo hi H Q ∨ rSlT K x lo hi H Q)
theorem slA (K : PySem.W.Frag) (hK : X.K = K := by rfl) : SlR X (rSlA K) := hK ▸ (SlR.or sl_str (SlR.or sl_list sl_tup) : SlR X (rSlA X.K))
theorem ixA (K : PySem.W.Frag) (hK : X.K = K := by rfl) : IxR X (rIx K) := hK ▸ (ix_seq : IxR X (rIx X.K))
def iAnyV (K : PySem.W.Frag) (x : V) (H : Hp) (R : It → Hp → Prop) : Prop := (∃ z, x = .str z ∧ R (Its z) H) ∨ (∃ a, x = .ref a ∧ (∃ xs, SqL K H a xs) ∧ R (Itl K a) H) ∨ (∃ a, x = .ref a ∧ (∃ xs, SqT K H a xs) ∧ R (Itt K a) H)
def iAny (K : PySem.W.Frag) (tl : TE) : TI := fun σ H R => tl σ H fun x H1 => iAnyV K x H1 R
theorem pi_any (K : PySem.W.Frag) (hl : PE X l tl) (hK : X.K = K := by rfl) : PI X tg l (iAny K tl) := by
  subst hK
  intro pins s σ H R I h
  refine thn (hl pins s σ H _ I h) fun v s1 ⟨x, H1, I1, r1, q1⟩ => ?_
  rcases q1 with ⟨z, rfl, q⟩ | ⟨a, rfl, hq, q⟩ | ⟨a, rfl, hq, q⟩
  · exact pi_str_at I1 r1 q
  · obtain ⟨xs, hq⟩ := hq
    cases r1
    obtain ⟨its, rv, p, hz⟩ := I1.list hq
    refine wpAny_pyIter_list p.isList ?_
    refine ⟨s1.heap.objs.size, [s1.heap.objs.size], _, _, H1, rfl, I1.kept (t' := s1.toks) fun b o e => Heap.get?_push_of_some _ e, turn_list a _, ⟨_, Heap.get?_push_size _ rfl, rfl, rfl⟩, fun b hb => ?_, q⟩
    have e : b = s1.heap.objs.size := by simpa using hb
    subst e
    exact I1.fpOk (Nat.le_refl _) (I1.hok.fresh (Nat.le_refl _))
  · obtain ⟨xs, hq⟩ := hq
    cases r1
    obtain ⟨its, rv, p, hz⟩ := I1.tuple hq
    refine wpAny_pyIter_tuple (show s1.heap.IsTuple a its.toArray from p) ?_
    refine ⟨s1.heap.objs.size, [s1.heap.objs.size], _, _, H1, rfl, I1.kept (t' := s1.toks) fun b o e => Heap.get?_push_of_some _ e, turn_tuple a _, ⟨_, Heap.get?_push_size _ rfl, rfl, rfl⟩, fun b hb => ?_, q⟩
    have e : b = s1.heap.objs.size := by simpa using hb
    subst e
    exact I1.fpOk (Nat.le_refl _) (I1.hok.fresh (Nat.le_refl _))
end
section
variable {X : Cx} {o e : Expr} {es : List Expr} {to : TE} {t : TA} {name : Str} {apos cpos : Pos} {T iid : String} {r : V → List V → Hp → VK → Prop}
def rLen (K : PySem.W.Frag) : List V → Hp → VK → Prop := fun xs H Q => ∃ x n, xs = [x] ∧ LenV K x H n ∧ Q (.int n) H
theorem callA_len (K : PySem.W.Frag) (hK : X.K = K := by rfl) : CallR X (.builtin "len") (rLen K) := hK ▸ (call_len : CallR X (.builtin "len") (rLen X.K))
def rAll (K : PySem.W.Frag) : List V → Hp → VK → Prop := fun xs H Q => ∃ (p : Addr) (bs : List Bool), xs = [.ref p] ∧ SqL K H p (bs.map V.bl) ∧ Q (.bl (bs.all id)) H
theorem callA_all (K : PySem.W.Frag) (hc : X.calm = true) (hK : X.K = K := by rfl) : CallR X (.builtin "all") (rAll K) := hK ▸ (call_all hc : CallR X (.builtin "all") (rAll X.K))
def rTupleOf (K : PySem.W.Frag) : List V → Hp → VK → Prop := fun xs H Q => ∃ p ys, xs = [.ref p] ∧ ((SqL K H p ys ∧ ∀ l, H l = none → Q (.ref l) (upd H l (.tup ys))) ∨ (SqT K H p ys ∧ Q (.ref p) H))
theorem callA_tuple (K : PySem.W.Frag) (hK : X.K = K := by rfl) : CallR X (.type "tuple") (rTupleOf K) := hK ▸ (call_tuple_of : CallR X (.type "tuple") (rTupleOf X.K))
def rListOf (K : PySem.W.Frag) : List V → Hp → VK → Prop := fun xs H Q => ∃ p ys, xs = [.ref p] ∧ (SqL K H p ys ∨ SqT K H p ys) ∧ ∀ l, H l = none → Q (.ref l) (upd H l (.lst ys))
theorem callA_list (K : PySem.W.Frag) (hK : X.K = K := by rfl) : CallR X (.type "list") (rListOf K) := hK ▸ (call_list_of : CallR X (.type "list") (rListOf X.K))
def rIntOf : List V → Hp → VK → Prop := fun xs H Q => (∃ i, xs = [.int i] ∧ Q (.int i) H) ∨ ∃ k, xs = [.bl k] ∧ Q (.int (if k then 1 else 0)) H
theorem callA_int : CallR X (.type "int") rIntOf := call_int1
theorem pe_bmA (K : PySem.W.Frag) (pa : PlainAttrs T) (slot : Slot T name iid) (hty : typeOf (.builtin iid) = pure (.type "method_descriptor")) (hm : MtR X iid r) (ho : PE X o to) (ha : PA X (e :: es) t) (hK : X.K = K := by rfl)
    (hbase : attributeBase o name X.env (eval o X.env) = eval o X.env := by rfl)
    (hfew : ((backTo cpos (starEach (e :: es) X.env)).all (fun x => !x.1) && (backToKw cpos (keywordEach [] X.env)).all (fun x => x.1.isSome)
      && decide ((e :: es).length + ([] : List Keyword).length + (if ([] : List Keyword).isEmpty then 0 else 1) < 30)) = true := by rfl)
    (hline : (apos.endLine == cpos.line) = true := by rfl) (hs : starEach (e :: es) X.env = (false, eval e X.env) :: starEach es X.env := by rfl) (hplain : (backTo cpos (starEach es X.env)).any (·.1) = false := by rfl) :
    PE X (.Call (.Attribute o name apos) (e :: es) [] cpos) (tBM K T r to t) := hK ▸ pe_bm pa slot hty hm ho ha hbase hfew hline hs hplain
end
section
variable {K : PySem.W.Frag} {g : TG} {tb : TS} {D : Ends} {σ : St} {H : Hp}
def ForW (J : It) (g : TG) (tb : TS) (D : Ends) (σ : St) (H : Hp) : Prop := ∃ W : Nat → Nat → St → Hp → Prop, (∃ m, W 0 m σ H) ∧ ∀ i m σ H, W i m σ H →
  (J.stop i H ∧ D.nx σ H) ∨ (J.go i H ∧ ∃ N : St → Hp → Prop, (∀ σ' H', N σ' H' → ∃ m', m' < m ∧ W (i + 1) m' σ' H') ∧ ∀ x H', J.yld i H x H' → g x σ H' fun σ2 H2 => tb { D with nx := N, ct := N, bk := D.nx } σ2 H2)
theorem tFor_eq {wi : TI} : tFor wi g tb D σ H = wi σ H fun J H1 => ForW J g tb D σ H1 := rfl
theorem forW_list {a : Addr} {xs : List V} (Pv : Nat → St → Hp → Prop) (h0 : Pv 0 σ H) (hl : ∀ i σ H, i ≤ xs.length → Pv i σ H → SqL K H a xs)
    (hs : ∀ i x σ H, xs[i]? = some x → Pv i σ H → g x σ H fun σ2 H2 => tb { D with nx := Pv (i + 1), ct := Pv (i + 1), bk := D.nx } σ2 H2) (hd : ∀ σ H, Pv xs.length σ H → D.nx σ H) : ForW (Itl K a) g tb D σ H := for_list Pv h0 hl hs hd
theorem forW_tup {a : Addr} {xs : List V} (Pv : Nat → St → Hp → Prop) (h0 : Pv 0 σ H) (hl : ∀ i σ H, i ≤ xs.length → Pv i σ H → SqT K H a xs)
    (hs : ∀ i x σ H, xs[i]? = some x → Pv i σ H → g x σ H fun σ2 H2 => tb { D with nx := Pv (i + 1), ct := Pv (i + 1), bk := D.nx } σ2 H2) (hd : ∀ σ H, Pv xs.length σ H → D.nx σ H) : ForW (Itt K a) g tb D σ H := for_tup Pv h0 hl hs hd
theorem forW_range {lo : Int} {n : Nat} (Pv : Nat → St → Hp → Prop) (h0 : Pv 0 σ H)
    (hs : ∀ i σ H, i < n → Pv i σ H → g (.int (lo + i)) σ H fun σ2 H2 => tb { D with nx := Pv (i + 1), ct := Pv (i + 1), bk := D.nx } σ2 H2) (hd : ∀ σ H, Pv n σ H → D.nx σ H) : ForW (Itr lo n) g tb D σ H := for_range Pv h0 hs hd
end
theorem sz1000 {n : Nat} (h : n ≤ 100000) : n ≤ sizeLine := Nat.le_trans h (by rw [sizeLine_eq]; decide)
theorem sz1000' {n : Nat} (h : n ≤ 100000) : n < sizeLine := Nat.lt_of_le_of_lt h (by rw [sizeLine_eq]; decide)
theorem same_new {H : Hp} {p : Addr} (h : H p = none) (o : HO) : Same H (upd H p o) := fun b u q => by rw [upd_ne (ne_of_none q h)]; exact q
theorem Same.seqT {K : PySem.W.Frag} {H H' : Hp} {a : Addr} {xs : List V} (e : Same H H') (h : SqT K H a xs) : SqT K H' a xs := by
  rcases h with (h | ⟨o, h⟩) | h
  · exact .inl (.inl (e _ _ h))
  · exact .inl (.inr ⟨o, e _ _ h⟩)
  · exact .inr h
theorem atI_some {α : Type} {xs : List α} {i : Int} (h0 : 0 ≤ i) (h1 : i < xs.length) : ∃ v, v ∈ xs ∧ atI xs i = some v := by
  have hk : i.toNat < xs.length := by omega
  have e : i = ((i.toNat : Nat) : Int) := by omega
  refine ⟨xs[i.toNat], List.getElem_mem hk, ?_⟩
  have q : atI xs ((i.toNat : Nat) : Int) = some xs[i.toNat] := atI_nat (by simp [hk])
  rw [← e] at q
  exact q
theorem atI_getD {α : Type} {xs : List α} {i : Int} {d : α} (h0 : 0 ≤ i) (h1 : i < xs.length) : atI xs i = some (xs.getD i.toNat d) := by
  have hk : i.toNat < xs.length := by omega
  have e : i = ((i.toNat : Nat) : Int) := by omega
  have q : atI xs ((i.toNat : Nat) : Int) = some xs[i.toNat] := atI_nat (by simp [hk])
  rw [← e] at q
  rw [q]; simp [hk]
def spLaw (K : PySem.W.Frag) : Sp := fun vs H Q _ => ∃ (a : Addr) (ns : List Int), vs = [.ref a] ∧ SqL K H a (ns.map V.int) ∧ ns.length ≤ 63 ∧ ∀ H', Q (.bl true) H'
end L2
set_option Elab.async false
set_option linter.all false
set_option maxRecDepth 100000
set_option maxHeartbeats 4000000
namespace L2
open PySem PySem.Spec PyProof.Rows
section
variable {K : PySem.W.Frag} {H : Hp} {Q : VK} {σ : St} {D : Ends} {ta tb tc te : TE} {tt tA tB' : TT} {t u : TS} {g : TG} {r : R2} {tl : TA} {v0 v1 v2 v3 v4 v5 v6 v7 v8 v9 v10 v11 : V}
  {o0 o1 o2 o3 o4 o5 o6 o7 o8 o9 o10 o11 : Option V} {rr : St}
theorem w_v0 : tVar 0 (some v0 :: rr) H Q = Q v0 H := by simp [tVar]
theorem w_v1 : tVar 1 (o0 :: some v1 :: rr) H Q = Q v1 H := by simp [tVar]
theorem w_v2 : tVar 2 (o0 :: o1 :: some v2 :: rr) H Q = Q v2 H := by simp [tVar]
theorem w_v3 : tVar 3 (o0 :: o1 :: o2 :: some v3 :: rr) H Q = Q v3 H := by simp [tVar]
theorem w_v4 : tVar 4 (o0 :: o1 :: o2 :: o3 :: some v4 :: rr) H Q = Q v4 H := by simp [tVar]
theorem w_v5 : tVar 5 (o0 :: o1 :: o2 :: o3 :: o4 :: some v5 :: rr) H Q = Q v5 H := by simp [tVar]
theorem w_v6 : tVar 6 (o0 :: o1 :: o2 :: o3 :: o4 :: o5 :: some v6 :: rr) H Q = Q v6 H := by simp [tVar]
theorem w_v7 : tVar 7 (o0 :: o1 :: o2 :: o3 :: o4 :: o5 :: o6 :: some v7 :: rr) H Q = Q v7 H := by simp [tVar]
theorem w_v8 : tVar 8 (o0 :: o1 :: o2 :: o3 :: o4 :: o5 :: o6 :: o7 :: some v8 :: rr) H Q = Q v8 H := by simp [tVar]
theorem w_v9 : tVar 9 (o0 :: o1 :: o2 :: o3 :: o4 :: o5 :: o6 :: o7 :: o8 :: some v9 :: rr) H Q = Q v9 H := by simp [tVar]
theorem w_v10 : tVar 10 (o0 :: o1 :: o2 :: o3 :: o4 :: o5 :: o6 :: o7 :: o8 :: o9 :: some v10 :: rr) H Q = Q v10 H := by simp [tVar]
theorem w_v11 : tVar 11 (o0 :: o1 :: o2 :: o3 :: o4 :: o5 :: o6 :: o7 :: o8 :: o9 :: o10 :: some v11 :: rr) H Q = Q v11 H := by simp [tVar]
theorem w_c {v : V} : tC v σ H Q = Q v H := rfl
theorem w_seq : tSeq t u D σ H = t { D with nx := u D } σ H := rfl
theorem w_ifS : tIfS tt t u D σ H = tt σ H fun b H1 => if b = true then t D σ H1 else u D σ H1 := rfl
theorem w_next : tNext D σ H = D.nx σ H := rfl
theorem w_ret : tRet te D σ H = te σ H D.rt := rfl
theorem w_retN : tRetN D σ H = D.rt .non H := rfl
theorem w_drop : tDrop te D σ H = te σ H fun _ H1 => D.nx σ H1 := rfl
theorem w_asg : tAsg te g D σ H = te σ H fun x H1 => g x σ H1 D.nx := rfl
theorem w_gName {i : Nat} {x : V} {Qs : St → Hp → Prop} : gName i x σ H Qs = Qs (σ.set i (some x)) H := rfl
theorem w_op : tOp r ta tb σ H Q = ta σ H fun x H1 => tb σ H1 fun y H2 => r x y H2 Q := rfl
theorem w_un {f : V → Hp → VK → Prop} : tUn f ta σ H Q = ta σ H fun x H1 => f x H1 Q := rfl
variable {Qb : Bool → Hp → Prop} {Qs : List V → Hp → Prop}
theorem w_test : tTest te σ H Qb = te σ H fun x H' => ∃ k, x = .bl k ∧ Qb k H' := rfl
theorem w_B : tB te σ H Qb = te σ H fun x H' => ∃ k, x = .bl k ∧ Qb k H' := rfl
theorem w_bl {b : Bool} {P : Bool → Prop} : (∃ k, V.bl b = .bl k ∧ P k) = P b := by
  refine propext ⟨fun ⟨k, e, h⟩ => ?_, fun h => ⟨b, rfl, h⟩⟩
  cases e; exact h
theorem w_and : tAnd tA tB' σ H Qb = tA σ H fun c H1 => if c = true then tB' σ H1 Qb else Qb false H1 := rfl
theorem w_or : tOr tA tB' σ H Qb = tA σ H fun c H1 => if c = true then Qb true H1 else tB' σ H1 Qb := rfl
theorem w_not : tNot tA σ H Qb = tA σ H fun c H1 => Qb (!c) H1 := rfl
theorem w_andV : tAndV ta tb σ H Q = ta σ H fun x H1 => ∃ c, x = .bl c ∧ if c = true then tb σ H1 Q else Q (.bl false) H1 := rfl
theorem w_orV : tOrV ta tb σ H Q = ta σ H fun x H1 => ∃ c, x = .bl c ∧ if c = true then Q (.bl true) H1 else tb σ H1 Q := rfl
theorem w_notV : tNotV ta σ H Q = ta σ H fun x H1 => ∃ c, x = .bl c ∧ Q (.bl (!c)) H1 := rfl
theorem w_if : tIf tt ta tb σ H Q = tt σ H fun c H1 => if c = true then ta σ H1 Q else tb σ H1 Q := rfl
theorem w_true : tTrue σ H Qb = Qb true H := rfl
theorem w_nil : tNil σ H Qs = Qs [] H := rfl
theorem w_cons : tCons ta tl σ H Qs = ta σ H fun x H1 => tl σ H1 fun xs H2 => Qs (x :: xs) H2 := rfl
theorem w_tup : tTup tl σ H Q = tl σ H fun xs H1 => xs.length ≤ sizeLine ∧ ∀ p, H1 p = none → Q (.ref p) (upd H1 p (.tup xs)) := rfl
theorem w_lst : tLst tl σ H Q = tl σ H fun xs H1 => xs.length ≤ sizeLine ∧ ∀ p, H1 p = none → Q (.ref p) (upd H1 p (.lst xs)) := rfl
theorem w_call {sp : Sp} {dvs : List V} {E : XK} : tCall sp dvs E tl σ H Q = tl σ H fun vs H1 => sp (vs ++ dvs) H1 Q E := rfl
theorem w_CB {f : List V → Hp → VK → Prop} : tCB f tl σ H Q = tl σ H fun vs H1 => f vs H1 Q := rfl
theorem w_BM {T : String} {f : V → List V → Hp → VK → Prop} : tBM K T f te tl σ H Q = te σ H fun x H1 => tyV K T x H1 ∧ tl σ H1 fun xs H2 => f x xs H2 Q := rfl
theorem w_ty_str {T : String} {x : Str} : tyV K T (.str x) H = (T = "str") := rfl
theorem w_ty_list {T : String} {p : Addr} (h : T = "list") : tyV K T (.ref p) H = ∃ xs, SqL K H p xs := by
  subst h
  refine propext ⟨fun h => ?_, fun h => .inl ⟨rfl, h⟩⟩
  rcases h with ⟨_, h⟩ | ⟨h, _⟩ | ⟨h, _⟩ | ⟨h, _⟩
  · exact h
  · exact absurd h (by decide)
  · exact absurd h (by decide)
  · exact absurd h (by decide)
variable {tlo thi : TO} {Qo : Option Int → Hp → Prop}
theorem w_sl {f : V → Option Int → Option Int → Hp → VK → Prop} : tSl f te tlo thi σ H Q = te σ H fun x H1 => tlo σ H1 fun l H2 => thi σ H2 fun u H3 => f x l u H3 Q := rfl
theorem w_noPart : tNoPart σ H Qo = Qo none H := rfl
theorem w_part : tPart te σ H Qo = te σ H fun x H1 => ∃ i, x = .int i ∧ Qo (some i) H1 := rfl
theorem w_int {i : Int} {P : Int → Prop} : (∃ k, V.int i = .int k ∧ P k) = P i := by
  refine propext ⟨fun ⟨k, e, h⟩ => ?_, fun h => ⟨i, rfl, h⟩⟩
  cases e; exact h
variable {i j : Int} {x y : Str} {b c : Bool} {p q : Addr} {gi : Int → Int → V} {C : Int → Int → Prop}
theorem w_rI0 : rI0 gi (.int i) (.int j) H Q = Q (gi i j) H := by
  refine propext ⟨fun ⟨_, _, e1, e2, h⟩ => ?_, fun h => ⟨i, j, rfl, rfl, h⟩⟩
  cases e1; cases e2; exact h
theorem w_rI : rI C gi (.int i) (.int j) H Q = (C i j ∧ Q (gi i j) H) := by
  refine propext ⟨fun ⟨_, _, e1, e2, h⟩ => ?_, fun h => ⟨i, j, rfl, rfl, h⟩⟩
  cases e1; cases e2; exact h
theorem w_addI : rAddA K (.int i) (.int j) H Q = Q (.int (i + j)) H := by
  unfold rAddA
  rw [w_rI0]
  refine propext ⟨fun h => ?_, .inl⟩
  rcases h with h | ⟨_, _, e, _⟩ | ⟨_, _, _, _, e, _⟩ | ⟨_, _, _, _, e, _⟩
  · exact h
  all_goals cases e
theorem w_addS : rAddA K (.str x) (.str y) H Q = (x.length + y.length ≤ sizeLine ∧ Q (.str (x ++ y)) H) := by
  refine propext ⟨fun h => ?_, fun h => .inr (.inl ⟨x, y, rfl, rfl, h⟩)⟩
  rcases h with ⟨_, _, e, _⟩ | ⟨_, _, e1, e2, h⟩ | ⟨_, _, _, _, e, _⟩ | ⟨_, _, _, _, e, _⟩
  · cases e
  · cases e1; cases e2; exact h
  all_goals cases e
theorem w_mulI : rMulA (.int i) (.int j) H Q = (CMul i j ∧ Q (.int (i * j)) H) := by
  unfold rMulA
  rw [w_rI]
  refine propext ⟨fun h => ?_, .inl⟩
  rcases h with h | ⟨_, _, _, e, _⟩
  · exact h
  · cases e
theorem w_eqI : rEqA K (.int i) (.int j) H Q = Q (.bl (decide (i = j))) H := by
  refine propext ⟨fun h => ?_, fun h => .inl ⟨rfl, by simpa using h⟩⟩
  rcases h with ⟨_, h⟩ | ⟨_, _, _, _, e, _⟩
  · simpa using h
  · cases e
theorem w_eqS : rEqA K (.str x) (.str y) H Q = Q (.bl (decide (x = y))) H := by
  refine propext ⟨fun h => ?_, fun h => .inl ⟨rfl, by simpa using h⟩⟩
  rcases h with ⟨_, h⟩ | ⟨_, _, _, _, e, _⟩
  · simpa using h
  · cases e
theorem w_eqR : rEqA K (.ref p) (.ref q) H Q = rEqL K (.ref p) (.ref q) H Q := by
  refine propext ⟨fun h => ?_, .inr⟩
  rcases h with ⟨e, _⟩ | h
  · cases e
  · exact h
theorem w_neI : rNe (.int i) (.int j) H Q = Q (.bl (!decide (i = j))) H := by
  refine propext ⟨fun ⟨_, h⟩ => by simpa using h, fun h => ⟨rfl, by simpa using h⟩⟩
theorem w_neS : rNe (.str x) (.str y) H Q = Q (.bl (!decide (x = y))) H := by
  refine propext ⟨fun ⟨_, h⟩ => by simpa using h, fun h => ⟨rfl, by simpa using h⟩⟩
theorem w_ltI : rLtA (.int i) (.int j) H Q = Q (.bl (decide (i < j))) H := by
  unfold rLtA
  rw [w_rI0]
  refine propext ⟨fun h => ?_, .inl⟩
  rcases h with h | ⟨_, _, e, _⟩
  · exact h
  · cases e
theorem w_inS : rInA K false (.str x) (.str y) H Q = Q (.bl (inS x y)) H := by
  refine propext ⟨fun h => ?_, fun h => .inl ⟨x, y, rfl, rfl, h⟩⟩
  rcases h with ⟨_, _, e1, e2, h⟩ | ⟨_, _, e, _⟩
  · cases e1; cases e2; exact h
  · cases e
theorem w_notinS : rInA K true (.str x) (.str y) H Q = Q (.bl (!inS x y)) H := by
  refine propext ⟨fun h => ?_, fun h => .inl ⟨x, y, rfl, rfl, h⟩⟩
  rcases h with ⟨_, _, e1, e2, h⟩ | ⟨_, _, e, _⟩
  · cases e1; cases e2; exact h
  · cases e
theorem w_inR {v : V} : rInA K false v (.ref p) H Q = ∃ xs, (SqL K H p xs ∨ SqT K H p xs) ∧ flatV v = true ∧ xs.all flatV = true ∧ Q (.bl (inV v xs)) H := by
  refine propext ⟨fun h => ?_, fun ⟨xs, h⟩ => .inr ⟨p, xs, rfl, h⟩⟩
  rcases h with ⟨_, _, _, e2, _⟩ | ⟨_, xs, e, h⟩
  · cases e2
  · cases e; exact ⟨xs, h⟩
theorem w_notinR {v : V} : rInA K true v (.ref p) H Q = ∃ xs, (SqL K H p xs ∨ SqT K H p xs) ∧ flatV v = true ∧ xs.all flatV = true ∧ Q (.bl (!inV v xs)) H := by
  refine propext ⟨fun h => ?_, fun ⟨xs, h⟩ => .inr ⟨p, xs, rfl, h⟩⟩
  rcases h with ⟨_, _, _, e2, _⟩ | ⟨_, xs, e, h⟩
  · cases e2
  · cases e; exact ⟨xs, h⟩
theorem w_ixS : rIx K (.str x) (.int i) H Q = (x.length ≤ sizeLine ∧ ∃ c, atI x.cps.toList i = some c ∧ Q (.str ⟨#[c]⟩) H) := by
  refine propext ⟨fun h => ?_, fun ⟨h1, c, h2, h3⟩ => .inr (.inr ⟨x, i, c, rfl, rfl, h1, h2, h3⟩)⟩
  rcases h with ⟨_, _, _, _, e, _⟩ | ⟨_, _, _, _, e, _⟩ | ⟨_, _, c, e1, e2, h1, h2, h3⟩
  · cases e
  · cases e
  · cases e1; cases e2; exact ⟨h1, c, h2, h3⟩
theorem w_ixR : rIx K (.ref p) (.int i) H Q = ∃ xs, (SqL K H p xs ∨ SqT K H p xs) ∧ ∃ v, atI xs i = some v ∧ Q v H := by
  refine propext ⟨fun h => ?_, fun ⟨xs, h, v, e, q⟩ => ?_⟩
  · rcases h with ⟨_, xs, _, v, e1, e2, h1, h2, h3⟩ | ⟨_, xs, _, v, e1, e2, h1, h2, h3⟩ | ⟨_, _, _, e, _⟩
    · cases e1; cases e2; exact ⟨xs, .inl h1, v, h2, h3⟩
    · cases e1; cases e2; exact ⟨xs, .inr h1, v, h2, h3⟩
    · cases e
  · rcases h with h | h
    · exact .inl ⟨p, xs, i, v, rfl, rfl, h, e, q⟩
    · exact .inr (.inl ⟨p, xs, i, v, rfl, rfl, h, e, q⟩)
theorem w_lenS : rLen K [.str x] H Q = (x.length ≤ sizeLine ∧ Q (.int x.length) H) := by
  refine propext ⟨fun ⟨_, n, e, h, q⟩ => ?_, fun ⟨h, q⟩ => ⟨_, _, rfl, ⟨h, rfl⟩, q⟩⟩
  cases e
  obtain ⟨h1, rfl⟩ := h
  exact ⟨h1, q⟩
theorem w_lenR : rLen K [.ref p] H Q = ∃ xs, (SqL K H p xs ∨ SqT K H p xs) ∧ Q (.int (xs.length : Nat)) H := by
  refine propext ⟨fun ⟨_, n, e, h, q⟩ => ?_, fun ⟨xs, h, q⟩ => ?_⟩
  · cases e
    rcases h with ⟨xs, h, rfl⟩ | ⟨xs, h, rfl⟩
    · exact ⟨xs, .inl h, q⟩
    · exact ⟨xs, .inr h, q⟩
  · rcases h with h | h
    · exact ⟨_, _, rfl, .inl ⟨xs, h, rfl⟩, q⟩
    · exact ⟨_, _, rfl, .inr ⟨xs, h, rfl⟩, q⟩
theorem w_slS {lo hi : Option Int} : rSlA K (.str x) lo hi H Q = (x.length ≤ sizeLine ∧ Q (.str (Txt.slice x lo hi)) H) := by
  refine propext ⟨fun h => ?_, fun h => .inl ⟨x, rfl, h⟩⟩
  rcases h with ⟨_, e, h⟩ | ⟨_, _, e, _⟩ | ⟨_, _, e, _⟩
  · cases e; exact h
  · cases e
  · cases e
theorem w_all : rAll K [.ref p] H Q = ∃ bs : List Bool, SqL K H p (bs.map V.bl) ∧ Q (.bl (bs.all id)) H := by
  refine propext ⟨fun ⟨_, bs, e, h⟩ => ?_, fun ⟨bs, h⟩ => ⟨p, bs, rfl, h⟩⟩
  cases e; exact ⟨bs, h⟩
theorem w_join {sep : Str} : rJoin K (.str sep) [.ref p] H Q = ∃ ys : List Str, SqL K H p (ys.map V.str) ∧ (ys.map (·.length)).sum + ys.length * sep.length ≤ 16777216 ∧ Q (.str (Txt.join sep ys)) H := by
  refine propext ⟨fun ⟨_, _, ys, e1, e2, h⟩ => ?_, fun ⟨ys, h⟩ => ⟨sep, p, ys, rfl, rfl, h⟩⟩
  cases e1; cases e2; exact ⟨ys, h⟩
theorem w_intB {b : Bool} : rIntOf [.bl b] H Q = Q (.int (if b then 1 else 0)) H := by
  refine propext ⟨fun h => ?_, fun h => .inr ⟨b, rfl, h⟩⟩
  rcases h with ⟨_, e, _⟩ | ⟨_, e, h⟩
  · cases e
  · cases e; exact h
theorem w_intI : rIntOf [.int i] H Q = Q (.int i) H := by
  refine propext ⟨fun h => ?_, fun h => .inl ⟨i, rfl, h⟩⟩
  rcases h with ⟨_, e, h⟩ | ⟨_, e, _⟩
  · cases e; exact h
  · cases e
variable {R : It → Hp → Prop}
theorem w_itS : iAnyV K (.str x) H R = R (Its x) H := by
  refine propext ⟨fun h => ?_, fun h => .inl ⟨x, rfl, h⟩⟩
  rcases h with ⟨_, e, h⟩ | ⟨_, e, _⟩ | ⟨_, e, _⟩
  · cases e; exact h
  · cases e
  · cases e
theorem w_itR : iAnyV K (.ref p) H R = (((∃ xs, SqL K H p xs) ∧ R (Itl K p) H) ∨ ((∃ xs, SqT K H p xs) ∧ R (Itt K p) H)) := by
  refine propext ⟨fun h => ?_, fun h => ?_⟩
  · rcases h with ⟨_, e, _⟩ | ⟨_, e, h⟩ | ⟨_, e, h⟩
    · cases e
    · cases e; exact .inl h
    · cases e; exact .inr h
  · rcases h with h | h
    · exact .inr (.inl ⟨p, rfl, h⟩)
    · exact .inr (.inr ⟨p, rfl, h⟩)
theorem w_iAny : iAny K te σ H R = te σ H fun x H1 => iAnyV K x H1 R := rfl
theorem w_rng1 : iRng1 tl σ H R = tl σ H fun vs H1 => ∃ j : Int, vs = [.int j] ∧ -(2 ^ 62) ≤ j ∧ j < 2 ^ 62 ∧ R (Itr 0 j.toNat) H1 := rfl
theorem w_rngI {P : Int → Prop} : (∃ j : Int, [V.int i] = [.int j] ∧ P j) = P i := by
  refine propext ⟨fun ⟨_, e, h⟩ => ?_, fun h => ⟨i, rfl, h⟩⟩
  cases e; exact h
end
end L2
set_option Elab.async false
set_option linter.all false
set_option maxRecDepth 100000
set_option maxHeartbeats 4000000
namespace L2
open PySem PySem.Spec PyProof.Rows
section
variable {K : PySem.W.Frag} {H : Hp} {Q : VK} {σ : St} {D : Ends} {ta tb tc te ti to : TE} {i j : Int} {x y : Str} {p q : Addr} {v : V} {T : String} {lo hi : Option Int}
theorem w_ints2 {P : Int → Int → Prop} : (∃ i' j', [V.int i, V.int j] = [V.int i', V.int j'] ∧ P i' j') = P i j := by
  refine propext ⟨fun ⟨_, _, e, h⟩ => ?_, fun h => ⟨i, j, rfl, h⟩⟩
  cases e; exact h
theorem w_tupleOf : rTupleOf K [.ref p] H Q = ∃ ys, (SqL K H p ys ∧ ∀ l, H l = none → Q (.ref l) (upd H l (.tup ys))) ∨ (SqT K H p ys ∧ Q (.ref p) H) := by
  refine propext ⟨fun ⟨_, ys, e, h⟩ => ?_, fun ⟨ys, h⟩ => ⟨p, ys, rfl, h⟩⟩
  cases e; exact ⟨ys, h⟩
theorem w_listOf : rListOf K [.ref p] H Q = ∃ ys, (SqL K H p ys ∨ SqT K H p ys) ∧ ∀ l, H l = none → Q (.ref l) (upd H l (.lst ys)) := by
  refine propext ⟨fun ⟨_, ys, e, h⟩ => ?_, fun ⟨ys, h⟩ => ⟨p, ys, rfl, h⟩⟩
  cases e; exact ⟨ys, h⟩
theorem w_append : rAppend (.ref p) [v] H Q = ∃ xs, H p = some (.lst xs) ∧ xs.length < sizeLine ∧ Q .non (upd H p (.lst (xs ++ [v]))) := by
  refine propext ⟨fun ⟨_, xs, _, e1, e2, h⟩ => ?_, fun ⟨xs, h⟩ => ⟨p, xs, v, rfl, rfl, h⟩⟩
  cases e1; cases e2; exact ⟨xs, h⟩
theorem w_extend : rExtend (.ref p) [.ref q] H Q = ∃ xs zs, H p = some (.lst xs) ∧ H q = some (.lst zs) ∧ xs.length + zs.length ≤ sizeLine ∧ Q .non (upd H p (.lst (xs ++ zs))) := by
  refine propext ⟨fun ⟨_, _, xs, zs, e1, e2, h⟩ => ?_, fun ⟨xs, zs, h⟩ => ⟨p, q, xs, zs, rfl, rfl, h⟩⟩
  cases e1; cases e2; exact ⟨xs, zs, h⟩
theorem w_setL {Qh : Hp → Prop} : rSetL (.ref p) (.int i) v H Qh = ∃ xs j, H p = some (.lst xs) ∧ ixN xs.length i = some j ∧ Qh (upd H p (.lst (xs.set j v))) := by
  refine propext ⟨fun ⟨_, xs, _, j, e1, e2, h⟩ => ?_, fun ⟨xs, j, h⟩ => ⟨p, xs, i, j, rfl, rfl, h⟩⟩
  cases e1; cases e2; exact ⟨xs, j, h⟩
theorem w_gSub {t : TSet} {Qs : St → Hp → Prop} : gSub to ti t v σ H Qs = to σ H fun o H1 => ti σ H1 fun i H2 => t o i v H2 fun H3 => Qs σ H3 := rfl
theorem w_instInt : rInst K T [.int i, .ty T] H Q = ∃ b, PySem.W.kitOne K (.type "int") (.type T) = some b ∧ Q (.bl b) H := by
  refine propext ⟨fun ⟨_, _, b, e, t, h⟩ => ?_, fun ⟨b, h⟩ => ⟨_, _, b, rfl, .int i, h⟩⟩
  cases e; cases t; exact ⟨b, h⟩
theorem w_instStr : rInst K T [.str x, .ty T] H Q = ∃ b, PySem.W.kitOne K (.type "str") (.type T) = some b ∧ Q (.bl b) H := by
  refine propext ⟨fun ⟨_, _, b, e, t, h⟩ => ?_, fun ⟨b, h⟩ => ⟨_, _, b, rfl, .str x, h⟩⟩
  cases e; cases t; exact ⟨b, h⟩
theorem w_slR : rSlA K (.ref p) lo hi H Q = ∃ xs, (SqL K H p xs ∧ ∀ q, H q = none → Q (.ref q) (upd H q (.lst (cutV xs lo hi)))) ∨
    (SqT K H p xs ∧ ¬ (HT.sIx xs.length 0 lo = 0 ∧ HT.sIx xs.length xs.length hi = xs.length) ∧ ∀ q, H q = none → Q (.ref q) (upd H q (.tup (cutV xs lo hi)))) := by
  refine propext ⟨fun h => ?_, fun ⟨xs, h⟩ => ?_⟩
  · rcases h with ⟨_, e, _⟩ | ⟨_, xs, e, h⟩ | ⟨_, xs, e, h⟩
    · cases e
    · cases e; exact ⟨xs, .inl h⟩
    · cases e; exact ⟨xs, .inr h⟩
  · rcases h with h | h
    · exact .inr (.inl ⟨p, xs, rfl, h⟩)
    · exact .inr (.inr ⟨p, xs, rfl, h⟩)
theorem w_catR : rAddA K (.ref p) (.ref q) H Q = ∃ xs zs, (H p = some (.lst xs) ∧ H q = some (.lst zs) ∧ xs.length + zs.length ≤ sizeLine ∧ ∀ r, H r = none → Q (.ref r) (upd H r (.lst (xs ++ zs)))) ∨
    (SqT K H p xs ∧ SqT K H q zs ∧ xs ≠ [] ∧ xs.length + zs.length ≤ sizeLine ∧ (zs = [] → Q (.ref p) H) ∧ (zs ≠ [] → ∀ r, H r = none → Q (.ref r) (upd H r (.tup (xs ++ zs))))) := by
  refine propext ⟨fun h => ?_, fun ⟨xs, zs, h⟩ => ?_⟩
  · rcases h with ⟨_, _, e, _⟩ | ⟨_, _, e, _⟩ | ⟨_, _, xs, zs, e1, e2, h⟩ | ⟨_, _, xs, zs, e1, e2, h⟩
    · cases e
    · cases e
    · cases e1; cases e2; exact ⟨xs, zs, .inl h⟩
    · cases e1; cases e2; exact ⟨xs, zs, .inr h⟩
  · rcases h with h | h
    · exact .inr (.inr (.inl ⟨p, q, xs, zs, rfl, rfl, h⟩))
    · exact .inr (.inr (.inr ⟨p, q, xs, zs, rfl, rfl, h⟩))
end
theorem mtR_append {X : Cx} : MtR X "list.append" rAppend := mt_append
theorem mtR_extend {X : Cx} : MtR X "list.extend" rExtend := mt_extend
theorem Same.upd {H0 H : Hp} {p : Addr} {o : HO} (s : Same H0 H) (h : H0 p = none) : Same H0 (upd H p o) := fun b u q => by rw [upd_ne (ne_of_none q h)]; exact s b u q
theorem keep1 {H : Hp} {p a : Addr} {o u : HO} (hn : H p = none) (h : H a = some u) : upd H p o a = some u := by rw [upd_ne (ne_of_none h hn)]; exact h
inductive Bi where | and | or | thn
  deriving DecidableEq
def Bi.txt : Bi → Str | .and => "and" | .or => "or" | .thn => "then"
def qtx : Bool → Str | true => "all" | false => "some"
inductive Stm where
  | is (w : Str) (ts : List Str) | fls | neg (A : Stm) | bi (o : Bi) (A B : Stm) | qu (q : Bool) (X : Str) (A : Stm)
  deriving DecidableEq
namespace Stm
def deep : Stm → Nat
  | .is _ _ => 1 | .fls => 1 | .neg A => A.deep + 1 | .bi _ A B => max A.deep B.deep + 1 | .qu _ _ A => A.deep + 1
def size : Stm → Nat
  | .is _ _ => 1 | .fls => 1 | .neg A => A.size + 1 | .bi _ A B => A.size + B.size + 1 | .qu _ _ A => A.size + 1
def parts : Stm → List Stm
  | .is _ _ => [] | .fls => [] | .neg A => [A] | .bi _ A B => [A, B] | .qu _ _ A => [A]
def tag : Stm → Str
  | .is _ _ => "is" | .fls => "false" | .neg _ => "not" | .bi o _ _ => o.txt | .qu q _ _ => qtx q
theorem deep_pos (S : Stm) : 1 ≤ S.deep := by cases S <;> simp [deep]
end Stm
def smallS : Str := "abcdefghijklmnopqrstuvwxyz"
def greatS : Str := "ABCDEFGHIJKLMNOPQRSTUVWXYZ"
def sofS : Str := "abcdefghijklmnopqrstuvwxyz0123456789"
def keptW : List Str := ["not", "and", "or", "then", "all", "some", "false"]
def Nm (f x : Str) : Prop := ∃ c r, x.cps.toList = c :: r ∧ c ∈ f.cps.toList ∧ (∀ d ∈ r, d ∈ sofS.cps.toList) ∧ r.length ≤ 7 ∧ x ∉ keptW
def Stm.Ok : Stm → Prop
  | .is w ts => Nm smallS w ∧ ts.length ≤ 3 ∧ ∀ t ∈ ts, Nm smallS t ∨ Nm greatS t
  | .fls => True
  | .neg A => A.Ok
  | .bi _ A B => A.Ok ∧ B.Ok
  | .qu _ X A => Nm greatS X ∧ A.Ok
theorem Nm.len {f x : Str} (h : Nm f x) : x.length ≤ 8 ∧ 1 ≤ x.length := by
  obtain ⟨c, r, e, _, _, h, _⟩ := h
  have : x.length = x.cps.toList.length := by simp [Str.length]
  rw [this, e, List.length_cons]
  omega
def RepS (K : PySem.W.Frag) (H : Hp) : Stm → V → Prop
  | .is w ts, v => ∃ a b, v = .ref a ∧ SqT K H a [.str "is", .str w, .ref b] ∧ SqT K H b (ts.map V.str)
  | .fls, v => ∃ a, v = .ref a ∧ SqT K H a [.str "false"]
  | .neg A, v => ∃ a u, v = .ref a ∧ SqT K H a [.str "not", u] ∧ RepS K H A u
  | .bi o A B, v => ∃ a u u', v = .ref a ∧ SqT K H a [.str o.txt, u, u'] ∧ RepS K H A u ∧ RepS K H B u'
  | .qu q X A, v => ∃ a u, v = .ref a ∧ SqT K H a [.str (qtx q), .str X, u] ∧ RepS K H A u
theorem RepS.same {K : PySem.W.Frag} {H H' : Hp} (e : Same H H') : ∀ {S : Stm} {v : V}, RepS K H S v → RepS K H' S v
  | .is _ _, _, ⟨a, b, h1, h2, h3⟩ => ⟨a, b, h1, e.seqT h2, e.seqT h3⟩
  | .fls, _, ⟨a, h1, h2⟩ => ⟨a, h1, e.seqT h2⟩
  | .neg _, _, ⟨a, u, h1, h2, h3⟩ => ⟨a, u, h1, e.seqT h2, RepS.same e h3⟩
  | .bi _ _ _, _, ⟨a, u, u', h1, h2, h3, h4⟩ => ⟨a, u, u', h1, e.seqT h2, RepS.same e h3, RepS.same e h4⟩
  | .qu _ _ _, _, ⟨a, u, h1, h2, h3⟩ => ⟨a, u, h1, e.seqT h2, RepS.same e h3⟩
theorem RepS.tag {K : PySem.W.Frag} {H : Hp} {S : Stm} {v : V} (h : RepS K H S v) : ∃ a xs, v = .ref a ∧ SqT K H a (.str S.tag :: xs) := by
  cases S with
  | is w ts => obtain ⟨a, b, h1, h2, _⟩ := h; exact ⟨a, _, h1, h2⟩
  | fls => obtain ⟨a, h1, h2⟩ := h; exact ⟨a, _, h1, h2⟩
  | neg A => obtain ⟨a, u, h1, h2, _⟩ := h; exact ⟨a, _, h1, h2⟩
  | bi o A B => obtain ⟨a, u, u', h1, h2, _⟩ := h; exact ⟨a, _, h1, h2⟩
  | qu q X A => obtain ⟨a, u, h1, h2, _⟩ := h; exact ⟨a, _, h1, h2⟩
abbrev RepL (K : PySem.W.Frag) (H : Hp) : List Stm → List V → Prop := Paired (RepS K H)
theorem RepL.same {K : PySem.W.Frag} {H H' : Hp} (e : Same H H') {Ss : List Stm} {vs : List V} (h : RepL K H Ss vs) : RepL K H' Ss vs := Paired.mapP h fun _ _ => RepS.same e
theorem RepL.get {K : PySem.W.Frag} {H : Hp} : ∀ {Ss : List Stm} {vs : List V} {i : Nat} {v : V}, RepL K H Ss vs → vs[i]? = some v → ∃ S, Ss[i]? = some S ∧ RepS K H S v
  | _, _, _, _, .nil, e => by simp at e
  | _, _, 0, _, .cons r _, e => by simp at e; subst e; exact ⟨_, rfl, r⟩
  | _, _, i + 1, x, .cons _ t, e => by
    obtain ⟨u, h1, h2⟩ := RepL.get (i := i) (v := x) t (by simpa using e)
    exact ⟨u, by simpa using h1, h2⟩
def cellI (ns : List Int) (k : Int) : Int := if k < (ns.length : Int) then ns.getD k.toNat 0 else 0
def spCell (K : PySem.W.Frag) : Sp := fun vs H Q _ => ∃ (a : Addr) (ns : List Int) (k : Int), vs = [.ref a, .int k] ∧ SqL K H a (ns.map V.int) ∧ 0 ≤ k ∧ Q (.int (cellI ns k)) H
def mixedI (ns : List Int) (k : Int) : Int :=
  let c := if 0 < ns.length then ns.getD (k % (ns.length : Int)).toNat 0 else 0
  (c + 7919 * k) * 48271 % 2147483647 * ((c + 7919 * k) * 48271 % 2147483647) % 2147483647
def spMixed (K : PySem.W.Frag) : Sp := fun vs H Q _ => ∃ (a : Addr) (ns : List Int) (k : Int), vs = [.ref a, .int k] ∧ SqL K H a (ns.map V.int) ∧ 0 ≤ k ∧ k < 100000 ∧ Q (.int (mixedI ns k)) H
def spSignBy : Sp := fun vs H Q _ => ∃ n f, vs = [.int n, .str f] ∧ 0 < f.length ∧ f.length ≤ 1000 ∧ ∀ c ∈ f.cps.toList, Q (.str ⟨#[c]⟩) H
def spNameBy : Sp := fun vs H Q _ => ∃ n f t, vs = [.int n, .str f, .int t] ∧ (f = smallS ∨ f = greatS) ∧ ∀ x H', Same H H' → Nm f x → Q (.str x) H'
def spSmallBy (K : PySem.W.Frag) : Sp := fun vs H Q _ => ∃ n b, vs = [.int n, .int b] ∧ ∀ S v H', Same H H' → RepS K H' S v → S.Ok → S.deep = 1 → S.size = 1 → Q v H'
def spWrapped (K : PySem.W.Frag) : Sp := fun vs H Q _ => ∃ v n u b A B, vs = [v, .int n, u, .int b] ∧ RepS K H A v ∧ RepS K H B u ∧ A.Ok ∧ B.Ok ∧
  ∀ S w H', Same H H' → RepS K H' S w → S.Ok → S.deep ≤ max A.deep B.deep + 1 → S.size ≤ A.size + B.size + 1 → Q w H'
def spStmtBy (K : PySem.W.Frag) : Sp := fun vs H Q _ => ∃ (a : Addr) (ns : List Int) (k m : Int), vs = [.ref a, .int k, .int m] ∧ SqL K H a (ns.map V.int) ∧ 0 ≤ k ∧ k ≤ 800 ∧ 0 ≤ m ∧ m ≤ 39 ∧
  ∀ S v H', Same H H' → RepS K H' S v → S.Ok → S.deep ≤ 40 → S.size ≤ 500 → Q v H'
def spManyBy : Sp := fun vs H Q _ => ∃ c, vs = [.int c] ∧ ∀ m, 0 ≤ m → m ≤ 39 → Q (.int m) H
theorem cps_inj {x y : Str} (h : x.cps.toList = y.cps.toList) : x = y := by
  cases x; cases y
  simpa using h
theorem cps_append' (x y : Str) : (x ++ y).cps.toList = x.cps.toList ++ y.cps.toList := by
  rw [Str.cps_append]; simp
theorem len_cps (x : Str) : x.cps.toList.length = x.length := by simp [Str.length]
theorem join_signs : ∀ cs : List Nat, (Txt.join "" (cs.map fun c => (⟨#[c]⟩ : Str))).cps.toList = cs := by
  intro cs
  show (Builtin.Str.glued "" _).cps.toList = cs
  rw [StrLaws.glued_eq_join]
  induction cs with
  | nil => rfl
  | cons c r ih =>
    cases r with
    | nil => rfl
    | cons d r =>
      show ((⟨#[c]⟩ : Str) ++ "" ++ Str.join "" _).cps.toList = _
      rw [cps_append', cps_append', ih]
      rfl
theorem range_ix (p q : Int) (a b : Nat) (hp : p = a) (hq : q = b) : sliceRange p q 1 = (List.range (b - a)).map fun k => a + k := by
  subst hp hq
  unfold sliceRange
  simp only [show (1 : Int) > 0 by decide, if_true]
  by_cases hab : a < b
  · rw [if_pos (by omega)]
    have e : (((b : Int) - a + 1 - 1) / 1).toNat = b - a := by omega
    rw [e]
    refine List.map_congr_left fun k _ => ?_
    omega
  · rw [if_neg (by omega), show b - a = 0 by omega]
    rfl
theorem slice_ix (lo hi : Option Int) (n : Nat) : Builtin.Str.strSliceIndices lo hi 1 n = (List.range (HT.sIx n n hi - HT.sIx n 0 lo)).map fun k => HT.sIx n 0 lo + k := by
  have cl : ∀ (v : Int) (d : Nat), max 0 (min (if v < 0 then v + (n : Int) else v) (n : Int)) = ((HT.sIx n d (some v) : Nat) : Int) := fun v d => by
    rw [← HT.clip_eq]; split <;> omega
  refine range_ix _ _ _ _ ?_ ?_
  · cases lo with
    | none => rfl
    | some v => exact cl v 0
  · cases hi with
    | none => rfl
    | some v => exact cl v n
theorem slice_cps (x : Str) (lo hi : Option Int) : (Txt.slice x lo hi).cps.toList = (x.cps.toList.drop (HT.sIx x.length 0 lo)).take (HT.sIx x.length x.length hi - HT.sIx x.length 0 lo) := by
  have hl := len_cps x
  have ha : HT.sIx x.length 0 lo ≤ x.length := HT.sIx_le _ 0 (Nat.zero_le _) lo
  have hb : HT.sIx x.length x.length hi ≤ x.length := HT.sIx_le _ _ (Nat.le_refl _) hi
  unfold Txt.slice
  rw [slice_ix]
  generalize HT.sIx x.length 0 lo = a at *
  generalize HT.sIx x.length x.length hi = b at *
  split
  · rename_i h
    simp at h
    have : a = 0 ∧ b = x.length ∨ x.length = 0 := by omega
    rcases this with ⟨rfl, rfl⟩ | h0
    · rw [List.drop_zero, Nat.sub_zero, List.take_of_length_le (by omega)]
    · have : x.cps.toList = [] := List.eq_nil_of_length_eq_zero (by omega)
      rw [this]; simp
  · by_cases hab : a ≤ b
    · have h := StrLaws.picks x.cps.toList (b - a) a (by rw [hl]; omega)
      rw [← h]
      simp only [List.toList_toArray]
      congr 1
      funext k
      simp
    · rw [show b - a = 0 by omega]; simp
theorem slice_to (x : Str) (n : Nat) : (Txt.slice x none (some (n : Int))).cps.toList = x.cps.toList.take n := by
  have hl := len_cps x
  rw [slice_cps, HT.sIx_nat, HT.sIx_none, List.drop_zero, Nat.sub_zero, ← hl, List.take_eq_take_iff]
  simp
theorem slice_from (x : Str) (n : Nat) : (Txt.slice x (some (n : Int)) none).cps.toList = x.cps.toList.drop n := by
  have hl := len_cps x
  rw [slice_cps, HT.sIx_nat, HT.sIx_none]
  rw [List.take_of_length_le (by rw [List.length_drop]; omega)]
  by_cases h : n ≤ x.length
  · rw [Nat.min_eq_left h]
  · rw [List.drop_eq_nil_of_le (by omega), List.drop_eq_nil_of_le (by omega)]
theorem pickC {x : Str} {i : Int} {P : Nat → Prop} (h : 0 < x.length) (k : ∀ c ∈ x.cps.toList, P c) : ∃ c, atI x.cps.toList (i % (x.length : Int)) = some c ∧ P c := by
  have e := len_cps x
  obtain ⟨c, hc', hc⟩ := atI_some (xs := x.cps.toList) (i := i % (x.length : Int)) (Int.emod_nonneg _ (by omega)) (by rw [e]; exact Int.emod_lt_of_pos _ (by omega))
  exact ⟨c, hc, k c hc'⟩
theorem cdiv {i j : Int} (h : 0 < j := by decide) (h2 : j < 1073741824 := by decide) : CDiv i j := ⟨h, h2⟩
theorem cmulL {i j : Int} (h : -(2 ^ 64) < i ∧ i < 2 ^ 64 := by decide) : CMul i j := .inl h
theorem cmulR {i j : Int} (h : -(2 ^ 64) < j ∧ j < 2 ^ 64 := by decide) : CMul i j := .inr h
theorem atI_ints {ns : List Int} {i : Int} (h0 : 0 ≤ i) (h1 : i < (ns.length : Int)) : atI (ns.map V.int) i = some (.int (ns.getD i.toNat 0)) := by
  have hk : i.toNat < ns.length := by omega
  rw [atI_getD (d := .int 0) h0 (by simpa using h1)]
  simp [hk]
theorem pickS {ts : List Str} {i : Int} (h0 : 0 ≤ i) (h1 : i < (ts.length : Int)) : ∃ z, z ∈ ts ∧ atI (ts.map V.str) i = some (.str z) := by
  have hk : i.toNat < ts.length := by omega
  refine ⟨ts[i.toNat], List.getElem_mem hk, ?_⟩
  rw [atI_getD (d := .non) h0 (by simpa using h1)]
  simp [hk]
theorem pickI {ts : List Int} {i : Int} (h0 : 0 ≤ i) (h1 : i < (ts.length : Int)) : ∃ z, z ∈ ts ∧ atI (ts.map V.int) i = some (.int z) := by
  have hk : i.toNat < ts.length := by omega
  refine ⟨ts[i.toNat], List.getElem_mem hk, ?_⟩
  rw [atI_getD (d := .non) h0 (by simpa using h1)]
  simp [hk]
theorem ixN_in {n : Nat} {i : Int} (h0 : 0 ≤ i) (h1 : i < n) : ixN n i = some i.toNat := by
  unfold ixN; rw [if_pos h0, if_pos h1]
theorem signs_len : ∀ cs : List Nat, ((cs.map fun c => (⟨#[c]⟩ : Str)).map (·.length)).sum = cs.length
  | [] => rfl
  | c :: r => by rw [List.map_cons, List.map_cons, List.sum_cons, signs_len r, List.length_cons]; show 1 + _ = _; omega
theorem inS_one (c : Nat) (x : Str) : inS ⟨#[c]⟩ x = decide (c ∈ x.cps.toList) := StrLaws.found_one x c
theorem inV_strs (x : Str) : ∀ ts : List Str, inV (.str x) (ts.map V.str) = decide (x ∈ ts)
  | [] => by simp [inV]
  | t :: ts => by
    have ih := inV_strs x ts
    unfold inV at ih ⊢
    rw [List.map_cons, List.any_cons, ih]
    have e : eqV (V.str t) (V.str x) = decide (x = t) := by
      show (t == x) = decide (x = t)
      by_cases h : x = t
      · subst h; simp
      · have h' : ¬ t = x := fun e => h e.symm
        simp [h, h']
    rw [e]
    simp
theorem flat_strs (ts : List Str) : (ts.map V.str).all flatV = true := by
  rw [List.all_map, List.all_eq_true]; intro t _; rfl
def GoodS (f : Str) (cs : List Nat) : Prop := ∃ c r, cs = c :: r ∧ c ∈ f.cps.toList ∧ (∀ d ∈ r, d ∈ sofS.cps.toList) ∧ r.length ≤ 7
theorem good_0 {f : Str} {cs : List Nat} {c0 c1 : Nat} (hl : 1 ≤ cs.length) (hl' : cs.length ≤ 8) (hcs : ∀ c ∈ cs, c ∈ sofS.cps.toList) (h1 : c1 ∈ f.cps.toList) : GoodS f ((cs.set 0 c0).set 0 c1) := by
  cases cs with
  | nil => simp at hl
  | cons d r => exact ⟨c1, r, rfl, h1, fun e he => hcs e (List.mem_cons_of_mem _ he), by simpa using hl'⟩
theorem good_n {f : Str} {cs : List Nat} {c0 c1 j : Nat} (hj : j ≠ 0) (hl : 1 ≤ cs.length) (hl' : cs.length ≤ 8) (hcs : ∀ c ∈ cs, c ∈ sofS.cps.toList) (h0 : c0 ∈ f.cps.toList) (h1 : c1 ∈ sofS.cps.toList) : GoodS f ((cs.set 0 c0).set j c1) := by
  cases cs with
  | nil => simp at hl
  | cons d r =>
    cases j with
    | zero => exact absurd rfl hj
    | succ j =>
      refine ⟨c0, r.set j c1, rfl, h0, fun e he => ?_, by simpa using hl'⟩
      rcases List.mem_or_eq_of_mem_set he with he | rfl
      · exact hcs e (List.mem_cons_of_mem _ he)
      · exact h1
theorem small_sof : ∀ c ∈ smallS.cps.toList, c ∈ sofS.cps.toList := by decide +kernel
theorem kept_small : ∀ z ∈ keptW, 1 ≤ z.length ∧ z.length ≤ 5 ∧ ∀ c ∈ z.cps.toList, c ∈ smallS.cps.toList := by decide +kernel
theorem kept_pre : ∀ z ∈ keptW, ∀ y ∈ keptW, y.cps.toList.take z.length = z.cps.toList → y = z := by decide +kernel
theorem kept_last : ∀ y ∈ keptW, y.cps.toList.getLast? ≠ some 48 := by decide +kernel
theorem nm_plain {f x : Str} {cs : List Nat} (g : GoodS f cs) (e : x.cps.toList = cs) (h : x ∉ keptW) : Nm f x := by
  obtain ⟨c, r, rfl, h1, h2, h3⟩ := g
  exact ⟨c, r, e, h1, h2, h3, h⟩
theorem nm_nought {f x y : Str} {cs : List Nat} (g : GoodS f cs) (e : x.cps.toList = cs) (h : x ∈ keptW) (ey : y = x ++ "0") : Nm f y := by
  obtain ⟨c, r, rfl, h1, h2, h3⟩ := g
  have hl := (kept_small x h).2.1
  rw [← len_cps, e, List.length_cons] at hl
  have e2 : y.cps.toList = c :: (r ++ [48]) := by
    rw [ey, cps_append', e]; rfl
  refine ⟨c, r ++ [48], e2, h1, fun d hd => ?_, by rw [List.length_append, List.length_singleton]; omega, fun hy => ?_⟩
  · rcases List.mem_append.mp hd with q | q
    · exact h2 d q
    · rw [List.mem_singleton.mp q]; decide +kernel
  · refine kept_last y hy ?_
    rw [e2, ← List.cons_append, List.getLast?_concat]
theorem nm_begun {x y z : Str} {cs : List Nat} (g : GoodS smallS cs) (e : x.cps.toList = cs) (h : z ∈ keptW) (ey : y = Txt.slice (z ++ x) none (some 8)) : Nm smallS y := by
  obtain ⟨c, r, rfl, h1, h2, h3⟩ := g
  obtain ⟨k1, k2, k3⟩ := kept_small z h
  have lz := len_cps z
  have e2 : y.cps.toList = (z.cps.toList ++ c :: r).take 8 := by
    rw [ey]
    have := slice_to (z ++ x) 8
    rw [show ((8 : Nat) : Int) = 8 from rfl] at this
    rw [this, cps_append', e]
  have e3 : y.cps.toList = z.cps.toList ++ (c :: r).take (8 - z.length) := by
    rw [e2, List.take_append, List.take_of_length_le (by omega), lz]
  obtain ⟨m, hm⟩ : ∃ m, 8 - z.length = m + 1 := ⟨7 - z.length, by omega⟩
  rw [hm, List.take_succ_cons] at e3
  cases hz : z.cps.toList with
  | nil => rw [hz] at lz; simp at lz; omega
  | cons d q =>
    rw [hz] at e3 k3 lz
    refine ⟨d, q ++ c :: r.take m, e3, k3 d List.mem_cons_self, fun b hb => ?_, ?_, fun hy => ?_⟩
    · rcases List.mem_append.mp hb with hb | hb
      · exact small_sof b (k3 b (List.mem_cons_of_mem _ hb))
      · rcases List.mem_cons.mp hb with rfl | hb
        · exact small_sof b h1
        · exact h2 b (List.mem_of_mem_take hb)
    · rw [List.length_append, List.length_cons, List.length_take]
      simp at lz
      omega
    · have q1 := kept_pre z h y hy (by rw [e3, hz, ← lz]; simp)
      have q2 := congrArg List.length e3
      rw [q1, hz] at q2
      simp at q2
def spParts (K : PySem.W.Frag) : Sp := fun vs H Q _ => ∃ v S, vs = [v] ∧ RepS K H S v ∧ ∀ p us H', Same H H' → SqT K H' p us → RepL K H' S.parts us → Q (.ref p) H'
def spPartsL (K : PySem.W.Frag) : Sp := fun vs H Q _ => ∃ v S, vs = [v] ∧ RepS K H S v ∧ ∀ p us H', Same H H' → H' p = some (.lst us) → RepL K H' S.parts us → Q (.ref p) H'
theorem bi_no_quant (o : Bi) : inV (.str o.txt) [V.str "all", V.str "some"] = false := by cases o <;> decide +kernel
theorem qu_quant (q : Bool) : inV (.str (qtx q)) [V.str "all", V.str "some"] = true := by cases q <;> decide +kernel
theorem bi_is (o : Bi) : ¬ o.txt = "is" := by cases o <;> decide +kernel
theorem bi_false (o : Bi) : ¬ o.txt = "false" := by cases o <;> decide +kernel
theorem bi_not (o : Bi) : ¬ o.txt = "not" := by cases o <;> decide +kernel
theorem bi_all (o : Bi) : ¬ o.txt = "all" := by cases o <;> decide +kernel
theorem bi_some (o : Bi) : ¬ o.txt = "some" := by cases o <;> decide +kernel
theorem qu_is (q : Bool) : ¬ qtx q = "is" := by cases q <;> decide +kernel
theorem qu_false (q : Bool) : ¬ qtx q = "false" := by cases q <;> decide +kernel
theorem qu_not (q : Bool) : ¬ qtx q = "not" := by cases q <;> decide +kernel
end L2
set_option Elab.async false
set_option linter.all false
set_option maxRecDepth 100000
set_option maxHeartbeats 4000000
namespace L2
open PySem PySem.Spec PyProof.Rows
section
variable {X : Cx} {K : PySem.W.Frag} {H : Hp} {Q : VK} {p q : Addr}
def rJoinA (K : PySem.W.Frag) : V → List V → Hp → VK → Prop := fun x vs H Q => ∃ (sep : Str) (p : Addr) (ys : List Str), x = .str sep ∧ vs = [.ref p] ∧ (SqL K H p (ys.map V.str) ∨ SqT K H p (ys.map V.str)) ∧ (ys.map (·.length)).sum + ys.length * sep.length ≤ 16777216 ∧ Q (.str (Txt.join sep ys)) H
theorem mt_joinA : MtR X "str.join" (rJoinA X.K) := by
  intro pins s σ H x vs v us Q I rx rv h
  obtain ⟨sep, p, ys, rfl, rfl, hq, hz, q⟩ := h
  rcases hq with hq | hq
  · exact mt_join pins s σ H _ _ v us Q I rx rv ⟨sep, p, ys, rfl, rfl, hq, hz, q⟩
  · obtain ⟨t, rfl⟩ := rx
    obtain ⟨u, rfl, ru⟩ := vals1 rv
    cases ru
    obtain ⟨its, r', pl, _⟩ := I.tuple hq
    exact join_tuple pl (by simpa using strsAre_of r') hz fun t' k => ⟨.str _, H, I.tok _, ⟨t', rfl⟩, q⟩
theorem mtB_join (K : PySem.W.Frag) (hK : X.K = K := by rfl) : MtR X "str.join" (rJoinA K) := hK ▸ (mt_joinA : MtR X "str.join" (rJoinA X.K))
theorem w_joinA {sep : Str} : rJoinA K (.str sep) [.ref p] H Q = ∃ ys : List Str, (SqL K H p (ys.map V.str) ∨ SqT K H p (ys.map V.str)) ∧ (ys.map (·.length)).sum + ys.length * sep.length ≤ 16777216 ∧ Q (.str (Txt.join sep ys)) H := by
  refine propext ⟨fun ⟨_, _, ys, e1, e2, h⟩ => ?_, fun ⟨ys, h⟩ => ⟨sep, p, ys, rfl, rfl, h⟩⟩
  cases e1; cases e2; exact ⟨ys, h⟩
end
inductive EqD (K : PySem.W.Frag) (H : Hp) : Nat → V → V → Bool → Prop
  | flat {n : Nat} {x y : V} (hx : flatV x = true) (hy : flatV y = true) : EqD K H n x y (eqV x y)
  | tups {n : Nat} {a b : Addr} {xs ys : List V} (e : Nat → Bool) (ha : SqT K H a xs) (hb : SqT K H b ys) (he : ∀ (j : Nat) x y, xs[j]? = some x → ys[j]? = some y → EqD K H n x y (e j)) :
      EqD K H (n + 1) (.ref a) (.ref b) ((List.range (min xs.length ys.length)).all e && xs.length == ys.length)
  | lsts {n : Nat} {a b : Addr} {xs ys : List V} (e : Nat → Bool) (ha : SqL K H a xs) (hb : SqL K H b ys) (hl : xs.length = ys.length) (he : ∀ (j : Nat) x y, xs[j]? = some x → ys[j]? = some y → EqD K H n x y (e j)) :
      EqD K H (n + 1) (.ref a) (.ref b) ((List.range xs.length).all e)
  | lstsN {n : Nat} {a b : Addr} {xs ys : List V} (ha : SqL K H a xs) (hb : SqL K H b ys) (hl : xs.length ≠ ys.length) : EqD K H (n + 1) (.ref a) (.ref b) false
  | strTup {n : Nat} {a : Addr} {x : Str} {xs : List V} (ha : SqT K H a xs) : EqD K H (n + 1) (.str x) (.ref a) false
  | tupStr {n : Nat} {a : Addr} {x : Str} {xs : List V} (ha : SqT K H a xs) : EqD K H (n + 1) (.ref a) (.str x) false
  | nonTup {n : Nat} {a : Addr} {xs : List V} (ha : SqT K H a xs) : EqD K H (n + 1) .non (.ref a) false
  | tupNon {n : Nat} {a : Addr} {xs : List V} (ha : SqT K H a xs) : EqD K H (n + 1) (.ref a) .non false
section
variable {X : Cx} {pins : List (Addr × Obj)} {σ : St} {H : Hp} {s : Shared}
theorem eqV_self {x : V} (h : flatV x = true) : eqV x x = true := by
  cases x <;> simp_all [flatV, eqV]
theorem EqD.self (I : Inv X pins σ H s) {n : Nat} {x y : V} {b : Bool} (h : EqD X.K H n x y b) : x = y → b = true := by
  induction h with
  | flat hx hy => rintro rfl; exact eqV_self hx
  | @tups n a b xs ys e ha hb he ih =>
    intro q
    cases q
    have := I.tuple_inj ha hb
    subst this
    rw [Bool.and_eq_true]
    refine ⟨List.all_eq_true.mpr fun j hj => ?_, by simp⟩
    have hj' : j < xs.length := by simpa using hj
    exact ih j xs[j] xs[j] (by simp [hj']) (by simp [hj']) rfl
  | @lsts n a b xs ys e ha hb hl he ih =>
    intro q
    cases q
    have := I.list_inj ha hb
    subst this
    refine List.all_eq_true.mpr fun j hj => ?_
    have hj' : j < xs.length := by simpa using hj
    exact ih j xs[j] xs[j] (by simp [hj']) (by simp [hj']) rfl
  | lstsN ha hb hl =>
    intro q
    cases q
    exact absurd (congrArg List.length (I.list_inj ha hb)) hl
  | strTup => intro q; cases q
  | tupStr => intro q; cases q
  | nonTup => intro q; cases q
  | tupNon => intro q; cases q
theorem getD_some {xs : List V} {its : List Value} (r : Vals xs its) {j : Nat} (h : j < its.toArray.size) : ∃ x, xs[j]? = some x ∧ RelV x its.toArray[j] := by
  have h' : j < its.length := by simpa using h
  have hx : j < xs.length := by rw [r.length]; exact h'
  obtain ⟨u, e, ru⟩ := r.get (i := j) (x := xs[j]) (by simp [hx])
  have : its[j]? = some its[j] := by simp [h']
  rw [this] at e
  cases e
  exact ⟨xs[j], by simp [hx], by simpa using ru⟩
theorem EqD.at (I : Inv X pins σ H s) {n : Nat} {x y : V} {b : Bool} (h : EqD X.K H n x y b) : ∀ {A : Around} {u v : Value}, A.units + n < cLine → RelV x u → RelV y v →
    SeqAt.EqAt A s u v b ∧ ((flatV x = false ∨ flatV y = false) → SeqAt.RcAt A s u v b) := by
  induction h with
  | flat hx hy =>
    intro A u v _ ru rv
    exact ⟨eqAt_V ru rv hx hy, fun e => by rw [hx, hy] at e; simp at e⟩
  | @tups n a b xs ys e ha hb he ih =>
    intro A u v hu ru rv
    cases ru; cases rv
    obtain ⟨its, r1, p1, _⟩ := I.tuple ha
    obtain ⟨its2, r2, p2, _⟩ := I.tuple hb
    have l1 : its.toArray.size = xs.length := by rw [List.size_toArray]; exact r1.length.symm
    have l2 : its2.toArray.size = ys.length := by rw [List.size_toArray]; exact r2.length.symm
    have rc : SeqAt.RcAt A s (.ref a) (.ref b) ((List.range (min xs.length ys.length)).all e && xs.length == ys.length) := by
      have := SeqAt.RcAt.tuples (A := A) (e := e) p1 p2 (by omega) (fun j h1 h2 => by
        obtain ⟨x, ex, rx⟩ := getD_some r1 h1
        obtain ⟨y, ey, ry⟩ := getD_some r2 h2
        exact (ih j x y ex ey (A := A.in1) (by show A.units + 1 + n < cLine; omega) rx ry).1)
      rw [l1, l2] at this
      exact this
    refine ⟨?_, fun _ => rc⟩
    by_cases hab : a = b
    · subst hab
      have := EqD.self I (.tups e ha hb he) rfl
      rw [this]
      exact SeqAt.EqAt.same _
    · exact SeqAt.EqAt.of_refs hab rc
  | @lsts n a b xs ys e ha hb hl he ih =>
    intro A u v hu ru rv
    cases ru; cases rv
    obtain ⟨its, r1, p1, _⟩ := I.list ha
    obtain ⟨its2, r2, p2, _⟩ := I.list hb
    have l1 : its.toArray.size = xs.length := by rw [List.size_toArray]; exact r1.length.symm
    have l2 : its2.toArray.size = ys.length := by rw [List.size_toArray]; exact r2.length.symm
    have rc : SeqAt.RcAt A s (.ref a) (.ref b) ((List.range xs.length).all e) := by
      have := SeqAt.RcAt.lists (A := A) (e := e) p1.isList p2.isList (by omega) (by omega) (fun j h1 h2 => by
        obtain ⟨x, ex, rx⟩ := getD_some r1 h1
        obtain ⟨y, ey, ry⟩ := getD_some r2 h2
        exact (ih j x y ex ey (A := A.in1) (by show A.units + 1 + n < cLine; omega) rx ry).1)
      rw [l1] at this
      exact this
    refine ⟨?_, fun _ => rc⟩
    by_cases hab : a = b
    · subst hab
      have := EqD.self I (.lsts e ha hb hl he) rfl
      rw [this]
      exact SeqAt.EqAt.same _
    · exact SeqAt.EqAt.of_refs hab rc
  | @lstsN n a b xs ys ha hb hl =>
    intro A u v hu ru rv
    cases ru; cases rv
    obtain ⟨its, r1, p1, _⟩ := I.list ha
    obtain ⟨its2, r2, p2, _⟩ := I.list hb
    have l1 : its.toArray.size = xs.length := by rw [List.size_toArray]; exact r1.length.symm
    have l2 : its2.toArray.size = ys.length := by rw [List.size_toArray]; exact r2.length.symm
    have rc := SeqAt.RcAt.lists_lengths (A := A) p1.isList p2.isList (by rw [l1, l2]; simpa using hl) (by omega)
    refine ⟨?_, fun _ => rc⟩
    by_cases hab : a = b
    · subst hab
      exact absurd (congrArg List.length (I.list_inj ha hb)) hl
    · exact SeqAt.EqAt.of_refs hab rc
  | strTup ha =>
    intro A u v hu ru rv
    cases rv; obtain ⟨t, rfl⟩ := ru
    obtain ⟨its, r1, p1, _⟩ := I.tuple ha
    exact ⟨SeqAt.EqAt.str_tuple _ _ p1 (by omega), fun _ => SeqAt.RcAt.str_tuple _ _ p1 (by omega)⟩
  | tupStr ha =>
    intro A u v hu ru rv
    cases ru; obtain ⟨t, rfl⟩ := rv
    obtain ⟨its, r1, p1, _⟩ := I.tuple ha
    exact ⟨SeqAt.EqAt.tuple_str _ _ p1 (by omega), fun _ => SeqAt.RcAt.tuple_str _ _ p1 (by omega)⟩
  | nonTup ha =>
    intro A u v hu ru rv
    cases rv; cases ru
    obtain ⟨its, r1, p1, _⟩ := I.tuple ha
    exact ⟨SeqAt.EqAt.none_tuple p1 (by omega), fun _ => SeqAt.RcAt.none_tuple p1 (by omega)⟩
  | tupNon ha =>
    intro A u v hu ru rv
    cases ru; cases rv
    obtain ⟨its, r1, p1, _⟩ := I.tuple ha
    exact ⟨SeqAt.EqAt.tuple_none p1 (by omega), fun _ => SeqAt.RcAt.tuple_none p1 (by omega)⟩
end
section
variable {X : Cx} {K : PySem.W.Frag} {H : Hp} {Q : VK} {p q : Addr} {i j : Int} {x y : Str}
def rEqD (K : PySem.W.Frag) : R2 := fun x y H Q => ∃ d b, d ≤ 60 ∧ (flatV x = false ∨ flatV y = false) ∧ EqD K H d x y b ∧ Q (.bl b) H
theorem op_eqD (hu : X.A.units + 64 < cLine) : OpR X (compareOp .Eq) (rEqD X.K) := by
  intro pins s σ H x y v u Q I rx ry h
  obtain ⟨d, b, hd, e, h, k⟩ := h
  exact (h.at I (A := X.A) (by omega) rx ry).2 e X.prog X.w X.xe _ ⟨.bl b, H, I, rfl, k⟩
def rEqB (K : PySem.W.Frag) : R2 := fun x y H Q => rEq x y H Q ∨ rEqD K x y H Q
theorem opB_eq (K : PySem.W.Frag) (hu : X.A.units + 64 < cLine) (hK : X.K = K := by rfl) : OpR X (compareOp .Eq) (rEqB K) := hK ▸ (OpR.or op_eq (op_eqD hu) : OpR X (compareOp .Eq) (rEqB X.K))
theorem w_eqIB : rEqB K (.int i) (.int j) H Q = Q (.bl (decide (i = j))) H := by
  refine propext ⟨fun h => ?_, fun h => .inl ⟨rfl, by simpa using h⟩⟩
  rcases h with ⟨_, h⟩ | ⟨_, _, _, e, _⟩
  · simpa using h
  · rcases e with e | e <;> cases e
theorem w_eqSB : rEqB K (.str x) (.str y) H Q = Q (.bl (decide (x = y))) H := by
  refine propext ⟨fun h => ?_, fun h => .inl ⟨rfl, by simpa using h⟩⟩
  rcases h with ⟨_, h⟩ | ⟨_, _, _, e, _⟩
  · simpa using h
  · rcases e with e | e <;> cases e
theorem w_eqR_ {u : V} : rEqB K (.ref p) u H Q = ∃ d b, d ≤ 60 ∧ EqD K H d (.ref p) u b ∧ Q (.bl b) H := by
  refine propext ⟨fun h => ?_, fun ⟨d, b, hd, h, k⟩ => .inr ⟨d, b, hd, .inl rfl, h, k⟩⟩
  rcases h with ⟨e, _⟩ | ⟨d, b, hd, _, h, k⟩
  · cases u <;> cases e
  · exact ⟨d, b, hd, h, k⟩
theorem w_eq_R {u : V} : rEqB K u (.ref p) H Q = ∃ d b, d ≤ 60 ∧ EqD K H d u (.ref p) b ∧ Q (.bl b) H := by
  refine propext ⟨fun h => ?_, fun ⟨d, b, hd, h, k⟩ => .inr ⟨d, b, hd, .inr rfl, h, k⟩⟩
  rcases h with ⟨e, _⟩ | ⟨d, b, hd, _, h, k⟩
  · cases u <;> cases e
  · exact ⟨d, b, hd, h, k⟩
inductive TyB (K : PySem.W.Frag) (H : Hp) : V → Value → Prop where
  | of {x : V} {t : Value} (h : TyOf K H x t) : TyB K H x t
  | tup {a : Addr} {xs : List V} (h : SqT K H a xs) : TyB K H (.ref a) (.type "tuple")
  | lst {a : Addr} {xs : List V} (h : SqL K H a xs) : TyB K H (.ref a) (.type "list")
def rInstB (K : PySem.W.Frag) (T : String) : List V → Hp → VK → Prop := fun vs H Q => ∃ x t b, vs = [x, .ty T] ∧ TyB K H x t ∧ PySem.W.kitOne K t (.type T) = some b ∧ Q (.bl b) H
theorem call_instB {T : String} : CallR X (.builtin "isinstance") (rInstB X.K T) := by
  intro pins s σ H xs us Q I r h
  obtain ⟨x, t, b, rfl, ty, e, q⟩ := h
  cases ty with
  | of ty => exact call_inst pins s σ H _ us Q I r ⟨x, t, b, rfl, ty, e, q⟩
  | tup hq =>
    obtain ⟨u, u2, rfl, rx, r2⟩ := vals2 r
    cases (show u2 = Value.type T from r2)
    cases rx
    obtain ⟨its, _, ⟨o, h1, h2, _⟩, _⟩ := I.tuple hq
    exact PySem.W.kia_one PySem.W.kitx_tuple I.kIn ⟨o, h1, h2⟩ e (fun z => nomatch z) fun tk => ⟨.bl b, H, I.tok tk, rfl, q⟩
  | lst hq =>
    obtain ⟨u, u2, rfl, rx, r2⟩ := vals2 r
    cases (show u2 = Value.type T from r2)
    cases rx
    obtain ⟨its, _, pl, _⟩ := I.list hq
    obtain ⟨o, h1, h2, _⟩ := pl.isList
    exact PySem.W.kia_one PySem.W.kitx_list I.kIn ⟨o, h1, h2⟩ e (fun z => nomatch z) fun tk => ⟨.bl b, H, I.tok tk, rfl, q⟩
theorem callB_inst (K : PySem.W.Frag) (T : String) (hK : X.K = K := by rfl) : CallR X (.builtin "isinstance") (rInstB K T) := hK ▸ (call_instB : CallR X (.builtin "isinstance") (rInstB X.K T))
theorem w_instIntB {T : String} : rInstB K T [.int i, .ty T] H Q = ∃ b, PySem.W.kitOne K (.type "int") (.type T) = some b ∧ Q (.bl b) H := by
  refine propext ⟨fun ⟨_, _, b, e, t, h⟩ => ?_, fun ⟨b, h⟩ => ⟨_, _, b, rfl, .of (.int i), h⟩⟩
  cases e
  rcases t with t | t | t
  cases t; exact ⟨b, h⟩
theorem w_instStrB {T : String} : rInstB K T [.str x, .ty T] H Q = ∃ b, PySem.W.kitOne K (.type "str") (.type T) = some b ∧ Q (.bl b) H := by
  refine propext ⟨fun ⟨_, _, b, e, t, h⟩ => ?_, fun ⟨b, h⟩ => ⟨_, _, b, rfl, .of (.str x), h⟩⟩
  cases e
  rcases t with t | t | t
  cases t; exact ⟨b, h⟩
theorem w_instRB {T : String} : rInstB K T [.ref p, .ty T] H Q = ∃ t b, TyB K H (.ref p) t ∧ PySem.W.kitOne K t (.type T) = some b ∧ Q (.bl b) H := by
  refine propext ⟨fun ⟨_, t, b, e, ty, h⟩ => ?_, fun ⟨t, b, ty, h⟩ => ⟨_, t, b, rfl, ty, h⟩⟩
  cases e; exact ⟨t, b, ty, h⟩
end
theorem EqD.strs {K : PySem.W.Frag} {H : Hp} {n : Nat} {a b : Addr} {ts : List Str} (ha : SqT K H a (ts.map V.str)) (hb : SqT K H b (ts.map V.str)) : EqD K H (n + 1) (.ref a) (.ref b) true := by
  have h := EqD.tups (n := n) (fun _ => true) ha hb fun j x y hx hy => by
    rw [hx] at hy
    cases hy
    rw [List.getElem?_map] at hx
    cases e : ts[j]? with
    | none => rw [e] at hx; cases hx
    | some t =>
      rw [e] at hx
      cases hx
      have : eqV (V.str t) (V.str t) = true := eqV_self rfl
      rw [← this]
      exact .flat rfl rfl
  have e : ((List.range (min (ts.map V.str).length (ts.map V.str).length)).all (fun _ => true) && (ts.map V.str).length == (ts.map V.str).length) = true := by simp
  rw [e] at h
  exact h
theorem EqD.two {K : PySem.W.Frag} {H : Hp} {n : Nat} {a b : Addr} {xs ys : List V} (hl : xs.length = ys.length) (ha : SqT K H a xs) (hb : SqT K H b ys) (h : ∀ (j : Nat) x y, xs[j]? = some x → ys[j]? = some y → EqD K H n x y true) : EqD K H (n + 1) (.ref a) (.ref b) true := by
  have h := EqD.tups (n := n) (fun _ => true) ha hb h
  have e : ((List.range (min xs.length ys.length)).all (fun _ => true) && xs.length == ys.length) = true := by simp [hl]
  rw [e] at h
  exact h
theorem EqD.str {K : PySem.W.Frag} {H : Hp} {n : Nat} (x : Str) : EqD K H n (.str x) (.str x) true := by
  have : eqV (V.str x) (V.str x) = true := eqV_self rfl
  have h : EqD K H n (.str x) (.str x) (eqV (V.str x) (V.str x)) := .flat rfl rfl
  rw [this] at h
  exact h
theorem EqD.more {K : PySem.W.Frag} {H : Hp} {n m : Nat} {x y : V} {b : Bool} (h : EqD K H n x y b) : n ≤ m → EqD K H m x y b := by
  induction h generalizing m with
  | flat hx hy => intro _; exact .flat hx hy
  | tups e ha hb he ih =>
    intro hm
    obtain ⟨m, rfl⟩ : ∃ k, m = k + 1 := ⟨m - 1, by omega⟩
    exact .tups e ha hb fun j x y hx hy => ih j x y hx hy (by omega)
  | lsts e ha hb hl he ih =>
    intro hm
    obtain ⟨m, rfl⟩ : ∃ k, m = k + 1 := ⟨m - 1, by omega⟩
    exact .lsts e ha hb hl fun j x y hx hy => ih j x y hx hy (by omega)
  | lstsN ha hb hl => intro hm; obtain ⟨m, rfl⟩ : ∃ k, m = k + 1 := ⟨m - 1, by omega⟩; exact .lstsN ha hb hl
  | strTup ha => intro hm; obtain ⟨m, rfl⟩ : ∃ k, m = k + 1 := ⟨m - 1, by omega⟩; exact .strTup ha
  | tupStr ha => intro hm; obtain ⟨m, rfl⟩ : ∃ k, m = k + 1 := ⟨m - 1, by omega⟩; exact .tupStr ha
  | nonTup ha => intro hm; obtain ⟨m, rfl⟩ : ∃ k, m = k + 1 := ⟨m - 1, by omega⟩; exact .nonTup ha
  | tupNon ha => intro hm; obtain ⟨m, rfl⟩ : ∃ k, m = k + 1 := ⟨m - 1, by omega⟩; exact .tupNon ha
def Stm.txt : Stm → Str
  | .is w ts => if ts.length = 0 then w else w ++ "(" ++ Txt.join ", " ts ++ ")"
  | .fls => "false"
  | .neg A => "not " ++ A.txt
  | .bi o A B => "(" ++ A.txt ++ " " ++ o.txt ++ " " ++ B.txt ++ ")"
  | .qu q X A => qtx q ++ " " ++ X ++ " " ++ A.txt
theorem l1 : ("(" : Str).length = 1 := by decide +kernel
theorem l2 : (")" : Str).length = 1 := by decide +kernel
theorem l3 : (" " : Str).length = 1 := by decide +kernel
theorem l4 : (", " : Str).length = 2 := by decide +kernel
theorem l5 : ("not " : Str).length = 4 := by decide +kernel
theorem l6 : ("false" : Str).length = 5 := by decide +kernel
end L2
set_option Elab.async false
set_option linter.all false
set_option maxRecDepth 100000
set_option maxHeartbeats 4000000
namespace L2
open PySem PySem.Spec PyProof.Rows
section
variable {t : SetTable} {es : Array (Int × Value)} {h : Int} {x : Value} {n : Nat}
theorem orStandIn_led : (t.orStandIn n).led = t.led := by unfold SetTable.orStandIn; split <;> rfl
theorem orStandIn_plain (p : t.plain = false) : (t.orStandIn n).plain = false := by unfold SetTable.orStandIn; split; exact p; rfl
theorem layNew_led : (layNew t es h x).2.1.led = t.led := by
  unfold layNew
  split
  · exact orStandIn_led
  · rfl
theorem layNew_plain (p : t.plain = false) : (layNew t es h x).2.1.plain = false := by
  unfold layNew
  split
  · exact orStandIn_plain p
  · rfl
theorem relaid_keeps {hs : Array Int} {wanted : Nat} {t' : SetTable} {order : Array Nat} (e : t.relaid hs wanted = some (t', order)) : t'.led = t.led ∧ t'.plain = t.plain := by
  unfold SetTable.relaid SetTable.laid at e
  cases q : SetTable.layClean (SetTable.sizeAbove wanted - 1) hs with
  | none => rw [q] at e; cases e
  | some owner => rw [q] at e; cases e; exact ⟨rfl, rfl⟩
theorem relayAll_led {wanted : Nat} : (relayAll t es wanted).2.1.led = t.led := by
  unfold relayAll
  split
  · rename_i t' order e
    dsimp only
    split
    · exact (relaid_keeps e).1
    · rfl
  · rfl
theorem relayAll_plain {wanted : Nat} (p : t.plain = false) : (relayAll t es wanted).2.1.plain = false := by
  unfold relayAll
  split
  · rename_i t' order e
    dsimp only
    split
    · exact (relaid_keeps e).2.trans p
    · rfl
  · rfl
end
def svT : Value → Str
  | .str x _ => x
  | _ => ""
def setTexts (es : Array (Int × Value)) : List Str := es.toList.map fun e => svT e.2
def byText (w : World) : Bool := w.params.followText "set-order"
def SetS (prog : Program) (w : World) (h : Heap) (a : Addr) (us : List Str) : Prop :=
  ∃ o es ep tb, h.get? a = some o ∧ o.ExactSet ∧ o.data = .set es ep tb ∧ ElemsOf (PySem.strKind prog w) es.toList ∧ setTexts es = us ∧ us.Nodup ∧ es.size < scanBound ∧ tb.fits es.size = true ∧ tb.led = !byText w ∧ (us ≠ [] → tb.plain = false)
theorem is_str {prog : Program} {w : World} {x : Str} {v : Value} (e : (PySem.strKind prog w).is x v = true) : svT v = x := by
  obtain ⟨t, rfl⟩ := Value.isStrOf_shape e
  rfl
theorem str_is {prog : Program} {w : World} (x : Str) (t : Tok) : (PySem.strKind prog w).is x (.str x t) = true := keyIs_str x t
theorem SetS.at {prog : Program} {w : World} {h h' : Heap} {a : Addr} {us : List Str} (s : SetS prog w h a us) (k : ∀ o, h.get? a = some o → h'.get? a = some o) : SetS prog w h' a us := by
  obtain ⟨o, es, ep, tb, ho, r⟩ := s
  exact ⟨o, es, ep, tb, k o ho, r⟩
theorem found_iff_mem {prog : Program} {w : World} {x : Str} : ∀ {l : List (Int × Value)}, ElemsOf (PySem.strKind prog w) l → ((∃ e ∈ l, (PySem.strKind prog w).is x e.2 = true) ↔ x ∈ l.map fun e => svT e.2) := by
  intro l hl
  constructor
  · rintro ⟨e, he, q⟩
    rw [List.mem_map]
    exact ⟨e, he, is_str q⟩
  · intro hx
    obtain ⟨e, he, q⟩ := List.mem_map.mp hx
    obtain ⟨⟨k, hk, _⟩, _⟩ := hl e he
    have := is_str hk
    rw [q] at this
    subst this
    exact ⟨e, he, hk⟩
section
variable {prog : Program} {w : World} {A : Around} {E : Value → Shared → Prop} {s : Shared}
theorem SetS.stored {hp : Heap} {a : Addr} {o : Obj} {es es1 : Array (Int × Value)} {ep : Nat} {t t1 : SetTable} (ho : hp.get? a = some o) (hx : o.ExactSet) (hd : o.data = .set es ep t)
    (hel : ElemsOf (PySem.strKind prog w) es1.toList) (nd : (setTexts es1).Nodup) (hb : es1.size < scanBound) (hf : t1.fits es1.size = true) (hl : t1.led = !byText w) (hp1 : t1.plain = false) :
    SetS prog w (hp.update a (Obj.putSet es1 t1)) a (setTexts es1) ∧ (hp.update a (Obj.putSet es1 t1)).get? a = some { o with data := .set es1 (ep + 1) t1 } := by
  have g := (SetOf_store (knd := PySem.strKind prog w) (S' := fun k => decide (∃ e ∈ es1.toList, (PySem.strKind prog w).is k e.2 = true)) ho hx hd hel (fun k => by rw [decide_eq_true_eq]) hb hf).1
  exact ⟨⟨_, es1, ep + 1, t1, g, hx, rfl, hel, rfl, nd, hb, hf, hl, fun _ => hp1⟩, g⟩
theorem texts_perm {es es1 : Array (Int × Value)} (p : List.Perm es1.toList es.toList) : List.Perm (setTexts es1) (setTexts es) := p.map _
theorem set_add_str {a : Addr} {us : List Str} {x : Str} {tk : Tok} {Q : Bool → Shared → Prop} (hS : SetS prog w s.heap a us) (hroom : us.length + 1 < scanBound)
    (yes : x ∈ us → Q false s) (no : x ∉ us → ∀ hp us', Heap.SameBut a s.heap hp → List.Perm us' (us ++ [x]) → SetS prog w hp a us' → Q true { s with heap := hp }) :
    wpAny (model prog w) A (setAddHashed a (.str x tk) ((PySem.strKind prog w).hash x)) Q E s := by
  obtain ⟨o, es, ep, tb, ho, hex, hd, hel, hus, nd, hb, hf, hl, hpl⟩ := hS
  have hkey : (PySem.strKind prog w).is x (.str x tk) = true := str_is x tk
  have hsc : (Value.str x tk).scannable = true := rfl
  have hlen : us.length = es.size := by rw [← hus]; simp [setTexts]
  unfold setAddHashed setAddHashedIn
  refine wpAny_holding (wpAny_bind (wpAny_setState_of ho hd hf ?_))
  dsimp only
  rw [byScan_of hsc hb hel, if_pos rfl]
  unfold setAddByScan
  refine wpAny_bind (wpAny_bind (wpAny_rule (wpAny_bind (wpAny_setScan_of hkey ho hd hf hel ?_))))
  cases hr : List.findIdx? (fun e => (PySem.strKind prog w).is x e.2) es.toList with
  | some j =>
    dsimp only
    obtain ⟨hj, q, _⟩ := List.findIdx?_eq_some_iff_getElem.mp hr
    have hm : x ∈ us := by rw [← hus]; exact (found_iff_mem hel).mp ⟨_, List.getElem_mem hj, q⟩
    exact wpAny_pure (wpAny_pure (yes hm))
  | none =>
    dsimp only
    have hm : x ∉ us := fun hm => by
      rw [← hus] at hm
      obtain ⟨e, he, q⟩ := (found_iff_mem hel).mpr hm
      have z := List.findIdx?_eq_none_iff.mp hr e he
      rw [q] at z
      cases z
    have gw : ∀ (b : Bool) {s₁ : Shared} {Q' : Unit → Shared → Prop}, Q' () s₁ → wpAny (model prog w) A (match b with | true => rule "set.scan.the-table-gave-way" | false => pure ()) Q' E s₁ := fun b s₁ Q' hq => by
      cases b
      · exact wpAny_pure hq
      · exact wpAny_rule hq
    have p1 := layNew_perm tb es ((PySem.strKind prog w).hash x) (.str x tk)
    have f1 := layNew_fits tb es ((PySem.strKind prog w).hash x) (.str x tk)
    have l1' := layNew_led (t := tb) (es := es) (h := (PySem.strKind prog w).hash x) (x := .str x tk)
    have g1 := layNew_plain (t := tb) (es := es) (h := (PySem.strKind prog w).hash x) (x := .str x tk)
    generalize layNew tb es ((PySem.strKind prog w).hash x) (.str x tk) = L at p1 f1 l1' g1 ⊢
    obtain ⟨es1, t1, wd, gave⟩ := L
    dsimp only at p1 f1 l1' g1 ⊢
    rw [Array.toList_push] at p1
    have el1 : ElemsOf (PySem.strKind prog w) es1.toList := (hel.push hkey hsc).perm p1
    have pu : List.Perm (setTexts es1) (us ++ [x]) := by
      have := p1.map fun e => svT e.2
      rw [List.map_append, List.map_singleton] at this
      rw [← hus]
      exact this
    have nd1 : (setTexts es1).Nodup := pu.nodup_iff.mpr (List.nodup_append.mpr ⟨nd, by simp, fun y hy z hz => by
      rw [List.mem_singleton] at hz
      subst hz
      exact fun e => hm (e ▸ hy)⟩)
    have sz1 : es1.size = es.size + 1 := by rw [← Array.length_toList, p1.length_eq, List.length_append, Array.length_toList]; rfl
    have b1 : es1.size < scanBound := by omega
    refine wpAny_bind (gw _ ?_)
    have go : ∀ t2 : SetTable, t2.fits es1.size = true → t2.led = !byText w → t2.plain = false → wpAny (model prog w) A (do
        storeSet a es1 t2
        if (!wd && t2.tooFull) = true then do
            (match (relayAll t2 es1 (SetTable.grown es1.size)).2.2 with | true => rule "set.scan.the-table-gave-way" | false => pure ())
            storeSet a (relayAll t2 es1 (SetTable.grown es1.size)).1 (relayAll t2 es1 (SetTable.grown es1.size)).2.1
            pure (some true)
          else pure (some true)) (fun r s' => r = some true ∧ Q true s') E s := fun t2 f2 l2' g2 => by
      refine wpAny_bind (wpAny_storeSet_of ho hd ?_ (fits_of_scanBound b1))
      obtain ⟨S1, o1⟩ := SetS.stored (prog := prog) (w := w) ho hex hd el1 nd1 b1 f2 l2' g2
      have sb1 := Heap.SameBut.update s.heap a (Obj.putSet es1 t2)
      split
      · have p3 := relayAll_perm t2 es1 (SetTable.grown es1.size)
        have f3 := relayAll_fits t2 es1 (SetTable.grown es1.size)
        have l3 := relayAll_led (t := t2) (es := es1) (wanted := SetTable.grown es1.size)
        have g3 := relayAll_plain (t := t2) (es := es1) (wanted := SetTable.grown es1.size) g2
        generalize relayAll t2 es1 (SetTable.grown es1.size) = R3 at p3 f3 l3 g3 ⊢
        obtain ⟨es2, t3, gave2⟩ := R3
        dsimp only at p3 f3 l3 g3 ⊢
        have sz2 : es2.size = es1.size := by rw [← Array.length_toList, p3.length_eq, Array.length_toList]
        have p4 := texts_perm p3
        refine wpAny_bind (gw _ (wpAny_bind (wpAny_storeSet_of o1 rfl ?_ (fits_of_scanBound (by omega)))))
        obtain ⟨S2, _⟩ := SetS.stored (prog := prog) (w := w) o1 hex rfl (el1.perm p3) (p4.nodup_iff.mpr nd1) (by omega) f3 (l3.trans l2') g3
        exact wpAny_pure ⟨rfl, no hm _ _ (sb1.trans (Heap.SameBut.update _ a _)) (p4.trans pu) S2⟩
      · exact wpAny_pure ⟨rfl, no hm _ _ sb1 pu S1⟩
    split
    · refine wpAny_bind ?_
      rw [hashByValue_scannable 8 hsc]
      refine wpAny_pure (wpAny_mono (go _ (SetTable.fits_plain_off f1) (l1'.trans hl) rfl) (fun r s' h => ?_) fun _ _ h => h)
      obtain ⟨rfl, h⟩ := h
      exact wpAny_pure h
    · rename_i hq
      refine wpAny_bind (wpAny_pure ?_)
      rw [if_pos rfl]
      refine wpAny_mono (go _ f1 (l1'.trans hl) (by simpa using hq)) (fun r s' h => ?_) fun _ _ h => h
      obtain ⟨rfl, h⟩ := h
      exact wpAny_pure h
end
section
variable {prog : Program} {w : World} {A : Around} {E : Value → Shared → Prop} {s : Shared}
abbrev freshSet (w : World) : Obj := { cls := .type "set", dict := none, data := .set #[] 0 (.fresh 0 0 (!byText w)) }
theorem freshSet_is {hp : Heap} {a : Addr} (e : hp.get? a = some (freshSet w)) : SetS prog w hp a [] :=
  ⟨_, #[], 0, _, e, ⟨rfl, rfl, rfl⟩, rfl, fun x hx => by simp at hx, rfl, List.nodup_nil, by decide, by rfl, rfl, fun z => absurd rfl z⟩
theorem set_new_led (x : Value) {Q : Value → Shared → Prop} (h : Q (.ref s.heap.objs.size) { s with heap := s.heap.push (freshSet w) }) :
    codeAny (model prog w) A (.call (.builtin "set.__new__") ⟨[.type "set", x], []⟩) (wants Q E) s := by
  apply codeAny_of_tree
  show wpAny _ A.in1 (checkBuiltinCall "set.__new__" ⟨[.type "set", x], []⟩ >>= fun _ => again (.builtin "set.__new__" ⟨[.type "set", x], []⟩)) _ _ s
  apply wpAny_bind
  apply wpAny_of_eq (PySem.F.newCall_set_1 x)
  refine wpAny_pure ⟨plainId_quiet PySem.F.plain_set_new _, codeAny_builtin PySem.F.entry_set_new ?_⟩
  rw [show A.under (.builtin "set.__new__" ⟨[.type "set", x], []⟩) = A.in1 from Around.under_plainId PySem.F.plain_set_new _]
  unfold Builtin.«set.__new__»; unfold Builtin.Frozenset.newClass
  have sub := PySem.F.called_set.sub
  obtain ⟨hp, g, d, tk, os⟩ := s
  dsimp only; wp_walk
  apply wpAny_askSetting; apply wpAny_pure
  dsimp only; simp only [newObj]
  exact wpAny_bind (wpAny_alloc (wpAny_pure (wpAny_pure h)))
end
section
variable {prog : Program} {w : World} {A : Around} {R : Result → Shared → Prop} {I : Addr} {fp wr : List Addr} {G : Array GenState → Array GenState → Prop} {n : Nat} {P : Nat → Value → Prop} {St : Nat → Shared → Prop}
theorem set_loop (W : WalksS prog w A.in1 I fp wr G n P St) {S : Addr} (hSf : S ∉ fp) (val : Nat → Str) (hval : ∀ i v, P i v → ∃ t, v = .str (val i) t) (hb : n + 1 < scanBound) :
    ∀ (k i : Nat) (s : Shared) (us : List Str), n - i = k → i ≤ n → St i s → SetS prog w s.heap S us → us.length ≤ i → (∀ x, x ∈ us ↔ ∃ j, j < i ∧ val j = x) →
      (∀ s' us', Moved (S :: wr) G s s' → SetS prog w s'.heap S us' → us'.length ≤ n → (∀ x, x ∈ us' ↔ ∃ j, j < n ∧ val j = x) → R (.ok (.ret .none)) s') →
      codeAny (model prog w) A (.builtin "set.update.loop" ⟨[.ref S, .ref I], []⟩) R s := by
  have hSw : S ∉ wr := fun q => hSf (W.sub _ q)
  have sub : ∀ b ∈ wr, b ∈ S :: wr := fun b q => List.mem_cons_of_mem _ q
  intro k
  induction k with
  | zero =>
    intro i s us hk hi st hS hlen hmem hR
    obtain rfl : i = n := by omega
    apply codeAny_builtin PyProof.Rows.F.entry_set_update_loop
    rw [Around.under_plainId PyProof.Rows.F.plain_set_update_loop _]
    show wpAny _ A.in1 (pyNext (.ref I) >>= _) _ _ s
    apply wpAny_bind
    refine W.done s _ _ st fun s' hm => ?_
    show wpAny _ A.in1 (ret Value.none) _ _ s'
    exact wpAny_pure (hR s' us (hm.mono sub) (hS.at fun o ho => hm.heap S o hSw ho) hlen hmem)
  | succ k ih =>
    intro i s us hk hi st hS hlen hmem hR
    have hlt : i < n := by omega
    apply codeAny_builtin PyProof.Rows.F.entry_set_update_loop
    rw [Around.under_plainId PyProof.Rows.F.plain_set_update_loop _]
    show wpAny _ A.in1 (pyNext (.ref I) >>= _) _ _ s
    apply wpAny_bind
    refine W.item i s _ _ hlt st fun v s' hP st' hm => ?_
    obtain ⟨t, rfl⟩ := hval i v hP
    have hS' : SetS prog w s'.heap S us := hS.at fun o ho => hm.heap S o hSw ho
    show wpAny _ A.in1 (holding [Value.str (val i) t] (setAdd S (.str (val i) t)) >>= _) _ _ s'
    apply wpAny_bind; apply wpAny_holding
    unfold setAdd
    apply wpAny_holding; apply wpAny_bind
    refine (PySem.strKind prog w).pyHash (k := val i) (str_is _ _) ?_
    have step : ∀ (hp : Heap) (us' : List Str), Heap.SameBut S s'.heap hp → SetS prog w hp S us' → us'.length ≤ i + 1 → (∀ x, x ∈ us' ↔ ∃ j, j < i + 1 ∧ val j = x) →
        wpAny (model prog w) A.in1 (again (.builtin "set.update.loop" ⟨[.ref S, .ref I], []⟩)) (fun fin s₂ => match fin with | .done f => R (.ok f) s₂ | .again c => c.quiet = true ∧ codeAny (model prog w) A c R s₂) (fun e s₂ => R (.error e) s₂) { s' with heap := hp, toks := s'.toks + 1 } := fun hp us' sb S2 l2 m2 => by
      refine wpAny_pure ⟨plainId_quiet PyProof.Rows.F.plain_set_update_loop _, ih (i + 1) _ us' (by omega) hlt (W.frame _ s' _ _ st' (Nat.le_succ _) fun b q o e => ?_) S2 l2 m2 fun s'' us2 hm2 S3 l3 m3 => ?_⟩
      · exact (sb.2 b fun z : b = S => hSf (z ▸ q)).trans e
      · exact hR s'' us2 (Moved.trans W.gtrans ((hm.mono sub).then_heap (Nat.le_succ _) fun b o q e => (sb.2 b fun z : b = S => q (z ▸ List.mem_cons_self)).trans e) hm2) S3 l3 m3
    refine set_add_str (s := { s' with toks := s'.toks + 1 }) hS' (by omega) (fun hx => ?_) fun hx hp us' sb pu S2 => ?_
    · exact step s'.heap us (Heap.SameBut.refl S s'.heap) hS' (by omega) fun x => by
        rw [hmem]
        constructor
        · rintro ⟨j, hj, e⟩; exact ⟨j, by omega, e⟩
        · rintro ⟨j, hj, e⟩
          by_cases q : j = i
          · subst q; exact (hmem x).mp (e ▸ hx)
          · exact ⟨j, by omega, e⟩
    · refine step hp us' sb S2 (by rw [pu.length_eq, List.length_append]; simp; omega) fun x => ?_
      rw [pu.mem_iff, List.mem_append, hmem, List.mem_singleton]
      constructor
      · rintro (⟨j, hj, e⟩ | rfl)
        · exact ⟨j, by omega, e⟩
        · exact ⟨i, by omega, rfl⟩
      · rintro ⟨j, hj, e⟩
        by_cases q : j = i
        · subst q; exact .inr e.symm
        · exact .inl ⟨j, by omega, e⟩
end
section
variable {prog : Program} {w : World} {A : Around} {E : Value → Shared → Prop} {s : Shared}
theorem strs_at : ∀ {vs : List Value} {ts : List Str}, StrsAre vs ts → ∀ (i : Nat) (v : Value), vs[i]? = some v → ∃ t, v = .str (ts.getD i "") t
  | _, _, .nil, i, v, h => by simp at h
  | _, _, .cons x t r, 0, v, h => by simp at h; exact ⟨t, h ▸ rfl⟩
  | _, _, .cons x t r, i + 1, v, h => by
    obtain ⟨t', e⟩ := strs_at r i v (by simpa using h)
    exact ⟨t', by rw [e]; rfl⟩
def SetMade (prog : Program) (w : World) (s : Shared) (ts : List Str) (s' : Shared) : Prop :=
  ∃ hp tk us, s' = { s with heap := hp, toks := tk } ∧ SetS prog w hp s.heap.objs.size us ∧ us.length ≤ ts.length ∧ (∀ x, x ∈ us ↔ x ∈ ts) ∧ ∀ b o, b < s.heap.objs.size → s.heap.get? b = some o → hp.get? b = some o
theorem mem_getD {ts : List Str} {x : Str} : (∃ j, j < ts.length ∧ ts.getD j "" = x) ↔ x ∈ ts := by
  constructor
  · rintro ⟨j, hj, e⟩
    rw [← e, List.getD_eq_getElem?_getD, List.getElem?_eq_getElem hj]
    exact List.getElem_mem hj
  · intro hx
    obtain ⟨j, hj, e⟩ := List.mem_iff_getElem.mp hx
    exact ⟨j, hj, by rw [List.getD_eq_getElem?_getD, List.getElem?_eq_getElem hj]; exact e⟩
set_option maxHeartbeats 8000000 in
theorem call_set_strs {l : Addr} {items : Array Value} {ts : List Str} {Q : Value → Shared → Prop} (hh : A.handled = none) (hl : s.heap.IsList l items) (hi : StrsAre items.toList ts) (hb : items.size + 1 < scanBound)
    (h : ∀ s', SetMade prog w s ts s' → Q (.ref s.heap.objs.size) s') : wpAny (model prog w) A (call (.type "set") [.ref l]) Q E s := by
  have hlen : ts.length = items.size := by have := hi.length; simpa using this.symm
  obtain ⟨c, tl, hmro⟩ := PySem.F.called_set.mro
  have made := PySem.F.called_set.made
  have sub := PySem.F.called_set.sub
  apply wpAny_call; apply codeAny_of_tree
  show wpAny _ _ (callAny (.type "set") _) _ _ _
  apply wpAny_pure; refine ⟨Code.quiet_builtin _ (by decide +kernel), codeAny_builtin PySem.F.entry_type_call ?_⟩
  rw [show A.under (.builtin "type.__call__" ⟨.type "set" :: [.ref l], []⟩) = A.in1 from Around.under_plain (weight_type_call_type "set" [.ref l] []) rfl]
  have q1 := PySem.F.called_set.notType
  have q2 := PySem.F.called_set.canCreate
  have q3 := PySem.F.typeCall_set_1 (.ref l)
  repeat (any_goals (first | assumption | wp_step))
  refine codeAny_mono (set_new_led (.ref l) (E := E) (Q := fun obj s₁ => obj = .ref s.heap.objs.size ∧ s₁ = { s with heap := s.heap.push (freshSet w) }) ⟨rfl, rfl⟩) fun r s₁ hr => ?_
  cases r with
  | error e => exact hr
  | ok fl =>
    cases fl with
    | ret obj =>
      obtain ⟨rfl, rfl⟩ := hr
      have hS : (s.heap.push (freshSet w)).get? s.heap.objs.size = some (freshSet w) := Heap.get?_push_size _ rfl
      have hT : Shared.TypeIs { s with heap := s.heap.push (freshSet w) } (.ref s.heap.objs.size) "set" := ⟨_, hS, rfl⟩
      have li := PySem.F.called_set.init.lookup
      have bi := PySem.F.called_set.init.bind (.ref s.heap.objs.size)
      repeat (any_goals (first | assumption | wp_step))
      refine codeAny_mono (codeAny_call_builtin (R := wants (fun r s₂ => r = .none ∧ SetMade prog w s ts s₂) E) PySem.F.called_set.init.plain PySem.F.entry_set_init (check_set_init_1 hT ?_)) fun r₂ s₂ hr₂ => ?_
      · obtain ⟨⟨oc, od, odt, osl⟩, hol, hcl, nl, hdl⟩ := hl
        simp only at hcl hdl
        subst hcl; subst hdl
        have hol' : (s.heap.push (freshSet w)).get? l = some { cls := .type "list", dict := od, data := .seq items nl, slots := osl } := Heap.get?_push_of_some _ hol
        have z1 := PySem.F.sub_list_set
        have z2 := PySem.F.sub_list_frozenset
        have z3 : (Value.type "list" == Value.type "dict") = false := by decide
        have isl : (s.heap.push (freshSet w)).IsList l items := ⟨_, hol', rfl, nl, rfl⟩
        unfold Builtin.«set.__init__» noKeywords Builtin.Frozenset.updateFrom
        generalize hPI : pyIter = PI
        wp_walk
        subst hPI
        refine wpAny_pyIter_list isl (wpAny_bind (wpAny_runValue ?_))
        have hlS : l < s.heap.objs.size := Heap.lt_size hol
        have a3 : A.in1.in1.in1.handled = none := by simp [hh]
        have sz : (s.heap.push (freshSet w)).objs.size = s.heap.objs.size + 1 := Heap.size_push ..
        have nI : l ≠ (s.heap.push (freshSet w)).objs.size := Nat.ne_of_lt (by rw [sz]; exact Nat.lt_succ_of_lt hlS)
        have nf : s.heap.objs.size ∉ [(s.heap.push (freshSet w)).objs.size, l] := by
          simp only [List.mem_cons, List.not_mem_nil, or_false, not_or]
          exact ⟨Nat.ne_of_lt (by rw [sz]; exact Nat.lt_succ_self _), Nat.ne_of_gt hlS⟩
        have hv : ∀ (i : Nat) (v : Value), items[i]? = some v → ∃ t, v = .str ((fun i => ts.getD i "") i) t := fun i v e => strs_at hi i v (by rw [Array.getElem?_toList]; exact e)
        refine set_loop ((Walks.list a3 _ l nI items).toS) nf (fun i => ts.getD i "") hv hb (items.size - 0) 0 _ [] (by omega) (Nat.zero_le _)
          ⟨⟨_, Heap.get?_push_size _ rfl, rfl, rfl⟩, isl.push _⟩ (freshSet_is (Heap.get?_push_of_some _ hS)) (Nat.zero_le _) (fun x => by simp) fun s' us' hm S' l' m' => ?_
        obtain ⟨hp, g', d', tk', os'⟩ := s'
        obtain rfl : g' = s.gens := hm.gens
        obtain rfl : d' = s.drawn := hm.drawn
        obtain rfl : os' = s.os := hm.os
        show wpAny _ _ _ _ _ _
        apply wpAny_pure
        show wpAny _ _ (ret Value.none) _ _ _
        refine wpAny_pure ⟨rfl, hp, tk', us', rfl, S', by omega, fun x => (m' x).trans ?_, fun b o hb' e => ?_⟩
        · rw [← hlen]; exact mem_getD
        · refine hm.heap b o ?_ (Heap.get?_push_of_some _ (Heap.get?_push_of_some _ e))
          simp only [List.mem_cons, List.not_mem_nil, or_false, not_or]
          exact ⟨Nat.ne_of_lt hb', Nat.ne_of_lt (by rw [sz]; exact Nat.lt_succ_of_lt hb')⟩
      · cases r₂ with
        | error e => exact hr₂
        | ok fl₂ =>
          cases fl₂ with
          | ret r =>
            obtain ⟨rfl, hm⟩ := hr₂
            obtain ⟨hp, tk, us, rfl, S', r1, r2, r3⟩ := id hm
            repeat (any_goals (first | assumption | wp_step))
            exact h _ hm
          | _ => exact hr₂.elim
    | _ => exact hr.elim
end
end L2
set_option Elab.async false
set_option linter.all false
set_option maxRecDepth 100000
set_option maxHeartbeats 4000000
namespace L2
open PySem PySem.Spec PyProof.Rows
theorem entry_set_iter : entryFor table "set.__iter__" = some Builtin.«frozenset.__iter__» := entryFor_alias (id' := "frozenset.__iter__") (by kernel_rfl) rfl (by decide +kernel) (by kernel_rfl)
theorem entry_si_next : entryFor table "set_iterator.__next__" = some Builtin.«set_iterator.__next__» := by first | exact entryFor_of_tree (by kernel_rfl) | exact entryFor_of_fast (by kernel_rfl)
theorem slot_si_next : Slot "set_iterator" "__next__" "set_iterator.__next__" :=
  .of (owner := "set_iterator") (n := "__next__") (by rw [typeLookup_type, builtinLookup_eq_fast]; kernel_rfl) (by decide +kernel) (by decide +kernel) (by decide +kernel) (by first | exact .inl (by decide +kernel) | exact .inr (by decide +kernel)) (by rw [isSubtype_type]; kernel_rfl)
theorem args_si_next (a : Value) : argsOk "set_iterator.__next__" ⟨[a], []⟩ := by unfold argsOk; kernel_rfl
theorem entry_si_iter : entryFor table "set_iterator.__iter__" = some Builtin.«dict_keyiterator.__iter__» := entryFor_alias (id' := "dict_keyiterator.__iter__") (by kernel_rfl) rfl (by decide +kernel) (by kernel_rfl)
theorem slot_si_iter : Slot "set_iterator" "__iter__" "set_iterator.__iter__" :=
  .of (owner := "set_iterator") (n := "__iter__") (by rw [typeLookup_type, builtinLookup_eq_fast]; kernel_rfl) (by decide +kernel) (by decide +kernel) (by decide +kernel) (by first | exact .inl (by decide +kernel) | exact .inr (by decide +kernel)) (by rw [isSubtype_type]; kernel_rfl)
theorem args_si_iter (a : Value) : argsOk "set_iterator.__iter__" ⟨[a], []⟩ := by unfold argsOk; kernel_rfl
theorem set_len_lookup : typeLookup (.type "set") "__len__" = pure (some (.builtin "set.__len__")) := by rw [typeLookup_type, builtinLookup_eq_fast]; kernel_rfl
end L2
set_option Elab.async false
set_option linter.all false
set_option maxRecDepth 100000
set_option maxHeartbeats 4000000
namespace L2
open PySem PySem.Spec PyProof.Rows
abbrev siObj (first : Value) (i : Nat) (S : Addr) (n ep : Nat) : Obj := { cls := .type "set_iterator", data := .fields #[first, rawInt i, .ref S, rawInt n, rawInt ep] }
section
variable {prog : Program} {w : World} {A : Around} {E : Value → Shared → Prop} {s : Shared}
theorem fields_of {M : Model} {a : Addr} {o : Obj} {vs : Array Value} {Q : Array Value → Shared → Prop} (ho : s.heap.get? a = some o) (hd : o.data = .fields vs) (h : Q vs s) : wpAny M A (fieldsOf (.ref a)) Q E s := by
  unfold fieldsOf
  apply wpAny_bind; apply wpAny_load ho
  rw [hd]; exact wpAny_pure h
theorem stop_thrown {α : Type} {Q : α → Shared → Prop} {E' : Value → Shared → Prop} (hh : A.handled = none)
    (h : ∀ hp, (∀ b o, s.heap.get? b = some o → hp.get? b = some o) → ∀ a ob, hp.get? a = some ob → ob.cls = .type "StopIteration" → E' (.ref a) { s with heap := hp }) :
    wpAny (model prog w) A (newExc (Value.type "StopIteration") [] >>= fun e => (raiseNew e : Sem α)) Q E' s := by
  apply wpAny_bind
  simp only [newExc, newTuple]
  apply wpAny_bind
  refine wpAny_newObj_type ?_ (by size_fits)
  apply wpAny_bind (m := firstArgMember _ _)
  refine wpAny_of_eq (a := Value.none) (by first | rfl | (simp only [firstArgMember]; rfl)) ?_
  refine wpAny_newObj_type ?_ (by size_fits)
  simp only [raiseNew]
  apply wpAny_bind
  refine wpAny_handled ?_
  rw [hh]
  refine wpAny_bind (wpAny_pure (wpAny_throw (h _ (fun b o e => Heap.get?_push_of_some _ (Heap.get?_push_of_some _ e)) _ _ (Heap.get?_push_size _ rfl) rfl)))
theorem si_put {hp : Heap} {I S : Addr} {first : Value} {i n ep : Nat} (hI : hp.get? I = some (siObj first i S n ep)) (k : Nat) (v : Value) (vs : Array Value)
    (e : (#[first, rawInt i, Value.ref S, rawInt n, rawInt ep] : Array Value).setIfInBounds k v = vs) :
    (hp.update I (Obj.mapFields (·.setIfInBounds k v))).get? I = some { cls := .type "set_iterator", data := .fields vs } := by
  subst e
  exact Heap.get?_update_self _ hI (Obj.isFreed_of_fields (Obj.data_mapFields rfl _))
variable {I S T : Addr} {first : Value} {i n ep slot : Nat} {o : Obj} {es : Array (Int × Value)} {tb : SetTable} {Q : Option Value → Shared → Prop}
theorem si_next (hI : s.heap.get? I = some (siObj first i S n ep)) (ho : s.heap.get? S = some o) (hd : o.data = .set es ep tb) (hf : tb.fits es.size = true) (hn : es.size = n)
    (h : wpAny (model prog w) A.in1 (match first with
        | Value.int slot tok => do
          match ← setNext S slot.toNat i ep with
            | some (x, next) => do
              setField (Value.ref I) 0 (rawInt (next : Nat))
              setField (Value.ref I) 1 (rawInt ((i : Int) + 1))
              ret x
            | none => do
              setField (Value.ref I) 2 Value.none
              raiseNew (← newExc (Value.type "StopIteration") [])
        | x => do
          match ← seqItems? first with
            | some places =>
              match places[i]? with
              | some (Value.int place tok) => do
                let x ← setNextDrawn S place.toNat ep
                setField (Value.ref I) 1 (rawInt ((i : Int) + 1))
                ret x
              | some val => unsupported "internal:set_iterator"
              | none => do
                setField (Value.ref I) 0 (rawInt 0)
                setField (Value.ref I) 2 Value.none
                raiseNew (← newExc (Value.type "StopIteration") [])
            | x => unsupported "internal:set_iterator")
      (fun fin s' => ∃ x, fin = .done (.ret x) ∧ Q (some x) s') (fun e s' => s'.TypeIs e "StopIteration" ∧ Q none s') s) : wpAny (model prog w) A (pyNext (.ref I)) Q E s := by
  have ty : s.TypeIs (.ref I) "set_iterator" := ⟨_, hI, rfl⟩
  unfold pyNext
  apply wpAny_bind; apply wpAny_attempt
  refine wpAny_callSpecial?_slot (name := Str.ofString "__next__") ty slot_si_next (wpAny_call_entry slot_si_next ty entry_si_next ?_ (args_si_next _))
  unfold Builtin.«set_iterator.__next__»
  apply wpAny_bind
  refine wpAny_pure ?_
  dsimp only
  refine wpAny_bind (fields_of hI rfl ?_)
  dsimp only [rawInt]
  refine wpAny_bind (wpAny_setEntries_of ho hd hf ?_)
  rw [hn, if_neg (by simp)]
  refine wpAny_mono h (fun fin s' hq => ?_) fun e s' hq => ?_
  · obtain ⟨x, rfl, hq⟩ := hq
    exact ⟨x, rfl, wpAny_pure hq⟩
  · obtain ⟨ty, hq⟩ := hq
    exact wpAny_bind (wpAny_isInstance (T := "StopIteration") (b := true) ty isSubtype_stop (wpAny_pure hq))
theorem si_item {slot nx : Nat} {x : Value} (hI : s.heap.get? I = some (siObj (rawInt slot) i S n ep)) (ho : s.heap.get? S = some o) (hd : o.data = .set es ep tb) (hf : tb.fits es.size = true) (hn : es.size = n)
    (hx : ∀ (E' : Value → Shared → Prop) (Q' : Option (Value × Nat) → Shared → Prop), Q' (some (x, nx)) s → wpAny (model prog w) A.in1 (setNext S slot i ep) Q' E' s)
    (h : ∀ hp, hp.get? I = some (siObj (rawInt nx) (i + 1) S n ep) → Heap.SameBut I s.heap hp → Q (some x) { s with heap := hp }) : wpAny (model prog w) A (pyNext (.ref I)) Q E s := by
  refine si_next hI ho hd hf hn ?_
  show wpAny _ _ (setNext S ((slot : Nat) : Int).toNat i ep >>= _) _ _ s
  rw [Int.toNat_natCast]
  apply wpAny_bind; apply hx
  dsimp only
  have h1 := si_put hI 0 (rawInt (nx : Nat)) #[rawInt nx, rawInt i, .ref S, rawInt n, rawInt ep] rfl
  refine wpAny_bind (wpAny_setField hI rfl (by simp) ?_)
  refine wpAny_bind (wpAny_setField h1 rfl (by simp) (wpAny_pure ⟨x, rfl, ?_⟩))
  exact h _ (si_put h1 1 (rawInt ((i : Int) + 1)) _ rfl) ((Heap.SameBut.update ..).trans (Heap.SameBut.update ..))
theorem si_end {slot : Nat} (hh : A.handled = none) (hI : s.heap.get? I = some (siObj (rawInt slot) i S n ep)) (ho : s.heap.get? S = some o) (hd : o.data = .set es ep tb) (hf : tb.fits es.size = true) (hn : es.size = n)
    (hx : ∀ (E' : Value → Shared → Prop) (Q' : Option (Value × Nat) → Shared → Prop), Q' none s → wpAny (model prog w) A.in1 (setNext S slot i ep) Q' E' s)
    (h : ∀ hp, (∀ b o, b ≠ I → s.heap.get? b = some o → hp.get? b = some o) → Q none { s with heap := hp }) : wpAny (model prog w) A (pyNext (.ref I)) Q E s := by
  refine si_next hI ho hd hf hn ?_
  show wpAny _ _ (setNext S ((slot : Nat) : Int).toNat i ep >>= _) _ _ s
  rw [Int.toNat_natCast]
  apply wpAny_bind; apply hx
  dsimp only
  refine wpAny_bind (wpAny_setField hI rfl (by simp) ?_)
  refine stop_thrown hh fun hp hk a ob ha hc => ⟨⟨ob, ha, hc⟩, h hp fun b o hb e => hk b o ?_⟩
  exact (Heap.get?_update_other _ _ (Ne.symm hb)).trans e
theorem sd_item {places : Array Value} {c p : Nat} {hsh : Int} {x : Value} (hI : s.heap.get? I = some (siObj (.ref T) i S n ep)) (hT : s.heap.get? T = some { cls := .type "tuple", data := .seq places c })
    (ho : s.heap.get? S = some o) (hd : o.data = .set es ep tb) (hf : tb.fits es.size = true) (hn : es.size = n) (hp : places[i]? = some (rawInt p)) (hx : es[p]? = some (hsh, x))
    (h : ∀ hp, hp.get? I = some (siObj (.ref T) (i + 1) S n ep) → Heap.SameBut I s.heap hp → Q (some x) { s with heap := hp }) : wpAny (model prog w) A (pyNext (.ref I)) Q E s := by
  refine si_next hI ho hd hf hn ?_
  show wpAny _ _ (seqItems? (.ref T) >>= _) _ _ s
  refine wpAny_bind (wpAny_seqItems hT rfl ?_)
  dsimp only
  rw [hp]
  dsimp only [rawInt]
  unfold setNextDrawn
  refine wpAny_bind (wpAny_bind (wpAny_setState_of ho hd hf ?_))
  dsimp only
  rw [if_neg (by simp), Int.toNat_natCast, hx]
  refine wpAny_pure (wpAny_bind (wpAny_setField hI rfl (by simp) (wpAny_pure ⟨x, rfl, ?_⟩)))
  exact h _ (si_put hI 1 (rawInt ((i : Int) + 1)) _ rfl) (Heap.SameBut.update ..)
theorem sd_end {places : Array Value} {c : Nat} (hh : A.handled = none) (hI : s.heap.get? I = some (siObj (.ref T) i S n ep)) (hT : s.heap.get? T = some { cls := .type "tuple", data := .seq places c })
    (ho : s.heap.get? S = some o) (hd : o.data = .set es ep tb) (hf : tb.fits es.size = true) (hn : es.size = n) (hp : places[i]? = none)
    (h : ∀ hp, (∀ b o, b ≠ I → s.heap.get? b = some o → hp.get? b = some o) → Q none { s with heap := hp }) : wpAny (model prog w) A (pyNext (.ref I)) Q E s := by
  refine si_next hI ho hd hf hn ?_
  show wpAny _ _ (seqItems? (.ref T) >>= _) _ _ s
  refine wpAny_bind (wpAny_seqItems hT rfl ?_)
  dsimp only
  rw [hp]
  dsimp only
  have h1 := si_put hI 0 (rawInt (0 : Nat)) #[rawInt (0 : Nat), rawInt i, .ref S, rawInt n, rawInt ep] rfl
  refine wpAny_bind (wpAny_setField hI rfl (by simp) (wpAny_bind (wpAny_setField h1 rfl (by simp) ?_)))
  refine stop_thrown hh fun hp hk a ob ha hc => ⟨⟨ob, ha, hc⟩, h hp fun b o hb e => hk b o ?_⟩
  exact (Heap.get?_update_other _ _ (Ne.symm hb)).trans ((Heap.get?_update_other _ _ (Ne.symm hb)).trans e)
end
end L2
set_option Elab.async false
set_option linter.all false
set_option maxRecDepth 100000
set_option maxHeartbeats 4000000
namespace L2
open PySem PySem.Spec PyProof.Rows
theorem erase_perm {α : Type} {x : α} : ∀ {l : List α} {i : Nat}, l[i]? = some x → List.Perm (x :: l.eraseIdx i) l
  | [], _, h => by simp at h
  | y :: r, 0, h => by simp at h; subst h; simp
  | y :: r, i + 1, h => by
    have ih := erase_perm (l := r) (i := i) (by simpa using h)
    rw [List.eraseIdx_cons_succ]
    exact (List.Perm.swap y x _).trans (ih.cons y)
theorem pick_go {α : Type} (f : Nat → Nat) : ∀ (fuel k : Nat) (left : List α) (out : Array α), left.length ≤ fuel → List.Perm (pickOrder.go f fuel k left out).toList (out.toList ++ left)
  | 0, k, left, out, h => by
    have : left = [] := List.eq_nil_of_length_eq_zero (by omega)
    subst this
    simp [pickOrder.go]
  | fuel + 1, k, left, out, h => by
    unfold pickOrder.go
    cases e : left[f k % left.length]? with
    | none =>
      have : left = [] := by
        cases left with
        | nil => rfl
        | cons y r =>
          have := List.getElem?_eq_none_iff.mp e
          have := Nat.mod_lt (f k) (show 0 < (y :: r).length by simp)
          omega
      subst this
      simp
    | some x =>
      dsimp only
      have hi := (List.getElem?_eq_some_iff.mp e).1
      have ih := pick_go f fuel (k + 1) (left.eraseIdx (f k % left.length)) (out.push x) (by rw [List.length_eraseIdx_of_lt hi]; omega)
      refine ih.trans ?_
      rw [Array.toList_push, List.append_assoc]
      refine List.Perm.append_left _ ?_
      exact erase_perm e
theorem pick_perm {α : Type} (f : Nat → Nat) (xs : Array α) : List.Perm (pickOrder f xs).toList xs.toList := by
  have := pick_go f xs.size 0 xs.toList #[] (by simp)
  simpa [pickOrder] using this
section
variable {prog : Program} {w : World} {A : Around} {E : Value → Shared → Prop} {s : Shared} {S : Addr} {i n ep slot : Nat} {o : Obj} {es : Array (Int × Value)} {tb : SetTable}
theorem draw_perm {α : Type} {Q : List α → Shared → Prop} : ∀ (k : Nat) (xs : List α) (s : Shared), xs.length = k → (∀ ys d, List.Perm ys xs → Q ys { s with drawn := d }) → wpAny (model prog w) A (drawOrder k xs) Q E s
  | 0, xs, s, h, q => by
    have : xs = [] := List.eq_nil_of_length_eq_zero h
    subst this
    exact wpAny_pure (q [] s.drawn .nil)
  | k + 1, xs, s, h, q => by
    cases xs with
    | nil => simp at h
    | cons y r =>
      unfold drawOrder
      apply wpAny_bind
      refine fun Γ p hΓ => ⟨by simp, ?_⟩
      have hlt : (model prog w).w.draws .order (s.drawn.get .order) % (y :: r).length < (y :: r).length := Nat.mod_lt _ (by simp)
      generalize (model prog w).w.draws .order (s.drawn.get .order) % (y :: r).length = j at hlt
      have e : (y :: r)[j]? = some (y :: r)[j] := by simp [hlt]
      generalize (y :: r)[j] = z at e
      refine (?_ : wpAny (model prog w) A _ _ _ _) Γ p hΓ
      refine wpAny_pure ?_
      rw [e]
      dsimp only
      apply wpAny_bind
      refine draw_perm k ((y :: r).eraseIdx j) _ (by rw [List.length_eraseIdx_of_lt hlt]; omega) fun ys d hp => wpAny_pure ?_
      exact q (z :: ys) d ((hp.cons z).trans (erase_perm e))
theorem next_text {Q : Option (Value × Nat) → Shared → Prop} (hb : byText w = true) (ho : s.heap.get? S = some o) (hd : o.data = .set es ep tb) (hf : tb.fits es.size = true)
    (h : Q (((pickOrder (w.params.setOrder S ep) es)[i]?).map fun e => (e.2, slot)) s) : wpAny (model prog w) A (setNext S slot i ep) Q E s := by
  unfold setNext
  refine wpAny_bind (wpAny_setState_of ho hd hf ?_)
  dsimp only
  unfold setsByText
  refine wpAny_bind (wpAny_bind (wpAny_askSetting (wpAny_pure ?_)))
  refine wpAny_ite_split (fun _ => ?_) fun z => absurd hb z
  rw [if_neg (by simp)]
  unfold setWalk
  refine wpAny_bind (wpAny_bind (wpAny_setState_of ho hd hf ?_))
  dsimp only
  unfold setsByText
  refine wpAny_bind (wpAny_bind (wpAny_askSetting (wpAny_pure ?_)))
  refine wpAny_ite_split (fun _ => ?_) fun z => absurd hb z
  refine wpAny_bind (wpAny_askSetting (wpAny_pure (wpAny_pure ?_)))
  exact h
theorem next_place {Q : Option (Value × Nat) → Shared → Prop} (hb : byText w = false) (ho : s.heap.get? S = some o) (hd : o.data = .set es ep tb) (hf : tb.fits es.size = true) (hs : es.size ≤ 1) (hl : tb.led = true)
    (h : Q (match es[SetTable.below tb.place slot]?, tb.place[SetTable.below tb.place slot]? with | some (_, x), some j => some (x, j + 1) | _, _ => none) s) : wpAny (model prog w) A (setNext S slot i ep) Q E s := by
  unfold setNext
  refine wpAny_bind (wpAny_setState_of ho hd hf ?_)
  dsimp only
  unfold setsByText
  refine wpAny_bind (wpAny_bind (wpAny_askSetting (wpAny_pure ?_)))
  refine wpAny_ite_split (fun z => absurd (z.symm.trans (show _ = false from hb)) (by decide)) fun _ => ?_
  have hz : (!tb.plain && decide (es.size > 1)) = false := by rw [decide_eq_false (by omega), Bool.and_false]
  show wpAny _ _ (if (!tb.plain && decide (es.size > 1)) = true then _ else _) _ _ s
  rw [hz, if_neg (by decide)]
  show wpAny _ _ ((if (!tb.led && !es.isEmpty) = true then unsupported "set:maker-not-led" else pure ()) >>= _) _ _ s
  rw [hl]
  refine wpAny_bind (wpAny_pure (wpAny_pure ?_))
  exact h
end
section
variable {prog : Program} {w : World} {A : Around} {E : Value → Shared → Prop} {s : Shared}
theorem si_self {I S : Addr} {first : Value} {i n ep : Nat} {Q : Value → Shared → Prop} (hI : s.heap.get? I = some (siObj first i S n ep)) (h : Q (.ref I) s) : wpAny (model prog w) A (pyIter (.ref I)) Q E s := by
  have ty : s.TypeIs (.ref I) "set_iterator" := ⟨_, hI, rfl⟩
  refine wpAny_pyIter_slot ty slot_si_iter (wpAny_call_entry slot_si_iter ty entry_si_iter ?_ (args_si_iter _))
  show wpAny _ _ (ret (.ref I)) _ _ s
  exact wpAny_pure ⟨_, rfl, "set_iterator", _, ty, slot_si_next.lookup, h⟩
theorem moved_1 {I : Addr} {hp : Heap} (h : ∀ b o, b ≠ I → s.heap.get? b = some o → hp.get? b = some o) : Moved [I] Eq s { s with heap := hp } :=
  ⟨fun b o hb e => h b o (fun z => hb (by simp [z])) e, rfl, rfl, rfl, Nat.le_refl _⟩
theorem walk_set {I : Addr} {fp : List Addr} {vs : List Value} {St : Nat → Heap → Prop} (hI : I ∈ fp) (frame : ∀ i h h', St i h → (∀ b ∈ fp, ∀ o, h.get? b = some o → h'.get? b = some o) → St i h')
    (item : ∀ i v (s : Shared) (Q : Option Value → Shared → Prop) (E : Value → Shared → Prop), vs[i]? = some v → St i s.heap → (∀ hp, St (i + 1) hp → (∀ b o, b ≠ I → s.heap.get? b = some o → hp.get? b = some o) → Q (some v) { s with heap := hp }) → wpAny (model prog w) A (pyNext (.ref I)) Q E s)
    (done : ∀ (s : Shared) (Q : Option Value → Shared → Prop) (E : Value → Shared → Prop), St vs.length s.heap → (∀ hp, (∀ b o, b ≠ I → s.heap.get? b = some o → hp.get? b = some o) → Q none { s with heap := hp }) → wpAny (model prog w) A (pyNext (.ref I)) Q E s)
    (self : ∀ i (s : Shared) (Q : Value → Shared → Prop) (E : Value → Shared → Prop), St i s.heap → Q (.ref I) s → wpAny (model prog w) A (pyIter (.ref I)) Q E s) :
    WalksS prog w A I fp [I] Eq vs.length (fun i v => vs[i]? = some v) (fun i s => St i s.heap) where
  sub := fun b hb => by rw [List.mem_singleton.mp hb]; exact hI
  grefl := fun _ => rfl
  gtrans := fun _ _ _ => Eq.trans
  frame := fun i s h' tk st _ k => frame i _ _ st k
  item := fun i s Q E hi st q => by
    refine item i vs[i] s Q E (by simp [hi]) st fun hp st' k => ?_
    exact q _ _ (by simp [hi]) st' (moved_1 k)
  done := fun s Q E st q => done s Q E st fun hp k => q _ (moved_1 k)
  self := self
end
end L2
set_option Elab.async false
set_option linter.all false
set_option maxRecDepth 100000
set_option maxHeartbeats 4000000
namespace L2
open PySem PySem.Spec PyProof.Rows
structure Ready (prog : Program) (w : World) (s : Shared) (S : Addr) (us : List Str) (I : Addr) (s' : Shared) (vs : List Value) (fp : List Addr) (St : Nat → Heap → Prop) : Prop where
  heap : ∀ b o, s.heap.get? b = some o → s'.heap.get? b = some o
  rest : ∃ d, s' = { s with heap := s'.heap, drawn := d }
  new : s.heap.objs.size ≤ I
  fps : ∀ b ∈ fp, b = S ∨ s.heap.objs.size ≤ b
  lt : ∀ b ∈ fp, b < s'.heap.objs.size
  mem : I ∈ fp
  txts : ∃ us', StrsAre vs us' ∧ us'.Perm us
  st : St 0 s'.heap
  walk : ∀ A : Around, A.handled = none → WalksS prog w A I fp [I] Eq vs.length (fun i v => vs[i]? = some v) (fun i s => St i s.heap)
def StT (o : Obj) (S I : Addr) (n ep : Nat) : Nat → Heap → Prop := fun i h => h.get? S = some o ∧ h.get? I = some (siObj (rawInt (0 : Nat)) i S n ep)
def StP (o : Obj) (S I : Addr) (n ep j : Nat) : Nat → Heap → Prop := fun i h => h.get? S = some o ∧ h.get? I = some (siObj (rawInt ((if i = 0 then 0 else j + 1 : Nat))) i S n ep)
def StD (o : Obj) (S I T : Addr) (n ep : Nat) (places : Array Value) : Nat → Heap → Prop := fun i h => h.get? S = some o ∧ h.get? I = some (siObj (.ref T) i S n ep) ∧ h.get? T = some { cls := .type "tuple", data := .seq places 0 }
theorem strs_of_elems {prog : Program} {w : World} : ∀ {l : List (Int × Value)}, ElemsOf (PySem.strKind prog w) l → StrsAre (l.map (·.2)) (l.map fun e => svT e.2)
  | [], _ => .nil
  | e :: r, h => by
    obtain ⟨⟨k, hk, _⟩, _⟩ := h.head
    obtain ⟨t, q⟩ := Value.isStrOf_shape hk
    rw [List.map_cons, List.map_cons, q]
    exact .cons _ t (strs_of_elems h.tail)
theorem below_one (j k : Nat) : SetTable.below #[j] k = if j < k then 1 else 0 := by
  unfold SetTable.below
  show SetTable.below.go _ _ 1 0 1 = _
  unfold SetTable.below.go
  rw [if_pos (by decide)]
  show (if (#[j] : Array Nat).getD 0 k < k then SetTable.below.go _ _ 0 1 1 else SetTable.below.go _ _ 0 0 0) = _
  have e : (#[j] : Array Nat).getD 0 k = j := rfl
  rw [e]
  split <;> rfl
section
variable {prog : Program} {w : World} {A : Around} {E : Value → Shared → Prop} {s : Shared}
theorem push_keep {h : Heap} {ob : Obj} : ∀ b o, h.get? b = some o → (h.push ob).get? b = some o := fun b o e => Heap.get?_push_of_some _ e
theorem set_iter {S : Addr} {us : List Str} {Q : Value → Shared → Prop} (hS : SetS prog w s.heap S us) (h : ∀ I s' vs fp St, Ready prog w s S us I s' vs fp St → Q (.ref I) s') : wpAny (model prog w) A (pyIter (.ref S)) Q E s := by
  obtain ⟨o, es, ep, tb, ho, hex, hd, hel, hus, nd, hb, hf, hl, hpl⟩ := hS
  have ty : s.TypeIs (.ref S) "set" := ⟨o, ho, hex.1⟩
  have hlt : S < s.heap.objs.size := Heap.lt_size ho
  refine wpAny_pyIter_slot ty PySem.F.slot_set_iter (wpAny_call_entry PySem.F.slot_set_iter ty entry_set_iter ?_ (PySem.F.args_set_iter_1 _))
  unfold Builtin.«frozenset.__iter__»
  apply wpAny_bind
  refine wpAny_pure ?_
  unfold Builtin.Frozenset.sizeOf
  refine wpAny_bind (wpAny_bind (wpAny_setEntries_of ho hd hf (wpAny_pure ?_)))
  unfold setDrawn
  refine wpAny_bind (wpAny_bind (wpAny_setState_of ho hd hf ?_))
  dsimp only
  unfold setsByText
  refine wpAny_bind (wpAny_bind (wpAny_askSetting (wpAny_pure (wpAny_pure ?_))))
  show wpAny _ _ (if (!byText w && (!tb.plain && decide (es.size > 1))) = true then _ else _) _ _ s
  have lens : us.length = es.size := by rw [← hus]; simp [setTexts]
  have psz : tb.place.size = es.size := by
    have := hf
    simp only [SetTable.fits, Bool.and_eq_true, beq_iff_eq, decide_eq_true_eq] at this
    exact this.1
  have lay : ∀ (hp : Heap) (d : Drawn) (first : Value) (vs : List Value) (fp : List Addr) (St : Nat → Heap → Prop), (∀ b o, s.heap.get? b = some o → hp.get? b = some o) → Ready prog w s S us hp.objs.size { s with heap := hp.push (siObj first 0 S es.size ep), drawn := d } vs fp St →
      wpAny (model prog w) A.in1 (do ret (← newFields "set_iterator" [first, rawInt 0, .ref S, rawInt es.size, rawInt (← setEpoch S)])) (fun fin s' => ∃ it, fin = .done (.ret it) ∧ ∃ T' r, s'.TypeIs it T' ∧ typeLookup (.type T') "__next__" = pure (some r) ∧ Q it s') E { s with heap := hp, drawn := d } := fun hp d first vs fp St k R => by
    refine wpAny_bind (wpAny_setEpoch_of (k _ _ ho) hd hf ?_)
    unfold newFields
    refine wpAny_bind (wpAny_newObj_type ?_ (by size_fits))
    refine wpAny_pure ⟨_, rfl, "set_iterator", _, ⟨_, Heap.get?_push_size _ rfl, rfl⟩, slot_si_next.lookup, ?_⟩
    exact h _ _ _ _ _ R
  cases hbt : byText w with
  | true =>
    rw [if_neg (by simp)]
    refine wpAny_bind (wpAny_pure ?_)
    have pp := pick_perm (w.params.setOrder S ep) es
    refine lay s.heap s.drawn (rawInt (0 : Nat)) ((pickOrder (w.params.setOrder S ep) es).toList.map (·.2)) [s.heap.objs.size, S] (StT o S s.heap.objs.size es.size ep) (fun _ _ e => e)
      ⟨push_keep, ⟨s.drawn, rfl⟩, Nat.le_refl _, fun b hb' => ?_, fun b hb' => ?_, List.mem_cons_self, ⟨_, strs_of_elems (hel.perm pp), ?_⟩, ⟨push_keep _ _ ho, Heap.get?_push_size _ rfl⟩, fun A' hh => ?_⟩
    · rcases List.mem_cons.mp hb' with rfl | q
      · exact .inr (Nat.le_refl _)
      · exact .inl (List.mem_singleton.mp q)
    · show b < (s.heap.push _).objs.size
      rw [Heap.size_push]
      rcases List.mem_cons.mp hb' with rfl | q
      · exact Nat.lt_succ_self _
      · rw [List.mem_singleton.mp q]; exact Nat.lt_succ_of_lt hlt
    · rw [← hus]; exact pp.map _
    · refine walk_set (St := StT o S s.heap.objs.size es.size ep) List.mem_cons_self (fun i h h' st k => ⟨k _ (by simp) _ st.1, k _ (by simp) _ st.2⟩) (fun i v s1 Q1 E1 hv st q => ?_) (fun s1 Q1 E1 st q => ?_) fun i s1 Q1 E1 st q => si_self st.2 q
      · have ne : S ≠ s.heap.objs.size := Nat.ne_of_lt hlt
        rw [List.getElem?_map] at hv
        cases e : (pickOrder (w.params.setOrder S ep) es).toList[i]? with
        | none => rw [e] at hv; cases hv
        | some z =>
          rw [e] at hv
          cases hv
          refine si_item (nx := 0) st.2 st.1 hd hf rfl (fun E' Q' hq => next_text hbt st.1 hd hf ?_) fun hp h1 sb => q hp ⟨(sb.2 S ne).trans st.1, h1⟩ fun b o' hb' e' => (sb.2 b hb').trans e'
          rw [Array.getElem?_toList] at e
          rw [e]
          exact hq
      · refine si_end hh st.2 st.1 hd hf rfl (fun E' Q' hq => next_text hbt st.1 hd hf ?_) fun hp k => q hp k
        have : (pickOrder (w.params.setOrder S ep) es)[((pickOrder (w.params.setOrder S ep) es).toList.map (·.2)).length]? = none := by simp
        rw [this]
        exact hq
  | false =>
    have led : tb.led = true := by rw [hl, hbt]; rfl
    by_cases h2 : es.size ≤ 1
    · rw [if_neg (by rw [decide_eq_false (show ¬ es.size > 1 by omega)]; simp)]
      refine wpAny_bind (wpAny_pure ?_)
      refine lay s.heap s.drawn (rawInt (0 : Nat)) (es.toList.map (·.2)) [s.heap.objs.size, S] (StP o S s.heap.objs.size es.size ep (tb.place.getD 0 0)) (fun _ _ e => e)
        ⟨push_keep, ⟨s.drawn, rfl⟩, Nat.le_refl _, fun b hb' => ?_, fun b hb' => ?_, List.mem_cons_self, ⟨_, strs_of_elems hel, ?_⟩, ⟨push_keep _ _ ho, Heap.get?_push_size _ rfl⟩, fun A' hh => ?_⟩
      · rcases List.mem_cons.mp hb' with rfl | q
        · exact .inr (Nat.le_refl _)
        · exact .inl (List.mem_singleton.mp q)
      · show b < (s.heap.push _).objs.size
        rw [Heap.size_push]
        rcases List.mem_cons.mp hb' with rfl | q
        · exact Nat.lt_succ_self _
        · rw [List.mem_singleton.mp q]; exact Nat.lt_succ_of_lt hlt
      · rw [← hus]; exact .rfl
      · have ne : S ≠ s.heap.objs.size := Nat.ne_of_lt hlt
        refine walk_set (St := StP o S s.heap.objs.size es.size ep (tb.place.getD 0 0)) List.mem_cons_self (fun i h h' st k => ⟨k _ (by simp) _ st.1, k _ (by simp) _ st.2⟩) (fun i v s1 Q1 E1 hv st q => ?_) (fun s1 Q1 E1 st q => ?_) fun i s1 Q1 E1 st q => si_self st.2 q
        · have hi : i < es.size := by have := (List.getElem?_eq_some_iff.mp hv).1; simpa using this
          obtain rfl : i = 0 := by omega
          obtain ⟨j, hj⟩ : ∃ j, tb.place = #[j] := by
            have z : tb.place.size = 1 := by omega
            exact ⟨tb.place[0], by apply Array.ext; · simp [z]
                                   · intro k h1 h2; have : k = 0 := by omega
                                     subst this; rfl⟩
          rw [List.getElem?_map] at hv
          cases e : es.toList[0]? with
          | none => rw [e] at hv; cases hv
          | some z =>
            rw [e] at hv
            cases hv
            rw [Array.getElem?_toList] at e
            refine si_item (slot := 0) (nx := j + 1) st.2 st.1 hd hf rfl (fun E' Q' hq => next_place hbt st.1 hd hf h2 led ?_) fun hp h1 sb => q hp ⟨(sb.2 S ne).trans st.1, ?_⟩ fun b o' hb' e' => (sb.2 b hb').trans e'
            · rw [hj, below_one, if_neg (by omega), e]
              exact hq
            · rw [h1, hj]; rfl
        · have hlen : (es.toList.map (·.2)).length = es.size := by simp
          rw [hlen] at st
          refine si_end hh st.2 st.1 hd hf rfl (fun E' Q' hq => next_place hbt st.1 hd hf h2 led ?_) fun hp k => q hp k
          by_cases h0 : es.size = 0
          · have z : ∀ k : Nat, es[k]? = none := fun k => Array.getElem?_eq_none (by omega)
            rw [z]
            exact hq
          · obtain ⟨j, hj⟩ : ∃ j, tb.place = #[j] := by
              have z : tb.place.size = 1 := by omega
              exact ⟨tb.place[0], by apply Array.ext; · simp [z]
                                     · intro k h1 h2; have : k = 0 := by omega
                                       subst this; rfl⟩
            have z : SetTable.below tb.place (if es.size = 0 then 0 else tb.place.getD 0 0 + 1) = 1 := by
              rw [if_neg h0, hj, below_one]
              exact if_pos (by show j < j + 1; omega)
            rw [z]
            have z1 : es[1]? = none := Array.getElem?_eq_none (by omega)
            rw [z1]
            exact hq
    · have plain : tb.plain = false := hpl (fun z => by rw [z] at lens; simp at lens; omega)
      rw [if_pos (by rw [plain, decide_eq_true (show es.size > 1 by omega)]; rfl)]
      refine wpAny_bind (draw_perm es.size (List.range es.size) s (by simp) fun ys d hp => ?_)
      unfold newTuple; apply wpAny_bind
      have hyl : ys.length = es.size := by rw [hp.length_eq]; simp
      refine wpAny_newObj_type ?_ (by show ((ys.map fun (i : Nat) => rawInt i).toArray).size ≤ sizeLine; rw [List.size_toArray, List.length_map, hyl]; exact fits_of_scanBound hb)
      have hin : ∀ j ∈ ys, j < es.size := fun j hj => by have := hp.mem_iff.mp hj; simpa using this
      have perm : List.Perm (ys.map fun j => es.toList.getD j (0, .none)) es.toList := by
        have z := hp.map fun j => es.toList.getD j (0, .none)
        refine z.trans (List.Perm.of_eq ?_)
        apply List.ext_getElem?
        intro k
        rw [List.getElem?_map]
        by_cases hk : k < es.size
        · simp [hk]
        · simp [hk]
      refine lay (s.heap.push { cls := .type "tuple", data := .seq (ys.map fun (i : Nat) => rawInt i).toArray }) d (.ref s.heap.objs.size) ((ys.map fun j => es.toList.getD j (0, .none)).map (·.2)) [(s.heap.push { cls := .type "tuple", data := .seq (ys.map fun (i : Nat) => rawInt i).toArray }).objs.size, S, s.heap.objs.size]
        (StD o S (s.heap.push { cls := .type "tuple", data := .seq (ys.map fun (i : Nat) => rawInt i).toArray }).objs.size s.heap.objs.size es.size ep (ys.map fun (i : Nat) => rawInt i).toArray) push_keep
        ⟨fun b o' e => push_keep _ _ (push_keep _ _ e), ⟨d, rfl⟩, by rw [Heap.size_push]; exact Nat.le_succ _, fun b hb' => ?_, fun b hb' => ?_, List.mem_cons_self, ⟨_, strs_of_elems (hel.perm perm), ?_⟩, ⟨push_keep _ _ (push_keep _ _ ho), Heap.get?_push_size _ rfl, push_keep _ _ (Heap.get?_push_size _ rfl)⟩, fun A' hh => ?_⟩
      · rcases List.mem_cons.mp hb' with rfl | q
        · exact .inr (by rw [Heap.size_push]; exact Nat.le_succ _)
        · rcases List.mem_cons.mp q with rfl | q
          · exact .inl rfl
          · exact .inr (Nat.le_of_eq (List.mem_singleton.mp q).symm)
      · show b < ((s.heap.push _).push _).objs.size
        rw [Heap.size_push, Heap.size_push]
        rcases List.mem_cons.mp hb' with rfl | q
        · rw [Heap.size_push]; exact Nat.lt_succ_self _
        · rcases List.mem_cons.mp q with rfl | q
          · exact Nat.lt_succ_of_lt (Nat.lt_succ_of_lt hlt)
          · rw [List.mem_singleton.mp q]; exact Nat.lt_succ_of_lt (Nat.lt_succ_self _)
      · rw [← hus]; exact perm.map _
      · have ne : S ≠ (s.heap.push { cls := .type "tuple", data := .seq (ys.map fun (i : Nat) => rawInt i).toArray }).objs.size := Nat.ne_of_lt (by rw [Heap.size_push]; exact Nat.lt_succ_of_lt hlt)
        have ne2 : s.heap.objs.size ≠ (s.heap.push { cls := .type "tuple", data := .seq (ys.map fun (i : Nat) => rawInt i).toArray }).objs.size := Nat.ne_of_lt (by rw [Heap.size_push]; exact Nat.lt_succ_self _)
        generalize (s.heap.push { cls := .type "tuple", data := .seq (ys.map fun (i : Nat) => rawInt i).toArray }).objs.size = I at ne ne2
        refine walk_set (St := StD o S I s.heap.objs.size es.size ep (ys.map fun (i : Nat) => rawInt i).toArray) List.mem_cons_self (fun i h h' st k => ⟨k _ (by simp) _ st.1, k _ (by simp) _ st.2.1, k _ (by simp) _ st.2.2⟩) (fun i v s1 Q1 E1 hv st q => ?_) (fun s1 Q1 E1 st q => ?_) fun i s1 Q1 E1 st q => si_self st.2.1 q
        · rw [List.map_map, List.getElem?_map] at hv
          cases e : ys[i]? with
          | none => rw [e] at hv; cases hv
          | some p =>
            rw [e] at hv
            cases hv
            have hp' : p < es.size := hin p (List.mem_of_getElem? e)
            refine sd_item (p := p) (hsh := (es.toList.getD p (0, .none)).1) st.2.1 st.2.2 st.1 hd hf rfl (by simp [e]) (by simp [hp']) fun hp1 h1 sb => q hp1 ⟨(sb.2 S ne).trans st.1, h1, (sb.2 _ ne2).trans st.2.2⟩ fun b o' hb' e' => (sb.2 b hb').trans e'
        · exact sd_end hh st.2.1 st.2.2 st.1 hd hf rfl (by simp) fun hp1 k => q hp1 k
end
end L2
set_option Elab.async false
set_option linter.all false
set_option maxRecDepth 100000
set_option maxHeartbeats 4000000
namespace L2
open PySem PySem.Spec PyProof.Rows
section
variable {prog : Program} {w : World} {A : Around} {E : Value → Shared → Prop} {s : Shared}
theorem hint_set {S : Addr} {Q : Bool → Shared → Prop} (ty : s.TypeIs (.ref S) "set") (h : Q false s) : wpAny (model prog w) A (Builtin.List.listLengthHint (.ref S)) Q E s := by
  unfold Builtin.List.listLengthHint
  refine wpAny_bind (wpAny_specialOf ty set_len_lookup ?_)
  generalize hid : ("set.__len__" : String) = lid
  wp_delta
  rw [show splitId lid = some ("set", "__len__") from by subst hid; decide +kernel]
  subst hid
  refine wpAny_bind (wpAny_isInstance (b := true) ty PySem.F.called_set.sub ?_)
  rw [if_neg (by decide)]
  dsimp only
  refine wpAny_ite_split (fun _ => ?_) fun z => absurd (by decide +kernel) z
  refine wpAny_bind (wpAny_typeOf ty ?_)
  exact wpAny_pure h
theorem collect_set {S : Addr} {us : List Str} {Q : List Value → Shared → Prop} (hh : A.handled = none) (hS : SetS prog w s.heap S us) (hn : us.length ≤ sizeLine)
    (h : ∀ hp tk d vs us', (∀ b o, s.heap.get? b = some o → hp.get? b = some o) → s.heap.objs.size ≤ hp.objs.size → StrsAre vs us' → us'.Perm us → Q vs { s with heap := hp, toks := tk, drawn := d }) : wpAny (model prog w) A (collect (.ref S)) Q E s := by
  have hlt : S < s.heap.objs.size := by obtain ⟨o, _, _, _, ho, _⟩ := hS; exact Heap.lt_size ho
  unfold collect
  apply wpAny_bind; apply wpAny_runValue; apply codeAny_builtin PySem.F.entry_proto_collect
  rw [Around.under_plainId PySem.F.plain_proto_collect _]
  show wpAny _ A.in1 (newList [] >>= fun l => again (.builtin "list.__iadd__" ⟨[l, .ref S], []⟩)) _ _ s
  apply wpAny_bind
  refine wpAny_newObj_type (wpAny_pure ⟨plainId_quiet PySem.F.plain_list_iadd _, codeAny_builtin PySem.F.entry_list_iadd ?_⟩)
  rw [Around.under_plainId PySem.F.plain_list_iadd _]
  show wpAny _ A.in1 (Builtin.List.listExtendWith (.ref s.heap.objs.size) (.ref S) (.ref s.heap.objs.size)) _ _ _
  generalize hL : s.heap.objs.size = L
  have hLo : (s.heap.push { cls := .type "list", data := .seq ([] : List Value).toArray }).get? L = some { cls := .type "list", data := .seq #[] } := by rw [← hL]; exact Heap.get?_push_size _ rfl
  have sz : (s.heap.push { cls := .type "list", data := .seq ([] : List Value).toArray }).objs.size = L + 1 := by rw [Heap.size_push, hL]
  have keep1' : ∀ b o, s.heap.get? b = some o → (s.heap.push { cls := .type "list", data := .seq ([] : List Value).toArray }).get? b = some o := push_keep
  have new1 : ∀ b o, s.heap.get? b = some o → b ≠ L := fun b o e => by rw [← hL]; exact Nat.ne_of_lt (Heap.lt_size e)
  have hS1 := hS.at (h' := s.heap.push { cls := .type "list", data := .seq ([] : List Value).toArray }) fun o e => push_keep _ _ e
  have hSL : S ≠ L := by rw [← hL]; exact Nat.ne_of_lt hlt
  generalize s.heap.push { cls := .type "list", data := .seq ([] : List Value).toArray } = h1 at hLo sz keep1' hS1
  have ty1 : Shared.TypeIs { s with heap := h1 } (.ref S) "set" := by obtain ⟨o, _, _, _, ho, hx, _⟩ := hS1; exact ⟨o, ho, hx.1⟩
  unfold Builtin.List.listExtendWith
  refine wpAny_bind (wpAny_typeOf ty1 ?_)
  have e1 : Builtin.List.listSameRef (.ref L) (.ref S) = false := by
    unfold Builtin.List.listSameRef
    simpa using fun z : L = S => hSL z.symm
  rw [e1]
  rw [if_neg (by decide)]
  refine wpAny_bind (set_iter (s := { s with heap := h1 }) hS1 fun I s2 vs fp St R => ?_)
  obtain ⟨d, e2⟩ := R.rest
  obtain ⟨us', hvs, hpu⟩ := R.txts
  have ty2 : Shared.TypeIs s2 (.ref S) "set" := by obtain ⟨o, ho, hc⟩ := ty1; exact ⟨o, R.heap _ _ ho, hc⟩
  have lf : L ∉ fp := fun m => by
    rcases R.fps L m with z | z
    · exact hSL z.symm
    · have z' : h1.objs.size ≤ L := z
      omega
  have hvl : vs.length ≤ sizeLine := by
    have a1 := hvs.length
    have a2 := hpu.length_eq
    omega
  refine wpAny_bind (wpAny_holding (hint_set ty2 ?_))
  have loop : ∀ (hp : Heap) (c : Nat), St 0 hp → (∀ b o, b ≠ L → s2.heap.get? b = some o → hp.get? b = some o) → hp.get? L = some { cls := .type "list", dict := none, data := .seq #[] c, slots := #[] } →
      codeAny (model prog w) A (.builtin "list.extend.loop" ⟨[.ref L, .ref I, .ref L], []⟩) (fun r s' => ∃ f, r = .ok (.ret f) ∧ wpAny (model prog w) A (match f with
        | .ref a => do
          match (← load a).data with
          | .seq xs _ => pure xs.toList
          | _ => unsupported "internal:collect"
        | _ => unsupported "internal:collect") Q E s') { s2 with heap := hp } := fun hp c st k hl => by
    refine codeAny_extend_loopS (R.walk A.in1 hh) hvl L lf (.ref L) vs.length 0 { s2 with heap := hp } #[] c rfl (Nat.zero_le _) st hl (ItemsOf.nil _) fun s3 acc c' hm hL3 hacc => ⟨_, rfl, ?_⟩
    show wpAny _ A (load L >>= _) _ _ _
    refine wpAny_bind (wpAny_load hL3 (wpAny_pure ?_))
    have ea : acc.toList = vs := by
      apply List.ext_getElem?
      intro j
      by_cases hj : j < acc.size
      · have : acc[j]? = some acc[j] := by simp [hj]
        have q := hacc.2 j _ this
        rw [Array.getElem?_toList, this, q]
      · rw [Array.getElem?_toList, Array.getElem?_eq_none (by omega)]
        have := hacc.1
        exact (List.getElem?_eq_none (by omega)).symm
    rw [ea]
    obtain ⟨hp3, g3, d3, tk3, os3⟩ := s3
    obtain rfl : s2.gens = g3 := hm.gens
    obtain rfl : d3 = s2.drawn := hm.drawn
    obtain rfl : os3 = s2.os := hm.os
    have := h hp3 tk3 d vs us' (fun b o e => hm.heap b o (fun z => ?_) (k b o (new1 b o e) (R.heap b o (keep1' b o e)))) (by rw [hL]; exact Nat.le_of_lt (Heap.lt_size hL3)) hvs hpu
    · rw [e2]; exact this
    · rcases List.mem_cons.mp z with z | z
      · exact new1 b o e z
      · have n1 := R.new
        have n2 := Heap.lt_size (keep1' b o e)
        rw [List.mem_singleton.mp z] at n2
        have n1' : h1.objs.size ≤ I := n1
        exact absurd n2 (Nat.not_lt.mpr n1')
  have hL2 : s2.heap.get? L = some { cls := .type "list", dict := none, data := .seq #[] 0, slots := #[] } := R.heap L _ hLo
  have conv : ∀ (r : Result) (s' : Shared), (∃ f, r = .ok (.ret f) ∧ wpAny (model prog w) A (match f with
        | .ref a => do
          match (← load a).data with
          | .seq xs _ => pure xs.toList
          | _ => unsupported "internal:collect"
        | _ => unsupported "internal:collect") Q E s') → (match r with
        | Except.ok (Flow.ret v) => wpAny (model prog w) A (match v with
            | .ref a => do
              match (← load a).data with
              | .seq xs _ => pure xs.toList
              | _ => unsupported "internal:collect"
            | _ => unsupported "internal:collect") Q E s'
        | Except.ok a => False
        | Except.error e => E e s') := fun r s' ⟨f, e, q⟩ => by subst e; exact q
  refine wpAny_ite_split (fun _ => ?_) fun _ => wpAny_pure ⟨plainId_quiet PySem.F.plain_extend_loop _, codeAny_mono (loop s2.heap 0 R.st (fun b o _ e => e) hL2) conv⟩
  apply wpAny_bind; apply wpAny_rule; apply wpAny_bind
  show wpAny _ _ (updateSeq L (·.push .none) >>= fun _ => updateSeq L (·.pop)) _ _ _
  refine wpAny_bind (wpAny_updateSeq hL2 rfl ?_)
  have hL3 := Heap.get?_update_self (Obj.mapSeq (·.push Value.none)) hL2 rfl
  refine wpAny_updateSeq (hz := by seq_fits) hL3 rfl ?_
  have hL4 := Heap.get?_update_self (Obj.mapSeq (·.pop)) hL3 rfl
  have kp : ∀ b o, b ≠ L → s2.heap.get? b = some o → ((s2.heap.update L (Obj.mapSeq (·.push Value.none))).update L (Obj.mapSeq (·.pop))).get? b = some o := fun b o z e => by
    rw [Heap.get?_update_other _ _ (Ne.symm z), Heap.get?_update_other _ _ (Ne.symm z)]; exact e
  refine wpAny_pure ⟨plainId_quiet PySem.F.plain_extend_loop _, codeAny_mono (loop _ _ ?_ kp hL4) conv⟩
  exact (R.walk A.in1 hh).frame 0 s2 _ s2.toks R.st (Nat.le_refl _) fun b m o e => kp b o (fun z => lf (z ▸ m)) e
end
end L2
set_option Elab.async false
set_option linter.all false
set_option maxRecDepth 100000
set_option maxHeartbeats 4000000
namespace L2
open PySem PySem.Spec PyProof.Rows
theorem ltC_irrefl : ∀ a : List Nat, ltCps a a = false
  | [] => rfl
  | x :: r => by simp [ltCps, ltC_irrefl r]
theorem ltC_trans : ∀ {a b c : List Nat}, ltCps a b = true → ltCps b c = true → ltCps a c = true
  | [], [], _, h, _ => by simp [ltCps] at h
  | [], _ :: _, [], _, h => by simp [ltCps] at h
  | [], _ :: _, _ :: _, _, _ => rfl
  | _ :: _, [], _, h, _ => by simp [ltCps] at h
  | _ :: _, _ :: _, [], _, h => by simp [ltCps] at h
  | x :: r, y :: t, z :: u, h1, h2 => by
    simp only [ltCps, Bool.or_eq_true, Bool.and_eq_true, decide_eq_true_eq, beq_iff_eq] at h1 h2 ⊢
    rcases h1 with h1 | ⟨rfl, h1⟩
    · rcases h2 with h2 | ⟨rfl, h2⟩
      · exact .inl (Nat.lt_trans h1 h2)
      · exact .inl h1
    · rcases h2 with h2 | ⟨rfl, h2⟩
      · exact .inl h2
      · exact .inr ⟨rfl, ltC_trans h1 h2⟩
theorem ltC_total : ∀ {a b : List Nat}, ltCps a b = false → ltCps b a = false → a = b
  | [], [], _, _ => rfl
  | [], _ :: _, h, _ => by simp [ltCps] at h
  | _ :: _, [], _, h => by simp [ltCps] at h
  | x :: r, y :: t, h1, h2 => by
    simp only [ltCps, Bool.or_eq_false_iff, Bool.and_eq_false_iff, decide_eq_false_iff_not, beq_eq_false_iff_ne] at h1 h2
    have e : x = y := by omega
    subst e
    rw [ltC_total (a := r) (b := t) (by simpa using h1.2) (by simpa using h2.2)]
def ltS (a b : Str) : Bool := ltCps a.cps.toList b.cps.toList
theorem ltS_irrefl (a : Str) : ltS a a = false := ltC_irrefl _
theorem ltS_trans {a b c : Str} (h1 : ltS a b = true) (h2 : ltS b c = true) : ltS a c = true := ltC_trans h1 h2
theorem ltS_total {a b : Str} (h1 : ltS a b = false) (h2 : ltS b a = false) : a = b := cps_inj (ltC_total h1 h2)
abbrev RisingS (l : List Str) : Prop := l.Pairwise fun a b => ltS a b = true
theorem rising_uniq : ∀ {l m : List Str}, RisingS l → RisingS m → (∀ x, x ∈ l ↔ x ∈ m) → l = m
  | [], [], _, _, _ => rfl
  | [], y :: m, _, _, h => absurd ((h y).mpr List.mem_cons_self) (by simp)
  | x :: l, [], _, _, h => absurd ((h x).mp List.mem_cons_self) (by simp)
  | x :: l, y :: m, hl, hm, h => by
    have hl' := List.pairwise_cons.mp hl
    have hm' := List.pairwise_cons.mp hm
    have e : x = y := by
      rcases List.mem_cons.mp ((h x).mp List.mem_cons_self) with q | q
      · exact q
      · rcases List.mem_cons.mp ((h y).mpr List.mem_cons_self) with q2 | q2
        · exact q2.symm
        · have := ltS_trans (hm'.1 x q) (hl'.1 y q2)
          rw [ltS_irrefl] at this
          cases this
    subst e
    rw [rising_uniq hl'.2 hm'.2 fun z => ?_]
    constructor
    · intro hz
      rcases List.mem_cons.mp ((h z).mp (List.mem_cons_of_mem _ hz)) with q | q
      · subst q; have := hl'.1 z hz; rw [ltS_irrefl] at this; cases this
      · exact q
    · intro hz
      rcases List.mem_cons.mp ((h z).mpr (List.mem_cons_of_mem _ hz)) with q | q
      · subst q; have := hm'.1 z hz; rw [ltS_irrefl] at this; cases this
      · exact q
def insU (x : Str) : List Str → List Str
  | [] => [x]
  | y :: r => if x = y then y :: r else if ltS x y = true then x :: y :: r else y :: insU x r
def sortU : List Str → List Str
  | [] => []
  | x :: r => insU x (sortU r)
theorem mem_insU {x z : Str} : ∀ {l : List Str}, z ∈ insU x l ↔ z = x ∨ z ∈ l
  | [] => by simp [insU]
  | y :: r => by
    unfold insU
    split
    · rename_i e; subst e
      constructor
      · exact .inr
      · rintro (rfl | h)
        · exact List.mem_cons_self
        · exact h
    · split
      · simp
      · rw [List.mem_cons, mem_insU, List.mem_cons]
        constructor
        · rintro (h | h | h)
          · exact .inr (.inl h)
          · exact .inl h
          · exact .inr (.inr h)
        · rintro (h | h | h)
          · exact .inr (.inl h)
          · exact .inl h
          · exact .inr (.inr h)
theorem insU_rising {x : Str} : ∀ {l : List Str}, RisingS l → RisingS (insU x l)
  | [], _ => by simp [insU]
  | y :: r, h => by
    have h' := List.pairwise_cons.mp h
    unfold insU
    split
    · exact h
    · rename_i ne
      split
      · rename_i lt
        refine List.pairwise_cons.mpr ⟨fun z hz => ?_, h⟩
        rcases List.mem_cons.mp hz with rfl | hz
        · exact lt
        · exact ltS_trans lt (h'.1 z hz)
      · rename_i nlt
        refine List.pairwise_cons.mpr ⟨fun z hz => ?_, insU_rising h'.2⟩
        rcases mem_insU.mp hz with rfl | hz
        · cases q : ltS y z with
          | true => rfl
          | false => exact absurd (ltS_total (by simpa using nlt) q) ne
        · exact h'.1 z hz
theorem mem_sortU {z : Str} : ∀ {l : List Str}, z ∈ sortU l ↔ z ∈ l
  | [] => by simp [sortU]
  | x :: r => by rw [sortU, mem_insU, mem_sortU, List.mem_cons]
theorem sortU_rising : ∀ l : List Str, RisingS (sortU l)
  | [] => .nil
  | x :: r => insU_rising (sortU_rising r)
theorem rising_of_sorted : ∀ {l : List Str}, sortedS l = true → l.Pairwise fun a b => ltS b a = false
  | [], _ => .nil
  | [x], _ => by simp
  | x :: y :: r, h => by
    have h2 : risingS x (y :: r) = true := h
    have h3 : (!ltCps y.cps.toList x.cps.toList && risingS y r) = true := h2
    rw [Bool.and_eq_true] at h3
    have ih := rising_of_sorted (l := y :: r) h3.2
    have hxy : ltS y x = false := by simpa [ltS] using h3.1
    refine List.pairwise_cons.mpr ⟨fun z hz => ?_, ih⟩
    rcases List.mem_cons.mp hz with rfl | hz
    · exact hxy
    · have hyz := (List.pairwise_cons.mp ih).1 z hz
      cases q : ltS z x with
      | false => rfl
      | true =>
        cases q2 : ltS x y with
        | true => have := ltS_trans q q2; rw [hyz] at this; cases this
        | false => have e := ltS_total q2 hxy; subst e; rw [q] at hyz; cases hyz
theorem sorted_uniq {vs us ts : List Str} (h : sortedS vs = true) (p : vs.Perm us) (nd : us.Nodup) (m : ∀ x, x ∈ us ↔ x ∈ ts) : vs = sortU ts := by
  have nv : vs.Nodup := p.nodup_iff.mpr nd
  refine rising_uniq ?_ (sortU_rising ts) fun x => by rw [p.mem_iff, m, mem_sortU]
  have r := rising_of_sorted h
  have q : vs.Pairwise fun a b => a ≠ b := nv
  exact List.Pairwise.imp (fun {a b} hab => by
    cases e : ltS a b with
    | true => rfl
    | false => exact absurd (ltS_total e hab.1) hab.2) (List.Pairwise.and r q)
def SetO (prog : Program) (w : World) (S : Addr) (us : List Str) : HO := .ext fun h => SetS prog w h S us
section
variable {X : Cx} {pins : List (Addr × Obj)} {σ : St} {H : Hp} {s : Shared}
theorem Inv.draw (I : Inv X pins σ H s) (d : Drawn) : Inv X pins σ H { s with drawn := d } := ⟨I.ok, I.os, I.bare, I.base, I.loc, I.cell, I.free, I.freeC, I.pin, I.hok, I.len⟩
def rSetOf (P : Program) (w : World) (K : PySem.W.Frag) : List V → Hp → VK → Prop := fun xs H Q => ∃ (a : Addr) (ts : List Str), xs = [.ref a] ∧ SqL K H a (ts.map V.str) ∧ ts.length < 4000 ∧
  ∀ S us, H S = none → us.Nodup → us.length ≤ ts.length → (∀ x, x ∈ us ↔ x ∈ ts) → Q (.ref S) (upd H S (SetO P w S us))
theorem call_setOf (hc : X.calm = true) : CallR X (.type "set") (rSetOf X.prog X.w X.K) := by
  intro pins s σ H xs us Q I r h
  obtain ⟨a, ts, rfl, hq, hl, k⟩ := h
  obtain ⟨u, rfl, ru⟩ := vals1 r
  cases ru
  obtain ⟨its, rv, pl, _⟩ := I.list hq
  have hlen : its.length = ts.length := by have := rv.length; simpa using this.symm
  refine call_set_strs (I.ok.hd hc) pl.isList (by simpa using strsAre_of rv) (by rw [List.size_toArray, hlen]; show ts.length + 1 < 4096; omega) fun s' hm => ?_
  obtain ⟨hp, tk, us', rfl, S, l1, m1, kp⟩ := hm
  obtain ⟨o, es, ep, tb, ho, hex, hd, hel, hus, nd, rest⟩ := id S
  refine ⟨.ref s.heap.objs.size, _, I.laid (t' := tk) (o := SetO X.prog X.w s.heap.objs.size us') (fun b o e => kp b o (Heap.lt_size e) e) (Nat.le_refl _) ⟨S, ⟨o, ho⟩, fun h1 h2 s1 k1 => s1.at k1⟩, rfl, k _ us' (I.hok.fresh (Nat.le_refl _)) nd l1 m1⟩
theorem vals_strs : ∀ {us : List Value} {ys : List Str}, StrsAre us ys → Vals (ys.map V.str) us
  | _, _, .nil => .nil
  | _, _, .cons x t r => .cons ⟨t, rfl⟩ (vals_strs r)
variable {P : Program} {w : World} {K : PySem.W.Frag} {Q : VK} {p : Addr}
theorem callA_set (P : Program) (w : World) (K : PySem.W.Frag) (hc : X.calm = true) (hK : X.K = K := by rfl) (hP : X.prog = P := by rfl) (hw : X.w = w := by rfl) : CallR X (.type "set") (rSetOf P w K) := by
  subst hK hP hw; exact call_setOf hc
theorem w_setOf : rSetOf P w K [.ref p] H Q = ∃ ts : List Str, SqL K H p (ts.map V.str) ∧ ts.length < 4000 ∧ ∀ S us, H S = none → us.Nodup → us.length ≤ ts.length → (∀ x, x ∈ us ↔ x ∈ ts) → Q (.ref S) (upd H S (SetO P w S us)) := by
  refine propext ⟨fun ⟨_, ts, e, h⟩ => ?_, fun ⟨ts, h⟩ => ⟨p, ts, rfl, h⟩⟩
  cases e; exact ⟨ts, h⟩
end
end L2
set_option Elab.async false
set_option linter.all false
set_option maxRecDepth 100000
set_option maxHeartbeats 4000000
namespace L2
open PySem PySem.Spec PyProof.Rows
open PySem.Builtin PySem.Builtin.Str
section
variable {X : Cx}
def rIs (f : Str → Bool) : V → List V → Hp → VK → Prop := fun x vs H Q => ∃ z, x = .str z ∧ vs = [] ∧ Q (.bl (f z)) H
theorem mt_is {id : String} {f : Str → Bool} (h : ∀ {x : Str} {t : Tok} {Q : Value → Shared → Prop} {s : Shared}, Q (.bool (f x)) s → wpAny (model X.prog X.w) X.A (call (.builtin id) [.str x t]) Q X.xe s) : MtR X id (rIs f) := by
  intro pins s σ H x vs v us Q I rx rv ⟨z, e1, e2, q⟩
  subst e1 e2
  obtain ⟨t, rfl⟩ := (show ∃ t, v = Value.str z t from rx)
  cases rv
  exact h ⟨.bl _, H, I, rfl, q⟩
theorem mt_islower : MtR X "str.islower" (rIs Txt.islower) := mt_is fun h => SC.islower h
theorem mt_isupper : MtR X "str.isupper" (rIs Txt.isupper) := mt_is fun h => SC.isupper h
def rIs2 (f : Str → Str → Bool) : V → List V → Hp → VK → Prop := fun x vs H Q => ∃ z y, x = .str z ∧ vs = [.str y] ∧ Q (.bl (f z y)) H
def rStrip : V → List V → Hp → VK → Prop := fun x vs H Q => ∃ z, x = .str z ∧ vs = [] ∧ z.length ≤ sizeLine ∧ Q (.str (Txt.strip z)) H
def rSplit : V → List V → Hp → VK → Prop := fun x vs H Q => ∃ z y, x = .str z ∧ vs = [.str y] ∧ y ≠ Str.empty ∧ z.length ≤ 1000000 ∧ ∀ p, H p = none → Q (.ref p) (upd H p (.lst ((Txt.split z y).map V.str)))
def timesS (z : Str) (n : Nat) : Str := ⟨(List.replicate n z.cps).foldl (· ++ ·) #[]⟩
def rMulS : R2 := fun x y H Q => ∃ z n, x = .str z ∧ y = .int n ∧ n < 1000 ∧ -1000 < n ∧ z.length ≤ 1000 ∧ Q (.str (timesS z n.toNat)) H
end
section
variable {K : PySem.W.Frag} {H : Hp} {Q : VK} {x y : Str} {f : Str → Bool} {g : Str → Str → Bool}
theorem w_mulS {n : Int} : rMulS (.str x) (.int n) H Q = (n < 1000 ∧ -1000 < n ∧ x.length ≤ 1000 ∧ Q (.str (timesS x n.toNat)) H) := propext ⟨fun ⟨_, _, e, e', h⟩ => by cases e; cases e'; exact h, fun h => ⟨x, n, rfl, rfl, h⟩⟩
theorem w_is : rIs f (.str x) [] H Q = Q (.bl (f x)) H := propext ⟨fun ⟨_, e, _, h⟩ => by cases e; exact h, fun h => ⟨x, rfl, rfl, h⟩⟩
theorem w_is2 : rIs2 g (.str x) [.str y] H Q = Q (.bl (g x y)) H := propext ⟨fun ⟨_, _, e, e', h⟩ => by cases e; cases e'; exact h, fun h => ⟨x, y, rfl, rfl, h⟩⟩
theorem w_strip : rStrip (.str x) [] H Q = (x.length ≤ sizeLine ∧ Q (.str (Txt.strip x)) H) := propext ⟨fun ⟨_, e, _, h⟩ => by cases e; exact h, fun h => ⟨x, rfl, rfl, h⟩⟩
theorem w_split : rSplit (.str x) [.str y] H Q = (y ≠ Str.empty ∧ x.length ≤ 1000000 ∧ ∀ p, H p = none → Q (.ref p) (upd H p (.lst ((Txt.split x y).map V.str)))) := propext ⟨fun ⟨_, _, e, e', h⟩ => by cases e; cases e'; exact h, fun h => ⟨x, y, rfl, rfl, h⟩⟩
end
end L2
namespace L2
open PySem PySem.Spec PyProof.Rows
section
variable {X : Cx} {o : Expr} {name : Str} {to : TE} {T iid : String} {r : V → List V → Hp → VK → Prop} {apos cpos : Pos}
theorem pe_bmA0 (K : PySem.W.Frag) (pa : PlainAttrs T) (slot : Slot T name iid) (hty : typeOf (.builtin iid) = pure (.type "method_descriptor")) (hm : MtR X iid r) (ho : PE X o to) (hK : X.K = K := by rfl)
    (hbase : attributeBase o name X.env (eval o X.env) = eval o X.env := by rfl) (hline : (apos.endLine == cpos.line) = true := by rfl) : PE X (.Call (.Attribute o name apos) [] [] cpos) (tBM0 K T r to) := hK ▸ pe_bm0 pa slot hty hm ho hbase hline
theorem w_BM0 {K : PySem.W.Frag} {σ : St} {H : Hp} {Q : VK} : tBM0 K T r to σ H Q = to σ H fun x H1 => tyV K T x H1 ∧ r x [] H1 Q := rfl
end
end L2
set_option Elab.async false
set_option linter.all false
set_option maxRecDepth 100000
set_option maxHeartbeats 4000000
namespace L2
open PySem PySem.Spec PyProof.Rows
section
variable {X : Cx} {pins : List (Addr × Obj)} {σ : St} {H : Hp} {s : Shared}
end
end L2
namespace L2
open PySem PySem.Spec PyProof.Rows
def PS1 (X : Cx) (st : Stmt) (t : TS) : Prop :=
  ∀ (pins : List (Addr × Obj)) (s : Shared) (σ : St) (H : Hp) (D : Ends), 1 ≤ s.toks → Inv X pins σ H s → t D σ H → wpAny (model X.prog X.w) X.A (exec st X.env) (SP X pins D) X.xe s
section
variable {X : Cx}
end
end L2
set_option Elab.async false
set_option linter.all false
set_option maxRecDepth 100000
set_option maxHeartbeats 4000000
namespace L2
open PySem PySem.Spec PyProof.Rows
def Air (h : Heap) (e C : Addr) (fl : Option Value) (l : List Addr) : Prop :=
  ∃ oe vs a0, h.get? e = some oe ∧ oe.cls = .ref C ∧ oe.data = .fields vs ∧ vs[0]? = some a0 ∧
    match fl with
    | none => l = [e] ∧ vs[1]? = some .none
    | some f => ∃ T oT ts, l = [e, T] ∧ vs[1]? = some (.ref T) ∧ T ≠ e ∧ h.get? T = some oT ∧ oT.data = .fields ts ∧ ts[3]? = some f
theorem Air.first {h : Heap} {e C : Addr} {fl : Option Value} {l : List Addr} (a : Air h e C fl l) : e ∈ l := by
  obtain ⟨oe, vs, a0, h1, h2, h3, h4, h5⟩ := a
  cases fl with
  | none => obtain ⟨rfl, _⟩ := h5; exact List.mem_singleton.mpr rfl
  | some f => obtain ⟨T, oT, ts, rfl, _⟩ := h5; exact List.mem_cons_self ..
theorem ObjOk.there {P : Program} {w : World} {H : Hp} {h : Heap} {a : Addr} {o : HO} (x : ObjOk P w H h a o) : ∃ ob, h.get? a = some ob := by
  cases o with
  | lst xs => obtain ⟨_, _, _, _, e⟩ := x; exact ⟨_, e⟩
  | tup xs => obtain ⟨_, _, _, p⟩ := x; obtain ⟨o, e, _⟩ := p; exact ⟨_, e⟩
  | dK kvs => obtain ⟨_, _, _, _, o, _, _, e, _⟩ := x; exact ⟨_, e⟩
  | dT kvs => obtain ⟨_, _, _, _, o, _, _, e, _⟩ := x; exact ⟨_, e⟩
  | set S n => obtain ⟨o, _, _, _, e, _⟩ := x; exact ⟨_, e⟩
  | ins C dx fs => obtain ⟨_, _, _, e, _⟩ := x; exact ⟨_, e⟩
  | own y => obtain ⟨_, e⟩ := x; exact ⟨_, e⟩
  | xd fs => obtain ⟨_, ⟨_, _, _, e, _⟩, _⟩ := x; exact ⟨_, e⟩
  | rng lo hi => obtain ⟨_, _, _, e⟩ := x; exact ⟨_, e⟩
  | frz ob u => obtain ⟨e, _⟩ := x; exact ⟨_, e⟩
  | tbl ps => exact ⟨_, (show h.get? a = some _ from x)⟩
  | met f y => exact ⟨_, (show h.get? a = some _ from x)⟩
  | ext φ => obtain ⟨_, ⟨_, e⟩, _⟩ := x; exact ⟨_, e⟩
structure Fnc (X : Cx) : Prop where
  stk : X.stack = X.env :: X.outer
  fr : X.env.frame = some X.env.locals
  ex : X.ex = []
theorem Fnc.wish {X : Cx} (F : Fnc X) (E : Value → Shared → Prop) : Fnc (X.wish E) := ⟨F.stk, F.fr, F.ex⟩
section
variable {X : Cx} {σ : St} {H : Hp} {s : Shared} {l : List Addr} {e C : Addr} {fl : Option Value}
end
def CXX (P : Program) (w : World) : CXT := fun outer H s E u s' =>
  ∃ e C l H', u = .ref e ∧ E (.ref C) none H' ∧ s'.os = s.os ∧ AllBare s'.gens ∧ Un (frs outer) [] H H' s.heap s'.heap ∧ HOk P w H' s'.heap ∧ Air s'.heap e C (some .none) l ∧ ∀ b ∈ l, s.heap.get? b = none ∧ H' b = none
section
variable {X : Cx} {G : Addr → St → Hp → Prop} {u : Value} {s : Shared}
end
def xnames : List Str := ["__init__", "__getattribute__", "__getattr__", "__class__"]
inductive TailX (h : Heap) (bmB : List Value) : List Value → Prop
  | base : TailX h bmB bmB
  | own {A : Addr} {c0 : Value} {dd : Option Addr} {cd : ClassData} {sl : Array (Option Value)} {mA : Str → Option Value} {tl : List Value} :
      h.get? A = some { cls := c0, dict := dd, data := .cls cd, slots := sl } → h.Ns cd.ns mA → (∀ n ∈ xnames, mA n = none) → TailX h bmB tl → TailX h bmB (.ref A :: tl)
theorem TailX.tail {h : Heap} {bmB tl : List Value} (T : TailX h bmB tl) : OwnTail h bmB tl := by
  induction T with
  | base => exact .base
  | own hA hN hq _ ih => exact .own hA hN (hq _ (.head _)) ih
section
variable {X : Cx} {G : Addr → St → Hp → Prop}
end
def tCallX (sp : Sp) (dvs : List V) (G : Addr → St → Hp → Prop) (t : TA) : TE := fun σ H Q => t σ H fun vs H1 => sp (vs ++ dvs) H1 Q (fun c _ H' => ∃ C, c = .ref C ∧ G C σ H')
section
variable {X : Cx} {G : Addr → St → Hp → Prop} {k : Nat} {f : Addr} {fd : FuncData} {ps : List Str} {sp : Sp} {dvs : List V} {ds : List Value} {x : Str} {p pos : Pos} {e : Expr} {es : List Expr} {t : TA}
end
end L2
namespace L2
open PySem PySem.Spec PyProof.Rows
abbrev Cx.at (X : Cx) (pins : List (Addr × Obj)) (E : Value → Shared → Prop) : Cx := { X with pn := X.pn ++ pins, xe := E }
section
variable {X : Cx} {pins : List (Addr × Obj)} {σ : St} {H : Hp} {s : Shared} {E : Value → Shared → Prop} {e : Addr}
theorem Cx.Ok.at (ok : X.Ok) : (X.at pins E).Ok :=
  ⟨ok.mod, ok.kind, ok.glob, ok.blt, ok.above, ok.inj, ok.has, ok.cab, ok.hd, ok.frames, ok.stk, ok.exf, ok.bs, ok.bsz, ok.noex, ok.exfs, ok.funs, ok.frf⟩
theorem Inv.at (I : Inv X pins σ H s) (E : Value → Shared → Prop) : Inv (X.at pins E) [] σ H s := ⟨I.ok.at, I.os, I.bare, I.base, I.loc, I.cell, I.free, I.freeC, fun p hp => I.pin p (by simpa using hp), I.hok, I.len⟩
end
def Apart (X : Cx) (pins : List (Addr × Obj)) (H : Hp) (l : List Addr) : Prop := ∀ b ∈ l, X.s₀.heap.get? b = none ∧ H b = none ∧ ∀ p ∈ X.pn ++ pins, p.1 ≠ b
def PH (X : Cx) (hs : List ExceptHandler) (th : Addr → TS) : Prop :=
  ∀ (pins : List (Addr × Obj)) (s : Shared) (σ : St) (H : Hp) (D : Ends) (e C : Addr) (l : List Addr), Inv X pins σ H s → Air s.heap e C (some .none) l → Apart X pins H l → th C D σ H →
    wpAny (model X.prog X.w) X.A (handleBy (.ref e) X.env hs) (SP X pins D) X.xe s
def tTry (tb : (Addr → St → Hp → Prop) → TS) (th : Addr → TS) (te : TS) : TS := fun D σ H => ∃ G : Addr → St → Hp → Prop, tb G { D with nx := te D } σ H ∧ ∀ C σ' H', G C σ' H' → th C D σ' H'
end L2
namespace L2
open PySem PySem.Spec PyProof.Rows
section
variable {X : Cx}
end
end L2
namespace L2
open PySem PySem.Spec PyProof.Rows
section
variable {prog : Program} {w : World} {A : Around} {E : Value → Shared → Prop} {h : Heap} {g : Array GenState} {d : Drawn} {t : Nat} {os : OsState} {a : Addr} {o : Obj} {vs : Array Value}
  {nm q : Str} {C N : Addr} {bs bm bmB : List Value} {hdct : Bool} {sn : List Str} {sub : List Value} {ab : Bool} {col : Option Bool} {dd : Option Addr} {k0 k1 k2 k3 k5 : Option Value} {B newId : String} {mN : Str → Option Value}
structure XBase (B : String) (bmB : List Value) : Prop extends ExcAttrBase B bmB where
  lkC : typeLookup (.type B) "__class__" = pure (some (.builtin "object.__class__"))
  hasObj : bmB.contains (.type "object") = true
end
end L2
namespace L2
open PySem PySem.Spec PyProof.Rows
structure RoomH (k : Nat) (A : Around) : Prop where
  dp : A.depth + 3 * k + 5 < recursionLimit
  un : A.units + 16 * k + 200 < cLine
theorem Room.h {k : Nat} {A : Around} (r : Room k A) : RoomH k A := ⟨r.dp, r.un⟩
theorem RoomH.deeper {k : Nat} {A : Around} (r : RoomH (k + 1) A) (env : Env) : RoomH k (A.deeper env) :=
  ⟨by have := r.dp; show A.depth + 1 + 3 * k + 5 < _; omega, by have := r.un; show A.units + 3 + 16 * k + 200 < _; omega⟩
theorem RoomH.mono {j k : Nat} {A : Around} (r : RoomH k A) (h : j ≤ k) : RoomH j A := ⟨by have := r.dp; omega, by have := r.un; omega⟩
structure FnOkH (P : Program) (w : World) (K : PySem.W.Frag) (mg : Str → Option Value) (base : Heap) (k : Nat) (f : Addr) (fd : FuncData) (ps : List Str) (sp : Sp) : Prop where
  len : ∀ vs H Q E, sp vs H Q E → vs.length = ps.length
  run : ∀ (A : Around) (outer : List Env) (s : Shared) (H : Hp) (args : Args) (us : List Value) (vs : List V) (Q : VK), RoomH k A → Env0 P w K mg base A outer s H → BindsTo s fd args (ps.zip us) → Vals vs us → sp vs H Q E0 →
    codeAny (model P w) A (.call (.ref f) args) (CR CX0 outer P w H s Q E0) s
theorem FnOk.calm {P : Program} {w : World} {K : PySem.W.Frag} {mg : Str → Option Value} {base : Heap} {k : Nat} {f : Addr} {fd : FuncData} {ps : List Str} {sp : Sp} (F : FnOk P w K mg base (CXX P w) k f fd ps sp) (h : ∀ vs H Q E, sp vs H Q E → sp vs H Q E0) : FnOk P w K mg base CX0 k f fd ps sp :=
  ⟨F.len, fun A outer s H args us vs Q E hr he hb hv hs => codeAny_mono (F.run A outer s H args us vs Q E0 hr he hb hv (h _ _ _ _ hs)) fun r s' q => by
    cases r with
    | error e => obtain ⟨_, _, _, _, _, z, _⟩ := q; exact z.elim
    | ok fl => cases fl <;> exact q⟩
section
variable {X : Cx} {k : Nat} {f : Addr} {fd : FuncData} {ps : List Str} {sp : Sp} {dvs : List V} {ds : List Value} {x : Str} {p pos : Pos} {e : Expr} {es : List Expr} {t : TA}
end
end L2
namespace L2
open PySem PySem.Spec PyProof.Rows
structure CNs (K : PySem.W.Frag) (N : Addr) : Prop where
  ok : ∃ oc od es ep sl, K.lookup N = some ⟨oc, od, .dict (List.toArray es) ep, sl⟩ ∧ (es.all fun e => match e.key with | .str _ _ => true | _ => false) = true
  n1 : PySem.W.nsIn K N "__init__" = some none
  n2 : PySem.W.nsIn K N "__getattribute__" = some none
  n3 : PySem.W.nsIn K N "__getattr__" = some none
  n4 : PySem.W.nsIn K N "__class__" = some none
theorem CNs.quiet {K : PySem.W.Frag} {h : Heap} {N : Addr} (c : CNs K N) (X : K.In h) : h.Ns N (h.nsMap N) ∧ ∀ n ∈ xnames, h.nsMap N n = none := by
  have ok : PySem.W.nsOkIn K N = true := by
    obtain ⟨oc, od, es, ep, sl, e, q⟩ := c.ok
    unfold PySem.W.nsOkIn
    rw [e]
    exact (List.all_toArray (l := es)).trans q
  refine ⟨.of_isNs (PySem.W.isNs_of_in X ok), fun n hn => PySem.W.nsMap_none_of_in X ok ?_⟩
  simp only [xnames, List.mem_cons, List.not_mem_nil, or_false] at hn
  rcases hn with rfl | rfl | rfl | rfl
  · exact c.n1
  · exact c.n2
  · exact c.n3
  · exact c.n4
section
variable {K : PySem.W.Frag} {mg : Str → Option Value} {x nm q nm' q' : Str} {C D N N' : Addr} {bm bs bs' bm' : List Value} {hdct hdct' : Bool} {sn sn' : List Str} {sub sub' : List Value} {ab ab' : Bool} {col col' : Option Bool} {dd dd' : Option Addr} {k0 k1 k2 k3 k5 k0' k1' k2' k3' k5' : Option Value} {newId newId' : String} {b : Bool}
end
end L2
set_option Elab.async false
set_option linter.all false
set_option maxRecDepth 100000
set_option maxHeartbeats 4000000
namespace L2
open PySem PySem.Spec PyProof.Rows
abbrev TJ := Str → St → Hp → (Str → Hp → Prop) → Prop
def PJ (X : Cx) (es : List Expr) (t : TJ) : Prop :=
  ∀ (pins : List (Addr × Obj)) (s : Shared) (σ : St) (H : Hp) (acc : Str) (Q : Str → Hp → Prop), Inv X pins σ H s → t acc σ H Q → Joins (model X.prog X.w) X.A X.xe (evalEach es X.env) acc (fun out s₁ => ∃ H', Inv X pins σ H' s₁ ∧ Q out H') s
def tJn : TJ := fun acc _ H Q => Q acc H
def tJc (te : TE) (tr : TJ) : TJ := fun acc σ H Q => te σ H fun x H1 => ∃ y, x = .str y ∧ (acc ++ y).length ≤ sizeLine ∧ tr (acc ++ y) σ H1 Q
section
variable {X : Cx} {e v : Expr} {es : List Expr} {te : TE} {tr : TJ} {pos : Pos}
def tFs (tj : TJ) : TE := fun σ H Q => tj Str.empty σ H fun out H1 => out.length ≤ sizeLine ∧ Q (.str out) H1
def tFr (te : TE) : TE := fun σ H Q => te σ H fun x H1 => (∃ y, x = .str y ∧ (PySem.reprText y).length ≤ sizeLine ∧ Q (.str (PySem.reprText y)) H1) ∨ ∃ i : Int, x = .int i ∧ i.natAbs.log2 < 1920 ∧ Q (.str (toString i)) H1
def tFv (te : TE) : TE := fun σ H Q => te σ H fun x H1 => (∃ y, x = .str y ∧ y.length ≤ sizeLine ∧ Q (.str y) H1) ∨ ∃ i : Int, x = .int i ∧ i.natAbs.log2 < 1920 ∧ Q (.str (toString i)) H1
end
end L2
namespace L2
open PySem PySem.Spec PyProof.Rows
section
variable {σ : St} {H : Hp} {Q : VK} {D : Ends} {te : TE} {tr : TJ} {acc y : Str} {i : Int} {R : Str → Hp → Prop} {G : Addr → St → Hp → Prop} {sp : Sp} {dvs : List V} {t : TA}
theorem w_fs {tj : TJ} : tFs tj σ H Q = tj Str.empty σ H fun out H1 => out.length ≤ sizeLine ∧ Q (.str out) H1 := rfl
theorem w_jn : tJn acc σ H R = R acc H := rfl
theorem w_jc : tJc te tr acc σ H R = te σ H fun x H1 => ∃ y, x = .str y ∧ (acc ++ y).length ≤ sizeLine ∧ tr (acc ++ y) σ H1 R := rfl
theorem w_exStr {p : Str → Prop} : (∃ y', V.str y = V.str y' ∧ p y') = p y := propext ⟨fun ⟨_, e, h⟩ => by cases e; exact h, fun h => ⟨y, rfl, h⟩⟩
theorem w_fr : tFr te σ H Q = te σ H fun x H1 => (∃ y, x = .str y ∧ (PySem.reprText y).length ≤ sizeLine ∧ Q (.str (PySem.reprText y)) H1) ∨ ∃ i : Int, x = .int i ∧ i.natAbs.log2 < 1920 ∧ Q (.str (toString i)) H1 := rfl
theorem w_fv : tFv te σ H Q = te σ H fun x H1 => (∃ y, x = .str y ∧ y.length ≤ sizeLine ∧ Q (.str y) H1) ∨ ∃ i : Int, x = .int i ∧ i.natAbs.log2 < 1920 ∧ Q (.str (toString i)) H1 := rfl
theorem w_orStr {p : Str → Prop} {q : Int → Prop} : ((∃ y', V.str y = V.str y' ∧ p y') ∨ ∃ i, V.str y = V.int i ∧ q i) = p y := propext ⟨fun h => by rcases h with ⟨_, e, h⟩ | ⟨_, e, _⟩ <;> cases e; exact h, fun h => .inl ⟨y, rfl, h⟩⟩
theorem w_orInt {p : Str → Prop} {q : Int → Prop} : ((∃ y', V.int i = V.str y' ∧ p y') ∨ ∃ j, V.int i = V.int j ∧ q j) = q i := propext ⟨fun h => by rcases h with ⟨_, e, _⟩ | ⟨_, e, h⟩ <;> cases e; exact h, fun h => .inr ⟨i, rfl, h⟩⟩
theorem w_callX : tCallX sp dvs G t σ H Q = t σ H fun vs H1 => sp (vs ++ dvs) H1 Q (fun c _ H' => ∃ C, c = .ref C ∧ G C σ H') := rfl
theorem w_try {tb : (Addr → St → Hp → Prop) → TS} {th : Addr → TS} {te : TS} : tTry tb th te D σ H = ∃ G : Addr → St → Hp → Prop, tb G { D with nx := te D } σ H ∧ ∀ C σ' H', G C σ' H' → th C D σ' H' := rfl
end
end L2
namespace L2
open PySem PySem.Spec PyProof.Rows
abbrev TM := St → Hp → (Hp → Prop) → Prop
def PMp (X : Cx) (e : Expr) (t : TM) : Prop :=
  ∀ (pins : List (Addr × Obj)) (s : Shared) (σ : St) (H : Hp) (R : Hp → Prop), Inv X pins σ H s → t σ H R → wpAny (model X.prog X.w) X.A (eval e X.env) (fun u s' => ∃ y t H', u = .str y t ∧ y.length ≤ 1000 ∧ Inv X pins σ H' s' ∧ R H') X.xe s
def PM (X : Cx) (es : List Expr) (t : TM) : Prop :=
  ∀ (pins : List (Addr × Obj)) (s : Shared) (σ : St) (H : Hp) (acc : Str) (m : Nat) (R : Hp → Prop), Inv X pins σ H s → acc.length ≤ m → m + 1000 * es.length ≤ 100000 → t σ H R →
    Joins (model X.prog X.w) X.A X.xe (evalEach es X.env) acc (fun out s₁ => ∃ H', Inv X pins σ H' s₁ ∧ out.length ≤ 100000 ∧ R H') s
section
variable {X : Cx} {e v : Expr} {es : List Expr} {te : TE} {tp tr : TM} {pos : Pos}
def tM0 : TM := fun _ H R => R H
def tMc (tp tr : TM) : TM := fun σ H R => tp σ H fun H1 => tr σ H1 R
def tMr (te : TE) : TM := fun σ H R => te σ H fun x H1 => ((∃ y, x = .str y ∧ y.length ≤ 90 ∧ (∀ c ∈ y.cps.toList, c < 1114112)) ∨ ∃ i : Int, x = .int i ∧ i.natAbs.log2 < 900) ∧ R H1
def tMv (te : TE) : TM := fun σ H R => te σ H fun x H1 => ((∃ y, x = .str y ∧ y.length ≤ 1000) ∨ ∃ i : Int, x = .int i ∧ i.natAbs.log2 < 900) ∧ R H1
def tMsg (tm : TM) : TE := fun σ H Q => tm σ H fun H1 => ∀ out : Str, out.length ≤ 100000 → Q (.str out) H1
end
section
variable {σ : St} {H : Hp} {Q : VK} {te : TE} {tp tr tm : TM} {R : Hp → Prop} {y : Str} {i : Int}
theorem w_msg : tMsg tm σ H Q = tm σ H fun H1 => ∀ out : Str, out.length ≤ 100000 → Q (.str out) H1 := rfl
theorem w_m0 : tM0 σ H R = R H := rfl
theorem w_mc : tMc tp tr σ H R = tp σ H fun H1 => tr σ H1 R := rfl
theorem w_mr : tMr te σ H R = te σ H fun x H1 => ((∃ y, x = .str y ∧ y.length ≤ 90 ∧ (∀ c ∈ y.cps.toList, c < 1114112)) ∨ ∃ i : Int, x = .int i ∧ i.natAbs.log2 < 900) ∧ R H1 := rfl
theorem w_mv : tMv te σ H R = te σ H fun x H1 => ((∃ y, x = .str y ∧ y.length ≤ 1000) ∨ ∃ i : Int, x = .int i ∧ i.natAbs.log2 < 900) ∧ R H1 := rfl
end
end L2
set_option Elab.async false
set_option linter.all false
set_option maxRecDepth 100000
set_option maxHeartbeats 4000000
namespace L2
open PySem PySem.Spec PyProof.Rows
section
variable {X : Cx} {G : Addr → St → Hp → Prop} {k : Nat} {f C : Addr} {fd : FuncData} {ps : List Str} {sp : Sp} {dvs : List V} {ds : List Value} {x m : Str} {p pos apos : Pos} {e o : Expr} {es : List Expr} {ta : TE} {t : TA}
def tMethX (C : Addr) (m : Str) (sp : Sp) (dvs : List V) (G : Addr → St → Hp → Prop) (ta : TE) (t : TA) : TE := fun σ H Q => ta σ H fun x H1 => ∃ a dx fs, x = .ref a ∧ H1 a = some (.ins C dx fs) ∧ fs.lookup m = none ∧
  t σ H1 fun vs H2 => sp (x :: (vs ++ dvs)) H2 Q (fun c _ H' => ∃ C, c = .ref C ∧ G C σ H')
end
section
variable {K : PySem.W.Frag} {σ : St} {H : Hp} {Q : VK} {D : Ends} {ta tv : TE} {t : TA} {f m : Str} {p C : Addr} {sp : Sp} {dvs : List V} {E : XK} {G : Addr → St → Hp → Prop} {rd : V → V → Hp → VK → Prop}
theorem w_fld : tFld K ta f σ H Q = ta σ H fun x H1 => ∃ a C dx fs v, x = .ref a ∧ H1 a = some (.ins C dx fs) ∧ Cls K C ∧ NoAttr K C f ∧ fs.lookup f = some v ∧ Q v H1 := rfl
theorem w_sfld : sFld K ta tv f D σ H = tv σ H fun y H1 => ta σ H1 fun x H2 => ∃ a C dx fs, x = .ref a ∧ H2 a = some (.ins C dx fs) ∧ Cls K C ∧ NoAttr K C f ∧ fs.length < 1000 ∧ D.nx σ (upd H2 a (.ins C dx (putF f y fs))) := rfl
theorem w_meth : tMeth C m sp dvs E ta t σ H Q = ta σ H fun x H1 => ∃ a dx fs, x = .ref a ∧ H1 a = some (.ins C dx fs) ∧ fs.lookup m = none ∧ t σ H1 fun vs H2 => sp (x :: (vs ++ dvs)) H2 Q E := rfl
theorem w_methX : tMethX C m sp dvs G ta t σ H Q = ta σ H fun x H1 => ∃ a dx fs, x = .ref a ∧ H1 a = some (.ins C dx fs) ∧ fs.lookup m = none ∧ t σ H1 fun vs H2 => sp (x :: (vs ++ dvs)) H2 Q (fun c _ H' => ∃ C, c = .ref C ∧ G C σ H') := rfl
theorem w_make : tMake C sp dvs E t σ H Q = t σ H fun vs H1 => ∀ x dx, H1 x = none → H1 dx = none → dx ≠ x → sp (.ref x :: (vs ++ dvs)) (upd (upd H1 dx (.own x)) x (.ins C dx [])) (fun v H2 => v = .non ∧ Q (.ref x) H2) E := rfl
end
end L2
set_option Elab.async false
set_option linter.all false
set_option maxRecDepth 100000
set_option maxHeartbeats 4000000
namespace L2
open PySem PySem.Spec PyProof.Rows
def PE1 (X : Cx) (e : Expr) (t : TE) : Prop :=
  ∀ (pins : List (Addr × Obj)) (s : Shared) (σ : St) (H : Hp) (Q : VK), 1 ≤ s.toks → Inv X pins σ H s → t σ H Q → wpAny (model X.prog X.w) X.A (eval e X.env) (EP X pins σ Q) X.xe s
def PA1 (X : Cx) (es : List Expr) (t : TA) : Prop :=
  ∀ (pos : Pos) (pins : List (Addr × Obj)) (s : Shared) (σ : St) (H : Hp) (Q : List V → Hp → Prop), 1 ≤ s.toks → Inv X pins σ H s → t σ H Q → wpAny (model X.prog X.w) X.A (spliced (backTo pos (starEach es X.env))) (AP X pins σ Q) X.xe s
def PSs1 (X : Cx) (st : List Stmt) (t : TS) : Prop :=
  ∀ (pins : List (Addr × Obj)) (s : Shared) (σ : St) (H : Hp) (D : Ends), 1 ≤ s.toks → Inv X pins σ H s → t D σ H → wpAny (model X.prog X.w) X.A (execs st X.env) (SP X pins D) X.xe s
section
variable {X : Cx} {e : Expr} {es : List Expr} {st : Stmt} {rest : List Stmt} {te : TE} {ta : TA} {t u : TS} {pos : Pos}
theorem PE.up (h : PE X e te) : PE1 X e te := fun pins s σ H Q _ => h pins s σ H Q
theorem PA.up (h : PA X es ta) : PA1 X es ta := fun pos pins s σ H Q _ => h pos pins s σ H Q
theorem PS.up (h : PS X st t) : PS1 X st t := fun pins s σ H D _ => h pins s σ H D
theorem PSs.up (h : PSs X rest t) : PSs1 X rest t := fun pins s σ H D _ => h pins s σ H D
end
structure FnOk1 (P : Program) (w : World) (K : PySem.W.Frag) (mg : Str → Option Value) (base : Heap) (CX : CXT) (k : Nat) (f : Addr) (fd : FuncData) (ps : List Str) (sp : Sp) : Prop where
  len : ∀ vs H Q E, sp vs H Q E → vs.length = ps.length
  run : ∀ (A : Around) (outer : List Env) (s : Shared) (H : Hp) (args : Args) (us : List Value) (vs : List V) (Q : VK) (E : XK), 1 ≤ s.toks → Room k A → Env0 P w K mg base A outer s H → BindsTo s fd args (ps.zip us) → Vals vs us → sp vs H Q E →
    codeAny (model P w) A (.call (.ref f) args) (CR CX outer P w H s Q E) s
theorem PSs1.nox {X : Cx} {st : List Stmt} {t : TS} (h : PSs1 X.nox st t) : PSs1 X st t := fun pins s σ H D ht I hw =>
  wpAny_mono (h pins s σ H D ht (I.wish _) hw) (fun _ _ q => SP.unwish q) fun _ _ z => z.elim
section
variable {X : Cx} {CX : CXT} {k : Nat} {f C : Addr} {fd : FuncData} {ps : List Str} {sp : Sp} {dvs : List V} {ds : List Value} {E : XK} {x : Str} {p pos : Pos} {e : Expr} {es : List Expr} {t : TA}
end
end L2
namespace L2
open PySem PySem.Spec PyProof.Rows
section
variable {X : Cx} {CX : CXT} {k : Nat} {f C : Addr} {fd : FuncData} {ps : List Str} {sp : Sp} {dvs : List V} {ds : List Value} {E : XK} {x : Str} {p pos : Pos} {e : Expr} {es : List Expr} {te : TE} {t : TA} {tt u : TS} {st : Stmt} {rest : List Stmt}
def PAb (X : Cx) (es : List Expr) (t : TA) : Prop :=
  ∀ (pos : Pos) (pins : List (Addr × Obj)) (s : Shared) (σ : St) (H : Hp) (Q : List V → Hp → Prop), Inv X pins σ H s → t σ H Q → wpAny (model X.prog X.w) X.A (spliced (backTo pos (starEach es X.env))) (fun us s' => 1 ≤ s'.toks ∧ AP X pins σ Q us s') X.xe s
def PSb (X : Cx) (st : Stmt) (t : TS) : Prop :=
  ∀ (pins : List (Addr × Obj)) (s : Shared) (σ : St) (H : Hp) (D : Ends), Inv X pins σ H s → t D σ H → wpAny (model X.prog X.w) X.A (exec st X.env) (fun f s' => 1 ≤ s'.toks ∧ SP X pins D f s') X.xe s
def PEb (X : Cx) (e : Expr) (t : TE) : Prop :=
  ∀ (pins : List (Addr × Obj)) (s : Shared) (σ : St) (H : Hp) (Q : VK), Inv X pins σ H s → t σ H Q → wpAny (model X.prog X.w) X.A (eval e X.env) (fun u s' => 1 ≤ s'.toks ∧ EP X pins σ Q u s') X.xe s
end
end L2
set_option Elab.async false
set_option linter.all false
set_option maxRecDepth 100000
set_option maxHeartbeats 4000000
namespace L2
open PySem PySem.Spec PyProof.Rows
end L2
set_option Elab.async false
set_option linter.all false
set_option maxRecDepth 100000
set_option maxHeartbeats 4000000
namespace L2
open PySem PySem.Spec PyProof.Rows
def flushW (acc : List Nat) : List (List Nat) := if acc = [] then [] else [acc]
def wd (acc : List Nat) : List Nat → List (List Nat)
  | [] => flushW acc
  | c :: r => if c = 32 then flushW acc ++ wd [] r else wd (acc ++ [c]) r
def sgn (c : Nat) : Prop := c = 40 ∨ c = 41 ∨ c = 44
instance (c : Nat) : Decidable (sgn c) := by unfold sgn; infer_instance
end L2
set_option Elab.async false
set_option linter.all false
set_option maxRecDepth 100000
set_option maxHeartbeats 4000000
namespace L2
open PySem PySem.Spec PyProof.Rows
inductive Dt where
  | int (i : Int) | str (x : Str) | non | tup (l : List Dt) | lst (l : List Dt)
mutual
def Dt.beq : Dt → Dt → Bool
  | .int i, .int j => i == j
  | .str x, .str y => decide (x = y)
  | .non, .non => true
  | .tup l, .tup m => Dt.beqs l m
  | .lst l, .lst m => Dt.beqs l m
  | _, _ => false
def Dt.beqs : List Dt → List Dt → Bool
  | [], [] => true
  | a :: l, b :: m => Dt.beq a b && Dt.beqs l m
  | _, _ => false
end
mutual
theorem Dt.beq_iff : ∀ a b : Dt, Dt.beq a b = true ↔ a = b
  | .int i, b => by cases b <;> simp [Dt.beq]
  | .str x, b => by cases b <;> simp [Dt.beq]
  | .non, b => by cases b <;> simp [Dt.beq]
  | .tup l, b => by cases b with
    | tup m => simp only [Dt.beq, Dt.tup.injEq]; exact Dt.beqs_iff l m
    | _ => simp [Dt.beq]
  | .lst l, b => by cases b with
    | lst m => simp only [Dt.beq, Dt.lst.injEq]; exact Dt.beqs_iff l m
    | _ => simp [Dt.beq]
theorem Dt.beqs_iff : ∀ l m : List Dt, Dt.beqs l m = true ↔ l = m
  | [], m => by cases m <;> simp [Dt.beqs]
  | a :: l, m => by cases m with
    | nil => simp [Dt.beqs]
    | cons b m => simp only [Dt.beqs, Bool.and_eq_true, List.cons.injEq]; rw [Dt.beq_iff a b, Dt.beqs_iff l m]
end
instance : DecidableEq Dt := fun a b => if h : Dt.beq a b = true then isTrue ((Dt.beq_iff a b).mp h) else isFalse fun e => h ((Dt.beq_iff a b).mpr e)
theorem Dt.beq_dec (a b : Dt) : Dt.beq a b = decide (a = b) := by
  by_cases h : a = b
  · rw [decide_eq_true h]; exact (Dt.beq_iff a b).mpr h
  · rw [decide_eq_false h]; exact Bool.eq_false_iff.mpr fun e => h ((Dt.beq_iff a b).mp e)
theorem Dt.beqs_all : ∀ (l m : List Dt) (e : Nat → Bool), (∀ (j : Nat) a b, l[j]? = some a → m[j]? = some b → e j = Dt.beq a b) → ((List.range (min l.length m.length)).all e && l.length == m.length) = Dt.beqs l m
  | [], [], e, _ => by simp [Dt.beqs]
  | [], b :: m, e, _ => by simp [Dt.beqs]
  | a :: l, [], e, _ => by simp [Dt.beqs]
  | a :: l, b :: m, e, h => by
    have ih := Dt.beqs_all l m (fun j => e (j + 1)) fun j x y h1 h2 => h (j + 1) x y (by simpa using h1) (by simpa using h2)
    have h0 := h 0 a b rfl rfl
    simp only [Dt.beqs]
    rw [← ih, ← h0]
    simp only [List.length_cons]
    rw [show min (l.length + 1) (m.length + 1) = min l.length m.length + 1 by omega, List.range_succ_eq_map]
    simp only [List.all_cons, List.all_map]
    have : ((l.length + 1 == m.length + 1) : Bool) = (l.length == m.length) := by simp
    rw [this, Bool.and_assoc]
    rfl
mutual
def Dt.dep : Dt → Nat
  | .tup l => Dt.deps l + 1
  | .lst l => Dt.deps l + 1
  | _ => 0
def Dt.deps : List Dt → Nat
  | [] => 0
  | a :: l => max (Dt.dep a) (Dt.deps l)
end
theorem Dt.dep_mem : ∀ {l : List Dt} {j : Nat} {a : Dt}, l[j]? = some a → Dt.dep a ≤ Dt.deps l
  | [], j, a, h => by simp at h
  | b :: l, 0, a, h => by simp at h; subst h; simp only [Dt.deps]; omega
  | b :: l, j + 1, a, h => by have := Dt.dep_mem (l := l) (j := j) (a := a) (by simpa using h); simp only [Dt.deps]; omega
inductive RepD (K : PySem.W.Frag) (H : Hp) : Dt → V → Prop
  | int (i : Int) : RepD K H (.int i) (.int i)
  | str (x : Str) : RepD K H (.str x) (.str x)
  | non : RepD K H .non .non
  | tup {a : Addr} {xs : List V} {l : List Dt} (h : SqT K H a xs) (hl : l.length = xs.length) (hr : ∀ (j : Nat) d x, l[j]? = some d → xs[j]? = some x → RepD K H d x) : RepD K H (.tup l) (.ref a)
  | lst {a : Addr} {xs : List V} {l : List Dt} (h : SqL K H a xs) (hl : l.length = xs.length) (hr : ∀ (j : Nat) d x, l[j]? = some d → xs[j]? = some x → RepD K H d x) : RepD K H (.lst l) (.ref a)
theorem isL {X : Cx} {pins : List (Addr × Obj)} {σ : St} {H : Hp} {s : Shared} {a : Addr} {xs : List V} (I : Inv X pins σ H s) (h : SqL X.K H a xs) : ∃ its : List Value, Vals xs its ∧ s.heap.IsList a its.toArray := by
  obtain ⟨its, r, p, _⟩ := I.list h
  exact ⟨its, r, p.isList⟩
theorem isT {X : Cx} {pins : List (Addr × Obj)} {σ : St} {H : Hp} {s : Shared} {a : Addr} {xs : List V} (I : Inv X pins σ H s) (h : SqT X.K H a xs) : ∃ its : List Value, Vals xs its ∧ s.heap.IsTuple a its.toArray := by
  obtain ⟨its, r, p, _⟩ := I.tuple h
  exact ⟨its, r, p⟩
section
variable {X : Cx} {pins : List (Addr × Obj)} {σ : St} {H : Hp} {s : Shared}
theorem RepD.inj (I : Inv X pins σ H s) {d : Dt} {x : V} (h : RepD X.K H d x) : ∀ {d' : Dt}, RepD X.K H d' x → d = d' := by
  induction h with
  | int i => intro d' h; cases h; rfl
  | str x => intro d' h; cases h; rfl
  | non => intro d' h; cases h; rfl
  | @tup a xs l h hl hr ih =>
    intro d' h'
    cases h' with
    | @tup _ xs' l' h' hl' hr' =>
      obtain rfl := I.tuple_inj h h'
      congr 1
      apply List.ext_getElem?
      intro j
      by_cases hj : j < l.length
      · have e1 : l[j]? = some l[j] := by simp [hj]
        have e2 : xs[j]? = some xs[j] := by simp
        have hj' : j < l'.length := by omega
        have e3 : l'[j]? = some l'[j] := by simp [hj']
        rw [e1, e3, ih j _ _ e1 e2 (hr' j _ _ e3 e2)]
      · rw [List.getElem?_eq_none (by omega), List.getElem?_eq_none (by omega)]
    | @lst _ xs' l' h' hl' hr' =>
      obtain ⟨_, _, p⟩ := isT I h
      obtain ⟨_, _, q⟩ := isL I h'
      exact absurd rfl (SeqAt.ne_of_list_tuple q p)
  | @lst a xs l h hl hr ih =>
    intro d' h'
    cases h' with
    | @lst _ xs' l' h' hl' hr' =>
      obtain rfl := I.list_inj h h'
      congr 1
      apply List.ext_getElem?
      intro j
      by_cases hj : j < l.length
      · have e1 : l[j]? = some l[j] := by simp [hj]
        have e2 : xs[j]? = some xs[j] := by simp
        have hj' : j < l'.length := by omega
        have e3 : l'[j]? = some l'[j] := by simp [hj']
        rw [e1, e3, ih j _ _ e1 e2 (hr' j _ _ e3 e2)]
      · rw [List.getElem?_eq_none (by omega), List.getElem?_eq_none (by omega)]
    | @tup _ xs' l' h' hl' hr' =>
      obtain ⟨_, _, p⟩ := isL I h
      obtain ⟨_, _, q⟩ := isT I h'
      exact absurd rfl (SeqAt.ne_of_list_tuple p q)
theorem RepD.at (I : Inv X pins σ H s) {d : Dt} {x : V} (h : RepD X.K H d x) : ∀ {d' : Dt} {y : V}, RepD X.K H d' y → ∀ {A : Around} {u v : Value}, A.units + Dt.dep d < cLine → RelV x u → RelV y v →
    SeqAt.RcAt A s u v (Dt.beq d d') ∧ SeqAt.EqAt A s u v (Dt.beq d d') := by
  induction h with
  | int i =>
    intro d' y h' A u v hu ru rv
    obtain ⟨t, rfl⟩ := ru
    cases h' with
    | int j => obtain ⟨t', rfl⟩ := rv; exact ⟨SeqAt.RcAt.int_int _ _ _ _, SeqAt.EqAt.int_int _ _ _ _⟩
    | str z => obtain ⟨t', rfl⟩ := rv; exact ⟨SeqAt.RcAt.int_str _ _ _ _, SeqAt.EqAt.int_str _ _ _ _⟩
    | non => cases rv; exact ⟨SeqAt.RcAt.int_none _ _, SeqAt.EqAt.int_none _ _⟩
    | tup h => cases rv; obtain ⟨_, _, p⟩ := isT I h; exact ⟨SeqAt.RcAt.int_tuple _ _ p (by omega), SeqAt.EqAt.int_tuple _ _ p (by omega)⟩
    | lst h => cases rv; obtain ⟨_, _, p⟩ := isL I h; exact ⟨SeqAt.RcAt.int_list _ _ p (by omega), SeqAt.EqAt.int_list _ _ p (by omega)⟩
  | str z =>
    intro d' y h' A u v hu ru rv
    obtain ⟨t, rfl⟩ := ru
    cases h' with
    | int j => obtain ⟨t', rfl⟩ := rv; exact ⟨SeqAt.RcAt.str_int _ _ _ _, SeqAt.EqAt.str_int _ _ _ _⟩
    | str z' =>
      obtain ⟨t', rfl⟩ := rv
      have e : (z == z') = Dt.beq (.str z) (.str z') := by simp only [Dt.beq]; rw [Bool.beq_eq_decide_eq]
      rw [← e]; exact ⟨SeqAt.RcAt.str_str _ _ _ _, SeqAt.EqAt.str_str _ _ _ _⟩
    | non => cases rv; exact ⟨SeqAt.RcAt.str_none _ _, SeqAt.EqAt.str_none _ _⟩
    | tup h => cases rv; obtain ⟨_, _, p⟩ := isT I h; exact ⟨SeqAt.RcAt.str_tuple _ _ p (by omega), SeqAt.EqAt.str_tuple _ _ p (by omega)⟩
    | lst h => cases rv; obtain ⟨_, _, p⟩ := isL I h; exact ⟨SeqAt.RcAt.str_list _ _ p (by omega), SeqAt.EqAt.str_list _ _ p (by omega)⟩
  | non =>
    intro d' y h' A u v hu ru rv
    cases ru
    cases h' with
    | int j => obtain ⟨t', rfl⟩ := rv; exact ⟨SeqAt.RcAt.none_int _ _, SeqAt.EqAt.none_int _ _⟩
    | str z' => obtain ⟨t', rfl⟩ := rv; exact ⟨SeqAt.RcAt.none_str _ _, SeqAt.EqAt.none_str _ _⟩
    | non => cases rv; exact ⟨SeqAt.RcAt.none_none, SeqAt.EqAt.same _⟩
    | tup h => cases rv; obtain ⟨_, _, p⟩ := isT I h; exact ⟨SeqAt.RcAt.none_tuple p (by omega), SeqAt.EqAt.none_tuple p (by omega)⟩
    | lst h => cases rv; obtain ⟨_, _, p⟩ := isL I h; exact ⟨SeqAt.RcAt.none_list p (by omega), SeqAt.EqAt.none_list p (by omega)⟩
  | @tup a xs l h hl hr ih =>
    intro d' y h' A u v hu ru rv
    have h0 := h'
    cases ru
    obtain ⟨its, r1, p1⟩ := isT I h
    cases h' with
    | int j => obtain ⟨t', rfl⟩ := rv; exact ⟨SeqAt.RcAt.tuple_int _ _ p1 (by omega), SeqAt.EqAt.tuple_int _ _ p1 (by omega)⟩
    | str z' => obtain ⟨t', rfl⟩ := rv; exact ⟨SeqAt.RcAt.tuple_str _ _ p1 (by omega), SeqAt.EqAt.tuple_str _ _ p1 (by omega)⟩
    | non => cases rv; exact ⟨SeqAt.RcAt.tuple_none p1 (by omega), SeqAt.EqAt.tuple_none p1 (by omega)⟩
    | lst h2 => cases rv; obtain ⟨_, _, p2⟩ := isL I h2; exact ⟨SeqAt.RcAt.tuple_list p1 p2 (by omega), SeqAt.EqAt.tuple_list p1 p2 (by omega)⟩
    | @tup b ys m h2 hl2 hr2 =>
      cases rv
      obtain ⟨its2, r2, p2⟩ := isT I h2
      have l1 : its.toArray.size = xs.length := by rw [List.size_toArray]; exact r1.length.symm
      have l2 : its2.toArray.size = ys.length := by rw [List.size_toArray]; exact r2.length.symm
      have rc : SeqAt.RcAt A s (.ref a) (.ref b) (Dt.beq (.tup l) (.tup m)) := by
        have hd : Dt.dep (.tup l) = Dt.deps l + 1 := by simp only [Dt.dep]
        rw [hd] at hu
        have := SeqAt.RcAt.tuples (A := A) (e := fun j => match l[j]?, m[j]? with | some x, some y => Dt.beq x y | _, _ => true) p1 p2 (by omega) (fun j h1 h2 => by
          obtain ⟨x, ex, rx⟩ := getD_some r1 h1
          obtain ⟨y, ey, ry⟩ := getD_some r2 h2
          have j1 : j < l.length := by omega
          have j2 : j < m.length := by omega
          have e1 : l[j]? = some l[j] := by simp [j1]
          have e2 : m[j]? = some m[j] := by simp [j2]
          rw [e1, e2]
          exact (ih j _ _ e1 ex (hr2 j _ _ e2 ey) (A := A.in1) (by show A.units + 1 + _ < cLine; have := Dt.dep_mem e1; omega) rx ry).2)
        rw [l1, l2, ← hl, ← hl2, Dt.beqs_all l m _ (fun j x y h1 h2 => by simp only [h1, h2])] at this
        simp only [Dt.beq]
        exact this
      refine ⟨rc, ?_⟩
      by_cases hab : a = b
      · subst hab
        rw [(Dt.beq_iff _ _).mpr ((RepD.tup h hl hr).inj I h0)]
        exact SeqAt.EqAt.same _
      · exact SeqAt.EqAt.of_refs hab rc
  | @lst a xs l h hl hr ih =>
    intro d' y h' A u v hu ru rv
    have h0 := h'
    cases ru
    obtain ⟨its, r1, p1⟩ := isL I h
    cases h' with
    | int j => obtain ⟨t', rfl⟩ := rv; exact ⟨SeqAt.RcAt.list_int _ _ p1 (by omega), SeqAt.EqAt.list_int _ _ p1 (by omega)⟩
    | str z' => obtain ⟨t', rfl⟩ := rv; exact ⟨SeqAt.RcAt.list_str _ _ p1 (by omega), SeqAt.EqAt.list_str _ _ p1 (by omega)⟩
    | non => cases rv; exact ⟨SeqAt.RcAt.list_none p1 (by omega), SeqAt.EqAt.list_none p1 (by omega)⟩
    | tup h2 => cases rv; obtain ⟨_, _, p2⟩ := isT I h2; exact ⟨SeqAt.RcAt.list_tuple p1 p2 (by omega), SeqAt.EqAt.list_tuple p1 p2 (by omega)⟩
    | @lst b ys m h2 hl2 hr2 =>
      cases rv
      obtain ⟨its2, r2, p2⟩ := isL I h2
      have l1 : its.toArray.size = xs.length := by rw [List.size_toArray]; exact r1.length.symm
      have l2 : its2.toArray.size = ys.length := by rw [List.size_toArray]; exact r2.length.symm
      have rc : SeqAt.RcAt A s (.ref a) (.ref b) (Dt.beq (.lst l) (.lst m)) := by
        have hd : Dt.dep (.lst l) = Dt.deps l + 1 := by simp only [Dt.dep]
        rw [hd] at hu
        simp only [Dt.beq]
        by_cases hlen : l.length = m.length
        · have := SeqAt.RcAt.lists (A := A) (e := fun j => match l[j]?, m[j]? with | some x, some y => Dt.beq x y | _, _ => true) p1 p2 (by omega) (by omega) (fun j h1 h2 => by
            obtain ⟨x, ex, rx⟩ := getD_some r1 h1
            obtain ⟨y, ey, ry⟩ := getD_some r2 h2
            have j1 : j < l.length := by omega
            have j2 : j < m.length := by omega
            have e1 : l[j]? = some l[j] := by simp [j1]
            have e2 : m[j]? = some m[j] := by simp [j2]
            rw [e1, e2]
            exact (ih j _ _ e1 ex (hr2 j _ _ e2 ey) (A := A.in1) (by show A.units + 1 + _ < cLine; have := Dt.dep_mem e1; omega) rx ry).2)
          have q := Dt.beqs_all l m (fun j => match l[j]?, m[j]? with | some x, some y => Dt.beq x y | _, _ => true) (fun j x y h1 h2 => by simp only [h1, h2])
          rw [← q]
          have q1 : (l.length == m.length) = true := by simpa using hlen
          have q2 : min l.length m.length = its.toArray.size := by omega
          rw [q1, Bool.and_true, q2]
          exact this
        · have q : Dt.beqs l m = false := Bool.eq_false_iff.mpr fun e => hlen (congrArg List.length ((Dt.beqs_iff l m).mp e))
          rw [q]
          exact SeqAt.RcAt.lists_lengths p1 p2 (by rw [l1, l2]; simp; omega) (by omega)
      refine ⟨rc, ?_⟩
      by_cases hab : a = b
      · subst hab
        rw [(Dt.beq_iff _ _).mpr ((RepD.lst h hl hr).inj I h0)]
        exact SeqAt.EqAt.same _
      · exact SeqAt.EqAt.of_refs hab rc
theorem RepD.ne (I : Inv X pins σ H s) {d d' : Dt} {x y : V} (h : RepD X.K H d x) (h' : RepD X.K H d' y) {A : Around} {u v : Value} (hu : A.units + Dt.dep d < cLine) (ru : RelV x u) (rv : RelV y v) :
    SeqAt.RcNeAt A s u v (!Dt.beq d d') := by
  cases h with
  | int i =>
    obtain ⟨t, rfl⟩ := ru
    cases h' with
    | int j => obtain ⟨t', rfl⟩ := rv; exact SeqAt.RcNeAt.int_int _ _ _ _
    | str z => obtain ⟨t', rfl⟩ := rv; exact SeqAt.RcNeAt.int_str _ _ _ _
    | non => cases rv; exact SeqAt.RcNeAt.int_none _ _
    | tup h => cases rv; obtain ⟨_, _, p⟩ := isT I h; exact SeqAt.RcNeAt.int_tuple _ _ p (by omega)
    | lst h => cases rv; obtain ⟨_, _, p⟩ := isL I h; exact SeqAt.RcNeAt.int_list _ _ p (by omega)
  | str z =>
    obtain ⟨t, rfl⟩ := ru
    cases h' with
    | int j => obtain ⟨t', rfl⟩ := rv; exact SeqAt.RcNeAt.str_int _ _ _ _
    | str z' =>
      obtain ⟨t', rfl⟩ := rv
      have e : (z == z') = Dt.beq (.str z) (.str z') := by simp only [Dt.beq]; rw [Bool.beq_eq_decide_eq]
      rw [← e]; exact SeqAt.RcNeAt.str_str _ _ _ _
    | non => cases rv; exact SeqAt.RcNeAt.str_none _ _
    | tup h => cases rv; obtain ⟨_, _, p⟩ := isT I h; exact SeqAt.RcNeAt.str_tuple _ _ p (by omega)
    | lst h => cases rv; obtain ⟨_, _, p⟩ := isL I h; exact SeqAt.RcNeAt.str_list _ _ p (by omega)
  | non =>
    cases ru
    cases h' with
    | int j => obtain ⟨t', rfl⟩ := rv; exact SeqAt.RcNeAt.none_int _ _
    | str z' => obtain ⟨t', rfl⟩ := rv; exact SeqAt.RcNeAt.none_str _ _
    | non => cases rv; exact SeqAt.RcNeAt.none_none
    | tup h => cases rv; obtain ⟨_, _, p⟩ := isT I h; exact SeqAt.RcNeAt.none_tuple p (by omega)
    | lst h => cases rv; obtain ⟨_, _, p⟩ := isL I h; exact SeqAt.RcNeAt.none_list p (by omega)
  | @tup a xs l h hl hr =>
    cases ru
    obtain ⟨its, r1, p1⟩ := isT I h
    cases h' with
    | int j => obtain ⟨t', rfl⟩ := rv; exact SeqAt.RcNeAt.tuple_int _ _ p1 (by omega)
    | str z' => obtain ⟨t', rfl⟩ := rv; exact SeqAt.RcNeAt.tuple_str _ _ p1 (by omega)
    | non => cases rv; exact SeqAt.RcNeAt.tuple_none p1 (by omega)
    | lst h2 => cases rv; obtain ⟨_, _, p2⟩ := isL I h2; exact SeqAt.RcNeAt.tuple_list p1 p2 (by omega)
    | @tup b ys m h2 hl2 hr2 =>
      cases rv
      obtain ⟨its2, r2, p2⟩ := isT I h2
      have l1 : its.toArray.size = xs.length := by rw [List.size_toArray]; exact r1.length.symm
      have l2 : its2.toArray.size = ys.length := by rw [List.size_toArray]; exact r2.length.symm
      have hd : Dt.dep (.tup l) = Dt.deps l + 1 := by simp only [Dt.dep]
      rw [hd] at hu
      have := SeqAt.RcNeAt.tuples (A := A) (e := fun j => match l[j]?, m[j]? with | some x, some y => Dt.beq x y | _, _ => true) p1 p2 (by omega) (fun j h1 h2 => by
        obtain ⟨x, ex, rx⟩ := getD_some r1 h1
        obtain ⟨y, ey, ry⟩ := getD_some r2 h2
        have j1 : j < l.length := by omega
        have j2 : j < m.length := by omega
        have e1 : l[j]? = some l[j] := by simp [j1]
        have e2 : m[j]? = some m[j] := by simp [j2]
        rw [e1, e2]
        exact (RepD.at I (hr j _ _ e1 ex) (hr2 j _ _ e2 ey) (A := A.in1) (by show A.units + 1 + _ < cLine; have := Dt.dep_mem e1; omega) rx ry).2)
      rw [l1, l2, ← hl, ← hl2, Dt.beqs_all l m _ (fun j x y h1 h2 => by simp only [h1, h2])] at this
      simp only [Dt.beq]
      exact this
  | @lst a xs l h hl hr =>
    cases ru
    obtain ⟨its, r1, p1⟩ := isL I h
    cases h' with
    | int j => obtain ⟨t', rfl⟩ := rv; exact SeqAt.RcNeAt.list_int _ _ p1 (by omega)
    | str z' => obtain ⟨t', rfl⟩ := rv; exact SeqAt.RcNeAt.list_str _ _ p1 (by omega)
    | non => cases rv; exact SeqAt.RcNeAt.list_none p1 (by omega)
    | tup h2 => cases rv; obtain ⟨_, _, p2⟩ := isT I h2; exact SeqAt.RcNeAt.list_tuple p1 p2 (by omega)
    | @lst b ys m h2 hl2 hr2 =>
      cases rv
      obtain ⟨its2, r2, p2⟩ := isL I h2
      have l1 : its.toArray.size = xs.length := by rw [List.size_toArray]; exact r1.length.symm
      have l2 : its2.toArray.size = ys.length := by rw [List.size_toArray]; exact r2.length.symm
      have hd : Dt.dep (.lst l) = Dt.deps l + 1 := by simp only [Dt.dep]
      rw [hd] at hu
      simp only [Dt.beq]
      by_cases hlen : l.length = m.length
      · have := SeqAt.RcNeAt.lists (A := A) (e := fun j => match l[j]?, m[j]? with | some x, some y => Dt.beq x y | _, _ => true) p1 p2 (by omega) (by omega) (fun j h1 h2 => by
          obtain ⟨x, ex, rx⟩ := getD_some r1 h1
          obtain ⟨y, ey, ry⟩ := getD_some r2 h2
          have j1 : j < l.length := by omega
          have j2 : j < m.length := by omega
          have e1 : l[j]? = some l[j] := by simp [j1]
          have e2 : m[j]? = some m[j] := by simp [j2]
          rw [e1, e2]
          exact (RepD.at I (hr j _ _ e1 ex) (hr2 j _ _ e2 ey) (A := A.in1) (by show A.units + 1 + _ < cLine; have := Dt.dep_mem e1; omega) rx ry).2)
        have q := Dt.beqs_all l m (fun j => match l[j]?, m[j]? with | some x, some y => Dt.beq x y | _, _ => true) (fun j x y h1 h2 => by simp only [h1, h2])
        rw [← q]
        have q1 : (l.length == m.length) = true := by simpa using hlen
        have q2 : min l.length m.length = its.toArray.size := by omega
        rw [q1, Bool.and_true, q2]
        exact this
      · have q : Dt.beqs l m = false := Bool.eq_false_iff.mpr fun e => hlen (congrArg List.length ((Dt.beqs_iff l m).mp e))
        rw [q]
        exact SeqAt.RcNeAt.lists_lengths p1 p2 (by rw [l1, l2]; simp; omega) (by omega)
theorem RepD.mem (I : Inv X pins σ H s) {d : Dt} {x : V} {l : List Dt} {xs : List V} {its : List Value} (hx : RepD X.K H d x) (hl : l.length = xs.length) (hr : ∀ (j : Nat) d x, l[j]? = some d → xs[j]? = some x → RepD X.K H d x)
    (r : Vals xs its) {A : Around} {v : Value} (hu : ∀ a ∈ l, A.units + Dt.dep a < cLine) (rv : RelV x v) :
    ∃ e : Value → Bool, (∀ u ∈ its, SeqAt.EqAt A s u v (e u)) ∧ its.any e = decide (d ∈ l) := by
  classical
  have item : ∀ u ∈ its, ∃ (j : Nat) (y : V) (a : Dt), its[j]? = some u ∧ xs[j]? = some y ∧ l[j]? = some a ∧ RelV y u := fun u hm => by
    obtain ⟨j, hj, e⟩ := List.getElem_of_mem hm
    have hx' : j < xs.length := by rw [r.length]; exact hj
    have hl' : j < l.length := by omega
    obtain ⟨u', e', ru⟩ := r.get (i := j) (x := xs[j]) (by simp [hx'])
    have : its[j]? = some u := by simp [hj, e]
    rw [this] at e'; cases e'
    exact ⟨j, xs[j], l[j], this, by simp [hx'], by simp [hl'], ru⟩
  refine ⟨fun u => decide (∃ y, RelV y u ∧ RepD X.K H d y), fun u hm => ?_, ?_⟩
  · obtain ⟨j, y, a, _, hy, ha, ru⟩ := item u hm
    have ry := hr j a y ha hy
    have e : decide (∃ y, RelV y u ∧ RepD X.K H d y) = Dt.beq a d := by
      rw [Dt.beq_dec]
      congr 1
      refine propext ⟨fun ⟨y', r1, r2⟩ => ?_, fun z => ⟨y, ru, z ▸ ry⟩⟩
      obtain rfl := ru.inj r1
      exact ry.inj I r2
    show SeqAt.EqAt A s u v (decide (∃ y, RelV y u ∧ RepD X.K H d y))
    rw [e]
    exact (ry.at I hx (hu a (List.mem_of_getElem? ha)) ru rv).2
  · apply Bool.eq_iff_iff.mpr
    simp only [List.any_eq_true, decide_eq_true_eq]
    constructor
    · rintro ⟨u, hm, y', r1, r2⟩
      obtain ⟨j, y, a, _, hy, ha, ru⟩ := item u hm
      obtain rfl := ru.inj r1
      have := (hr j a y ha hy).inj I r2
      subst this
      exact List.mem_of_getElem? ha
    · intro hm
      obtain ⟨j, hj, e⟩ := List.getElem_of_mem hm
      have hx' : j < xs.length := by omega
      obtain ⟨u, hu', ru⟩ := r.get (i := j) (x := xs[j]) (by simp [hx'])
      exact ⟨u, List.mem_of_getElem? hu', xs[j], ru, e ▸ hr j l[j] xs[j] (by simp [hj]) (by simp [hx'])⟩
end
section
variable {X : Cx} {K : PySem.W.Frag} {H : Hp} {Q : VK}
def rEqT (K : PySem.W.Frag) : R2 := fun x y H Q => ∃ d d', RepD K H d x ∧ RepD K H d' y ∧ Dt.dep d ≤ 60 ∧ Q (.bl (decide (d = d'))) H
def rNeT (K : PySem.W.Frag) : R2 := fun x y H Q => ∃ d d', RepD K H d x ∧ RepD K H d' y ∧ Dt.dep d ≤ 60 ∧ Q (.bl (!decide (d = d'))) H
theorem op_eqT (hu : X.A.units + 64 < cLine) : OpR X (compareOp .Eq) (rEqT X.K) := by
  intro pins s σ H x y v u Q I rx ry ⟨d, d', h, h', hd, q⟩
  exact (h.at I h' (A := X.A) (by omega) rx ry).1 X.prog X.w X.xe _ ⟨.bl _, H, I, rfl, by rw [Dt.beq_dec]; exact q⟩
def rInT (K : PySem.W.Frag) (neg : Bool) : R2 := fun x y H Q => ∃ d l, RepD K H d x ∧ (RepD K H (.tup l) y ∨ RepD K H (.lst l) y) ∧ Dt.deps l ≤ 60 ∧ Q (.bl (if neg then !decide (d ∈ l) else decide (d ∈ l))) H
theorem Dt.deps_mem {l : List Dt} {a : Dt} (h : a ∈ l) : Dt.dep a ≤ Dt.deps l := by
  obtain ⟨j, hj, e⟩ := List.getElem_of_mem h
  exact Dt.dep_mem (j := j) (by simp [hj, e])
theorem op_inT (hu : X.A.units + 64 < cLine) : OpR X (compareOp .In) (rInT X.K false) := by
  intro pins s σ H x y v u Q I rx ry ⟨d, l, h, h', hd, q⟩
  rcases h' with h' | h'
  · cases h' with
    | @tup a xs _ hq hl hr =>
      cases ry
      obtain ⟨its, r, p⟩ := isT I hq
      obtain ⟨e, he, ha⟩ := RepD.mem I h hl hr r (A := X.A.in1) (fun a hm => by show X.A.units + 1 + _ < cLine; have := Dt.deps_mem hm; omega) rx
      refine SeqAt.in_tupleAt e p (fun w hw => he w (by simpa using hw)) ⟨.bl _, H, I, rfl, ?_⟩
      rw [show its.toArray.any e = its.any e by simp, ha]
      exact q
  · cases h' with
    | @lst a xs _ hq hl hr =>
      cases ry
      obtain ⟨its, r, p⟩ := isL I hq
      obtain ⟨e, he, ha⟩ := RepD.mem I h hl hr r (A := X.A.in1) (fun a hm => by show X.A.units + 1 + _ < cLine; have := Dt.deps_mem hm; omega) rx
      refine SeqAt.in_listAt e p (fun w hw => he w (by simpa using hw)) ⟨.bl _, H, I, rfl, ?_⟩
      rw [show its.toArray.any e = its.any e by simp, ha]
      exact q
theorem op_notInT (hu : X.A.units + 64 < cLine) : OpR X (compareOp .NotIn) (rInT X.K true) := by
  intro pins s σ H x y v u Q I rx ry ⟨d, l, h, h', hd, q⟩
  rcases h' with h' | h'
  · cases h' with
    | @tup a xs _ hq hl hr =>
      cases ry
      obtain ⟨its, r, p⟩ := isT I hq
      obtain ⟨e, he, ha⟩ := RepD.mem I h hl hr r (A := X.A.in1) (fun a hm => by show X.A.units + 1 + _ < cLine; have := Dt.deps_mem hm; omega) rx
      refine SeqAt.notIn_tupleAt e p (fun w hw => he w (by simpa using hw)) ⟨.bl _, H, I, rfl, ?_⟩
      rw [show its.toArray.any e = its.any e by simp, ha]
      exact q
  · cases h' with
    | @lst a xs _ hq hl hr =>
      cases ry
      obtain ⟨its, r, p⟩ := isL I hq
      obtain ⟨e, he, ha⟩ := RepD.mem I h hl hr r (A := X.A.in1) (fun a hm => by show X.A.units + 1 + _ < cLine; have := Dt.deps_mem hm; omega) rx
      refine SeqAt.notIn_listAt e p (fun w hw => he w (by simpa using hw)) ⟨.bl _, H, I, rfl, ?_⟩
      rw [show its.toArray.any e = its.any e by simp, ha]
      exact q
end
end L2
namespace L2
open PySem PySem.Spec PyProof.Rows
theorem RepD.same {K : PySem.W.Frag} {H H' : Hp} (e : Same H H') {d : Dt} {x : V} (h : RepD K H d x) : RepD K H' d x := by
  induction h with
  | int i => exact .int i
  | str x => exact .str x
  | non => exact .non
  | tup h hl hr ih => exact .tup (e.seqT h) hl ih
  | lst h hl hr ih => exact .lst (e.seq h) hl ih
theorem RepD.strs {K : PySem.W.Frag} {H : Hp} {a : Addr} {ts : List Str} (h : SqT K H a (ts.map V.str)) : RepD K H (.tup (ts.map Dt.str)) (.ref a) :=
  .tup h (by simp) fun j d x h1 h2 => by
    rw [List.getElem?_map] at h1 h2
    cases e : ts[j]? with
    | none => rw [e] at h1; cases h1
    | some t => rw [e] at h1 h2; cases h1; cases h2; exact .str t
theorem RepD.t1 {K : PySem.W.Frag} {H : Hp} {a : Addr} {x : V} {d : Dt} (h : SqT K H a [x]) (h1 : RepD K H d x) : RepD K H (.tup [d]) (.ref a) :=
  .tup h rfl fun j d' x' e1 e2 => match j, e1, e2 with | 0, e1, e2 => by cases e1; cases e2; exact h1
theorem RepD.t2 {K : PySem.W.Frag} {H : Hp} {a : Addr} {x y : V} {d d2 : Dt} (h : SqT K H a [x, y]) (h1 : RepD K H d x) (h2 : RepD K H d2 y) : RepD K H (.tup [d, d2]) (.ref a) :=
  .tup h rfl fun j d' x' e1 e2 => match j, e1, e2 with
    | 0, e1, e2 => by cases e1; cases e2; exact h1
    | 1, e1, e2 => by cases e1; cases e2; exact h2
theorem RepD.t3 {K : PySem.W.Frag} {H : Hp} {a : Addr} {x y z : V} {d d2 d3 : Dt} (h : SqT K H a [x, y, z]) (h1 : RepD K H d x) (h2 : RepD K H d2 y) (h3 : RepD K H d3 z) : RepD K H (.tup [d, d2, d3]) (.ref a) :=
  .tup h rfl fun j d' x' e1 e2 => match j, e1, e2 with
    | 0, e1, e2 => by cases e1; cases e2; exact h1
    | 1, e1, e2 => by cases e1; cases e2; exact h2
    | 2, e1, e2 => by cases e1; cases e2; exact h3
theorem RepD.t4 {K : PySem.W.Frag} {H : Hp} {a : Addr} {x y z w : V} {d d2 d3 d4 : Dt} (h : SqT K H a [x, y, z, w]) (h1 : RepD K H d x) (h2 : RepD K H d2 y) (h3 : RepD K H d3 z) (h4 : RepD K H d4 w) : RepD K H (.tup [d, d2, d3, d4]) (.ref a) :=
  .tup h rfl fun j d' x' e1 e2 => match j, e1, e2 with
    | 0, e1, e2 => by cases e1; cases e2; exact h1
    | 1, e1, e2 => by cases e1; cases e2; exact h2
    | 2, e1, e2 => by cases e1; cases e2; exact h3
    | 3, e1, e2 => by cases e1; cases e2; exact h4
namespace Stm
end Stm
section
variable {X : Cx}
def rEqC (K : PySem.W.Frag) : R2 := fun x y H Q => rEq x y H Q ∨ rEqT K x y H Q
def rNeC (K : PySem.W.Frag) : R2 := fun x y H Q => rNe x y H Q ∨ rNeT K x y H Q
def rInC (K : PySem.W.Frag) (neg : Bool) : R2 := fun x y H Q => rInA K neg x y H Q ∨ rInT K neg x y H Q
theorem opC_eq (K : PySem.W.Frag) (hu : X.A.units + 64 < cLine) (hK : X.K = K := by rfl) : OpR X (compareOp .Eq) (rEqC K) := hK ▸ (OpR.or op_eq (op_eqT hu) : OpR X (compareOp .Eq) (rEqC X.K))
theorem opC_in (K : PySem.W.Frag) (hu : X.A.units + 64 < cLine) (hK : X.K = K := by rfl) : OpR X (compareOp .In) (rInC K false) := hK ▸ (OpR.or (opA_in X.K) (op_inT hu) : OpR X (compareOp .In) (rInC X.K false))
theorem opC_notin (K : PySem.W.Frag) (hu : X.A.units + 64 < cLine) (hK : X.K = K := by rfl) : OpR X (compareOp .NotIn) (rInC K true) := hK ▸ (OpR.or (opA_notin X.K) (op_notInT hu) : OpR X (compareOp .NotIn) (rInC X.K true))
end
end L2
namespace L2
open PySem PySem.Spec PyProof.Rows
section
variable {K : PySem.W.Frag} {H : Hp} {Q : VK} {i j : Int} {x y : Str} {p q : Addr} {u : V} {neg : Bool}
theorem RepD.of_int {d : Dt} (h : RepD K H d (.int i)) : d = .int i := by cases h; rfl
theorem RepD.of_str {d : Dt} (h : RepD K H d (.str x)) : d = .str x := by cases h; rfl
theorem w_eqIC : rEqC K (.int i) (.int j) H Q = Q (.bl (decide (i = j))) H := by
  refine propext ⟨fun h => ?_, fun h => .inl ⟨rfl, by simpa using h⟩⟩
  rcases h with ⟨_, h⟩ | ⟨d, d', h1, h2, _, h⟩
  · simpa using h
  · rw [h1.of_int, h2.of_int] at h; simpa using h
theorem w_eqSC : rEqC K (.str x) (.str y) H Q = Q (.bl (decide (x = y))) H := by
  refine propext ⟨fun h => ?_, fun h => .inl ⟨rfl, by simpa using h⟩⟩
  rcases h with ⟨_, h⟩ | ⟨d, d', h1, h2, _, h⟩
  · simpa using h
  · rw [h1.of_str, h2.of_str] at h; simpa using h
theorem w_neIC : rNeC K (.int i) (.int j) H Q = Q (.bl (!decide (i = j))) H := by
  refine propext ⟨fun h => ?_, fun h => .inl ⟨rfl, by simpa using h⟩⟩
  rcases h with ⟨_, h⟩ | ⟨d, d', h1, h2, _, h⟩
  · simpa using h
  · rw [h1.of_int, h2.of_int] at h; simpa using h
theorem w_neSC : rNeC K (.str x) (.str y) H Q = Q (.bl (!decide (x = y))) H := by
  refine propext ⟨fun h => ?_, fun h => .inl ⟨rfl, by simpa using h⟩⟩
  rcases h with ⟨_, h⟩ | ⟨d, d', h1, h2, _, h⟩
  · simpa using h
  · rw [h1.of_str, h2.of_str] at h; simpa using h
theorem w_eqRC : rEqC K (.ref p) u H Q = ∃ d d', RepD K H d (.ref p) ∧ RepD K H d' u ∧ Dt.dep d ≤ 60 ∧ Q (.bl (decide (d = d'))) H := by
  refine propext ⟨fun h => ?_, fun h => .inr h⟩
  rcases h with ⟨e, _⟩ | h
  · cases u <;> cases e
  · exact h
theorem w_eqCR : rEqC K u (.ref p) H Q = ∃ d d', RepD K H d u ∧ RepD K H d' (.ref p) ∧ Dt.dep d ≤ 60 ∧ Q (.bl (decide (d = d'))) H := by
  refine propext ⟨fun h => ?_, fun h => .inr h⟩
  rcases h with ⟨e, _⟩ | h
  · cases u <;> cases e
  · exact h
theorem w_neRC : rNeC K (.ref p) u H Q = ∃ d d', RepD K H d (.ref p) ∧ RepD K H d' u ∧ Dt.dep d ≤ 60 ∧ Q (.bl (!decide (d = d'))) H := by
  refine propext ⟨fun h => ?_, fun h => .inr h⟩
  rcases h with ⟨e, _⟩ | h
  · cases u <;> cases e
  · exact h
theorem w_neCR : rNeC K u (.ref p) H Q = ∃ d d', RepD K H d u ∧ RepD K H d' (.ref p) ∧ Dt.dep d ≤ 60 ∧ Q (.bl (!decide (d = d'))) H := by
  refine propext ⟨fun h => ?_, fun h => .inr h⟩
  rcases h with ⟨e, _⟩ | h
  · cases u <;> cases e
  · exact h
theorem w_inCS : rInC K false (.str x) (.str y) H Q = Q (.bl (inS x y)) H := by
  refine propext ⟨fun h => ?_, fun h => .inl (.inl ⟨x, y, rfl, rfl, h⟩)⟩
  rcases h with (⟨_, _, e1, e2, h⟩ | ⟨_, _, e, _⟩) | ⟨_, _, _, h, _⟩
  · cases e1; cases e2; exact h
  · cases e
  · rcases h with h | h <;> cases h
theorem w_notinCS : rInC K true (.str x) (.str y) H Q = Q (.bl (!inS x y)) H := by
  refine propext ⟨fun h => ?_, fun h => .inl (.inl ⟨x, y, rfl, rfl, h⟩)⟩
  rcases h with (⟨_, _, e1, e2, h⟩ | ⟨_, _, e, _⟩) | ⟨_, _, _, h, _⟩
  · cases e1; cases e2; exact h
  · cases e
  · rcases h with h | h <;> cases h
theorem w_inCR : rInC K neg u (.ref p) H Q = (rIn K neg u (.ref p) H Q ∨ rInT K neg u (.ref p) H Q) := by
  refine propext ⟨fun h => ?_, fun h => ?_⟩
  · rcases h with (⟨_, _, _, e2, _⟩ | h) | h
    · cases e2
    · exact .inl h
    · exact .inr h
  · rcases h with h | h
    · exact .inl (.inr h)
    · exact .inr h
end
end L2
set_option Elab.async false
set_option linter.all false
set_option maxRecDepth 100000
set_option maxHeartbeats 4000000
namespace L2
open PySem PySem.Spec PyProof.Rows
section
variable {X : Cx}
def rAny (K : PySem.W.Frag) : List V → Hp → VK → Prop := fun xs H Q => ∃ (p : Addr) (bs : List Bool), xs = [.ref p] ∧ SqL K H p (bs.map V.bl) ∧ Q (.bl (bs.any id)) H
theorem w_any {K : PySem.W.Frag} {p : Addr} {H : Hp} {Q : VK} : rAny K [.ref p] H Q = ∃ bs : List Bool, SqL K H p (bs.map V.bl) ∧ Q (.bl (bs.any id)) H := by
  refine propext ⟨fun ⟨_, bs, e, h⟩ => ?_, fun ⟨bs, h⟩ => ⟨p, bs, rfl, h⟩⟩
  cases e; exact ⟨bs, h⟩
def rSum (K : PySem.W.Frag) : List V → Hp → VK → Prop := fun xs H Q => ∃ (p : Addr) (ns : List Int), xs = [.ref p] ∧ SqL K H p (ns.map V.int) ∧ Q (.int ns.sum) H
theorem w_sum {K : PySem.W.Frag} {p : Addr} {H : Hp} {Q : VK} : rSum K [.ref p] H Q = ∃ ns : List Int, SqL K H p (ns.map V.int) ∧ Q (.int ns.sum) H := by
  refine propext ⟨fun ⟨_, bs, e, h⟩ => ?_, fun ⟨bs, h⟩ => ⟨p, bs, rfl, h⟩⟩
  cases e; exact ⟨bs, h⟩
end
end L2
namespace L2
open PySem PySem.Spec PyProof.Rows
section
variable {K : PySem.W.Frag} {σ : St} {H : Hp} {Q : VK} {D : Ends} {ta tb tc te : TE} {r r' : R2} {i n : Nat} {ti : TIp} {g : TG} {gs : TGs} {v : V} {vs : List V} {R : St → Hp → Prop} {f : Int → Int → Int} {a b : Int}
theorem w_chain : tChain r r' ta tb tc σ H Q = ta σ H fun x H1 => tb σ H1 fun y H2 => r x y H2 fun z H3 => ∃ k, z = .bl k ∧ (if k = true then tc σ H3 fun w' H4 => r' y w' H4 Q else Q (.bl false) H3) := rfl
theorem w_aug : tAug i te ti D σ H = ∃ x, σ[i]? = some (some x) ∧ te σ H fun y H1 => ti x y H1 fun z H2 => D.nx (σ.set i (some z)) H2 := rfl
theorem w_ipI : ipI f (.int a) (.int b) H Q = Q (.int (f a b)) H := propext ⟨fun ⟨_, _, e, e', h⟩ => by cases e; cases e'; exact h, fun h => ⟨a, b, rfl, rfl, h⟩⟩
theorem w_gTup {p : Addr} : gTup K n gs (.ref p) σ H R = ∃ xs, SqT K H p xs ∧ xs.length = n ∧ gs xs σ H R := propext ⟨fun ⟨_, xs, e, h⟩ => by cases e; exact ⟨xs, h⟩, fun ⟨xs, h⟩ => ⟨p, xs, rfl, h⟩⟩
theorem w_gCons : gCons g gs (v :: vs) σ H R = g v σ H fun σ' H' => gs vs σ' H' R := propext ⟨fun ⟨_, _, e, h⟩ => by cases e; exact h, fun h => ⟨v, vs, rfl, h⟩⟩
theorem w_gNil : gNil [] σ H R = R σ H := propext ⟨fun h => h.2, fun h => ⟨rfl, h⟩⟩
end
end L2
set_option Elab.async false
set_option linter.all false
set_option maxRecDepth 100000
set_option maxHeartbeats 4000000
namespace HT
open PySem PyProof.Rows
section
variable {prog : Program} {w : World} {A : Around} {E : Value → Shared → Prop} {s : Shared}
end
end HT
namespace L2
open PySem PySem.Spec PyProof.Rows
section
variable {X : Cx}
def rSlT2 (K : PySem.W.Frag) : V → Option Int → Option Int → Hp → VK → Prop := fun x lo hi H Q => ∃ a xs, x = .ref a ∧ SqT K H a xs ∧ ∀ q H', Same H H' → SqT K H' q (cutV xs lo hi) → Q (.ref q) H'
def rSlB (K : PySem.W.Frag) : V → Option Int → Option Int → Hp → VK → Prop := fun x lo hi H Q => rSlS x lo hi H Q ∨ (rSlL K x lo hi H Q ∨ rSlT2 K x lo hi H Q)
def rCatT2 (K : PySem.W.Frag) : R2 := fun x y H Q => ∃ a b xs ys, x = .ref a ∧ y = .ref b ∧ SqT K H a xs ∧ SqT K H b ys ∧ xs.length + ys.length ≤ sizeLine ∧ ∀ q H', Same H H' → SqT K H' q (xs ++ ys) → Q (.ref q) H'
def rAddB (K : PySem.W.Frag) : R2 := fun x y H Q => rI0 (fun i j => .int (i + j)) x y H Q ∨ (rAddS x y H Q ∨ (rCat x y H Q ∨ rCatT2 K x y H Q))
end
section
variable {K : PySem.W.Frag} {σ : St} {H : Hp} {Q : VK} {D : Ends} {p q : Addr} {x y : Str} {i j : Int} {lo hi : Option Int} {a b : Bool} {tc : TT} {tb : TS} {ta : TA} {te : TE} {R : It → Hp → Prop}
theorem w_slSB : rSlB K (.str x) lo hi H Q = (x.length ≤ sizeLine ∧ Q (.str (Txt.slice x lo hi)) H) := by
  refine propext ⟨fun h => ?_, fun ⟨h, k⟩ => .inl ⟨x, rfl, h, k⟩⟩
  rcases h with ⟨_, e, h⟩ | ⟨_, _, e, _⟩ | ⟨_, _, e, _⟩
  · cases e; exact h
  · cases e
  · cases e
theorem w_slRB : rSlB K (.ref p) lo hi H Q = ∃ xs, (SqL K H p xs ∧ ∀ q, H q = none → Q (.ref q) (upd H q (.lst (cutV xs lo hi)))) ∨
    (SqT K H p xs ∧ ∀ q H', Same H H' → SqT K H' q (cutV xs lo hi) → Q (.ref q) H') := by
  refine propext ⟨fun h => ?_, fun ⟨xs, h⟩ => ?_⟩
  · rcases h with ⟨_, e, _⟩ | ⟨_, xs, e, h⟩ | ⟨_, xs, e, h⟩
    · cases e
    · cases e; exact ⟨xs, .inl h⟩
    · cases e; exact ⟨xs, .inr h⟩
  · rcases h with h | h
    · exact .inr (.inl ⟨p, xs, rfl, h⟩)
    · exact .inr (.inr ⟨p, xs, rfl, h⟩)
theorem w_addIB : rAddB K (.int i) (.int j) H Q = Q (.int (i + j)) H := by
  refine propext ⟨fun h => ?_, fun h => .inl ⟨i, j, rfl, rfl, h⟩⟩
  rcases h with ⟨_, _, e1, e2, h⟩ | ⟨_, _, e, _⟩ | ⟨_, _, _, _, e, _⟩ | ⟨_, _, _, _, e, _⟩
  · cases e1; cases e2; exact h
  · cases e
  · cases e
  · cases e
theorem w_addSB : rAddB K (.str x) (.str y) H Q = (x.length + y.length ≤ sizeLine ∧ Q (.str (x ++ y)) H) := by
  refine propext ⟨fun h => ?_, fun ⟨h, k⟩ => .inr (.inl ⟨x, y, rfl, rfl, h, k⟩)⟩
  rcases h with ⟨_, _, e, _⟩ | ⟨_, _, e1, e2, h⟩ | ⟨_, _, _, _, e, _⟩ | ⟨_, _, _, _, e, _⟩
  · cases e
  · cases e1; cases e2; exact h
  · cases e
  · cases e
theorem w_catRB : rAddB K (.ref p) (.ref q) H Q = ∃ xs zs, (H p = some (.lst xs) ∧ H q = some (.lst zs) ∧ xs.length + zs.length ≤ sizeLine ∧ ∀ r, H r = none → Q (.ref r) (upd H r (.lst (xs ++ zs)))) ∨
    (SqT K H p xs ∧ SqT K H q zs ∧ xs.length + zs.length ≤ sizeLine ∧ ∀ r H', Same H H' → SqT K H' r (xs ++ zs) → Q (.ref r) H') := by
  refine propext ⟨fun h => ?_, fun ⟨xs, zs, h⟩ => ?_⟩
  · rcases h with ⟨_, _, e, _⟩ | ⟨_, _, e, _⟩ | ⟨_, _, xs, zs, e1, e2, h⟩ | ⟨_, _, xs, zs, e1, e2, h⟩
    · cases e
    · cases e
    · cases e1; cases e2; exact ⟨xs, zs, .inl h⟩
    · cases e1; cases e2; exact ⟨xs, zs, .inr h⟩
  · rcases h with h | h
    · exact .inr (.inr (.inl ⟨p, q, xs, zs, rfl, rfl, h⟩))
    · exact .inr (.inr (.inr ⟨p, q, xs, zs, rfl, rfl, h⟩))
theorem w_instBlB {T : String} : rInstB K T [.bl a, .ty T] H Q = ∃ c, PySem.W.kitOne K (.type "bool") (.type T) = some c ∧ Q (.bl c) H := by
  refine propext ⟨fun ⟨_, _, b, e, t, h⟩ => ?_, fun ⟨b, h⟩ => ⟨_, _, b, rfl, .of (.bl a), h⟩⟩
  cases e
  rcases t with t | t | t
  cases t; exact ⟨b, h⟩
theorem w_eqBl : rEq (.bl a) (.bl b) H Q = Q (.bl (decide (a = b))) H := by
  refine propext ⟨fun ⟨_, h⟩ => ?_, fun h => ⟨rfl, ?_⟩⟩
  · rw [dec_bl] at h; exact h
  · rw [dec_bl]; exact h
theorem w_neBl : rNe (.bl a) (.bl b) H Q = Q (.bl (!decide (a = b))) H := by
  refine propext ⟨fun ⟨_, h⟩ => ?_, fun h => ⟨rfl, ?_⟩⟩
  · rw [dec_bl] at h; exact h
  · rw [dec_bl]; exact h
theorem w_eqBlB : rEqB K (.bl a) (.bl b) H Q = Q (.bl (decide (a = b))) H := by
  refine propext ⟨fun h => ?_, fun h => .inl (w_eqBl ▸ h)⟩
  rcases h with h | ⟨d, b, hd, h, _⟩
  · rw [w_eqBl] at h; exact h
  · rcases h with h | h <;> cases h
theorem w_eqBlC : rEqC K (.bl a) (.bl b) H Q = Q (.bl (decide (a = b))) H := by
  refine propext ⟨fun h => ?_, fun h => .inl (w_eqBl ▸ h)⟩
  rcases h with h | ⟨d, d', h, _⟩
  · rw [w_eqBl] at h; exact h
  · cases h
theorem w_neBlC : rNeC K (.bl a) (.bl b) H Q = Q (.bl (!decide (a = b))) H := by
  refine propext ⟨fun h => ?_, fun h => .inl (w_neBl ▸ h)⟩
  rcases h with h | ⟨d, d', h, _⟩
  · rw [w_neBl] at h; exact h
  · cases h
theorem w_break : tBreak D σ H = D.bk σ H := rfl
theorem w_cont : tCont D σ H = D.ct σ H := rfl
theorem w_rng2 : iRng2 ta σ H R = ta σ H fun vs H1 => ∃ i j : Int, vs = [.int i, .int j] ∧ (-(2 ^ 62) ≤ i ∧ i < 2 ^ 62 ∧ -(2 ^ 62) ≤ j ∧ j < 2 ^ 62) ∧ R (Itr i (j - i).toNat) H1 := rfl
theorem w_isN : tIsN te σ H Q = te σ H fun x H1 => Q (.bl (decide (x = .non))) H1 := rfl
theorem w_notN : tNotN te σ H Q = te σ H fun x H1 => Q (.bl (!decide (x = .non))) H1 := rfl
theorem w_while : tWhile tc tb D σ H = ∃ W : Nat → St → Hp → Prop, (∃ m, W m σ H) ∧ ∀ m σ H, W m σ H →
  tc σ H fun b H1 => if b = true then ∃ N : St → Hp → Prop, (∀ σ' H', N σ' H' → ∃ m', m' < m ∧ W m' σ' H') ∧ tb { D with nx := N, ct := N, bk := D.nx } σ H1 else D.nx σ H1 := rfl
theorem w_ltS : rLtA (.str x) (.str y) H Q = Q (.bl (decide (x.cps.toList < y.cps.toList))) H := by
  refine propext ⟨fun h => ?_, fun h => .inr ⟨x, y, rfl, rfl, h⟩⟩
  rcases h with ⟨_, _, e, _⟩ | ⟨_, _, e1, e2, h⟩
  · cases e
  · cases e1; cases e2; exact h
theorem SqT.keepL {xs ys zs : List V} (h : SqT K H q xs) (hp : H p = some (.lst ys)) : SqT K (upd H p (.lst zs)) q xs := by
  rcases h with (h | ⟨o, h⟩) | h
  · exact .inl (.inl (by rw [upd_ne]; exact h; rintro rfl; rw [hp] at h; cases h))
  · exact .inl (.inr ⟨o, by rw [upd_ne]; exact h; rintro rfl; rw [hp] at h; cases h⟩)
  · exact .inr h
end
end L2
set_option Elab.async false
set_option linter.all false
set_option maxRecDepth 100000
set_option maxHeartbeats 4000000
namespace L2
open PySem PySem.Spec PyProof.Rows
def opn (r : Str) : Bool := inV (.str r) [V.str "guess", V.str "new", V.str "case"]
def o1 (r : Str) : Nat := if opn r = true then 1 else 0
def iv (p : List Nat) : List V := p.map fun n : Nat => V.int n
section
variable {K : PySem.W.Frag} {H H' : Hp} {a q p : Addr} {us : List V} {f : Nat → List Nat}
end
end L2
set_option Elab.async false
set_option linter.all false
set_option maxRecDepth 100000
set_option maxHeartbeats 4000000
namespace L2
open PySem PySem.Spec PyProof.Rows
section
variable {X : Cx}
def nums (n : Nat) : List V := (List.range n).map fun i : Nat => V.int i
def tLR (ta : TA) : TE := fun σ H Q => ta σ H fun vs H1 => ∃ j : Int, vs = [.int j] ∧ 0 ≤ j ∧ j ≤ 100000 ∧ ∀ p, H1 p = none → Q (.ref p) (upd H1 p (.lst (nums j.toNat)))
end
end L2
namespace L2
open PySem PySem.Spec PyProof.Rows
section
variable {K : PySem.W.Frag} {σ : St} {H H' : Hp} {Q : VK} {ta : TA} {p : Addr} {k : Int}
theorem w_LR : tLR ta σ H Q = ta σ H fun vs H1 => ∃ j : Int, vs = [.int j] ∧ 0 ≤ j ∧ j ≤ 100000 ∧ ∀ p, H1 p = none → Q (.ref p) (upd H1 p (.lst (nums j.toNat))) := rfl
theorem w_mulR : rMulA (.ref p) (.int k) H Q = ∃ xs, H p = some (.lst xs) ∧ -(2 ^ 63) ≤ k ∧ k < 2 ^ 63 ∧ xs.length * k.toNat ≤ sizeLine ∧ ∀ q, H q = none → Q (.ref q) (upd H q (.lst (List.replicate k.toNat xs).flatten)) := by
  refine propext ⟨fun h => ?_, fun ⟨xs, h⟩ => .inr ⟨p, k, xs, rfl, rfl, h⟩⟩
  rcases h with ⟨_, _, e, _⟩ | ⟨_, _, xs, e1, e2, h⟩
  · cases e
  · cases e1; cases e2; exact ⟨xs, h⟩
theorem seq_ifP {c : Prop} [Decidable c] {tt : TT} {t u : TS} {D : Ends} (ht : ∀ Qb : Bool → Hp → Prop, Qb (decide c) H → tt σ H Qb) (h1 : c → t { D with nx := u D } σ H) (h2 : ¬ c → u D σ H) : tSeq (tIfS tt t tNext) u D σ H := by
  show tt σ H fun b H1 => if b = true then t { D with nx := u D } σ H1 else u D σ H1
  refine ht _ ?_
  by_cases hc : c
  · rw [decide_eq_true hc, if_pos rfl]; exact h1 hc
  · rw [decide_eq_false hc, if_neg (by decide)]; exact h2 hc
theorem RepL.last {Ss : List Stm} {us : List V} (h : RepL K H Ss us) (hn : Ss ≠ []) : ∃ A S U u, Ss = A ++ [S] ∧ us = U ++ [u] ∧ RepL K H A U ∧ RepS K H S u := by
  induction h with
  | nil => exact absurd rfl hn
  | @cons a b l m h1 h2 ih =>
    by_cases z : l = []
    · subst z
      cases h2
      exact ⟨[], a, [], b, rfl, rfl, .nil, h1⟩
    · obtain ⟨A, S, U, u, rfl, rfl, h3, h4⟩ := ih z
      exact ⟨a :: A, S, b :: U, u, rfl, rfl, .cons h1 h3, h4⟩
def tb (t : Str) : Prop := 1 ≤ t.length ∧ t.length ≤ 16
end
end L2
set_option Elab.async false
set_option linter.all false
set_option maxRecDepth 100000
set_option maxHeartbeats 4000000
namespace L2
open PySem PySem.Spec PyProof.Rows
section
variable {X : Cx}
def tCallV (X : Cx) (tv : TE) (t : TA) : TE := fun σ H Q => tv σ H fun z H1 => ∃ (f : Addr) (CX : CXT) (k : Nat) (fd : FuncData) (ps : List Str) (sp : Sp) (ds : List Value) (dvs : List V) (E : XK), z = .ref f ∧ FnOk X.prog X.w X.K X.mg X.base CX k f fd ps sp ∧ Room k X.A ∧
  PySem.W.keepIn X.K (.ref f) = true ∧ Binds X.K fd ps ds ∧ Vals dvs ds ∧ Passes CX X E ∧ t σ H1 fun vs H2 => sp (vs ++ dvs) H2 Q E
theorem w_callV {tv : TE} {t : TA} {σ : St} {H : Hp} {Q : VK} : tCallV X tv t σ H Q = tv σ H fun z H1 => ∃ (f : Addr) (CX : CXT) (k : Nat) (fd : FuncData) (ps : List Str) (sp : Sp) (ds : List Value) (dvs : List V) (E : XK), z = .ref f ∧ FnOk X.prog X.w X.K X.mg X.base CX k f fd ps sp ∧ Room k X.A ∧
  PySem.W.keepIn X.K (.ref f) = true ∧ Binds X.K fd ps ds ∧ Vals dvs ds ∧ Passes CX X E ∧ t σ H1 fun vs H2 => sp (vs ++ dvs) H2 Q E := rfl
end
end L2
set_option Elab.async false
set_option linter.all false
set_option maxRecDepth 100000
set_option maxHeartbeats 4000000
namespace L2
open PySem PySem.Spec PySem.Calls PyProof.V PyProof.Rows PyProof.Rows.KTD
section
variable {X : Cx}
def TabK (K : PySem.W.Frag) (a : Addr) (D : List (Str × V)) : Prop :=
  (a == sysModules) = false ∧ ∃ (o : Obj) (es : Array DictEntry) (ep : Nat), K.lookup a = some o ∧ o.ExactDict ∧ o.data = .dict es ep ∧ KTD.Rows (fun d v => RelV d v) es.toList D
def rInTab (K : PySem.W.Frag) : R2 := fun x y H Q => ∃ k p D, x = .str k ∧ y = .ref p ∧ TabK K p D ∧ Q (.bl (inKeys k D)) H
def rIxTab (K : PySem.W.Frag) : R2 := fun x y H Q => ∃ k p D z, x = .ref p ∧ y = .str k ∧ TabK K p D ∧ datumAt k D = some z ∧ Q z H
end
end L2
set_option Elab.async false
set_option linter.all false
set_option maxRecDepth 100000
set_option maxHeartbeats 4000000
namespace L2
open PySem PySem.Spec PyProof.Rows
open AutoSeq1 (wpAny_loadPart')
section
variable {prog : Program} {w : World} {A : Around} {E : Value → Shared → Prop} {s : Shared}
end
section
variable {X : Cx} {pins : List (Addr × Obj)} {σ : St} {H : Hp} {s : Shared} {h' : Heap}
end
def Ite (K : PySem.W.Frag) (a : Addr) : It :=
  ⟨fun i H => ∃ xs x, SqT K H a xs ∧ xs[i]? = some x, fun i H v H' => ∃ t y, v = .ref t ∧ H t = none ∧ H' = upd H t (.tup [.int i, y]) ∧ ∀ xs, SqT K H a xs → xs[i]? = some y, fun i H => ∃ xs, SqT K H a xs ∧ xs.length ≤ i⟩
section
variable {X : Cx}
def iEnum (K : PySem.W.Frag) (ta : TA) : TI := fun σ H R => ta σ H fun vs H1 => ∃ a, vs = [.ref a] ∧ (∃ xs, SqT K H1 a xs) ∧ R (Ite K a) H1
theorem w_enum {K : PySem.W.Frag} {σ : St} {H : Hp} {R : It → Hp → Prop} {ta : TA} : iEnum K ta σ H R = ta σ H fun vs H1 => ∃ a, vs = [.ref a] ∧ (∃ xs, SqT K H1 a xs) ∧ R (Ite K a) H1 := rfl
end
section
variable {X : Cx}
def rCount (K : PySem.W.Frag) : V → List V → Hp → VK → Prop := fun x vs H Q => ∃ p xs k, x = .ref p ∧ vs = [k] ∧ SqL K H p xs ∧ xs.all flatV = true ∧ flatV k = true ∧ Q (.int ((xs.countP fun y => eqV y k : Nat) : Int)) H
theorem w_count {K : PySem.W.Frag} {p : Addr} {k : V} {H : Hp} {Q : VK} : rCount K (.ref p) [k] H Q = ∃ xs, SqL K H p xs ∧ xs.all flatV = true ∧ flatV k = true ∧ Q (.int ((xs.countP fun y => eqV y k : Nat) : Int)) H := by
  refine propext ⟨fun ⟨_, xs, _, e1, e2, h⟩ => ?_, fun ⟨xs, h⟩ => ⟨p, xs, k, rfl, rfl, h⟩⟩
  cases e1; cases e2; exact ⟨xs, h⟩
end
end L2
set_option Elab.async false
set_option linter.all false
set_option maxRecDepth 100000
set_option maxHeartbeats 4000000
namespace L2
open PySem PySem.Spec PyProof.Rows
open AutoSeq1 (wpAny_loadPart')
section
variable {prog : Program} {w : World} {A : Around} {E : Value → Shared → Prop} {s : Shared}
end
section
variable {X : Cx} {pins : List (Addr × Obj)} {σ : St} {H : Hp} {s : Shared} {h' : Heap}
end
def Itz (K : PySem.W.Frag) (a b : Addr) : It :=
  ⟨fun i H => ∃ xs ys x y, SqT K H a xs ∧ SqT K H b ys ∧ xs[i]? = some x ∧ ys[i]? = some y,
   fun i H v H' => ∃ t x y, v = .ref t ∧ H t = none ∧ H' = upd H t (.tup [x, y]) ∧ (∀ xs, SqT K H a xs → xs[i]? = some x) ∧ ∀ ys, SqT K H b ys → ys[i]? = some y,
   fun i H => ∃ xs ys, SqT K H a xs ∧ SqT K H b ys ∧ (xs.length ≤ i ∨ ys.length ≤ i)⟩
section
variable {X : Cx}
def iZip (K : PySem.W.Frag) (ta : TA) : TI := fun σ H R => ta σ H fun vs H1 => ∃ a b, vs = [.ref a, .ref b] ∧ (∃ xs, SqT K H1 a xs) ∧ (∃ ys, SqT K H1 b ys) ∧ R (Itz K a b) H1
theorem w_zip {K : PySem.W.Frag} {σ : St} {H : Hp} {R : It → Hp → Prop} {ta : TA} : iZip K ta σ H R = ta σ H fun vs H1 => ∃ a b, vs = [.ref a, .ref b] ∧ (∃ xs, SqT K H1 a xs) ∧ (∃ ys, SqT K H1 b ys) ∧ R (Itz K a b) H1 := rfl
end
end L2
set_option Elab.async false
set_option linter.all false
set_option maxRecDepth 100000
set_option maxHeartbeats 4000000
namespace L2
open PySem PySem.Spec PyProof.Rows
section
variable {K : PySem.W.Frag} {nt : Nat} {is : List Nat} {g : TG} {tt : TT} {te : TE} {σ : St} {H : Hp} {Q : VK}
end
section
variable {X : Cx}
def tDNew : TE := fun _ H Q => ∀ p, H p = none → Q (.ref p) (upd H p (.dK []))
theorem w_dnew {σ : St} {H : Hp} {Q : VK} : tDNew σ H Q = ∀ p, H p = none → Q (.ref p) (upd H p (.dK [])) := rfl
theorem w_inTab {K : PySem.W.Frag} {k : Str} {p : Addr} {H : Hp} {Q : VK} : rInTab K (.str k) (.ref p) H Q = ∃ D, TabK K p D ∧ Q (.bl (KTD.inKeys k D)) H := by
  refine propext ⟨fun ⟨_, _, D, e1, e2, h⟩ => ?_, fun ⟨D, h⟩ => ⟨k, p, D, rfl, rfl, h⟩⟩
  cases e1; cases e2; exact ⟨D, h⟩
theorem w_ixTab {K : PySem.W.Frag} {k : Str} {p : Addr} {H : Hp} {Q : VK} : rIxTab K (.ref p) (.str k) H Q = ∃ D z, TabK K p D ∧ KTD.datumAt k D = some z ∧ Q z H := by
  refine propext ⟨fun ⟨_, _, D, z, e1, e2, h⟩ => ?_, fun ⟨D, z, h⟩ => ⟨k, p, D, z, rfl, rfl, h⟩⟩
  cases e1; cases e2; exact ⟨D, z, h⟩
end
end L2
set_option Elab.async false
set_option linter.all false
set_option maxRecDepth 100000
set_option maxHeartbeats 4000000
namespace L2
open PySem PySem.Spec PyProof.Rows
section
variable {K : PySem.W.Frag} {H : Hp} {p : Addr} {ys zs : List V}
theorem RepS.keepL (hp : H p = some (.lst ys)) : ∀ {S : Stm} {v : V}, RepS K H S v → RepS K (upd H p (.lst zs)) S v
  | .is _ _, _, ⟨a, b, h1, h2, h3⟩ => ⟨a, b, h1, h2.keepL hp, h3.keepL hp⟩
  | .fls, _, ⟨a, h1, h2⟩ => ⟨a, h1, h2.keepL hp⟩
  | .neg _, _, ⟨a, u, h1, h2, h3⟩ => ⟨a, u, h1, h2.keepL hp, RepS.keepL hp h3⟩
  | .bi _ _ _, _, ⟨a, u, u', h1, h2, h3, h4⟩ => ⟨a, u, u', h1, h2.keepL hp, RepS.keepL hp h3, RepS.keepL hp h4⟩
  | .qu _ _ _, _, ⟨a, u, h1, h2, h3⟩ => ⟨a, u, h1, h2.keepL hp, RepS.keepL hp h3⟩
theorem RepL.keepL {Ss : List Stm} {vs : List V} (hp : H p = some (.lst ys)) (h : RepL K H Ss vs) : RepL K (upd H p (.lst zs)) Ss vs := Paired.mapP h fun _ _ => RepS.keepL hp
end
end L2
set_option Elab.async false
set_option linter.all false
set_option maxRecDepth 100000
set_option maxHeartbeats 4000000
namespace L2
open PySem PySem.Spec PyProof.Rows
open AutoSeq1 (wpAny_loadPart')
section
variable {prog : Program} {w : World} {A : Around} {E : Value → Shared → Prop} {s : Shared}
end
section
variable {prog : Program} {w : World} {A : Around} {E : Value → Shared → Prop} {s : Shared} {I : Addr} {fp wr : List Addr} {G : Array GenState → Array GenState → Prop} {n : Nat} {P : Nat → Value → Prop} {St : Nat → Shared → Prop}
end
section
variable {X : Cx}
end
end L2
namespace L2
open PySem PySem.Spec PyProof.Rows
open AutoSeq1
section
variable {X : Cx}
end
end L2
set_option Elab.async false
set_option linter.all false
set_option maxRecDepth 100000
set_option maxHeartbeats 4000000
namespace L2
open PySem PySem.Spec PyProof.Rows
section
variable {prog : Program} {w : World} {A : Around} {E : Value → Shared → Prop} {s : Shared}
end
def Itd (hi : Int) (n : Nat) : It := ⟨fun i _ => i < n, fun i H x H' => H' = H ∧ x = .int (hi - 1 - i), fun i _ => n ≤ i⟩
section
variable {X : Cx} {tg : Expr}
def iRr (ta : TA) : TI := fun σ H R => ta σ H fun vs H1 => ∃ j : Int, vs = [.int j] ∧ 0 ≤ j ∧ j < 2 ^ 62 ∧ R (Itd j j.toNat) H1
theorem w_rr {ta : TA} {σ : St} {H : Hp} {R : It → Hp → Prop} : iRr ta σ H R = ta σ H fun vs H1 => ∃ j : Int, vs = [.int j] ∧ 0 ≤ j ∧ j < 2 ^ 62 ∧ R (Itd j j.toNat) H1 := rfl
end
section
variable {X : Cx} {e st : Expr} {te ts : TE} {pos p2 : Pos}
def tRvL (K : PySem.W.Frag) (te ts : TE) : TE := fun σ H Q => te σ H fun x H1 => ts σ H1 fun y H2 => y = .int (-1) ∧ ∃ a xs, x = .ref a ∧ SqL K H2 a xs ∧ ∀ p, H2 p = none → Q (.ref p) (upd H2 p (.lst xs.reverse))
theorem w_rvL {K : PySem.W.Frag} {σ : St} {H : Hp} {Q : VK} : tRvL K te ts σ H Q = te σ H fun x H1 => ts σ H1 fun y H2 => y = .int (-1) ∧ ∃ a xs, x = .ref a ∧ SqL K H2 a xs ∧ ∀ p, H2 p = none → Q (.ref p) (upd H2 p (.lst xs.reverse)) := rfl
def rEqBs (K : PySem.W.Frag) : R2 := fun x y H Q => ∃ p q bs cs, x = .ref p ∧ y = .ref q ∧ SqL K H p (List.map V.bl bs) ∧ SqL K H q (List.map V.bl cs) ∧ bs.length = cs.length ∧ Q (.bl ((List.range bs.length).all fun i => bs.getD i false == cs.getD i false)) H
def rNeBs (K : PySem.W.Frag) : R2 := fun x y H Q => ∃ p q bs cs, x = .ref p ∧ y = .ref q ∧ SqL K H p (List.map V.bl bs) ∧ SqL K H q (List.map V.bl cs) ∧ bs.length = cs.length ∧ Q (.bl (!(List.range bs.length).all fun i => bs.getD i false == cs.getD i false)) H
def rEqX (K : PySem.W.Frag) : R2 := fun x y H Q => rEqBs K x y H Q ∨ rEqC K x y H Q
theorem w_eqX {K : PySem.W.Frag} {p q : Addr} {H : Hp} {Q : VK} : rEqX K (.ref p) (.ref q) H Q = (rEqBs K (.ref p) (.ref q) H Q ∨ rEqC K (.ref p) (.ref q) H Q) := rfl
theorem w_neL {K : PySem.W.Frag} {p q : Addr} {H : Hp} {Q : VK} : rNeBs K (.ref p) (.ref q) H Q = ∃ bs cs, SqL K H p (List.map V.bl bs) ∧ SqL K H q (List.map V.bl cs) ∧ bs.length = cs.length ∧ Q (.bl (!(List.range bs.length).all fun i => bs.getD i false == cs.getD i false)) H :=
  propext ⟨fun ⟨_, _, bs, cs, e1, e2, h⟩ => by cases e1; cases e2; exact ⟨bs, cs, h⟩, fun ⟨bs, cs, h⟩ => ⟨p, q, bs, cs, rfl, rfl, h⟩⟩
end
end L2
namespace L2
open PySem PySem.Spec PyProof.Rows
section
variable {X : Cx}
end
end L2
set_option Elab.async false
set_option linter.all false
set_option maxRecDepth 100000
set_option maxHeartbeats 4000000
namespace L2
open PySem PySem.Spec PyProof.Rows
def hv (h : Nat → Int) (n : Nat) : List V := (List.range n).map fun j => V.int (h j)
section
variable {K : PySem.W.Frag} {H H' : Hp} {us : List V} {f : Nat → Int × Str}
end
end L2
set_option Elab.async false
set_option linter.all false
set_option maxRecDepth 100000
set_option maxHeartbeats 4000000
namespace L2
open PySem PySem.Spec PyProof.Rows
section
variable {prog : Program} {w : World} {A : Around} {E : Value → Shared → Prop} {s : Shared} {κ : KeyKind}
def kOf (κ : KeyKind) (x : Keyed) : κ.α := (κ.keyOf x.1).getD κ.dflt
def Kd (κ : KeyKind) (x : Keyed) : Prop := ∃ a, κ.keyOf x.1 = some a
theorem wpS_lt2 {st : SortSt} {x y : Keyed} {Q : Option Bool → SortSt → Prop} (hO : κ.OneLt) (hk : kindOf st = oneType') (hx : Kd κ x) (hy : Kd κ y) (h : Q (some (κ.blt (kOf κ x) (kOf κ y))) st) : wpS (model prog w) A E s (lt' x y) Q st := by
  obtain ⟨a, ha⟩ := hx
  obtain ⟨b, hb⟩ := hy
  have ea : kOf κ x = a := by unfold kOf; rw [ha]; rfl
  have eb : kOf κ y = b := by unfold kOf; rw [hb]; rfl
  rw [ea, eb] at h
  rw [lt'_eq]
  refine wpS_bind (wpS_get ?_)
  rw [hk, keyLt'_oneType]
  refine wpS_bind (wpS_lift (wpAny_attempt (hO prog w A _ s x.1 y.1 a b ha hb ⟨rfl, ?_⟩)))
  exact wpS_pure h
theorem wpS_elem {st : SortSt} {arr : Array Keyed} {i : Nat} {Q : Keyed → SortSt → Prop} (hi : i < arr.size) (h : Q arr[i] st) : wpS (model prog w) A E s (elem' arr i) Q st := by
  rw [elem'_eq, getElem?_pos arr i hi]
  exact wpS_pure h
def gallop' : Bool → Keyed → Array Keyed → Nat → Nat → Nat → StateT SortSt Sem (Option Nat) := sortPriv% PySem.Builtin.gallop
def beyond (left : Bool) (key : Keyed) (arr : Array Keyed) (base i : Nat) : StateT SortSt Sem (Option Bool) := do
  let x ← elem' arr (base + i)
  if left then lt' x key else return (← lt' key x).map (!·)
def bynd (κ : KeyKind) (left : Bool) (key : Keyed) (arr : Array Keyed) (base i : Nat) : Bool := match arr[base + i]? with
  | some x => if left then κ.blt (kOf κ x) (kOf κ key) else !κ.blt (kOf κ key) (kOf κ x)
  | none => false
theorem wpS_beyond {st : SortSt} {left : Bool} {key : Keyed} {arr : Array Keyed} {base i : Nat} {Q : Option Bool → SortSt → Prop} (hO : κ.OneLt) (hk : kindOf st = oneType') (hy : Kd κ key) (ha : ∀ x ∈ arr, Kd κ x) (hi : base + i < arr.size) (h : Q (some (bynd κ left key arr base i)) st) : wpS (model prog w) A E s (beyond left key arr base i) Q st := by
  unfold beyond
  refine wpS_bind (wpS_elem hi ?_)
  unfold bynd at h
  rw [getElem?_pos arr _ hi] at h
  have hx := ha arr[base + i] (Array.getElem_mem hi)
  cases left with
  | true => exact wpS_lt2 hO hk hx hy h
  | false => exact wpS_bind (wpS_lt2 hO hk hy hx (wpS_pure h))
def srch (f : Nat → StateT SortSt Sem (Option Bool)) (n lo hi : Nat) : StateT SortSt Sem (Option Nat) := do
  let mut lo := lo
  let mut hi := hi
  for _ in [0:n] do
    if lo ≥ hi then break
    let m := lo + (hi - lo) / 2
    let some more ← f m | return none
    if more then lo := m + 1 else hi := m
  return some hi
def gal (f : Nat → StateT SortSt Sem (Option Bool)) (n hint : Nat) : StateT SortSt Sem (Option Nat) := do
  let some right ← f hint | return none
  if right then
    let maxofs := n - hint
    let mut lastofs := 0
    let mut ofs := 1
    for _ in [0:n] do
      if ofs ≥ maxofs then break
      let some more ← f (hint + ofs) | return none
      if !more then break
      lastofs := ofs
      ofs := 2 * ofs + 1
    srch f n (hint + lastofs + 1) (hint + min ofs maxofs)
  else
    let maxofs := hint + 1
    let mut lastofs := 0
    let mut ofs := 1
    for _ in [0:n] do
      if ofs ≥ maxofs then break
      let some found ← f (hint - ofs) | return none
      if found then break
      lastofs := ofs
      ofs := 2 * ofs + 1
    srch f n (hint + 1 - min ofs maxofs) (hint - lastofs)
theorem gallop'_gal (left : Bool) (key : Keyed) (arr : Array Keyed) (base n hint : Nat) : gallop' left key arr base n hint = gal (beyond left key arr base) n hint := rfl
theorem wpS_srch {st : SortSt} {f : Nat → StateT SortSt Sem (Option Bool)} {B : Nat → Bool} {n lo hi : Nat} {Q : Option Nat → SortSt → Prop} (hf : ∀ i (Q : Option Bool → SortSt → Prop), i < n → Q (some (B i)) st → wpS (model prog w) A E s (f i) Q st) (hlh : lo ≤ hi) (hh : hi ≤ n)
    (hm : ∀ i j, i ≤ j → j < n → B j = true → B i = true)
    (h1 : ∀ i, i < lo → B i = true) (h2 : ∀ i, hi ≤ i → i < n → B i = false)
    (h : ∀ k, k ≤ n → (∀ i, i < k → B i = true) → (∀ i, k ≤ i → i < n → B i = false) → Q (some k) st) : wpS (model prog w) A E s (srch f n lo hi) Q st := by
  unfold srch
  refine wpS_bind (wpS_mono (wpS_forRange (I := fun x c st' => st' = st ∧ ∃ lo hi, c = (none, lo, hi) ∧ lo ≤ hi ∧ hi ≤ n ∧ hi - lo ≤ n - x ∧ (∀ i, i < lo → B i = true) ∧ ∀ i, hi ≤ i → i < n → B i = false)
    (Q := fun c st' => st' = st ∧ ∃ k, c = (none, k, k) ∧ k ≤ n ∧ (∀ i, i < k → B i = true) ∧ ∀ i, k ≤ i → i < n → B i = false) ?step ?fin ⟨rfl, lo, hi, rfl, hlh, hh, by omega, h1, h2⟩) ?post)
  case fin =>
    rintro c st' ⟨rfl, lo, hi, rfl, q1, q2, q3, q4, q5⟩
    have : lo = hi := by omega
    subst this
    exact ⟨rfl, lo, rfl, q2, q4, q5⟩
  case post =>
    rintro c st' ⟨rfl, k, rfl, q1, q2, q3⟩
    exact wpS_pure (h k q1 q2 q3)
  case step =>
    rintro x c st' _ hx ⟨rfl, lo, hi, rfl, q1, q2, q3, q4, q5⟩
    dsimp only
    by_cases hge : lo ≥ hi
    · rw [if_pos hge]
      have : lo = hi := by omega
      subst this
      exact wpS_pure ⟨rfl, lo, rfl, q2, q4, q5⟩
    · rw [if_neg hge]
      refine wpS_bind (hf _ _ (by omega) ?_)
      cases e : B (lo + (hi - lo) / 2) with
      | true =>
        refine wpS_pure ⟨rfl, _, _, rfl, by omega, by omega, by omega, fun i hi' => ?_, q5⟩
        exact hm i (lo + (hi - lo) / 2) (by omega) (by omega) e
      | false =>
        refine wpS_pure ⟨rfl, _, _, rfl, by omega, by omega, by omega, q4, fun i h1 h2 => ?_⟩
        cases e' : B i with
        | false => rfl
        | true => rw [hm _ i h1 h2 e'] at e; cases e
theorem wpS_gal {st : SortSt} {f : Nat → StateT SortSt Sem (Option Bool)} {B : Nat → Bool} {n hint : Nat} {Q : Option Nat → SortSt → Prop} (hf : ∀ i (Q : Option Bool → SortSt → Prop), i < n → Q (some (B i)) st → wpS (model prog w) A E s (f i) Q st) (hh : hint < n)
    (hm : ∀ i j, i ≤ j → j < n → B j = true → B i = true)
    (h : ∀ k, k ≤ n → (∀ i, i < k → B i = true) → (∀ i, k ≤ i → i < n → B i = false) → Q (some k) st) : wpS (model prog w) A E s (gal f n hint) Q st := by
  unfold gal
  refine wpS_bind (hf _ _ (by omega) ?_)
  have hm' : ∀ {i j}, i ≤ j → j < n → B i = false → B j = false := fun {i j} h1 h2 e => by
    cases e' : B j with
    | false => rfl
    | true => rw [hm i j h1 h2 e'] at e; cases e
  cases e : B hint with
  | true =>
    dsimp only
    rw [if_pos rfl]
    refine wpS_bind (wpS_mono (wpS_forRange (I := fun x c st' => st' = st ∧ ∃ l o, c = (none, l, o) ∧ l < o ∧ x + 1 ≤ o ∧ hint + l < n ∧ B (hint + l) = true)
      (Q := fun c st' => st' = st ∧ ∃ l o, c = (none, l, o) ∧ l < o ∧ hint + l < n ∧ B (hint + l) = true ∧ (hint + o < n → B (hint + o) = false)) ?step ?fin ⟨rfl, 0, 1, rfl, by omega, by omega, by omega, e⟩) ?post)
    case fin =>
      rintro c st' ⟨rfl, l, o, rfl, q1, q2, q3, q4⟩
      exact ⟨rfl, l, o, rfl, q1, q3, q4, fun z => by omega⟩
    case post =>
      rintro c st' ⟨rfl, l, o, rfl, q1, q2, q3, q4⟩
      dsimp only
      refine wpS_srch hf (by omega) (by omega) hm (fun i hi => hm i (hint + l) (by omega) q2 q3) (fun i h1 h2 => ?_) h
      exact hm' (i := hint + o) (by omega) h2 (q4 (by omega))
    case step =>
      rintro x c st' _ hx ⟨rfl, l, o, rfl, q1, q2, q3, q4⟩
      dsimp only
      by_cases hge : o ≥ n - hint
      · rw [if_pos hge]
        exact wpS_pure ⟨rfl, l, o, rfl, q1, q3, q4, fun z => by omega⟩
      · rw [if_neg hge]
        refine wpS_bind (hf _ _ (by omega) ?_)
        cases e : B (hint + o) with
        | true => exact wpS_pure ⟨rfl, o, _, rfl, by omega, by omega, by omega, e⟩
        | false => exact wpS_pure ⟨rfl, l, o, rfl, q1, q3, q4, fun _ => e⟩
  | false =>
    dsimp only
    rw [if_neg (by decide)]
    refine wpS_bind (wpS_mono (wpS_forRange (I := fun x c st' => st' = st ∧ ∃ l o, c = (none, l, o) ∧ l < o ∧ x + 1 ≤ o ∧ l ≤ hint ∧ B (hint - l) = false)
      (Q := fun c st' => st' = st ∧ ∃ l o, c = (none, l, o) ∧ l < o ∧ l ≤ hint ∧ B (hint - l) = false ∧ (o ≤ hint → B (hint - o) = true)) ?step ?fin ⟨rfl, 0, 1, rfl, by omega, by omega, by omega, e⟩) ?post)
    case fin =>
      rintro c st' ⟨rfl, l, o, rfl, q1, q2, q3, q4⟩
      exact ⟨rfl, l, o, rfl, q1, q3, q4, fun z => by omega⟩
    case post =>
      rintro c st' ⟨rfl, l, o, rfl, q1, q2, q3, q4⟩
      dsimp only
      refine wpS_srch hf (by omega) (by omega) hm (fun i hi => hm i (hint - o) (by omega) (by omega) (q4 (by omega))) (fun i h1 h2 => ?_) h
      exact hm' (i := hint - l) (by omega) h2 q3
    case step =>
      rintro x c st' _ hx ⟨rfl, l, o, rfl, q1, q2, q3, q4⟩
      dsimp only
      by_cases hge : o ≥ hint + 1
      · rw [if_pos hge]
        exact wpS_pure ⟨rfl, l, o, rfl, q1, q3, q4, fun z => by omega⟩
      · rw [if_neg hge]
        refine wpS_bind (hf _ _ (by omega) ?_)
        cases e : B (hint - o) with
        | false => exact wpS_pure ⟨rfl, o, _, rfl, by omega, by omega, by omega, e⟩
        | true => exact wpS_pure ⟨rfl, l, o, rfl, q1, q3, q4, fun _ => e⟩
theorem wpS_gallop {st : SortSt} {left : Bool} {key : Keyed} {arr : Array Keyed} {base n hint : Nat} {Q : Option Nat → SortSt → Prop} (hO : κ.OneLt) (hk : kindOf st = oneType') (hy : Kd κ key) (ha : ∀ x ∈ arr, Kd κ x) (hn : base + n ≤ arr.size) (hh : hint < n)
    (hm : ∀ i j, i ≤ j → j < n → bynd κ left key arr base j = true → bynd κ left key arr base i = true)
    (h : ∀ k, k ≤ n → (∀ i, i < k → bynd κ left key arr base i = true) → (∀ i, k ≤ i → i < n → bynd κ left key arr base i = false) → Q (some k) st) : wpS (model prog w) A E s (gallop' left key arr base n hint) Q st := by
  rw [gallop'_gal]
  exact wpS_gal (B := bynd κ left key arr base) (fun i Q hi q => wpS_beyond hO hk hy ha (by omega) q) hh hm h
end
end L2
set_option Elab.async false
set_option linter.all false
set_option maxRecDepth 100000
set_option maxHeartbeats 4000000
namespace L2
open PySem PySem.Spec PyProof.Rows
section
variable {prog : Program} {w : World} {A : Around} {E : Value → Shared → Prop} {s : Shared} {κ : KeyKind}
def setMG : Nat → StateT SortSt Sem Unit := sortPriv% PySem.Builtin.setMinGallop
theorem setMG_eq (g : Nat) : setMG g = modify fun s => SortSt.mk' (kindOf s) (arrOf s) (pendingOf s) g (failedOf s) := rfl
def mergeLo' : Array Keyed → Array Keyed → StateT SortSt Sem (Array Keyed) := sortPriv% PySem.Builtin.mergeLo
theorem mergeLo'_eq (a b : Array Keyed) : mergeLo' a b = (do
  rule "list.sort.merge-lo"
  let total := a.size + b.size
  let done (out : Array Keyed) (ia ib : Nat) := out ++ a.extract ia a.size ++ b.extract ib b.size
  let lastOfA (out : Array Keyed) (ia ib : Nat) := out ++ b.extract ib b.size ++ a.extract ia a.size
  let mut out : Array Keyed := #[← elem' b 0]
  let mut ia := 0
  let mut ib := 1
  if ib == b.size then return done out ia ib
  if ia + 1 == a.size then return lastOfA out ia ib
  let mut minGallop := gallopOf (← get)
  for _ in [0:total] do
    let mut acount := 0
    let mut bcount := 0
    for _ in [0:total] do
      let some bWins ← lt' (← elem' b ib) (← elem' a ia) | return done out ia ib
      if bWins then
        out := out.push (← elem' b ib); ib := ib + 1; bcount := bcount + 1; acount := 0
        if ib == b.size then return done out ia ib
        if bcount ≥ minGallop then break
      else
        out := out.push (← elem' a ia); ia := ia + 1; acount := acount + 1; bcount := 0
        if ia + 1 == a.size then return lastOfA out ia ib
        if acount ≥ minGallop then break
    rule "list.sort.gallop"
    minGallop := minGallop + 1
    for _ in [0:total] do
      if minGallop > 1 then minGallop := minGallop - 1
      setMG minGallop
      let some k ← gallop' false (← elem' b ib) a ia (a.size - ia) 0 | return done out ia ib
      acount := k
      if k > 0 then
        out := out ++ a.extract ia (ia + k); ia := ia + k
        if ia + 1 == a.size then return lastOfA out ia ib
        if ia == a.size then return done out ia ib
      out := out.push (← elem' b ib); ib := ib + 1
      if ib == b.size then return done out ia ib
      let some k ← gallop' true (← elem' a ia) b ib (b.size - ib) 0 | return done out ia ib
      bcount := k
      if k > 0 then
        out := out ++ b.extract ib (ib + k); ib := ib + k
        if ib == b.size then return done out ia ib
      out := out.push (← elem' a ia); ia := ia + 1
      if ia + 1 == a.size then return lastOfA out ia ib
      if acount < 7 && bcount < 7 then break
    minGallop := minGallop + 1
    setMG minGallop
  unsupported "internal:list.sort.merge-bound") := rfl
def Srt (κ : KeyKind) (l : List Keyed) : Prop := l.Pairwise fun x y => κ.kle (kOf κ x) (kOf κ y)
structure MI (κ : KeyKind) (a b out : List Keyed) (ia ib : Nat) : Prop where
  ha : ia ≤ a.length
  hb : ib ≤ b.length
  perm : out.Perm (a.take ia ++ b.take ib)
  srt : Srt κ out
  le : ∀ x ∈ out, ∀ y ∈ a.drop ia ++ b.drop ib, κ.kle (kOf κ x) (kOf κ y)
theorem MI.swap {a b out : List Keyed} {ia ib : Nat} (h : MI κ a b out ia ib) : MI κ b a out ib ia :=
  ⟨h.hb, h.ha, h.perm.trans List.perm_append_comm, h.srt, fun x hx y hy => h.le x hx y (by rw [List.mem_append] at hy ⊢; exact hy.symm)⟩
theorem MI.len {a b out : List Keyed} {ia ib : Nat} (h : MI κ a b out ia ib) : out.length = ia + ib := by
  have := h.perm.length_eq
  rw [List.length_append, List.length_take, List.length_take] at this
  have := h.ha
  have := h.hb
  omega
theorem Srt.drop {l : List Keyed} {n : Nat} (h : Srt κ l) : Srt κ (l.drop n) := List.Pairwise.sublist (List.drop_sublist n l) h
theorem Srt.take {l : List Keyed} {n : Nat} (h : Srt κ l) : Srt κ (l.take n) := List.Pairwise.sublist (List.take_sublist n l) h
theorem MI.addA {a b out : List Keyed} {ia ib k : Nat} (h : MI κ a b out ia ib) (hk : ia + k ≤ a.length) (sa : Srt κ a) (hle : ∀ x ∈ (a.drop ia).take k, ∀ y ∈ b.drop ib, κ.kle (kOf κ x) (kOf κ y)) : MI κ a b (out ++ (a.drop ia).take k) (ia + k) ib := by
  have ed : a.drop ia = (a.drop ia).take k ++ a.drop (ia + k) := by
    conv => lhs; rw [← List.take_append_drop k (a.drop ia), List.drop_drop]
  have sd : Srt κ ((a.drop ia).take k ++ a.drop (ia + k)) := by rw [← ed]; exact sa.drop
  obtain ⟨s1, s2, s3⟩ := List.pairwise_append.mp sd
  refine ⟨hk, h.hb, ?_, List.pairwise_append.mpr ⟨h.srt, s1, fun x hx y hy => h.le x hx y (List.mem_append_left _ (List.mem_of_mem_take hy))⟩, fun x hx y hy => ?_⟩
  · rw [List.take_add]
    refine (h.perm.append_right _).trans ?_
    rw [List.append_assoc, List.append_assoc]
    exact List.Perm.append_left _ List.perm_append_comm
  · rcases List.mem_append.mp hx with hx | hx
    · refine h.le x hx y ?_
      rcases List.mem_append.mp hy with hy | hy
      · refine List.mem_append_left _ ?_
        rw [ed]
        exact List.mem_append_right _ hy
      · exact List.mem_append_right _ hy
    · rcases List.mem_append.mp hy with hy | hy
      · exact s3 x hx y hy
      · exact hle x hx y hy
structure Mg (κ : KeyKind) (a b m : List Keyed) : Prop where
  perm : m.Perm (a ++ b)
  srt : Srt κ m
theorem MI.fin {a b out r : List Keyed} {ia ib : Nat} (h : MI κ a b out ia ib) (hr : r.Perm (a.drop ia ++ b.drop ib)) (sr : Srt κ r) : Mg κ a b (out ++ r) := by
  refine ⟨?_, List.pairwise_append.mpr ⟨h.srt, sr, fun x hx y hy => h.le x hx y (hr.mem_iff.mp hy)⟩⟩
  refine ((h.perm.append_right _).trans ((List.Perm.append_left _ hr))).trans ?_
  conv => rhs; rw [← List.take_append_drop ia a, ← List.take_append_drop ib b]
  rw [List.append_assoc, List.append_assoc]
  refine List.Perm.append_left _ ?_
  rw [← List.append_assoc, ← List.append_assoc]
  exact List.Perm.append_right _ List.perm_append_comm
theorem ext_list (a : Array Keyed) (i j : Nat) : (a.extract i j).toList = (a.toList.drop i).take (j - i) := by
  simp [Array.toList_extract, List.extract_eq_drop_take]
theorem take_one {a : Array Keyed} {i : Nat} (h : i < a.size) : (a.toList.drop i).take 1 = [a[i]] := by
  rw [List.drop_eq_getElem_cons (by simpa using h)]
  simp
def LoOk (κ : KeyKind) (a b : Array Keyed) (m : Array Keyed) : Prop := Mg κ a.toList b.toList m.toList
theorem MI.done {a b out : Array Keyed} {ia ib : Nat} (h : MI κ a.toList b.toList out.toList ia ib) (sa : Srt κ a.toList) (sb : Srt κ b.toList) (he : ib = b.size ∨ ia = a.size) : LoOk κ a b (out ++ a.extract ia a.size ++ b.extract ib b.size) := by
  have e : (out ++ a.extract ia a.size ++ b.extract ib b.size).toList = out.toList ++ (a.toList.drop ia ++ b.toList.drop ib) := by
    rw [Array.toList_append, Array.toList_append, ext_list, ext_list, List.append_assoc, List.take_of_length_le (by simp), List.take_of_length_le (by simp)]
  show Mg κ _ _ _
  rw [e]
  refine h.fin (List.Perm.refl _) ?_
  rcases he with he | he
  · rw [show b.toList.drop ib = [] from List.drop_eq_nil_of_le (by simp [he]), List.append_nil]; exact sa.drop
  · rw [show a.toList.drop ia = [] from List.drop_eq_nil_of_le (by simp [he]), List.nil_append]; exact sb.drop
theorem MI.lastA {a b out : Array Keyed} {ia ib : Nat} (h : MI κ a.toList b.toList out.toList ia ib) (sb : Srt κ b.toList) (he : ia + 1 = a.size) (hz : ∀ y ∈ b.toList, ∀ z ∈ a.toList.drop ia, κ.kle (kOf κ y) (kOf κ z)) : LoOk κ a b (out ++ b.extract ib b.size ++ a.extract ia a.size) := by
  have e : (out ++ b.extract ib b.size ++ a.extract ia a.size).toList = out.toList ++ (b.toList.drop ib ++ a.toList.drop ia) := by
    rw [Array.toList_append, Array.toList_append, ext_list, ext_list, List.append_assoc, List.take_of_length_le (by simp), List.take_of_length_le (by simp)]
  show Mg κ _ _ _
  rw [e]
  refine h.fin List.perm_append_comm ?_
  refine List.pairwise_append.mpr ⟨sb.drop, ?_, fun x hx y hy => hz x (List.mem_of_mem_drop hx) y hy⟩
  have : (a.toList.drop ia).length = 1 := by rw [List.length_drop]; simp; omega
  match hl : a.toList.drop ia, this with
  | [z], _ => exact List.pairwise_singleton _ _
theorem MI.pushA {a b out : Array Keyed} {ia ib : Nat} (h : MI κ a.toList b.toList out.toList ia ib) (hi : ia < a.size) (sa : Srt κ a.toList) (hle : ∀ y ∈ b.toList.drop ib, κ.kle (kOf κ a[ia]) (kOf κ y)) : MI κ a.toList b.toList (out.push a[ia]).toList (ia + 1) ib := by
  have := h.addA (k := 1) (by rw [Array.length_toList]; omega) sa (by rw [take_one hi]; intro x hx; rw [List.mem_singleton.mp hx]; exact hle)
  rw [take_one hi] at this
  simpa using this
theorem MI.pushB {a b out : Array Keyed} {ia ib : Nat} (h : MI κ a.toList b.toList out.toList ia ib) (hi : ib < b.size) (sb : Srt κ b.toList) (hle : ∀ y ∈ a.toList.drop ia, κ.kle (kOf κ b[ib]) (kOf κ y)) : MI κ a.toList b.toList (out.push b[ib]).toList ia (ib + 1) :=
  (h.swap.pushA hi sb hle).swap
theorem MI.extA {a b out : Array Keyed} {ia ib k : Nat} (h : MI κ a.toList b.toList out.toList ia ib) (hk : ia + k ≤ a.size) (sa : Srt κ a.toList) (hle : ∀ x ∈ (a.toList.drop ia).take k, ∀ y ∈ b.toList.drop ib, κ.kle (kOf κ x) (kOf κ y)) : MI κ a.toList b.toList (out ++ a.extract ia (ia + k)).toList (ia + k) ib := by
  have := h.addA (k := k) (by simpa using hk) sa hle
  rw [Array.toList_append, ext_list, Nat.add_sub_cancel_left]
  exact this
theorem MI.extB {a b out : Array Keyed} {ia ib k : Nat} (h : MI κ a.toList b.toList out.toList ia ib) (hk : ib + k ≤ b.size) (sb : Srt κ b.toList) (hle : ∀ x ∈ (b.toList.drop ib).take k, ∀ y ∈ a.toList.drop ia, κ.kle (kOf κ x) (kOf κ y)) : MI κ a.toList b.toList (out ++ b.extract ib (ib + k)).toList ia (ib + k) :=
  (h.swap.extA hk sb hle).swap
theorem Srt.at {a : Array Keyed} (h : Srt κ a.toList) {i j : Nat} (hij : i ≤ j) (hj : j < a.size) : κ.kle (kOf κ (a[i]'(by omega))) (kOf κ a[j]) := by
  by_cases e : i = j
  · subst e; exact KeyOrd.kle_refl _
  · have := List.pairwise_iff_getElem.mp h i j (by simp; omega) (by simpa using hj) (by omega)
    simpa using this
theorem mem_drop {a : Array Keyed} {i : Nat} {y : Keyed} (h : y ∈ a.toList.drop i) : ∃ j, ∃ hj : j < a.size, i ≤ j ∧ y = a[j] := by
  obtain ⟨k, hk, e⟩ := List.getElem_of_mem h
  rw [List.length_drop] at hk
  refine ⟨i + k, by simpa using (by omega : i + k < a.toList.length), by omega, ?_⟩
  rw [← e]
  simp
theorem mem_cut {a : Array Keyed} {i k : Nat} {y : Keyed} (h : y ∈ (a.toList.drop i).take k) : ∃ j, ∃ hj : j < a.size, i ≤ j ∧ j < i + k ∧ y = a[j] := by
  obtain ⟨m, hm, e⟩ := List.getElem_of_mem h
  rw [List.length_take, List.length_drop] at hm
  refine ⟨i + m, by simpa using (by omega : i + m < a.toList.length), by omega, by omega, ?_⟩
  rw [← e]
  simp
end
end L2
set_option Elab.async false
set_option linter.all false
set_option maxRecDepth 100000
set_option maxHeartbeats 4000000
namespace L2
open PySem PySem.Spec PyProof.Rows
section
variable {prog : Program} {w : World} {A : Around} {E : Value → Shared → Prop} {s : Shared} {κ : KeyKind}
abbrev setG (st : SortSt) (g : Nat) : SortSt := SortSt.mk' (kindOf st) (arrOf st) (pendingOf st) g (failedOf st)
theorem MI.nil (a b : List Keyed) : MI κ a b [] 0 0 := ⟨Nat.zero_le _, Nat.zero_le _, by simp, List.Pairwise.nil, fun x hx => by cases hx⟩
theorem wpS_setMG {st : SortSt} {g : Nat} {Q : Unit → SortSt → Prop} (h : Q () (setG st g)) : wpS (model prog w) A E s (setMG g) Q st := by
  rw [setMG_eq]
  exact wpS_modify h
theorem bynd_at {left : Bool} {key : Keyed} {arr : Array Keyed} {base i : Nat} (h : base + i < arr.size) : bynd κ left key arr base i = if left then κ.blt (kOf κ arr[base + i]) (kOf κ key) else !κ.blt (kOf κ key) (kOf κ arr[base + i]) := by
  unfold bynd
  rw [getElem?_pos arr _ h]
theorem bynd_mono {left : Bool} {key : Keyed} {arr : Array Keyed} {base n : Nat} (hn : base + n ≤ arr.size) (sa : Srt κ arr.toList) : ∀ i j, i ≤ j → j < n → bynd κ left key arr base j = true → bynd κ left key arr base i = true := fun i j hij hj e => by
  rw [bynd_at (by omega)] at e ⊢
  have hle := sa.at (i := base + i) (j := base + j) (by omega) (by omega)
  cases left with
  | true => exact KeyOrd.klt_of_kle_of_klt hle e
  | false =>
    simp only [Bool.false_eq_true, if_false, Bool.not_eq_true'] at e ⊢
    exact KeyOrd.kle_trans hle e
abbrev LT := Option (Array Keyed) × Array Keyed × Nat × Nat × Nat × Nat × Nat
abbrev LU := Option (Array Keyed) × Array Keyed × Nat × Nat × Nat × Nat
abbrev LV := Option (Array Keyed) × Array Keyed × Nat × Nat × Nat
def loC (a b out : Array Keyed) (ia ib mg ac bc : Nat) : StateT SortSt Sem (ForInStep LT) := do
  let x ← elem' a ia
  if (ia + 1 + 1 == a.size) = true then pure (.done (some (out.push x ++ b.extract ib b.size ++ a.extract (ia + 1) a.size), out.push x, ia + 1, ib, mg, ac, bc))
  else if (decide (ac < 7) && decide (bc < 7)) = true then pure (.done (none, out.push x, ia + 1, ib, mg, ac, bc))
  else pure (.yield (none, out.push x, ia + 1, ib, mg, ac, bc))
def loB (a b out : Array Keyed) (ia ib mg ac bc : Nat) : StateT SortSt Sem (ForInStep LT) := do
  let x ← elem' b ib
  if (ib + 1 == b.size) = true then pure (.done (some (out.push x ++ a.extract ia a.size ++ b.extract (ib + 1) b.size), out.push x, ia, ib + 1, mg, ac, bc))
  else do
    let y ← elem' a ia
    let r ← gallop' true y b (ib + 1) (b.size - (ib + 1)) 0
    match r with
    | some k =>
      if k > 0 then
        if (ib + 1 + k == b.size) = true then pure (.done (some (out.push x ++ b.extract (ib + 1) (ib + 1 + k) ++ a.extract ia a.size ++ b.extract (ib + 1 + k) b.size), out.push x ++ b.extract (ib + 1) (ib + 1 + k), ia, ib + 1 + k, mg, ac, k))
        else loC a b (out.push x ++ b.extract (ib + 1) (ib + 1 + k)) ia (ib + 1 + k) mg ac k
      else loC a b (out.push x) ia (ib + 1) mg ac k
    | _ => pure (.done (some (out.push x ++ a.extract ia a.size ++ b.extract (ib + 1) b.size), out.push x, ia, ib + 1, mg, ac, bc))
def loA (a b out : Array Keyed) (ia ib mg ac bc : Nat) : StateT SortSt Sem (ForInStep LT) := do
  setMG mg
  let x ← elem' b ib
  let r ← gallop' false x a ia (a.size - ia) 0
  match r with
  | some k =>
    if k > 0 then
      if (ia + k + 1 == a.size) = true then pure (.done (some (out ++ a.extract ia (ia + k) ++ b.extract ib b.size ++ a.extract (ia + k) a.size), out ++ a.extract ia (ia + k), ia + k, ib, mg, k, bc))
      else if (ia + k == a.size) = true then pure (.done (some (out ++ a.extract ia (ia + k) ++ a.extract (ia + k) a.size ++ b.extract ib b.size), out ++ a.extract ia (ia + k), ia + k, ib, mg, k, bc))
      else loB a b (out ++ a.extract ia (ia + k)) (ia + k) ib mg k bc
    else loB a b out ia ib mg k bc
  | _ => pure (.done (some (out ++ a.extract ia a.size ++ b.extract ib b.size), out, ia, ib, mg, ac, bc))
def lo1 (a b : Array Keyed) (mg : Nat) (out : Array Keyed) (ia ib ac bc : Nat) : StateT SortSt Sem (ForInStep LU) := do
  let x ← elem' b ib
  let y ← elem' a ia
  let r ← lt' x y
  match r with
  | some w =>
    if w = true then do
      let x ← elem' b ib
      if (ib + 1 == b.size) = true then pure (.done (some (out.push x ++ a.extract ia a.size ++ b.extract (ib + 1) b.size), out.push x, ia, ib + 1, 0, bc + 1))
      else if bc + 1 ≥ mg then pure (.done (none, out.push x, ia, ib + 1, 0, bc + 1)) else pure (.yield (none, out.push x, ia, ib + 1, 0, bc + 1))
    else do
      let y ← elem' a ia
      if (ia + 1 + 1 == a.size) = true then pure (.done (some (out.push y ++ b.extract ib b.size ++ a.extract (ia + 1) a.size), out.push y, ia + 1, ib, ac + 1, 0))
      else if ac + 1 ≥ mg then pure (.done (none, out.push y, ia + 1, ib, ac + 1, 0)) else pure (.yield (none, out.push y, ia + 1, ib, ac + 1, 0))
  | _ => pure (.done (some (out ++ a.extract ia a.size ++ b.extract ib b.size), out, ia, ib, ac, bc))
def loO (a b out : Array Keyed) (ia ib mg : Nat) : StateT SortSt Sem (ForInStep LV) := do
  let t ← forIn [:a.size + b.size] ((none, out, ia, ib, 0, 0) : LU) fun _ t => lo1 a b mg t.2.1 t.2.2.1 t.2.2.2.1 t.2.2.2.2.1 t.2.2.2.2.2
  match t.1 with
  | some r => pure (.done (some r, t.2.1, t.2.2.1, t.2.2.2.1, mg))
  | none => do
    liftM (rule "list.sort.gallop")
    let t ← forIn [:a.size + b.size] ((none, t.2.1, t.2.2.1, t.2.2.2.1, mg + 1, t.2.2.2.2.1, t.2.2.2.2.2) : LT) fun _ t =>
      if t.2.2.2.2.1 > 1 then loA a b t.2.1 t.2.2.1 t.2.2.2.1 (t.2.2.2.2.1 - 1) t.2.2.2.2.2.1 t.2.2.2.2.2.2 else loA a b t.2.1 t.2.2.1 t.2.2.2.1 t.2.2.2.2.1 t.2.2.2.2.2.1 t.2.2.2.2.2.2
    match t.1 with
    | some r => pure (.done (some r, t.2.1, t.2.2.1, t.2.2.2.1, t.2.2.2.2.1))
    | none => do
      setMG (t.2.2.2.2.1 + 1)
      pure (.yield (none, t.2.1, t.2.2.1, t.2.2.2.1, t.2.2.2.2.1 + 1))
theorem mergeLo'_lo (a b : Array Keyed) : mergeLo' a b = (do
  liftM (rule "list.sort.merge-lo")
  let x ← elem' b 0
  if (1 == b.size) = true then pure (#[x] ++ a.extract 0 a.size ++ b.extract 1 b.size)
  else if (0 + 1 == a.size) = true then pure (#[x] ++ b.extract 1 b.size ++ a.extract 0 a.size)
  else do
    let st ← get
    let t ← forIn [:a.size + b.size] ((none, #[x], 0, 1, gallopOf st) : LV) fun _ t => loO a b t.2.1 t.2.2.1 t.2.2.2.1 t.2.2.2.2
    match t.1 with
    | some r => pure r
    | none => unsupported "internal:list.sort.merge-bound") := by
  rw [mergeLo'_eq]
  dsimp only
  congr 1
  funext _
  congr 1
  funext x
  congr 1
  congr 1
  congr 1
  funext st
  congr 1
  · congr 1
    funext _ t
    unfold loO
    congr 1
    funext t1
    obtain ⟨r1, out1, ia1, ib1, ac1, bc1⟩ := t1
    cases r1 with
    | some r => rfl
    | none =>
      dsimp only
      congr 1
      funext _
      congr 1
      funext t2
      obtain ⟨r2, _⟩ := t2
      cases r2 <;> rfl
  · funext t
    obtain ⟨r1, _⟩ := t
    cases r1 <;> rfl
structure LoH (κ : KeyKind) (a b : Array Keyed) : Prop where
  o : κ.OneLt
  ka : ∀ x ∈ a, Kd κ x
  kb : ∀ x ∈ b, Kd κ x
  sa : Srt κ a.toList
  sb : Srt κ b.toList
  z : ∀ y ∈ b.toList, ∀ z ∈ a.toList.drop (a.size - 1), κ.kle (kOf κ y) (kOf κ z)
theorem LoH.lst {a b out : Array Keyed} {ia ib : Nat} (h : LoH κ a b) (m : MI κ a.toList b.toList out.toList ia ib) (e : ia + 1 = a.size) : LoOk κ a b (out ++ b.extract ib b.size ++ a.extract ia a.size) := m.lastA h.sb e (by rw [show ia = a.size - 1 by omega]; exact h.z)
theorem headLe {a : Array Keyed} {i : Nat} {x : Keyed} (sa : Srt κ a.toList) (hi : i < a.size) (h : κ.kle (kOf κ x) (kOf κ a[i])) : ∀ y ∈ a.toList.drop i, κ.kle (kOf κ x) (kOf κ y) := fun y hy => by
  obtain ⟨j, hj, hij, rfl⟩ := mem_drop hy
  exact KeyOrd.kle_trans h (sa.at hij hj)
structure LI (κ : KeyKind) (a b out : Array Keyed) (ia ib : Nat) : Prop where
  m : MI κ a.toList b.toList out.toList ia ib
  ia : ia + 1 < a.size
  ib : ib < b.size
def PTo (κ : KeyKind) (a b : Array Keyed) (n : Nat) (c : LT) : Prop := match c with
  | (some m, _) => LoOk κ a b m
  | (none, out, ia, ib, _) => LI κ a b out ia ib ∧ n ≤ ia + ib
def QT (κ : KeyKind) (a b : Array Keyed) (n : Nat) (r : ForInStep LT) : Prop := match r with
  | .done c => PTo κ a b n c
  | .yield c => c.1 = none ∧ PTo κ a b n c
theorem wpS_loC {st : SortSt} {a b out : Array Keyed} {ia ib mg ac bc n : Nat} (H : LoH κ a b) (L : LI κ a b out ia ib) (hle : ∀ y ∈ b.toList.drop ib, κ.kle (kOf κ (a[ia]'(by have := L.ia; omega))) (kOf κ y)) (hn : n ≤ ia + ib) : wpS (model prog w) A E s (loC a b out ia ib mg ac bc) (fun r st' => st' = st ∧ QT κ a b n r) st := by
  unfold loC
  have hia := L.ia
  refine wpS_bind (wpS_elem (by omega) ?_)
  have m1 := L.m.pushA (by omega) H.sa hle
  by_cases e : ia + 1 + 1 = a.size
  · rw [if_pos (by simpa using e)]
    exact wpS_pure ⟨rfl, H.lst m1 e⟩
  · rw [if_neg (by simpa using e)]
    have L1 : LI κ a b (out.push a[ia]) (ia + 1) ib := ⟨m1, by omega, L.ib⟩
    split
    · exact wpS_pure ⟨rfl, L1, by omega⟩
    · exact wpS_pure ⟨rfl, rfl, L1, by omega⟩
theorem wpS_loB {st : SortSt} {a b out : Array Keyed} {ia ib mg ac bc n : Nat} (H : LoH κ a b) (hk : kindOf st = oneType') (L : LI κ a b out ia ib) (hle : ∀ y ∈ a.toList.drop ia, κ.kle (kOf κ (b[ib]'L.ib)) (kOf κ y)) (hn : n ≤ ia + ib) : wpS (model prog w) A E s (loB a b out ia ib mg ac bc) (fun r st' => st' = st ∧ QT κ a b n r) st := by
  unfold loB
  have hia := L.ia
  have hib := L.ib
  refine wpS_bind (wpS_elem L.ib ?_)
  have m1 := L.m.pushB L.ib H.sb hle
  by_cases e : ib + 1 = b.size
  · rw [if_pos (by simpa using e)]
    exact wpS_pure ⟨rfl, m1.done H.sa H.sb (.inl e)⟩
  rw [if_neg (by simpa using e)]
  refine wpS_bind (wpS_elem (by omega) (wpS_bind (wpS_gallop H.o hk (H.ka _ (Array.getElem_mem _)) H.kb (by omega) (by omega) (bynd_mono (by omega) H.sb) fun k hk1 h1 h2 => ?_)))
  have hlt : ∀ j (hj : j < b.size), ib + 1 ≤ j → j < ib + 1 + k → κ.kle (kOf κ b[j]) (kOf κ (a[ia]'(by omega))) := fun j hj q1 q2 => by
    have := h1 (j - (ib + 1)) (by omega)
    rw [bynd_at (by omega)] at this
    simp only [if_true] at this
    have e' : ib + 1 + (j - (ib + 1)) = j := by omega
    simp only [e'] at this
    exact KeyOrd.kle_of_klt this
  have hge : ∀ hj : ib + 1 + k < b.size, κ.kle (kOf κ (a[ia]'(by omega))) (kOf κ b[ib + 1 + k]) := fun hj => by
    have := h2 k (Nat.le_refl _) (by omega)
    rw [bynd_at (by omega)] at this
    show κ.blt _ _ = false
    simpa using this
  have m2 := m1.extB (k := k) (by omega) H.sb (fun x hx y hy => by
    obtain ⟨j, hj, q1, q2, rfl⟩ := mem_cut hx
    obtain ⟨i, hi, q3, rfl⟩ := mem_drop hy
    exact KeyOrd.kle_trans (hlt j hj q1 q2) (H.sa.at q3 hi))
  dsimp only
  by_cases hk0 : k > 0
  · rw [if_pos hk0]
    by_cases e2 : ib + 1 + k = b.size
    · rw [if_pos (by simpa using e2)]
      exact wpS_pure ⟨rfl, m2.done H.sa H.sb (.inl e2)⟩
    · rw [if_neg (by simpa using e2)]
      exact wpS_loC H ⟨m2, hia, by omega⟩ (headLe H.sb (by omega) (hge (by omega))) (by omega)
  · rw [if_neg hk0]
    have k0 : k = 0 := by omega
    subst k0
    exact wpS_loC H ⟨m1, hia, by omega⟩ (headLe H.sb (by omega) (hge (by omega))) (by omega)
theorem wpS_loA {st : SortSt} {a b out : Array Keyed} {ia ib mg ac bc n : Nat} (H : LoH κ a b) (hk : kindOf st = oneType') (L : LI κ a b out ia ib) (hn : n ≤ ia + ib) : wpS (model prog w) A E s (loA a b out ia ib mg ac bc) (fun r st' => st' = setG st mg ∧ QT κ a b n r) st := by
  unfold loA
  have hia := L.ia
  have hib := L.ib
  refine wpS_bind (wpS_setMG (wpS_bind (wpS_elem L.ib (wpS_bind (wpS_gallop (st := setG st mg) H.o hk (H.kb _ (Array.getElem_mem _)) H.ka (by omega) (by omega) (bynd_mono (by omega) H.sa) fun k hk1 h1 h2 => ?_)))))
  have hle : ∀ j (hj : j < a.size), ia ≤ j → j < ia + k → κ.kle (kOf κ a[j]) (kOf κ (b[ib]'L.ib)) := fun j hj q1 q2 => by
    have := h1 (j - ia) (by omega)
    rw [bynd_at (by omega)] at this
    have e' : ia + (j - ia) = j := by omega
    simp only [Bool.false_eq_true, if_false, Bool.not_eq_true', e'] at this
    exact this
  have hgt : ∀ hj : ia + k < a.size, κ.kle (kOf κ (b[ib]'L.ib)) (kOf κ a[ia + k]) := fun hj => by
    have := h2 k (Nat.le_refl _) (by omega)
    rw [bynd_at (by omega)] at this
    simp only [Bool.false_eq_true, if_false, Bool.not_eq_false'] at this
    exact KeyOrd.kle_of_klt this
  have m2 := L.m.extA (k := k) (by omega) H.sa (fun x hx y hy => by
    obtain ⟨j, hj, q1, q2, rfl⟩ := mem_cut hx
    obtain ⟨i, hi, q3, rfl⟩ := mem_drop hy
    exact KeyOrd.kle_trans (hle j hj q1 q2) (H.sb.at q3 hi))
  dsimp only
  by_cases hk0 : k > 0
  · rw [if_pos hk0]
    by_cases e2 : ia + k + 1 = a.size
    · rw [if_pos (by simpa using e2)]
      exact wpS_pure ⟨rfl, H.lst m2 e2⟩
    rw [if_neg (by simpa using e2)]
    by_cases e3 : ia + k = a.size
    · rw [if_pos (by simpa using e3)]
      exact wpS_pure ⟨rfl, m2.done H.sa H.sb (.inr e3)⟩
    rw [if_neg (by simpa using e3)]
    exact wpS_loB (st := setG st mg) H hk ⟨m2, by omega, hib⟩ (headLe H.sa (by omega) (hgt (by omega))) (by omega)
  · rw [if_neg hk0]
    have k0 : k = 0 := by omega
    subst k0
    exact wpS_loB (st := setG st mg) H hk L (headLe H.sa (by omega) (hgt (by omega))) hn
def PU (κ : KeyKind) (a b : Array Keyed) (n : Nat) (c : LU) : Prop := match c with
  | (some m, _) => LoOk κ a b m
  | (none, out, ia, ib, _) => LI κ a b out ia ib ∧ n ≤ ia + ib
theorem wpS_lo1 {st : SortSt} {a b out : Array Keyed} {mg ia ib ac bc n : Nat} (H : LoH κ a b) (hk : kindOf st = oneType') (L : LI κ a b out ia ib) (hn : n ≤ ia + ib) : wpS (model prog w) A E s (lo1 a b mg out ia ib ac bc) (fun r st' => st' = st ∧ match r with
    | .done c => PU κ a b (n + 1) c
    | .yield c => c.1 = none ∧ PU κ a b (n + 1) c) st := by
  unfold lo1
  have hia := L.ia
  have hib := L.ib
  refine wpS_bind (wpS_elem L.ib (wpS_bind (wpS_elem (by omega) (wpS_bind (wpS_lt2 H.o hk (H.kb _ (Array.getElem_mem _)) (H.ka _ (Array.getElem_mem _)) ?_)))))
  cases hw : κ.blt (kOf κ (b[ib]'L.ib)) (kOf κ (a[ia]'(by omega))) with
  | true =>
    dsimp only
    rw [if_pos rfl]
    refine wpS_bind (wpS_elem L.ib ?_)
    have m1 := L.m.pushB L.ib H.sb (headLe H.sa (by omega) (KeyOrd.kle_of_klt hw))
    by_cases e : ib + 1 = b.size
    · rw [if_pos (by simpa using e)]
      exact wpS_pure ⟨rfl, m1.done H.sa H.sb (.inl e)⟩
    · rw [if_neg (by simpa using e)]
      have L1 : LI κ a b (out.push (b[ib]'L.ib)) ia (ib + 1) := ⟨m1, hia, by omega⟩
      split
      · exact wpS_pure ⟨rfl, L1, by omega⟩
      · exact wpS_pure ⟨rfl, rfl, L1, by omega⟩
  | false =>
    dsimp only
    rw [if_neg (by decide)]
    refine wpS_bind (wpS_elem (by omega) ?_)
    have m1 := L.m.pushA (by omega) H.sa (headLe H.sb L.ib (show κ.kle _ _ from hw))
    by_cases e : ia + 1 + 1 = a.size
    · rw [if_pos (by simpa using e)]
      exact wpS_pure ⟨rfl, H.lst m1 e⟩
    · rw [if_neg (by simpa using e)]
      have L1 : LI κ a b (out.push a[ia]) (ia + 1) ib := ⟨m1, by omega, hib⟩
      split
      · exact wpS_pure ⟨rfl, L1, by omega⟩
      · exact wpS_pure ⟨rfl, rfl, L1, by omega⟩
theorem wpS_loO {st : SortSt} {a b out : Array Keyed} {ia ib mg n : Nat} (H : LoH κ a b) (hk : kindOf st = oneType') (L : LI κ a b out ia ib) (hn : n ≤ ia + ib) : wpS (model prog w) A E s (loO a b out ia ib mg) (fun r st' => (∃ g, st' = setG st g) ∧ match r with
    | .done c => ∃ m t, c = (some m, t) ∧ LoOk κ a b m
    | .yield c => ∃ out ia ib mg, c = (none, out, ia, ib, mg) ∧ LI κ a b out ia ib ∧ n + 1 ≤ ia + ib) st := by
  unfold loO
  refine wpS_bind (wpS_mono (wpS_forRange (I := fun x c st' => st' = st ∧ c.1 = none ∧ PU κ a b (n + x) c) (Q := fun c st' => st' = st ∧ PU κ a b (n + 1) c) ?step ?fin ⟨rfl, rfl, L, by omega⟩) ?post)
  case step =>
    rintro x ⟨r, out, ia, ib, ac, bc⟩ st' _ hx ⟨rfl, hr, hP⟩
    cases (show r = none from hr)
    obtain ⟨L, hn'⟩ : LI κ a b out ia ib ∧ n + x ≤ ia + ib := hP
    refine wpS_mono (wpS_lo1 H hk L hn') fun r st'' hq => ?_
    obtain ⟨rfl, hq⟩ := hq
    cases r with
    | done c =>
      refine ⟨rfl, ?_⟩
      obtain ⟨r, out2, ia2, ib2, c3⟩ := c
      cases r with
      | some m => exact hq
      | none =>
        obtain ⟨q1, q2⟩ : LI κ a b out2 ia2 ib2 ∧ n + x + 1 ≤ ia2 + ib2 := hq
        exact ⟨q1, by omega⟩
    | yield c => exact ⟨rfl, hq.1, hq.2⟩
  case fin =>
    rintro ⟨r, out, ia, ib, ac, bc⟩ st' ⟨rfl, hr, hP⟩
    cases (show r = none from hr)
    obtain ⟨L, hn'⟩ : LI κ a b out ia ib ∧ n + max 0 (a.size + b.size) ≤ ia + ib := hP
    have := L.ia
    have := L.ib
    omega
  case post =>
    rintro ⟨r, out, ia, ib, ac, bc⟩ st' ⟨rfl, hP⟩
    cases r with
    | some m => exact wpS_pure ⟨⟨gallopOf st', rfl⟩, m, _, rfl, hP⟩
    | none =>
      obtain ⟨L, hn'⟩ : LI κ a b out ia ib ∧ n + 1 ≤ ia + ib := hP
      refine wpS_bind (wpS_lift (wpAny_rule ⟨rfl, ?_⟩))
      dsimp only
      refine wpS_bind (wpS_mono (wpS_forRange (I := fun x c st'' => (∃ g, st'' = setG st' g) ∧ c.1 = none ∧ PTo κ a b (n + 1) c) (Q := fun c st'' => (∃ g, st'' = setG st' g) ∧ PTo κ a b (n + 1) c) ?step2 ?fin2 ⟨⟨gallopOf st', rfl⟩, rfl, L, hn'⟩) ?post2)
      case step2 =>
        rintro x ⟨r, out, ia, ib, mg, ac, bc⟩ st'' _ hx ⟨⟨g, rfl⟩, hr, hP⟩
        cases (show r = none from hr)
        obtain ⟨L, hn'⟩ : LI κ a b out ia ib ∧ n + 1 ≤ ia + ib := hP
        have go : ∀ mg', wpS (model prog w) A E s (loA a b out ia ib mg' ac bc) (fun r st3 => match r with | .done c' => (∃ g, st3 = setG st' g) ∧ PTo κ a b (n + 1) c' | .yield c' => (∃ g, st3 = setG st' g) ∧ c'.1 = none ∧ PTo κ a b (n + 1) c') (setG st' g) := fun mg' => by
          refine wpS_mono (wpS_loA (st := setG st' g) H hk L hn') fun r st3 hq => ?_
          obtain ⟨rfl, hq⟩ := hq
          cases r with
          | done c => exact ⟨⟨mg', rfl⟩, hq⟩
          | yield c => exact ⟨⟨mg', rfl⟩, hq.1, hq.2⟩
        dsimp only
        split
        · exact wpS_mono (go _) fun r st3 h => by cases r <;> exact h
        · exact wpS_mono (go _) fun r st3 h => by cases r <;> exact h
      case fin2 =>
        rintro c st'' ⟨h1, _, h2⟩
        exact ⟨h1, h2⟩
      case post2 =>
        rintro ⟨r, out, ia, ib, mg, ac, bc⟩ st'' ⟨⟨g, rfl⟩, hP⟩
        cases r with
        | some m => exact wpS_pure ⟨⟨g, rfl⟩, m, _, rfl, hP⟩
        | none =>
          obtain ⟨L, hn'⟩ : LI κ a b out ia ib ∧ n + 1 ≤ ia + ib := hP
          exact wpS_bind (wpS_setMG (wpS_pure ⟨⟨_, rfl⟩, out, ia, ib, _, rfl, L, hn'⟩))
theorem wpS_mergeLo {st : SortSt} {a b : Array Keyed} {Q : Array Keyed → SortSt → Prop} (H : LoH κ a b) (hk : kindOf st = oneType') (h1a : 0 < a.size) (h1b : 0 < b.size)
    (h0 : ∀ y ∈ a.toList, κ.kle (kOf κ b[0]) (kOf κ y)) (h : ∀ m g, LoOk κ a b m → Q m (setG st g)) : wpS (model prog w) A E s (mergeLo' a b) Q st := by
  rw [mergeLo'_lo]
  refine wpS_bind (wpS_lift (wpAny_rule ⟨rfl, ?_⟩))
  refine wpS_bind (wpS_elem h1b ?_)
  have m0 : MI κ a.toList b.toList #[b[0]].toList 0 1 := by
    have := MI.pushB (out := #[]) (MI.nil (κ := κ) a.toList b.toList) h1b H.sb (by simpa using h0)
    simpa using this
  by_cases e1 : 1 = b.size
  · rw [if_pos (by simpa using e1)]
    exact wpS_pure (h _ (gallopOf st) (m0.done H.sa H.sb (.inl e1)))
  rw [if_neg (by simpa using e1)]
  by_cases e2 : 0 + 1 = a.size
  · rw [if_pos (by simpa using e2)]
    exact wpS_pure (h _ (gallopOf st) (H.lst m0 e2))
  rw [if_neg (by simpa using e2)]
  refine wpS_bind (wpS_get ?_)
  refine wpS_bind (wpS_mono (wpS_forRange (I := fun x c st' => (∃ g, st' = setG st g) ∧ ∃ out ia ib mg, c = (none, out, ia, ib, mg) ∧ LI κ a b out ia ib ∧ x + 1 ≤ ia + ib) (Q := fun c st' => (∃ g, st' = setG st g) ∧ ∃ m t, c = (some m, t) ∧ LoOk κ a b m) ?step ?fin ⟨⟨gallopOf st, rfl⟩, _, 0, 1, _, rfl, ⟨m0, by omega, by omega⟩, by omega⟩) ?post)
  case step =>
    rintro x c st' _ hx ⟨⟨g, rfl⟩, out, ia, ib, mg, rfl, L, hn⟩
    refine wpS_mono (wpS_loO (st := setG st g) H hk L hn) fun r st'' hq => ?_
    obtain ⟨⟨g', rfl⟩, hq⟩ := hq
    cases r with
    | done c => exact ⟨⟨g', rfl⟩, hq⟩
    | yield c => exact ⟨⟨g', rfl⟩, hq⟩
  case fin =>
    rintro c st' ⟨_, out, ia, ib, mg, rfl, L, hn⟩
    have := L.ia
    have := L.ib
    omega
  case post =>
    rintro c st' ⟨⟨g, rfl⟩, m, t, rfl, hm⟩
    exact wpS_pure (h m g hm)
end
end L2
set_option Elab.async false
set_option linter.all false
set_option maxRecDepth 100000
set_option maxHeartbeats 4000000
namespace L2
open PySem PySem.Spec PyProof.Rows
section
variable {prog : Program} {w : World} {A : Around} {E : Value → Shared → Prop} {s : Shared} {κ : KeyKind}
def mergeHi' : Array Keyed → Array Keyed → StateT SortSt Sem (Array Keyed) := sortPriv% PySem.Builtin.mergeHi
theorem mergeHi'_eq (a b : Array Keyed) : mergeHi' a b = (do
  rule "list.sort.merge-hi"
  let total := a.size + b.size
  let done (out : Array Keyed) (na nb : Nat) := a.extract 0 na ++ b.extract 0 nb ++ out.reverse
  let firstOfB (out : Array Keyed) (na nb : Nat) := b.extract 0 nb ++ a.extract 0 na ++ out.reverse
  let mut na := a.size - 1
  let mut nb := b.size
  let mut out : Array Keyed := #[← elem' a na]
  if na == 0 then return done out na nb
  if nb == 1 then return firstOfB out na nb
  let mut minGallop := gallopOf (← get)
  for _ in [0:total] do
    let mut acount := 0
    let mut bcount := 0
    for _ in [0:total] do
      let some aWins ← lt' (← elem' b (nb - 1)) (← elem' a (na - 1)) | return done out na nb
      if aWins then
        na := na - 1; out := out.push (← elem' a na); acount := acount + 1; bcount := 0
        if na == 0 then return done out na nb
        if acount ≥ minGallop then break
      else
        nb := nb - 1; out := out.push (← elem' b nb); bcount := bcount + 1; acount := 0
        if nb == 1 then return firstOfB out na nb
        if bcount ≥ minGallop then break
    rule "list.sort.gallop"
    minGallop := minGallop + 1
    for _ in [0:total] do
      if minGallop > 1 then minGallop := minGallop - 1
      setMG minGallop
      let some at_ ← gallop' false (← elem' b (nb - 1)) a 0 na (na - 1) | return done out na nb
      let k := na - at_
      acount := k
      if k > 0 then
        out := out ++ (a.extract at_ na).reverse; na := at_
        if na == 0 then return done out na nb
      nb := nb - 1; out := out.push (← elem' b nb)
      if nb == 1 then return firstOfB out na nb
      let some at_ ← gallop' true (← elem' a (na - 1)) b 0 nb (nb - 1) | return done out na nb
      let k := nb - at_
      bcount := k
      if k > 0 then
        out := out ++ (b.extract at_ nb).reverse; nb := at_
        if nb == 1 then return firstOfB out na nb
        if nb == 0 then return done out na nb
      na := na - 1; out := out.push (← elem' a na)
      if na == 0 then return done out na nb
      if acount < 7 && bcount < 7 then break
    minGallop := minGallop + 1
    setMG minGallop
  unsupported "internal:list.sort.merge-bound") := rfl
structure MH (κ : KeyKind) (a b O : List Keyed) (na nb : Nat) : Prop where
  ha : na ≤ a.length
  hb : nb ≤ b.length
  perm : O.Perm (a.drop na ++ b.drop nb)
  srt : Srt κ O
  le : ∀ x ∈ a.take na ++ b.take nb, ∀ y ∈ O, κ.kle (kOf κ x) (kOf κ y)
theorem MH.swap {a b O : List Keyed} {na nb : Nat} (h : MH κ a b O na nb) : MH κ b a O nb na :=
  ⟨h.hb, h.ha, h.perm.trans List.perm_append_comm, h.srt, fun x hx y hy => h.le x (by rw [List.mem_append] at hx ⊢; exact hx.symm) y hy⟩
theorem MH.len {a b O : List Keyed} {na nb : Nat} (h : MH κ a b O na nb) : O.length = (a.length - na) + (b.length - nb) := by
  have := h.perm.length_eq
  rw [List.length_append, List.length_drop, List.length_drop] at this
  omega
theorem MH.addA {a b O : List Keyed} {na nb m : Nat} (h : MH κ a b O na nb) (hm : m ≤ na) (sa : Srt κ a) (hle : ∀ x ∈ b.take nb, ∀ y ∈ (a.take na).drop m, κ.kle (kOf κ x) (kOf κ y)) : MH κ a b ((a.take na).drop m ++ O) m nb := by
  have hna := h.ha
  have ed : a.drop m = (a.take na).drop m ++ a.drop na := by
    conv => lhs; rw [← List.take_append_drop na a]
    rw [List.drop_append_of_le_length (by rw [List.length_take]; omega)]
  have et : a.take na = a.take m ++ (a.take na).drop m := by
    conv => lhs; rw [← List.take_append_drop m (a.take na)]
    rw [List.take_take, Nat.min_eq_left hm]
  have st : Srt κ (a.take m ++ (a.take na).drop m) := by rw [← et]; exact sa.take
  obtain ⟨s1, s2, s3⟩ := List.pairwise_append.mp st
  refine ⟨by omega, h.hb, ?_, List.pairwise_append.mpr ⟨s2, h.srt, fun x hx y hy => h.le x (List.mem_append_left _ (List.mem_of_mem_drop hx)) y hy⟩, fun x hx y hy => ?_⟩
  · rw [ed, List.append_assoc]
    exact List.Perm.append_left _ h.perm
  · rcases List.mem_append.mp hy with hy | hy
    · rcases List.mem_append.mp hx with hx | hx
      · exact s3 x hx y hy
      · exact hle x hx y hy
    · refine h.le x ?_ y hy
      rcases List.mem_append.mp hx with hx | hx
      · refine List.mem_append_left _ ?_
        rw [et]
        exact List.mem_append_left _ hx
      · exact List.mem_append_right _ hx
theorem MH.fin {a b O r : List Keyed} {na nb : Nat} (h : MH κ a b O na nb) (hr : r.Perm (a.take na ++ b.take nb)) (sr : Srt κ r) : Mg κ a b (r ++ O) := by
  refine ⟨?_, List.pairwise_append.mpr ⟨sr, h.srt, fun x hx y hy => h.le x (hr.mem_iff.mp hx) y hy⟩⟩
  refine ((hr.append_right _).trans (List.Perm.append_left _ h.perm)).trans ?_
  conv => rhs; rw [← List.take_append_drop na a, ← List.take_append_drop nb b]
  rw [List.append_assoc, List.append_assoc]
  refine List.Perm.append_left _ ?_
  rw [← List.append_assoc, ← List.append_assoc]
  exact List.Perm.append_right _ List.perm_append_comm
theorem ext_take (a : Array Keyed) (n : Nat) : (a.extract 0 n).toList = a.toList.take n := by
  rw [ext_list]; simp
theorem MH.done {a b out : Array Keyed} {na nb : Nat} (h : MH κ a.toList b.toList out.toList.reverse na nb) (sa : Srt κ a.toList) (sb : Srt κ b.toList) (he : na = 0 ∨ nb = 0) : LoOk κ a b (a.extract 0 na ++ b.extract 0 nb ++ out.reverse) := by
  have e : (a.extract 0 na ++ b.extract 0 nb ++ out.reverse).toList = (a.toList.take na ++ b.toList.take nb) ++ out.toList.reverse := by
    rw [Array.toList_append, Array.toList_append, ext_take, ext_take, Array.toList_reverse]
  show Mg κ _ _ _
  rw [e]
  refine h.fin (List.Perm.refl _) ?_
  rcases he with rfl | rfl
  · simpa using sb.take
  · simpa using sa.take
theorem MH.firstB {a b out : Array Keyed} {na nb : Nat} (h : MH κ a.toList b.toList out.toList.reverse na nb) (sa : Srt κ a.toList) (he : nb = 1) (h0 : ∀ x ∈ b.toList.take 1, ∀ y ∈ a.toList, κ.kle (kOf κ x) (kOf κ y)) : LoOk κ a b (b.extract 0 nb ++ a.extract 0 na ++ out.reverse) := by
  have e : (b.extract 0 nb ++ a.extract 0 na ++ out.reverse).toList = (b.toList.take nb ++ a.toList.take na) ++ out.toList.reverse := by
    rw [Array.toList_append, Array.toList_append, ext_take, ext_take, Array.toList_reverse]
  show Mg κ _ _ _
  rw [e]
  refine h.fin List.perm_append_comm ?_
  subst he
  refine List.pairwise_append.mpr ⟨?_, sa.take, fun x hx y hy => h0 x hx y (List.mem_of_mem_take hy)⟩
  cases b.toList with
  | nil => exact List.Pairwise.nil
  | cons x l => exact List.pairwise_singleton _ _
theorem take_last {a : Array Keyed} {i : Nat} (h0 : 0 < i) (h : i ≤ a.size) : (a.toList.take i).drop (i - 1) = [a[i - 1]] := by
  have e : a.toList.take i = a.toList.take (i - 1) ++ [a[i - 1]] := by
    have := List.take_add_one (l := a.toList) (i := i - 1)
    rw [show i - 1 + 1 = i by omega] at this
    rw [this]
    simp [show i - 1 < a.size by omega]
  rw [e, List.drop_left' (by rw [List.length_take]; simp; omega)]
theorem MH.pushA {a b out : Array Keyed} {na nb : Nat} (h : MH κ a.toList b.toList out.toList.reverse na nb) (hi : 0 < na) (hs : na ≤ a.size) (sa : Srt κ a.toList) (hle : ∀ x ∈ b.toList.take nb, κ.kle (kOf κ x) (kOf κ a[na - 1])) : MH κ a.toList b.toList (out.push a[na - 1]).toList.reverse (na - 1) nb := by
  have := h.addA (m := na - 1) (by omega) sa (by rw [take_last hi hs]; intro x hx y hy; rw [List.mem_singleton.mp hy]; exact hle x hx)
  rw [take_last hi hs] at this
  simpa using this
theorem MH.pushB {a b out : Array Keyed} {na nb : Nat} (h : MH κ a.toList b.toList out.toList.reverse na nb) (hi : 0 < nb) (hs : nb ≤ b.size) (sb : Srt κ b.toList) (hle : ∀ x ∈ a.toList.take na, κ.kle (kOf κ x) (kOf κ b[nb - 1])) : MH κ a.toList b.toList (out.push b[nb - 1]).toList.reverse na (nb - 1) :=
  (h.swap.pushA hi hs sb hle).swap
theorem MH.extA {a b out : Array Keyed} {na nb m : Nat} (h : MH κ a.toList b.toList out.toList.reverse na nb) (hm : m ≤ na) (sa : Srt κ a.toList) (hle : ∀ x ∈ b.toList.take nb, ∀ y ∈ (a.toList.take na).drop m, κ.kle (kOf κ x) (kOf κ y)) : MH κ a.toList b.toList (out ++ (a.extract m na).reverse).toList.reverse m nb := by
  have := h.addA hm sa hle
  have e : (out ++ (a.extract m na).reverse).toList.reverse = (a.toList.take na).drop m ++ out.toList.reverse := by
    rw [Array.toList_append, Array.toList_reverse, List.reverse_append, List.reverse_reverse, ext_list, List.drop_take]
  rw [e]
  exact this
theorem MH.extB {a b out : Array Keyed} {na nb m : Nat} (h : MH κ a.toList b.toList out.toList.reverse na nb) (hm : m ≤ nb) (sb : Srt κ b.toList) (hle : ∀ x ∈ a.toList.take na, ∀ y ∈ (b.toList.take nb).drop m, κ.kle (kOf κ x) (kOf κ y)) : MH κ a.toList b.toList (out ++ (b.extract m nb).reverse).toList.reverse na m :=
  (h.swap.extA hm sb hle).swap
theorem mem_take {a : Array Keyed} {i : Nat} {y : Keyed} (h : y ∈ a.toList.take i) : ∃ j, ∃ hj : j < a.size, j < i ∧ y = a[j] := by
  obtain ⟨m, hm, e⟩ := List.getElem_of_mem h
  rw [List.length_take] at hm
  refine ⟨m, by simpa using (by omega : m < a.toList.length), by omega, ?_⟩
  rw [← e]
  simp
theorem mem_tcut {a : Array Keyed} {i m : Nat} {y : Keyed} (h : y ∈ (a.toList.take i).drop m) : ∃ j, ∃ hj : j < a.size, m ≤ j ∧ j < i ∧ y = a[j] := by
  obtain ⟨k, hk, e⟩ := List.getElem_of_mem h
  rw [List.length_drop, List.length_take] at hk
  refine ⟨m + k, by simpa using (by omega : m + k < a.toList.length), by omega, by omega, ?_⟩
  rw [← e]
  simp
abbrev HT' := Option (Array Keyed) × Nat × Nat × Array Keyed × Nat × Nat × Nat
abbrev HU := Option (Array Keyed) × Nat × Nat × Array Keyed × Nat × Nat
abbrev HV := Option (Array Keyed) × Nat × Nat × Array Keyed × Nat
def hiC (a b out : Array Keyed) (na nb mg ac bc : Nat) : StateT SortSt Sem (ForInStep HT') := do
  let x ← elem' a (na - 1)
  if (na - 1 == 0) = true then pure (.done (some (a.extract 0 (na - 1) ++ b.extract 0 nb ++ (out.push x).reverse), na - 1, nb, out.push x, mg, ac, bc))
  else if (decide (ac < 7) && decide (bc < 7)) = true then pure (.done (none, na - 1, nb, out.push x, mg, ac, bc))
  else pure (.yield (none, na - 1, nb, out.push x, mg, ac, bc))
def hiB (a b out : Array Keyed) (na nb mg ac bc : Nat) : StateT SortSt Sem (ForInStep HT') := do
  let x ← elem' b (nb - 1)
  if (nb - 1 == 1) = true then pure (.done (some (b.extract 0 (nb - 1) ++ a.extract 0 na ++ (out.push x).reverse), na, nb - 1, out.push x, mg, ac, bc))
  else do
    let y ← elem' a (na - 1)
    let r ← gallop' true y b 0 (nb - 1) (nb - 1 - 1)
    match r with
    | some at_ =>
      if nb - 1 - at_ > 0 then
        if (at_ == 1) = true then pure (.done (some (b.extract 0 at_ ++ a.extract 0 na ++ (out.push x ++ (b.extract at_ (nb - 1)).reverse).reverse), na, at_, out.push x ++ (b.extract at_ (nb - 1)).reverse, mg, ac, nb - 1 - at_))
        else if (at_ == 0) = true then pure (.done (some (a.extract 0 na ++ b.extract 0 at_ ++ (out.push x ++ (b.extract at_ (nb - 1)).reverse).reverse), na, at_, out.push x ++ (b.extract at_ (nb - 1)).reverse, mg, ac, nb - 1 - at_))
        else hiC a b (out.push x ++ (b.extract at_ (nb - 1)).reverse) na at_ mg ac (nb - 1 - at_)
      else hiC a b (out.push x) na (nb - 1) mg ac (nb - 1 - at_)
    | _ => pure (.done (some (a.extract 0 na ++ b.extract 0 (nb - 1) ++ (out.push x).reverse), na, nb - 1, out.push x, mg, ac, bc))
def hiA (a b out : Array Keyed) (na nb mg ac bc : Nat) : StateT SortSt Sem (ForInStep HT') := do
  setMG mg
  let x ← elem' b (nb - 1)
  let r ← gallop' false x a 0 na (na - 1)
  match r with
  | some at_ =>
    if na - at_ > 0 then
      if (at_ == 0) = true then pure (.done (some (a.extract 0 at_ ++ b.extract 0 nb ++ (out ++ (a.extract at_ na).reverse).reverse), at_, nb, out ++ (a.extract at_ na).reverse, mg, na - at_, bc))
      else hiB a b (out ++ (a.extract at_ na).reverse) at_ nb mg (na - at_) bc
    else hiB a b out na nb mg (na - at_) bc
  | _ => pure (.done (some (a.extract 0 na ++ b.extract 0 nb ++ out.reverse), na, nb, out, mg, ac, bc))
def hi1 (a b : Array Keyed) (mg na nb : Nat) (out : Array Keyed) (ac bc : Nat) : StateT SortSt Sem (ForInStep HU) := do
  let x ← elem' b (nb - 1)
  let y ← elem' a (na - 1)
  let r ← lt' x y
  match r with
  | some w =>
    if w = true then do
      let y ← elem' a (na - 1)
      if (na - 1 == 0) = true then pure (.done (some (a.extract 0 (na - 1) ++ b.extract 0 nb ++ (out.push y).reverse), na - 1, nb, out.push y, ac + 1, 0))
      else if ac + 1 ≥ mg then pure (.done (none, na - 1, nb, out.push y, ac + 1, 0)) else pure (.yield (none, na - 1, nb, out.push y, ac + 1, 0))
    else do
      let x ← elem' b (nb - 1)
      if (nb - 1 == 1) = true then pure (.done (some (b.extract 0 (nb - 1) ++ a.extract 0 na ++ (out.push x).reverse), na, nb - 1, out.push x, 0, bc + 1))
      else if bc + 1 ≥ mg then pure (.done (none, na, nb - 1, out.push x, 0, bc + 1)) else pure (.yield (none, na, nb - 1, out.push x, 0, bc + 1))
  | _ => pure (.done (some (a.extract 0 na ++ b.extract 0 nb ++ out.reverse), na, nb, out, ac, bc))
def hiO (a b : Array Keyed) (na nb : Nat) (out : Array Keyed) (mg : Nat) : StateT SortSt Sem (ForInStep HV) := do
  let t ← forIn [:a.size + b.size] ((none, na, nb, out, 0, 0) : HU) fun _ t => hi1 a b mg t.2.1 t.2.2.1 t.2.2.2.1 t.2.2.2.2.1 t.2.2.2.2.2
  match t.1 with
  | some r => pure (.done (some r, t.2.1, t.2.2.1, t.2.2.2.1, mg))
  | none => do
    liftM (rule "list.sort.gallop")
    let t ← forIn [:a.size + b.size] ((none, t.2.1, t.2.2.1, t.2.2.2.1, mg + 1, t.2.2.2.2.1, t.2.2.2.2.2) : HT') fun _ t =>
      if t.2.2.2.2.1 > 1 then hiA a b t.2.2.2.1 t.2.1 t.2.2.1 (t.2.2.2.2.1 - 1) t.2.2.2.2.2.1 t.2.2.2.2.2.2 else hiA a b t.2.2.2.1 t.2.1 t.2.2.1 t.2.2.2.2.1 t.2.2.2.2.2.1 t.2.2.2.2.2.2
    match t.1 with
    | some r => pure (.done (some r, t.2.1, t.2.2.1, t.2.2.2.1, t.2.2.2.2.1))
    | none => do
      setMG (t.2.2.2.2.1 + 1)
      pure (.yield (none, t.2.1, t.2.2.1, t.2.2.2.1, t.2.2.2.2.1 + 1))
theorem mergeHi'_hi (a b : Array Keyed) : mergeHi' a b = (do
  liftM (rule "list.sort.merge-hi")
  let x ← elem' a (a.size - 1)
  if (a.size - 1 == 0) = true then pure (a.extract 0 (a.size - 1) ++ b.extract 0 b.size ++ #[x].reverse)
  else if (b.size == 1) = true then pure (b.extract 0 b.size ++ a.extract 0 (a.size - 1) ++ #[x].reverse)
  else do
    let st ← get
    let t ← forIn [:a.size + b.size] ((none, a.size - 1, b.size, #[x], gallopOf st) : HV) fun _ t => hiO a b t.2.1 t.2.2.1 t.2.2.2.1 t.2.2.2.2
    match t.1 with
    | some r => pure r
    | none => unsupported "internal:list.sort.merge-bound") := by
  rw [mergeHi'_eq]
  dsimp only
  congr 1
  funext _
  congr 1
  funext x
  congr 1
  congr 1
  congr 1
  funext st
  congr 1
  · congr 1
    funext _ t
    unfold hiO
    congr 1
    funext t1
    obtain ⟨r1, na1, nb1, out1, ac1, bc1⟩ := t1
    cases r1 with
    | some r => rfl
    | none =>
      dsimp only
      congr 1
      funext _
      congr 1
      funext t2
      obtain ⟨r2, _⟩ := t2
      cases r2 <;> rfl
  · funext t
    obtain ⟨r1, _⟩ := t
    cases r1 <;> rfl
structure HiH (κ : KeyKind) (a b : Array Keyed) : Prop where
  o : κ.OneLt
  ka : ∀ x ∈ a, Kd κ x
  kb : ∀ x ∈ b, Kd κ x
  sa : Srt κ a.toList
  sb : Srt κ b.toList
  z : ∀ x ∈ b.toList.take 1, ∀ y ∈ a.toList, κ.kle (kOf κ x) (kOf κ y)
theorem lastLe {a : Array Keyed} {i : Nat} {y : Keyed} (sa : Srt κ a.toList) (h0 : 0 < i) (hi : i ≤ a.size) (h : κ.kle (kOf κ a[i - 1]) (kOf κ y)) : ∀ x ∈ a.toList.take i, κ.kle (kOf κ x) (kOf κ y) := fun x hx => by
  obtain ⟨j, hj, hij, rfl⟩ := mem_take hx
  exact KeyOrd.kle_trans (sa.at (i := j) (j := i - 1) (by omega) (by omega)) h
structure HI (κ : KeyKind) (a b out : Array Keyed) (na nb : Nat) : Prop where
  m : MH κ a.toList b.toList out.toList.reverse na nb
  na : 1 ≤ na
  nb : 2 ≤ nb
theorem HI.sa {a b out : Array Keyed} {na nb : Nat} (h : HI κ a b out na nb) : na ≤ a.size := by have := h.m.ha; simpa using this
theorem HI.sb {a b out : Array Keyed} {na nb : Nat} (h : HI κ a b out na nb) : nb ≤ b.size := by have := h.m.hb; simpa using this
def PHT (κ : KeyKind) (a b : Array Keyed) (n : Nat) (c : HT') : Prop := match c with
  | (some m, _) => LoOk κ a b m
  | (none, na, nb, out, _) => HI κ a b out na nb ∧ na + nb + n ≤ a.size + b.size
def QHT (κ : KeyKind) (a b : Array Keyed) (n : Nat) (r : ForInStep HT') : Prop := match r with
  | .done c => PHT κ a b n c
  | .yield c => c.1 = none ∧ PHT κ a b n c
theorem wpS_hiC {st : SortSt} {a b out : Array Keyed} {na nb mg ac bc n : Nat} (H : HiH κ a b) (L : HI κ a b out na nb) (hle : ∀ x ∈ b.toList.take nb, κ.kle (kOf κ x) (kOf κ (a[na - 1]'(by have := L.sa; have := L.na; omega)))) (hn : na + nb + n ≤ a.size + b.size) : wpS (model prog w) A E s (hiC a b out na nb mg ac bc) (fun r st' => st' = st ∧ QHT κ a b n r) st := by
  unfold hiC
  have hna := L.na
  have hsa := L.sa
  refine wpS_bind (wpS_elem (by omega) ?_)
  have m1 := L.m.pushA (by omega) hsa H.sa hle
  by_cases e : na - 1 = 0
  · rw [if_pos (by simpa using e)]
    exact wpS_pure ⟨rfl, m1.done H.sa H.sb (.inl e)⟩
  · rw [if_neg (by simpa using e)]
    have L1 : HI κ a b (out.push a[na - 1]) (na - 1) nb := ⟨m1, by omega, L.nb⟩
    split
    · exact wpS_pure ⟨rfl, L1, by omega⟩
    · exact wpS_pure ⟨rfl, rfl, L1, by omega⟩
theorem wpS_hiB {st : SortSt} {a b out : Array Keyed} {na nb mg ac bc n : Nat} (H : HiH κ a b) (hk : kindOf st = oneType') (L : HI κ a b out na nb) (hle : ∀ x ∈ a.toList.take na, κ.kle (kOf κ x) (kOf κ (b[nb - 1]'(by have := L.sb; have := L.nb; omega)))) (hn : na + nb + n ≤ a.size + b.size) : wpS (model prog w) A E s (hiB a b out na nb mg ac bc) (fun r st' => st' = st ∧ QHT κ a b n r) st := by
  unfold hiB
  have hna := L.na
  have hnb := L.nb
  have hsa := L.sa
  have hsb := L.sb
  refine wpS_bind (wpS_elem (by omega) ?_)
  have m1 := L.m.pushB (by omega) hsb H.sb hle
  by_cases e : nb - 1 = 1
  · rw [if_pos (by simpa using e)]
    exact wpS_pure ⟨rfl, m1.firstB H.sa e H.z⟩
  rw [if_neg (by simpa using e)]
  refine wpS_bind (wpS_elem (by omega) (wpS_bind (wpS_gallop H.o hk (H.ka _ (Array.getElem_mem _)) H.kb (by omega) (by omega) (bynd_mono (by omega) H.sb) fun k hk1 h1 h2 => ?_)))
  have hlt : ∀ j (hj : j < b.size), j < k → κ.kle (kOf κ b[j]) (kOf κ (a[na - 1]'(by omega))) := fun j hj q2 => by
    have := h1 j q2
    rw [bynd_at (by omega)] at this
    simp only [if_true, Nat.zero_add] at this
    exact KeyOrd.kle_of_klt this
  have hge : ∀ j (hj : j < b.size), k ≤ j → j < nb - 1 → κ.kle (kOf κ (a[na - 1]'(by omega))) (kOf κ b[j]) := fun j hj q1 q2 => by
    have := h2 j q1 q2
    rw [bynd_at (by omega)] at this
    show κ.blt _ _ = false
    simpa using this
  have m2 := m1.extB (m := k) hk1 H.sb (fun x hx y hy => by
    obtain ⟨j, hj, q1, q2, rfl⟩ := mem_tcut hy
    obtain ⟨i, hi, q3, rfl⟩ := mem_take hx
    exact KeyOrd.kle_trans (H.sa.at (i := i) (j := na - 1) (by omega) (by omega)) (hge j hj q1 q2))
  have hx : ∀ {m : Nat}, m ≤ k → ∀ x ∈ b.toList.take m, κ.kle (kOf κ x) (kOf κ (a[na - 1]'(by omega))) := fun {m} hm x hx => by
    obtain ⟨j, hj, q, rfl⟩ := mem_take hx
    exact hlt j hj (by omega)
  dsimp only
  by_cases hk0 : nb - 1 - k > 0
  · rw [if_pos hk0]
    by_cases e2 : k = 1
    · rw [if_pos (by simpa using e2)]
      exact wpS_pure ⟨rfl, m2.firstB H.sa e2 H.z⟩
    rw [if_neg (by simpa using e2)]
    by_cases e3 : k = 0
    · rw [if_pos (by simpa using e3)]
      exact wpS_pure ⟨rfl, m2.done H.sa H.sb (.inr e3)⟩
    rw [if_neg (by simpa using e3)]
    exact wpS_hiC H ⟨m2, hna, by omega⟩ (hx (Nat.le_refl _)) (by omega)
  · rw [if_neg hk0]
    exact wpS_hiC H ⟨m1, hna, by omega⟩ (hx (by omega)) (by omega)
theorem wpS_hiA {st : SortSt} {a b out : Array Keyed} {na nb mg ac bc n : Nat} (H : HiH κ a b) (hk : kindOf st = oneType') (L : HI κ a b out na nb) (hn : na + nb + n ≤ a.size + b.size) : wpS (model prog w) A E s (hiA a b out na nb mg ac bc) (fun r st' => st' = setG st mg ∧ QHT κ a b n r) st := by
  unfold hiA
  have hna := L.na
  have hnb := L.nb
  have hsa := L.sa
  have hsb := L.sb
  refine wpS_bind (wpS_setMG (wpS_bind (wpS_elem (by omega) (wpS_bind (wpS_gallop (st := setG st mg) H.o hk (H.kb _ (Array.getElem_mem _)) H.ka (by omega) (by omega) (bynd_mono (by omega) H.sa) fun k hk1 h1 h2 => ?_)))))
  have hle : ∀ j (hj : j < a.size), j < k → κ.kle (kOf κ a[j]) (kOf κ (b[nb - 1]'(by omega))) := fun j hj q2 => by
    have := h1 j q2
    rw [bynd_at (by omega)] at this
    simp only [Bool.false_eq_true, if_false, Bool.not_eq_true', Nat.zero_add] at this
    exact this
  have hgt : ∀ j (hj : j < a.size), k ≤ j → j < na → κ.kle (kOf κ (b[nb - 1]'(by omega))) (kOf κ a[j]) := fun j hj q1 q2 => by
    have := h2 j q1 q2
    rw [bynd_at (by omega)] at this
    simp only [Bool.false_eq_true, if_false, Bool.not_eq_false', Nat.zero_add] at this
    exact KeyOrd.kle_of_klt this
  have m2 := L.m.extA (m := k) hk1 H.sa (fun x hx y hy => by
    obtain ⟨j, hj, q1, q2, rfl⟩ := mem_tcut hy
    obtain ⟨i, hi, q3, rfl⟩ := mem_take hx
    exact KeyOrd.kle_trans (H.sb.at (i := i) (j := nb - 1) (by omega) (by omega)) (hgt j hj q1 q2))
  have hx : ∀ {m : Nat}, m ≤ k → ∀ x ∈ a.toList.take m, κ.kle (kOf κ x) (kOf κ (b[nb - 1]'(by omega))) := fun {m} hm x hx => by
    obtain ⟨j, hj, q, rfl⟩ := mem_take hx
    exact hle j hj (by omega)
  dsimp only
  by_cases hk0 : na - k > 0
  · rw [if_pos hk0]
    by_cases e2 : k = 0
    · rw [if_pos (by simpa using e2)]
      exact wpS_pure ⟨rfl, m2.done H.sa H.sb (.inl e2)⟩
    rw [if_neg (by simpa using e2)]
    exact wpS_hiB (st := setG st mg) H hk ⟨m2, by omega, hnb⟩ (hx (Nat.le_refl _)) (by omega)
  · rw [if_neg hk0]
    exact wpS_hiB (st := setG st mg) H hk L (hx (by omega)) hn
def PHU (κ : KeyKind) (a b : Array Keyed) (n : Nat) (c : HU) : Prop := match c with
  | (some m, _) => LoOk κ a b m
  | (none, na, nb, out, _) => HI κ a b out na nb ∧ na + nb + n ≤ a.size + b.size
theorem wpS_hi1 {st : SortSt} {a b out : Array Keyed} {mg na nb ac bc n : Nat} (H : HiH κ a b) (hk : kindOf st = oneType') (L : HI κ a b out na nb) (hn : na + nb + n ≤ a.size + b.size) : wpS (model prog w) A E s (hi1 a b mg na nb out ac bc) (fun r st' => st' = st ∧ match r with
    | .done c => PHU κ a b (n + 1) c
    | .yield c => c.1 = none ∧ PHU κ a b (n + 1) c) st := by
  unfold hi1
  have hna := L.na
  have hnb := L.nb
  have hsa := L.sa
  have hsb := L.sb
  refine wpS_bind (wpS_elem (by omega) (wpS_bind (wpS_elem (by omega) (wpS_bind (wpS_lt2 H.o hk (H.kb _ (Array.getElem_mem _)) (H.ka _ (Array.getElem_mem _)) ?_)))))
  cases hw : κ.blt (kOf κ (b[nb - 1]'(by omega))) (kOf κ (a[na - 1]'(by omega))) with
  | true =>
    dsimp only
    rw [if_pos rfl]
    refine wpS_bind (wpS_elem (by omega) ?_)
    have m1 := L.m.pushA (by omega) hsa H.sa (lastLe H.sb (by omega) hsb (KeyOrd.kle_of_klt hw))
    by_cases e : na - 1 = 0
    · rw [if_pos (by simpa using e)]
      exact wpS_pure ⟨rfl, m1.done H.sa H.sb (.inl e)⟩
    · rw [if_neg (by simpa using e)]
      have L1 : HI κ a b (out.push a[na - 1]) (na - 1) nb := ⟨m1, by omega, hnb⟩
      split
      · exact wpS_pure ⟨rfl, L1, by omega⟩
      · exact wpS_pure ⟨rfl, rfl, L1, by omega⟩
  | false =>
    dsimp only
    rw [if_neg (by decide)]
    refine wpS_bind (wpS_elem (by omega) ?_)
    have m1 := L.m.pushB (by omega) hsb H.sb (lastLe H.sa (by omega) hsa (show κ.kle _ _ from hw))
    by_cases e : nb - 1 = 1
    · rw [if_pos (by simpa using e)]
      exact wpS_pure ⟨rfl, m1.firstB H.sa e H.z⟩
    · rw [if_neg (by simpa using e)]
      have L1 : HI κ a b (out.push b[nb - 1]) na (nb - 1) := ⟨m1, hna, by omega⟩
      split
      · exact wpS_pure ⟨rfl, L1, by omega⟩
      · exact wpS_pure ⟨rfl, rfl, L1, by omega⟩
theorem wpS_hiO {st : SortSt} {a b out : Array Keyed} {na nb mg n : Nat} (H : HiH κ a b) (hk : kindOf st = oneType') (L : HI κ a b out na nb) (hn : na + nb + n ≤ a.size + b.size) : wpS (model prog w) A E s (hiO a b na nb out mg) (fun r st' => (∃ g, st' = setG st g) ∧ match r with
    | .done c => ∃ m t, c = (some m, t) ∧ LoOk κ a b m
    | .yield c => ∃ na nb out mg, c = (none, na, nb, out, mg) ∧ HI κ a b out na nb ∧ na + nb + (n + 1) ≤ a.size + b.size) st := by
  unfold hiO
  refine wpS_bind (wpS_mono (wpS_forRange (I := fun x c st' => st' = st ∧ c.1 = none ∧ PHU κ a b (n + x) c) (Q := fun c st' => st' = st ∧ PHU κ a b (n + 1) c) ?step ?fin ⟨rfl, rfl, L, by omega⟩) ?post)
  case step =>
    rintro x ⟨r, na, nb, out, ac, bc⟩ st' _ hx ⟨rfl, hr, hP⟩
    cases (show r = none from hr)
    obtain ⟨L, hn'⟩ : HI κ a b out na nb ∧ na + nb + (n + x) ≤ a.size + b.size := hP
    refine wpS_mono (wpS_hi1 H hk L hn') fun r st'' hq => ?_
    obtain ⟨rfl, hq⟩ := hq
    cases r with
    | done c =>
      refine ⟨rfl, ?_⟩
      obtain ⟨r, na2, nb2, out2, c3⟩ := c
      cases r with
      | some m => exact hq
      | none =>
        obtain ⟨q1, q2⟩ : HI κ a b out2 na2 nb2 ∧ na2 + nb2 + (n + x + 1) ≤ a.size + b.size := hq
        exact ⟨q1, by omega⟩
    | yield c => exact ⟨rfl, hq.1, hq.2⟩
  case fin =>
    rintro ⟨r, na, nb, out, ac, bc⟩ st' ⟨rfl, hr, hP⟩
    cases (show r = none from hr)
    obtain ⟨L, hn'⟩ : HI κ a b out na nb ∧ na + nb + (n + max 0 (a.size + b.size)) ≤ a.size + b.size := hP
    have := L.na
    have := L.nb
    omega
  case post =>
    rintro ⟨r, na, nb, out, ac, bc⟩ st' ⟨rfl, hP⟩
    cases r with
    | some m => exact wpS_pure ⟨⟨gallopOf st', rfl⟩, m, _, rfl, hP⟩
    | none =>
      obtain ⟨L, hn'⟩ : HI κ a b out na nb ∧ na + nb + (n + 1) ≤ a.size + b.size := hP
      refine wpS_bind (wpS_lift (wpAny_rule ⟨rfl, ?_⟩))
      dsimp only
      refine wpS_bind (wpS_mono (wpS_forRange (I := fun x c st'' => (∃ g, st'' = setG st' g) ∧ c.1 = none ∧ PHT κ a b (n + 1) c) (Q := fun c st'' => (∃ g, st'' = setG st' g) ∧ PHT κ a b (n + 1) c) ?step2 ?fin2 ⟨⟨gallopOf st', rfl⟩, rfl, L, hn'⟩) ?post2)
      case step2 =>
        rintro x ⟨r, na, nb, out, mg, ac, bc⟩ st'' _ hx ⟨⟨g, rfl⟩, hr, hP⟩
        cases (show r = none from hr)
        obtain ⟨L, hn'⟩ : HI κ a b out na nb ∧ na + nb + (n + 1) ≤ a.size + b.size := hP
        have go : ∀ mg', wpS (model prog w) A E s (hiA a b out na nb mg' ac bc) (fun r st3 => match r with | .done c' => (∃ g, st3 = setG st' g) ∧ PHT κ a b (n + 1) c' | .yield c' => (∃ g, st3 = setG st' g) ∧ c'.1 = none ∧ PHT κ a b (n + 1) c') (setG st' g) := fun mg' => by
          refine wpS_mono (wpS_hiA (st := setG st' g) H hk L hn') fun r st3 hq => ?_
          obtain ⟨rfl, hq⟩ := hq
          cases r with
          | done c => exact ⟨⟨mg', rfl⟩, hq⟩
          | yield c => exact ⟨⟨mg', rfl⟩, hq.1, hq.2⟩
        dsimp only
        split
        · exact wpS_mono (go _) fun r st3 h => by cases r <;> exact h
        · exact wpS_mono (go _) fun r st3 h => by cases r <;> exact h
      case fin2 =>
        rintro c st'' ⟨h1, _, h2⟩
        exact ⟨h1, h2⟩
      case post2 =>
        rintro ⟨r, na, nb, out, mg, ac, bc⟩ st'' ⟨⟨g, rfl⟩, hP⟩
        cases r with
        | some m => exact wpS_pure ⟨⟨g, rfl⟩, m, _, rfl, hP⟩
        | none =>
          obtain ⟨L, hn'⟩ : HI κ a b out na nb ∧ na + nb + (n + 1) ≤ a.size + b.size := hP
          exact wpS_bind (wpS_setMG (wpS_pure ⟨⟨_, rfl⟩, na, nb, out, _, rfl, L, hn'⟩))
theorem MH.nil (a b : List Keyed) : MH κ a b [] a.length b.length := ⟨Nat.le_refl _, Nat.le_refl _, by simp, List.Pairwise.nil, fun x _ y hy => by cases hy⟩
theorem wpS_mergeHi {st : SortSt} {a b : Array Keyed} {Q : Array Keyed → SortSt → Prop} (H : HiH κ a b) (hk : kindOf st = oneType') (h1a : 0 < a.size) (h1b : 0 < b.size)
    (h0 : ∀ x ∈ b.toList, κ.kle (kOf κ x) (kOf κ a[a.size - 1])) (h : ∀ m g, LoOk κ a b m → Q m (setG st g)) : wpS (model prog w) A E s (mergeHi' a b) Q st := by
  rw [mergeHi'_hi]
  refine wpS_bind (wpS_lift (wpAny_rule ⟨rfl, ?_⟩))
  refine wpS_bind (wpS_elem (by omega) ?_)
  have mn := MH.nil (κ := κ) a.toList b.toList
  rw [Array.length_toList, Array.length_toList] at mn
  have m0 : MH κ a.toList b.toList #[a[a.size - 1]].toList.reverse (a.size - 1) b.size := by
    have := MH.pushA (out := #[]) mn (by omega) (Nat.le_refl _) H.sa (fun x hx => h0 x (List.mem_of_mem_take hx))
    simpa using this
  by_cases e1 : a.size - 1 = 0
  · rw [if_pos (by simpa using e1)]
    exact wpS_pure (h _ (gallopOf st) (m0.done H.sa H.sb (.inl e1)))
  rw [if_neg (by simpa using e1)]
  by_cases e2 : b.size = 1
  · rw [if_pos (by simpa using e2)]
    exact wpS_pure (h _ (gallopOf st) (m0.firstB H.sa e2 H.z))
  rw [if_neg (by simpa using e2)]
  refine wpS_bind (wpS_get ?_)
  refine wpS_bind (wpS_mono (wpS_forRange (I := fun x c st' => (∃ g, st' = setG st g) ∧ ∃ na nb out mg, c = (none, na, nb, out, mg) ∧ HI κ a b out na nb ∧ na + nb + (x + 1) ≤ a.size + b.size) (Q := fun c st' => (∃ g, st' = setG st g) ∧ ∃ m t, c = (some m, t) ∧ LoOk κ a b m) ?step ?fin ⟨⟨gallopOf st, rfl⟩, _, _, _, _, rfl, ⟨m0, by omega, by omega⟩, by omega⟩) ?post)
  case step =>
    rintro x c st' _ hx ⟨⟨g, rfl⟩, na, nb, out, mg, rfl, L, hn⟩
    refine wpS_mono (wpS_hiO (st := setG st g) H hk L hn) fun r st'' hq => ?_
    obtain ⟨⟨g', rfl⟩, hq⟩ := hq
    cases r with
    | done c => exact ⟨⟨g', rfl⟩, hq⟩
    | yield c => exact ⟨⟨g', rfl⟩, hq⟩
  case fin =>
    rintro c st' ⟨_, na, nb, out, mg, rfl, L, hn⟩
    have := L.na
    have := L.nb
    omega
  case post =>
    rintro c st' ⟨⟨g, rfl⟩, m, t, rfl, hm⟩
    exact wpS_pure (h m g hm)
end
end L2
set_option Elab.async false
set_option linter.all false
set_option maxRecDepth 100000
set_option maxHeartbeats 4000000
namespace L2
open PySem PySem.Spec PyProof.Rows
section
variable {prog : Program} {w : World} {A : Around} {E : Value → Shared → Prop} {s : Shared} {κ : KeyKind}
theorem setAll (off : Nat) : ∀ (l : List Keyed) (n : Nat) (arr : Array Keyed), off + n + l.length ≤ arr.size → ((l.zipIdx n).foldl (fun a (p : Keyed × Nat) => a.setIfInBounds (off + p.2) p.1) arr).toList = arr.toList.take (off + n) ++ l ++ arr.toList.drop (off + n + l.length)
  | [], n, arr, _ => by simp
  | x :: l, n, arr, h => by
    rw [List.length_cons] at h
    rw [List.zipIdx_cons, List.foldl_cons, setAll off l (n + 1) _ (by rw [Array.size_setIfInBounds]; omega)]
    rw [Array.toList_setIfInBounds]
    have hl : off + n < arr.toList.length := by simp; omega
    rw [show off + (n + 1) = off + n + 1 by omega, List.take_add_one, List.take_set_of_le (Nat.le_refl _), List.getElem?_set_self hl, List.drop_set_of_lt (by omega)]
    simp only [Option.toList_some, List.append_assoc, List.singleton_append, List.cons_append, List.nil_append]
    rw [List.length_cons, show off + n + 1 + l.length = off + n + (l.length + 1) by omega]
def mergeAtX (i : Nat) : StateT SortSt Sem Bool := do
  let s ← get
  let (some (sa, na, power), some (sb, nb, _)) := ((pendingOf s)[i]?, (pendingOf s)[i + 1]?) | unsupported "internal:list.sort.pending"
  set (setPending s (((pendingOf s).setIfInBounds i (sa, na + nb, power)).eraseIdxIfInBounds (i + 1)))
  let some k ← gallop' false (← elem' (arrOf s) sb) (arrOf s) sa na 0 | return false
  let (sa, na) := (sa + k, na - k)
  if na == 0 then return true
  let some nb ← gallop' true (← elem' (arrOf s) (sa + na - 1)) (arrOf s) sb nb (nb - 1) | return false
  if nb == 0 then return true
  let x := (arrOf s).extract sa sb
  let y := (arrOf s).extract sb (sb + nb)
  let merged ← if na ≤ nb then mergeLo' x y else mergeHi' x y
  modify fun s => setArr s (merged.toList.zipIdx.foldl (fun a (p, j) => a.setIfInBounds (sa + j) p) (arrOf s))
  return (failedOf (← get)).isNone
theorem mergeAt'_eq (i : Nat) : mergeAt' i = mergeAtX i := rfl
def byl (κ : KeyKind) (left : Bool) (key : Keyed) (r : List Keyed) (i : Nat) : Bool := match r[i]? with
  | some x => if left then κ.blt (kOf κ x) (kOf κ key) else !κ.blt (kOf κ key) (kOf κ x)
  | none => false
theorem bynd_list {left : Bool} {key : Keyed} {arr : Array Keyed} {r : List Keyed} {base i : Nat} (h : arr[base + i]? = r[i]?) : bynd κ left key arr base i = byl κ left key r i := by
  unfold bynd byl
  rw [h]
  all_goals (cases r[i]? <;> rfl)
theorem Srt.atL {r : List Keyed} (h : Srt κ r) {i j : Nat} (hij : i ≤ j) (hj : j < r.length) : κ.kle (kOf κ (r[i]'(by omega))) (kOf κ r[j]) := by
  by_cases e : i = j
  · subst e; exact KeyOrd.kle_refl _
  · exact List.pairwise_iff_getElem.mp h i j (by omega) hj (by omega)
theorem byl_at {left : Bool} {key : Keyed} {r : List Keyed} {i : Nat} (h : i < r.length) : byl κ left key r i = if left then κ.blt (kOf κ r[i]) (kOf κ key) else !κ.blt (kOf κ key) (kOf κ r[i]) := by
  unfold byl
  rw [List.getElem?_eq_getElem h]
theorem byl_mono {left : Bool} {key : Keyed} {r : List Keyed} (sr : Srt κ r) : ∀ i j, i ≤ j → j < r.length → byl κ left key r j = true → byl κ left key r i = true := fun i j hij hj e => by
  rw [byl_at (by omega)] at e ⊢
  have hle := sr.atL hij hj
  cases left with
  | true => exact KeyOrd.klt_of_kle_of_klt hle e
  | false =>
    simp only [Bool.false_eq_true, if_false, Bool.not_eq_true'] at e ⊢
    exact KeyOrd.kle_trans hle e
theorem byl_take {left : Bool} {key : Keyed} {r : List Keyed} {k : Nat} (h : ∀ i, i < k → byl κ left key r i = true) : ∀ x ∈ r.take k, κ.kle (kOf κ x) (kOf κ key) := fun x hx => by
  obtain ⟨m, hm, e⟩ := List.getElem_of_mem hx
  rw [List.length_take] at hm
  have := h m (by omega)
  rw [byl_at (by omega)] at this
  have e2 : r[m]'(by omega) = x := by rw [← e]; simp
  rw [e2] at this
  cases left with
  | true => exact KeyOrd.kle_of_klt this
  | false => show κ.blt _ _ = false; simpa using this
theorem byl_drop {left : Bool} {key : Keyed} {r : List Keyed} {k : Nat} (h : ∀ i, k ≤ i → i < r.length → byl κ left key r i = false) : ∀ x ∈ r.drop k, κ.kle (kOf κ key) (kOf κ x) := fun x hx => by
  obtain ⟨m, hm, e⟩ := List.getElem_of_mem hx
  rw [List.length_drop] at hm
  have := h (k + m) (by omega) (by omega)
  rw [byl_at (by omega)] at this
  have e2 : r[k + m]'(by omega) = x := by rw [← e]; simp
  rw [e2] at this
  cases left with
  | true => show κ.blt _ _ = false; simpa using this
  | false =>
    simp only [Bool.false_eq_true, if_false, Bool.not_eq_false'] at this
    exact KeyOrd.kle_of_klt this
theorem mg_mid {r1 r2 m : List Keyed} {k n : Nat} (s1 : Srt κ r1) (s2 : Srt κ r2) (hm : Mg κ (r1.drop k) (r2.take n) m) (q1 : ∀ x ∈ r1.take k, ∀ y ∈ r2, κ.kle (kOf κ x) (kOf κ y)) (q2 : ∀ x ∈ r1, ∀ y ∈ r2.drop n, κ.kle (kOf κ x) (kOf κ y)) : Mg κ r1 r2 (r1.take k ++ (m ++ r2.drop n)) := by
  have d1 : Srt κ (r1.take k ++ r1.drop k) := by rw [List.take_append_drop]; exact s1
  have d2 : Srt κ (r2.take n ++ r2.drop n) := by rw [List.take_append_drop]; exact s2
  obtain ⟨_, _, t1⟩ := List.pairwise_append.mp d1
  obtain ⟨_, _, t2⟩ := List.pairwise_append.mp d2
  have mm : ∀ x, x ∈ m ↔ x ∈ r1.drop k ∨ x ∈ r2.take n := fun x => by rw [hm.perm.mem_iff, List.mem_append]
  refine ⟨?_, List.pairwise_append.mpr ⟨s1.take, List.pairwise_append.mpr ⟨hm.srt, s2.drop, fun x hx y hy => ?_⟩, fun x hx y hy => ?_⟩⟩
  · refine (List.Perm.append_left _ (hm.perm.append_right _)).trans ?_
    rw [List.append_assoc, List.take_append_drop, ← List.append_assoc, List.take_append_drop]
  · rcases (mm x).mp hx with z | z
    · exact q2 x (List.mem_of_mem_drop z) y hy
    · exact t2 x z y hy
  · rcases List.mem_append.mp hy with z | z
    · rcases (mm y).mp z with z | z
      · exact t1 x hx y z
      · exact q1 x hx y (List.mem_of_mem_take z)
    · exact q1 x hx y (List.mem_of_mem_drop z)
theorem wpS_set {st st' : SortSt} {Q : PUnit → SortSt → Prop} (h : Q ⟨⟩ st') : wpS (model prog w) A E s (set st' : StateT SortSt Sem PUnit) Q st := by
  unfold wpS; rw [StateT.run_set]; exact wpAny_pure ⟨rfl, h⟩
theorem mid_at {P r S : List Keyed} {arr : Array Keyed} (ha : arr.toList = P ++ (r ++ S)) {i : Nat} (hi : i < r.length) : arr[P.length + i]? = r[i]? := by
  rw [← Array.getElem?_toList, ha, List.getElem?_append_right (by omega), Nat.add_sub_cancel_left, List.getElem?_append_left hi]
theorem ext_mid {P r S : List Keyed} {arr : Array Keyed} (ha : arr.toList = P ++ (r ++ S)) {i j : Nat} (hi : i = P.length) (hj : j = P.length + r.length) : (arr.extract i j).toList = r := by
  subst hi hj
  rw [ext_list, ha, List.drop_left, Nat.add_sub_cancel_left, List.take_left]
theorem wpS_mergeAt {st : SortSt} {P r1 r2 S : List Keyed} {i p q : Nat} {Q : Bool → SortSt → Prop} (hO : κ.OneLt) (hk : kindOf st = oneType') (hf : failedOf st = none) (hK : ∀ x ∈ (arrOf st).toList, Kd κ x) (ha : (arrOf st).toList = P ++ (r1 ++ (r2 ++ S)))
    (h1 : (pendingOf st)[i]? = some (P.length, r1.length, p)) (h2 : (pendingOf st)[i + 1]? = some (P.length + r1.length, r2.length, q)) (n1 : 0 < r1.length) (n2 : 0 < r2.length) (s1 : Srt κ r1) (s2 : Srt κ r2)
    (h : ∀ m xs g, Mg κ r1 r2 m → xs.toList = P ++ (m ++ S) → Q true (SortSt.mk' (kindOf st) xs (((pendingOf st).setIfInBounds i (P.length, r1.length + r2.length, p)).eraseIdxIfInBounds (i + 1)) g (failedOf st))) : wpS (model prog w) A E s (mergeAt' i) Q st := by
  rw [mergeAt'_eq]
  unfold mergeAtX
  refine wpS_bind (wpS_get ?_)
  rw [h1, h2]
  dsimp only
  refine wpS_bind (wpS_set ?_)
  have hsz : (arrOf st).size = P.length + (r1.length + (r2.length + S.length)) := by rw [← Array.length_toList, ha]; simp
  have ha2 : (arrOf st).toList = (P ++ r1) ++ (r2 ++ S) := by rw [ha, List.append_assoc]
  have A1 : ∀ {i}, i < r1.length → (arrOf st)[P.length + i]? = r1[i]? := fun hi => mid_at ha hi
  have A2 : ∀ {i}, i < r2.length → (arrOf st)[P.length + r1.length + i]? = r2[i]? := fun hi => by
    have := mid_at ha2 hi
    rwa [List.length_append] at this
  have hK' : ∀ x ∈ arrOf st, Kd κ x := fun x hx => hK x (by simpa using hx)
  have K1 : ∀ x ∈ r1, Kd κ x := fun x hx => hK x (by rw [ha]; simp [hx])
  have K2 : ∀ x ∈ r2, Kd κ x := fun x hx => hK x (by rw [ha]; simp [hx])
  have b0 : (arrOf st)[P.length + r1.length]'(by omega) = r2[0] := by
    have := A2 (i := 0) n2
    rw [Nat.add_zero, getElem?_pos _ _ (by omega), List.getElem?_eq_getElem n2] at this
    exact Option.some.inj this
  have aL : (arrOf st)[P.length + (r1.length - 1)]'(by omega) = r1[r1.length - 1] := by
    have := A1 (i := r1.length - 1) (by omega)
    rw [getElem?_pos _ _ (by omega), List.getElem?_eq_getElem (by omega)] at this
    exact Option.some.inj this
  have eq1 : ∀ {key : Keyed} {left : Bool} {i}, i < r1.length → bynd κ left key (arrOf st) P.length i = byl κ left key r1 i := fun hi => bynd_list (A1 hi)
  have eq2 : ∀ {key : Keyed} {left : Bool} {i}, i < r2.length → bynd κ left key (arrOf st) (P.length + r1.length) i = byl κ left key r2 i := fun hi => bynd_list (A2 hi)
  have top2 : ∀ y ∈ r2, κ.kle (kOf κ r2[0]) (kOf κ y) := fun y hy => by
    obtain ⟨j, hj, rfl⟩ := List.getElem_of_mem hy
    exact s2.atL (Nat.zero_le _) hj
  have end1 : ∀ x ∈ r1, κ.kle (kOf κ x) (kOf κ r1[r1.length - 1]) := fun x hx => by
    obtain ⟨j, hj, rfl⟩ := List.getElem_of_mem hx
    exact s1.atL (by omega) (by omega)
  refine wpS_bind (wpS_elem (by omega) ?_)
  rw [b0]
  refine wpS_bind (wpS_gallop hO hk (K2 _ (List.getElem_mem _)) hK' (by omega) n1 (fun i j hij hj e => by rw [eq1 (by omega)]; rw [eq1 hj] at e; exact byl_mono s1 i j hij hj e) fun k k1 g1 g2 => ?_)
  have lo : ∀ x ∈ r1.take k, ∀ y ∈ r2, κ.kle (kOf κ x) (kOf κ y) := fun x hx y hy => KeyOrd.kle_trans (byl_take (fun i hi => by rw [← eq1 (by omega)]; exact g1 i hi) x hx) (top2 y hy)
  have up : ∀ x ∈ r1.drop k, κ.kle (kOf κ r2[0]) (kOf κ x) := byl_drop fun i q1 q2 => by rw [← eq1 q2]; exact g2 i q1 q2
  dsimp only
  by_cases e1 : r1.length - k = 0
  · rw [if_pos (by simpa using e1)]
    refine wpS_pure (h (r1 ++ r2) _ _ ⟨List.Perm.refl _, List.pairwise_append.mpr ⟨s1, s2, fun x hx y hy => lo x (by rw [List.take_of_length_le (by omega)]; exact hx) y hy⟩⟩ ?_)
    rw [ha, List.append_assoc]
  rw [if_neg (by simpa using e1)]
  have ei : P.length + k + (r1.length - k) - 1 = P.length + (r1.length - 1) := by omega
  refine wpS_bind (wpS_elem (by omega) ?_)
  simp only [ei]
  rw [aL]
  refine wpS_bind (wpS_gallop hO hk (K1 _ (List.getElem_mem _)) hK' (by omega) (by omega) (fun i j hij hj e => by rw [eq2 (by omega)]; rw [eq2 hj] at e; exact byl_mono s2 i j hij hj e) fun n nn g3 g4 => ?_)
  have lo2 : ∀ y ∈ r2.take n, κ.kle (kOf κ y) (kOf κ r1[r1.length - 1]) := byl_take fun i hi => by rw [← eq2 (by omega)]; exact g3 i hi
  have up2 : ∀ x ∈ r1, ∀ y ∈ r2.drop n, κ.kle (kOf κ x) (kOf κ y) := fun x hx y hy => KeyOrd.kle_trans (end1 x hx) (byl_drop (fun i q1 q2 => by rw [← eq2 q2]; exact g4 i q1 q2) y hy)
  dsimp only
  by_cases e2 : n = 0
  · rw [if_pos (by simpa using e2)]
    refine wpS_pure (h (r1 ++ r2) _ _ ⟨List.Perm.refl _, List.pairwise_append.mpr ⟨s1, s2, fun x hx y hy => up2 x hx y (by rw [e2]; exact hy)⟩⟩ ?_)
    rw [ha, List.append_assoc]
  rw [if_neg (by simpa using e2)]
  have hl1 : (r1.take k).length = k := by rw [List.length_take]; omega
  have hl2 : (r1.drop k).length = r1.length - k := List.length_drop ..
  have hl3 : (r2.take n).length = n := by rw [List.length_take]; omega
  have ha3 : (arrOf st).toList = (P ++ r1.take k) ++ (r1.drop k ++ (r2 ++ S)) := by
    rw [ha, List.append_assoc, ← List.append_assoc (r1.take k), List.take_append_drop]
  have ha4 : (arrOf st).toList = (P ++ r1) ++ (r2.take n ++ (r2.drop n ++ S)) := by
    rw [ha2, ← List.append_assoc (r2.take n), List.take_append_drop]
  have ex : ((arrOf st).extract (P.length + k) (P.length + r1.length)).toList = r1.drop k := ext_mid ha3 (by rw [List.length_append, hl1]) (by rw [List.length_append, hl1, hl2]; omega)
  have ey : ((arrOf st).extract (P.length + r1.length) (P.length + r1.length + n)).toList = r2.take n := ext_mid ha4 (by rw [List.length_append]) (by rw [List.length_append, hl3])
  generalize (arrOf st).extract (P.length + k) (P.length + r1.length) = X at ex
  generalize (arrOf st).extract (P.length + r1.length) (P.length + r1.length + n) = Y at ey
  have szX : X.size = r1.length - k := by rw [← Array.length_toList, ex, hl2]
  have szY : Y.size = n := by rw [← Array.length_toList, ey, hl3]
  have kX : ∀ x ∈ X, Kd κ x := fun x hx => K1 x (List.mem_of_mem_drop (i := k) (by rw [← ex]; simpa using hx))
  have kY : ∀ x ∈ Y, Kd κ x := fun x hx => K2 x (List.mem_of_mem_take (i := n) (by rw [← ey]; simpa using hx))
  have Y0 : ∀ hy : 0 < Y.size, Y[0] = r2[0] := fun hy => by
    have e : Y.toList[0]? = (r2.take n)[0]? := by rw [ey]
    rw [Array.getElem?_toList, getElem?_pos Y 0 hy, List.getElem?_take, if_pos (by omega), List.getElem?_eq_getElem n2] at e
    exact Option.some.inj e
  have XL : ∀ hx : X.size - 1 < X.size, X[X.size - 1] = r1[r1.length - 1] := fun hx => by
    have e : X.toList[X.size - 1]? = (r1.drop k)[X.size - 1]? := by rw [ex]
    rw [Array.getElem?_toList, getElem?_pos X (X.size - 1) hx, List.getElem?_drop, show k + (X.size - 1) = r1.length - 1 by omega, List.getElem?_eq_getElem (by omega)] at e
    exact Option.some.inj e
  have last : ∀ (mr : Array Keyed) g, LoOk κ X Y mr → wpS (model prog w) A E s (do
      modify fun s => setArr s (mr.toList.zipIdx.foldl (fun a (p, j) => a.setIfInBounds (P.length + k + j) p) (arrOf s))
      let t ← get
      pure (failedOf t).isNone) Q (setG (setPending st (((pendingOf st).setIfInBounds i (P.length, r1.length + r2.length, p)).eraseIdxIfInBounds (i + 1))) g) := fun mr g hm => by
    refine wpS_bind (wpS_modify (wpS_bind (wpS_get (wpS_pure ?_))))
    have hm' : Mg κ (r1.drop k) (r2.take n) mr.toList := by rw [← ex, ← ey]; exact hm
    have hlen : mr.toList.length = r1.length - k + n := by rw [hm'.perm.length_eq, List.length_append, hl2, hl3]
    have e3 := setAll (P.length + k) mr.toList 0 (arrOf st) (by rw [hlen]; omega)
    have e4 : (arrOf st).toList.take (P.length + k + 0) = P ++ r1.take k := by
      rw [ha3, Nat.add_zero, List.take_left' (by rw [List.length_append, hl1])]
    have e5 : (arrOf st).toList.drop (P.length + k + 0 + mr.toList.length) = r2.drop n ++ S := by
      rw [ha4, ← List.append_assoc (P ++ r1), List.drop_left' (by rw [List.length_append, List.length_append, hl3, hlen]; omega)]
    rw [e4, e5] at e3
    have := h (r1.take k ++ (mr.toList ++ r2.drop n)) _ g (mg_mid s1 s2 hm' lo up2) (e3.trans (by simp [List.append_assoc]))
    have hfi : (failedOf st).isNone = true := by rw [hf]; rfl
    show Q (failedOf st).isNone _
    rw [hfi]
    exact this
  by_cases e3 : r1.length - k ≤ n
  · rw [if_pos e3]
    refine wpS_bind (wpS_mergeLo (κ := κ) ⟨hO, kX, kY, by rw [ex]; exact s1.drop, by rw [ey]; exact s2.take, ?_⟩ hk (by omega) (by omega) (fun y hy => by rw [Y0]; exact up y (by rw [← ex]; exact hy)) fun mr g hm => last mr g hm)
    intro y hy z hz
    obtain ⟨j, hj, q1, rfl⟩ := mem_drop hz
    have ej : j = X.size - 1 := by omega
    subst ej
    rw [XL hj]
    exact lo2 y (by rw [← ey]; exact hy)
  · rw [if_neg e3]
    refine wpS_bind (wpS_mergeHi (κ := κ) ⟨hO, kX, kY, by rw [ex]; exact s1.drop, by rw [ey]; exact s2.take, ?_⟩ hk (by omega) (by omega) (fun x hx => by rw [XL]; exact lo2 x (by rw [← ey]; exact hx)) fun mr g hm => last mr g hm)
    intro x hx y hy
    obtain ⟨j, hj, q1, rfl⟩ := mem_take hx
    have ej : j = 0 := by omega
    subst ej
    rw [Y0 hj]
    exact up y (by rw [← ex]; exact hy)
end
end L2
set_option Elab.async false
set_option linter.all false
set_option maxRecDepth 100000
set_option maxHeartbeats 4000000
namespace L2
open PySem PySem.Spec PyProof.Rows
section
variable {prog : Program} {w : World} {A : Around} {E : Value → Shared → Prop} {s : Shared} {κ : KeyKind}
theorem KK_kOf {xs : Array Keyed} {i : Nat} (h : i < xs.size) : KK κ xs i = kOf κ xs[i] := by
  unfold KK kOf
  rw [getElem?_pos xs i h]
theorem wpS_ltX {st : SortSt} {i j : Nat} {Q : Option Bool → SortSt → Prop} (hO : κ.OneLt) (hk : kindOf st = oneType') (hK : ∀ x ∈ arrOf st, Kd κ x) (hi : i < (arrOf st).size) (hj : j < (arrOf st).size) (h : Q (some (κ.blt (KK κ (arrOf st) i) (KK κ (arrOf st) j))) st) : wpS (model prog w) A E s (ltAt' i j) Q st := by
  rw [ltAt'_eq]
  refine wpS_bind (wpS_get ?_)
  show wpS _ _ _ _ (do let x ← elem' (arrOf st) i; let y ← elem' (arrOf st) j; lt' x y) Q st
  rw [KK_kOf hi, KK_kOf hj] at h
  exact wpS_bind (wpS_elem hi (wpS_bind (wpS_elem hj (wpS_lt2 hO hk (hK _ (Array.getElem_mem hi)) (hK _ (Array.getElem_mem hj)) h))))
def SegS (κ : KeyKind) (xs : Array Keyed) (lo n : Nat) : Prop := ∀ i j, i ≤ j → j < n → κ.kle (KK κ xs (lo + i)) (KK κ xs (lo + j))
def SegN (κ : KeyKind) (xs : Array Keyed) (lo n : Nat) : Prop := ∀ i j, i ≤ j → j < n → κ.kle (KK κ xs (lo + j)) (KK κ xs (lo + i))
structure Kp (lo : Nat) (xs0 xs : Array Keyed) : Prop where
  perm : xs.Perm xs0
  keep : ∀ i, i < lo → xs[i]? = xs0[i]?
theorem Kp.refl (lo : Nat) (xs : Array Keyed) : Kp lo xs xs := ⟨Array.Perm.refl _, fun _ _ => rfl⟩
theorem Kp.trans {lo : Nat} {a b c : Array Keyed} (h : Kp lo a b) (g : Kp lo b c) : Kp lo a c := ⟨g.perm.trans h.perm, fun i hi => (g.keep i hi).trans (h.keep i hi)⟩
theorem Kp.size {lo : Nat} {a b : Array Keyed} (h : Kp lo a b) : b.size = a.size := h.perm.size_eq
theorem Kp.mirror {lo i j : Nat} {xs : Array Keyed} (hi : lo ≤ i) (hj : j ≤ xs.size) : Kp lo xs (mirror xs i j ((j - i) / 2)) := ⟨mirror_perm _ _ _ _, fun k hk => by rw [getElem?_mirror_all hj, if_neg (by omega)]⟩
theorem Kp.kd {lo : Nat} {a b : Array Keyed} (h : Kp lo a b) (hK : ∀ x ∈ a, Kd κ x) : ∀ x ∈ b, Kd κ x := fun x hx => hK x (h.perm.mem_iff.mp hx)
def ascL (lo a nrem : Nat) : StateT SortSt Sem AscSt :=
  forIn [a:nrem] ((none, a) : AscSt) fun _ __s => do
    let __x ← ltAt' (lo + __s.snd) (lo + __s.snd - 1)
    match __x with
    | some smaller => if smaller = true then pure (ForInStep.done (none, __s.snd)) else pure (ForInStep.yield (none, __s.snd + 1))
    | _ => pure (ForInStep.done (some none, __s.snd))
def tail3L (lo n nrem : Nat) : StateT SortSt Sem (Option Nat) := do
  reverseSlice' lo (lo + n)
  let __s ← ascL lo n nrem
  match __s.fst with
  | some r => pure r
  | none => pure (some __s.snd)
def descL (lo n nrem : Nat) : StateT SortSt Sem DescSt :=
  forIn [n:nrem] ((none, n, 0) : DescSt) fun _ __s => do
    let __x ← ltAt' (lo + __s.snd.fst) (lo + __s.snd.fst - 1)
    match __x with
    | some smaller =>
      if smaller = true then
        if __s.snd.snd > 0 then do
          reverseSlice' (lo + __s.snd.fst - (__s.snd.snd + 1)) (lo + __s.snd.fst)
          pure (ForInStep.yield (none, __s.snd.fst + 1, 0))
        else pure (ForInStep.yield (none, __s.snd.fst + 1, 0))
      else do
        let __x ← ltAt' (lo + __s.snd.fst - 1) (lo + __s.snd.fst)
        match __x with
        | some larger =>
          if larger = true then pure (ForInStep.done (none, __s.snd.fst, __s.snd.snd))
          else pure (ForInStep.yield (none, __s.snd.fst + 1, __s.snd.snd + 1))
        | _ => pure (ForInStep.done (some none, __s.snd.fst, __s.snd.snd))
    | _ => pure (ForInStep.done (some none, __s.snd.fst, __s.snd.snd))
def descPL (lo n nrem : Nat) : StateT SortSt Sem (Option Nat) := do
  liftM (rule "list.sort.descending-run")
  let __s ← descL lo (n + 1) nrem
  match __s.fst with
  | some r => pure r
  | none =>
    if __s.snd.snd > 0 then do
      reverseSlice' (lo + __s.snd.fst - (__s.snd.snd + 1)) (lo + __s.snd.fst)
      tail3L lo __s.snd.fst nrem
    else tail3L lo __s.snd.fst nrem
theorem countRunL_eq (lo nrem : Nat) : countRun' lo nrem = (do
    let __s ← ascL lo 1 nrem
    match __s.fst with
    | some r => pure r
    | none =>
      if (__s.snd == nrem) = true then pure (some __s.snd)
      else if __s.snd > 1 then do
        let __x ← ltAt' lo (lo + __s.snd - 1)
        match __x with
        | some rose => if rose = true then pure (some __s.snd) else do
            reverseSlice' lo (lo + __s.snd)
            descPL lo __s.snd nrem
        | _ => pure none
      else descPL lo __s.snd nrem) := by
  rw [countRun'_eq]
  dsimp only
  unfold descPL tail3L descL ascL
  congr 1
  funext __s
  obtain ⟨r, n⟩ := __s
  cases r with
  | some r => rfl
  | none =>
    dsimp only
    split
    · rfl
    · split
      · congr 1
        funext x
        cases x with
        | none => rfl
        | some rose =>
          dsimp only
          split
          · rfl
          · congr 1
            funext _r
            congr 1; funext _u; congr 1; congr 1; funext s2; obtain ⟨r2, n2, q2⟩ := s2; cases r2 with
            | some r2 => rfl
            | none =>
              dsimp only
              split
              · congr 1; funext _v; congr 1; funext _w; congr 1; funext s3; obtain ⟨r3, n3⟩ := s3; cases r3 <;> rfl
              · congr 1; funext _w; congr 1; funext s3; obtain ⟨r3, n3⟩ := s3; cases r3 <;> rfl
      · congr 1; funext _u; congr 1; congr 1; funext s2; obtain ⟨r2, n2, q2⟩ := s2; cases r2 with
        | some r2 => rfl
        | none =>
          dsimp only
          split
          · congr 1; funext _v; congr 1; funext _w; congr 1; funext s3; obtain ⟨r3, n3⟩ := s3; cases r3 <;> rfl
          · congr 1; funext _w; congr 1; funext s3; obtain ⟨r3, n3⟩ := s3; cases r3 <;> rfl
theorem wpS_rev {st : SortSt} {i j : Nat} {Q : Unit → SortSt → Prop} (h : Q () (setArr st (mirror (arrOf st) i j ((j - i) / 2)))) : wpS (model prog w) A E s (reverseSlice' i j) Q st := by
  rw [reverseSlice'_eq]
  exact wpS_modify h
theorem wpS_ascL {st : SortSt} {lo a nrem : Nat} {Q : AscSt → SortSt → Prop} (hO : κ.OneLt) (hk : kindOf st = oneType') (hK : ∀ x ∈ arrOf st, Kd κ x) (hn : lo + nrem ≤ (arrOf st).size) (ha : 1 ≤ a) (han : a ≤ nrem) (hs : SegS κ (arrOf st) lo a)
    (h : ∀ n, a ≤ n → n ≤ nrem → SegS κ (arrOf st) lo n → (n = nrem ∨ κ.klt (KK κ (arrOf st) (lo + n)) (KK κ (arrOf st) (lo + n - 1))) → Q (none, n) st) : wpS (model prog w) A E s (ascL lo a nrem) Q st := by
  unfold ascL
  refine wpS_forRange (I := fun x c st' => st' = st ∧ c = (none, x) ∧ SegS κ (arrOf st) lo x) ?step ?fin ⟨rfl, rfl, hs⟩
  case fin =>
    rintro c st' ⟨rfl, rfl, hs'⟩
    rw [show max a nrem = nrem by omega] at hs' ⊢
    exact h nrem han (Nat.le_refl _) hs' (.inl rfl)
  case step =>
    rintro x c st' hax hxn ⟨rfl, rfl, hs'⟩
    dsimp only
    refine wpS_bind (wpS_ltX hO hk hK (by omega) (by omega) ?_)
    cases hless : κ.blt (KK κ (arrOf st') (lo + x)) (KK κ (arrOf st') (lo + x - 1))
    case true =>
      exact wpS_pure (h x hax (by omega) hs' (.inr hless))
    case false =>
      refine wpS_pure ⟨rfl, rfl, fun i j hij hj => ?_⟩
      by_cases hjx : j < x
      · exact hs' i j hij hjx
      · have hj' : j = x := by omega
        subst hj'
        by_cases hi' : i = j
        · subst hi'; exact KeyOrd.kle_refl _
        · have q := hs' i (j - 1) (by omega) (by omega)
          rw [show lo + (j - 1) = lo + j - 1 by omega] at q
          exact KeyOrd.kle_trans q hless
def CRo (κ : KeyKind) (st : SortSt) (lo nrem : Nat) (Q : Option Nat → SortSt → Prop) : Prop := ∀ m xs, Kp lo (arrOf st) xs → 1 ≤ m → m ≤ nrem → SegS κ xs lo m → Q (some m) (setArr st xs)
theorem CRo.next {st : SortSt} {lo nrem : Nat} {xs : Array Keyed} {Q : Option Nat → SortSt → Prop} (h : CRo κ st lo nrem Q) (hp : Kp lo (arrOf st) xs) : CRo κ (setArr st xs) lo nrem Q := fun m ys k1 k2 k3 k4 => h m ys (hp.trans k1) k2 k3 k4
theorem wpS_tail3L {st : SortSt} {lo n nrem : Nat} {Q : Option Nat → SortSt → Prop} (hO : κ.OneLt) (hk : kindOf st = oneType') (hK : ∀ x ∈ arrOf st, Kd κ x) (hn : lo + nrem ≤ (arrOf st).size) (h1 : 1 ≤ n) (hnn : n ≤ nrem) (hs : SegN κ (arrOf st) lo n) (h : CRo κ st lo nrem Q) : wpS (model prog w) A E s (tail3L lo n nrem) Q st := by
  unfold tail3L
  have hsz : lo + n ≤ (arrOf st).size := by omega
  have kp := Kp.mirror (lo := lo) (i := lo) (Nat.le_refl _) hsz
  refine wpS_bind (wpS_rev ?_)
  refine wpS_bind (wpS_ascL hO hk (kp.kd hK) (by show lo + nrem ≤ (mirror _ _ _ _).size; rw [kp.size]; exact hn) h1 hnn ?_ fun m hm1 hm2 hsm _ => wpS_pure (h m _ kp (by omega) hm2 hsm))
  intro i j hij hj
  show κ.kle (KK κ (mirror (arrOf st) lo (lo + n) ((lo + n - lo) / 2)) (lo + i)) (KK κ (mirror (arrOf st) lo (lo + n) ((lo + n - lo) / 2)) (lo + j))
  rw [KK_mirror hsz, KK_mirror hsz, if_pos (by omega), if_pos (by omega)]
  have := hs (n - 1 - j) (n - 1 - i) (by omega) (by omega)
  rw [show lo + (n - 1 - j) = lo + (lo + n) - 1 - (lo + j) by omega, show lo + (n - 1 - i) = lo + (lo + n) - 1 - (lo + i) by omega] at this
  exact this
theorem wpS_descL {st : SortSt} {lo n nrem : Nat} {Q : DescSt → SortSt → Prop} (hO : κ.OneLt) (hk : kindOf st = oneType') (hK : ∀ x ∈ arrOf st, Kd κ x) (hn : lo + nrem ≤ (arrOf st).size) (h1 : 1 ≤ n) (hnn : n ≤ nrem) (hs : SegN κ (arrOf st) lo n)
    (h : ∀ m neq xs, Kp lo (arrOf st) xs → n ≤ m → m ≤ nrem → SegN κ xs lo m → neq + 1 ≤ m → (∀ i, m - (neq + 1) ≤ i → i < m → KK κ xs (lo + i) = KK κ xs (lo + m - 1)) → Q (none, m, neq) (setArr st xs)) : wpS (model prog w) A E s (descL lo n nrem) Q st := by
  unfold descL
  refine wpS_forRange (I := fun x c st' => ∃ neq xs, c = (none, x, neq) ∧ st' = setArr st xs ∧ Kp lo (arrOf st) xs ∧ SegN κ xs lo x ∧ neq + 1 ≤ x ∧ (∀ i, x - (neq + 1) ≤ i → i < x → KK κ xs (lo + i) = KK κ xs (lo + x - 1))) ?step ?fin ⟨0, arrOf st, rfl, rfl, .refl _ _, hs, by omega, fun i h1 h2 => by congr 1; omega⟩
  case fin =>
    rintro c st' ⟨neq, xs, rfl, rfl, kp, hs', hq, he⟩
    rw [show max n nrem = nrem by omega] at hs' hq he ⊢
    exact h nrem neq xs kp hnn (Nat.le_refl _) hs' hq he
  case step =>
    rintro x c st' hax hxn ⟨neq, xs, rfl, rfl, kp, hs', hq, he⟩
    dsimp only
    have hsize := kp.size
    have hsz : lo + x ≤ xs.size := by omega
    refine wpS_bind (wpS_ltX (st := setArr st xs) hO hk (kp.kd hK) (show lo + x < xs.size by omega) (show lo + x - 1 < xs.size by omega) ?_)
    have step1 : ∀ ys : Array Keyed, (∀ k, KK κ ys k = KK κ xs k) → κ.blt (KK κ xs (lo + x)) (KK κ xs (lo + x - 1)) = true → SegN κ ys lo (x + 1) := by
      intro ys hk' hless i j hij hj
      rw [hk', hk']
      by_cases hjx : j < x
      · exact hs' i j hij hjx
      · have hj' : j = x := by omega
        subst hj'
        by_cases hi' : i = j
        · subst hi'; exact KeyOrd.kle_refl _
        · have q := hs' i (j - 1) (by omega) (by omega)
          rw [show lo + (j - 1) = lo + j - 1 by omega] at q
          exact KeyOrd.kle_trans (KeyOrd.kle_of_klt hless) q
    have heq' : ∀ k, lo + x - (neq + 1) ≤ k → k < lo + x → KK κ xs k = KK κ xs (lo + x - 1) := fun k k1 k2 => by
      have := he (k - lo) (by omega) (by omega)
      rwa [show lo + (k - lo) = k by omega] at this
    cases hless : κ.blt (KK κ xs (lo + x)) (KK κ xs (lo + x - 1))
    case true =>
      dsimp only
      rw [if_pos rfl]
      by_cases hneq : neq > 0
      · rw [if_pos hneq]
        refine wpS_bind (wpS_rev (wpS_pure ⟨0, _, rfl, rfl, kp.trans (Kp.mirror (by omega) hsz), step1 _ (KK_mirror_equal hsz heq') hless, by omega, fun i h1 h2 => by congr 1; omega⟩))
      · rw [if_neg hneq]
        exact wpS_pure ⟨0, xs, rfl, rfl, kp, step1 _ (fun _ => rfl) hless, by omega, fun i h1 h2 => by congr 1; omega⟩
    case false =>
      dsimp only
      rw [if_neg (by decide)]
      refine wpS_bind (wpS_ltX (st := setArr st xs) hO hk (kp.kd hK) (show lo + x - 1 < xs.size by omega) (show lo + x < xs.size by omega) ?_)
      cases hlarger : κ.blt (KK κ xs (lo + x - 1)) (KK κ xs (lo + x))
      case true => exact wpS_pure (h x neq xs kp hax (by omega) hs' hq he)
      case false =>
        have heqx : KK κ xs (lo + x) = KK κ xs (lo + x - 1) := KeyOrd.kle_antisymm hlarger hless
        refine wpS_pure ⟨neq + 1, xs, rfl, rfl, kp, fun i j hij hj => ?_, by omega, fun i h1 h2 => ?_⟩
        · by_cases hjx : j < x
          · exact hs' i j hij hjx
          · have hj' : j = x := by omega
            subst hj'
            by_cases hi' : i = j
            · subst hi'; exact KeyOrd.kle_refl _
            · rw [heqx]
              have q := hs' i (j - 1) (by omega) (by omega)
              rwa [show lo + (j - 1) = lo + j - 1 by omega] at q
        · rw [show lo + (x + 1) - 1 = lo + x by omega]
          by_cases hix : i = x
          · subst hix; rfl
          · rw [heqx]; exact he i (by omega) (by omega)
theorem wpS_descPL {st : SortSt} {lo n nrem : Nat} {Q : Option Nat → SortSt → Prop} (hO : κ.OneLt) (hk : kindOf st = oneType') (hK : ∀ x ∈ arrOf st, Kd κ x) (hn : lo + nrem ≤ (arrOf st).size) (hnn : n + 1 ≤ nrem) (hs : SegN κ (arrOf st) lo (n + 1)) (h : CRo κ st lo nrem Q) : wpS (model prog w) A E s (descPL lo n nrem) Q st := by
  unfold descPL
  refine wpS_bind (wpS_lift (wpAny_rule ⟨rfl, ?_⟩))
  refine wpS_bind (wpS_descL hO hk hK hn (by omega) hnn hs fun m neq xs kp hm1 hm2 hs' hq he => ?_)
  dsimp only
  have hsize := kp.size
  have hsz : lo + m ≤ xs.size := by omega
  have heq' : ∀ k, lo + m - (neq + 1) ≤ k → k < lo + m → KK κ xs k = KK κ xs (lo + m - 1) := fun k k1 k2 => by
    have := he (k - lo) (by omega) (by omega)
    rwa [show lo + (k - lo) = k by omega] at this
  by_cases hneq : neq > 0
  · rw [if_pos hneq]
    have kp2 := kp.trans (Kp.mirror (lo := lo) (i := lo + m - (neq + 1)) (by omega) hsz)
    refine wpS_bind (wpS_rev (wpS_tail3L hO hk (kp2.kd hK) (by show lo + nrem ≤ (mirror _ _ _ _).size; rw [kp2.size]; exact hn) (by omega) hm2 ?_ (h.next kp2)))
    intro i j hij hj
    show κ.kle (KK κ (mirror xs _ _ _) (lo + j)) (KK κ (mirror xs _ _ _) (lo + i))
    rw [KK_mirror_equal hsz heq', KK_mirror_equal hsz heq']
    exact hs' i j hij hj
  · rw [if_neg hneq]
    exact wpS_tail3L hO hk (kp.kd hK) (by show lo + nrem ≤ xs.size; omega) (by omega) hm2 hs' (h.next kp)
theorem wpS_countRun {st : SortSt} {lo nrem : Nat} {Q : Option Nat → SortSt → Prop} (hO : κ.OneLt) (hk : kindOf st = oneType') (hK : ∀ x ∈ arrOf st, Kd κ x) (hn : lo + nrem ≤ (arrOf st).size) (h1 : 1 ≤ nrem) (h : CRo κ st lo nrem Q) : wpS (model prog w) A E s (countRun' lo nrem) Q st := by
  rw [countRunL_eq]
  refine wpS_bind (wpS_ascL hO hk hK hn (Nat.le_refl 1) h1 (fun i j hij hj => by have : i = j := (by omega); subst this; exact KeyOrd.kle_refl _) fun n hn1 hn2 hsn hor => ?_)
  dsimp only
  have h' : SegS κ (arrOf st) lo n → Q (some n) st := fun z => h n (arrOf st) (.refl _ _) hn1 hn2 z
  by_cases hnn : n = nrem
  · rw [if_pos (by simpa using hnn)]
    exact wpS_pure (h' hsn)
  · rw [if_neg (by simpa using hnn)]
    have hlt : κ.klt (KK κ (arrOf st) (lo + n)) (KK κ (arrOf st) (lo + n - 1)) := hor.resolve_left hnn
    by_cases hgt : n > 1
    · rw [if_pos hgt]
      refine wpS_bind (wpS_ltX hO hk hK (by omega) (by omega) ?_)
      cases hrose : κ.blt (KK κ (arrOf st) lo) (KK κ (arrOf st) (lo + n - 1))
      case true => exact wpS_pure (h' hsn)
      case false =>
        dsimp only
        rw [if_neg (by decide)]
        have hsz : lo + n ≤ (arrOf st).size := by omega
        have hall : ∀ k, lo ≤ k → k < lo + n → KK κ (arrOf st) k = KK κ (arrOf st) (lo + n - 1) := by
          intro k q hk'
          have a1 := hsn 0 (k - lo) (by omega) (by omega)
          have a2 := hsn (k - lo) (n - 1) (by omega) (by omega)
          rw [show lo + (k - lo) = k by omega] at a1 a2
          rw [show lo + (n - 1) = lo + n - 1 by omega] at a2
          exact KeyOrd.kle_antisymm a2 (KeyOrd.kle_trans hrose a1)
        have kp := Kp.mirror (lo := lo) (i := lo) (Nat.le_refl _) hsz
        refine wpS_bind (wpS_rev (wpS_descPL hO hk (kp.kd hK) (by show lo + nrem ≤ (mirror _ _ _ _).size; rw [kp.size]; exact hn) (by omega) ?_ (h.next kp)))
        intro i j hij hj
        show κ.kle (KK κ (mirror (arrOf st) _ _ _) (lo + j)) (KK κ (mirror (arrOf st) _ _ _) (lo + i))
        rw [KK_mirror_equal hsz hall, KK_mirror_equal hsz hall]
        by_cases hjn : j < n
        · rw [hall (lo + i) (by omega) (by omega), hall (lo + j) (by omega) (by omega)]; exact KeyOrd.kle_refl _
        · have hj' : j = n := by omega
          subst hj'
          by_cases hi' : i = j
          · subst hi'; exact KeyOrd.kle_refl _
          · rw [hall (lo + i) (by omega) (by omega)]; exact KeyOrd.kle_of_klt hlt
    · rw [if_neg hgt]
      have hn1' : n = 1 := by omega
      subst hn1'
      refine wpS_descPL hO hk hK hn (by omega) ?_ h
      intro i j hij hj
      by_cases hi' : i = j
      · subst hi'; exact KeyOrd.kle_refl _
      · have hi0 : i = 0 := by omega
        have hj1 : j = 1 := by omega
        subst hi0; subst hj1
        exact KeyOrd.kle_of_klt hlt
theorem wpS_binary {st : SortSt} {lo n ok : Nat} {Q : Bool → SortSt → Prop} (hO : κ.OneLt) (hk : kindOf st = oneType') (hK : ∀ x ∈ arrOf st, Kd κ x) (hn : lo + n ≤ (arrOf st).size) (hok : ok ≤ n) (hs : SegS κ (arrOf st) lo ok)
    (h : ∀ xs, Kp lo (arrOf st) xs → SegS κ xs lo n → Q true (setArr st xs)) : wpS (model prog w) A E s (binarySort' lo n ok) Q st := by
  rw [binarySort'_eq]
  refine wpS_bind (wpS_mono (wpS_forRange (I := fun k c st' => c = (none, ()) ∧ ∃ xs, st' = setArr st xs ∧ Kp lo (arrOf st) xs ∧ SegS κ xs lo (min k n))
    (Q := fun c st' => c = (none, ()) ∧ ∃ xs, st' = setArr st xs ∧ Kp lo (arrOf st) xs ∧ SegS κ xs lo n) ?step ?fin ?init) ?post)
  case post =>
    rintro c st' ⟨rfl, xs, rfl, kp, hs'⟩
    exact wpS_pure (h xs kp hs')
  case init =>
    refine ⟨rfl, arrOf st, rfl, .refl _ _, fun i j hij hj => ?_⟩
    by_cases h1 : ok = 0
    · have : i = j := by omega
      subst this; exact KeyOrd.kle_refl _
    · exact hs i j hij (by omega)
  case fin =>
    rintro c st' ⟨hc, xs, e, kp, hs'⟩
    refine ⟨hc, xs, e, kp, ?_⟩
    rwa [show min (max (max ok 1) n) n = n by omega] at hs'
  case step =>
    rintro k c st' hak hkn ⟨rfl, xs, rfl, kp, hs'⟩
    rw [show min k n = k by omega] at hs'
    have hsize := kp.size
    have hkx : lo + k < xs.size := by omega
    refine wpS_bind (wpS_mono (wpS_forRange (I := fun x c st'' => st'' = setArr st xs ∧ ∃ l r, c = (none, l, r) ∧ l ≤ r ∧ r ≤ k ∧ r - l ≤ k - x ∧
        (∀ i, i < l → κ.kle (KK κ xs (lo + i)) (KK κ xs (lo + k))) ∧ (∀ i, r ≤ i → i < k → κ.klt (KK κ xs (lo + k)) (KK κ xs (lo + i))))
      (Q := fun c st'' => st'' = setArr st xs ∧ ∃ l r, c = (none, l, r) ∧ l ≤ k ∧
        (∀ i, i < l → κ.kle (KK κ xs (lo + i)) (KK κ xs (lo + k))) ∧ (∀ i, l ≤ i → i < k → κ.klt (KK κ xs (lo + k)) (KK κ xs (lo + i)))) ?istep ?ifin ?iinit) ?ipost)
    case iinit => exact ⟨rfl, 0, k, rfl, by omega, by omega, by omega, fun i hi => by omega, fun i h1 h2 => by omega⟩
    case ifin =>
      rintro c st'' ⟨rfl, l, r, rfl, hlr, hrk, hm, hlo, hhi⟩
      have : l = r := by omega
      subst this
      exact ⟨rfl, l, l, rfl, hrk, hlo, hhi⟩
    case istep =>
      rintro x c st'' _ hxk ⟨rfl, l, r, rfl, hlr, hrk, hm, hlo, hhi⟩
      dsimp only
      by_cases hge : l ≥ r
      · rw [if_pos hge]
        have : l = r := by omega
        subst this
        exact wpS_pure ⟨rfl, l, l, rfl, hrk, hlo, hhi⟩
      · rw [if_neg hge]
        refine wpS_bind (wpS_ltX (st := setArr st xs) hO hk (kp.kd hK) hkx (show lo + (l + r) / 2 < xs.size by omega) ?_)
        cases hless : κ.blt (KK κ xs (lo + k)) (KK κ xs (lo + (l + r) / 2))
        case true =>
          refine wpS_pure ⟨rfl, l, (l + r) / 2, rfl, by omega, by omega, by omega, hlo, fun i h1 h2 => ?_⟩
          exact KeyOrd.klt_of_klt_of_kle hless (hs' _ _ h1 h2)
        case false =>
          refine wpS_pure ⟨rfl, (l + r) / 2 + 1, r, rfl, by omega, by omega, by omega, fun i h1 => ?_, hhi⟩
          exact KeyOrd.kle_trans (hs' i ((l + r) / 2) (by omega) (by omega)) (show κ.kle _ _ from hless)
    case ipost =>
      rintro c st'' ⟨rfl, l, r, rfl, hlk, hlo, hhi⟩
      show wpS _ _ _ _ (do moveDown' (lo + k) (lo + l); pure (ForInStep.yield (none, ()))) _ _
      rw [moveDown'_eq]
      refine wpS_bind (wpS_modify (wpS_pure ⟨rfl, _, rfl, kp.trans ⟨bubble_perm _ _ _, fun i hi => ?_⟩, ?_⟩))
      · show (bubble xs (lo + k) (lo + k - (lo + l)))[i]? = xs[i]?
        rw [getElem?_bubble hkx _ (by omega), if_neg (by omega), if_neg (by omega)]
      rw [show min (k + 1) n = k + 1 by omega]
      intro i j hij hj
      show κ.kle (KK κ (bubble xs (lo + k) (lo + k - (lo + l))) (lo + i)) (KK κ (bubble xs (lo + k) (lo + k - (lo + l))) (lo + j))
      rw [KK_bubble hkx (by omega), KK_bubble hkx (by omega), show lo + k - (lo + k - (lo + l)) = lo + l by omega]
      have ei : ∀ t, 0 < t → lo + t - 1 = lo + (t - 1) := fun t ht => by omega
      repeat' split
      all_goals first
        | (exfalso; omega)
        | exact KeyOrd.kle_refl _
        | (rw [ei _ (by omega), ei _ (by omega)]; exact hs' _ _ (by omega) (by omega))
        | (rw [ei _ (by omega)]; exact hlo _ (by omega))
        | (rw [ei _ (by omega)]; exact KeyOrd.kle_of_klt (hhi _ (by omega) (by omega)))
        | (rw [ei _ (by omega)]; exact hs' _ _ (by omega) (by omega))
        | exact hlo _ (by omega)
        | exact KeyOrd.kle_of_klt (hhi _ (by omega) (by omega))
        | exact hs' _ _ (by omega) (by omega)
end
end L2
set_option Elab.async false
set_option linter.all false
set_option maxRecDepth 100000
set_option maxHeartbeats 4000000
namespace L2
open PySem PySem.Spec PyProof.Rows
section
variable {prog : Program} {w : World} {A : Around} {E : Value → Shared → Prop} {s : Shared} {κ : KeyKind}
def starts : Nat → List (List Keyed) → List (Nat × Nat)
  | _, [] => []
  | n, r :: rs => (n, r.length) :: starts (n + r.length) rs
theorem starts_append : ∀ (n : Nat) (A B : List (List Keyed)), starts n (A ++ B) = starts n A ++ starts (n + A.flatten.length) B
  | n, [], B => by simp [starts]
  | n, r :: A, B => by
    rw [List.cons_append, starts, starts_append (n + r.length) A B, starts, List.flatten_cons, List.length_append, List.cons_append, Nat.add_assoc]
theorem starts_length : ∀ (n : Nat) (A : List (List Keyed)), (starts n A).length = A.length
  | _, [] => rfl
  | n, r :: A => by rw [starts, List.length_cons, starts_length, List.length_cons]
def pr (x : Nat × Nat × Nat) : Nat × Nat := (x.1, x.2.1)
structure Rn (κ : KeyKind) (l : List Keyed) (pend : List (Nat × Nat × Nat)) (runs : List (List Keyed)) (T : List Keyed) : Prop where
  eq : l = runs.flatten ++ T
  pos : ∀ r ∈ runs, 0 < r.length
  srt : ∀ r ∈ runs, Srt κ r
  pnd : pend.map pr = starts 0 runs
theorem Rn.len {l : List Keyed} {pend : List (Nat × Nat × Nat)} {runs : List (List Keyed)} {T : List Keyed} (h : Rn κ l pend runs T) : pend.length = runs.length := by
  have := congrArg List.length h.pnd
  rwa [List.length_map, starts_length] at this
theorem flat_len : ∀ (runs : List (List Keyed)), (∀ r ∈ runs, 0 < r.length) → runs.length ≤ runs.flatten.length
  | [], _ => Nat.le_refl _
  | r :: runs, h => by
    have := flat_len runs fun x hx => h x (List.mem_cons_of_mem _ hx)
    have := h r (List.mem_cons_self ..)
    rw [List.flatten_cons, List.length_append, List.length_cons]
    omega
theorem Rn.merge {l l' : List Keyed} {pend : List (Nat × Nat × Nat)} {R1 R2 : List (List Keyed)} {r1 r2 m T : List Keyed} {p : Nat} (h : Rn κ l pend (R1 ++ r1 :: r2 :: R2) T) (hm : Mg κ r1 r2 m) (hl : l' = R1.flatten ++ (m ++ (R2.flatten ++ T))) :
    Rn κ l' ((pend.set R1.length (R1.flatten.length, r1.length + r2.length, p)).eraseIdx (R1.length + 1)) (R1 ++ m :: R2) T := by
  have ml : m.length = r1.length + r2.length := by rw [hm.perm.length_eq, List.length_append]
  refine ⟨by rw [hl, List.flatten_append, List.flatten_cons, List.append_assoc, List.append_assoc], fun r hr => ?_, fun r hr => ?_, ?_⟩
  · rcases List.mem_append.mp hr with z | z
    · exact h.pos r (List.mem_append_left _ z)
    · rcases List.mem_cons.mp z with z | z
      · rw [z, ml]; have := h.pos r1 (by simp); omega
      · exact h.pos r (by simp [z])
  · rcases List.mem_append.mp hr with z | z
    · exact h.srt r (List.mem_append_left _ z)
    · rcases List.mem_cons.mp z with z | z
      · rw [z]; exact hm.srt
      · exact h.srt r (by simp [z])
  · have hp := h.pnd
    rw [starts_append, Nat.zero_add] at hp
    obtain ⟨A, B, rfl, hA, hB⟩ := List.map_eq_append_iff.mp hp
    have lA : A.length = R1.length := by have := congrArg List.length hA; rwa [List.length_map, starts_length] at this
    rw [starts, starts] at hB
    match B, hB with
    | [], hB => simp at hB
    | [_], hB => simp at hB
    | x :: y :: B, hB =>
      simp only [List.map_cons, List.cons.injEq] at hB
      obtain ⟨_, _, hB⟩ := hB
      have e1 : (A ++ x :: y :: B).set R1.length (R1.flatten.length, r1.length + r2.length, p) = A ++ (R1.flatten.length, r1.length + r2.length, p) :: y :: B := by
        rw [List.set_append_right _ _ (by omega), lA, Nat.sub_self]; rfl
      have e2 : (A ++ (R1.flatten.length, r1.length + r2.length, p) :: y :: B).eraseIdx (R1.length + 1) = A ++ (R1.flatten.length, r1.length + r2.length, p) :: B := by
        rw [List.eraseIdx_append_of_length_le (by omega), lA, Nat.add_sub_cancel_left]; rfl
      rw [e1, e2, List.map_append, List.map_cons, hA, hB, starts_append, starts, ml]
      simp only [Nat.zero_add, pr]
      rw [Nat.add_assoc]
theorem wpS_mergeRuns {st : SortSt} {R1 R2 : List (List Keyed)} {r1 r2 T : List Keyed} {Q : Bool → SortSt → Prop} (hO : κ.OneLt) (hk : kindOf st = oneType') (hf : failedOf st = none) (hK : ∀ x ∈ (arrOf st).toList, Kd κ x) (h : Rn κ (arrOf st).toList (pendingOf st).toList (R1 ++ r1 :: r2 :: R2) T)
    (hq : ∀ m xs pend g, xs.Perm (arrOf st) → Rn κ xs.toList pend.toList (R1 ++ m :: R2) T → xs.toList.drop (R1 ++ r1 :: r2 :: R2).flatten.length = T → Q true (SortSt.mk' (kindOf st) xs pend g (failedOf st))) : wpS (model prog w) A E s (mergeAt' R1.length) Q st := by
  have hp := h.pnd
  rw [starts_append, Nat.zero_add] at hp
  obtain ⟨PA, PB, hAB, hA, hB⟩ := List.map_eq_append_iff.mp hp
  have lA : PA.length = R1.length := by have := congrArg List.length hA; rwa [List.length_map, starts_length] at this
  rw [starts, starts] at hB
  match PB, hB with
  | [], hB => simp at hB
  | [_], hB => simp at hB
  | x :: y :: PB, hB =>
    simp only [List.map_cons, List.cons.injEq] at hB
    obtain ⟨hx, hy, _⟩ := hB
    obtain ⟨x1, x2, x3⟩ := x
    obtain ⟨y1, y2, y3⟩ := y
    cases hx
    cases hy
    have ea : (arrOf st).toList = R1.flatten ++ (r1 ++ (r2 ++ (R2.flatten ++ T))) := by rw [h.eq]; simp [List.append_assoc]
    refine wpS_mergeAt (P := R1.flatten) (r1 := r1) (r2 := r2) (S := R2.flatten ++ T) (p := x3) (q := y3) hO hk hf hK ea ?_ ?_ (h.pos r1 (by simp)) (h.pos r2 (by simp)) (h.srt r1 (by simp)) (h.srt r2 (by simp)) fun m xs g hm hxs => ?_
    · rw [← Array.getElem?_toList, hAB, List.getElem?_append_right (by omega), lA, Nat.sub_self]; rfl
    · rw [← Array.getElem?_toList, hAB, List.getElem?_append_right (by omega), lA, Nat.add_sub_cancel_left]; rfl
    · have ml : m.length = r1.length + r2.length := by rw [hm.perm.length_eq, List.length_append]
      have hr := h.merge (p := x3) hm hxs
      refine hq m xs _ g ?_ (by rw [Array.toList_eraseIdxIfInBounds, Array.toList_setIfInBounds]; exact hr) ?_
      · rw [Array.perm_iff_toList_perm, hxs, ea]
        refine List.Perm.append_left _ ?_
        rw [← List.append_assoc r1]
        exact hm.perm.append_right _
      · rw [hxs]
        simp only [List.flatten_append, List.flatten_cons, ← List.append_assoc]
        exact List.drop_left' (by simp [ml]; omega)
end
end L2
set_option Elab.async false
set_option linter.all false
set_option maxRecDepth 100000
set_option maxHeartbeats 4000000
namespace L2
open PySem PySem.Spec PyProof.Rows
section
variable {prog : Program} {w : World} {A : Around} {E : Value → Shared → Prop} {s : Shared} {κ : KeyKind}
theorem Kp.take {lo : Nat} {xs ys : Array Keyed} (h : Kp lo xs ys) (hl : lo ≤ xs.size) : ys.toList.take lo = xs.toList.take lo := by
  refine List.ext_getElem? fun i => ?_
  rw [List.getElem?_take, List.getElem?_take]
  by_cases c : i < lo
  · rw [if_pos c, if_pos c, Array.getElem?_toList, Array.getElem?_toList]; exact h.keep i c
  · rw [if_neg c, if_neg c]
theorem seg_run {lo n : Nat} {xs : Array Keyed} {F T : List Keyed} (hF : xs.toList.take lo = F) (hn : lo + n ≤ xs.size) (hs : SegS κ xs lo n) : ∃ R T', xs.toList = F ++ (R ++ T') ∧ R.length = n ∧ Srt κ R := by
  refine ⟨(xs.toList.drop lo).take n, (xs.toList.drop lo).drop n, ?_, ?_, ?_⟩
  · rw [List.take_append_drop, ← hF, List.take_append_drop]
  · rw [List.length_take, List.length_drop, Array.length_toList]; omega
  · refine List.pairwise_iff_getElem.mpr fun i j hi hj hij => ?_
    rw [List.length_take, List.length_drop, Array.length_toList] at hi hj
    have := hs i j (by omega) (by omega)
    rw [KK_kOf (by omega), KK_kOf (by omega)] at this
    simpa using this
theorem Rn.push {l l' : List Keyed} {pend : List (Nat × Nat × Nat)} {runs : List (List Keyed)} {R T T' : List Keyed} {lo n p : Nat} (h : Rn κ l pend runs T) (hl : l' = runs.flatten ++ (R ++ T')) (hlo : runs.flatten.length = lo) (hn : R.length = n) (h0 : 0 < n) (hs : Srt κ R) : Rn κ l' (pend ++ [(lo, n, p)]) (runs ++ [R]) T' := by
  refine ⟨by rw [hl]; simp [List.append_assoc], fun r hr => ?_, fun r hr => ?_, ?_⟩
  · rcases List.mem_append.mp hr with z | z
    · exact h.pos r z
    · rw [List.mem_singleton.mp z]; omega
  · rcases List.mem_append.mp hr with z | z
    · exact h.srt r z
    · rw [List.mem_singleton.mp z]; exact hs
  · rw [List.map_append, h.pnd, starts_append, Nat.zero_add, starts, starts, hlo, hn]; rfl
structure So (κ : KeyKind) (st st' : SortSt) (runs : List (List Keyed)) (T : List Keyed) : Prop where
  kind : kindOf st' = oneType'
  failed : failedOf st' = none
  perm : (arrOf st').Perm (arrOf st)
  rn : Rn κ (arrOf st').toList (pendingOf st').toList runs T
theorem So.kd {st st' : SortSt} {runs : List (List Keyed)} {T : List Keyed} (h : So κ st st' runs T) (hK : ∀ x ∈ arrOf st, Kd κ x) : ∀ x ∈ arrOf st', Kd κ x := fun x hx => hK x (h.perm.mem_iff.mp hx)
theorem split2 {α : Type} : ∀ (l : List α) (i : Nat), i + 1 < l.length → ∃ A x y B, l = A ++ x :: y :: B ∧ A.length = i
  | x :: y :: B, 0, _ => ⟨[], x, y, B, rfl, rfl⟩
  | x :: l, i + 1, h => by
    obtain ⟨A, u, v, B, e, hl⟩ := split2 l i (by simpa using h)
    exact ⟨x :: A, u, v, B, by rw [e]; rfl, by rw [List.length_cons, hl]⟩
  | [_], 0, h => by simp at h
  | [], _, h => by simp at h
theorem wpS_mergeSo {st st' : SortSt} {runs : List (List Keyed)} {T : List Keyed} {i : Nat} {Q : Bool → SortSt → Prop} (hO : κ.OneLt) (hK : ∀ x ∈ arrOf st, Kd κ x) (h : So κ st st' runs T) (hi : i + 1 < runs.length)
    (hq : ∀ st2 runs2, So κ st st2 runs2 T → runs2.length + 1 = runs.length → runs2.flatten.length = runs.flatten.length → Q true st2) : wpS (model prog w) A E s (mergeAt' i) Q st' := by
  obtain ⟨R1, r1, r2, R2, e, hl⟩ := split2 runs i hi
  subst e hl
  refine wpS_mergeRuns hO h.kind h.failed (fun x hx => h.kd hK x (by simpa using hx)) h.rn fun m xs pend g hp hr hd => ?_
  refine hq _ (R1 ++ m :: R2) ⟨h.kind, h.failed, hp.trans h.perm, hr⟩ (by simp; omega) ?_
  have e1 := congrArg List.length hr.eq
  have e2 := congrArg List.length h.rn.eq
  rw [List.length_append, Array.length_toList] at e1 e2
  have := hp.size_eq
  show (R1 ++ m :: R2).flatten.length = _
  have e3 : xs.size = (arrOf st').size := this
  omega
theorem map_modify {l : List (Nat × Nat × Nat)} {i : Nat} {f : Nat × Nat × Nat → Nat × Nat × Nat} (hf : ∀ x, pr (f x) = pr x) : (l.modify i f).map pr = l.map pr := by
  refine List.ext_getElem? fun j => ?_
  rw [List.getElem?_map, List.getElem?_map, List.getElem?_modify]
  cases l[j]? with
  | none => rfl
  | some x =>
    by_cases c : i = j
    · simp [c, hf]
    · simp [c]
theorem wpS_sortRunsA {st : SortSt} {Q : Unit → SortSt → Prop} (hO : κ.OneLt) (hk : kindOf st = oneType') (hf : failedOf st = none) (hp : pendingOf st = #[]) (hK : ∀ x ∈ arrOf st, Kd κ x)
    (h : ∀ st', (arrOf st').Perm (arrOf st) → failedOf st' = none → Srt κ (arrOf st').toList → Q () st') : wpS (model prog w) A E s sortRuns' Q st := by
  rw [sortRuns'_eq]
  refine wpS_bind (wpS_get ?_)
  dsimp only
  generalize minRun' (arrOf st).size (arrOf st).size 0 = mr
  generalize hsize : (arrOf st).size = size
  refine wpS_bind (wpS_mono (wpS_forRange
    (I := fun x c st' => ∃ lo runs T, c = (none, lo) ∧ So κ st st' runs T ∧ runs.flatten.length = lo ∧ x ≤ lo ∧ lo ≤ size)
    (Q := fun c st' => ∃ runs, c = (none, size) ∧ So κ st st' runs []) ?step ?fin ⟨0, [], (arrOf st).toList, rfl, ⟨hk, hf, Array.Perm.refl _, ⟨rfl, by simp, by simp, by rw [hp]; rfl⟩⟩, rfl, by omega, by omega⟩) ?post)
  case fin =>
    rintro c st' ⟨lo, runs, T, rfl, hS, hl, h1, h2⟩
    have e : lo = size := by omega
    have hT : T = [] := by
      have e1 := congrArg List.length hS.rn.eq
      rw [List.length_append, Array.length_toList, hS.perm.size_eq] at e1
      exact List.eq_nil_of_length_eq_zero (by omega)
    subst hT
    exact ⟨runs, by rw [e], hS⟩
  case post =>
    rintro c st' ⟨runs, rfl, hS⟩
    dsimp only
    have hsz : (arrOf st').size = size := hS.perm.size_eq.trans hsize
    have hfl : runs.length ≤ size := by
      have e1 := congrArg List.length hS.rn.eq
      rw [List.append_nil, Array.length_toList] at e1
      have := flat_len runs hS.rn.pos
      omega
    refine wpS_bind (wpS_mono (wpS_forRange (I := fun x c st2 => c = (none, ()) ∧ ∃ runs2, So κ st st2 runs2 [] ∧ runs2.length + x ≤ size) (Q := fun c st2 => c = (none, ()) ∧ ∃ runs2, So κ st st2 runs2 [] ∧ runs2.length ≤ 1) ?step2 ?fin2 ⟨rfl, runs, hS, by omega⟩) ?post2)
    case fin2 =>
      rintro c st2 ⟨hc, runs2, h1, h2⟩
      exact ⟨hc, runs2, h1, by omega⟩
    case post2 =>
      rintro c st2 ⟨rfl, runs2, h1, h2⟩
      refine wpS_pure (h st2 h1.perm h1.failed ?_)
      rw [h1.rn.eq, List.append_nil]
      match runs2, h1.rn.srt, h2 with
      | [], _, _ => exact List.Pairwise.nil
      | [r], hs, _ => simpa using hs r (by simp)
      | _ :: _ :: _, _, h2 => simp at h2
    case step2 =>
      rintro x c st2 _ hx ⟨rfl, runs2, h1, h2⟩
      refine wpS_bind (wpS_get ?_)
      have hlen : (pendingOf st2).size = runs2.length := by have := h1.rn.len; rwa [Array.length_toList] at this
      by_cases hle : (pendingOf st2).size ≤ 1
      · rw [if_pos hle]
        exact wpS_pure ⟨rfl, runs2, h1, by omega⟩
      rw [if_neg hle]
      have go : ∀ i, i + 1 < runs2.length → wpS (model prog w) A E s (do
          let b ← mergeAt' i
          if (!b) = true then pure (ForInStep.done (some (), ())) else pure (ForInStep.yield (none, ()))) (fun r st3 => match r with
            | ForInStep.done c => c = (none, ()) ∧ ∃ runs2, So κ st st3 runs2 [] ∧ runs2.length ≤ 1
            | ForInStep.yield c => c = (none, ()) ∧ ∃ runs2, So κ st st3 runs2 [] ∧ runs2.length + (x + 1) ≤ size) st2 := fun i hi => by
        refine wpS_bind (wpS_mergeSo hO hK h1 hi fun st3 runs3 h3 h4 _ => ?_)
        exact wpS_pure ⟨rfl, runs3, h3, by omega⟩
      have hif : ∀ (p : Prop) [Decidable p] (a b : Nat), a + 1 < runs2.length → b + 1 < runs2.length → (if p then a else b) + 1 < runs2.length := fun p _ a b ha hb => by split <;> assumption
      exact wpS_mono (go _ (hif _ _ _ (by omega) (by omega))) fun r st3 hr => by cases r <;> exact hr
  case step =>
    rintro x c st' _ hx ⟨lo, runs, T, rfl, hS, hl, h1, h2⟩
    dsimp only
    have hsz : (arrOf st').size = size := hS.perm.size_eq.trans hsize
    by_cases hge : lo ≥ size
    · rw [if_pos hge]
      have hT : T = [] := by
        have e1 := congrArg List.length hS.rn.eq
        rw [List.length_append, Array.length_toList] at e1
        exact List.eq_nil_of_length_eq_zero (by omega)
      subst hT
      exact wpS_pure ⟨runs, by rw [show lo = size by omega], hS⟩
    rw [if_neg hge]
    have hF : (arrOf st').toList.take lo = runs.flatten := by rw [hS.rn.eq, List.take_left' hl]
    refine wpS_bind (wpS_countRun hO hS.kind (hS.kd hK) (by omega) (by omega) fun m xs kp hm1 hm2 hseg => ?_)
    dsimp only
    have mkS : ∀ {n : Nat} {ys : Array Keyed}, Kp lo (arrOf st') ys → SegS κ ys lo n → lo + n ≤ size → ∃ R T', So κ st (setArr st' ys) runs (R ++ T') ∧ R.length = n ∧ Srt κ R := fun {n ys} k2 sg hn => by
      have e := k2.size
      obtain ⟨R, T', e1, e2, e3⟩ := seg_run (κ := κ) (F := runs.flatten) (T := T) ((k2.take (by omega)).trans hF) (by omega) sg
      exact ⟨R, T', ⟨hS.kind, hS.failed, k2.perm.trans hS.perm, ⟨e1, hS.rn.pos, hS.rn.srt, hS.rn.pnd⟩⟩, e2, e3⟩
    by_cases hlt : m < mr
    case' pos =>
      rw [if_pos hlt]
      refine wpS_bind (wpS_lift (wpAny_rule ⟨rfl, ?_⟩))
      refine wpS_bind (wpS_binary (st := setArr st' xs) hO hS.kind (kp.kd (hS.kd hK)) (by show lo + min (size - lo) mr ≤ xs.size; rw [kp.size]; omega) (by omega) hseg fun ys kp2 hs2 => ?_)
      rw [if_neg (by decide)]
      have hn0 : 0 < min (size - lo) mr := by omega
      have hnl : lo + min (size - lo) mr ≤ size := by omega
      obtain ⟨R, T', hS2, eR, sR⟩ := mkS (kp.trans kp2) hs2 hnl
      generalize min (size - lo) mr = n at hn0 hnl eR hs2 ⊢
      generalize setArr (setArr st' xs) ys = st2 at hS2 ⊢
    case' neg =>
      rw [if_neg hlt]
      obtain ⟨R, T', hS2, eR, sR⟩ := mkS kp hseg (by omega)
      have hn0 : 0 < m := by omega
      have hnl : lo + m ≤ size := by omega
      generalize m = n at hn0 hnl eR hseg ⊢
      generalize setArr st' xs = st2 at hS2 ⊢
    all_goals
      refine wpS_bind (wpS_get ?_)
      cases hb : (pendingOf st2).back? with
      | none =>
        refine wpS_bind (wpS_modify (wpS_pure ⟨lo + n, runs ++ [R], T', rfl, ⟨hS2.kind, hS2.failed, hS2.perm, ?_⟩, by simp [hl, eR], by omega, hnl⟩))
        show Rn κ (arrOf st2).toList ((pendingOf st2).push (lo, n, 0)).toList _ _
        rw [Array.toList_push]
        exact hS2.rn.push hS2.rn.eq hl eR hn0 sR
      | some b =>
        obtain ⟨s1, n1, p1⟩ := b
        dsimp only
        refine wpS_bind (wpS_mono (wpS_forRange (I := fun _ c st3 => c = (none, ()) ∧ ∃ runs3, So κ st st3 runs3 (R ++ T') ∧ runs3.flatten.length = lo) (Q := fun c st3 => c = (none, ()) ∧ ∃ runs3, So κ st st3 runs3 (R ++ T') ∧ runs3.flatten.length = lo) ?istep ?ifin ⟨rfl, runs, hS2, hl⟩) ?ipost)
        case ifin => exact fun _ _ hh => hh
        case istep =>
          rintro x3 c3 st3 _ _ ⟨rfl, runs3, hS3, hl3⟩
          refine wpS_bind (wpS_get ?_)
          have hlen : (pendingOf st3).size = runs3.length := by have := hS3.rn.len; rwa [Array.length_toList] at this
          by_cases hp1 : (pendingOf st3).size > 1
          · rw [if_pos hp1, getElem?_pos (pendingOf st3) ((pendingOf st3).size - 2) (by omega)]
            dsimp only
            split
            · exact wpS_pure ⟨rfl, runs3, hS3, hl3⟩
            · refine wpS_bind (wpS_mergeSo hO hK hS3 (by omega) fun st4 runs4 h4 _ h5 => ?_)
              exact wpS_pure ⟨rfl, runs4, h4, by omega⟩
          · rw [if_neg hp1]
            exact wpS_pure ⟨rfl, runs3, hS3, hl3⟩
        case ipost =>
          rintro c3 st3 ⟨rfl, runs3, hS3, hl3⟩
          refine wpS_bind (wpS_modify (wpS_bind (wpS_modify (wpS_pure ⟨lo + n, runs3 ++ [R], T', rfl, ⟨hS3.kind, hS3.failed, hS3.perm, ?_⟩, by simp [hl3, eR], by omega, hnl⟩))))
          show Rn κ (arrOf st3).toList (((pendingOf st3).modify ((pendingOf st3).size - 1) _).push (lo, n, 0)).toList _ _
          rw [Array.toList_push, Array.toList_modify]
          have hr : Rn κ (arrOf st3).toList ((pendingOf st3).toList.modify ((pendingOf st3).size - 1) fun x => (x.1, x.2.1, power' size (2 * s1 + n1) (2 * s1 + n1 + n1 + n) size)) runs3 (R ++ T') := ⟨hS3.rn.eq, hS3.rn.pos, hS3.rn.srt, (by refine Eq.trans (map_modify ?_) hS3.rn.pnd; exact fun _ => rfl)⟩
          exact hr.push hr.eq hl3 eR hn0 sR
end
end L2
set_option Elab.async false
set_option linter.all false
set_option maxRecDepth 100000
set_option maxHeartbeats 4000000
namespace L2
open PySem PySem.Spec PyProof.Rows
section
variable {prog : Program} {w : World} {A : Around} {E : Value → Shared → Prop} {s : Shared}
theorem srt_to {κ : KeyKind} {xs : Array Keyed} (h : Srt κ xs.toList) : SortedToK κ xs xs.size := fun i j hij hj => by
  rw [KK_kOf (by omega), KK_kOf hj]
  exact h.at hij hj
theorem list_sort_treeA {κ : KeyKind} (hO : κ.OneLt) {a : Addr} {vs : List Value} {n : Nat} {P : PySem.Fin → Shared → Prop} (ho : s.heap.get? a = some (seqObj "list" vs.toArray n))
    (h0 : KeysOf κ (pairsOf vs)) (hkk : ∀ v₁ v₂ rest, vs = v₁ :: v₂ :: rest → keyKind' (v₁ :: v₂ :: rest).toArray = pure oneType') (hmx : vs.length ≤ 1000)
    (h : ∀ st' : SortSt, (arrOf st').Perm (pairsOf vs) → SortedToK κ (arrOf st') (pairsOf vs).size → P (.done (.ret .none)) { s with heap := sortedHeap s.heap a vs ((arrOf st').map (·.2)) }) :
    wpAny (model prog w) A (Builtin.«list.sort» ⟨[.ref a], []⟩) P E s := by
  rw [list_sort_plain]
  have ha : a < s.heap.objs.size := Heap.lt_size ho
  refine wpAny_bind (listItems_at ho rfl ?_)
  refine wpAny_bind (listUpdate_at ho rfl ?_)
  obtain ⟨e1, ho1⟩ : ∃ e1, (s.heap.update a (Obj.mapSeq fun _ => #[])).get? a = some (seqObj "list" #[] e1) := ⟨_, get?_update_seq ho (fun _ => #[])⟩
  refine wpAny_bind (seqEpoch_at ho1 rfl ?_)
  refine wpAny_bind (wpAny_newTuple ?_)
  refine wpAny_bind (wpAny_newList ?_)
  refine wpAny_holding ?_
  have ho6 : (((s.heap.update a (Obj.mapSeq fun _ => #[])).push (seqObj "tuple" vs.toArray 0)).push (seqObj "list" #[] 0)).get? a = some (seqObj "list" #[] e1) := by
    rw [Heap.get?_push_ne _ _ _ (by rw [size_push', Heap.size_update]; exact Nat.ne_of_lt (Nat.lt_succ_of_lt ha)), Heap.get?_push_ne _ _ _ (by rw [Heap.size_update]; exact Nat.ne_of_lt ha)]
    exact ho1
  show wpAny (model prog w) A _ P E { s with heap := ((s.heap.update a (Obj.mapSeq fun _ => #[])).push (seqObj "tuple" vs.toArray 0)).push (seqObj "list" #[] 0) }
  dsimp only
  have hsz : vs.toArray.size = vs.length := by simp
  by_cases h2 : vs.toArray.size < 2
  · rw [if_pos h2, if_pos h2]
    refine wpAny_bind (wpAny_pure ?_)
    rw [StateT.run_pure]
    refine wpAny_bind (wpAny_pure ?_)
    dsimp only
    refine wpAny_bind (seqEpoch_at ho6 rfl ?_)
    refine wpAny_bind (listUpdate_at ho6 rfl ?_ (hsz2 := by rw [Array.size_map]; show (pairsOf vs).size ≤ _; rw [pairsOf_size, sizeLine_eq]; omega))
    simp only [bne_self_eq_false, Bool.false_eq_true, if_false]
    refine wpAny_pure (h (SortSt.mk' general' (vs.toArray.zip vs.toArray) #[] 7 none) (Array.Perm.refl _) ?_)
    intro i j hij hj
    have : i = j := by rw [pairsOf_size] at hj; omega
    subst this; exact KeyOrd.kle_refl _
  · rw [if_neg h2, if_neg h2]
    obtain ⟨v₁, v₂, rest, rfl⟩ : ∃ v₁ v₂ rest, vs = v₁ :: v₂ :: rest := by
      match vs, hsz, h2 with
      | [], _, h2 => simp at h2
      | [_], _, h2 => simp at h2
      | v₁ :: v₂ :: rest, _, _ => exact ⟨v₁, v₂, rest, rfl⟩
    rw [hkk _ _ _ rfl]
    refine wpAny_bind (wpAny_pure ?_)
    refine wpAny_bind (wpAny_mono (wpS_sortRunsA (κ := κ) hO (st := SortSt.mk' oneType' ((v₁ :: v₂ :: rest).toArray.zip (v₁ :: v₂ :: rest).toArray) #[] 7 none)
      (Q := fun _ st' => (arrOf st').Perm (pairsOf (v₁ :: v₂ :: rest)) ∧ failedOf st' = none ∧ SortedToK κ (arrOf st') (pairsOf (v₁ :: v₂ :: rest)).size)
      rfl rfl rfl (fun x hx => h0 x (Array.mem_toList_iff.2 hx)) fun st' a1 a2 a3 => ⟨a1, a2, by have := srt_to a3; rwa [a1.size_eq] at this⟩) ?_ fun _ _ e => e)
    rintro ⟨⟨⟩, st'⟩ s' ⟨rfl, hp, hf, hs⟩
    dsimp only
    refine wpAny_bind (seqEpoch_at ho6 rfl ?_)
    refine wpAny_bind (listUpdate_at ho6 rfl ?_ (hsz2 := by refine Nat.le_trans (Nat.le_of_eq ((Array.size_map ..).trans (hp.size_eq.trans (pairsOf_size _)))) ?_; rw [sizeLine_eq]; omega))
    rw [hf]
    simp only [bne_self_eq_false, Bool.false_eq_true, if_false]
    exact wpAny_pure (h st' hp hs)
theorem sortedKA {κ : KeyKind} (hO : κ.OneLt) {l : Addr} {vs : List Value} {Q : Value → Shared → Prop} (hl : s.heap.IsList l vs.toArray) (h0 : KeysOf κ (pairsOf vs)) (hkk : ∀ v₁ v₂ rest, vs = v₁ :: v₂ :: rest → keyKind' (v₁ :: v₂ :: rest).toArray = pure oneType') (hmx : vs.length ≤ 1000)
    (h : ∀ st' : SortSt, (arrOf st').Perm (pairsOf vs) → SortedToK κ (arrOf st') (pairsOf vs).size → Q (.ref (s.heap.objs.size + 1)) { s with heap := sortedAll s.heap vs ((arrOf st').map (·.2)) }) :
    wpAny (model prog w) A (call (.builtin "sorted") [.ref l]) Q E s := by
  refine Calls.call_function_entry kind_sorted plain_sorted entry_sorted (args_sorted1 _) ?_
  unfold Builtin.«sorted»
  refine wpAny_bind (m := checkCount "sorted" 1 1 _) (wpAny_pure ?_)
  refine wpAny_bind (collect_list hl ?_)
  refine wpAny_bind (wpAny_newList ?_)
  have hsz : ((s.heap.push (seqObj "list" #[] 0)).update s.heap.objs.size (Obj.mapSeq (· ++ vs.toArray))).objs.size = s.heap.objs.size + 1 := by
    rw [Heap.size_update, size_push']
  have hoL : (((s.heap.push (seqObj "list" #[] 0)).update s.heap.objs.size (Obj.mapSeq (· ++ vs.toArray))).push (seqObj "list" vs.toArray 0)).get? (s.heap.objs.size + 1) = some (seqObj "list" vs.toArray 0) := by
    rw [← hsz]; exact Heap.get?_push_size _ rfl
  show wpAny _ _ _ _ _ { s with heap := ((s.heap.push (seqObj "list" #[] 0)).update s.heap.objs.size (Obj.mapSeq (· ++ vs.toArray))).push (seqObj "list" vs.toArray 0) }
  rw [hsz]
  refine wpAny_bind (wpAny_holding (wpAny_call_entry slot_list_sort ⟨_, hoL, rfl⟩ entry_list_sort (list_sort_treeA hO hoL h0 hkk hmx fun st' a1 a2 => ⟨_, rfl, ?_⟩) (args_list_sort _)))
  exact wpAny_pure ⟨_, rfl, h st' a1 a2⟩
theorem sorted_strsA {l : Addr} {vs : List Value} {ss : List Str} {Q : Value → Shared → Prop} (hl : s.heap.IsList l vs.toArray) (hS : StrsAre vs ss) (hmx : vs.length ≤ 1000)
    (h : ∀ (out : Array Value) (ss' : List Str), StrsAre out.toList ss' → ss'.Perm ss → sortedS ss' = true → Q (.ref (s.heap.objs.size + 1)) { s with heap := sortedAll s.heap vs out }) :
    wpAny (model prog w) A (call (.builtin "sorted") [.ref l]) Q E s := by
  refine sortedKA strKind_oneLt hl hS.keysOf (fun v₁ v₂ rest e => keyKind_strs (by rw [← e]; exact hS)) hmx fun st' hp hs => ?_
  obtain ⟨ss', h1, h2, h3⟩ := sorted_out_str hS hp hs
  exact h _ ss' h1 h2 h3
theorem sorted_fromA {x : Value} {n : Nat} {Q : Value → Shared → Prop} (hx : wpAny (model prog w) A.in1 (collect x) (fun vs s1 => ∃ ts, StrsAre vs ts ∧ ts.length ≤ 1000 ∧
      ∀ l hp (us : List Str) (out : List Value), (∀ b o, s1.heap.get? b = some o → hp.get? b = some o) → s1.heap.objs.size ≤ l → (∃ c, hp.get? l = some { cls := .type "list", data := .seq out.toArray c }) → StrsAre out us → us.Perm ts → sortedS us = true → Q (.ref l) { s1 with heap := hp }) E s) :
    wpAny (model prog w) A (call (.builtin "sorted") [x]) Q E s := by
  refine Calls.call_function_entry kind_sorted plain_sorted entry_sorted (args_sorted1 _) ?_
  unfold Builtin.«sorted»
  apply wpAny_bind (m := checkCount "sorted" 1 1 _)
  refine wpAny_pure (wpAny_bind (wpAny_mono hx (fun vs s1 q => ?_) fun _ _ z => z))
  obtain ⟨ts, hvs, h64, k⟩ := q
  have hl : vs.length = ts.length := hvs.length
  refine wpAny_bind (wpAny_newList ?_ (by rw [hl]; exact sz1000 (by omega)))
  have ho : (s1.heap.push (seqObj "list" vs.toArray 0)).get? s1.heap.objs.size = some (seqObj "list" vs.toArray 0) := Heap.get?_push_size _ rfl
  have sz : (s1.heap.push (seqObj "list" vs.toArray 0)).objs.size = s1.heap.objs.size + 1 := Heap.size_push ..
  have k1 : ∀ b o, s1.heap.get? b = some o → (s1.heap.push (seqObj "list" vs.toArray 0)).get? b = some o := push_keep
  show wpAny _ _ _ _ _ { s1 with heap := s1.heap.push (seqObj "list" vs.toArray 0) }
  refine wpAny_bind (wpAny_holding (wpAny_call_entry slot_list_sort ⟨_, ho, rfl⟩ entry_list_sort (list_sort_treeA strKind_oneLt ho hvs.keysOf (fun v₁ v₂ rest e => keyKind_strs (by rw [← e]; exact hvs)) (by omega) fun st' a1 a2 => ⟨_, rfl, ?_⟩) (args_list_sort _)))
  obtain ⟨us, b1, b2, b3⟩ := sorted_out_str hvs a1 a2
  obtain ⟨c, hc⟩ := sortedHeap_at (vs := vs) (out := (arrOf st').map (·.2)) ho
  refine wpAny_pure ⟨_, rfl, k _ _ us ((arrOf st').map (·.2)).toList (fun b o e => ?_) (Nat.le_refl _) ⟨c, ?_⟩ b1 b2 b3⟩
  · have hlt := Heap.lt_size e
    rw [sortedHeap_old (Nat.ne_of_lt hlt) (by rw [sz]; exact Nat.lt_succ_of_lt hlt)]
    exact k1 b o e
  · rw [hc]
end
section
variable {X : Cx}
def rSortedA (P : Program) (w : World) (K : PySem.W.Frag) : List V → Hp → VK → Prop := fun xs H Q => ∃ (a : Addr) (us : List Str), xs = [.ref a] ∧ (H a = some (SetO P w a us) ∨ SqL K H a (us.map V.str)) ∧ us.length ≤ 1000 ∧
  ∀ l vs, H l = none → sortedS vs = true → vs.Perm us → Q (.ref l) (upd H l (.lst (vs.map V.str)))
theorem call_sortedB (hc : X.calm = true) : CallR X (.builtin "sorted") (rSortedA X.prog X.w X.K) := by
  intro pins s σ H xs us Q I r h
  obtain ⟨a, ts, rfl, hq, hl, k⟩ := h
  obtain ⟨u, rfl, ru⟩ := vals1 r
  cases ru
  have fin : ∀ (hp : Heap) (tk : Nat) (d : Drawn), (∀ b o, s.heap.get? b = some o → hp.get? b = some o) → s.heap.objs.size ≤ hp.objs.size → ∀ us' : List Str, us'.Perm ts → ∀ (l : Addr) (hp2 : Heap) (vs : List Str) (out : List Value), (∀ b o, hp.get? b = some o → hp2.get? b = some o) → hp.objs.size ≤ l →
      (∃ c, hp2.get? l = some { cls := .type "list", data := .seq out.toArray c }) → StrsAre out vs → vs.Perm us' → sortedS vs = true → EP X pins σ Q (.ref l) { s with heap := hp2, toks := tk, drawn := d } := fun hp tk d k1 z1 us' p1 l hp2 vs out k2 hn ⟨c, hc'⟩ ho pv hs => by
    have hsz : s.heap.objs.size ≤ l := Nat.le_trans z1 hn
    refine ⟨.ref l, _, (I.laid (t' := tk) (o := .lst (vs.map V.str)) (fun b o e => k2 b o (k1 b o e)) hsz ⟨?_, out, c, vals_strs ho, hc'⟩).draw d, rfl, k l vs (I.hok.fresh hsz) hs (pv.trans p1)⟩
    rw [List.length_map, (pv.trans p1).length_eq]
    exact sz1000 (by omega)
  rcases hq with hq | hq
  · have S : SetS X.prog X.w s.heap a ts := (I.hok a _ hq).1
    refine sorted_fromA (n := 0) (collect_set (I.ok.hd hc) S (sz1000 (by omega)) fun hp tk d vs us' k1 z1 hv hp' => ⟨us', hv, by rw [hp'.length_eq]; exact hl, fun l hp2 vs2 out k2 hn hl2 ho pv hs => fin hp tk d k1 z1 us' hp' l hp2 vs2 out k2 hn hl2 ho pv hs⟩)
  · obtain ⟨its, rv, pl, _⟩ := I.list hq
    have hlen : its.length = ts.length := by have := rv.length; simpa using this.symm
    refine sorted_strsA pl.isList (strsAre_of rv) (by omega) fun out vs ho pv hs => ?_
    obtain ⟨c, hc'⟩ := sortedAll_at s.heap its out
    have z : ({ s with heap := sortedAll s.heap its out } : Shared) = { s with heap := sortedAll s.heap its out, toks := s.toks, drawn := s.drawn } := rfl
    rw [z]
    refine ⟨.ref (s.heap.objs.size + 1), _, (I.laid (t' := s.toks) (o := .lst (vs.map V.str)) (fun b o e => sortedAll_old e) (Nat.le_succ _) ⟨?_, out.toList, c, vals_strs ho, by rw [hc']⟩).draw s.drawn, rfl, k _ vs (I.hok.fresh (Nat.le_succ _)) hs pv⟩
    rw [List.length_map, pv.length_eq]
    exact sz1000 (by omega)
variable {P : Program} {w : World} {K : PySem.W.Frag} {H : Hp} {Q : VK} {p : Addr}
theorem callB_sorted (P : Program) (w : World) (K : PySem.W.Frag) (hc : X.calm = true) (hK : X.K = K := by rfl) (hP : X.prog = P := by rfl) (hw : X.w = w := by rfl) : CallR X (.builtin "sorted") (rSortedA P w K) := by
  subst hK hP hw; exact call_sortedB hc
theorem w_sortedA : rSortedA P w K [.ref p] H Q = ∃ us : List Str, (H p = some (SetO P w p us) ∨ SqL K H p (us.map V.str)) ∧ us.length ≤ 1000 ∧ ∀ l vs, H l = none → sortedS vs = true → vs.Perm us → Q (.ref l) (upd H l (.lst (vs.map V.str))) := by
  refine propext ⟨fun ⟨_, us, e, h⟩ => ?_, fun ⟨us, h⟩ => ⟨p, us, rfl, h⟩⟩
  cases e; exact ⟨us, h⟩
end
end L2
set_option Elab.async false
set_option linter.all false
set_option maxRecDepth 100000
set_option maxHeartbeats 4000000
namespace K03
open PySem L2
def top (i : Nat) : Stmt := PySem.Challenge.pw_boxproof_k03_what_stands_in.main.body.getD i (.Pass ⟨0, 0, 0, 0⟩)
abbrev s_begins_and_goes_on : Stmt := top 7
abbrev s_is_name : Stmt := top 8
abbrev s_is_letter : Stmt := top 9
abbrev s_parts : Stmt := top 10
abbrev s_terms_in : Stmt := top 11
abbrev s_names_in : Stmt := top 12
abbrev s_free_terms_in : Stmt := top 13
abbrev s_free_in : Stmt := top 14
abbrev s_cell_at_L : Stmt := top 16
abbrev s_mixed_L : Stmt := top 17
abbrev s_sign_by_L : Stmt := top 18
abbrev s_name_by_L : Stmt := top 19
abbrev s_small_by_L : Stmt := top 20
abbrev s_wrapped_L : Stmt := top 21
abbrev s_statement_by_L : Stmt := top 22
abbrev s_many_by_L : Stmt := top 23
abbrev s_parts_L : Stmt := top 24
abbrev s_terms_L : Stmt := top 25
abbrev s_rising_L : Stmt := top 26
abbrev s_law : Stmt := top 27
structure Defs where
  (a_begins_and_goes_on : Addr) (d_begins_and_goes_on : FuncData)
  (a_is_name : Addr) (d_is_name : FuncData)
  (a_is_letter : Addr) (d_is_letter : FuncData)
  (a_parts : Addr) (d_parts : FuncData)
  (a_terms_in : Addr) (d_terms_in : FuncData)
  (a_names_in : Addr) (d_names_in : FuncData)
  (a_free_terms_in : Addr) (d_free_terms_in : FuncData)
  (a_free_in : Addr) (d_free_in : FuncData)
  (a_cell_at_L : Addr) (d_cell_at_L : FuncData)
  (a_mixed_L : Addr) (d_mixed_L : FuncData)
  (a_sign_by_L : Addr) (d_sign_by_L : FuncData)
  (a_name_by_L : Addr) (d_name_by_L : FuncData)
  (a_small_by_L : Addr) (d_small_by_L : FuncData)
  (a_wrapped_L : Addr) (d_wrapped_L : FuncData)
  (a_statement_by_L : Addr) (d_statement_by_L : FuncData)
  (a_many_by_L : Addr) (d_many_by_L : FuncData)
  (a_parts_L : Addr) (d_parts_L : FuncData)
  (a_terms_L : Addr) (d_terms_L : FuncData)
  (a_rising_L : Addr) (d_rising_L : FuncData)
  (a_law : Addr) (d_law : FuncData)
  (k_KEPT_WORDS : Addr)
  (k_QUANTIFIERS : Addr)
structure Tx (K : PySem.W.Frag) (mg : Str → Option Value) (D : Defs) : Prop where
  F_begins_and_goes_on : Fun K "begins_and_goes_on" "begins_and_goes_on" s_begins_and_goes_on D.a_begins_and_goes_on D.d_begins_and_goes_on
  m_begins_and_goes_on : mg "begins_and_goes_on" = some (.ref D.a_begins_and_goes_on)
  b_begins_and_goes_on : Binds K D.d_begins_and_goes_on ["text", "first_signs"] []
  F_is_name : Fun K "is_name" "is_name" s_is_name D.a_is_name D.d_is_name
  m_is_name : mg "is_name" = some (.ref D.a_is_name)
  b_is_name : Binds K D.d_is_name ["text"] []
  F_is_letter : Fun K "is_letter" "is_letter" s_is_letter D.a_is_letter D.d_is_letter
  m_is_letter : mg "is_letter" = some (.ref D.a_is_letter)
  b_is_letter : Binds K D.d_is_letter ["text"] []
  F_parts : Fun K "parts" "parts" s_parts D.a_parts D.d_parts
  m_parts : mg "parts" = some (.ref D.a_parts)
  b_parts : Binds K D.d_parts ["A"] []
  F_terms_in : Fun K "terms_in" "terms_in" s_terms_in D.a_terms_in D.d_terms_in
  m_terms_in : mg "terms_in" = some (.ref D.a_terms_in)
  b_terms_in : Binds K D.d_terms_in ["A"] []
  F_names_in : Fun K "names_in" "names_in" s_names_in D.a_names_in D.d_names_in
  m_names_in : mg "names_in" = some (.ref D.a_names_in)
  b_names_in : Binds K D.d_names_in ["A"] []
  F_free_terms_in : Fun K "free_terms_in" "free_terms_in" s_free_terms_in D.a_free_terms_in D.d_free_terms_in
  m_free_terms_in : mg "free_terms_in" = some (.ref D.a_free_terms_in)
  b_free_terms_in : Binds K D.d_free_terms_in ["A"] []
  F_free_in : Fun K "free_in" "free_in" s_free_in D.a_free_in D.d_free_in
  m_free_in : mg "free_in" = some (.ref D.a_free_in)
  b_free_in : Binds K D.d_free_in ["A"] []
  F_cell_at_L : Fun K "_law_cell_at" "_law_cell_at" s_cell_at_L D.a_cell_at_L D.d_cell_at_L
  m_cell_at_L : mg "_law_cell_at" = some (.ref D.a_cell_at_L)
  b_cell_at_L : Binds K D.d_cell_at_L ["_law_script", "_law_k"] []
  F_mixed_L : Fun K "_law_mixed" "_law_mixed" s_mixed_L D.a_mixed_L D.d_mixed_L
  m_mixed_L : mg "_law_mixed" = some (.ref D.a_mixed_L)
  b_mixed_L : Binds K D.d_mixed_L ["_law_script", "_law_k"] []
  F_sign_by_L : Fun K "_law_sign_by" "_law_sign_by" s_sign_by_L D.a_sign_by_L D.d_sign_by_L
  m_sign_by_L : mg "_law_sign_by" = some (.ref D.a_sign_by_L)
  b_sign_by_L : Binds K D.d_sign_by_L ["_law_number", "_law_signs"] []
  F_name_by_L : Fun K "_law_name_by" "_law_name_by" s_name_by_L D.a_name_by_L D.d_name_by_L
  m_name_by_L : mg "_law_name_by" = some (.ref D.a_name_by_L)
  b_name_by_L : Binds K D.d_name_by_L ["_law_number", "_law_firsts", "_law_turn"] []
  F_small_by_L : Fun K "_law_small_by" "_law_small_by" s_small_by_L D.a_small_by_L D.d_small_by_L
  m_small_by_L : mg "_law_small_by" = some (.ref D.a_small_by_L)
  b_small_by_L : Binds K D.d_small_by_L ["_law_number", "_law_base"] []
  F_wrapped_L : Fun K "_law_wrapped" "_law_wrapped" s_wrapped_L D.a_wrapped_L D.d_wrapped_L
  m_wrapped_L : mg "_law_wrapped" = some (.ref D.a_wrapped_L)
  b_wrapped_L : Binds K D.d_wrapped_L ["_law_ka", "_law_number", "_law_other", "_law_base"] []
  F_statement_by_L : Fun K "_law_statement_by" "_law_statement_by" s_statement_by_L D.a_statement_by_L D.d_statement_by_L
  m_statement_by_L : mg "_law_statement_by" = some (.ref D.a_statement_by_L)
  b_statement_by_L : Binds K D.d_statement_by_L ["_law_script", "_law_at", "_law_many"] []
  F_many_by_L : Fun K "_law_many_by" "_law_many_by" s_many_by_L D.a_many_by_L D.d_many_by_L
  m_many_by_L : mg "_law_many_by" = some (.ref D.a_many_by_L)
  b_many_by_L : Binds K D.d_many_by_L ["_law_cell"] []
  F_parts_L : Fun K "_law_parts" "_law_parts" s_parts_L D.a_parts_L D.d_parts_L
  m_parts_L : mg "_law_parts" = some (.ref D.a_parts_L)
  b_parts_L : Binds K D.d_parts_L ["_law_ka"] []
  F_terms_L : Fun K "_law_terms" "_law_terms" s_terms_L D.a_terms_L D.d_terms_L
  m_terms_L : mg "_law_terms" = some (.ref D.a_terms_L)
  b_terms_L : Binds K D.d_terms_L ["_law_ka", "_law_bound"] []
  F_rising_L : Fun K "_law_rising" "_law_rising" s_rising_L D.a_rising_L D.d_rising_L
  m_rising_L : mg "_law_rising" = some (.ref D.a_rising_L)
  b_rising_L : Binds K D.d_rising_L ["_law_texts"] []
  F_law : Fun K "law" "law" s_law D.a_law D.d_law
  m_law : mg "law" = some (.ref D.a_law)
  b_law : Binds K D.d_law ["_law_script"] []
  c_SMALL : ∃ t, mg "SMALL" = some (.str "abcdefghijklmnopqrstuvwxyz" t)
  c_GREAT : ∃ t, mg "GREAT" = some (.str "ABCDEFGHIJKLMNOPQRSTUVWXYZ" t)
  c_SMALL_OR_FIGURE : ∃ t, mg "SMALL_OR_FIGURE" = some (.str "abcdefghijklmnopqrstuvwxyz0123456789" t)
  c_KEPT_WORDS : mg "KEPT_WORDS" = some (.ref D.k_KEPT_WORDS)
  q_KEPT_WORDS : ∀ H, SqT K H D.k_KEPT_WORDS [V.str "not", V.str "and", V.str "or", V.str "then", V.str "all", V.str "some", V.str "false"]
  c_MOST_SIGNS : ∃ t, mg "MOST_SIGNS" = some (.int 8 t)
  c_QUANTIFIERS : mg "QUANTIFIERS" = some (.ref D.k_QUANTIFIERS)
  q_QUANTIFIERS : ∀ H, SqT K H D.k_QUANTIFIERS [V.str "all", V.str "some"]
  z_all : mg "all" = none
  z_int : mg "int" = none
  z_isinstance : mg "isinstance" = none
  z_len : mg "len" = none
  z_list : mg "list" = none
  z_range : mg "range" = none
  z_set : mg "set" = none
  z_sorted : mg "sorted" = none
  z_tuple : mg "tuple" = none
theorem Tx.g_SMALL {K : PySem.W.Frag} {mg : Str → Option Value} {D : Defs} (T : Tx K mg D) {X : Cx} {pos : Pos} (h : Gl X "SMALL") (hm : X.mg = mg := by rfl) : PE X (.Name "SMALL" pos) (tC (.str "abcdefghijklmnopqrstuvwxyz")) := by
  obtain ⟨t, e⟩ := T.c_SMALL
  exact pe_glob h (hm ▸ e) ⟨t, rfl⟩
theorem Tx.g_GREAT {K : PySem.W.Frag} {mg : Str → Option Value} {D : Defs} (T : Tx K mg D) {X : Cx} {pos : Pos} (h : Gl X "GREAT") (hm : X.mg = mg := by rfl) : PE X (.Name "GREAT" pos) (tC (.str "ABCDEFGHIJKLMNOPQRSTUVWXYZ")) := by
  obtain ⟨t, e⟩ := T.c_GREAT
  exact pe_glob h (hm ▸ e) ⟨t, rfl⟩
theorem Tx.g_SMALL_OR_FIGURE {K : PySem.W.Frag} {mg : Str → Option Value} {D : Defs} (T : Tx K mg D) {X : Cx} {pos : Pos} (h : Gl X "SMALL_OR_FIGURE") (hm : X.mg = mg := by rfl) : PE X (.Name "SMALL_OR_FIGURE" pos) (tC (.str "abcdefghijklmnopqrstuvwxyz0123456789")) := by
  obtain ⟨t, e⟩ := T.c_SMALL_OR_FIGURE
  exact pe_glob h (hm ▸ e) ⟨t, rfl⟩
theorem Tx.g_KEPT_WORDS {K : PySem.W.Frag} {mg : Str → Option Value} {D : Defs} (T : Tx K mg D) {X : Cx} {pos : Pos} (h : Gl X "KEPT_WORDS") (hm : X.mg = mg := by rfl) : PE X (.Name "KEPT_WORDS" pos) (tC (.ref D.k_KEPT_WORDS)) := pe_glob h (hm ▸ T.c_KEPT_WORDS) rfl
theorem Tx.g_MOST_SIGNS {K : PySem.W.Frag} {mg : Str → Option Value} {D : Defs} (T : Tx K mg D) {X : Cx} {pos : Pos} (h : Gl X "MOST_SIGNS") (hm : X.mg = mg := by rfl) : PE X (.Name "MOST_SIGNS" pos) (tC (.int 8)) := by
  obtain ⟨t, e⟩ := T.c_MOST_SIGNS
  exact pe_glob h (hm ▸ e) ⟨t, rfl⟩
theorem Tx.g_QUANTIFIERS {K : PySem.W.Frag} {mg : Str → Option Value} {D : Defs} (T : Tx K mg D) {X : Cx} {pos : Pos} (h : Gl X "QUANTIFIERS") (hm : X.mg = mg := by rfl) : PE X (.Name "QUANTIFIERS" pos) (tC (.ref D.k_QUANTIFIERS)) := pe_glob h (hm ▸ T.c_QUANTIFIERS) rfl
theorem sc_begins_and_goes_on : FnScope ["text", "first_signs"] ["text", "first_signs"] (defScope s_begins_and_goes_on) := ⟨rfl, rfl, rfl, by decide +kernel, rfl, by decide +kernel, by decide +kernel⟩
theorem sc_is_name : FnScope ["text"] ["text"] (defScope s_is_name) := ⟨rfl, rfl, rfl, by decide +kernel, rfl, by decide +kernel, by decide +kernel⟩
theorem sc_is_letter : FnScope ["text"] ["text"] (defScope s_is_letter) := ⟨rfl, rfl, rfl, by decide +kernel, rfl, by decide +kernel, by decide +kernel⟩
theorem sc_parts : FnScope ["A"] ["A"] (defScope s_parts) := ⟨rfl, rfl, rfl, by decide +kernel, rfl, by decide +kernel, by decide +kernel⟩
theorem sc_terms_in : FnScope ["A", "found", "part"] ["A"] (defScope s_terms_in) := ⟨rfl, rfl, rfl, by decide +kernel, rfl, by decide +kernel, by decide +kernel⟩
theorem sc_names_in : FnScope ["A"] ["A"] (defScope s_names_in) := ⟨rfl, rfl, rfl, by decide +kernel, rfl, by decide +kernel, by decide +kernel⟩
theorem sc_free_terms_in : FnScope ["A", "found", "part"] ["A"] (defScope s_free_terms_in) := ⟨rfl, rfl, rfl, by decide +kernel, rfl, by decide +kernel, by decide +kernel⟩
theorem sc_free_in : FnScope ["A"] ["A"] (defScope s_free_in) := ⟨rfl, rfl, rfl, by decide +kernel, rfl, by decide +kernel, by decide +kernel⟩
theorem sc_cell_at_L : FnScope ["_law_script", "_law_k"] ["_law_script", "_law_k"] (defScope s_cell_at_L) := ⟨rfl, rfl, rfl, by decide +kernel, rfl, by decide +kernel, by decide +kernel⟩
theorem sc_mixed_L : FnScope ["_law_script", "_law_k", "_law_cell", "_law_number"] ["_law_script", "_law_k"] (defScope s_mixed_L) := ⟨rfl, rfl, rfl, by decide +kernel, rfl, by decide +kernel, by decide +kernel⟩
theorem sc_sign_by_L : FnScope ["_law_number", "_law_signs"] ["_law_number", "_law_signs"] (defScope s_sign_by_L) := ⟨rfl, rfl, rfl, by decide +kernel, rfl, by decide +kernel, by decide +kernel⟩
theorem sc_name_by_L : FnScope ["_law_number", "_law_firsts", "_law_turn", "_law_some", "_law_size", "_law_at", "_law_signs", "_law_text", "_law_kept"] ["_law_number", "_law_firsts", "_law_turn"] (defScope s_name_by_L) := ⟨rfl, rfl, rfl, by decide +kernel, rfl, by decide +kernel, by decide +kernel⟩
theorem sc_small_by_L : FnScope ["_law_number", "_law_base", "_law_terms_here", "_law_k", "_law_rest", "_law_word"] ["_law_number", "_law_base"] (defScope s_small_by_L) := ⟨rfl, rfl, rfl, by decide +kernel, rfl, by decide +kernel, by decide +kernel⟩
theorem sc_wrapped_L : FnScope ["_law_ka", "_law_number", "_law_other", "_law_base", "_law_kind", "_law_sign", "_law_letter"] ["_law_ka", "_law_number", "_law_other", "_law_base"] (defScope s_wrapped_L) := ⟨rfl, rfl, rfl, by decide +kernel, rfl, by decide +kernel, by decide +kernel⟩
theorem sc_statement_by_L : FnScope ["_law_script", "_law_at", "_law_many", "_law_base", "_law_ka", "_law_k", "_law_number", "_law_other", "_law_j", "_law_beside"] ["_law_script", "_law_at", "_law_many"] (defScope s_statement_by_L) := ⟨rfl, rfl, rfl, by decide +kernel, rfl, by decide +kernel, by decide +kernel⟩
theorem sc_many_by_L : FnScope ["_law_cell"] ["_law_cell"] (defScope s_many_by_L) := ⟨rfl, rfl, rfl, by decide +kernel, rfl, by decide +kernel, by decide +kernel⟩
theorem sc_parts_L : FnScope ["_law_ka"] ["_law_ka"] (defScope s_parts_L) := ⟨rfl, rfl, rfl, by decide +kernel, rfl, by decide +kernel, by decide +kernel⟩
theorem sc_terms_L : FnScope ["_law_ka", "_law_bound", "_law_inner", "_law_found", "_law_part"] ["_law_ka", "_law_bound"] (defScope s_terms_L) := ⟨rfl, rfl, rfl, by decide +kernel, rfl, by decide +kernel, by decide +kernel⟩
theorem sc_rising_L : FnScope ["_law_texts", "_law_row", "_law_text"] ["_law_texts"] (defScope s_rising_L) := ⟨rfl, rfl, rfl, by decide +kernel, rfl, by decide +kernel, by decide +kernel⟩
theorem sc_law : FnScope ["_law_script", "_law_ka", "_law_free", "_law_names", "_law_letters", "_law_found", "_law_one"] ["_law_script"] (defScope s_law) := ⟨rfl, rfl, rfl, by decide +kernel, rfl, by decide +kernel, by decide +kernel⟩
end K03
set_option Elab.async false
set_option linter.all false
set_option maxRecDepth 100000
set_option maxHeartbeats 4000000
namespace K03
open PySem L2
seal PE PS PSs PA PT PW PG PI PO PIf OpR UnR CallR IxR SlR MtR MtM PSet PJ PH PM PMp PE1 PA1 PS1 PSs1 PAb PSb PEb
local macro_rules | `(tactic| walk_at "bpW") => `(tactic| simp only [↓w_v0, ↓w_v1, ↓w_v2, ↓w_v3, ↓w_v4, ↓w_v5, ↓w_v6, ↓w_v7, ↓w_v8, ↓w_v9, ↓w_v10, ↓w_v11, ↓w_c, ↓w_seq, ↓w_ifS, ↓w_next, ↓w_ret, ↓w_retN, ↓w_drop, ↓w_asg, ↓w_gName, ↓w_op, ↓w_un, ↓w_test, ↓w_B, ↓w_bl, ↓w_and, ↓w_or, ↓w_not, ↓w_andV, ↓w_orV, ↓w_notV, ↓w_if, ↓w_true, ↓w_nil, ↓w_cons, ↓w_tup, ↓w_lst, ↓w_call, ↓w_CB, ↓w_BM, ↓w_ty_str, ↓w_ty_list, ↓w_sl, ↓w_noPart, ↓w_part, ↓w_int, ↓w_rI0, ↓w_rI, ↓w_addI, ↓w_addS, ↓w_mulI, ↓w_eqI, ↓w_eqS, ↓w_eqR, ↓w_neI, ↓w_neS, ↓w_ltI, ↓w_inS, ↓w_notinS, ↓w_inR, ↓w_notinR, ↓w_ixS, ↓w_ixR, ↓w_lenS, ↓w_lenR, ↓w_slS, ↓w_all, ↓w_join, ↓w_intB, ↓w_intI, ↓w_itS, ↓w_itR, ↓w_iAny, ↓w_rng1, ↓w_rngI, ↓w_ints2, ↓w_tupleOf, ↓w_listOf, ↓w_append, ↓w_extend, ↓w_setL, ↓w_gSub, ↓w_instInt, ↓w_instStr, ↓w_slR, ↓w_catR, ↓w_joinA, ↓w_eqIB, ↓w_eqSB, ↓w_eqR_, ↓w_eq_R, ↓w_instIntB, ↓w_instStrB, ↓w_instRB, ↓tFor_eq, ↓tComp_eq, ↓List.set_cons_zero, ↓List.set_cons_succ, ↓List.nil_append, ↓List.cons_append, ↓List.append_nil, ↓reduceIte, Bool.false_eq_true, decide_eq_true_eq, Bool.not_eq_true', decide_eq_false_iff_not, ↓w_setOf, ↓w_sortedA, ↓w_callX, ↓w_try, ↓w_msg, ↓w_m0, ↓w_mc, ↓w_mr, ↓w_mv, ↓w_fs, ↓w_jn, ↓w_jc, ↓w_exStr, ↓w_fr, ↓w_fv, ↓w_orStr, ↓w_orInt, ↓w_eqIC, ↓w_eqSC, ↓w_eqRC, ↓w_eqCR, ↓w_neIC, ↓w_neSC, ↓w_neRC, ↓w_neCR, ↓w_inCS, ↓w_notinCS, ↓w_inCR, ↓w_is, ↓w_is2, ↓w_strip, ↓w_split, ↓w_mulS, ↓w_BM0, ↓w_fld, ↓w_sfld, ↓w_meth, ↓w_methX, ↓w_make, ↓w_any, ↓w_sum, ↓w_chain, ↓w_aug, ↓w_ipI, ↓w_gTup, ↓w_gCons, ↓w_gNil, ↓w_slSB, ↓w_slRB, ↓w_addIB, ↓w_addSB, ↓w_catRB, ↓w_instBlB, ↓w_eqBlB, ↓w_neBl, ↓w_eqBlC, ↓w_neBlC, ↓w_break, ↓w_cont, ↓w_rng2, ↓w_isN, ↓w_notN, ↓w_while, ↓w_ltS, ↓w_enum, ↓w_count, ↓w_zip, ↓w_gTup, ↓w_dnew, ↓w_callV, ↓w_inTab, ↓w_ixTab, ↓w_LR, ↓w_mulR, ↓w_rr, ↓w_rvL, ↓w_eqX, ↓w_neL])
local macro_rules | `(tactic| walk_at "S") => `(tactic| simp only [L2.start, List.map_cons, List.map_nil, List.length_cons, List.length_nil, Nat.reduceAdd, Nat.reduceSub, List.replicate_succ, List.replicate_zero, List.cons_append, List.nil_append, List.append_nil, Nat.zero_add, Nat.sub_self])
local macro_rules | `(tactic| walk_at "o") => `(tactic| first | exact Or.inl (by rfl) | exact Or.inr (by rfl))
local macro_rules | `(tactic| walk_at "") => `(tactic| walk_at "bpW")
section
variable {P : Program} {w : World} {K : PySem.W.Frag} {mg : Str → Option Value} {base0 : Heap} {D : Defs}
theorem ok_cell_at_L (T : Tx K mg D) : FnOk P w K mg base0 CX0 1 D.a_cell_at_L D.d_cell_at_L ["_law_script", "_law_k"] (spCell K) := by
  refine T.F_cell_at_L.ok sc_cell_at_L (fun vs H Q E h => ?_) (fun cdv A outer s H vs Q E hr h => ?_)
  · obtain ⟨a, ns, n, rfl, _⟩ := h; rfl
  obtain ⟨a, ns, n, rfl, hS, h0, k⟩ := h
  have hu := hr.units
  refine ⟨_, (pss_cons (ps_if (pt_cmpR opA_lt (pv 1) (pe_callB (callA_len K) (by rfl) T.z_len PySem.boot_len (pa_cons (pv 0) pa_nil)) (nomark _)) (pss_one (ps_ret (pe_ix (ixA K) (pv 0) (pv 1) (fun _ _ => rfl)))) pss_nil)
    (pss_one (ps_ret pe_int))), ?_⟩
  walk_at "S"
  walk_at ""
  refine ⟨_, .inl hS, ?_⟩
  unfold cellI at k
  rw [List.length_map]
  refine ite2 (fun c => ?_) fun c => ?_
  · rw [if_pos c] at k
    exact ⟨_, .inl hS, _, atI_ints h0 c, k⟩
  · rw [if_neg c] at k; exact k
theorem ok_mixed_L (T : Tx K mg D) : FnOk P w K mg base0 CX0 1 D.a_mixed_L D.d_mixed_L ["_law_script", "_law_k"] (spMixed K) := by
  refine T.F_mixed_L.ok sc_mixed_L (fun vs H Q E h => ?_) (fun cdv A outer s H vs Q E hr h => ?_)
  · obtain ⟨a, ns, n, rfl, _⟩ := h; rfl
  obtain ⟨a, ns, n, rfl, hS, h0, h1, k⟩ := h
  have hu := hr.units
  refine ⟨_, (pss_cons (ps_set (i := 2) sc_mixed_L.nd (by rfl) (by walk_at "o") pe_int)
    (pss_cons (ps_if (pt_cmpR op_gt (pe_callB (callA_len K) (by rfl) T.z_len PySem.boot_len (pa_cons (pv 0) pa_nil)) pe_int (nomark _)) (pss_one (ps_set (i := 2) sc_mixed_L.nd (by rfl) (by walk_at "o") (pe_ix (ixA K) (pv 0) (pe_op op_modP (pv 1) (pe_callB (callA_len K) (by rfl) T.z_len PySem.boot_len (pa_cons (pv 0) pa_nil))) (fun _ _ => rfl)))) pss_nil)
    (pss_cons (ps_set (i := 3) sc_mixed_L.nd (by rfl) (by walk_at "o") (pe_op op_modP (pe_op opA_mul (pe_op (opA_add K) (pv 2) (pe_op opA_mul pe_int (pv 1))) pe_int) pe_int))
    (pss_one (ps_ret (pe_op op_modP (pe_op opA_mul (pv 3) (pv 3)) pe_int)))))), ?_⟩
  walk_at "S"
  walk_at ""
  have hm : CMul 7919 n := cmulL
  have fin : ∀ c : Int, c = (if 0 < ns.length then ns.getD (n % (ns.length : Int)).toNat 0 else 0) → CMul (c + 7919 * n) 48271 ∧ (0 : Int) < 2147483647 ∧ CMul ((c + 7919 * n) * 48271 % 2147483647) ((c + 7919 * n) * 48271 % 2147483647) ∧ (0 : Int) < 2147483647 ∧
      Q (V.int ((c + 7919 * n) * 48271 % 2147483647 * ((c + 7919 * n) * 48271 % 2147483647) % 2147483647)) H := fun c e =>
    ⟨cmulR, by decide, .inl ⟨by omega, by omega⟩, by decide, by subst e; exact k⟩
  have hl : (ns.map V.int).length = ns.length := List.length_map _
  refine ⟨_, .inl hS, ite2 (fun c => ?_) fun c => ⟨hm, fin 0 (if_neg (by rw [hl] at c; omega)).symm⟩⟩
  rw [hl] at c
  refine ⟨_, .inl hS, by rw [hl]; exact c, _, .inl hS, _, atI_ints (Int.emod_nonneg _ (by rw [hl]; omega)) (by rw [hl]; exact Int.emod_lt_of_pos _ c), hm, ?_⟩
  walk_at ""
  exact fin _ (by rw [if_pos (by omega), hl])
theorem ok_sign_by_L (T : Tx K mg D) : FnOk P w K mg base0 CX0 1 D.a_sign_by_L D.d_sign_by_L ["_law_number", "_law_signs"] spSignBy := by
  refine T.F_sign_by_L.ok sc_sign_by_L (fun vs H Q E h => ?_) (fun cdv A outer s H vs Q E hr h => ?_)
  · obtain ⟨n, f, rfl, _⟩ := h; rfl
  obtain ⟨n, f, rfl, h0, h1, k⟩ := h
  have hu := hr.units
  refine ⟨_, (pss_one (ps_ret (pe_ix (ixA K) (pv 1) (pe_op op_modP (pv 0) (pe_callB (callA_len K) (by rfl) T.z_len PySem.boot_len (pa_cons (pv 1) pa_nil))) (fun _ _ => rfl)))), ?_⟩
  walk_at "S"
  walk_at ""
  exact ⟨sz1000 (by omega), by omega, sz1000 (by omega), pickC h0 k⟩
theorem ok_name_by_L (T : Tx K mg D) : FnOk P w K mg base0 CX0 2 D.a_name_by_L D.d_name_by_L ["_law_number", "_law_firsts", "_law_turn"] spNameBy := by
  have G_sign_by_L := ok_sign_by_L (P := P) (w := w) (base0 := base0) T
  refine T.F_name_by_L.ok sc_name_by_L (fun vs H Q E h => ?_) (fun cdv A outer s H vs Q E hr h => ?_)
  · obtain ⟨n, f, t, rfl, _⟩ := h; rfl
  obtain ⟨n, f, t, rfl, hf, k⟩ := h
  have hu := hr.units
  have hr_sign_by_L : Room 1 _ := hr.mono (by decide)
  refine ⟨_, (pss_cons (ps_set (i := 3) sc_name_by_L.nd (by rfl) (by walk_at "o") pe_str)
    (pss_cons (ps_set (i := 4) sc_name_by_L.nd (by rfl) (by walk_at "o") (pe_op (opA_add K) pe_int (pe_op op_modP (pv 0) pe_int)))
    (pss_cons (ps_set (i := 5) sc_name_by_L.nd (by rfl) (by walk_at "o") (pe_op op_modP (pe_op op_fdivP (pv 0) pe_int) (pv 4)))
    (pss_cons (ps_setComp (i := 6) 1 [0, 3] ["_law_k", "_law_number", "_law_some"] sc_name_by_L.nd (by rfl) (by rfl) ⟨by rfl, by rfl, by rfl, by rfl, by rfl, by rfl, by rfl⟩ (by rfl) (pi_range1 (by rfl) T.z_range (pa_cons (pv 4) pa_nil)) (fun _ _ _ _ => pg_name (i := 0) (show List.Nodup (["_law_k", "_law_number", "_law_some"] : List Str) by decide +kernel) (by rfl) (Or.inl (by rfl)) (Or.inr (by rfl))) (gName_keep (by decide)) (fun _ _ _ _ => pif_nil) (fun _ _ _ _ => (pe_call G_sign_by_L hr_sign_by_L (by rfl) T.m_sign_by_L T.F_sign_by_L.kp T.b_sign_by_L .nil pass0 (pa_cons (pe_op (opA_add K) (pe_op op_fdivP (pv 1) pe_int) (pe_op opA_mul pe_int (pv 0))) (pa_cons (pv 2) pa_nil)))))
    (pss_cons (ps_asg (pe_call G_sign_by_L hr_sign_by_L (by rfl) T.m_sign_by_L T.F_sign_by_L.kp T.b_sign_by_L .nil pass0 (pa_cons (pe_op op_fdivP (pv 0) pe_int) (pa_cons (pv 1) pa_nil))) (pg_sub (pv 6) pe_int set_list))
    (pss_cons (ps_if (pt_cmpR (opB_eq K hu) (pv 5) pe_int (nomark _)) (pss_one (ps_asg (pe_call G_sign_by_L hr_sign_by_L (by rfl) T.m_sign_by_L T.F_sign_by_L.kp T.b_sign_by_L .nil pass0 (pa_cons (pe_op (opA_add K) (pe_op op_fdivP (pv 0) pe_int) (pv 2)) (pa_cons (pv 1) pa_nil))) (pg_sub (pv 6) pe_int set_list))) (pss_one (ps_asg (pe_call G_sign_by_L hr_sign_by_L (by rfl) T.m_sign_by_L T.F_sign_by_L.kp T.b_sign_by_L .nil pass0 (pa_cons (pe_op (opA_add K) (pe_op (opA_add K) (pe_op op_fdivP (pv 0) pe_int) (pe_op opA_mul pe_int (pv 5))) (pv 2)) (pa_cons (pv 3) pa_nil))) (pg_sub (pv 6) (pv 5) set_list))))
    (pss_cons (ps_set (i := 7) sc_name_by_L.nd (by rfl) (by walk_at "o") (pe_bmA K PySem.F.plainAttrs_str PySem.F.slot_str_join PySem.F.type_str_join (mtB_join K) pe_str (pa_cons (pv 6) pa_nil)))
    (pss_cons (ps_set (i := 8) sc_name_by_L.nd (by rfl) (by walk_at "o") (pe_lst (pa_cons pe_str (pa_cons pe_str (pa_cons pe_str (pa_cons pe_str (pa_cons pe_str (pa_cons pe_str (pa_cons pe_str pa_nil)))))))))
    (pss_cons (ps_if (PW.pt (pw_and (pt_cmpR (opB_eq K hu) (pe_ix (ixA K) (pv 1) pe_int (fun _ _ => rfl)) pe_str (nomark _)) (pw_and1 (pt_cmpR (opB_eq K hu) (pe_op op_modP (pe_op op_fdivP (pv 0) pe_int) pe_int) pe_int (nomark _))))) (pss_one (ps_ret (pe_slice (slA K) (pe_op (opA_add K) (pe_ix (ixA K) (pv 8) (pe_op op_modP (pe_op op_fdivP (pv 0) pe_int) pe_int) (fun _ _ => rfl)) (pv 7)) po_none (po_some pe_int)))) pss_nil)
    (pss_cons (ps_if (pt_cmpR (opA_in K) (pv 7) (pv 8) (by rfl)) (pss_one (ps_ret (pe_op (opA_add K) (pv 7) pe_str))) pss_nil)
    (pss_one (ps_ret (pv 7))))))))))))), ?_⟩
  walk_at "S"
  walk_at ""
  have hfl : 0 < f.length ∧ f.length ≤ 1000 := by rcases hf with rfl | rfl <;> decide +kernel
  have e8 : 0 ≤ n % 8 := Int.emod_nonneg _ (by decide)
  have e8' : n % 8 < 8 := Int.emod_lt_of_pos _ (by decide)
  generalize hsz : 1 + n % 8 = sz
  have hat0 : 0 ≤ n / 8 % sz := Int.emod_nonneg _ (by omega)
  have hat1 : n / 8 % sz < sz := Int.emod_lt_of_pos _ (by omega)
  generalize n / 8 % sz = pl at hat0 hat1
  refine ⟨by decide, cdiv, by omega, by omega, by omega, ?_⟩
  refine comp_range (fun i acc H2 => H2 = H ∧ ∃ cs : List Nat, acc = cs.map (fun c => V.str ⟨#[c]⟩) ∧ cs.length = i ∧ ∀ c ∈ cs, c ∈ sofS.cps.toList) ⟨rfl, [], rfl, rfl, by simp⟩ (fun i acc H2 hi hp => ?_) fun acc H2 hp p hn => ?_
  · obtain ⟨rfl, cs, rfl, rfl, hcs⟩ := hp
    refine ⟨sz1000' (by rw [List.length_map]; omega), ?_⟩
    simp only [slotsC, List.replicate_succ, List.replicate_zero, List.map_cons, List.map_nil, List.nil_append, List.cons_append, List.getElem?_cons_zero, List.getElem?_cons_succ, Option.join_some]
    walk_at ""
    refine ⟨cdiv, cmulL, _, _, rfl, by decide +kernel, by decide +kernel, fun c hc => ⟨rfl, cs ++ [c], by simp, by simp, fun d hd => ?_⟩⟩
    rcases List.mem_append.mp hd with q | q
    · exact hcs d q
    · rw [List.mem_singleton.mp q]; exact hc
  obtain ⟨rfl, cs, rfl, hl, hcs⟩ := hp
  have hl1 : 1 ≤ cs.length := by omega
  have hl8 : cs.length ≤ 8 := by omega
  refine ⟨cdiv, _, _, rfl, hfl.1, hfl.2, fun c0 hc0 => ?_⟩
  walk_at ""
  refine ⟨_, 0, upd_same, ixN_in (by decide) (by rw [List.length_map]; omega), ?_⟩
  refine ite2 (fun hpl => ⟨cdiv, _, _, rfl, hfl.1, hfl.2, fun c1 hc1 => ?_⟩) fun hpl => ⟨cdiv, cmulL, _, _, rfl, by decide +kernel, by decide +kernel, fun c1 hc1 => ?_⟩
  all_goals (walk_at "")
  · refine ⟨_, 0, upd_same, ixN_in (by decide) (by rw [List.length_set, List.length_map]; omega), trivial, ?_⟩
    have g := good_0 (f := f) (c0 := c0) hl1 hl8 hcs hc1
    have em : ((cs.map fun c => V.str ⟨#[c]⟩).set 0 (V.str ⟨#[c0]⟩)).set 0 (V.str ⟨#[c1]⟩) = ((cs.set 0 c0).set 0 c1).map fun c => V.str ⟨#[c]⟩ := by simp only [List.map_set]
    have hlen : ((cs.set 0 c0).set 0 c1).length ≤ 8 := by simpa using hl8
    generalize (cs.set 0 c0).set 0 c1 = cs' at g em hlen
    simp only [upd_upd, em]
    have s5 : Same H2 (upd H2 p (HO.lst (cs'.map fun c => V.str ⟨#[c]⟩))) := same_new hn _
    generalize hH5 : upd H2 p (HO.lst (cs'.map fun c => V.str ⟨#[c]⟩)) = H5 at s5
    clear em
    refine ⟨cs'.map fun c => ⟨#[c]⟩, .inl (SqL.of (by rw [← hH5, upd_same, List.map_map]; rfl)), by rw [signs_len]; show cs'.length + _ * 0 ≤ _; omega, (by show 7 ≤ sizeLine; decide), fun p1 hp1 => ?_⟩
    have ex := join_signs cs'
    generalize Txt.join "" (cs'.map fun c => (⟨#[c]⟩ : Str)) = x at ex
    have hx8 : x.length ≤ 8 := by rw [← len_cps, ex]; exact hlen
    have s6 := s5.trans (same_new hp1 (.lst (keptW.map V.str)))
    have tl : ∃ xs, (SqL K (upd H5 p1 (.lst (keptW.map V.str))) p1 xs ∨ SqT K (upd H5 p1 (.lst (keptW.map V.str))) p1 xs) ∧ flatV (V.str x) = true ∧ xs.all flatV = true ∧
        if inV (V.str x) xs = true then x.length + (Str.ofString "0").length ≤ sizeLine ∧ Q (V.str (x ++ "0")) (upd H5 p1 (.lst (keptW.map V.str))) else Q (V.str x) (upd H5 p1 (.lst (keptW.map V.str))) := by
      refine ⟨_, .inl (SqL.of upd_same), rfl, flat_strs _, ?_⟩
      rw [inV_strs]
      refine ite2 (fun c => ?_) fun c => ?_
      · exact ⟨sz1000 (by have : (Str.ofString "0").length = 1 := rfl; omega), k _ _ s6 (nm_nought g ex (of_decide_eq_true c) rfl)⟩
      · exact k _ _ s6 (nm_plain g ex fun q => c (decide_eq_true q))
    refine ⟨sz1000 (by omega), ?_⟩
    rcases hf with rfl | rfl
    · refine ⟨97, by decide +kernel, ?_⟩
      rw [if_pos (by decide +kernel)]
      refine ⟨cdiv, by decide, ite2 (fun _ => ⟨cdiv, by decide, _, .inl (SqL.of upd_same), ?_⟩) fun _ => tl⟩
      obtain ⟨z, hz, ez⟩ := pickS (ts := keptW) (i := n / 4096 % 7) (Int.emod_nonneg _ (by decide)) (Int.emod_lt_of_pos _ (by decide))
      have hz5 := (kept_small z hz).2.1
      have hzx := Str.length_append z x
      refine ⟨_, ez, ?_⟩
      walk_at ""
      exact ⟨sz1000 (by omega), sz1000 (by omega), k _ _ s6 (nm_begun g ex hz rfl)⟩
    · refine ⟨65, by decide +kernel, ?_⟩
      rw [if_neg (by decide +kernel)]
      exact tl
  · refine ⟨_, pl.toNat, upd_same, ixN_in hat0 (by rw [List.length_set, List.length_map]; omega), trivial, ?_⟩
    have g := good_n (f := f) (c0 := c0) (j := pl.toNat) (by omega) hl1 hl8 hcs hc0 hc1
    have em : ((cs.map fun c => V.str ⟨#[c]⟩).set 0 (V.str ⟨#[c0]⟩)).set pl.toNat (V.str ⟨#[c1]⟩) = ((cs.set 0 c0).set pl.toNat c1).map fun c => V.str ⟨#[c]⟩ := by simp only [List.map_set]
    have hlen : ((cs.set 0 c0).set pl.toNat c1).length ≤ 8 := by simpa using hl8
    generalize (cs.set 0 c0).set pl.toNat c1 = cs' at g em hlen
    simp only [upd_upd, em]
    have s5 : Same H2 (upd H2 p (HO.lst (cs'.map fun c => V.str ⟨#[c]⟩))) := same_new hn _
    generalize hH5 : upd H2 p (HO.lst (cs'.map fun c => V.str ⟨#[c]⟩)) = H5 at s5
    clear em
    refine ⟨cs'.map fun c => ⟨#[c]⟩, .inl (SqL.of (by rw [← hH5, upd_same, List.map_map]; rfl)), by rw [signs_len]; show cs'.length + _ * 0 ≤ _; omega, (by show 7 ≤ sizeLine; decide), fun p1 hp1 => ?_⟩
    have ex := join_signs cs'
    generalize Txt.join "" (cs'.map fun c => (⟨#[c]⟩ : Str)) = x at ex
    have hx8 : x.length ≤ 8 := by rw [← len_cps, ex]; exact hlen
    have s6 := s5.trans (same_new hp1 (.lst (keptW.map V.str)))
    have tl : ∃ xs, (SqL K (upd H5 p1 (.lst (keptW.map V.str))) p1 xs ∨ SqT K (upd H5 p1 (.lst (keptW.map V.str))) p1 xs) ∧ flatV (V.str x) = true ∧ xs.all flatV = true ∧
        if inV (V.str x) xs = true then x.length + (Str.ofString "0").length ≤ sizeLine ∧ Q (V.str (x ++ "0")) (upd H5 p1 (.lst (keptW.map V.str))) else Q (V.str x) (upd H5 p1 (.lst (keptW.map V.str))) := by
      refine ⟨_, .inl (SqL.of upd_same), rfl, flat_strs _, ?_⟩
      rw [inV_strs]
      refine ite2 (fun c => ?_) fun c => ?_
      · exact ⟨sz1000 (by have : (Str.ofString "0").length = 1 := rfl; omega), k _ _ s6 (nm_nought g ex (of_decide_eq_true c) rfl)⟩
      · exact k _ _ s6 (nm_plain g ex fun q => c (decide_eq_true q))
    refine ⟨sz1000 (by omega), ?_⟩
    rcases hf with rfl | rfl
    · refine ⟨97, by decide +kernel, ?_⟩
      rw [if_pos (by decide +kernel)]
      refine ⟨cdiv, by decide, ite2 (fun _ => ⟨cdiv, by decide, _, .inl (SqL.of upd_same), ?_⟩) fun _ => tl⟩
      obtain ⟨z, hz, ez⟩ := pickS (ts := keptW) (i := n / 4096 % 7) (Int.emod_nonneg _ (by decide)) (Int.emod_lt_of_pos _ (by decide))
      have hz5 := (kept_small z hz).2.1
      have hzx := Str.length_append z x
      refine ⟨_, ez, ?_⟩
      walk_at ""
      exact ⟨sz1000 (by omega), sz1000 (by omega), k _ _ s6 (nm_begun g ex hz rfl)⟩
    · refine ⟨65, by decide +kernel, ?_⟩
      rw [if_neg (by decide +kernel)]
      exact tl
end
section
variable {P : Program} {w : World} {K : PySem.W.Frag} {mg : Str → Option Value} {base0 : Heap} {D : Defs}
theorem ok_small_by_L (T : Tx K mg D) : FnOk P w K mg base0 CX0 3 D.a_small_by_L D.d_small_by_L ["_law_number", "_law_base"] (spSmallBy K) := by
  have G_name_by_L := ok_name_by_L (P := P) (w := w) (base0 := base0) T
  refine T.F_small_by_L.ok sc_small_by_L (fun vs H Q E h => ?_) (fun cdv A outer s H vs Q E hr h => ?_)
  · obtain ⟨n, b, rfl, _⟩ := h; rfl
  obtain ⟨n, b, rfl, k⟩ := h
  have hu := hr.units
  have hr_name_by_L : Room 2 _ := hr.mono (by decide)
  refine ⟨_, (pss_cons (ps_if (pt_cmpR (opB_eq K hu) (pe_op op_modP (pv 0) pe_int) pe_int (nomark _)) (pss_one (ps_ret (pe_tup (pa_cons pe_str pa_nil)))) pss_nil)
    (pss_cons (ps_set (i := 2) sc_small_by_L.nd (by rfl) (by walk_at "o") (pe_lst pa_nil))
    (pss_cons (ps_for PassesOwn.never (by rfl) (pi_range1 (by rfl) T.z_range (pa_cons (pe_op op_modP (pe_op op_fdivP (pv 0) pe_int) pe_int) pa_nil)) (pg_name (i := 3) sc_small_by_L.nd (by rfl) (by walk_at "o"))
      (pss_cons (ps_set (i := 4) sc_small_by_L.nd (by rfl) (by walk_at "o") (pe_op op_modP (pe_op op_fdivP (pe_op op_fdivP (pv 0) pe_int) (pe_ix (ixA K) (pe_lst (pa_cons pe_int (pa_cons pe_int (pa_cons pe_int pa_nil)))) (pv 3) (fun _ _ => rfl))) pe_int))
    (pss_one (ps_if (pt_cmpR (opB_eq K hu) (pe_op op_modP (pv 4) pe_int) pe_int (nomark _)) (pss_one (ps_expr (pe_bmA K PySem.F.plainAttrs_list PySem.F.slot_list_append PySem.F.type_list_append mtR_append (pv 2) (pa_cons (pe_call G_name_by_L hr_name_by_L (by rfl) T.m_name_by_L T.F_name_by_L.kp T.b_name_by_L .nil pass0 (pa_cons (pv 1) (pa_cons pe_str (pa_cons (pe_op op_fdivP (pv 4) pe_int) pa_nil)))) pa_nil)))) (pss_one (ps_expr (pe_bmA K PySem.F.plainAttrs_list PySem.F.slot_list_append PySem.F.type_list_append mtR_append (pv 2) (pa_cons (pe_call G_name_by_L hr_name_by_L (by rfl) T.m_name_by_L T.F_name_by_L.kp T.b_name_by_L .nil pass0 (pa_cons (pe_op op_fdivP (pv 1) (pe_ix (ixA K) (pe_lst (pa_cons pe_int (pa_cons pe_int pa_nil))) (pe_op op_modP (pv 3) pe_int) (fun _ _ => rfl))) (pa_cons pe_str (pa_cons (pe_op op_fdivP (pv 4) pe_int) pa_nil)))) pa_nil))))))))
    (pss_cons (ps_set (i := 5) sc_small_by_L.nd (by rfl) (by walk_at "o") (pe_call G_name_by_L hr_name_by_L (by rfl) T.m_name_by_L T.F_name_by_L.kp T.b_name_by_L .nil pass0 (pa_cons (pe_op op_fdivP (pv 1) pe_int) (pa_cons pe_str (pa_cons (pe_op op_modP (pe_op op_fdivP (pv 0) pe_int) pe_int) pa_nil)))))
    (pss_one (ps_ret (pe_tup (pa_cons pe_str (pa_cons (pv 5) (pa_cons (pe_callTy (callA_tuple K) (by rfl) T.z_tuple (by rfl) (pa_cons (pv 2) pa_nil)) pa_nil)))))))))), ?_⟩
  walk_at "S"
  walk_at ""
  refine ⟨by decide, ite2 (fun _ => ⟨(by show 1 ≤ sizeLine; decide), fun p hp => ?_⟩) fun _ => ⟨(by show 0 ≤ sizeLine; decide), fun p hp => ⟨cdiv, by decide, by omega, by omega, ?_⟩⟩⟩
  · exact k .fls _ _ (same_new hp _) ⟨p, rfl, SqT.of upd_same⟩ trivial rfl rfl
  have h4 : 0 ≤ n / 9 % 4 := Int.emod_nonneg _ (by decide)
  have h4' : n / 9 % 4 < 4 := Int.emod_lt_of_pos _ (by decide)
  generalize n / 9 % 4 = q at h4 h4'
  refine forW_range (fun i σ H2 => Same H H2 ∧ ∃ ts : List Str, H2 p = some (.lst (ts.map V.str)) ∧ ts.length = i ∧ (∀ t ∈ ts, Nm smallS t ∨ Nm greatS t) ∧ ∃ o3 o4, σ = [some (V.int n), some (V.int b), some (V.ref p), o3, o4, none]) ⟨same_new hp _, [], upd_same, rfl, by simp, none, none, rfl⟩ (fun i σ H2 hi hv => ?_) fun σ H2 hv => ?_
  · obtain ⟨s2, ts, ep, rfl, ht, o3, o4, rfl⟩ := hv
    walk_at ""
    refine ⟨cdiv, (by show 3 ≤ sizeLine; decide), fun p1 hp1 => ⟨_, .inl (SqL.of upd_same), ?_⟩⟩
    obtain ⟨z, hz, ez⟩ := pickI (ts := [1, 8, 64]) (i := 0 + (ts.length : Int)) (by omega) (by show _ < (3 : Int); omega)
    have hz' : 0 < z ∧ z < 1073741824 := by simp only [List.mem_cons, List.not_mem_nil, or_false] at hz; rcases hz with rfl | rfl | rfl <;> decide
    have add : ∀ (x : Str) (H3 : Hp), Nm smallS x ∨ Nm greatS x → Same (upd H2 p1 (.lst [V.int 1, V.int 8, V.int 64])) H3 → ∃ xs, H3 p = some (.lst xs) ∧ xs.length < sizeLine ∧ xs = ts.map V.str ∧ Same H (upd H3 p (.lst (xs ++ [V.str x]))) ∧
        ∃ ts' : List Str, upd H3 p (.lst (xs ++ [V.str x])) p = some (.lst (ts'.map V.str)) ∧ ts'.length = ts.length + 1 ∧ ∀ t ∈ ts', Nm smallS t ∨ Nm greatS t := fun x H3 nx s3 => by
      refine ⟨_, s3 _ _ (keep1 hp1 ep), sz1000' (by rw [List.length_map]; omega), rfl, Same.upd (s2.trans ((same_new hp1 _).trans s3)) hp, ts ++ [x], by rw [upd_same, List.map_append]; rfl, by simp, fun t h => ?_⟩
      rcases List.mem_append.mp h with h | h
      · exact ht t h
      · rw [List.mem_singleton.mp h]; exact nx
    refine ⟨_, ez, ?_⟩
    walk_at ""
    refine ⟨hz', by decide, by decide, ite2 (fun _ => ⟨⟨_, SqL.of (keep1 hp1 ep)⟩, cdiv, _, _, _, rfl, .inr rfl, fun x H3 s3 nx => ?_⟩) fun _ => ⟨⟨_, SqL.of (keep1 hp1 ep)⟩, (by show 2 ≤ sizeLine; decide), fun p2 hp2 => ⟨by decide, _, .inl (SqL.of upd_same), ?_⟩⟩⟩
    · obtain ⟨xs, a1, a2, rfl, a4, a5⟩ := add x H3 (.inr nx) s3
      (try walk_at "")
      obtain ⟨ts', b1, b2, b3⟩ := a5
      exact ⟨_, a1, a2, a4, ts', b1, b2, b3, _, _, rfl⟩
    · obtain ⟨y, hy, ey⟩ := pickI (ts := [3, 7]) (i := (0 + (ts.length : Int)) % 2) (Int.emod_nonneg _ (by decide)) (Int.emod_lt_of_pos _ (by decide))
      have hy' : 0 < y ∧ y < 1073741824 := by simp only [List.mem_cons, List.not_mem_nil, or_false] at hy; rcases hy with rfl | rfl <;> decide
      refine ⟨_, ey, ?_⟩
      walk_at ""
      refine ⟨hy', cdiv, _, _, _, rfl, .inl rfl, fun x H3 s3 nx => ?_⟩
      obtain ⟨xs, a1, a2, rfl, a4, a5⟩ := add x H3 (.inl nx) ((same_new hp2 _).trans s3)
      (try walk_at "")
      obtain ⟨ts', b1, b2, b3⟩ := a5
      exact ⟨_, a1, a2, a4, ts', b1, b2, b3, _, _, rfl⟩
  · obtain ⟨s2, ts, ep, hl, ht, o3, o4, rfl⟩ := hv
    walk_at ""
    refine ⟨cdiv, cdiv, by decide, _, _, _, rfl, .inl rfl, fun x H3 s3 nx => ?_⟩
    walk_at ""
    refine ⟨_, .inl ⟨SqL.of (s3 _ _ ep), fun l hl' => ⟨(by show 3 ≤ sizeLine; decide), fun p2 hp2 => ?_⟩⟩⟩
    exact k (.is x ts) _ _ (s2.trans (s3.trans ((same_new hl' _).trans (same_new hp2 _)))) ⟨p2, l, rfl, SqT.of upd_same, SqT.of (keep1 hp2 upd_same)⟩ ⟨nx, by omega, ht⟩ rfl rfl
theorem ok_wrapped_L (T : Tx K mg D) : FnOk P w K mg base0 CX0 3 D.a_wrapped_L D.d_wrapped_L ["_law_ka", "_law_number", "_law_other", "_law_base"] (spWrapped K) := by
  have G_name_by_L := ok_name_by_L (P := P) (w := w) (base0 := base0) T
  refine T.F_wrapped_L.ok sc_wrapped_L (fun vs H Q E h => ?_) (fun cdv A outer s H vs Q E hr h => ?_)
  · obtain ⟨v, n, u, b, A, B, rfl, _⟩ := h; rfl
  obtain ⟨v, n, u, b, SA, SB, rfl, rA, rB, oA, oB, k⟩ := h
  have hu := hr.units
  have hr_name_by_L : Room 2 _ := hr.mono (by decide)
  refine ⟨_, (pss_cons (ps_set (i := 4) sc_wrapped_L.nd (by rfl) (by walk_at "o") (pe_op op_modP (pv 1) pe_int))
    (pss_cons (ps_if (pt_cmpR opA_lt (pv 4) pe_int (nomark _)) (pss_one (ps_ret (pe_tup (pa_cons pe_str (pa_cons (pv 0) pa_nil))))) pss_nil)
    (pss_cons (ps_if (pt_cmpR opA_lt (pv 4) pe_int (nomark _)) (pss_cons (ps_set (i := 5) sc_wrapped_L.nd (by rfl) (by walk_at "o") (pe_ix (ixA K) (pe_lst (pa_cons pe_str (pa_cons pe_str (pa_cons pe_str pa_nil)))) (pe_op op_sub (pv 4) pe_int) (fun _ _ => rfl)))
    (pss_cons (ps_if (pt_cmpR (opB_eq K hu) (pe_op op_modP (pe_op op_fdivP (pv 1) pe_int) pe_int) pe_int (nomark _)) (pss_one (ps_ret (pe_tup (pa_cons (pv 5) (pa_cons (pv 2) (pa_cons (pv 0) pa_nil)))))) pss_nil)
    (pss_one (ps_ret (pe_tup (pa_cons (pv 5) (pa_cons (pv 0) (pa_cons (pv 2) pa_nil)))))))) pss_nil)
    (pss_cons (ps_set (i := 6) sc_wrapped_L.nd (by rfl) (by walk_at "o") (pe_call G_name_by_L hr_name_by_L (by rfl) T.m_name_by_L T.F_name_by_L.kp T.b_name_by_L .nil pass0 (pa_cons (pv 3) (pa_cons pe_str (pa_cons (pe_op op_modP (pe_op op_fdivP (pv 1) pe_int) pe_int) pa_nil)))))
    (pss_one (ps_ret (pe_tup (pa_cons (pe_ix (ixA K) (pe_lst (pa_cons pe_str (pa_cons pe_str pa_nil))) (pe_op op_modP (pv 4) pe_int) (fun _ _ => rfl)) (pa_cons (pv 6) (pa_cons (pv 0) pa_nil)))))))))), ?_⟩
  walk_at "S"
  walk_at ""
  have h8 : 0 ≤ n % 8 := Int.emod_nonneg _ (by decide)
  have h8' : n % 8 < 8 := Int.emod_lt_of_pos _ (by decide)
  refine ⟨by decide, ite2 (fun _ => ⟨(by show 2 ≤ sizeLine; decide), fun p hp => ?_⟩) fun c1 => ite2 (fun c2 => ⟨(by show 3 ≤ sizeLine; decide), fun p hp => ⟨_, .inl (SqL.of upd_same), ?_⟩⟩) fun c2 => ⟨cdiv, by decide, _, _, _, rfl, .inr rfl, fun x H1 s1 nx => ⟨(by show 2 ≤ sizeLine; decide), fun p hp => ⟨by decide, _, .inl (SqL.of upd_same), ?_⟩⟩⟩⟩
  · exact k (.neg SA) _ _ (same_new hp _) ⟨p, v, rfl, SqT.of upd_same, rA.same (same_new hp _)⟩ oA (by simp only [Stm.deep]; omega) (by simp only [Stm.size]; omega)
  · obtain ⟨z, hz, ez⟩ := pickS (ts := ["and", "or", "then"]) (i := n % 8 - 2) (by omega) (by show _ < (3 : Int); omega)
    obtain ⟨o, rfl⟩ : ∃ o : Bi, z = o.txt := by
      simp only [List.mem_cons, List.not_mem_nil, or_false] at hz
      rcases hz with rfl | rfl | rfl
      · exact ⟨.and, rfl⟩
      · exact ⟨.or, rfl⟩
      · exact ⟨.thn, rfl⟩
    refine ⟨_, ez, cdiv, by decide, ite2 (fun _ => ⟨(by show 3 ≤ sizeLine; decide), fun p1 hp1 => ?_⟩) fun _ => ⟨(by show 3 ≤ sizeLine; decide), fun p1 hp1 => ?_⟩⟩
    · have sm := (same_new hp (.lst [V.str "and", V.str "or", V.str "then"])).trans (same_new hp1 (.tup [V.str o.txt, u, v]))
      exact k (.bi o SB SA) _ _ sm ⟨p1, u, v, rfl, SqT.of upd_same, rB.same sm, rA.same sm⟩ ⟨oB, oA⟩ (by simp only [Stm.deep]; omega) (by simp only [Stm.size]; omega)
    · have sm := (same_new hp (.lst [V.str "and", V.str "or", V.str "then"])).trans (same_new hp1 (.tup [V.str o.txt, v, u]))
      exact k (.bi o SA SB) _ _ sm ⟨p1, v, u, rfl, SqT.of upd_same, rA.same sm, rB.same sm⟩ ⟨oA, oB⟩ (by simp only [Stm.deep]; omega) (by simp only [Stm.size]; omega)
  · obtain ⟨z, hz, ez⟩ := pickS (ts := ["all", "some"]) (i := n % 8 % 2) (Int.emod_nonneg _ (by decide)) (Int.emod_lt_of_pos _ (by decide))
    obtain ⟨q, rfl⟩ : ∃ q : Bool, z = qtx q := by
      simp only [List.mem_cons, List.not_mem_nil, or_false] at hz
      rcases hz with rfl | rfl
      · exact ⟨true, rfl⟩
      · exact ⟨false, rfl⟩
    refine ⟨_, ez, (by show 3 ≤ sizeLine; decide), fun p1 hp1 => ?_⟩
    have sm := s1.trans ((same_new hp (.lst [V.str "all", V.str "some"])).trans (same_new hp1 (.tup [V.str (qtx q), V.str x, v])))
    exact k (.qu q x SA) _ _ sm ⟨p1, v, rfl, SqT.of upd_same, rA.same sm⟩ ⟨nx, oA⟩ (by simp only [Stm.deep]; omega) (by simp only [Stm.size]; omega)
theorem ok_many_by_L (T : Tx K mg D) : FnOk P w K mg base0 CX0 1 D.a_many_by_L D.d_many_by_L ["_law_cell"] spManyBy := by
  refine T.F_many_by_L.ok sc_many_by_L (fun vs H Q E h => ?_) (fun cdv A outer s H vs Q E hr h => ?_)
  · obtain ⟨c, rfl, _⟩ := h; rfl
  obtain ⟨c, rfl, k⟩ := h
  have hu := hr.units
  refine ⟨_, (pss_cons (ps_if (pt_cmpR (opB_eq K hu) (pe_op op_modP (pv 0) pe_int) pe_int (nomark _)) (pss_one (ps_ret pe_int)) pss_nil)
    (pss_one (ps_ret (pe_op op_modP (pe_op op_modP (pv 0) pe_int) pe_int)))), ?_⟩
  walk_at "S"
  walk_at ""
  refine ⟨by decide, ite2 (fun _ => k _ (by decide) (by decide)) fun _ => ⟨by decide, by decide, k _ (Int.emod_nonneg _ (by decide)) (Int.le_of_lt (Int.lt_of_lt_of_le (Int.emod_lt_of_pos _ (by decide)) (by decide)))⟩⟩
end
section
variable {P : Program} {w : World} {K : PySem.W.Frag} {mg : Str → Option Value} {base0 : Heap} {D : Defs}
theorem ok_statement_by_L (T : Tx K mg D) : FnOk P w K mg base0 CX0 4 D.a_statement_by_L D.d_statement_by_L ["_law_script", "_law_at", "_law_many"] (spStmtBy K) := by
  have G_mixed_L := ok_mixed_L (P := P) (w := w) (base0 := base0) T
  have G_small_by_L := ok_small_by_L (P := P) (w := w) (base0 := base0) T
  have G_wrapped_L := ok_wrapped_L (P := P) (w := w) (base0 := base0) T
  refine T.F_statement_by_L.ok sc_statement_by_L (fun vs H Q E h => ?_) (fun cdv A outer s H vs Q E hr h => ?_)
  · obtain ⟨a, ns, n, m, rfl, _⟩ := h; rfl
  obtain ⟨a, ns, n, m, rfl, hS, h0, h1, h2, h3, k⟩ := h
  have hu := hr.units
  have hr_mixed_L : Room 1 _ := hr.mono (by decide)
  have hr_small_by_L : Room 3 _ := hr.mono (by decide)
  have hr_wrapped_L : Room 3 _ := hr.mono (by decide)
  refine ⟨_, (pss_cons (ps_set (i := 3) sc_statement_by_L.nd (by rfl) (by walk_at "o") (pe_call G_mixed_L hr_mixed_L (by rfl) T.m_mixed_L T.F_mixed_L.kp T.b_mixed_L .nil pass0 (pa_cons (pv 0) (pa_cons (pv 1) pa_nil))))
    (pss_cons (ps_set (i := 4) sc_statement_by_L.nd (by rfl) (by walk_at "o") (pe_call G_small_by_L hr_small_by_L (by rfl) T.m_small_by_L T.F_small_by_L.kp T.b_small_by_L .nil pass0 (pa_cons (pe_call G_mixed_L hr_mixed_L (by rfl) T.m_mixed_L T.F_mixed_L.kp T.b_mixed_L .nil pass0 (pa_cons (pv 0) (pa_cons (pe_op (opA_add K) (pv 1) pe_int) pa_nil))) (pa_cons (pv 3) pa_nil))))
    (pss_cons (ps_for PassesOwn.never (by rfl) (pi_range1 (by rfl) T.z_range (pa_cons (pv 2) pa_nil)) (pg_name (i := 5) sc_statement_by_L.nd (by rfl) (by walk_at "o"))
      (pss_cons (ps_set (i := 6) sc_statement_by_L.nd (by rfl) (by walk_at "o") (pe_call G_mixed_L hr_mixed_L (by rfl) T.m_mixed_L T.F_mixed_L.kp T.b_mixed_L .nil pass0 (pa_cons (pv 0) (pa_cons (pe_op (opA_add K) (pe_op (opA_add K) (pv 1) pe_int) (pe_op opA_mul pe_int (pv 5))) pa_nil))))
    (pss_cons (ps_set (i := 7) sc_statement_by_L.nd (by rfl) (by walk_at "o") (pe_call G_small_by_L hr_small_by_L (by rfl) T.m_small_by_L T.F_small_by_L.kp T.b_small_by_L .nil pass0 (pa_cons (pe_call G_mixed_L hr_mixed_L (by rfl) T.m_mixed_L T.F_mixed_L.kp T.b_mixed_L .nil pass0 (pa_cons (pv 0) (pa_cons (pe_op (opA_add K) (pe_op (opA_add K) (pv 1) pe_int) (pe_op opA_mul pe_int (pv 5))) pa_nil))) (pa_cons (pv 3) pa_nil))))
    (pss_cons (ps_for PassesOwn.never (by rfl) (pi_range1 (by rfl) T.z_range (pa_cons (pe_ix (ixA K) (pe_lst (pa_cons pe_int (pa_cons (pe_callTy callA_int (by rfl) T.z_int (by rfl) (pa_cons (pe_cmpR opA_lt (pv 2) pe_int (nomark _)) pa_nil)) (pa_cons pe_int (pa_cons (pe_op opA_mul pe_int (pe_callTy callA_int (by rfl) T.z_int (by rfl) (pa_cons (pe_cmpR opA_lt (pv 2) pe_int (nomark _)) pa_nil))) pa_nil))))) (pe_op op_modP (pe_op op_fdivP (pv 6) pe_int) pe_int) (fun _ _ => rfl)) pa_nil)) (pg_name (i := 8) sc_statement_by_L.nd (by rfl) (by walk_at "o"))
      (pss_cons (ps_set (i := 9) sc_statement_by_L.nd (by rfl) (by walk_at "o") (pe_call G_small_by_L hr_small_by_L (by rfl) T.m_small_by_L T.F_small_by_L.kp T.b_small_by_L .nil pass0 (pa_cons (pe_call G_mixed_L hr_mixed_L (by rfl) T.m_mixed_L T.F_mixed_L.kp T.b_mixed_L .nil pass0 (pa_cons (pv 0) (pa_cons (pe_op (opA_add K) (pe_op (opA_add K) (pe_op (opA_add K) (pv 1) pe_int) (pe_op opA_mul pe_int (pv 5))) (pe_op opA_mul pe_int (pv 8))) pa_nil))) (pa_cons (pv 3) pa_nil))))
    (pss_one (ps_set (i := 7) sc_statement_by_L.nd (by rfl) (by walk_at "o") (pe_call G_wrapped_L hr_wrapped_L (by rfl) T.m_wrapped_L T.F_wrapped_L.kp T.b_wrapped_L .nil pass0 (pa_cons (pv 7) (pa_cons (pe_call G_mixed_L hr_mixed_L (by rfl) T.m_mixed_L T.F_mixed_L.kp T.b_mixed_L .nil pass0 (pa_cons (pv 0) (pa_cons (pe_op (opA_add K) (pe_op (opA_add K) (pe_op (opA_add K) (pv 1) pe_int) (pe_op opA_mul pe_int (pv 5))) (pe_op opA_mul pe_int (pv 8))) pa_nil))) (pa_cons (pv 9) (pa_cons (pv 3) pa_nil)))))))))
    (pss_one (ps_set (i := 4) sc_statement_by_L.nd (by rfl) (by walk_at "o") (pe_call G_wrapped_L hr_wrapped_L (by rfl) T.m_wrapped_L T.F_wrapped_L.kp T.b_wrapped_L .nil pass0 (pa_cons (pv 4) (pa_cons (pv 6) (pa_cons (pv 7) (pa_cons (pv 3) pa_nil)))))))))))
    (pss_one (ps_ret (pv 4)))))), ?_⟩
  walk_at "S"
  walk_at ""
  refine ⟨a, ns, _, rfl, hS, h0, by omega, a, ns, _, rfl, hS, by omega, by omega, _, _, rfl, fun S0 v0 H1 s1 r1 o1 d1 z1 => ⟨by omega, by omega, ?_⟩⟩
  generalize mixedI ns n = x
  obtain ⟨d0, hd0⟩ : ∃ d0 : Nat, d0 = if m < 30 then 6 else 1 := ⟨_, rfl⟩
  have hd1 : 1 ≤ d0 := by rw [hd0]; split <;> omega
  have hdm : (m.toNat : Nat) + d0 ≤ 40 := by rw [hd0]; split <;> omega
  refine forW_range (fun i σ H2 => Same H H2 ∧ ∃ S v, RepS K H2 S v ∧ S.Ok ∧ S.deep ≤ i + d0 ∧ S.size ≤ 12 * i + 1 ∧ ∃ o5 o6 o7 o8 o9, σ = [some (V.ref a), some (V.int n), some (V.int m), some (V.int x), some v, o5, o6, o7, o8, o9])
    ⟨s1, S0, v0, r1, o1, by omega, by omega, none, none, none, none, none, rfl⟩ (fun i σ H2 hi hv => ?_) fun σ H2 hv => ?_
  · obtain ⟨s2, S, v, rS, oS, dS, zS, o5, o6, o7, o8, o9, rfl⟩ := hv
    have hi' : (i : Int) < m := by omega
    walk_at ""
    refine ⟨cmulL, a, ns, _, rfl, s2.seq hS, by omega, by omega, ?_⟩
    walk_at ""
    refine ⟨cmulL, a, ns, _, rfl, s2.seq hS, by omega, by omega, ?_⟩
    walk_at ""
    refine ⟨_, _, rfl, fun S2 v2 H3 s3 r3 o3 d3 z3 => ?_⟩
    walk_at ""
    refine ⟨cmulL, (by show 4 ≤ sizeLine; decide), fun p hp => ⟨cdiv, by decide, _, .inl (SqL.of upd_same), ?_⟩⟩
    generalize mixedI ns (n + 2 + 3 * (0 + (i : Int))) = y
    obtain ⟨z, hz, ez⟩ := pickI (ts := [0, if m < 30 then 1 else 0, 0, 5 * if m < 30 then 1 else 0]) (i := y / 64 % 4) (Int.emod_nonneg _ (by decide)) (Int.emod_lt_of_pos _ (by decide))
    have hz1 : 0 ≤ z ∧ z + 1 ≤ (d0 : Int) := by
      simp only [List.mem_cons, List.not_mem_nil, or_false] at hz
      rw [hd0]
      rcases hz with rfl | rfl | rfl | rfl <;> split <;> constructor <;> decide
    have hz5 : z ≤ 5 := by
      have : d0 ≤ 6 := by rw [hd0]; split <;> omega
      omega
    refine ⟨_, ez, ?_⟩
    walk_at ""
    refine ⟨by omega, by omega, ?_⟩
    have s3' := s2.trans (s3.trans (same_new hp (.lst [V.int 0, V.int (if m < 30 then 1 else 0), V.int 0, V.int (5 * if m < 30 then 1 else 0)])))
    have s3'' := s3.trans (same_new hp (.lst [V.int 0, V.int (if m < 30 then 1 else 0), V.int 0, V.int (5 * if m < 30 then 1 else 0)]))
    refine forW_range (fun j σ H4 => Same H H4 ∧ RepS K H4 S v ∧ ∃ S4 v4, RepS K H4 S4 v4 ∧ S4.Ok ∧ S4.deep ≤ j + 1 ∧ S4.size ≤ 2 * j + 1 ∧ ∃ o8 o9, σ = [some (V.ref a), some (V.int n), some (V.int m), some (V.int x), some v, some (V.int (0 + (i : Int))), some (V.int y), some v4, o8, o9])
      ⟨s3', rS.same s3'', S2, v2, r3.same (same_new hp _), o3, by omega, by omega, _, _, rfl⟩ (fun j σ H4 hj hv => ?_) fun σ H4 hv => ?_
    · obtain ⟨s4, rS4, S4, v4, r4, o4, d4, z4, o8, o9, rfl⟩ := hv
      walk_at ""
      refine ⟨cmulL, cmulL, a, ns, _, rfl, s4.seq hS, by omega, by omega, ?_⟩
      walk_at ""
      refine ⟨_, _, rfl, fun S5 v5 H5 s5 r5 o5 d5 z5 => ?_⟩
      walk_at ""
      refine ⟨cmulL, cmulL, a, ns, _, rfl, (s4.trans s5).seq hS, by omega, by omega, ?_⟩
      walk_at ""
      refine ⟨_, _, _, _, S4, S5, rfl, r4.same s5, r5, o4, o5, fun S6 v6 H6 s6 r6 o6 d6 z6 => ?_⟩
      walk_at ""
      exact ⟨s4.trans (s5.trans s6), rS4.same (s5.trans s6), S6, v6, r6, o6, by omega, by omega, _, _, rfl⟩
    · obtain ⟨s4, rS4, S4, v4, r4, o4, d4, z4, o8, o9, rfl⟩ := hv
      walk_at ""
      refine ⟨_, _, _, _, S, S4, rfl, rS4, r4, oS, o4, fun S6 v6 H6 s6 r6 o6 d6 z6 => ?_⟩
      walk_at ""
      exact ⟨s4.trans s6, S6, v6, r6, o6, by omega, by omega, _, _, _, _, _, rfl⟩
  · obtain ⟨s2, S, v, rS, oS, dS, zS, o5, o6, o7, o8, o9, rfl⟩ := hv
    walk_at ""
    exact k S v H2 s2 rS oS (by omega) (by omega)
end
section
variable {P : Program} {w : World} {K : PySem.W.Frag} {mg : Str → Option Value} {base0 : Heap} {D : Defs}
theorem ok_parts (T : Tx K mg D) : FnOk P w K mg base0 CX0 1 D.a_parts D.d_parts ["A"] (spParts K) := by
  refine T.F_parts.ok sc_parts (fun vs H Q E h => ?_) (fun cdv A outer s H vs Q E hr h => ?_)
  · obtain ⟨v, S, rfl, _⟩ := h; rfl
  obtain ⟨v, S, rfl, rS, k⟩ := h
  have hu := hr.units
  refine ⟨_, (pss_cons (ps_if (pt_cmpR (opB_eq K hu) (pe_ix (ixA K) (pv 0) pe_int (fun _ _ => rfl)) pe_str (nomark _)) (pss_one (ps_ret (pe_tup pa_nil))) pss_nil)
    (pss_cons (ps_if (pt_cmpR (opA_in K) (pe_ix (ixA K) (pv 0) pe_int (fun _ _ => rfl)) (T.g_QUANTIFIERS (by rfl)) (by rfl)) (pss_one (ps_ret (pe_tup (pa_cons (pe_ix (ixA K) (pv 0) pe_int (fun _ _ => rfl)) pa_nil)))) pss_nil)
    (pss_one (ps_ret (pe_slice (slA K) (pv 0) (po_some pe_int) po_none))))), ?_⟩
  walk_at "S"
  cases S with
  | is x ts =>
    obtain ⟨a, b, rfl, h2, h3⟩ := rS
    walk_at ""
    refine ⟨_, .inr h2, _, atI_nat (j := 0) rfl, ?_⟩
    walk_at ""
    refine ⟨(by show 0 ≤ sizeLine; decide), fun p hp => k p [] _ (same_new hp _) (SqT.of upd_same) .nil⟩
  | fls =>
    obtain ⟨a, rfl, h2⟩ := rS
    walk_at ""
    refine ⟨_, .inr h2, _, atI_nat (j := 0) rfl, ?_⟩
    walk_at ""
    rw [if_neg (by decide +kernel)]
    refine ⟨_, .inr h2, _, atI_nat (j := 0) rfl, ?_⟩
    (try walk_at "")
    refine ⟨_, .inr (T.q_QUANTIFIERS _), rfl, by decide, ?_⟩
    rw [if_neg (by decide +kernel)]
    refine ⟨_, .inr ⟨h2, by decide, fun p hp => k p _ _ (same_new hp _) (SqT.of upd_same) ?_⟩⟩
    exact .nil
  | neg B =>
    obtain ⟨a, u, rfl, h2, h3⟩ := rS
    walk_at ""
    refine ⟨_, .inr h2, _, atI_nat (j := 0) rfl, ?_⟩
    walk_at ""
    rw [if_neg (by decide +kernel)]
    refine ⟨_, .inr h2, _, atI_nat (j := 0) rfl, ?_⟩
    (try walk_at "")
    refine ⟨_, .inr (T.q_QUANTIFIERS _), rfl, by decide, ?_⟩
    rw [if_neg (by decide +kernel)]
    refine ⟨_, .inr ⟨h2, (by show ¬ (min 1 2 = 0 ∧ _); omega), fun p hp => k p _ _ (same_new hp _) (SqT.of upd_same) ?_⟩⟩
    exact .cons (h3.same (same_new hp _)) .nil
  | bi o B C =>
    obtain ⟨a, u, u', rfl, h2, h3, h4⟩ := rS
    walk_at ""
    refine ⟨_, .inr h2, _, atI_nat (j := 0) rfl, ?_⟩
    walk_at ""
    rw [if_neg (bi_is o)]
    refine ⟨_, .inr h2, _, atI_nat (j := 0) rfl, ?_⟩
    (try walk_at "")
    refine ⟨_, .inr (T.q_QUANTIFIERS _), rfl, by decide, ?_⟩
    rw [bi_no_quant, if_neg (by decide)]
    refine ⟨_, .inr ⟨h2, by show ¬ (min 1 3 = 0 ∧ _); omega, fun p hp => k p _ _ (same_new hp _) (SqT.of upd_same) ?_⟩⟩
    exact .cons (h3.same (same_new hp _)) (.cons (h4.same (same_new hp _)) .nil)
  | qu q X B =>
    obtain ⟨a, u, rfl, h2, h3⟩ := rS
    walk_at ""
    refine ⟨_, .inr h2, _, atI_nat (j := 0) rfl, ?_⟩
    walk_at ""
    rw [if_neg (qu_is q)]
    refine ⟨_, .inr h2, _, atI_nat (j := 0) rfl, ?_⟩
    (try walk_at "")
    refine ⟨_, .inr (T.q_QUANTIFIERS _), rfl, by decide, ?_⟩
    rw [qu_quant, if_pos rfl]
    refine ⟨_, .inr h2, _, atI_nat (j := 2) rfl, (by show 1 ≤ sizeLine; decide), fun p hp => k p _ _ (same_new hp _) (SqT.of upd_same) (.cons (h3.same (same_new hp _)) .nil)⟩
theorem ok_parts_L (T : Tx K mg D) : FnOk P w K mg base0 CX0 1 D.a_parts_L D.d_parts_L ["_law_ka"] (spPartsL K) := by
  refine T.F_parts_L.ok sc_parts_L (fun vs H Q E h => ?_) (fun cdv A outer s H vs Q E hr h => ?_)
  · obtain ⟨v, S, rfl, _⟩ := h; rfl
  obtain ⟨v, S, rfl, rS, k⟩ := h
  have hu := hr.units
  refine ⟨_, (pss_cons (ps_if (PW.pt (pw_or (pt_cmpR (opB_eq K hu) (pe_ix (ixA K) (pv 0) pe_int (fun _ _ => rfl)) pe_str (nomark _)) (pw_or1 (pt_cmpR (opB_eq K hu) (pe_ix (ixA K) (pv 0) pe_int (fun _ _ => rfl)) pe_str (nomark _))))) (pss_one (ps_ret (pe_lst pa_nil))) pss_nil)
    (pss_cons (ps_if (pt_cmpR (opB_eq K hu) (pe_ix (ixA K) (pv 0) pe_int (fun _ _ => rfl)) pe_str (nomark _)) (pss_one (ps_ret (pe_lst (pa_cons (pe_ix (ixA K) (pv 0) pe_int (fun _ _ => rfl)) pa_nil)))) pss_nil)
    (pss_cons (ps_if (PW.pt (pw_or (pt_cmpR (opB_eq K hu) (pe_ix (ixA K) (pv 0) pe_int (fun _ _ => rfl)) pe_str (nomark _)) (pw_or1 (pt_cmpR (opB_eq K hu) (pe_ix (ixA K) (pv 0) pe_int (fun _ _ => rfl)) pe_str (nomark _))))) (pss_one (ps_ret (pe_lst (pa_cons (pe_ix (ixA K) (pv 0) pe_int (fun _ _ => rfl)) pa_nil)))) pss_nil)
    (pss_one (ps_ret (pe_lst (pa_cons (pe_ix (ixA K) (pv 0) pe_int (fun _ _ => rfl)) (pa_cons (pe_ix (ixA K) (pv 0) pe_int (fun _ _ => rfl)) pa_nil)))))))), ?_⟩
  walk_at "S"
  cases S with
  | is x ts =>
    obtain ⟨a, b, rfl, h2, h3⟩ := rS
    walk_at ""
    refine ⟨_, .inr h2, _, atI_nat (j := 0) rfl, ?_⟩
    walk_at ""
    refine ⟨(by show 0 ≤ sizeLine; decide), fun p hp => k p [] _ (same_new hp _) upd_same .nil⟩
  | fls =>
    obtain ⟨a, rfl, h2⟩ := rS
    walk_at ""
    refine ⟨_, .inr h2, _, atI_nat (j := 0) rfl, ?_⟩
    walk_at ""
    rw [if_neg (by decide +kernel)]
    refine ⟨_, .inr h2, _, atI_nat (j := 0) rfl, ?_⟩
    walk_at ""
    refine ⟨(by show 0 ≤ sizeLine; decide), fun p hp => k p [] _ (same_new hp _) upd_same .nil⟩
  | neg B =>
    obtain ⟨a, u, rfl, h2, h3⟩ := rS
    walk_at ""
    refine ⟨_, .inr h2, _, atI_nat (j := 0) rfl, ?_⟩
    walk_at ""
    rw [if_neg (by decide +kernel)]
    refine ⟨_, .inr h2, _, atI_nat (j := 0) rfl, ?_⟩
    walk_at ""
    rw [if_neg (by decide +kernel)]
    refine ⟨_, .inr h2, _, atI_nat (j := 0) rfl, ?_⟩
    walk_at ""
    refine ⟨_, .inr h2, _, atI_nat (j := 1) rfl, (by show 1 ≤ sizeLine; decide), fun p hp => k p _ _ (same_new hp _) upd_same (.cons (h3.same (same_new hp _)) .nil)⟩
  | bi o B C =>
    obtain ⟨a, u, u', rfl, h2, h3, h4⟩ := rS
    walk_at ""
    refine ⟨_, .inr h2, _, atI_nat (j := 0) rfl, ?_⟩
    walk_at ""
    rw [if_neg (bi_is o)]
    refine ⟨_, .inr h2, _, atI_nat (j := 0) rfl, ?_⟩
    walk_at ""
    rw [if_neg (bi_false o)]
    refine ⟨_, .inr h2, _, atI_nat (j := 0) rfl, ?_⟩
    walk_at ""
    rw [if_neg (bi_not o)]
    refine ⟨_, .inr h2, _, atI_nat (j := 0) rfl, ?_⟩
    walk_at ""
    rw [if_neg (bi_all o)]
    refine ⟨_, .inr h2, _, atI_nat (j := 0) rfl, ?_⟩
    walk_at ""
    rw [if_neg (bi_some o)]
    refine ⟨_, .inr h2, _, atI_nat (j := 1) rfl, _, .inr h2, _, atI_nat (j := 2) rfl, (by show 2 ≤ sizeLine; decide), fun p hp => k p _ _ (same_new hp _) upd_same (.cons (h3.same (same_new hp _)) (.cons (h4.same (same_new hp _)) .nil))⟩
  | qu q X B =>
    obtain ⟨a, u, rfl, h2, h3⟩ := rS
    walk_at ""
    refine ⟨_, .inr h2, _, atI_nat (j := 0) rfl, ?_⟩
    walk_at ""
    rw [if_neg (qu_is q)]
    refine ⟨_, .inr h2, _, atI_nat (j := 0) rfl, ?_⟩
    walk_at ""
    rw [if_neg (qu_false q)]
    refine ⟨_, .inr h2, _, atI_nat (j := 0) rfl, ?_⟩
    walk_at ""
    rw [if_neg (qu_not q)]
    refine ⟨_, .inr h2, _, atI_nat (j := 0) rfl, ?_⟩
    walk_at ""
    have fin : ∃ xs, (SqL K H a xs ∨ SqT K H a xs) ∧ ∃ v, atI xs 2 = some v ∧ [v].length ≤ sizeLine ∧ ∀ p, H p = none → Q (.ref p) (upd H p (.lst [v])) :=
      ⟨_, .inr h2, _, atI_nat (j := 2) rfl, (by show 1 ≤ sizeLine; decide), fun p hp => k p _ _ (same_new hp _) upd_same (.cons (h3.same (same_new hp _)) .nil)⟩
    cases q with
    | true => rw [if_pos (show qtx true = "all" from rfl)]; exact fin
    | false =>
      rw [if_neg (by decide +kernel)]
      refine ⟨_, .inr h2, _, atI_nat (j := 0) rfl, ?_⟩
      walk_at ""
      rw [if_pos (show qtx false = "some" from rfl)]
      exact fin
end
section
variable {P : Program} {w : World} {K : PySem.W.Frag} {mg : Str → Option Value} {base0 : Heap} {D : Defs}
def sof : Str := "abcdefghijklmnopqrstuvwxyz0123456789"
def tailOk (x : Str) : Bool := (Txt.slice x (some 1) none).cps.toList.all fun c => inS ⟨#[c]⟩ sof
def base (x f : Str) : Bool := if x = "" then false else if (8 : Int) < x.length then false else if inS ⟨#[x.cps.toList.headD 0]⟩ f then tailOk x else false
def keptV : List V := [V.str "not", V.str "and", V.str "or", V.str "then", V.str "all", V.str "some", V.str "false"]
theorem head_at {x : Str} (h : ¬ x = "") : atI x.cps.toList 0 = some (x.cps.toList.headD 0) := by
  have e : x.cps.toList ≠ [] := fun e => h (by
    obtain ⟨c⟩ := x
    have : c = #[] := by simpa using e
    subst this
    rfl)
  cases q : x.cps.toList with
  | nil => exact absurd q e
  | cons c r => exact atI_nat (j := 0) rfl
def spBase : Sp := fun vs H Q _ => ∃ x f, vs = [.str x, .str f] ∧ x.length ≤ 1000 ∧ ∀ H', Same H H' → Q (.bl (base x f)) H'
def sp1 (r : Str → Bool) : Sp := fun vs H Q _ => ∃ x, vs = [.str x] ∧ x.length ≤ 1000 ∧ ∀ H', Same H H' → Q (.bl (r x)) H'
theorem ok_begins (T : Tx K mg D) : FnOk P w K mg base0 CX0 1 D.a_begins_and_goes_on D.d_begins_and_goes_on ["text", "first_signs"] spBase := by
  refine T.F_begins_and_goes_on.ok sc_begins_and_goes_on (fun vs H Q E h => ?_) (fun cdv A outer s H vs Q E hr h => ?_)
  · obtain ⟨x, f, rfl, _⟩ := h; rfl
  obtain ⟨x, f, rfl, hx, k⟩ := h
  have hu := hr.units
  refine ⟨_, (pss_cons (ps_if (PW.pt (pw_or (pt_cmpR (opC_eq K hu) (pv 0) pe_str (nomark _)) (pw_or (pt_cmpR op_gt (pe_callB (callA_len K) (by rfl) T.z_len PySem.boot_len (pa_cons (pv 0) pa_nil)) (T.g_MOST_SIGNS (by rfl)) (nomark _)) (pw_or1 (pt_cmpR (opC_notin K hu) (pe_ix (ixA K) (pv 0) pe_int (fun _ _ => rfl)) (pv 1) (by rfl)))))) (pss_one (ps_ret pe_bl)) pss_nil)
    (pss_one (ps_ret (pe_callB (callA_all K (by rfl)) (by rfl) T.z_all (by rfl) (pa_cons (pe_comp 1 [] ["sign"] ⟨by rfl, by rfl, by rfl, by rfl, by rfl, by rfl, by rfl⟩ (by rfl) (pi_any K (pe_slice (slA K) (pv 0) (po_some pe_int) po_none)) (fun _ _ _ _ => pg_name (i := 0) (show List.Nodup (["sign"] : List Str) by decide +kernel) (by rfl) (Or.inl (by rfl)) (Or.inr (by rfl))) (gName_keep (by decide)) (fun _ _ _ _ => pif_nil) (fun _ _ _ _ => (pe_cmpR (opC_in K hu) (pv 0) (T.g_SMALL_OR_FIGURE (by rfl)) (by rfl)))) pa_nil))))), ?_⟩
  walk_at "S"
  walk_at ""
  have hz : x.length ≤ sizeLine := sz1000 (by omega)
  have kf : base x f = false → Q (.bl false) H := fun e => by have q := k H (Same.refl H); rw [e] at q; exact q
  refine ite2 (fun c => kf (by unfold base; rw [if_pos c])) fun c => ⟨hz, ite2 (fun c2 => kf (by unfold base; rw [if_neg c, if_pos c2])) fun c2 => ⟨hz, _, head_at c, ?_⟩⟩
  refine ite2 (fun c3 => kf (by unfold base; rw [if_neg c, if_neg c2, if_neg (by rw [c3]; exact Bool.false_ne_true)])) fun c3 => ⟨hz, ?_⟩
  have c3' : inS ⟨#[x.cps.toList.headD 0]⟩ f = true := by simpa using c3
  have hb : base x f = tailOk x := by unfold base; rw [if_neg c, if_neg c2, if_pos c3']
  have hlen : (Txt.slice x (some 1) none).cps.toList.length ≤ 1000 := Nat.le_trans (Nat.le_of_eq (by simp [Str.length])) (Nat.le_trans (Txt.slice_le x (some 1) none) hx)
  refine comp_str (fun i acc H2 => H2 = H ∧ acc = ((Txt.slice x (some 1) none).cps.toList.take i).map fun c => V.bl (inS ⟨#[c]⟩ sof)) ⟨rfl, by simp⟩ (fun i c acc H2 hi hp => ?_) fun acc H2 hp p hn => ?_
  · obtain ⟨rfl, rfl⟩ := hp
    have hil : i < (Txt.slice x (some 1) none).cps.toList.length := (List.getElem?_eq_some_iff.mp hi).1
    refine ⟨sz1000' (by rw [List.length_map, List.length_take]; omega), ?_⟩
    simp only [slotsC, List.replicate_succ, List.replicate_zero, List.map_nil, List.nil_append, List.cons_append]
    walk_at ""
    refine ⟨trivial, ?_⟩
    rw [List.take_add_one, hi]
    simp [sof]
  · obtain ⟨rfl, rfl⟩ := hp
    walk_at ""
    refine ⟨(Txt.slice x (some 1) none).cps.toList.map fun c => inS ⟨#[c]⟩ sof, SqL.of (by rw [upd_same, List.take_of_length_le (Nat.le_refl _), List.map_map]; rfl), ?_⟩
    have q := k _ (same_new hn (.lst (((Txt.slice x (some 1) none).cps.toList.take (Txt.slice x (some 1) none).cps.toList.length).map fun c => V.bl (inS ⟨#[c]⟩ sof))))
    rw [hb] at q
    have e : ((Txt.slice x (some 1) none).cps.toList.map fun c => inS ⟨#[c]⟩ sof).all id = tailOk x := by unfold tailOk; rw [List.all_map]; rfl
    rw [e]
    exact q
theorem ok_name (T : Tx K mg D) : FnOk P w K mg base0 CX0 2 D.a_is_name D.d_is_name ["text"] (sp1 fun x => base x "abcdefghijklmnopqrstuvwxyz" && !inV (.str x) keptV) := by
  have G_begins_and_goes_on := ok_begins (P := P) (w := w) (base0 := base0) T
  refine T.F_is_name.ok sc_is_name (fun vs H Q E h => ?_) (fun cdv A outer s H vs Q E hr h => ?_)
  · obtain ⟨x, rfl, _⟩ := h; rfl
  obtain ⟨x, rfl, hx, k⟩ := h
  have hu := hr.units
  have hr_begins_and_goes_on : Room 1 _ := hr.mono (by decide)
  refine ⟨_, (pss_one (ps_ret (pe_and (pe_call G_begins_and_goes_on hr_begins_and_goes_on (by rfl) T.m_begins_and_goes_on T.F_begins_and_goes_on.kp T.b_begins_and_goes_on .nil pass0 (pa_cons (pv 0) (pa_cons (T.g_SMALL (by rfl)) pa_nil))) (pe_one (pe_cmpR (opC_notin K hu) (pv 0) (T.g_KEPT_WORDS (by rfl)) (by rfl)))))), ?_⟩
  walk_at "S"
  walk_at ""
  refine ⟨x, _, rfl, hx, fun H' hs => ?_⟩
  walk_at ""
  have q : Q (.bl (base x "abcdefghijklmnopqrstuvwxyz" && !inV (.str x) keptV)) H' := k H' hs
  cases e : base x "abcdefghijklmnopqrstuvwxyz" with
  | false => rw [e] at q; exact iteF q
  | true => rw [e] at q; exact iteT (.inl ⟨_, _, rfl, .inr (T.q_KEPT_WORDS _), rfl, by decide, q⟩)
theorem ok_letter (T : Tx K mg D) : FnOk P w K mg base0 CX0 2 D.a_is_letter D.d_is_letter ["text"] (sp1 fun x => base x "ABCDEFGHIJKLMNOPQRSTUVWXYZ") := by
  have G_begins_and_goes_on := ok_begins (P := P) (w := w) (base0 := base0) T
  refine T.F_is_letter.ok sc_is_letter (fun vs H Q E h => ?_) (fun cdv A outer s H vs Q E hr h => ?_)
  · obtain ⟨x, rfl, _⟩ := h; rfl
  obtain ⟨x, rfl, hx, k⟩ := h
  have hu := hr.units
  have hr_begins_and_goes_on : Room 1 _ := hr.mono (by decide)
  refine ⟨_, (pss_one (ps_ret (pe_call G_begins_and_goes_on hr_begins_and_goes_on (by rfl) T.m_begins_and_goes_on T.F_begins_and_goes_on.kp T.b_begins_and_goes_on .nil pass0 (pa_cons (pv 0) (pa_cons (T.g_GREAT (by rfl)) pa_nil))))), ?_⟩
  walk_at "S"
  walk_at ""
  exact ⟨x, _, rfl, hx, k⟩
def isNm (x : Str) : Bool := base x "abcdefghijklmnopqrstuvwxyz" && !inV (.str x) keptV
def isLt (x : Str) : Bool := base x "ABCDEFGHIJKLMNOPQRSTUVWXYZ"
end
section
variable {P : Program} {w : World} {K : PySem.W.Frag} {mg : Str → Option Value} {base0 : Heap} {D : Defs}
theorem seq_cut {a b : TS} {Dd : Ends} {σ : St} {H : Hp} (R : St → Hp → Prop) (ha : ∀ N : St → Hp → Prop, (∀ σ' H', R σ' H' → N σ' H') → a { Dd with nx := N } σ H) (hb : ∀ σ' H', R σ' H' → b Dd σ' H') : tSeq a b Dd σ H := ha _ hb
def _root_.L2.Stm.tms : Stm → List Str
  | .is _ ts => ts
  | .fls => []
  | .neg A => A.tms
  | .bi _ A B => A.tms ++ B.tms
  | .qu _ _ A => A.tms
def _root_.L2.Stm.frs : Stm → List Str
  | .is _ ts => ts
  | .fls => []
  | .neg A => A.frs
  | .bi _ A B => A.frs ++ B.frs
  | .qu _ X A => A.frs.filter fun t => decide (t ≠ X)
theorem tms_len : ∀ {S : Stm}, S.Ok → 2 * S.tms.length ≤ 3 * (S.size + 1)
  | .is w ts, h => by show 2 * ts.length ≤ 3 * (1 + 1); have := h.2.1; omega
  | .fls, _ => Nat.zero_le _
  | .neg A, h => by
    have h1 := tms_len (S := A) h
    show 2 * A.tms.length ≤ 3 * ((A.size + 1) + 1)
    omega
  | .bi _ A B, h => by
    have h1 := tms_len (S := A) h.1
    have h2 := tms_len (S := B) h.2
    show 2 * (A.tms ++ B.tms).length ≤ 3 * ((A.size + B.size + 1) + 1)
    rw [List.length_append]; omega
  | .qu _ X A, h => by
    have h1 := tms_len (S := A) h.2
    show 2 * A.tms.length ≤ 3 * ((A.size + 1) + 1)
    omega
theorem frs_sub : ∀ {S : Stm} {t : Str}, t ∈ S.frs → t ∈ S.tms
  | .is _ ts, t, h => h
  | .fls, t, h => h
  | .neg A, t, h => frs_sub (S := A) h
  | .bi _ A B, t, h => List.mem_append.mpr ((List.mem_append.mp h).imp (frs_sub (S := A)) (frs_sub (S := B)))
  | .qu _ X A, t, h => frs_sub (S := A) (List.mem_filter.mp h).1
theorem frs_len : ∀ {S : Stm}, S.frs.length ≤ S.tms.length
  | .is _ ts => Nat.le_refl _
  | .fls => Nat.le_refl _
  | .neg A => frs_len (S := A)
  | .bi _ A B => by
    show (A.frs ++ B.frs).length ≤ (A.tms ++ B.tms).length
    have h1 := frs_len (S := A)
    have h2 := frs_len (S := B)
    rw [List.length_append, List.length_append]; omega
  | .qu _ X A => Nat.le_trans (List.length_filter_le _ _) (frs_len (S := A))
theorem tm8 : ∀ {S : Stm}, S.Ok → ∀ t ∈ S.tms, t.length ≤ 8
  | .is _ ts, h, t, ht => (h.2.2 t ht).elim (fun q => q.len.1) fun q => q.len.1
  | .fls, _, t, ht => absurd ht (by show ¬ t ∈ []; simp)
  | .neg A, h, t, ht => tm8 (S := A) h t ht
  | .bi _ A B, h, t, ht => (List.mem_append.mp ht).elim (tm8 (S := A) h.1 t) (tm8 (S := B) h.2 t)
  | .qu _ _ A, h, t, ht => tm8 (S := A) h.2 t ht
theorem tms_small {S : Stm} (h : S.Ok) (z : S.size ≤ 500) : S.tms.length ≤ 800 := by have := tms_len h; omega
theorem frs_small {S : Stm} (h : S.Ok) (z : S.size ≤ 500) : S.frs.length ≤ 800 := Nat.le_trans frs_len (tms_small h z)
theorem part_ok {S : Stm} {d : Nat} (hOk : S.Ok) (hd : S.deep ≤ d + 1) (hz : S.size ≤ 500) : ∀ B ∈ S.parts, B.Ok ∧ B.deep ≤ d ∧ B.size ≤ 500 := by
  cases S with
  | is x ts => intro B h; cases h
  | fls => intro B h; cases h
  | neg C => intro B h; rw [List.mem_singleton.mp h]; exact ⟨hOk, by have : C.deep + 1 ≤ d + 1 := hd; omega, by have : C.size + 1 ≤ 500 := hz; omega⟩
  | bi o C C' =>
    intro B h
    have : max C.deep C'.deep + 1 ≤ d + 1 := hd
    have : C.size + C'.size + 1 ≤ 500 := hz
    rcases List.mem_cons.mp h with rfl | h
    · exact ⟨hOk.1, by omega, by omega⟩
    · rw [List.mem_singleton.mp h]; exact ⟨hOk.2, by omega, by omega⟩
  | qu o X C => intro B h; rw [List.mem_singleton.mp h]; exact ⟨hOk.2, by have : C.deep + 1 ≤ d + 1 := hd; omega, by have : C.size + 1 ≤ 500 := hz; omega⟩
theorem parts_len (S : Stm) : S.parts.length ≤ 2 := by cases S <;> simp [Stm.parts]
def spTms (K : PySem.W.Frag) (d : Nat) : Sp := fun vs H Q _ => ∃ v S, vs = [v] ∧ RepS K H S v ∧ S.Ok ∧ S.deep ≤ d ∧ S.size ≤ 500 ∧ ∀ p H', Same H H' → H' p = some (.lst (S.tms.map V.str)) → Q (.ref p) H'
theorem ok_terms_in (T : Tx K mg D) : ∀ d : Nat, FnOk P w K mg base0 CX0 (d + 2) D.a_terms_in D.d_terms_in ["A"] (spTms K d)
  | 0 => by
    refine T.F_terms_in.ok sc_terms_in (fun vs H Q E h => ?_) (fun cdv A outer s H vs Q E hr h => ?_)
    · obtain ⟨v, S, rfl, _⟩ := h; rfl
    · obtain ⟨v, S, rfl, _, _, h, _⟩ := h
      have := S.deep_pos
      omega
  | d + 1 => by
    have G_parts := ok_parts (P := P) (w := w) (base0 := base0) T
    have G_terms_in := ok_terms_in T d
    refine T.F_terms_in.ok sc_terms_in (fun vs H Q E h => ?_) (fun cdv A outer s H vs Q E hr h => ?_)
    · obtain ⟨v, S, rfl, _⟩ := h; rfl
    obtain ⟨v, S, rfl, rS, hOk, hd, hz, k⟩ := h
    have hu := hr.units
    have hr_parts : Room 1 _ := hr.mono (by omega)
    have hr_terms_in : Room (d + 2) _ := hr
    refine ⟨_, (pss_cons (ps_if (pt_cmpR (opB_eq K hu) (pe_ix (ixA K) (pv 0) pe_int (fun _ _ => rfl)) pe_str (nomark _)) (pss_one (ps_ret (pe_callTy (callA_list K) (by rfl) T.z_list (by rfl) (pa_cons (pe_ix (ixA K) (pv 0) pe_int (fun _ _ => rfl)) pa_nil)))) pss_nil)
    (pss_cons (ps_set (i := 1) sc_terms_in.nd (by rfl) (by walk_at "o") (pe_lst pa_nil))
    (pss_cons (ps_for PassesOwn.never (by rfl) (pi_any K (pe_call G_parts hr_parts (by rfl) T.m_parts T.F_parts.kp T.b_parts .nil pass0 (pa_cons (pv 0) pa_nil))) (pg_name (i := 2) sc_terms_in.nd (by rfl) (by walk_at "o"))
      (pss_one (ps_expr (pe_bmA K PySem.F.plainAttrs_list PySem.F.slot_list_extend PySem.F.type_list_extend mtR_extend (pv 1) (pa_cons (pe_call G_terms_in hr_terms_in (by rfl) T.m_terms_in T.F_terms_in.kp T.b_terms_in .nil pass0 (pa_cons (pv 2) pa_nil)) pa_nil)))))
    (pss_one (ps_ret (pv 1)))))), ?_⟩
    walk_at "S"
    obtain ⟨a, xs0, ev, h2⟩ := rS.tag
    subst ev
    refine seq_ifP (c := S.tag = "is") (fun Qb q => ?_) (fun c1 => ?_) fun c1 => ?_
    · walk_at ""
      exact ⟨_, .inr h2, _, atI_nat (j := 0) rfl, by rw [w_eqSB]; exact ⟨_, rfl, q⟩⟩
    · cases S with
      | is x ts =>
        obtain ⟨a', b, e', h2', h3⟩ := rS
        cases e'
        walk_at ""
        refine ⟨_, .inr h2', _, atI_nat (j := 2) rfl, ?_⟩
        walk_at ""
        exact ⟨_, .inr h3, fun l hl => k l _ (same_new hl _) upd_same⟩
      | fls => exact absurd c1 (show ¬ (Str.ofString "false" = Str.ofString "is") by decide +kernel)
      | neg B => exact absurd c1 (show ¬ (Str.ofString "not" = Str.ofString "is") by decide +kernel)
      | bi o B C => exact absurd c1 (bi_is o)
      | qu o X B => exact absurd c1 (qu_is o)
    · have pOk := part_ok hOk hd hz
      have pLen := parts_len S
      refine seq_cut (fun σ2 H2 => ∃ p, H p = none ∧ H2 = upd H p (.lst []) ∧ σ2 = [some (V.ref a), some (V.ref p), none]) (fun N hN => ?_) fun σ2 H2 hv => ?_
      · walk_at ""
        exact ⟨Nat.zero_le _, fun p hp => hN _ _ ⟨p, hp, rfl, rfl⟩⟩
      obtain ⟨p, hp, rfl, rfl⟩ := hv
      refine seq_cut (fun σ2 H2 => Same H H2 ∧ H2 p = some (.lst ((S.parts.flatMap Stm.tms).map V.str)) ∧ ∃ u, σ2 = [some (V.ref a), some (V.ref p), u]) (fun N hN => ?_) fun σ2 H2 hv => ?_
      · walk_at ""
        refine ⟨_, S, rfl, rS.same (same_new hp _), fun q us H1 s1 hq hR => ?_⟩
        (try walk_at "")
        have s01 := (same_new hp (.lst [])).trans s1
        have hul := Paired.length hR
        refine .inr ⟨⟨_, hq⟩, forW_tup (xs := us) (fun i σ2 H2 => Same H H2 ∧ SqT K H2 q us ∧ RepL K H2 S.parts us ∧ ∃ (u : Option V), σ2 = [some (V.ref a), some (V.ref p), u] ∧ H2 p = some (.lst (((S.parts.take i).flatMap Stm.tms).map V.str)) ∧ ((S.parts.take i).flatMap Stm.tms).length ≤ 1000 * i) ⟨s01, hq, hR, _, rfl, s1 _ _ upd_same, by simp⟩ (fun i σ2 H2 _ hv => hv.2.1) (fun i x σ2 H2 hx hv => ?_) fun σ2 H2 hv => ?_⟩
        · obtain ⟨s2, hq2, hR2, u, rfl, hp2, hle⟩ := hv
          obtain ⟨B, eB, rB⟩ := hR2.get hx
          have hB := pOk B (List.mem_of_getElem? eB)
          have hi : i < S.parts.length := (List.getElem?_eq_some_iff.mp eB).1
          have sB := tms_small hB.1 hB.2.2
          walk_at ""
          refine ⟨⟨_, SqL.of hp2⟩, _, B, rfl, rB, hB.1, hB.2.1, hB.2.2, fun p3 H3 s3 h3 => ?_⟩
          have e1 : S.parts.take (i + 1) = S.parts.take i ++ [B] := by
            rw [List.take_succ, eB]; rfl
          have e2 : (S.parts.take (i + 1)).flatMap Stm.tms = (S.parts.take i).flatMap Stm.tms ++ B.tms := by
            rw [e1, List.flatMap_append]; simp
          (try walk_at "")
          refine ⟨_, _, s3 _ _ hp2, h3, sz1000 (by rw [List.length_map, List.length_map]; omega), (s2.trans s3).upd hp, (s3.seqT hq2).keepL (s3 _ _ hp2), RepL.keepL (s3 _ _ hp2) (hR2.same s3), _, rfl, ?_, ?_⟩
          · rw [upd_same, e2, List.map_append]
          · rw [e2, List.length_append]; omega
        · obtain ⟨s2, hq2, hR2, u, rfl, hp2, hle⟩ := hv
          rw [← hul, List.take_length] at hp2
          exact hN _ _ ⟨s2, hp2, u, rfl⟩
      obtain ⟨s2, hp2, u, rfl⟩ := hv
      walk_at ""
      refine k p _ s2 ?_
      rw [hp2]
      cases S with
      | is x ts => exact absurd rfl c1
      | _ => simp [Stm.parts, Stm.tms]
end
section
variable {P : Program} {w : World} {K : PySem.W.Frag} {mg : Str → Option Value} {base0 : Heap} {D : Defs}
def spFrs (K : PySem.W.Frag) (d : Nat) : Sp := fun vs H Q _ => ∃ v S, vs = [v] ∧ RepS K H S v ∧ S.Ok ∧ S.deep ≤ d ∧ S.size ≤ 500 ∧ ∀ p H', Same H H' → H' p = some (.lst (S.frs.map V.str)) → Q (.ref p) H'
theorem ok_free_terms_in (T : Tx K mg D) : ∀ d : Nat, FnOk P w K mg base0 CX0 (d + 2) D.a_free_terms_in D.d_free_terms_in ["A"] (spFrs K d)
  | 0 => by
    refine T.F_free_terms_in.ok sc_free_terms_in (fun vs H Q E h => ?_) (fun cdv A outer s H vs Q E hr h => ?_)
    · obtain ⟨v, S, rfl, _⟩ := h; rfl
    · obtain ⟨v, S, rfl, _, _, h, _⟩ := h
      have := S.deep_pos
      omega
  | d + 1 => by
    have G_parts := ok_parts (P := P) (w := w) (base0 := base0) T
    have G_free_terms_in := ok_free_terms_in T d
    refine T.F_free_terms_in.ok sc_free_terms_in (fun vs H Q E h => ?_) (fun cdv A outer s H vs Q E hr h => ?_)
    · obtain ⟨v, S, rfl, _⟩ := h; rfl
    obtain ⟨v, S, rfl, rS, hOk, hd, hz, k⟩ := h
    have hu := hr.units
    have hr_parts : Room 1 _ := hr.mono (by omega)
    have hr_free_terms_in : Room (d + 2) _ := hr
    refine ⟨_, (pss_cons (ps_if (pt_cmpR (opB_eq K hu) (pe_ix (ixA K) (pv 0) pe_int (fun _ _ => rfl)) pe_str (nomark _)) (pss_one (ps_ret (pe_callTy (callA_list K) (by rfl) T.z_list (by rfl) (pa_cons (pe_ix (ixA K) (pv 0) pe_int (fun _ _ => rfl)) pa_nil)))) pss_nil)
    (pss_cons (ps_set (i := 1) sc_free_terms_in.nd (by rfl) (by walk_at "o") (pe_lst pa_nil))
    (pss_cons (ps_for PassesOwn.never (by rfl) (pi_any K (pe_call G_parts hr_parts (by rfl) T.m_parts T.F_parts.kp T.b_parts .nil pass0 (pa_cons (pv 0) pa_nil))) (pg_name (i := 2) sc_free_terms_in.nd (by rfl) (by walk_at "o"))
      (pss_one (ps_expr (pe_bmA K PySem.F.plainAttrs_list PySem.F.slot_list_extend PySem.F.type_list_extend mtR_extend (pv 1) (pa_cons (pe_call G_free_terms_in hr_free_terms_in (by rfl) T.m_free_terms_in T.F_free_terms_in.kp T.b_free_terms_in .nil pass0 (pa_cons (pv 2) pa_nil)) pa_nil)))))
    (pss_cons (ps_if (pt_cmpR (opA_in K) (pe_ix (ixA K) (pv 0) pe_int (fun _ _ => rfl)) (T.g_QUANTIFIERS (by rfl)) (by rfl)) (pss_one (ps_ret (pe_comp 1 [0] ["term", "A"] ⟨by rfl, by rfl, by rfl, by rfl, by rfl, by rfl, by rfl⟩ (by rfl) (pi_any K (pv 1)) (fun _ _ _ _ => pg_name (i := 0) (show List.Nodup (["term", "A"] : List Str) by decide +kernel) (by rfl) (Or.inl (by rfl)) (Or.inr (by rfl))) (gName_keep (by decide)) (fun _ _ _ _ => pif_one (pt_cmpR (opA_ne hu) (pv 0) (pe_ix (ixA K) (pv 1) pe_int (fun _ _ => rfl)) (nomark _))) (fun _ _ _ _ => (pv 0))))) pss_nil)
    (pss_one (ps_ret (pv 1))))))), ?_⟩
    walk_at "S"
    obtain ⟨a, xs0, ev, h2⟩ := rS.tag
    subst ev
    refine seq_ifP (c := S.tag = "is") (fun Qb q => ?_) (fun c1 => ?_) fun c1 => ?_
    · walk_at ""
      exact ⟨_, .inr h2, _, atI_nat (j := 0) rfl, by rw [w_eqSB]; exact ⟨_, rfl, q⟩⟩
    · cases S with
      | is x ts =>
        obtain ⟨a', b, e', h2', h3⟩ := rS
        cases e'
        walk_at ""
        refine ⟨_, .inr h2', _, atI_nat (j := 2) rfl, ?_⟩
        walk_at ""
        exact ⟨_, .inr h3, fun l hl => k l _ (same_new hl _) upd_same⟩
      | fls => exact absurd c1 (show ¬ (Str.ofString "false" = Str.ofString "is") by decide +kernel)
      | neg B => exact absurd c1 (show ¬ (Str.ofString "not" = Str.ofString "is") by decide +kernel)
      | bi o B C => exact absurd c1 (bi_is o)
      | qu o X B => exact absurd c1 (qu_is o)
    · have pOk := part_ok hOk hd hz
      have pLen := parts_len S
      refine seq_cut (fun σ2 H2 => ∃ p, H p = none ∧ H2 = upd H p (.lst []) ∧ σ2 = [some (V.ref a), some (V.ref p), none]) (fun N hN => ?_) fun σ2 H2 hv => ?_
      · walk_at ""
        exact ⟨Nat.zero_le _, fun p hp => hN _ _ ⟨p, hp, rfl, rfl⟩⟩
      obtain ⟨p, hp, rfl, rfl⟩ := hv
      refine seq_cut (fun σ2 H2 => Same H H2 ∧ H2 p = some (.lst ((S.parts.flatMap Stm.frs).map V.str)) ∧ ∃ u, σ2 = [some (V.ref a), some (V.ref p), u]) (fun N hN => ?_) fun σ2 H2 hv => ?_
      · walk_at ""
        refine ⟨_, S, rfl, rS.same (same_new hp _), fun q us H1 s1 hq hR => ?_⟩
        (try walk_at "")
        have s01 := (same_new hp (.lst [])).trans s1
        have hul := Paired.length hR
        refine .inr ⟨⟨_, hq⟩, forW_tup (xs := us) (fun i σ2 H2 => Same H H2 ∧ SqT K H2 q us ∧ RepL K H2 S.parts us ∧ ∃ (u : Option V), σ2 = [some (V.ref a), some (V.ref p), u] ∧ H2 p = some (.lst (((S.parts.take i).flatMap Stm.frs).map V.str)) ∧ ((S.parts.take i).flatMap Stm.frs).length ≤ 1000 * i) ⟨s01, hq, hR, _, rfl, s1 _ _ upd_same, by simp⟩ (fun i σ2 H2 _ hv => hv.2.1) (fun i x σ2 H2 hx hv => ?_) fun σ2 H2 hv => ?_⟩
        · obtain ⟨s2, hq2, hR2, u, rfl, hp2, hle⟩ := hv
          obtain ⟨B, eB, rB⟩ := hR2.get hx
          have hB := pOk B (List.mem_of_getElem? eB)
          have hi : i < S.parts.length := (List.getElem?_eq_some_iff.mp eB).1
          have sB := frs_small hB.1 hB.2.2
          walk_at ""
          refine ⟨⟨_, SqL.of hp2⟩, _, B, rfl, rB, hB.1, hB.2.1, hB.2.2, fun p3 H3 s3 h3 => ?_⟩
          have e1 : S.parts.take (i + 1) = S.parts.take i ++ [B] := by
            rw [List.take_succ, eB]; rfl
          have e2 : (S.parts.take (i + 1)).flatMap Stm.frs = (S.parts.take i).flatMap Stm.frs ++ B.frs := by
            rw [e1, List.flatMap_append]; simp
          (try walk_at "")
          refine ⟨_, _, s3 _ _ hp2, h3, sz1000 (by rw [List.length_map, List.length_map]; omega), (s2.trans s3).upd hp, (s3.seqT hq2).keepL (s3 _ _ hp2), RepL.keepL (s3 _ _ hp2) (hR2.same s3), _, rfl, ?_, ?_⟩
          · rw [upd_same, e2, List.map_append]
          · rw [e2, List.length_append]; omega
        · obtain ⟨s2, hq2, hR2, u, rfl, hp2, hle⟩ := hv
          rw [← hul, List.take_length] at hp2
          exact hN _ _ ⟨s2, hp2, u, rfl⟩
      obtain ⟨s2, hp2, u, rfl⟩ := hv
      walk_at ""
      refine ⟨_, .inr (s2.seqT h2), _, atI_nat (j := 0) rfl, ?_⟩
      (try walk_at "")
      refine ⟨_, .inr (T.q_QUANTIFIERS _), rfl, by decide, ?_⟩
      refine ite2 (fun c2 => ?_) fun c2 => ?_
      · cases S with
        | qu o X B =>
          obtain ⟨a', u', e', h2', h3⟩ := rS
          cases e'
          have fl : B.frs.length ≤ 800 := frs_small hOk.2 (by have : B.size + 1 ≤ 500 := hz; omega)
          rw [show (Stm.qu o X B).parts.flatMap Stm.frs = B.frs by simp [Stm.parts]] at hp2
          refine .inl ⟨⟨_, SqL.of hp2⟩, comp_list (xs := B.frs.map V.str) (fun i acc H3 => H3 = H2 ∧ acc = ((B.frs.take i).filter fun t => decide (t ≠ X)).map V.str) ⟨rfl, rfl⟩ (fun i acc H3 _ hv => hv.1 ▸ SqL.of hp2) (fun i y acc H3 hy hv => ?_) fun acc H3 hv p3 hp3 => ?_⟩
          · obtain ⟨rfl, rfl⟩ := hv
            rw [List.getElem?_map] at hy
            cases e : B.frs[i]? with
            | none => rw [e] at hy; cases hy
            | some t =>
              rw [e] at hy
              cases hy
              have et : B.frs.take (i + 1) = B.frs.take i ++ [t] := by rw [List.take_add_one, e]; rfl
              refine ⟨sz1000' (by rw [List.length_map]; have := List.length_filter_le (fun t => decide (t ≠ X)) (B.frs.take i); have := List.length_take_le i B.frs; have : (B.frs.take i).length ≤ B.frs.length := by rw [List.length_take]; omega
                                  omega), ?_⟩
              simp only [slotsC, List.replicate_succ, List.replicate_zero, List.map_cons, List.map_nil, List.nil_append, List.cons_append, List.getElem?_cons_zero, List.getElem?_cons_succ, Option.join_some]
              walk_at ""
              refine ⟨_, .inr (s2.seqT h2'), _, atI_nat (j := 1) rfl, ?_⟩
              (try walk_at "")
              rw [et, List.filter_append]
              refine ite2 (fun c => ⟨trivial, ?_⟩) fun c => ⟨trivial, ?_⟩
              · simp [c]
              · simp [c]
          · obtain ⟨rfl, rfl⟩ := hv
            rw [List.length_map, List.take_length] at *
            exact k p3 _ (s2.trans (same_new hp3 _)) upd_same
        | is x ts => exact absurd rfl c1
        | fls => exact absurd c2 (by decide +kernel)
        | neg B => exact absurd c2 (by show ¬ (inV (V.str "not") _ = true); decide +kernel)
        | bi o B C => exact absurd c2 (by cases o <;> (simp only [Stm.tag]; decide +kernel))
      · refine k p _ s2 ?_
        rw [hp2]
        cases S with
        | is x ts => exact absurd rfl c1
        | qu o X B => exact absurd (by cases o <;> (simp only [Stm.tag]; decide +kernel)) c2
        | _ => simp [Stm.parts, Stm.frs]
end
section
variable {P : Program} {w : World} {K : PySem.W.Frag} {mg : Str → Option Value} {base0 : Heap} {D : Defs}
def spNames (K : PySem.W.Frag) : Sp := fun vs H Q _ => ∃ v S, vs = [v] ∧ RepS K H S v ∧ S.Ok ∧ S.deep ≤ 40 ∧ S.size ≤ 500 ∧ ∀ (p : Addr) H', Same H H' → SqT K H' p ((sortU (S.tms.filter isNm)).map V.str) → Q (.ref p) H'
theorem ok_names_in (T : Tx K mg D) : FnOk P w K mg base0 CX0 50 D.a_names_in D.d_names_in ["A"] (spNames K) := by
  have G_is_name : FnOk P w K mg base0 CX0 2 D.a_is_name D.d_is_name ["text"] (sp1 isNm) := ok_name T
  have G_terms_in := ok_terms_in (P := P) (w := w) (base0 := base0) T 40
  refine T.F_names_in.ok sc_names_in (fun vs H Q E h => ?_) (fun cdv A outer s H vs Q E hr h => ?_)
  · obtain ⟨v, S, rfl, _⟩ := h; rfl
  obtain ⟨v, S, rfl, rS, oS, dS, hz, k⟩ := h
  have hl := tms_small oS hz
  have hu := hr.units
  have hr_is_name : Room 2 _ := hr.mono (by decide)
  have hr_terms_in : Room 42 _ := hr.mono (by decide)
  refine ⟨_, (pss_one (ps_ret (pe_callTy (callA_tuple K) (by rfl) T.z_tuple (by rfl) (pa_cons (pe_callB (callB_sorted P w K (by rfl)) (by rfl) T.z_sorted (by rfl) (pa_cons (pe_callTy (callA_set P w K (by rfl)) (by rfl) T.z_set (by rfl) (pa_cons (pe_comp 1 [] ["term"] ⟨by rfl, by rfl, by rfl, by rfl, by rfl, by rfl, by rfl⟩ (by rfl) (pi_any K (pe_call G_terms_in hr_terms_in (by rfl) T.m_terms_in T.F_terms_in.kp T.b_terms_in .nil pass0 (pa_cons (pv 0) pa_nil))) (fun _ _ _ _ => pg_name (i := 0) (show List.Nodup (["term"] : List Str) by decide +kernel) (by rfl) (Or.inl (by rfl)) (Or.inr (by rfl))) (gName_keep (by decide)) (fun _ _ _ _ => pif_one (pt_val (pe_call G_is_name hr_is_name (by rfl) T.m_is_name T.F_is_name.kp T.b_is_name .nil pass0 (pa_cons (pv 0) pa_nil)))) (fun _ _ _ _ => (pv 0))) pa_nil)) pa_nil)) pa_nil)))), ?_⟩
  walk_at "S"
  walk_at ""
  refine ⟨v, S, rfl, rS, oS, dS, hz, fun p H1 s1 hp => ?_⟩
  (try walk_at "")
  have flt : ∀ i, ((S.tms.take i).filter isNm).length ≤ 800 := fun i => Nat.le_trans (List.length_filter_le _ _) (by rw [List.length_take]; omega)
  refine .inl ⟨⟨_, SqL.of hp⟩, comp_list (xs := S.tms.map V.str) (fun i acc H2 => Same H1 H2 ∧ acc = ((S.tms.take i).filter isNm).map V.str) ⟨Same.refl _, rfl⟩ (fun i acc H2 _ hv => SqL.of (hv.1 _ _ hp)) (fun i x acc H2 hx hv => ?_) fun acc H2 hv p2 h2 => ?_⟩
  · obtain ⟨s2, rfl⟩ := hv
    rw [List.getElem?_map] at hx
    cases e : S.tms[i]? with
    | none => rw [e] at hx; cases hx
    | some y =>
      rw [e] at hx
      cases hx
      have hy8 := tm8 oS y (List.mem_of_getElem? e)
      refine ⟨sz1000' (by rw [List.length_map]; have := flt i; omega), ?_⟩
      simp only [slotsC, List.replicate_succ, List.replicate_zero, List.map_cons, List.map_nil, List.nil_append, List.cons_append, List.getElem?_cons_zero, List.getElem?_cons_succ, Option.join_some]
      walk_at ""
      refine ⟨y, rfl, by omega, fun H3 s3 => ⟨_, rfl, ?_⟩⟩
      have et : S.tms.take (i + 1) = S.tms.take i ++ [y] := by rw [List.take_add_one, e]; rfl
      rw [et, List.filter_append]
      refine ite2 (fun c => ⟨s2.trans s3, ?_⟩) fun c => ⟨s2.trans s3, ?_⟩
      · rw [show [y].filter isNm = [y] by simp [c], List.map_append]; rfl
      · rw [show [y].filter isNm = [] by simp [c], List.append_nil]
  · obtain ⟨s2, rfl⟩ := hv
    rw [List.length_map, List.take_length]
    (try walk_at "")
    have f0 : (S.tms.filter isNm).length ≤ 800 := Nat.le_trans (List.length_filter_le _ _) hl
    refine ⟨S.tms.filter isNm, SqL.of upd_same, by omega, fun So us h3 hnd hul hus => ?_⟩
    (try walk_at "")
    refine ⟨us, .inl upd_same, by omega, fun l vs h4 hso hperm => ?_⟩
    (try walk_at "")
    refine ⟨_, .inl ⟨SqL.of upd_same, fun l2 h5 => k l2 _ ((s1.trans s2).trans (((same_new h2 _).trans (same_new h3 _)).trans ((same_new h4 _).trans (same_new h5 _)))) ?_⟩⟩
    rw [← sorted_uniq hso hperm hnd hus]
    exact SqT.of upd_same
def spFrees (K : PySem.W.Frag) : Sp := fun vs H Q _ => ∃ v S, vs = [v] ∧ RepS K H S v ∧ S.Ok ∧ S.deep ≤ 40 ∧ S.size ≤ 500 ∧ ∀ (p : Addr) H', Same H H' → SqT K H' p ((sortU (S.frs.filter isLt)).map V.str) → Q (.ref p) H'
theorem ok_free_in (T : Tx K mg D) : FnOk P w K mg base0 CX0 50 D.a_free_in D.d_free_in ["A"] (spFrees K) := by
  have G_is_letter : FnOk P w K mg base0 CX0 2 D.a_is_letter D.d_is_letter ["text"] (sp1 isLt) := ok_letter T
  have G_free_terms_in := ok_free_terms_in (P := P) (w := w) (base0 := base0) T 40
  refine T.F_free_in.ok sc_free_in (fun vs H Q E h => ?_) (fun cdv A outer s H vs Q E hr h => ?_)
  · obtain ⟨v, S, rfl, _⟩ := h; rfl
  obtain ⟨v, S, rfl, rS, oS, dS, hz, k⟩ := h
  have hl := frs_small oS hz
  have hu := hr.units
  have hr_is_letter : Room 2 _ := hr.mono (by decide)
  have hr_free_terms_in : Room 42 _ := hr.mono (by decide)
  refine ⟨_, (pss_one (ps_ret (pe_callTy (callA_tuple K) (by rfl) T.z_tuple (by rfl) (pa_cons (pe_callB (callB_sorted P w K (by rfl)) (by rfl) T.z_sorted (by rfl) (pa_cons (pe_callTy (callA_set P w K (by rfl)) (by rfl) T.z_set (by rfl) (pa_cons (pe_comp 1 [] ["term"] ⟨by rfl, by rfl, by rfl, by rfl, by rfl, by rfl, by rfl⟩ (by rfl) (pi_any K (pe_call G_free_terms_in hr_free_terms_in (by rfl) T.m_free_terms_in T.F_free_terms_in.kp T.b_free_terms_in .nil pass0 (pa_cons (pv 0) pa_nil))) (fun _ _ _ _ => pg_name (i := 0) (show List.Nodup (["term"] : List Str) by decide +kernel) (by rfl) (Or.inl (by rfl)) (Or.inr (by rfl))) (gName_keep (by decide)) (fun _ _ _ _ => pif_one (pt_val (pe_call G_is_letter hr_is_letter (by rfl) T.m_is_letter T.F_is_letter.kp T.b_is_letter .nil pass0 (pa_cons (pv 0) pa_nil)))) (fun _ _ _ _ => (pv 0))) pa_nil)) pa_nil)) pa_nil)))), ?_⟩
  walk_at "S"
  walk_at ""
  refine ⟨v, S, rfl, rS, oS, dS, hz, fun p H1 s1 hp => ?_⟩
  (try walk_at "")
  have flt : ∀ i, ((S.frs.take i).filter isLt).length ≤ 800 := fun i => Nat.le_trans (List.length_filter_le _ _) (by rw [List.length_take]; omega)
  refine .inl ⟨⟨_, SqL.of hp⟩, comp_list (xs := S.frs.map V.str) (fun i acc H2 => Same H1 H2 ∧ acc = ((S.frs.take i).filter isLt).map V.str) ⟨Same.refl _, rfl⟩ (fun i acc H2 _ hv => SqL.of (hv.1 _ _ hp)) (fun i x acc H2 hx hv => ?_) fun acc H2 hv p2 h2 => ?_⟩
  · obtain ⟨s2, rfl⟩ := hv
    rw [List.getElem?_map] at hx
    cases e : S.frs[i]? with
    | none => rw [e] at hx; cases hx
    | some y =>
      rw [e] at hx
      cases hx
      have hy8 := tm8 oS y (frs_sub (List.mem_of_getElem? e))
      refine ⟨sz1000' (by rw [List.length_map]; have := flt i; omega), ?_⟩
      simp only [slotsC, List.replicate_succ, List.replicate_zero, List.map_cons, List.map_nil, List.nil_append, List.cons_append, List.getElem?_cons_zero, List.getElem?_cons_succ, Option.join_some]
      walk_at ""
      refine ⟨y, rfl, by omega, fun H3 s3 => ⟨_, rfl, ?_⟩⟩
      have et : S.frs.take (i + 1) = S.frs.take i ++ [y] := by rw [List.take_add_one, e]; rfl
      rw [et, List.filter_append]
      refine ite2 (fun c => ⟨s2.trans s3, ?_⟩) fun c => ⟨s2.trans s3, ?_⟩
      · rw [show [y].filter isLt = [y] by simp [c], List.map_append]; rfl
      · rw [show [y].filter isLt = [] by simp [c], List.append_nil]
  · obtain ⟨s2, rfl⟩ := hv
    rw [List.length_map, List.take_length]
    (try walk_at "")
    have f0 : (S.frs.filter isLt).length ≤ 800 := Nat.le_trans (List.length_filter_le _ _) hl
    refine ⟨S.frs.filter isLt, SqL.of upd_same, by omega, fun So us h3 hnd hul hus => ?_⟩
    (try walk_at "")
    refine ⟨us, .inl upd_same, by omega, fun l vs h4 hso hperm => ?_⟩
    (try walk_at "")
    refine ⟨_, .inl ⟨SqL.of upd_same, fun l2 h5 => k l2 _ ((s1.trans s2).trans (((same_new h2 _).trans (same_new h3 _)).trans ((same_new h4 _).trans (same_new h5 _)))) ?_⟩⟩
    rw [← sorted_uniq hso hperm hnd hus]
    exact SqT.of upd_same
end
section
variable {P : Program} {w : World} {K : PySem.W.Frag} {mg : Str → Option Value} {base0 : Heap} {D : Defs}
def _root_.L2.Stm.bnd : Stm → List Str
  | .qu _ X _ => [X]
  | _ => []
def frL (S : Stm) (bs : List Str) : List Str := S.frs.filter fun t => decide (t ∉ bs)
theorem frL_parts {S : Stm} (h : ¬ S.tag = "is") (bs : List Str) : frL S bs = S.parts.flatMap fun B => frL B (bs ++ S.bnd) := by
  cases S with
  | is x ts => exact absurd rfl h
  | fls => rfl
  | neg A => simp [frL, Stm.frs, Stm.parts, Stm.bnd]
  | bi o A B => simp [frL, Stm.frs, Stm.parts, Stm.bnd, List.filter_append]
  | qu o X A =>
    simp only [frL, Stm.frs, Stm.parts, Stm.bnd, List.flatMap_cons, List.flatMap_nil, List.append_nil, List.filter_filter]
    refine List.filter_congr fun t _ => ?_
    by_cases h1 : t ∈ bs <;> by_cases h2 : t = X <;> simp [h1, h2]
theorem if_P {σ : St} {H : Hp} {c : Prop} [Decidable c] {tt : TT} {t : TS} {Dd : Ends} (ht : ∀ Qb : Bool → Hp → Prop, Qb (decide c) H → tt σ H Qb) (h1 : c → t Dd σ H) (h2 : ¬ c → Dd.nx σ H) : tIfS tt t tNext Dd σ H := by
  show tt σ H fun b H1 => if b = true then t Dd σ H1 else Dd.nx σ H1
  refine ht _ ?_
  by_cases hc : c
  · rw [decide_eq_true hc, if_pos rfl]; exact h1 hc
  · rw [decide_eq_false hc, if_neg (by decide)]; exact h2 hc
theorem flat_all (ts : List Str) : (ts.map V.str).all flatV = true := by rw [List.all_map]; exact List.all_eq_true.mpr fun _ _ => rfl
def spTL (K : PySem.W.Frag) (d : Nat) : Sp := fun vs H Q _ => ∃ v S, ∃ (b : Addr) (bs : List Str), vs = [v, .ref b] ∧ RepS K H S v ∧ S.Ok ∧ S.deep ≤ d ∧ S.size ≤ 500 ∧ H b = some (.lst (bs.map V.str)) ∧ bs.length + d ≤ 100 ∧ ∀ p H', Same H H' → H' p = some (.lst ((frL S bs).map V.str)) → Q (.ref p) H'
theorem ok_terms_L (T : Tx K mg D) : ∀ d : Nat, FnOk P w K mg base0 CX0 (d + 2) D.a_terms_L D.d_terms_L ["_law_ka", "_law_bound"] (spTL K d)
  | 0 => by
    refine T.F_terms_L.ok sc_terms_L (fun vs H Q E h => ?_) (fun cdv A outer s H vs Q E hr h => ?_)
    · obtain ⟨v, S, b, bs, rfl, _⟩ := h; rfl
    · obtain ⟨v, S, b, bs, rfl, _, _, h, _⟩ := h
      have := S.deep_pos
      omega
  | d + 1 => by
    have G_parts_L := ok_parts_L (P := P) (w := w) (base0 := base0) T
    have G_terms_L := ok_terms_L T d
    refine T.F_terms_L.ok sc_terms_L (fun vs H Q E h => ?_) (fun cdv A outer s H vs Q E hr h => ?_)
    · obtain ⟨v, S, b, bs, rfl, _⟩ := h; rfl
    obtain ⟨v, S, b, bs, rfl, rS, hOk, hd, hz, hb, hbl, k⟩ := h
    have hu := hr.units
    have hr_parts_L : Room 1 _ := hr.mono (by omega)
    have hr_terms_L : Room (d + 2) _ := hr
    refine ⟨_, (pss_cons (ps_if (pt_cmpR (opB_eq K hu) (pe_ix (ixA K) (pv 0) pe_int (fun _ _ => rfl)) pe_str (nomark _)) (pss_one (ps_ret (pe_comp 1 [1] ["_law_term", "_law_bound"] ⟨by rfl, by rfl, by rfl, by rfl, by rfl, by rfl, by rfl⟩ (by rfl) (pi_any K (pe_ix (ixA K) (pv 0) pe_int (fun _ _ => rfl))) (fun _ _ _ _ => pg_name (i := 0) (show List.Nodup (["_law_term", "_law_bound"] : List Str) by decide +kernel) (by rfl) (Or.inl (by rfl)) (Or.inr (by rfl))) (gName_keep (by decide)) (fun _ _ _ _ => pif_one (pt_cmpR (opA_notin K) (pv 0) (pv 1) (by rfl))) (fun _ _ _ _ => (pv 0))))) pss_nil)
    (pss_cons (ps_set (i := 2) sc_terms_L.nd (by rfl) (by walk_at "o") (pv 1))
    (pss_cons (ps_if (PW.pt (pw_or (pt_cmpR (opB_eq K hu) (pe_ix (ixA K) (pv 0) pe_int (fun _ _ => rfl)) pe_str (nomark _)) (pw_or1 (pt_cmpR (opB_eq K hu) (pe_ix (ixA K) (pv 0) pe_int (fun _ _ => rfl)) pe_str (nomark _))))) (pss_one (ps_set (i := 2) sc_terms_L.nd (by rfl) (by walk_at "o") (pe_op (opA_add K) (pv 1) (pe_lst (pa_cons (pe_ix (ixA K) (pv 0) pe_int (fun _ _ => rfl)) pa_nil))))) pss_nil)
    (pss_cons (ps_set (i := 3) sc_terms_L.nd (by rfl) (by walk_at "o") (pe_lst pa_nil))
    (pss_cons (ps_for PassesOwn.never (by rfl) (pi_any K (pe_call G_parts_L hr_parts_L (by rfl) T.m_parts_L T.F_parts_L.kp T.b_parts_L .nil pass0 (pa_cons (pv 0) pa_nil))) (pg_name (i := 4) sc_terms_L.nd (by rfl) (by walk_at "o"))
      (pss_one (ps_set (i := 3) sc_terms_L.nd (by rfl) (by walk_at "o") (pe_op (opA_add K) (pv 3) (pe_call G_terms_L hr_terms_L (by rfl) T.m_terms_L T.F_terms_L.kp T.b_terms_L .nil pass0 (pa_cons (pv 4) (pa_cons (pv 2) pa_nil)))))))
    (pss_one (ps_ret (pv 3)))))))), ?_⟩
    walk_at "S"
    obtain ⟨a, xs0, ev, h2⟩ := rS.tag
    subst ev
    have fsm : ∀ {B : Stm} {cs : List Str}, B.Ok → B.size ≤ 500 → (frL B cs).length ≤ 800 := fun hB hz => Nat.le_trans (List.length_filter_le _ _) (frs_small hB hz)
    refine seq_ifP (c := S.tag = "is") (fun Qb q => ?_) (fun c1 => ?_) fun c1 => ?_
    · walk_at ""
      exact ⟨_, .inr h2, _, atI_nat (j := 0) rfl, by rw [w_eqSB]; exact ⟨_, rfl, q⟩⟩
    · cases S with
      | is x ts =>
        obtain ⟨a', b', e', h2', h3⟩ := rS
        cases e'
        walk_at ""
        refine ⟨_, .inr h2', _, atI_nat (j := 2) rfl, ?_⟩
        walk_at ""
        refine .inr ⟨⟨_, h3⟩, comp_tup (xs := ts.map V.str) (fun i acc H2 => H2 = H ∧ acc = ((ts.take i).filter fun t => decide (t ∉ bs)).map V.str) ⟨rfl, rfl⟩ (fun i acc H2 _ hv => hv.1 ▸ h3) (fun i y acc H2 hy hv => ?_) fun acc H2 hv p2 hp2 => ?_⟩
        · obtain ⟨rfl, rfl⟩ := hv
          rw [List.getElem?_map] at hy
          cases e : ts[i]? with
          | none => rw [e] at hy; cases hy
          | some t =>
            rw [e] at hy
            cases hy
            have et : ts.take (i + 1) = ts.take i ++ [t] := by rw [List.take_add_one, e]; rfl
            have ln : ((ts.take i).filter fun t => decide (t ∉ bs)).length ≤ 3 := Nat.le_trans (List.length_filter_le _ _) (by rw [List.length_take]; have := hOk.2.1; omega)
            refine ⟨sz1000' (by rw [List.length_map]; omega), ?_⟩
            simp only [slotsC, List.replicate_succ, List.replicate_zero, List.map_cons, List.map_nil, List.nil_append, List.cons_append, List.getElem?_cons_zero, List.getElem?_cons_succ, Option.join_some]
            walk_at ""
            refine ⟨_, .inl (SqL.of hb), rfl, flat_all _, ?_⟩
            rw [inV_strs, et, List.filter_append]
            by_cases c : t ∈ bs
            · simp [c]
            · simp [c]
        · obtain ⟨rfl, rfl⟩ := hv
          refine k p2 _ (same_new hp2 _) ?_
          rw [upd_same, List.length_map, List.take_length]
          rfl
      | fls => exact absurd c1 (show ¬ (Str.ofString "false" = Str.ofString "is") by decide +kernel)
      | neg B => exact absurd c1 (show ¬ (Str.ofString "not" = Str.ofString "is") by decide +kernel)
      | bi o B C => exact absurd c1 (bi_is o)
      | qu o X B => exact absurd c1 (qu_is o)
    · have pOk := part_ok hOk hd hz
      have pLen := parts_len S
      refine seq_cut (fun σ2 H2 => H = H2 ∧ σ2 = [some (V.ref a), some (V.ref b), some (V.ref b), none, none]) (fun N hN => ?_) fun σ2 H2 hv => ?_
      · walk_at ""
        exact hN _ _ ⟨rfl, rfl⟩
      obtain ⟨rfl, rfl⟩ := hv
      refine seq_cut (fun σ2 H2 => ∃ c, Same H H2 ∧ H2 c = some (.lst ((bs ++ S.bnd).map V.str)) ∧ σ2 = [some (V.ref a), some (V.ref b), some (V.ref c), none, none]) (fun N hN => if_P (c := S.tag = "all" ∨ S.tag = "some") (fun Qb q => ?_) (fun c2 => ?_) fun c2 => ?_) fun σ2 H3 hv => ?_
      · walk_at ""
        refine ⟨_, .inr h2, _, atI_nat (j := 0) rfl, ?_⟩
        (try walk_at "")
        refine ite2 (fun b1 => ?_) fun b1 => ⟨_, .inr h2, _, atI_nat (j := 0) rfl, ?_⟩
        · rw [decide_eq_true (.inl b1)] at q; exact q
        · (try walk_at "")
          rw [decide_eq_decide.mpr (show (S.tag = "all" ∨ S.tag = "some") ↔ S.tag = "some" from ⟨fun h => h.elim (fun z => absurd z b1) id, .inr⟩)] at q
          exact q
      · cases S with
        | is x ts => exact absurd rfl c1
        | fls => exact absurd c2 (by decide +kernel)
        | neg B => exact absurd (show ("not" : Str) = "all" ∨ ("not" : Str) = "some" from c2) (by decide +kernel)
        | bi o B C => exact c2.elim (fun h => absurd h (bi_all o)) fun h => absurd h (bi_some o)
        | qu o X B =>
          obtain ⟨a', u', e', h2', h3⟩ := rS
          cases e'
          walk_at ""
          refine ⟨_, .inr h2', _, atI_nat (j := 1) rfl, sz1000 (show 1 ≤ 100000 by decide), fun p hp => ⟨_, _, .inl ⟨(same_new hp _) _ _ hb, upd_same, sz1000 (by rw [List.length_map]; show bs.length + 1 ≤ _; omega), fun r hr' => hN _ _ ⟨r, (same_new hp _).trans (same_new hr' _), by rw [upd_same, List.map_append]; rfl, rfl⟩⟩⟩⟩
      · refine hN _ _ ⟨b, Same.refl _, ?_, rfl⟩
        rw [hb]
        cases S with
        | qu o X B => exact absurd (by cases o <;> (simp only [Stm.tag]; decide +kernel)) c2
        | _ => simp [Stm.bnd]
      obtain ⟨c, s1, hc, rfl⟩ := hv
      have bl : S.bnd.length ≤ 1 := by cases S <;> simp [Stm.bnd]
      walk_at ""
      refine ⟨Nat.zero_le _, fun p hp => ⟨_, S, rfl, rS.same (s1.trans (same_new hp _)), fun q us H4 s4 hq hR => ?_⟩⟩
      (try walk_at "")
      have hul := Paired.length hR
      have s04 := s1.trans ((same_new hp (.lst [])).trans s4)
      refine .inl ⟨⟨_, SqL.of hq⟩, forW_list (xs := us) (fun i σ2 H5 => Same H4 H5 ∧ ∃ (p2 : Addr) (u : Option V), σ2 = [some (.ref a), some (.ref b), some (.ref c), some (.ref p2), u] ∧ H5 p2 = some (.lst (((S.parts.take i).flatMap fun B => frL B (bs ++ S.bnd)).map V.str)) ∧ ((S.parts.take i).flatMap fun B => frL B (bs ++ S.bnd)).length ≤ 800 * i) ⟨Same.refl _, p, none, rfl, s4 _ _ upd_same, by simp⟩ (fun i σ2 H5 _ hv => hv.1.seq (SqL.of hq)) (fun i x σ2 H5 hx hv => ?_) fun σ2 H5 hv => ?_⟩
      · obtain ⟨s5, p2, u, rfl, hp2, hle⟩ := hv
        obtain ⟨B, eB, rB⟩ := hR.get hx
        have hB := pOk B (List.mem_of_getElem? eB)
        have hi : i < S.parts.length := (List.getElem?_eq_some_iff.mp eB).1
        have sB := fsm (cs := bs ++ S.bnd) hB.1 hB.2.2
        have e2 : ((S.parts.take (i + 1)).flatMap fun B => frL B (bs ++ S.bnd)) = ((S.parts.take i).flatMap fun B => frL B (bs ++ S.bnd)) ++ frL B (bs ++ S.bnd) := by
          rw [List.take_succ, eB, List.flatMap_append]; simp
        walk_at ""
        refine ⟨x, B, c, bs ++ S.bnd, rfl, rB.same s5, hB.1, hB.2.1, hB.2.2, s5 _ _ (s4 _ _ ((same_new hp _) _ _ hc)), by rw [List.length_append]; omega, fun p3 H6 s6 h6 => ?_⟩
        (try walk_at "")
        refine ⟨_, _, .inl ⟨s6 _ _ hp2, h6, sz1000 (by rw [List.length_map, List.length_map]; omega), fun r hr' => ?_⟩⟩
        exact ⟨(s5.trans s6).trans (same_new hr' _), r, _, rfl, by rw [upd_same, e2, List.map_append], by rw [e2, List.length_append]; omega⟩
      · obtain ⟨s5, p2, u, rfl, hp2, hle⟩ := hv
        rw [← hul, List.take_length] at hp2
        walk_at ""
        exact k p2 _ (s04.trans s5) (by rw [hp2, frL_parts c1])
end
section
variable {P : Program} {w : World} {K : PySem.W.Frag} {mg : Str → Option Value} {base0 : Heap} {D : Defs}
def spRise (K : PySem.W.Frag) : Sp := fun vs H Q _ => ∃ (a : Addr) (ts : List Str), vs = [.ref a] ∧ SqL K H a (ts.map V.str) ∧ ts.length ≤ 800 ∧ ∀ p H', Same H H' → SqT K H' p ((sortU ts).map V.str) → Q (.ref p) H'
theorem rise_snoc {vs r : List Str} {i : Nat} {y : Str} (hpw : vs.Pairwise fun a b => ltS b a = false) (e : vs[i]? = some y) (hr : RisingS r) (hm : ∀ x, x ∈ r ↔ x ∈ vs.take i) (c : ¬ y ∈ r) : RisingS (r ++ [y]) := by
  refine List.pairwise_append.mpr ⟨hr, by simp, fun z hz y' hy => ?_⟩
  rw [List.mem_singleton.mp hy]
  have e1 : vs = vs.take i ++ vs.drop i := (List.take_append_drop _ _).symm
  have e2 : y ∈ vs.drop i := by
    have : (vs.drop i)[0]? = some y := by rw [List.getElem?_drop]; exact e
    exact List.mem_of_getElem? this
  rw [e1] at hpw
  have h1 := (List.pairwise_append.mp hpw).2.2 z ((hm z).mp hz) y e2
  cases q : ltS z y with
  | true => rfl
  | false => exact absurd (by rw [← ltS_total q h1]; exact hz) c
theorem ok_rising_L (T : Tx K mg D) : FnOk P w K mg base0 CX0 1 D.a_rising_L D.d_rising_L ["_law_texts"] (spRise K) := by
  refine T.F_rising_L.ok sc_rising_L (fun vs H Q E h => ?_) (fun cdv A outer s H vs Q E hr h => ?_)
  · obtain ⟨a, ts, rfl, _⟩ := h; rfl
  obtain ⟨a, ts, rfl, ha, hl, k⟩ := h
  have hu := hr.units
  refine ⟨_, (pss_cons (ps_set (i := 1) sc_rising_L.nd (by rfl) (by walk_at "o") (pe_lst pa_nil))
    (pss_cons (ps_for PassesOwn.never (by rfl) (pi_any K (pe_callB (callB_sorted P w K (by rfl)) (by rfl) T.z_sorted (by rfl) (pa_cons (pv 0) pa_nil))) (pg_name (i := 2) sc_rising_L.nd (by rfl) (by walk_at "o"))
      (pss_one (ps_if (pt_cmpR (opA_notin K) (pv 2) (pv 1) (by rfl)) (pss_one (ps_expr (pe_bmA K PySem.F.plainAttrs_list PySem.F.slot_list_append PySem.F.type_list_append mtR_append (pv 1) (pa_cons (pv 2) pa_nil)))) pss_nil)))
    (pss_one (ps_ret (pe_callTy (callA_tuple K) (by rfl) T.z_tuple (by rfl) (pa_cons (pv 1) pa_nil)))))), ?_⟩
  walk_at "S"
  walk_at ""
  refine ⟨Nat.zero_le _, fun p hp => ⟨ts, .inr ((same_new hp _).seq ha), by omega, fun l vs hl' hso hpm => ?_⟩⟩
  (try walk_at "")
  have vl : vs.length ≤ 800 := by rw [hpm.length_eq]; exact hl
  have hpw := rising_of_sorted hso
  refine .inl ⟨⟨_, SqL.of upd_same⟩, forW_list (xs := vs.map V.str) (fun i σ H2 => ∃ (r : List Str) (u : Option V), σ = [some (.ref a), some (.ref p), u] ∧ Same H H2 ∧ H2 l = some (.lst (vs.map V.str)) ∧ H2 p = some (.lst (r.map V.str)) ∧ RisingS r ∧ (∀ x, x ∈ r ↔ x ∈ vs.take i) ∧ r.length ≤ i) ⟨[], none, rfl, (same_new hp _).trans (same_new hl' _), upd_same, (same_new hl' _) _ _ upd_same, List.Pairwise.nil, by simp, Nat.zero_le _⟩ (fun i σ H2 _ ⟨_, _, _, _, h, _⟩ => SqL.of h) (fun i x σ H2 hx hv => ?_) fun σ H2 hv => ?_⟩
  · obtain ⟨r, u, rfl, s2, hl2, hp2, hr2, hm, hle⟩ := hv
    rw [List.getElem?_map] at hx
    cases e : vs[i]? with
    | none => rw [e] at hx; cases hx
    | some y =>
      rw [e] at hx
      cases hx
      have hi : i < vs.length := (List.getElem?_eq_some_iff.mp e).1
      have et : vs.take (i + 1) = vs.take i ++ [y] := by rw [List.take_add_one, e]; rfl
      have hpl : l ≠ p := fun q => by subst q; rw [upd_same] at hl'; cases hl'
      walk_at ""
      refine ⟨_, .inl (SqL.of hp2), rfl, flat_all _, ?_⟩
      rw [inV_strs]
      by_cases c : y ∈ r
      · simp only [c, decide_true, Bool.not_true, Bool.false_eq_true, if_false]
        exact ⟨r, _, rfl, s2, hl2, hp2, hr2, fun x => by rw [hm, et, List.mem_append, List.mem_singleton]; exact ⟨.inl, fun q => q.elim id fun q => q ▸ (hm y).mp c⟩, by omega⟩
      · simp only [c, decide_false, Bool.not_false, if_true]
        exact ⟨⟨_, SqL.of hp2⟩, _, hp2, sz1000' (by rw [List.length_map]; omega), r ++ [y], _, rfl, s2.upd hp, by show (if l = p then _ else _) = _; rw [if_neg hpl]; exact hl2, by rw [upd_same, List.map_append]; rfl, rise_snoc hpw e hr2 hm c, fun x => by rw [List.mem_append, hm, et, List.mem_append], by rw [List.length_append]; show _ + 1 ≤ _; omega⟩
  · obtain ⟨r, u, rfl, s2, hl2, hp2, hr2, hm, hle⟩ := hv
    walk_at ""
    refine ⟨_, .inl ⟨SqL.of hp2, fun q hq => k q _ (s2.trans (same_new hq _)) ?_⟩⟩
    rw [show sortU ts = r from (rising_uniq hr2 (sortU_rising ts) fun x => by rw [hm, List.length_map, List.take_length, mem_sortU, hpm.mem_iff]).symm]
    exact SqT.of upd_same
end
section
variable {P : Program} {w : World} {K : PySem.W.Frag} {mg : Str → Option Value} {base0 : Heap} {D : Defs}
theorem nm_base {f x : Str} (h : Nm f x) : base x f = true := by
  obtain ⟨c, r, e, hc, hr, hl, _⟩ := h
  have h0 : ¬ x = "" := by rintro rfl; cases e
  have hlen : x.length = r.length + 1 := by rw [← len_cps, e]; rfl
  unfold base
  rw [if_neg h0, if_neg (by omega)]
  have hh : inS ⟨#[x.cps.toList.headD 0]⟩ f = true := by rw [inS_one, e]; simpa using hc
  rw [if_pos hh]
  unfold tailOk
  have es : (Txt.slice x (some 1) none).cps.toList = r := by
    have := slice_from x 1
    rw [e] at this
    simpa using this
  rw [es, List.all_eq_true]
  intro d hd
  rw [inS_one]
  exact decide_eq_true (hr d hd)
theorem nm_kept {f x : Str} (h : Nm f x) : inV (.str x) keptV = false := by
  obtain ⟨c, r, e, hc, hr, hl, hk⟩ := h
  cases q : inV (.str x) keptV with
  | false => rfl
  | true =>
    exfalso
    apply hk
    simp only [inV, keptV, List.any_cons, List.any_nil, eqV, Bool.or_false, Bool.or_eq_true, beq_iff_eq] at q
    simp only [keptW, List.mem_cons, List.mem_nil_iff, or_false]
    rcases q with q | q | q | q | q | q | q <;> simp [q]
theorem not_base {f g y : Str} (h : Nm f y) (hc : ∀ c ∈ f.cps.toList, inS ⟨#[c]⟩ g = false) : base y g = false := by
  obtain ⟨c, r, e, h1, _⟩ := h
  unfold base
  rw [show y.cps.toList.headD 0 = c by rw [e]; rfl, hc c h1]
  split
  · rfl
  · split <;> rfl
def hd1 (x : Str) : Str := ⟨#[x.cps.toList.headD 0]⟩
def low (x : Str) : Bool := Txt.islower (hd1 x)
def upp (x : Str) : Bool := Txt.isupper (hd1 x)
theorem sm_low : ∀ c ∈ smallS.cps.toList, Txt.islower ⟨#[c]⟩ = true ∧ Txt.isupper ⟨#[c]⟩ = false := by decide +kernel
theorem gr_upp : ∀ c ∈ greatS.cps.toList, Txt.islower ⟨#[c]⟩ = false ∧ Txt.isupper ⟨#[c]⟩ = true := by decide +kernel
theorem sm_all {x : Str} (h : Nm smallS x) : isNm x = true ∧ low x = true ∧ isLt x = false ∧ upp x = false := by
  have b1 : base x "abcdefghijklmnopqrstuvwxyz" = true := nm_base h
  have b2 := nm_kept h
  have b3 : isLt x = false := not_base h (by decide +kernel)
  obtain ⟨c, r, e, h1, _⟩ := h
  have q := sm_low c h1
  refine ⟨by unfold isNm; rw [b1, b2]; rfl, ?_, b3, ?_⟩
  · unfold low hd1; rw [show x.cps.toList.headD 0 = c by rw [e]; rfl]; exact q.1
  · unfold upp hd1; rw [show x.cps.toList.headD 0 = c by rw [e]; rfl]; exact q.2
theorem gr_all {x : Str} (h : Nm greatS x) : isNm x = false ∧ low x = false ∧ isLt x = true ∧ upp x = true := by
  have b1 : isLt x = true := nm_base h
  have b3 : base x "abcdefghijklmnopqrstuvwxyz" = false := not_base h (by decide +kernel)
  obtain ⟨c, r, e, h1, _⟩ := h
  have q := gr_upp c h1
  refine ⟨by unfold isNm; rw [b3]; rfl, ?_, b1, ?_⟩
  · unfold low hd1; rw [show x.cps.toList.headD 0 = c by rw [e]; rfl]; exact q.1
  · unfold upp hd1; rw [show x.cps.toList.headD 0 = c by rw [e]; rfl]; exact q.2
theorem tms_ok : ∀ {S : Stm}, S.Ok → ∀ t ∈ S.tms, Nm smallS t ∨ Nm greatS t
  | .is _ ts, h, t, ht => h.2.2 t ht
  | .fls, _, t, ht => absurd ht (by show ¬ t ∈ []; simp)
  | .neg A, h, t, ht => tms_ok (S := A) h t ht
  | .bi _ A B, h, t, ht => (List.mem_append.mp ht).elim (tms_ok (S := A) h.1 t) (tms_ok (S := B) h.2 t)
  | .qu _ _ A, h, t, ht => tms_ok (S := A) h.2 t ht
theorem nm_free : ∀ {S : Stm}, S.Ok → ∀ t ∈ S.tms, isNm t = true → t ∈ S.frs
  | .is _ ts, h, t, ht, _ => ht
  | .fls, _, t, ht, _ => ht
  | .neg A, h, t, ht, q => nm_free (S := A) h t ht q
  | .bi _ A B, h, t, ht, q => List.mem_append.mpr ((List.mem_append.mp ht).imp (fun z => nm_free (S := A) h.1 t z q) fun z => nm_free (S := B) h.2 t z q)
  | .qu _ X A, h, t, ht, q => List.mem_filter.mpr ⟨nm_free (S := A) h.2 t ht q, decide_eq_true fun e => by rw [e, (gr_all h.1).1] at q; cases q⟩
theorem names_same {S : Stm} (h : S.Ok) : sortU (S.tms.filter isNm) = sortU ((frL S []).filter low) := by
  refine rising_uniq (sortU_rising _) (sortU_rising _) fun x => ?_
  rw [mem_sortU, mem_sortU, List.mem_filter, List.mem_filter]
  have e : x ∈ frL S [] ↔ x ∈ S.frs := by simp [frL]
  rw [e]
  constructor
  · rintro ⟨h1, h2⟩
    refine ⟨nm_free h x h1 h2, ?_⟩
    rcases tms_ok h x h1 with q | q
    · exact (sm_all q).2.1
    · rw [(gr_all q).1] at h2; cases h2
  · rintro ⟨h1, h2⟩
    have h1' := frs_sub h1
    refine ⟨h1', ?_⟩
    rcases tms_ok h x h1' with q | q
    · exact (sm_all q).1
    · rw [(gr_all q).2.1] at h2; cases h2
theorem letters_same {S : Stm} (h : S.Ok) : sortU (S.frs.filter isLt) = sortU ((frL S []).filter upp) := by
  refine rising_uniq (sortU_rising _) (sortU_rising _) fun x => ?_
  rw [mem_sortU, mem_sortU, List.mem_filter, List.mem_filter]
  have e : x ∈ frL S [] ↔ x ∈ S.frs := by simp [frL]
  rw [e]
  refine and_congr_right fun h1 => ?_
  rcases tms_ok h x (frs_sub h1) with q | q
  · rw [(sm_all q).2.2.1, (sm_all q).2.2.2]
  · rw [(gr_all q).2.2.1, (gr_all q).2.2.2]
end
section
variable {P : Program} {w : World} {K : PySem.W.Frag} {mg : Str → Option Value} {base0 : Heap} {D : Defs}
theorem deps_strs9 : ∀ ts : List Str, Dt.deps (ts.map Dt.str) = 0
  | [] => by simp [Dt.deps]
  | t :: ts => by simp [Dt.deps, Dt.dep, deps_strs9 ts]
theorem ok_law (T : Tx K mg D) : FnOk P w K mg base0 CX0 60 D.a_law D.d_law ["_law_script"] (spLaw K) := by
  have G_statement_by_L := ok_statement_by_L (P := P) (w := w) (base0 := base0) T
  have G_many_by_L := ok_many_by_L (P := P) (w := w) (base0 := base0) T
  have G_cell_at_L := ok_cell_at_L (P := P) (w := w) (base0 := base0) T
  have G_terms_L := ok_terms_L (P := P) (w := w) (base0 := base0) T 40
  have G_rising_L := ok_rising_L (P := P) (w := w) (base0 := base0) T
  have G_names_in := ok_names_in (P := P) (w := w) (base0 := base0) T
  have G_free_in := ok_free_in (P := P) (w := w) (base0 := base0) T
  refine T.F_law.ok sc_law (fun vs H Q E h => ?_) (fun cdv A outer s H vs Q E hr h => ?_)
  · obtain ⟨a, ns, rfl, _⟩ := h; rfl
  obtain ⟨a, ns, rfl, hS, hl, k⟩ := h
  have hu := hr.units
  have hr_statement_by_L : Room 4 _ := hr.mono (by decide)
  have hr_many_by_L : Room 1 _ := hr.mono (by decide)
  have hr_cell_at_L : Room 1 _ := hr.mono (by decide)
  have hr_terms_L : Room 42 _ := hr.mono (by decide)
  have hr_rising_L : Room 1 _ := hr.mono (by decide)
  have hr_names_in : Room 50 _ := hr.mono (by decide)
  have hr_free_in : Room 50 _ := hr.mono (by decide)
  refine ⟨_, (pss_cons (ps_set (i := 1) sc_law.nd (by rfl) (by walk_at "o") (pe_call G_statement_by_L hr_statement_by_L (by rfl) T.m_statement_by_L T.F_statement_by_L.kp T.b_statement_by_L .nil pass0 (pa_cons (pv 0) (pa_cons pe_int (pa_cons (pe_call G_many_by_L hr_many_by_L (by rfl) T.m_many_by_L T.F_many_by_L.kp T.b_many_by_L .nil pass0 (pa_cons (pe_call G_cell_at_L hr_cell_at_L (by rfl) T.m_cell_at_L T.F_cell_at_L.kp T.b_cell_at_L .nil pass0 (pa_cons (pv 0) (pa_cons pe_int pa_nil))) pa_nil)) pa_nil)))))
    (pss_cons (ps_set (i := 2) sc_law.nd (by rfl) (by walk_at "o") (pe_call G_terms_L hr_terms_L (by rfl) T.m_terms_L T.F_terms_L.kp T.b_terms_L .nil pass0 (pa_cons (pv 1) (pa_cons (pe_lst pa_nil) pa_nil))))
    (pss_cons (ps_set (i := 3) sc_law.nd (by rfl) (by walk_at "o") (pe_call G_rising_L hr_rising_L (by rfl) T.m_rising_L T.F_rising_L.kp T.b_rising_L .nil pass0 (pa_cons (pe_comp 1 [] ["_law_term"] ⟨by rfl, by rfl, by rfl, by rfl, by rfl, by rfl, by rfl⟩ (by rfl) (pi_any K (pv 2)) (fun _ _ _ _ => pg_name (i := 0) (show List.Nodup (["_law_term"] : List Str) by decide +kernel) (by rfl) (Or.inl (by rfl)) (Or.inr (by rfl))) (gName_keep (by decide)) (fun _ _ _ _ => pif_one (pt_val (pe_bmA0 K PySem.F.plainAttrs_str PySem.F.slot_str_islower PySem.F.type_str_islower mt_islower (pe_ix (ixA K) (pv 0) pe_int (fun _ _ => rfl))))) (fun _ _ _ _ => (pv 0))) pa_nil)))
    (pss_cons (ps_set (i := 4) sc_law.nd (by rfl) (by walk_at "o") (pe_call G_rising_L hr_rising_L (by rfl) T.m_rising_L T.F_rising_L.kp T.b_rising_L .nil pass0 (pa_cons (pe_comp 1 [] ["_law_term"] ⟨by rfl, by rfl, by rfl, by rfl, by rfl, by rfl, by rfl⟩ (by rfl) (pi_any K (pv 2)) (fun _ _ _ _ => pg_name (i := 0) (show List.Nodup (["_law_term"] : List Str) by decide +kernel) (by rfl) (Or.inl (by rfl)) (Or.inr (by rfl))) (gName_keep (by decide)) (fun _ _ _ _ => pif_one (pt_val (pe_bmA0 K PySem.F.plainAttrs_str PySem.F.slot_str_isupper PySem.F.type_str_isupper mt_isupper (pe_ix (ixA K) (pv 0) pe_int (fun _ _ => rfl))))) (fun _ _ _ _ => (pv 0))) pa_nil)))
    (pss_cons (ps_set (i := 5) sc_law.nd (by rfl) (by walk_at "o") (pe_lst (pa_cons (pe_call G_names_in hr_names_in (by rfl) T.m_names_in T.F_names_in.kp T.b_names_in .nil pass0 (pa_cons (pv 1) pa_nil)) (pa_cons (pe_call G_free_in hr_free_in (by rfl) T.m_free_in T.F_free_in.kp T.b_free_in .nil pass0 (pa_cons (pv 1) pa_nil)) pa_nil))))
    (pss_cons (ps_for PassesOwn.never (by rfl) (pi_any K (pv 5)) (pg_name (i := 6) sc_law.nd (by rfl) (by walk_at "o"))
      (pss_one (ps_if (pt_not (pt_val (pe_callB (callB_inst K "tuple") (by rfl) T.z_isinstance (by rfl) (pa_cons (pv 6) (pa_cons (pe_bltn (v := .ty "tuple") (by rfl) T.z_tuple (by rfl) (by rfl)) pa_nil))))) (pss_one (ps_ret pe_bl)) pss_nil)))
    (pss_one (ps_ret (pe_cmpR (opC_eq K hu) (pv 5) (pe_lst (pa_cons (pv 3) (pa_cons (pv 4) pa_nil))) (nomark _)))))))))), ?_⟩
  walk_at "S"
  refine seq_cut (fun σ H1 => ∃ S v, RepS K H1 S v ∧ S.Ok ∧ S.deep ≤ 40 ∧ S.size ≤ 500 ∧ σ = [some (.ref a), some v, none, none, none, none, none]) (fun N hN => ?_) fun σ H1 hv => ?_
  · walk_at ""
    refine ⟨a, ns, 0, rfl, hS, by decide, _, rfl, fun m m0 m1 => ?_⟩
    exact ⟨a, ns, 3, m, rfl, hS, by decide, by decide, m0, m1, fun S v H1 s1 rS oS dS zS => hN _ _ ⟨S, v, rS, oS, dS, zS, rfl⟩⟩
  obtain ⟨S, v, rS, oS, dS, zS, rfl⟩ := hv
  refine seq_cut (fun σ H2 => ∃ f, Same H1 H2 ∧ H2 f = some (.lst ((frL S []).map V.str)) ∧ σ = [some (.ref a), some v, some (.ref f), none, none, none, none]) (fun N hN => ?_) fun σ H2 hv => ?_
  · walk_at ""
    exact ⟨Nat.zero_le _, fun p hp => ⟨v, S, p, [], rfl, rS.same (same_new hp _), oS, dS, zS, upd_same, by decide, fun f H2 s2 hf => hN _ _ ⟨f, (same_new hp _).trans s2, hf, rfl⟩⟩⟩
  obtain ⟨f, s2, hf, rfl⟩ := hv
  have fl : (frL S []).length ≤ 800 := Nat.le_trans (List.length_filter_le _ _) (frs_small oS zS)
  have fok : ∀ t ∈ frL S [], 1 ≤ t.length ∧ t.length ≤ 8 := fun t ht => (tms_ok oS t (frs_sub (List.mem_filter.mp ht).1)).elim (fun q => ⟨q.len.2, q.len.1⟩) fun q => ⟨q.len.2, q.len.1⟩
  have hdt : ∀ {t : Str}, 1 ≤ t.length → atI t.cps.toList 0 = some (t.cps.toList.headD 0) := fun {t} h => by
    cases e : t.cps.toList with
    | nil => rw [← len_cps, e] at h; exact absurd h (by decide)
    | cons c r => exact atI_nat (j := 0) rfl
  refine seq_cut (fun σ H3 => ∃ n, Same H2 H3 ∧ SqT K H3 n ((sortU ((frL S []).filter low)).map V.str) ∧ σ = [some (.ref a), some v, some (.ref f), some (.ref n), none, none, none]) (fun N hN => ?_) fun σ H3 hv => ?_
  · walk_at ""
    refine .inl ⟨⟨_, SqL.of hf⟩, comp_list (xs := (frL S []).map V.str) (fun i acc H3 => H3 = H2 ∧ acc = (((frL S []).take i).filter low).map V.str) ⟨rfl, rfl⟩ (fun i acc H3 _ hv => hv.1 ▸ SqL.of hf) (fun i y acc H3 hy hv => ?_) fun acc H3 hv p3 hp3 => ?_⟩
    · obtain ⟨rfl, rfl⟩ := hv
      rw [List.getElem?_map] at hy
      cases e : (frL S [])[i]? with
      | none => rw [e] at hy; cases hy
      | some t =>
        rw [e] at hy
        cases hy
        have ht := fok t (List.mem_of_getElem? e)
        have et : (frL S []).take (i + 1) = (frL S []).take i ++ [t] := by rw [List.take_add_one, e]; rfl
        have ln : (((frL S []).take i).filter low).length ≤ 800 := Nat.le_trans (List.length_filter_le _ _) (by rw [List.length_take]; omega)
        refine ⟨sz1000' (by rw [List.length_map]; omega), ?_⟩
        simp only [slotsC, List.replicate_succ, List.replicate_zero, List.map_cons, List.map_nil, List.nil_append, List.cons_append, List.getElem?_cons_zero, List.getElem?_cons_succ, Option.join_some]
        walk_at ""
        refine ⟨sz1000 (by omega), _, hdt ht.1, ?_⟩
        (try walk_at "")
        refine ⟨trivial, ?_⟩
        rw [et, List.filter_append]
        refine ite2 (fun c => ⟨trivial, ?_⟩) fun c => ⟨trivial, ?_⟩
        · rw [show [t].filter low = [t] by simp [show low t = true from c], List.map_append]; rfl
        · rw [show [t].filter low = [] by simp [show ¬ low t = true from c], List.append_nil]
    · obtain ⟨rfl, rfl⟩ := hv
      rw [List.length_map, List.take_length] at *
      (try walk_at "")
      exact ⟨p3, _, rfl, SqL.of upd_same, Nat.le_trans (List.length_filter_le _ _) fl, fun n H4 s4 hn => hN _ _ ⟨n, (same_new hp3 _).trans s4, hn, rfl⟩⟩
  obtain ⟨n, s3, hn, rfl⟩ := hv
  have hf3 := s3 _ _ hf
  refine seq_cut (fun σ H4 => ∃ g, Same H3 H4 ∧ SqT K H4 g ((sortU ((frL S []).filter upp)).map V.str) ∧ σ = [some (.ref a), some v, some (.ref f), some (.ref n), some (.ref g), none, none]) (fun N hN => ?_) fun σ H4 hv => ?_
  · walk_at ""
    refine .inl ⟨⟨_, SqL.of hf3⟩, comp_list (xs := (frL S []).map V.str) (fun i acc H4 => H4 = H3 ∧ acc = (((frL S []).take i).filter upp).map V.str) ⟨rfl, rfl⟩ (fun i acc H4 _ hv => hv.1 ▸ SqL.of hf3) (fun i y acc H4 hy hv => ?_) fun acc H4 hv p3 hp3 => ?_⟩
    · obtain ⟨rfl, rfl⟩ := hv
      rw [List.getElem?_map] at hy
      cases e : (frL S [])[i]? with
      | none => rw [e] at hy; cases hy
      | some t =>
        rw [e] at hy
        cases hy
        have ht := fok t (List.mem_of_getElem? e)
        have et : (frL S []).take (i + 1) = (frL S []).take i ++ [t] := by rw [List.take_add_one, e]; rfl
        have ln : (((frL S []).take i).filter upp).length ≤ 800 := Nat.le_trans (List.length_filter_le _ _) (by rw [List.length_take]; omega)
        refine ⟨sz1000' (by rw [List.length_map]; omega), ?_⟩
        simp only [slotsC, List.replicate_succ, List.replicate_zero, List.map_cons, List.map_nil, List.nil_append, List.cons_append, List.getElem?_cons_zero, List.getElem?_cons_succ, Option.join_some]
        walk_at ""
        refine ⟨sz1000 (by omega), _, hdt ht.1, ?_⟩
        (try walk_at "")
        refine ⟨trivial, ?_⟩
        rw [et, List.filter_append]
        refine ite2 (fun c => ⟨trivial, ?_⟩) fun c => ⟨trivial, ?_⟩
        · rw [show [t].filter upp = [t] by simp [show upp t = true from c], List.map_append]; rfl
        · rw [show [t].filter upp = [] by simp [show ¬ upp t = true from c], List.append_nil]
    · obtain ⟨rfl, rfl⟩ := hv
      rw [List.length_map, List.take_length] at *
      (try walk_at "")
      exact ⟨p3, _, rfl, SqL.of upd_same, Nat.le_trans (List.length_filter_le _ _) fl, fun g H9 s4 hg => hN _ _ ⟨g, (same_new hp3 _).trans s4, hg, rfl⟩⟩
  obtain ⟨g, s4, hg, rfl⟩ := hv
  have rS4 := rS.same (s2.trans (s3.trans s4))
  have hn4 := s4.seqT hn
  refine seq_cut (fun σ H5 => ∃ p q fd, Same H4 H5 ∧ SqT K H5 p ((sortU ((frL S []).filter low)).map V.str) ∧ SqT K H5 q ((sortU ((frL S []).filter upp)).map V.str) ∧ H5 fd = some (.lst [.ref p, .ref q]) ∧ σ = [some (.ref a), some v, some (.ref f), some (.ref n), some (.ref g), some (.ref fd), none]) (fun N hN => ?_) fun σ H5 hv => ?_
  · walk_at ""
    refine ⟨v, S, rfl, rS4, oS, dS, zS, fun p H5 s5 hp => ⟨v, S, rfl, rS4.same s5, oS, dS, zS, fun q H6 s6 hq => ?_⟩⟩
    rw [names_same oS] at hp
    rw [letters_same oS] at hq
    (try walk_at "")
    exact ⟨sz1000 (show 2 ≤ 100000 by decide), fun fd hfd => hN _ _ ⟨p, q, fd, (s5.trans s6).trans (same_new hfd _), (same_new hfd _).seqT (s6.seqT hp), (same_new hfd _).seqT hq, upd_same, rfl⟩⟩
  obtain ⟨p, q, fd, s5, hp, hq, hfd, rfl⟩ := hv
  refine seq_cut (fun σ H6 => ∃ u, H5 = H6 ∧ σ = [some (.ref a), some v, some (.ref f), some (.ref n), some (.ref g), some (.ref fd), u]) (fun N hN => ?_) fun σ H6 hv => ?_
  · walk_at ""
    refine .inl ⟨⟨_, SqL.of hfd⟩, forW_list (xs := [.ref p, .ref q]) (fun i σ H6 => ∃ u, H5 = H6 ∧ σ = [some (.ref a), some v, some (.ref f), some (.ref n), some (.ref g), some (.ref fd), u]) ⟨none, rfl, rfl⟩ (fun i σ H6 _ hv => by obtain ⟨u, rfl, _⟩ := hv; exact SqL.of hfd) (fun i x σ H6 hx hv => ?_) fun σ H6 hv => ?_⟩
    · obtain ⟨u, rfl, rfl⟩ := hv
      have hx' : x = .ref p ∨ x = .ref q := by
        match i, hx with
        | 0, h => cases h; exact .inl rfl
        | 1, h => cases h; exact .inr rfl
        | (i + 2), h => simp at h
      rcases hx' with rfl | rfl
      · walk_at ""
        exact ⟨_, true, .tup hp, rfl, by rw [if_neg (by decide)]; exact ⟨_, trivial, rfl⟩⟩
      · walk_at ""
        exact ⟨_, true, .tup hq, rfl, by rw [if_neg (by decide)]; exact ⟨_, trivial, rfl⟩⟩
    · obtain ⟨u, rfl, rfl⟩ := hv
      exact hN _ _ ⟨u, rfl, rfl⟩
  obtain ⟨u, rfl, rfl⟩ := hv
  walk_at ""
  refine ⟨sz1000 (show 2 ≤ 100000 by decide), fun z hz => ?_⟩
  have z1 := same_new hz (.lst [V.ref n, V.ref g])
  have two : ∀ {H' : Hp} {a x y : Addr} {d d2 : Dt}, SqL K H' a [.ref x, .ref y] → RepD K H' d (.ref x) → RepD K H' d2 (.ref y) → RepD K H' (.lst [d, d2]) (.ref a) := fun h h1 h2 =>
    .lst h rfl fun j d' x' e1 e2 => match j, e1, e2 with
      | 0, e1, e2 => by cases e1; cases e2; exact h1
      | 1, e1, e2 => by cases e1; cases e2; exact h2
  refine ⟨_, _, two (SqL.of (z1 _ _ hfd)) (RepD.strs (z1.seqT hp)) (RepD.strs (z1.seqT hq)), two (SqL.of upd_same) (RepD.strs (z1.seqT (s5.seqT hn4))) (RepD.strs (z1.seqT (s5.seqT hg))), ?_, ?_⟩
  · simp [Dt.dep, Dt.deps, deps_strs9]
  · rw [decide_eq_true rfl]
    exact k _
end
theorem all_mk {l : PySem.W.OpenLaw} {w : World} {K : PySem.W.Frag} {h : Heap} {mg : Str → Option Value} {fa : Addr} (X : K.In h) (G : h.Ns mainGlobals mg) (hfa : mg "law" = some (.ref fa)) {f0 f1 f2 f3 f4 f5 f6 f7 f8 f9 f10 f11 f12 f13 f14 f15 f16 f17 f18 f19 : Addr}
    {od0 an0 od1 an1 od2 an2 od3 an3 od4 an4 od5 an5 od6 an6 od7 an7 od8 an8 od9 an9 od10 an10 od11 an11 od12 an12 od13 an13 od14 an14 od15 an15 od16 an16 od17 an17 od18 an18 od19 an19 : Option Addr} {sl0 sl1 sl2 sl3 sl4 sl5 sl6 sl7 sl8 sl9 sl10 sl11 sl12 sl13 sl14 sl15 sl16 sl17 sl18 sl19 : Array (Option Value)} {oc0 kV0 dc0 pm0 cd0 ct0 oc1 kV1 dc1 pm1 cd1 ct1 oc2 kV2 dc2 pm2 cd2 ct2 oc3 kV3 dc3 pm3 cd3 ct3 oc4 kV4 dc4 pm4 cd4 ct4 oc5 kV5 dc5 pm5 cd5 ct5 oc6 kV6 dc6 pm6 cd6 ct6 oc7 kV7 dc7 pm7 cd7 ct7 oc8 kV8 dc8 pm8 cd8 ct8 oc9 kV9 dc9 pm9 cd9 ct9 oc10 kV10 dc10 pm10 cd10 ct10 oc11 kV11 dc11 pm11 cd11 ct11 oc12 kV12 dc12 pm12 cd12 ct12 oc13 kV13 dc13 pm13 cd13 ct13 oc14 kV14 dc14 pm14 cd14 ct14 oc15 kV15 dc15 pm15 cd15 ct15 oc16 kV16 dc16 pm16 cd16 ct16 oc17 kV17 dc17 pm17 cd17 ct17 oc18 kV18 dc18 pm18 cd18 ct18 oc19 kV19 dc19 pm19 cd19 ct19 : Value}
    (a0 : PySem.W.nsIn K mainGlobals "begins_and_goes_on" = some (some (.ref f0))) (l0 : K.lookup f0 = some ⟨oc0, od0, .func (PySem.W.fnOf "begins_and_goes_on" "begins_and_goes_on" (defArgs s_begins_and_goes_on) (defBody s_begins_and_goes_on) (defScope s_begins_and_goes_on) .none kV0 dc0 pm0 an0 cd0 ct0), sl0⟩) (c0 : PySem.W.codeIn K cd0 "begins_and_goes_on" = true) (k0 : PySem.W.keepIn K (.ref f0) = true)
    (a1 : PySem.W.nsIn K mainGlobals "is_name" = some (some (.ref f1))) (l1 : K.lookup f1 = some ⟨oc1, od1, .func (PySem.W.fnOf "is_name" "is_name" (defArgs s_is_name) (defBody s_is_name) (defScope s_is_name) .none kV1 dc1 pm1 an1 cd1 ct1), sl1⟩) (c1 : PySem.W.codeIn K cd1 "is_name" = true) (k1 : PySem.W.keepIn K (.ref f1) = true)
    (a2 : PySem.W.nsIn K mainGlobals "is_letter" = some (some (.ref f2))) (l2 : K.lookup f2 = some ⟨oc2, od2, .func (PySem.W.fnOf "is_letter" "is_letter" (defArgs s_is_letter) (defBody s_is_letter) (defScope s_is_letter) .none kV2 dc2 pm2 an2 cd2 ct2), sl2⟩) (c2 : PySem.W.codeIn K cd2 "is_letter" = true) (k2 : PySem.W.keepIn K (.ref f2) = true)
    (a3 : PySem.W.nsIn K mainGlobals "parts" = some (some (.ref f3))) (l3 : K.lookup f3 = some ⟨oc3, od3, .func (PySem.W.fnOf "parts" "parts" (defArgs s_parts) (defBody s_parts) (defScope s_parts) .none kV3 dc3 pm3 an3 cd3 ct3), sl3⟩) (c3 : PySem.W.codeIn K cd3 "parts" = true) (k3 : PySem.W.keepIn K (.ref f3) = true)
    (a4 : PySem.W.nsIn K mainGlobals "terms_in" = some (some (.ref f4))) (l4 : K.lookup f4 = some ⟨oc4, od4, .func (PySem.W.fnOf "terms_in" "terms_in" (defArgs s_terms_in) (defBody s_terms_in) (defScope s_terms_in) .none kV4 dc4 pm4 an4 cd4 ct4), sl4⟩) (c4 : PySem.W.codeIn K cd4 "terms_in" = true) (k4 : PySem.W.keepIn K (.ref f4) = true)
    (a5 : PySem.W.nsIn K mainGlobals "names_in" = some (some (.ref f5))) (l5 : K.lookup f5 = some ⟨oc5, od5, .func (PySem.W.fnOf "names_in" "names_in" (defArgs s_names_in) (defBody s_names_in) (defScope s_names_in) .none kV5 dc5 pm5 an5 cd5 ct5), sl5⟩) (c5 : PySem.W.codeIn K cd5 "names_in" = true) (k5 : PySem.W.keepIn K (.ref f5) = true)
    (a6 : PySem.W.nsIn K mainGlobals "free_terms_in" = some (some (.ref f6))) (l6 : K.lookup f6 = some ⟨oc6, od6, .func (PySem.W.fnOf "free_terms_in" "free_terms_in" (defArgs s_free_terms_in) (defBody s_free_terms_in) (defScope s_free_terms_in) .none kV6 dc6 pm6 an6 cd6 ct6), sl6⟩) (c6 : PySem.W.codeIn K cd6 "free_terms_in" = true) (k6 : PySem.W.keepIn K (.ref f6) = true)
    (a7 : PySem.W.nsIn K mainGlobals "free_in" = some (some (.ref f7))) (l7 : K.lookup f7 = some ⟨oc7, od7, .func (PySem.W.fnOf "free_in" "free_in" (defArgs s_free_in) (defBody s_free_in) (defScope s_free_in) .none kV7 dc7 pm7 an7 cd7 ct7), sl7⟩) (c7 : PySem.W.codeIn K cd7 "free_in" = true) (k7 : PySem.W.keepIn K (.ref f7) = true)
    (a8 : PySem.W.nsIn K mainGlobals "_law_cell_at" = some (some (.ref f8))) (l8 : K.lookup f8 = some ⟨oc8, od8, .func (PySem.W.fnOf "_law_cell_at" "_law_cell_at" (defArgs s_cell_at_L) (defBody s_cell_at_L) (defScope s_cell_at_L) .none kV8 dc8 pm8 an8 cd8 ct8), sl8⟩) (c8 : PySem.W.codeIn K cd8 "_law_cell_at" = true) (k8 : PySem.W.keepIn K (.ref f8) = true)
    (a9 : PySem.W.nsIn K mainGlobals "_law_mixed" = some (some (.ref f9))) (l9 : K.lookup f9 = some ⟨oc9, od9, .func (PySem.W.fnOf "_law_mixed" "_law_mixed" (defArgs s_mixed_L) (defBody s_mixed_L) (defScope s_mixed_L) .none kV9 dc9 pm9 an9 cd9 ct9), sl9⟩) (c9 : PySem.W.codeIn K cd9 "_law_mixed" = true) (k9 : PySem.W.keepIn K (.ref f9) = true)
    (a10 : PySem.W.nsIn K mainGlobals "_law_sign_by" = some (some (.ref f10))) (l10 : K.lookup f10 = some ⟨oc10, od10, .func (PySem.W.fnOf "_law_sign_by" "_law_sign_by" (defArgs s_sign_by_L) (defBody s_sign_by_L) (defScope s_sign_by_L) .none kV10 dc10 pm10 an10 cd10 ct10), sl10⟩) (c10 : PySem.W.codeIn K cd10 "_law_sign_by" = true) (k10 : PySem.W.keepIn K (.ref f10) = true)
    (a11 : PySem.W.nsIn K mainGlobals "_law_name_by" = some (some (.ref f11))) (l11 : K.lookup f11 = some ⟨oc11, od11, .func (PySem.W.fnOf "_law_name_by" "_law_name_by" (defArgs s_name_by_L) (defBody s_name_by_L) (defScope s_name_by_L) .none kV11 dc11 pm11 an11 cd11 ct11), sl11⟩) (c11 : PySem.W.codeIn K cd11 "_law_name_by" = true) (k11 : PySem.W.keepIn K (.ref f11) = true)
    (a12 : PySem.W.nsIn K mainGlobals "_law_small_by" = some (some (.ref f12))) (l12 : K.lookup f12 = some ⟨oc12, od12, .func (PySem.W.fnOf "_law_small_by" "_law_small_by" (defArgs s_small_by_L) (defBody s_small_by_L) (defScope s_small_by_L) .none kV12 dc12 pm12 an12 cd12 ct12), sl12⟩) (c12 : PySem.W.codeIn K cd12 "_law_small_by" = true) (k12 : PySem.W.keepIn K (.ref f12) = true)
    (a13 : PySem.W.nsIn K mainGlobals "_law_wrapped" = some (some (.ref f13))) (l13 : K.lookup f13 = some ⟨oc13, od13, .func (PySem.W.fnOf "_law_wrapped" "_law_wrapped" (defArgs s_wrapped_L) (defBody s_wrapped_L) (defScope s_wrapped_L) .none kV13 dc13 pm13 an13 cd13 ct13), sl13⟩) (c13 : PySem.W.codeIn K cd13 "_law_wrapped" = true) (k13 : PySem.W.keepIn K (.ref f13) = true)
    (a14 : PySem.W.nsIn K mainGlobals "_law_statement_by" = some (some (.ref f14))) (l14 : K.lookup f14 = some ⟨oc14, od14, .func (PySem.W.fnOf "_law_statement_by" "_law_statement_by" (defArgs s_statement_by_L) (defBody s_statement_by_L) (defScope s_statement_by_L) .none kV14 dc14 pm14 an14 cd14 ct14), sl14⟩) (c14 : PySem.W.codeIn K cd14 "_law_statement_by" = true) (k14 : PySem.W.keepIn K (.ref f14) = true)
    (a15 : PySem.W.nsIn K mainGlobals "_law_many_by" = some (some (.ref f15))) (l15 : K.lookup f15 = some ⟨oc15, od15, .func (PySem.W.fnOf "_law_many_by" "_law_many_by" (defArgs s_many_by_L) (defBody s_many_by_L) (defScope s_many_by_L) .none kV15 dc15 pm15 an15 cd15 ct15), sl15⟩) (c15 : PySem.W.codeIn K cd15 "_law_many_by" = true) (k15 : PySem.W.keepIn K (.ref f15) = true)
    (a16 : PySem.W.nsIn K mainGlobals "_law_parts" = some (some (.ref f16))) (l16 : K.lookup f16 = some ⟨oc16, od16, .func (PySem.W.fnOf "_law_parts" "_law_parts" (defArgs s_parts_L) (defBody s_parts_L) (defScope s_parts_L) .none kV16 dc16 pm16 an16 cd16 ct16), sl16⟩) (c16 : PySem.W.codeIn K cd16 "_law_parts" = true) (k16 : PySem.W.keepIn K (.ref f16) = true)
    (a17 : PySem.W.nsIn K mainGlobals "_law_terms" = some (some (.ref f17))) (l17 : K.lookup f17 = some ⟨oc17, od17, .func (PySem.W.fnOf "_law_terms" "_law_terms" (defArgs s_terms_L) (defBody s_terms_L) (defScope s_terms_L) .none kV17 dc17 pm17 an17 cd17 ct17), sl17⟩) (c17 : PySem.W.codeIn K cd17 "_law_terms" = true) (k17 : PySem.W.keepIn K (.ref f17) = true)
    (a18 : PySem.W.nsIn K mainGlobals "_law_rising" = some (some (.ref f18))) (l18 : K.lookup f18 = some ⟨oc18, od18, .func (PySem.W.fnOf "_law_rising" "_law_rising" (defArgs s_rising_L) (defBody s_rising_L) (defScope s_rising_L) .none kV18 dc18 pm18 an18 cd18 ct18), sl18⟩) (c18 : PySem.W.codeIn K cd18 "_law_rising" = true) (k18 : PySem.W.keepIn K (.ref f18) = true)
    (a19 : PySem.W.nsIn K mainGlobals "law" = some (some (.ref f19))) (l19 : K.lookup f19 = some ⟨oc19, od19, .func (PySem.W.fnOf "law" "law" (defArgs s_law) (defBody s_law) (defScope s_law) .none kV19 dc19 pm19 an19 cd19 ct19), sl19⟩) (c19 : PySem.W.codeIn K cd19 "law" = true) (k19 : PySem.W.keepIn K (.ref f19) = true)
    {t0 : Tok} (g0 : PySem.W.nsIn K mainGlobals "SMALL" = some (some (.str "abcdefghijklmnopqrstuvwxyz" t0)))
    {t1 : Tok} (g1 : PySem.W.nsIn K mainGlobals "GREAT" = some (some (.str "ABCDEFGHIJKLMNOPQRSTUVWXYZ" t1)))
    {t2 : Tok} (g2 : PySem.W.nsIn K mainGlobals "SMALL_OR_FIGURE" = some (some (.str "abcdefghijklmnopqrstuvwxyz0123456789" t2)))
    {p3 : Addr} {dd3 : Option Addr} {nn3 : Nat} {ss3 : Array (Option Value)} {u3_0 u3_1 u3_2 u3_3 u3_4 u3_5 u3_6 : Tok} (g3 : PySem.W.nsIn K mainGlobals "KEPT_WORDS" = some (some (.ref p3))) (q3 : K.lookup p3 = some ⟨.type "tuple", dd3, .seq #[Value.str "not" u3_0, Value.str "and" u3_1, Value.str "or" u3_2, Value.str "then" u3_3, Value.str "all" u3_4, Value.str "some" u3_5, Value.str "false" u3_6] nn3, ss3⟩)
    {t4 : Tok} (g4 : PySem.W.nsIn K mainGlobals "MOST_SIGNS" = some (some (.int 8 t4)))
    {p5 : Addr} {dd5 : Option Addr} {nn5 : Nat} {ss5 : Array (Option Value)} {u5_0 u5_1 : Tok} (g5 : PySem.W.nsIn K mainGlobals "QUANTIFIERS" = some (some (.ref p5))) (q5 : K.lookup p5 = some ⟨.type "tuple", dd5, .seq #[Value.str "all" u5_0, Value.str "some" u5_1] nn5, ss5⟩)
    (z_all : PySem.W.nsIn K mainGlobals "all" = some none)
    (z_int : PySem.W.nsIn K mainGlobals "int" = some none)
    (z_isinstance : PySem.W.nsIn K mainGlobals "isinstance" = some none)
    (z_len : PySem.W.nsIn K mainGlobals "len" = some none)
    (z_list : PySem.W.nsIn K mainGlobals "list" = some none)
    (z_range : PySem.W.nsIn K mainGlobals "range" = some none)
    (z_set : PySem.W.nsIn K mainGlobals "set" = some none)
    (z_sorted : PySem.W.nsIn K mainGlobals "sorted" = some none)
    (z_tuple : PySem.W.nsIn K mainGlobals "tuple" = some none)
    (OK : ∀ (P : Program) (D : Defs) (base : Heap), Tx K mg D → FnOk P w K mg base CX0 60 D.a_law D.d_law ["_law_script"] (spLaw K)) :
    ∃ fd : FuncData, (∀ (s : Shared) (v : Value), BindsTo s fd ⟨[v], []⟩ [("_law_script", v)]) ∧ ∀ base : Heap, K.In base → base.Ns mainGlobals mg → FnOk l.prog w K mg base CX0 60 fa fd ["_law_script"] (spLaw K) := by
  have e := hfa.symm.trans (PySem.W.mg_of X G a19)
  cases e
  have F0 := fun_mk (st := s_begins_and_goes_on) l0 c0 k0
  have b0 := F0.binds (ps := ["text", "first_signs"]) fun _ _ _ _ _ _ us hl => match us, hl with | [_, _], _ => rfl
  have F1 := fun_mk (st := s_is_name) l1 c1 k1
  have b1 := F1.binds (ps := ["text"]) fun _ _ _ _ _ _ us hl => match us, hl with | [_], _ => rfl
  have F2 := fun_mk (st := s_is_letter) l2 c2 k2
  have b2 := F2.binds (ps := ["text"]) fun _ _ _ _ _ _ us hl => match us, hl with | [_], _ => rfl
  have F3 := fun_mk (st := s_parts) l3 c3 k3
  have b3 := F3.binds (ps := ["A"]) fun _ _ _ _ _ _ us hl => match us, hl with | [_], _ => rfl
  have F4 := fun_mk (st := s_terms_in) l4 c4 k4
  have b4 := F4.binds (ps := ["A"]) fun _ _ _ _ _ _ us hl => match us, hl with | [_], _ => rfl
  have F5 := fun_mk (st := s_names_in) l5 c5 k5
  have b5 := F5.binds (ps := ["A"]) fun _ _ _ _ _ _ us hl => match us, hl with | [_], _ => rfl
  have F6 := fun_mk (st := s_free_terms_in) l6 c6 k6
  have b6 := F6.binds (ps := ["A"]) fun _ _ _ _ _ _ us hl => match us, hl with | [_], _ => rfl
  have F7 := fun_mk (st := s_free_in) l7 c7 k7
  have b7 := F7.binds (ps := ["A"]) fun _ _ _ _ _ _ us hl => match us, hl with | [_], _ => rfl
  have F8 := fun_mk (st := s_cell_at_L) l8 c8 k8
  have b8 := F8.binds (ps := ["_law_script", "_law_k"]) fun _ _ _ _ _ _ us hl => match us, hl with | [_, _], _ => rfl
  have F9 := fun_mk (st := s_mixed_L) l9 c9 k9
  have b9 := F9.binds (ps := ["_law_script", "_law_k"]) fun _ _ _ _ _ _ us hl => match us, hl with | [_, _], _ => rfl
  have F10 := fun_mk (st := s_sign_by_L) l10 c10 k10
  have b10 := F10.binds (ps := ["_law_number", "_law_signs"]) fun _ _ _ _ _ _ us hl => match us, hl with | [_, _], _ => rfl
  have F11 := fun_mk (st := s_name_by_L) l11 c11 k11
  have b11 := F11.binds (ps := ["_law_number", "_law_firsts", "_law_turn"]) fun _ _ _ _ _ _ us hl => match us, hl with | [_, _, _], _ => rfl
  have F12 := fun_mk (st := s_small_by_L) l12 c12 k12
  have b12 := F12.binds (ps := ["_law_number", "_law_base"]) fun _ _ _ _ _ _ us hl => match us, hl with | [_, _], _ => rfl
  have F13 := fun_mk (st := s_wrapped_L) l13 c13 k13
  have b13 := F13.binds (ps := ["_law_ka", "_law_number", "_law_other", "_law_base"]) fun _ _ _ _ _ _ us hl => match us, hl with | [_, _, _, _], _ => rfl
  have F14 := fun_mk (st := s_statement_by_L) l14 c14 k14
  have b14 := F14.binds (ps := ["_law_script", "_law_at", "_law_many"]) fun _ _ _ _ _ _ us hl => match us, hl with | [_, _, _], _ => rfl
  have F15 := fun_mk (st := s_many_by_L) l15 c15 k15
  have b15 := F15.binds (ps := ["_law_cell"]) fun _ _ _ _ _ _ us hl => match us, hl with | [_], _ => rfl
  have F16 := fun_mk (st := s_parts_L) l16 c16 k16
  have b16 := F16.binds (ps := ["_law_ka"]) fun _ _ _ _ _ _ us hl => match us, hl with | [_], _ => rfl
  have F17 := fun_mk (st := s_terms_L) l17 c17 k17
  have b17 := F17.binds (ps := ["_law_ka", "_law_bound"]) fun _ _ _ _ _ _ us hl => match us, hl with | [_, _], _ => rfl
  have F18 := fun_mk (st := s_rising_L) l18 c18 k18
  have b18 := F18.binds (ps := ["_law_texts"]) fun _ _ _ _ _ _ us hl => match us, hl with | [_], _ => rfl
  have F19 := fun_mk (st := s_law) l19 c19 k19
  have b19 := F19.binds (ps := ["_law_script"]) fun _ _ _ _ _ _ us hl => match us, hl with | [_], _ => rfl
  let D : Defs := ⟨f0, PySem.W.fnOf "begins_and_goes_on" "begins_and_goes_on" (defArgs s_begins_and_goes_on) (defBody s_begins_and_goes_on) (defScope s_begins_and_goes_on) .none kV0 dc0 pm0 an0 cd0 ct0, f1, PySem.W.fnOf "is_name" "is_name" (defArgs s_is_name) (defBody s_is_name) (defScope s_is_name) .none kV1 dc1 pm1 an1 cd1 ct1, f2, PySem.W.fnOf "is_letter" "is_letter" (defArgs s_is_letter) (defBody s_is_letter) (defScope s_is_letter) .none kV2 dc2 pm2 an2 cd2 ct2, f3, PySem.W.fnOf "parts" "parts" (defArgs s_parts) (defBody s_parts) (defScope s_parts) .none kV3 dc3 pm3 an3 cd3 ct3, f4, PySem.W.fnOf "terms_in" "terms_in" (defArgs s_terms_in) (defBody s_terms_in) (defScope s_terms_in) .none kV4 dc4 pm4 an4 cd4 ct4, f5, PySem.W.fnOf "names_in" "names_in" (defArgs s_names_in) (defBody s_names_in) (defScope s_names_in) .none kV5 dc5 pm5 an5 cd5 ct5, f6, PySem.W.fnOf "free_terms_in" "free_terms_in" (defArgs s_free_terms_in) (defBody s_free_terms_in) (defScope s_free_terms_in) .none kV6 dc6 pm6 an6 cd6 ct6, f7, PySem.W.fnOf "free_in" "free_in" (defArgs s_free_in) (defBody s_free_in) (defScope s_free_in) .none kV7 dc7 pm7 an7 cd7 ct7, f8, PySem.W.fnOf "_law_cell_at" "_law_cell_at" (defArgs s_cell_at_L) (defBody s_cell_at_L) (defScope s_cell_at_L) .none kV8 dc8 pm8 an8 cd8 ct8, f9, PySem.W.fnOf "_law_mixed" "_law_mixed" (defArgs s_mixed_L) (defBody s_mixed_L) (defScope s_mixed_L) .none kV9 dc9 pm9 an9 cd9 ct9, f10, PySem.W.fnOf "_law_sign_by" "_law_sign_by" (defArgs s_sign_by_L) (defBody s_sign_by_L) (defScope s_sign_by_L) .none kV10 dc10 pm10 an10 cd10 ct10, f11, PySem.W.fnOf "_law_name_by" "_law_name_by" (defArgs s_name_by_L) (defBody s_name_by_L) (defScope s_name_by_L) .none kV11 dc11 pm11 an11 cd11 ct11, f12, PySem.W.fnOf "_law_small_by" "_law_small_by" (defArgs s_small_by_L) (defBody s_small_by_L) (defScope s_small_by_L) .none kV12 dc12 pm12 an12 cd12 ct12, f13, PySem.W.fnOf "_law_wrapped" "_law_wrapped" (defArgs s_wrapped_L) (defBody s_wrapped_L) (defScope s_wrapped_L) .none kV13 dc13 pm13 an13 cd13 ct13, f14, PySem.W.fnOf "_law_statement_by" "_law_statement_by" (defArgs s_statement_by_L) (defBody s_statement_by_L) (defScope s_statement_by_L) .none kV14 dc14 pm14 an14 cd14 ct14, f15, PySem.W.fnOf "_law_many_by" "_law_many_by" (defArgs s_many_by_L) (defBody s_many_by_L) (defScope s_many_by_L) .none kV15 dc15 pm15 an15 cd15 ct15, f16, PySem.W.fnOf "_law_parts" "_law_parts" (defArgs s_parts_L) (defBody s_parts_L) (defScope s_parts_L) .none kV16 dc16 pm16 an16 cd16 ct16, f17, PySem.W.fnOf "_law_terms" "_law_terms" (defArgs s_terms_L) (defBody s_terms_L) (defScope s_terms_L) .none kV17 dc17 pm17 an17 cd17 ct17, f18, PySem.W.fnOf "_law_rising" "_law_rising" (defArgs s_rising_L) (defBody s_rising_L) (defScope s_rising_L) .none kV18 dc18 pm18 an18 cd18 ct18, fa, PySem.W.fnOf "law" "law" (defArgs s_law) (defBody s_law) (defScope s_law) .none kV19 dc19 pm19 an19 cd19 ct19, p3, p5⟩
  have T : Tx K mg D := ⟨F0, PySem.W.mg_of X G a0, b0, F1, PySem.W.mg_of X G a1, b1, F2, PySem.W.mg_of X G a2, b2, F3, PySem.W.mg_of X G a3, b3, F4, PySem.W.mg_of X G a4, b4, F5, PySem.W.mg_of X G a5, b5, F6, PySem.W.mg_of X G a6, b6, F7, PySem.W.mg_of X G a7, b7, F8, PySem.W.mg_of X G a8, b8, F9, PySem.W.mg_of X G a9, b9, F10, PySem.W.mg_of X G a10, b10, F11, PySem.W.mg_of X G a11, b11, F12, PySem.W.mg_of X G a12, b12, F13, PySem.W.mg_of X G a13, b13, F14, PySem.W.mg_of X G a14, b14, F15, PySem.W.mg_of X G a15, b15, F16, PySem.W.mg_of X G a16, b16, F17, PySem.W.mg_of X G a17, b17, F18, PySem.W.mg_of X G a18, b18, F19, PySem.W.mg_of X G a19, b19, ⟨_, PySem.W.mg_of X G g0⟩, ⟨_, PySem.W.mg_of X G g1⟩, ⟨_, PySem.W.mg_of X G g2⟩, PySem.W.mg_of X G g3, fun H => .inr ⟨_, _, _, q3, rfl, rfl, (by show 7 ≤ sizeLine; decide), (.cons ⟨_, rfl⟩ (.cons ⟨_, rfl⟩ (.cons ⟨_, rfl⟩ (.cons ⟨_, rfl⟩ (.cons ⟨_, rfl⟩ (.cons ⟨_, rfl⟩ (.cons ⟨_, rfl⟩ .nil)))))))⟩, ⟨_, PySem.W.mg_of X G g4⟩, PySem.W.mg_of X G g5, fun H => .inr ⟨_, _, _, q5, rfl, rfl, (by show 2 ≤ sizeLine; decide), (.cons ⟨_, rfl⟩ (.cons ⟨_, rfl⟩ .nil))⟩, PySem.W.mg_none_of X G z_all, PySem.W.mg_none_of X G z_int, PySem.W.mg_none_of X G z_isinstance, PySem.W.mg_none_of X G z_len, PySem.W.mg_none_of X G z_list, PySem.W.mg_none_of X G z_range, PySem.W.mg_none_of X G z_set, PySem.W.mg_none_of X G z_sorted, PySem.W.mg_none_of X G z_tuple⟩
  exact ⟨_, fun s v => .of_eq rfl, fun base _ _ => OK l.prog D base T⟩
theorem walk {l : PySem.W.OpenLaw} {q : Program} {loose : List Str} {XP : (Str → Option Value) → Heap → Prop} {YP : World → Heap → Prop} {d : DefRec} {K : Params → PySem.W.Frag} (hn : l.most = some 63) (hdf : d.params.defaults = [])
    (hY : ∀ (w : World) (h : Heap), YP w h → (K w.params).In h)
    (F : ∀ (w : World) (mg : Str → Option Value) (fa : Addr) (h : Heap), (K w.params).In h → h.Ns mainGlobals mg → mg d.name = some (.ref fa) →
      ∃ fd : FuncData, (∀ (s : Shared) (u : Value), BindsTo s fd ⟨[u], []⟩ [("_law_script", u)]) ∧ ∀ base : Heap, (K w.params).In base → base.Ns mainGlobals mg → FnOk l.prog w (K w.params) mg base CX0 60 fa fd ["_law_script"] (spLaw (K w.params))) :
    PySem.W.WalkO q loose XP YP l.row.toRowW d [] (fun f vs => PySem.call f vs) :=
  L2.walk_of (n := 63) (k := 60) (x := "_law_script") (CX := fun _ => CX0) (sp := fun w => spLaw (K w.params)) hn (by decide) hdf ⟨rfl, by decide, by decide, rfl⟩ hY F (fun _ _ a ns hl _ hS => ⟨a, ns, rfl, hS, hl, fun _ => rfl⟩) fun _ _ _ _ _ z => z
end K03
open PySem PySem.W PyProof.Rows
set_option maxRecDepth 100000 in
set_option maxHeartbeats 0 in
theorem PySem.Challenge.cw_boxproof_k03_what_stands_in_holds : PySem.Challenge.rw_boxproof_k03_what_stands_in.Holds := by
  w_on; o_law; k_head; (case hw => w_witness2)
  k_fill
  refine K03.walk (l := PySem.Challenge.rw_boxproof_k03_what_stands_in) rfl rfl (fun w h Y => PySem.W.kIn_of Y) ?F
  case F =>
    intro w mg fa h KX G hmg
    refine' K03.all_mk KX G hmg ?bpa0 ?bpl0 ?bpc0 ?bpk0 ?bpa1 ?bpl1 ?bpc1 ?bpk1 ?bpa2 ?bpl2 ?bpc2 ?bpk2 ?bpa3 ?bpl3 ?bpc3 ?bpk3 ?bpa4 ?bpl4 ?bpc4 ?bpk4 ?bpa5 ?bpl5 ?bpc5 ?bpk5 ?bpa6 ?bpl6 ?bpc6 ?bpk6 ?bpa7 ?bpl7 ?bpc7 ?bpk7 ?bpa8 ?bpl8 ?bpc8 ?bpk8 ?bpa9 ?bpl9 ?bpc9 ?bpk9 ?bpa10 ?bpl10 ?bpc10 ?bpk10 ?bpa11 ?bpl11 ?bpc11 ?bpk11 ?bpa12 ?bpl12 ?bpc12 ?bpk12 ?bpa13 ?bpl13 ?bpc13 ?bpk13 ?bpa14 ?bpl14 ?bpc14 ?bpk14 ?bpa15 ?bpl15 ?bpc15 ?bpk15 ?bpa16 ?bpl16 ?bpc16 ?bpk16 ?bpa17 ?bpl17 ?bpc17 ?bpk17 ?bpa18 ?bpl18 ?bpc18 ?bpk18 ?bpa19 ?bpl19 ?bpc19 ?bpk19 ?bpg0 ?bpg1 ?bpg2 ?bpg3 ?bpq3 ?bpg4 ?bpg5 ?bpq5 ?bpz_all ?bpz_int ?bpz_isinstance ?bpz_len ?bpz_list ?bpz_range ?bpz_set ?bpz_sorted ?bpz_tuple ?bpOK
    (case bpa0 => k_is)
    (case bpl0 => k_is)
    (case bpc0 => k_is)
    (case bpk0 => k_is)
    (case bpa1 => k_is)
    (case bpl1 => k_is)
    (case bpc1 => k_is)
    (case bpk1 => k_is)
    (case bpa2 => k_is)
    (case bpl2 => k_is)
    (case bpc2 => k_is)
    (case bpk2 => k_is)
    (case bpa3 => k_is)
    (case bpl3 => k_is)
    (case bpc3 => k_is)
    (case bpk3 => k_is)
    (case bpa4 => k_is)
    (case bpl4 => k_is)
    (case bpc4 => k_is)
    (case bpk4 => k_is)
    (case bpa5 => k_is)
    (case bpl5 => k_is)
    (case bpc5 => k_is)
    (case bpk5 => k_is)
    (case bpa6 => k_is)
    (case bpl6 => k_is)
    (case bpc6 => k_is)
    (case bpk6 => k_is)
    (case bpa7 => k_is)
    (case bpl7 => k_is)
    (case bpc7 => k_is)
    (case bpk7 => k_is)
    (case bpa8 => k_is)
    (case bpl8 => k_is)
    (case bpc8 => k_is)
    (case bpk8 => k_is)
    (case bpa9 => k_is)
    (case bpl9 => k_is)
    (case bpc9 => k_is)
    (case bpk9 => k_is)
    (case bpa10 => k_is)
    (case bpl10 => k_is)
    (case bpc10 => k_is)
    (case bpk10 => k_is)
    (case bpa11 => k_is)
    (case bpl11 => k_is)
    (case bpc11 => k_is)
    (case bpk11 => k_is)
    (case bpa12 => k_is)
    (case bpl12 => k_is)
    (case bpc12 => k_is)
    (case bpk12 => k_is)
    (case bpa13 => k_is)
    (case bpl13 => k_is)
    (case bpc13 => k_is)
    (case bpk13 => k_is)
    (case bpa14 => k_is)
    (case bpl14 => k_is)
    (case bpc14 => k_is)
    (case bpk14 => k_is)
    (case bpa15 => k_is)
    (case bpl15 => k_is)
    (case bpc15 => k_is)
    (case bpk15 => k_is)
    (case bpa16 => k_is)
    (case bpl16 => k_is)
    (case bpc16 => k_is)
    (case bpk16 => k_is)
    (case bpa17 => k_is)
    (case bpl17 => k_is)
    (case bpc17 => k_is)
    (case bpk17 => k_is)
    (case bpa18 => k_is)
    (case bpl18 => k_is)
    (case bpc18 => k_is)
    (case bpk18 => k_is)
    (case bpa19 => k_is)
    (case bpl19 => k_is)
    (case bpc19 => k_is)
    (case bpk19 => k_is)
    (case bpg0 => k_is)
    (case bpg1 => k_is)
    (case bpg2 => k_is)
    (case bpg3 => k_is)
    (case bpq3 => k_is)
    (case bpg4 => k_is)
    (case bpg5 => k_is)
    (case bpq5 => k_is)
    (case bpz_all => k_is)
    (case bpz_int => k_is)
    (case bpz_isinstance => k_is)
    (case bpz_len => k_is)
    (case bpz_list => k_is)
    (case bpz_range => k_is)
    (case bpz_set => k_is)
    (case bpz_sorted => k_is)
    (case bpz_tuple => k_is)
    case bpOK => exact fun P D base T => K03.ok_law T
#print axioms PySem.Challenge.cw_boxproof_k03_what_stands_in_holds