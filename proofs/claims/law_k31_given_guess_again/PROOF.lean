import PyProof.Rows.All
import Wide.All
import OpenK.AllK
import Wide.FinOn
import Lean
import PyProof.EqAt
import PyProof.EqKinds
import PyProof.TupleCall
import PyProof.StationsW
import PyProof.PassesOwn
import PyProof.Rows.CatchOwn
import PyProof.Rows.CatchBare
import PyProof.Rows.Own
import PyProof.ExcAttrAll.ValueError
import PyProof.ExcBaseAll.ValueError
import KE.RegKIsAll
import PyProof.FString4
import PyProof.StrLawsRepr
import PyProof.NeKinds
import PyProof.StrCalls
import PyProof.StrCalls2
import PyProof.FitsReplace
import PyProof.StrOps2
import PyProof.ConsumeWalk
import PyProof.SumWalkG
import PyProof.StrCalls6
import PyProof.ToksMono
import PyProof.StrLawsReplace
import PyProof.ListRange
import KE.KTab
import PyProof.EnumFor
import PyProof.EnumStmt
import PyProof.EnumMake
import PyProof.TupleIter
import PyProof.ZipIter
import PyProof.Rows.ZipGen
import PyProof.CollectIter
import PyProof.TupleOfGen
import PyProof.AutoListH
import PyProof.FactsAll.list
import PyProof.SliceSyntax
import PyProof.SliceList
import PyProof.FactsAll.range
import PySem.Challenge.RW_boxproof_k31_given_guess_again
set_option Elab.async false
set_option linter.all false
set_option maxRecDepth 100000
namespace L2
open PySem PySem.Spec PyProof.Rows
abbrev Key := Sum Int Str
def keyIs : Key → Value → Bool
  | .inl k, v => Value.isInt k v
  | .inr x, v => Value.isStrOf x v
def keyH (w : World) : Key → Int
  | .inl k => hashInt k
  | .inr x => hashStr w x
theorem keyIs_shape : ∀ {k : Key} {v : Value}, keyIs k v = true → (∃ i t, k = Sum.inl i ∧ v = Value.int i t) ∨ (∃ x t, k = Sum.inr x ∧ v = Value.str x t)
  | .inl i, v, h => by
    obtain ⟨t, e⟩ := Value.isInt_shape (k := i) (v := v) h
    exact .inl ⟨i, t, rfl, e⟩
  | .inr x, v, h => by
    obtain ⟨t, e⟩ := Value.isStrOf_shape (x := x) (v := v) h
    exact .inr ⟨x, t, rfl, e⟩
theorem keyIs_str (x : Str) (t : Tok) : keyIs (.inr x) (.str x t) = true := by simp [keyIs, Value.isStrOf]
theorem key_ll (a b : Int) : decide ((Sum.inl a : Key) = Sum.inl b) = (a == b) := by
  by_cases e : a = b
  · subst e; simp
  · have h : ¬ (Sum.inl a : Key) = Sum.inl b := fun q => e (Sum.inl.inj q)
    rw [decide_eq_false h]
    exact (beq_eq_false_iff_ne.mpr e).symm
theorem key_rr (a b : Str) : decide ((Sum.inr a : Key) = Sum.inr b) = decide (a = b) := by
  by_cases e : a = b
  · subst e; simp
  · have h : ¬ (Sum.inr a : Key) = Sum.inr b := fun q => e (Sum.inr.inj q)
    rw [decide_eq_false h, decide_eq_false e]
theorem key_lr (a : Int) (b : Str) : decide ((Sum.inl a : Key) = Sum.inr b) = false := decide_eq_false (fun q => nomatch q)
theorem key_rl (a : Str) (b : Int) : decide ((Sum.inr a : Key) = Sum.inl b) = false := decide_eq_false (fun q => nomatch q)
def mixKind (prog : Program) (w : World) : PySem.KeyKind prog w Key where
  is := keyIs
  hash := keyH w
  inj := fun v a b ha hb => by
    rcases keyIs_shape ha with ⟨i, t, rfl, rfl⟩ | ⟨x, t, rfl, rfl⟩
    · rcases keyIs_shape hb with ⟨j, u, rfl, e⟩ | ⟨y, u, rfl, e⟩
      · injection e with e1 _; rw [e1]
      · exact nomatch e
    · rcases keyIs_shape hb with ⟨j, u, rfl, e⟩ | ⟨y, u, rfl, e⟩
      · exact nomatch e
      · injection e with e1 _; rw [e1]
  byValue := fun k v h => by
    rcases keyIs_shape h with ⟨i, t, rfl, rfl⟩ | ⟨x, t, rfl, rfl⟩ <;> rfl
  pyHash := fun hv h => by
    rcases keyIs_shape hv with ⟨i, t, rfl, rfl⟩ | ⟨x, t, rfl, rfl⟩
    · exact wpAny_pyHash_int h
    · exact wpAny_pyHash_str h
  eqBool := fun hu hv h => by
    rcases keyIs_shape hu with ⟨i, t, rfl, rfl⟩ | ⟨x, t, rfl, rfl⟩
    · rcases keyIs_shape hv with ⟨j, u, rfl, rfl⟩ | ⟨y, u, rfl, rfl⟩
      · rw [key_ll] at h; exact wpAny_eqBool_int h
      · rw [key_lr] at h; exact SeqAt.EqAt.int_str i t y u _ _ _ _ h
    · rcases keyIs_shape hv with ⟨j, u, rfl, rfl⟩ | ⟨y, u, rfl, rfl⟩
      · rw [key_rl] at h; exact SeqAt.EqAt.str_int x t j u _ _ _ _ h
      · rw [key_rr] at h; exact wpAny_eqBool_str h
  «strs» := fun k x t v h => by
    rcases keyIs_shape h with ⟨i, u, rfl, e⟩ | ⟨y, u, rfl, e⟩
    · exact nomatch e
    · injection e with e1 _
      subst e1
      cases v <;> rfl
end L2
namespace L2
open PySem PySem.Spec PyProof.Rows
inductive V where
  | non | bl (b : Bool) | int (i : Int) | str (x : Str) | byt (b : Array UInt8) | flt (b : UInt64) | ref (a : Addr) | ty (n : String)
  deriving DecidableEq
def RelV : V → Value → Prop
  | .non, u => u = Value.none
  | .bl b, u => u = Value.bool b
  | .int i, u => ∃ t, u = Value.int i t
  | .str x, u => ∃ t, u = Value.str x t
  | .byt b, u => ∃ t, u = Value.bytes b t
  | .flt b, u => ∃ t, u = Value.float b t
  | .ref a, u => u = Value.ref a
  | .ty n, u => u = Value.type n
abbrev Vals : List V → List Value → Prop := Paired RelV
theorem Vals.length {xs : List V} {us : List Value} (r : Vals xs us) : xs.length = us.length := Paired.length r
theorem Vals.get : ∀ {xs : List V} {us : List Value} {i : Nat} {x : V}, Vals xs us → xs[i]? = some x → ∃ u, us[i]? = some u ∧ RelV x u
  | _, _, _, _, .nil, e => by simp at e
  | _, _, 0, _, .cons r _, e => by simp at e; subst e; exact ⟨_, rfl, r⟩
  | _, _, i + 1, x, .cons _ t, e => by
    obtain ⟨u, h1, h2⟩ := Vals.get (i := i) (x := x) t (by simpa using e)
    exact ⟨u, by simpa using h1, h2⟩
theorem Vals.set {x : V} {u : Value} (r : RelV x u) : ∀ {xs : List V} {us : List Value} (i : Nat), Vals xs us → Vals (xs.set i x) (us.set i u)
  | _, _, _, .nil => .nil
  | _, _, 0, .cons _ t => .cons r t
  | _, _, i + 1, .cons q t => .cons q (Vals.set r i t)
theorem Vals.append : ∀ {xs ys : List V} {us ws : List Value}, Vals xs us → Vals ys ws → Vals (xs ++ ys) (us ++ ws)
  | _, _, _, _, .nil, s => s
  | _, _, _, _, .cons r t, s => .cons r (Vals.append t s)
theorem Vals.take : ∀ {xs : List V} {us : List Value} (n : Nat), Vals xs us → Vals (xs.take n) (us.take n)
  | _, _, 0, _ => .nil
  | _, _, _ + 1, .nil => .nil
  | _, _, n + 1, .cons r t => .cons r (Vals.take n t)
theorem Vals.drop : ∀ {xs : List V} {us : List Value} (n : Nat), Vals xs us → Vals (xs.drop n) (us.drop n)
  | _, _, 0, r => r
  | _, _, _ + 1, .nil => .nil
  | _, _, n + 1, .cons _ t => Vals.drop n t
theorem Vals.none_of : ∀ {xs : List V} {us : List Value} {i : Nat}, Vals xs us → xs[i]? = none → us[i]? = none := fun {xs us i} r e => by
  have h1 := r.length
  have h2 : xs.length ≤ i := List.getElem?_eq_none_iff.mp e
  exact List.getElem?_eq_none_iff.mpr (by omega)
def RelO : Option V → Option Value → Prop
  | some v, some u => RelV v u
  | none, none => True
  | _, _ => False
def KV {κ : Type} : List (κ × V) → List (κ × Value) → Prop := Paired fun (p : κ × V) (q : κ × Value) => p.1 = q.1 ∧ RelV p.2 q.2
def kV : Key → V
  | .inl i => .int i
  | .inr x => .str x
inductive HO where
  | lst (xs : List V)
  | tup (xs : List V)
  | dK (kvs : List (Key × V)) | dT (kvs : List (List Key × V))
  | set (S : Int → Bool) (n : Nat)
  | ins (C dx : Addr) (fs : List (Str × V))
  | own (x : Addr)
  | xd (fs : List (Str × V))
  | met (f x : Addr)
  | rng (lo hi : Int)
  | frz (o : Obj) (u : HO)
  | tbl (ps : Array Value)
  | ext (φ : Heap → Prop)
abbrev Hp := Addr → Option HO
def upd (H : Hp) (a : Addr) (o : HO) : Hp := fun b => if b = a then some o else H b
theorem upd_same {H : Hp} {a : Addr} {o : HO} : upd H a o a = some o := by unfold upd; rw [if_pos rfl]
theorem upd_ne {H : Hp} {a b : Addr} {o : HO} (h : b ≠ a) : upd H a o b = H b := by unfold upd; rw [if_neg h]
theorem upd_upd {H : Hp} {a : Addr} {o u : HO} : upd (upd H a o) a u = upd H a u := by
  funext b; unfold upd; split <;> rfl
theorem ne_of_none {H : Hp} {a b : Addr} {o : HO} (h : H a = some o) (h' : H b = none) : a ≠ b := by
  intro e; subst e; rw [h] at h'; cases h'
section
variable (P : Program) (w : World)
def ObjOk (H : Hp) (h : Heap) (a : Addr) : HO → Prop
  | .lst xs => xs.length ≤ sizeLine ∧ ∃ (its : List Value) (n : Nat), Vals xs its ∧ h.get? a = some { cls := .type "list", data := .seq its.toArray n }
  | .tup xs => xs.length ≤ sizeLine ∧ ∃ its : List Value, Vals xs its ∧ IsTup h a its.toArray
  | .dK kvs => kvs.length ≤ sizeLine ∧ (a == sysModules) = false ∧ ∃ vs, KV kvs vs ∧ h.DictOf (mixKind P w) a vs
  | .dT kvs => kvs.length ≤ sizeLine ∧ (a == sysModules) = false ∧ ∃ xs : List (List Key × Addr × Value),
      Paired (fun (p : List Key × V) (q : List Key × Addr × Value) => p.1 = q.1 ∧ H q.2.1 = some (.tup (p.1.map kV)) ∧ RelV p.2 q.2.2) kvs xs ∧
      ∃ o es ep, h.get? a = some o ∧ o.ExactDict ∧ o.data = .dict es ep ∧ es.toList = xs.map (entryOfKey (tupleKind (mixKind P w))) ∧ (xs.map (·.1)).Nodup
  | .set S n => h.SetOf (intKind P w) a S n
  | .ins C dx fs => H dx = some (.own a) ∧ fs.length ≤ 1000 ∧ dx ≠ a ∧ h.get? a = some (PySem.W.instObj C dx) ∧
      ∃ mA, h.Ns1 dx mA ∧ (∀ f, RelO (fs.lookup f) (mA f)) ∧ PySem.Within mA (fs.map (·.1))
  | .own _ => ∃ o, h.get? a = some o
  | .xd fs => ∃ mA, h.Ns1 a mA ∧ ∀ f, RelO (fs.lookup f) (mA f)
  | .rng lo hi => ∃ t u v, h.get? a = some { cls := .type "range", data := .fields #[.int lo t, .int hi u, .int 1 v] }
  | .frz o u => h.get? a = some o ∧ ObjOk H h a u
  | .tbl ps => h.get? a = some { cls := .none, data := .fields ps }
  | .met f x => h.get? a = some (PySem.W.methodObj (.ref f) (.ref x))
  | .ext φ => φ h ∧ (∃ o, h.get? a = some o) ∧ ∀ h1 h2 : Heap, φ h1 → (∀ o, h1.get? a = some o → h2.get? a = some o) → φ h2
def HOk (H : Hp) (h : Heap) : Prop := ∀ a o, H a = some o → ObjOk P w H h a o
end
section
variable {P : Program} {w : World} {H H' : Hp} {h h' : Heap} {a : Addr} {o : HO}
theorem ObjOk.lt (x : ObjOk P w H h a o) : a < h.objs.size := by
  cases o with
  | lst xs => obtain ⟨_, _, _, _, e⟩ := x; exact Heap.lt_size e
  | tup xs => obtain ⟨_, _, _, p⟩ := x; exact p.lt
  | dK kvs => obtain ⟨_, _, _, _, o, _, _, e, _⟩ := x; exact Heap.lt_size e
  | dT kvs => obtain ⟨_, _, _, _, o, _, _, e, _⟩ := x; exact Heap.lt_size e
  | set S n => obtain ⟨o, _, _, _, e, _⟩ := x; exact Heap.lt_size e
  | ins C dx fs => obtain ⟨_, _, _, e, _⟩ := x; exact Heap.lt_size e
  | own y => obtain ⟨_, e⟩ := x; exact Heap.lt_size e
  | xd fs => obtain ⟨_, ⟨_, _, _, e, _⟩, _⟩ := x; exact Heap.lt_size e
  | rng lo hi => obtain ⟨_, _, _, e⟩ := x; exact Heap.lt_size e
  | frz ob u => obtain ⟨e, _⟩ := x; exact Heap.lt_size e
  | tbl ps => exact Heap.lt_size (show h.get? a = some _ from x)
  | met f y => exact Heap.lt_size (show h.get? a = some _ from x)
  | ext φ => obtain ⟨_, ⟨_, e⟩, _⟩ := x; exact Heap.lt_size e
theorem Paired.mapP {α β : Type} {F G : α → β → Prop} : ∀ {l₁ : List α} {l₂ : List β}, Paired F l₁ l₂ → (∀ a b, F a b → G a b) → Paired G l₁ l₂
  | _, _, .nil, _ => .nil
  | _, _, .cons r t, f => .cons (f _ _ r) (Paired.mapP t f)
theorem ObjOk.stay (x : ObjOk P w H h a o) (k : ∀ b u, (b = a ∨ H b = some (.own a)) → h.get? b = some u → h'.get? b = some u)
    (ho : ∀ b, H b = some (.own a) → H' b = some (.own a)) (ht : ∀ b xs, H b = some (.tup xs) → H' b = some (.tup xs)) : ObjOk P w H' h' a o := by
  induction o with
  | lst xs => obtain ⟨z, its, n, r, e⟩ := x; exact ⟨z, its, n, r, k _ _ (.inl rfl) e⟩
  | tup xs => obtain ⟨z, its, r, ob, e, c⟩ := x; exact ⟨z, its, r, ob, k _ _ (.inl rfl) e, c⟩
  | dK kvs => obtain ⟨z, y, vs, r, ob, es, ep, e, c⟩ := x; exact ⟨z, y, vs, r, ob, es, ep, k _ _ (.inl rfl) e, c⟩
  | dT kvs =>
    obtain ⟨z, y, xs, r, ob, es, ep, e, c⟩ := x
    exact ⟨z, y, xs, Paired.mapP r fun p q z => ⟨z.1, ht _ _ z.2.1, z.2.2⟩, ob, es, ep, k _ _ (.inl rfl) e, c⟩
  | set S n => obtain ⟨ob, es, ep, t, e, c⟩ := x; exact ⟨ob, es, ep, t, k _ _ (.inl rfl) e, c⟩
  | ins C dx fs =>
    obtain ⟨d, z, ne, e, mA, ⟨od, es, ep, e2, c⟩, r⟩ := x
    exact ⟨ho _ d, z, ne, k _ _ (.inl rfl) e, mA, ⟨od, es, ep, k _ _ (.inr d) e2, c⟩, r⟩
  | own y => obtain ⟨ob, e⟩ := x; exact ⟨ob, k _ _ (.inl rfl) e⟩
  | xd fs => obtain ⟨mA, ⟨od, es, ep, e, c⟩, r⟩ := x; exact ⟨mA, ⟨od, es, ep, k _ _ (.inl rfl) e, c⟩, r⟩
  | rng lo hi => obtain ⟨t, u, v, e⟩ := x; exact ⟨t, u, v, k _ _ (.inl rfl) e⟩
  | frz ob u ih => obtain ⟨e, q⟩ := x; exact ⟨k _ _ (.inl rfl) e, ih q⟩
  | tbl ps =>
    have e : h.get? a = some { cls := .none, data := .fields ps } := x
    show h'.get? a = some { cls := .none, data := .fields ps }
    exact k a _ (.inl rfl) e
  | met f y =>
    have e : h.get? a = some (PySem.W.methodObj (.ref f) (.ref y)) := x
    show h'.get? a = some (PySem.W.methodObj (.ref f) (.ref y))
    exact k a _ (.inl rfl) e
  | ext φ => obtain ⟨p, ⟨o, e⟩, st⟩ := x; exact ⟨st _ _ p fun o q => k _ _ (.inl rfl) q, ⟨o, k _ _ (.inl rfl) e⟩, st⟩
theorem HOk.lt (x : HOk P w H h) (e : H a = some o) : a < h.objs.size := (x a o e).lt
theorem HOk.fresh (x : HOk P w H h) (e : h.objs.size ≤ a) : H a = none := by
  cases q : H a with
  | none => rfl
  | some u => exact absurd (Nat.lt_of_lt_of_le (x.lt q) e) (Nat.lt_irrefl _)
theorem HOk.kept (x : HOk P w H h) (k : ∀ b u, h.get? b = some u → h'.get? b = some u) : HOk P w H h' := fun a o e =>
  (x a o e).stay (fun b u _ q => k b u q) (fun _ q => q) fun _ _ q => q
theorem HOk.laid (x : HOk P w H h) (k : ∀ b u, h.get? b = some u → h'.get? b = some u) (hp : h.objs.size ≤ a) (new : ObjOk P w (upd H a o) h' a o) : HOk P w (upd H a o) h' := fun b u e => by
  have hn := x.fresh hp
  by_cases hb : b = a
  · subst hb; rw [upd_same] at e; cases e; exact new
  · rw [upd_ne hb] at e
    exact (x b u e).stay (fun c v _ q => k c v q) (fun c q => by rw [upd_ne (ne_of_none q hn)]; exact q) fun c xs q => by rw [upd_ne (ne_of_none q hn)]; exact q
end
def Rd (H : Hp) (a : Addr) (u : HO) : Prop := H a = some u ∨ ∃ o, H a = some (.frz o u)
theorem Rd.of {H : Hp} {a : Addr} {u : HO} (h : H a = some u) : Rd H a u := .inl h
theorem Rd.ok {P : Program} {w : World} {H : Hp} {h : Heap} {a : Addr} {u : HO} (r : Rd H a u) (x : HOk P w H h) : ObjOk P w H h a u := by
  rcases r with r | ⟨o, r⟩
  · exact x a u r
  · obtain ⟨_, q⟩ := x a _ r
    exact q
def Mut : Option HO → Prop
  | some (.lst _) => True
  | some (.dK _) => True
  | some (.dT _) => True
  | some (.set _ _) => True
  | some (.ins _ _ _) => True
  | some (.ext _) => True
  | _ => False
section
variable {P : Program} {w : World} {H : Hp} {h h' : Heap} {x e : Addr} {o' : HO}
theorem HOk.write (ok : HOk P w H h) (mu : Mut (H x)) (he : e = x ∨ H e = some (.own x)) (k : ∀ b u, b ≠ e → h.get? b = some u → h'.get? b = some u) (heo : ∃ u, h'.get? e = some u)
    (new : ObjOk P w (upd H x o') h' x o') : HOk P w (upd H x o') h' := fun b u q => by
  have nown : ∀ c y, H c = some (.own y) → c ≠ x := fun c y r z => by subst z; rw [r] at mu; exact mu
  have ntup : ∀ c xs, H c = some (.tup xs) → c ≠ x := fun c xs r z => by subst z; rw [r] at mu; exact mu
  by_cases hb : b = x
  · subst hb; rw [upd_same] at q; cases q; exact new
  · rw [upd_ne hb] at q
    by_cases hbe : b = e
    · have q' : H b = some (.own x) := by
        rcases he with z | z
        · exact absurd (hbe.trans z) hb
        · rw [hbe]; exact z
      rw [q] at q'; cases q'
      obtain ⟨v, hv⟩ := heo
      exact ⟨v, by rw [hbe]; exact hv⟩
    · refine (ok b u q).stay (fun c v hc r => k c v ?_ r) (fun c r => by rw [upd_ne (nown c b r)]; exact r) fun c xs r => by rw [upd_ne (ntup c xs r)]; exact r
      rcases hc with rfl | hc
      · exact hbe
      · rintro rfl
        rcases he with z | z
        · exact nown c b hc z
        · rw [hc] at z; cases z; exact hb rfl
end
structure Un (fs ex : List Addr) (H H' : Hp) (h h' : Heap) : Prop where
  keep : ∀ b o, h.get? b = some o → H b = none → b ∉ fs → b ∉ ex → h'.get? b = some o
  slot : ∀ b o, h.get? b = some o → H b = none → b ∈ fs → b ∉ ex → ∃ sl, h'.get? b = some { o with slots := sl }
  free : ∀ b o, h.get? b = some o → H b = none → b ∉ ex → H' b = none
  there : ∀ b o, h.get? b = some o → b ∉ ex → ∃ o', h'.get? b = some o'
  tups : ∀ b xs, H b = some (.tup xs) → H' b = some (.tup xs)
  frzs : ∀ b o u, H b = some (.frz o u) → H' b = some (.frz o u)
  tbls : ∀ b ps, H b = some (.tbl ps) → ∃ more, H' b = some (.tbl (ps ++ more))
section
variable {fs fs' ex ex' : List Addr} {H H1 H2 : Hp} {h h1 h2 h' : Heap} {a x e : Addr} {o : HO}
theorem Un.any (u : Un fs ex H H1 h h1) {b : Addr} {ob : Obj} (q : h.get? b = some ob) (n : H b = none) (hx : b ∉ ex) : ∃ sl, h1.get? b = some { ob with slots := sl } := by
  by_cases hb : b ∈ fs
  · exact u.slot b ob q n hb hx
  · exact ⟨ob.slots, u.keep b ob q n hb hx⟩
theorem Un.trans (a : Un fs ex H H1 h h1) (b : Un fs ex H1 H2 h1 h2) : Un fs ex H H2 h h2 where
  keep := fun c ob q n hc hx => b.keep c ob (a.keep c ob q n hc hx) (a.free c ob q n hx) hc hx
  slot := fun c ob q n hc hx => by
    obtain ⟨sl, e1⟩ := a.slot c ob q n hc hx
    obtain ⟨sl', e2⟩ := b.slot c _ e1 (a.free c ob q n hx) hc hx
    exact ⟨sl', e2⟩
  free := fun c ob q n hx => by
    obtain ⟨o', e1⟩ := a.there c ob q hx
    exact b.free c o' e1 (a.free c ob q n hx) hx
  there := fun c ob q hx => by
    obtain ⟨o', e1⟩ := a.there c ob q hx
    exact b.there c o' e1 hx
  tups := fun c xs q => b.tups c xs (a.tups c xs q)
  frzs := fun c ob xs q => b.frzs c ob xs (a.frzs c ob xs q)
  tbls := fun c ps q => by
    obtain ⟨m1, e1⟩ := a.tbls c ps q
    obtain ⟨m2, e2⟩ := b.tbls c _ e1
    exact ⟨m1 ++ m2, by rw [e2, Array.append_assoc]⟩
theorem Un.kept (k : ∀ b u, h.get? b = some u → h'.get? b = some u) : Un fs ex H H h h' :=
  ⟨fun b ob q _ _ _ => k b ob q, fun b ob q _ _ _ => ⟨ob.slots, k b ob q⟩, fun _ _ _ n _ => n, fun b ob q _ => ⟨ob, k b ob q⟩, fun _ _ q => q, fun _ _ _ q => q, fun _ ps q => ⟨#[], by rw [q]; simp⟩⟩
theorem Un.refl : Un fs ex H H h h := Un.kept fun _ _ q => q
theorem Un.laid (k : ∀ b u, h.get? b = some u → h'.get? b = some u) (hp : h.objs.size ≤ a) (hn : H a = none) : Un fs ex H (upd H a o) h h' where
  keep := fun b u q _ _ _ => k b u q
  slot := fun b u q _ _ _ => ⟨u.slots, k b u q⟩
  free := fun b u q n _ => by rw [upd_ne (Nat.ne_of_lt (Nat.lt_of_lt_of_le (Heap.lt_size q) hp))]; exact n
  there := fun b u q _ => ⟨u, k b u q⟩
  tups := fun b xs q => by rw [upd_ne (ne_of_none q hn)]; exact q
  frzs := fun b u xs q => by rw [upd_ne (ne_of_none q hn)]; exact q
  tbls := fun b ps q => ⟨#[], by rw [upd_ne (ne_of_none q hn), q]; simp⟩
theorem Un.write (mu : Mut (H x)) (he : e = x ∨ H e = some (.own x)) (k : ∀ b u, b ≠ e → h.get? b = some u → h'.get? b = some u) (heo : ∃ u, h'.get? e = some u) : Un fs ex H (upd H x o) h h' := by
  have hx : ∀ b, H b = none → b ≠ x := fun b n z => by subst z; rw [n] at mu; exact mu
  have hb : ∀ b, H b = none → b ≠ e := fun b n z => by
    subst z
    rcases he with r | r
    · exact hx b n r
    · rw [n] at r; cases r
  have hm : ∀ b u, H b = some u → ¬ Mut (some u) → b ≠ x := fun b u q nm z => by subst z; rw [q] at mu; exact nm mu
  refine ⟨fun b u q n _ _ => k b u (hb b n) q, fun b u q n _ _ => ⟨u.slots, k b u (hb b n) q⟩, fun b u q n _ => by rw [upd_ne (hx b n)]; exact n, fun b u q _ => ?_,
    fun b xs q => by rw [upd_ne (hm b _ q fun z => z)]; exact q, fun b u xs q => by rw [upd_ne (hm b _ q fun z => z)]; exact q, fun b ps q => ⟨#[], by rw [upd_ne (hm b _ q fun z => z), q]; simp⟩⟩
  by_cases hbe : b = e
  · subst hbe; exact heo
  · exact ⟨u, k b u hbe q⟩
theorem Un.mono (u : Un fs ex H H1 h h1) (hs : ∀ b ∈ fs, b ∈ fs') (hx : ∀ b ∈ ex, b ∈ ex') : Un fs' ex' H H1 h h1 :=
  ⟨fun b ob q n hb he => u.keep b ob q n (fun z => hb (hs b z)) fun z => he (hx b z), fun _ _ q n _ he => u.any q n fun z => he (hx _ z), fun b ob q n he => u.free b ob q n fun z => he (hx b z), fun b ob q he => u.there b ob q fun z => he (hx b z), u.tups, u.frzs, u.tbls⟩
end
def trk (h : Heap) (H : Hp) : List Addr := (List.range h.objs.size).filter fun a => (H a).isSome
def hidT (h : Heap) (H : Hp) : Heap := PySem.W.hideAll h (trk h H)
theorem hidT_size (h : Heap) (H : Hp) : (hidT h H).objs.size = h.objs.size := PySem.W.hideAll_size _ _
theorem hidT_get {h : Heap} {H : Hp} {b : Addr} {o : Obj} (e : h.get? b = some o) (n : H b = none) : (hidT h H).get? b = some o :=
  PySem.W.hideAll_get _ e fun hm => by
    have q : (H b).isSome = true := (List.mem_filter.mp hm).2
    rw [n] at q; simp at q
theorem of_hidT {h : Heap} {H : Hp} {b : Addr} {o : Obj} (e : (hidT h H).get? b = some o) : h.get? b = some o ∧ H b = none := by
  have e' : h.get? b = some o := PySem.W.of_hideAll (trk h H) e
  refine ⟨e', ?_⟩
  cases q : H b with
  | none => rfl
  | some x =>
    have hm : b ∈ trk h H := List.mem_filter.mpr ⟨List.mem_range.mpr (Heap.lt_size e'), by simp [q]⟩
    have z : (hidT h H).get? b = none := PySem.W.hideAll_none (trk h H) hm
    rw [z] at e; cases e
def allNews (g h : Heap) (L : Addr) : List (Addr × Obj) := (List.range h.objs.size).filterMap fun a => if a = L ∨ (g.get? a).isSome = true then none else (h.get? a).map fun o => (a, o)
def rest (g h : Heap) (L d : Addr) : List (Addr × Obj) := (allNews g h L).filter fun p => decide (p.1 ≠ d)
end L2
namespace L2
open PySem PySem.Spec PyProof.Rows
structure Mod (K : PySem.W.Frag) (mg : Str → Option Value) (base : Heap) : Prop where
  kin : K.In base
  glob : base.Ns mainGlobals mg
  blt : ∃ mb, base.Ns builtinsNs mb ∧ ∀ x : Str, x ≠ "__name__" → mb x = bootBuiltins x
  nolimit : base.NoLimit
structure Cx where
  prog : Program
  w : World
  K : PySem.W.Frag
  mg : Str → Option Value
  base : Heap
  A : Around
  N : List Str
  s₀ : Shared
  H₀ : Hp
  env : Env
  outer : List Env
  stack : List Env
  ex : List Addr
  fn : Str → Bool
  calm : Bool
  pn : List (Addr × Obj)
  xe : Value → Shared → Prop
def frs (l : List Env) : List Addr := l.filterMap (·.frame)
abbrev Cx.fs (X : Cx) : List Addr := frs X.outer
def Vis (sc : Scope) (x : Str) : Prop := sc.names.lookup x = some .local ∨ sc.names.lookup x = some .cell ∨ sc.names.lookup x = some .free
def Loc (sc : Scope) (x : Str) : Prop := sc.names.lookup x = some .local ∨ sc.names.lookup x = some .cell
def Look (env : Env) (h : Heap) (m : Str → Option Value) (x : Str) (u : Value) : Prop :=
  (env.kindOf x = some .local ∧ m x = some u) ∨ ((env.kindOf x = some .cell ∨ env.kindOf x = some .free) ∧ ∃ c, env.cells.lookup x = some c ∧ h.IsCell c (some u))
structure Cx.Ok (X : Cx) : Prop where
  mod : Mod X.K X.mg X.base
  kind : X.env.scope.kind = .function
  glob : X.env.globals = mainGlobals
  blt : X.env.builtins = builtinsNs
  above : X.s₀.heap.objs.size ≤ X.env.locals
  inj : ∀ x y c, X.env.cells.lookup x = some c → X.env.cells.lookup y = some c → x = y
  has : ∀ x, (X.env.kindOf x = some .cell ∨ X.env.kindOf x = some .free) → ∃ c, X.env.cells.lookup x = some c
  cab : ∀ x c, X.fn x = true → X.env.cells.lookup x = some c → X.s₀.heap.objs.size ≤ c
  hd : X.calm = true → X.A.handled = none
  frames : X.A.frames = some X.stack
  stk : X.stack = X.outer ∨ (X.stack = X.env :: X.outer ∧ X.env.frame = some X.env.locals)
  exf : ∀ b ∈ X.ex, b ≠ X.env.locals ∧ ∀ x c, X.env.cells.lookup x = some c → c ≠ b
  bs : ∀ b o, X.base.get? b = some o → X.s₀.heap.get? b = some o ∧ X.H₀ b = none
  bsz : X.base.objs.size ≤ X.s₀.heap.objs.size
  noex : ∀ b o, X.base.get? b = some o → b ∉ X.ex
  exfs : ∀ b ∈ X.ex, b ∉ X.fs
  funs : X.s₀.heap.FunFrames X.base X.outer
  frf : ∀ b ∈ X.fs, X.H₀ b = none
structure Inv (X : Cx) (pins : List (Addr × Obj)) (σ : List (Option V)) (H : Hp) (s : Shared) : Prop where
  ok : X.Ok
  os : s.os = X.s₀.os
  bare : AllBare s.gens
  base : Un X.fs X.ex X.H₀ H X.s₀.heap s.heap
  loc : ∃ m, s.heap.Ns X.env.locals m ∧ ∀ (i : Nat) (x : Str) (v : V), X.N[i]? = some x → σ[i]? = some (some v) → Vis X.env.scope x → ∃ u, RelV v u ∧ Look X.env s.heap m x u
  cell : ∀ x c, X.env.cells.lookup x = some c → ∃ v, s.heap.IsCell c v
  free : H X.env.locals = none
  freeC : ∀ x c, X.env.cells.lookup x = some c → H c = none
  pin : ∀ p ∈ X.pn ++ pins, s.heap.get? p.1 = some p.2 ∧ H p.1 = none ∧ p.1 ≠ X.env.locals ∧ p.1 ∉ X.fs ∧ ∀ v, p.2.data ≠ .cell v
  hok : HOk X.prog X.w H s.heap
  len : σ.length = X.N.length
section
variable {X : Cx} {pins : List (Addr × Obj)} {σ : List (Option V)} {H H' : Hp} {s : Shared} {h' : Heap}
theorem Cx.Ok.nofr (ok : X.Ok) {b : Addr} {o : Obj} (e : X.base.get? b = some o) : b ∉ X.fs := fun hb => by
  have := (ok.funs.mem hb).1
  rw [e] at this; cases this
theorem Inv.bs (I : Inv X pins σ H s) : ∀ b o, X.base.get? b = some o → s.heap.get? b = some o ∧ H b = none := fun b o e =>
  ⟨I.base.keep b o (I.ok.bs b o e).1 (I.ok.bs b o e).2 (I.ok.nofr e) (I.ok.noex b o e), I.base.free b o (I.ok.bs b o e).1 (I.ok.bs b o e).2 (I.ok.noex b o e)⟩
theorem Inv.bk (I : Inv X pins σ H s) : ∀ b o, X.base.get? b = some o → s.heap.get? b = some o := fun b o e => (I.bs b o e).1
theorem Inv.mod (I : Inv X pins σ H s) : Mod X.K X.mg X.base := I.ok.mod
theorem Inv.kIn (I : Inv X pins σ H s) : X.K.In s.heap := I.ok.mod.kin.keeps I.bk
theorem Inv.nolimit (I : Inv X pins σ H s) : s.heap.NoLimit := I.ok.mod.nolimit.keeps I.bk
theorem Inv.fr (I : Inv X pins σ H s) : ∃ m, Fr X.base X.env.locals s.heap m :=
  let ⟨m, hn, _⟩ := I.loc
  ⟨m, hn, I.bk, Nat.le_trans I.ok.bsz I.ok.above⟩
theorem Inv.lt (I : Inv X pins σ H s) : X.env.locals < s.heap.objs.size := let ⟨_, hn, _⟩ := I.loc; hn.lt
theorem Inv.sz (I : Inv X pins σ H s) : X.s₀.heap.objs.size ≤ s.heap.objs.size := Nat.le_trans I.ok.above (Nat.le_of_lt I.lt)
theorem Inv.nofs (I : Inv X pins σ H s) {a : Addr} (h : s.heap.objs.size ≤ a) : a ∉ X.fs := fun hb => by
  obtain ⟨_, o, ho, _⟩ := I.ok.funs.mem hb
  exact absurd (Nat.lt_of_lt_of_le (Heap.lt_size ho) (Nat.le_trans I.sz h)) (Nat.lt_irrefl _)
theorem Inv.cne (I : Inv X pins σ H s) : ∀ x c, X.env.cells.lookup x = some c → c ≠ X.env.locals := fun x c e z => by
  obtain ⟨v, o, ho, hd⟩ := I.cell x c e
  obtain ⟨m, ⟨o', es, ep, ho', hd', _⟩, _⟩ := I.loc
  rw [z, ho'] at ho; cases ho; rw [hd'] at hd; cases hd
theorem Inv.funs (I : Inv X pins σ H s) : s.heap.FunFrames X.base X.outer := by
  have all : ∀ (l : List Env), (∀ b ∈ frs l, b ∈ X.fs) → X.s₀.heap.FunFrames X.base l → s.heap.FunFrames X.base l := by
    intro l
    induction l with
    | nil => intro _ _; trivial
    | cons env r ih =>
      intro hs hl
      obtain ⟨hk, ⟨L, o, hf, hn, ho, hd⟩, hr⟩ := hl
      have hL : L ∈ X.fs := hs L (by unfold frs; rw [List.filterMap_cons, hf]; exact List.mem_cons_self)
      obtain ⟨sl, e⟩ := I.base.slot L o ho (I.ok.frf L hL) hL fun z => I.ok.exfs L z hL
      exact ⟨hk, ⟨L, _, hf, hn, e, hd⟩, ih (fun b hb => hs b (by unfold frs; rw [List.filterMap_cons, hf]; exact List.mem_cons_of_mem _ hb)) hr⟩
  exact all X.outer (fun _ hb => hb) I.ok.funs
theorem Inv.stack (I : Inv X pins σ H s) : s.heap.FunFrames X.base X.stack := by
  rcases I.ok.stk with e | ⟨e, hf⟩
  · rw [e]; exact I.funs
  · rw [e]
    obtain ⟨m, hn, _⟩ := I.loc
    refine .cons (by rw [I.ok.kind]; decide) hf hn ?_ I.funs
    exact Heap.get?_none_of_le (Nat.le_trans I.ok.bsz I.ok.above)
theorem Inv.stkSub (I : Inv X pins σ H s) : ∀ b ∈ frs X.stack, b ∈ X.env.locals :: X.fs := fun b hb => by
  rcases I.ok.stk with e | ⟨e, hf⟩
  · rw [e] at hb; exact List.mem_cons_of_mem _ hb
  · rw [e] at hb
    unfold frs at hb
    rw [List.filterMap_cons, hf] at hb
    exact hb
theorem Inv.stkFree (I : Inv X pins σ H s) : ∀ b ∈ frs X.stack, H b = none := fun b hb => by
  rcases List.mem_cons.mp (I.stkSub b hb) with e | hb
  · rw [e]; exact I.free
  · obtain ⟨_, o, ho, _⟩ := I.ok.funs.mem hb
    exact I.base.free b o ho (I.ok.frf b hb) fun z => I.ok.exfs b z hb
theorem Inv.step {g' : Array GenState} {t' : Nat} {d' : Drawn} {ch : List Addr} (I : Inv X pins σ H s)
    (hch : ∀ b ∈ ch, (b ∈ X.ex ∨ X.s₀.heap.objs.size ≤ b) ∧ b ≠ X.env.locals ∧ (∀ x c, X.env.cells.lookup x = some c → c ≠ b) ∧ ∀ p ∈ X.pn ++ pins, p.1 ≠ b)
    (keep : ∀ b o, b ≠ X.env.locals → b ∉ X.fs → b ∉ ch → s.heap.get? b = some o → H b = none → h'.get? b = some o)
    (slot : ∀ b o, b ≠ X.env.locals → b ∈ X.fs → b ∉ ch → s.heap.get? b = some o → H b = none → ∃ sl, h'.get? b = some { o with slots := sl }) (free : ∀ b o, b ∉ ch → s.heap.get? b = some o → H b = none → H' b = none)
    (there : ∀ b o, b ∉ ch → s.heap.get? b = some o → ∃ o', h'.get? b = some o')
    (tups : ∀ b xs, H b = some (.tup xs) → H' b = some (.tup xs)) (frzs : ∀ b o u, H b = some (.frz o u) → H' b = some (.frz o u)) (tbls : ∀ b ps, H b = some (.tbl ps) → ∃ more, H' b = some (.tbl (ps ++ more)))
    (ns : ∀ m, s.heap.Ns X.env.locals m → h'.Ns X.env.locals m) (hok : HOk X.prog X.w H' h') (hg : AllBare g') :
    Inv X pins σ H' { s with heap := h', gens := g', drawn := d', toks := t' } := by
  have neL : ∀ b o, X.s₀.heap.get? b = some o → b ≠ X.env.locals := fun b o e => Nat.ne_of_lt (Nat.lt_of_lt_of_le (Heap.lt_size e) I.ok.above)
  have neC : ∀ b o, X.s₀.heap.get? b = some o → b ∉ X.ex → b ∉ ch := fun b o e hx hb => by
    rcases (hch b hb).1 with z | z
    · exact hx z
    · exact absurd (Nat.lt_of_lt_of_le (Heap.lt_size e) z) (Nat.lt_irrefl _)
  have cellK : ∀ x c, X.env.cells.lookup x = some c → ∀ v, s.heap.IsCell c v → h'.IsCell c v := fun x c e v ⟨o, ho, hd⟩ => by
    have nch : c ∉ ch := fun z => (hch c z).2.2.1 x c e rfl
    by_cases hc : c ∈ X.fs
    · obtain ⟨sl, q⟩ := slot c o (I.cne x c e) hc nch ho (I.freeC x c e)
      exact ⟨_, q, hd⟩
    · exact ⟨o, keep c o (I.cne x c e) hc nch ho (I.freeC x c e), hd⟩
  refine ⟨I.ok, I.os, hg, ⟨fun b o e n hb hx => ?_, fun b o e n hb hx => ?_, fun b o e n hx => ?_, fun b o e hx => ?_, fun b xs e => tups b xs (I.base.tups b xs e), fun b o xs e => frzs b o xs (I.base.frzs b o xs e), fun b ps e => ?_⟩, ?_, fun x c e => ?_, ?_, fun x c e => ?_, fun p hp => ?_, hok, I.len⟩
  · exact keep b o (neL b o e) hb (neC b o e hx) (I.base.keep b o e n hb hx) (I.base.free b o e n hx)
  · obtain ⟨sl, e1⟩ := I.base.slot b o e n hb hx
    obtain ⟨sl', e2⟩ := slot b _ (neL b o e) hb (neC b o e hx) e1 (I.base.free b o e n hx)
    exact ⟨sl', e2⟩
  · obtain ⟨o', e1⟩ := I.base.there b o e hx
    exact free b o' (neC b o e hx) e1 (I.base.free b o e n hx)
  · obtain ⟨o', e1⟩ := I.base.there b o e hx
    exact there b o' (neC b o e hx) e1
  · obtain ⟨m1, e1⟩ := I.base.tbls b ps e
    obtain ⟨m2, e2⟩ := tbls b _ e1
    exact ⟨m1 ++ m2, by rw [e2, Array.append_assoc]⟩
  · obtain ⟨m, hn, hl⟩ := I.loc
    refine ⟨m, ns m hn, fun i x v e1 e2 e3 => ?_⟩
    obtain ⟨u, r, l⟩ := hl i x v e1 e2 e3
    refine ⟨u, r, ?_⟩
    rcases l with l | ⟨k, c, e, z⟩
    · exact .inl l
    · exact .inr ⟨k, c, e, cellK x c e _ z⟩
  · obtain ⟨v, z⟩ := I.cell x c e
    exact ⟨v, cellK x c e v z⟩
  · obtain ⟨m, ⟨o, _, _, ho, _⟩, _⟩ := I.loc
    exact free _ o (fun z => (hch _ z).2.1 rfl) ho I.free
  · obtain ⟨v, o, ho, hd⟩ := I.cell x c e
    exact free c o (fun z => (hch c z).2.2.1 x c e rfl) ho (I.freeC x c e)
  · obtain ⟨e, n, ne, nf, d⟩ := I.pin p hp
    have nch : p.1 ∉ ch := fun z => (hch p.1 z).2.2.2 p hp rfl
    exact ⟨keep p.1 p.2 ne nf nch e n, free p.1 p.2 nch e n, ne, nf, d⟩
theorem Inv.un {t' : Nat} (I : Inv X pins σ H s) (u : Un X.fs [] H H' s.heap h') (hok : HOk X.prog X.w H' h') : Inv X pins σ H' { s with heap := h', toks := t' } := by
  obtain ⟨m, ⟨o, es, ep, ho, r⟩, _⟩ := id I.loc
  obtain ⟨sl, hL⟩ := u.any ho I.free (by simp)
  exact I.step (g' := s.gens) (d' := s.drawn) (ch := []) (fun _ z => nomatch z) (fun b o _ hb _ e n => u.keep b o e n hb (by simp)) (fun b o _ hb _ e n => u.slot b o e n hb (by simp)) (fun b o _ e n => u.free b o e n (by simp)) (fun b o _ e => u.there b o e (by simp)) u.tups u.frzs u.tbls (fun m' hm => by
    obtain ⟨o', es', ep', ho', r'⟩ := hm
    rw [ho] at ho'; cases ho'
    exact ⟨_, es', ep', hL, r'⟩) hok I.bare
theorem Inv.call {g' : Array GenState} {t' : Nat} {d' : Drawn} {ch : List Addr} (I : Inv X pins σ H s) (u : Un (frs X.stack) ch H H' s.heap h') (hok : HOk X.prog X.w H' h') (hg : AllBare g')
    (hch : ∀ b ∈ ch, (b ∈ X.ex ∨ X.s₀.heap.objs.size ≤ b) ∧ b ≠ X.env.locals ∧ (∀ x c, X.env.cells.lookup x = some c → c ≠ b) ∧ ∀ p ∈ X.pn ++ pins, p.1 ≠ b) :
    Inv X pins σ H' { s with heap := h', gens := g', drawn := d', toks := t' } := by
  obtain ⟨m, ⟨o, es, ep, ho, r⟩, _⟩ := id I.loc
  obtain ⟨sl, hL⟩ := u.any ho I.free fun z => (hch _ z).2.1 rfl
  exact I.step (ch := ch) hch (fun b o hL hb hc e n => u.keep b o e n (fun z => (List.mem_cons.mp (I.stkSub b z)).elim hL hb) hc) (fun b o _ _ hc e n => u.any e n hc) (fun b o hc e n => u.free b o e n hc) (fun b o hc e => u.there b o e hc) u.tups u.frzs u.tbls (fun m' hm => by
    obtain ⟨o', es', ep', ho', r'⟩ := hm
    rw [ho] at ho'; cases ho'
    exact ⟨_, es', ep', hL, r'⟩) hok hg
theorem Inv.turned {t' : Nat} {it : Addr} (I : Inv X pins σ H s) (k : ∀ b o, b ≠ it → s.heap.get? b = some o → h'.get? b = some o) (hn : H it = none) (hL : it ≠ X.env.locals)
    (h1 : it ∈ X.ex ∨ X.s₀.heap.objs.size ≤ it) (h2 : ∀ x c, X.env.cells.lookup x = some c → c ≠ it) (h3 : ∀ p ∈ X.pn ++ pins, p.1 ≠ it) : Inv X pins σ H { s with heap := h', toks := t' } := by
  have nit : ∀ b u, H b = some u → b ≠ it := fun b u e z => by rw [z, hn] at e; cases e
  refine I.step (g' := s.gens) (d' := s.drawn) (ch := [it]) (fun b hb => ?_) (fun b o _ _ hc e _ => k b o (fun z => hc (by simp [z])) e) (fun b o _ _ hc e _ => ⟨o.slots, k b o (fun z => hc (by simp [z])) e⟩) (fun _ _ _ _ n => n)
    (fun b o hc e => ⟨o, k b o (fun z => hc (by simp [z])) e⟩) (fun _ _ e => e) (fun _ _ _ e => e) (fun b ps e => ⟨#[], by rw [e]; simp⟩) (fun m hm => ?_) (fun b u e => ?_) I.bare
  · have e : b = it := by simpa using hb
    subst e
    exact ⟨h1, hL, h2, h3⟩
  · obtain ⟨o, es, ep, ho, r⟩ := hm
    exact ⟨o, es, ep, k _ o (Ne.symm hL) ho, r⟩
  · refine (I.hok b u e).stay (fun c v hc q => k c v ?_ q) (fun _ q => q) fun _ _ q => q
    rcases hc with z | z
    · rw [z]; exact nit b u e
    · exact nit c _ z
theorem Inv.tok (I : Inv X pins σ H s) (t : Nat) : Inv X pins σ H { s with toks := t } := I.un (h' := s.heap) (t' := t) Un.refl I.hok
theorem Inv.kept {t' : Nat} (I : Inv X pins σ H s) (k : ∀ b u, s.heap.get? b = some u → h'.get? b = some u) : Inv X pins σ H { s with heap := h', toks := t' } := I.un (Un.kept k) (I.hok.kept k)
theorem Inv.laid {a : Addr} {o : HO} {t' : Nat} (I : Inv X pins σ H s) (k : ∀ b u, s.heap.get? b = some u → h'.get? b = some u) (hp : s.heap.objs.size ≤ a) (new : ObjOk X.prog X.w (upd H a o) h' a o) :
    Inv X pins σ (upd H a o) { s with heap := h', toks := t' } := I.un (Un.laid k hp (I.hok.fresh hp)) (I.hok.laid k hp new)
theorem Inv.write {x e : Addr} {o : HO} {t' : Nat} (I : Inv X pins σ H s) (mu : Mut (H x)) (he : e = x ∨ H e = some (.own x)) (k : ∀ b u, b ≠ e → s.heap.get? b = some u → h'.get? b = some u) (heo : ∃ u, h'.get? e = some u)
    (new : ObjOk X.prog X.w (upd H x o) h' x o) : Inv X pins σ (upd H x o) { s with heap := h', toks := t' } := I.un (Un.write mu he k heo) (I.hok.write mu he k heo new)
theorem Inv.weak {σ' : List (Option V)} (I : Inv X pins σ H s) (hl : σ'.length = σ.length) (w : ∀ (i : Nat) v, σ'[i]? = some (some v) → σ[i]? = some (some v)) : Inv X pins σ' H s :=
  ⟨I.ok, I.os, I.bare, I.base, let ⟨m, hn, hl'⟩ := I.loc; ⟨m, hn, fun i x v e1 e2 e3 => hl' i x v e1 (w i v e2) e3⟩, I.cell, I.free, I.freeC, I.pin, I.hok, hl.trans I.len⟩
theorem Inv.pins_of {pins' : List (Addr × Obj)} (I : Inv X pins σ H s) (h : ∀ p ∈ pins', s.heap.get? p.1 = some p.2 ∧ H p.1 = none ∧ p.1 ≠ X.env.locals ∧ p.1 ∉ X.fs ∧ ∀ v, p.2.data ≠ .cell v) : Inv X pins' σ H s :=
  ⟨I.ok, I.os, I.bare, I.base, I.loc, I.cell, I.free, I.freeC, fun p hp => (List.mem_append.mp hp).elim (fun z => I.pin p (List.mem_append_left _ z)) (h p), I.hok, I.len⟩
theorem nodup_ix {N : List Str} (hN : N.Nodup) {i j : Nat} {x : Str} (a : N[i]? = some x) (b : N[j]? = some x) : i = j := by
  obtain ⟨h1, e1⟩ := List.getElem?_eq_some_iff.mp a
  obtain ⟨h2, e2⟩ := List.getElem?_eq_some_iff.mp b
  exact (List.getElem_inj hN).mp (e1.trans e2.symm)
theorem store_ok2 {M : Model} {A : Around} {E : Value → Shared → Prop} {i : Nat} {x : Str} {v : V} {u : Value} {Q : Unit → Shared → Prop} (I : Inv X pins σ H s) (hN : X.N.Nodup) (hi : X.N[i]? = some x) (hx : Loc X.env.scope x) (r : RelV v u)
    (h : ∀ s', Inv X pins (σ.set i (some v)) H s' → (∃ a, Heap.SameBut a s.heap s'.heap ∧ (a = X.env.locals ∨ X.env.cells.lookup x = some a)) → Q () s') (hf : X.fn x = true ∨ X.env.scope.names.lookup x = some .local := by first | exact .inl rfl | exact .inr rfl | assumption) : wpAny M A (storeName X.env x u) Q E s := by
  obtain ⟨m, hn, hl⟩ := id I.loc
  have hcls : (X.env.scope.kind == .class || (X.env.scope.kind == .module && X.env.locals != X.env.globals)) = false := by rw [I.ok.kind]; rfl
  have hiσ : i < σ.length := by rw [I.len]; exact (List.getElem?_eq_some_iff.mp hi).1
  have cne := I.cne
  have tracked : ∀ {a : Addr} {h' : Heap}, (∃ o, s.heap.get? a = some o ∧ H a = none) → Heap.SameBut a s.heap h' → HOk X.prog X.w H h' := fun {a h'} ha hs b ob e => by
    obtain ⟨_, _, hfree⟩ := ha
    refine (I.hok b ob e).stay (fun c w' hc q => (hs.2 c ?_).trans q) (fun _ q => q) fun _ _ q => q
    rintro rfl
    rcases hc with rfl | hc
    · rw [hfree] at e; cases e
    · rw [hfree] at hc; cases hc
  rcases hx with hk | hk
  · refine wpAny_storeName_local hk hn (fun h' hn' hs => ?_) hcls
    obtain ⟨oL, _, _, hoL, _⟩ := id hn
    refine h _ ⟨I.ok, I.os, I.bare, ⟨fun b o e n hb hx => ?_, fun b o e n hb hx => ?_, I.base.free, fun b o e hx => ?_, I.base.tups, I.base.frzs, I.base.tbls⟩, ⟨_, hn', fun j y v' e1 e2 e3 => ?_⟩, fun y c e => ?_, I.free, I.freeC, fun p hp => ?_, tracked ⟨oL, hoL, I.free⟩ hs, by simpa using I.len⟩ ⟨_, hs, .inl rfl⟩
    · exact (hs.2 b (Nat.ne_of_lt (Nat.lt_of_lt_of_le (Heap.lt_size e) I.ok.above))).trans (I.base.keep b o e n hb hx)
    · obtain ⟨sl, e1⟩ := I.base.slot b o e n hb hx
      exact ⟨sl, (hs.2 b (Nat.ne_of_lt (Nat.lt_of_lt_of_le (Heap.lt_size e) I.ok.above))).trans e1⟩
    · obtain ⟨o', e1⟩ := I.base.there b o e hx
      exact ⟨o', (hs.2 b (Nat.ne_of_lt (Nat.lt_of_lt_of_le (Heap.lt_size e) I.ok.above))).trans e1⟩
    · by_cases hj : j = i
      · subst hj
        rw [hi] at e1; cases e1
        rw [List.getElem?_set_self hiσ] at e2
        cases e2
        exact ⟨u, r, .inl ⟨hk, by simp⟩⟩
      · rw [List.getElem?_set_ne (Ne.symm hj)] at e2
        obtain ⟨u', r', q⟩ := hl j y v' e1 e2 e3
        refine ⟨u', r', ?_⟩
        rcases q with ⟨k, e⟩ | ⟨k, c, e, z⟩
        · refine .inl ⟨k, ?_⟩
          have : y ≠ x := fun e => hj (nodup_ix hN e1 (e ▸ hi))
          simp [this, e]
        · exact .inr ⟨k, c, e, z.sameBut hs (cne y c e)⟩
    · obtain ⟨w', z⟩ := I.cell y c e
      exact ⟨w', z.sameBut hs (cne y c e)⟩
    · obtain ⟨e, n, ne, nf, d⟩ := I.pin p hp
      exact ⟨(hs.2 p.1 ne).trans e, n, ne, nf, d⟩
  · have hfn : X.fn x = true := by
      rcases hf with z | z
      · exact z
      · rw [z] at hk; cases hk
    obtain ⟨c, hc⟩ := I.ok.has x (.inl hk)
    obtain ⟨w', z⟩ := I.cell x c hc
    refine wpAny_storeName_cell I.ok.kind hk hc z (fun h' hc' hs => ?_)
    obtain ⟨oc, hoc, hocd⟩ := id z
    refine h { s with heap := h' } ⟨I.ok, I.os, I.bare, ⟨fun b o e n hb hx => ?_, fun b o e n hb hx => ?_, I.base.free, fun b o e hx => ?_, I.base.tups, I.base.frzs, I.base.tbls⟩, ⟨m, hn.sameBut hs (Ne.symm (cne x c hc)), fun j y v' e1 e2 e3 => ?_⟩, fun y c' e => ?_, I.free, I.freeC, fun p hp => ?_, tracked ⟨oc, hoc, I.freeC x c hc⟩ hs, by simpa using I.len⟩ ⟨c, hs, .inr hc⟩
    · exact (hs.2 b (Nat.ne_of_lt (Nat.lt_of_lt_of_le (Heap.lt_size e) (I.ok.cab x c hfn hc)))).trans (I.base.keep b o e n hb hx)
    · obtain ⟨sl, e1⟩ := I.base.slot b o e n hb hx
      exact ⟨sl, (hs.2 b (Nat.ne_of_lt (Nat.lt_of_lt_of_le (Heap.lt_size e) (I.ok.cab x c hfn hc)))).trans e1⟩
    · obtain ⟨o', e1⟩ := I.base.there b o e hx
      exact ⟨o', (hs.2 b (Nat.ne_of_lt (Nat.lt_of_lt_of_le (Heap.lt_size e) (I.ok.cab x c hfn hc)))).trans e1⟩
    · by_cases hj : j = i
      · subst hj
        rw [hi] at e1; cases e1
        rw [List.getElem?_set_self hiσ] at e2
        cases e2
        exact ⟨u, r, .inr ⟨.inl hk, c, hc, hc'⟩⟩
      · rw [List.getElem?_set_ne (Ne.symm hj)] at e2
        obtain ⟨u', r', q⟩ := hl j y v' e1 e2 e3
        refine ⟨u', r', ?_⟩
        rcases q with q | ⟨k, c', e, z'⟩
        · exact .inl q
        · refine .inr ⟨k, c', e, z'.sameBut hs ?_⟩
          rintro rfl
          exact hj (nodup_ix hN e1 (I.ok.inj _ _ _ e hc ▸ hi))
    · by_cases hcc : c' = c
      · subst hcc; exact ⟨_, hc'⟩
      · obtain ⟨w2, z2⟩ := I.cell y c' e
        exact ⟨w2, z2.sameBut hs hcc⟩
    · obtain ⟨e, n, ne, nf, d⟩ := I.pin p hp
      refine ⟨(hs.2 p.1 ?_).trans e, n, ne, nf, d⟩
      intro q
      rw [q, hoc] at e
      have q' : oc = p.2 := Option.some.inj e
      exact d w' (by rw [← q']; exact hocd)
theorem store_ok {M : Model} {A : Around} {E : Value → Shared → Prop} {i : Nat} {x : Str} {v : V} {u : Value} {Q : Unit → Shared → Prop} (I : Inv X pins σ H s) (hN : X.N.Nodup) (hi : X.N[i]? = some x) (hx : Loc X.env.scope x) (r : RelV v u)
    (h : ∀ s', Inv X pins (σ.set i (some v)) H s' → Q () s') (hf : X.fn x = true ∨ X.env.scope.names.lookup x = some .local := by first | exact .inl rfl | exact .inr rfl | assumption) : wpAny M A (storeName X.env x u) Q E s :=
  store_ok2 I hN hi hx r (fun s' I' _ => h s' I') hf
theorem Inv.call' {s' : Shared} {ch : List Addr} (I : Inv X pins σ H s) (ho : s'.os = s.os) (u : Un (frs X.stack) ch H H' s.heap s'.heap) (hok : HOk X.prog X.w H' s'.heap) (hg : AllBare s'.gens)
    (hch : ∀ b ∈ ch, (b ∈ X.ex ∨ X.s₀.heap.objs.size ≤ b) ∧ b ≠ X.env.locals ∧ (∀ x c, X.env.cells.lookup x = some c → c ≠ b) ∧ ∀ p ∈ X.pn ++ pins, p.1 ≠ b) : Inv X pins σ H' s' := by
  obtain ⟨h', g', d', t', o'⟩ := s'
  have e : o' = s.os := ho
  subst e
  exact I.call (g' := g') (t' := t') (d' := d') u hok hg hch
end
abbrev XK := Value → Option Addr → Hp → Prop
abbrev St := List (Option V)
abbrev VK := V → Hp → Prop
abbrev TE := St → Hp → VK → Prop
abbrev TT := St → Hp → (Bool → Hp → Prop) → Prop
abbrev TA := St → Hp → (List V → Hp → Prop) → Prop
structure Ends where
  nx : St → Hp → Prop
  rt : VK
  bk : St → Hp → Prop := fun _ _ => False
  ct : St → Hp → Prop := fun _ _ => False
abbrev TS := Ends → St → Hp → Prop
def EP (X : Cx) (pins : List (Addr × Obj)) (σ : St) (Q : VK) (u : Value) (s' : Shared) : Prop := ∃ v H', Inv X pins σ H' s' ∧ RelV v u ∧ Q v H'
def TP (X : Cx) (pins : List (Addr × Obj)) (σ : St) (Q : Bool → Hp → Prop) (b : Bool) (s' : Shared) : Prop := ∃ H', Inv X pins σ H' s' ∧ Q b H'
def AP (X : Cx) (pins : List (Addr × Obj)) (σ : St) (Q : List V → Hp → Prop) (us : List Value) (s' : Shared) : Prop := ∃ vs H', Inv X pins σ H' s' ∧ Vals vs us ∧ Q vs H'
def SP (X : Cx) (pins : List (Addr × Obj)) (D : Ends) (f : Flow) (s' : Shared) : Prop :=
  match f with
  | .next => ∃ σ' H', Inv X pins σ' H' s' ∧ D.nx σ' H'
  | .brk => ∃ σ' H', Inv X pins σ' H' s' ∧ D.bk σ' H'
  | .cont => ∃ σ' H', Inv X pins σ' H' s' ∧ D.ct σ' H'
  | .ret u => ∃ v σ' H', Inv X pins σ' H' s' ∧ RelV v u ∧ D.rt v H'
def PE (X : Cx) (e : Expr) (t : TE) : Prop :=
  ∀ (pins : List (Addr × Obj)) (s : Shared) (σ : St) (H : Hp) (Q : VK), Inv X pins σ H s → t σ H Q → wpAny (model X.prog X.w) X.A (eval e X.env) (EP X pins σ Q) X.xe s
def PT (X : Cx) (e : Expr) (t : TT) : Prop :=
  ∀ (pins : List (Addr × Obj)) (s : Shared) (σ : St) (H : Hp) (Q : Bool → Hp → Prop), Inv X pins σ H s → t σ H Q → wpAny (model X.prog X.w) X.A (isTrue e X.env (eval e X.env)) (TP X pins σ Q) X.xe s
def PW (X : Cx) (e : Expr) (t : TT) : Prop :=
  ∀ (whole : Sem Value) (pins : List (Addr × Obj)) (s : Shared) (σ : St) (H : Hp) (Q : Bool → Hp → Prop), Inv X pins σ H s → t σ H Q → wpAny (model X.prog X.w) X.A (isTrue e X.env whole) (TP X pins σ Q) X.xe s
theorem PW.pt {X : Cx} {e : Expr} {t : TT} (h : PW X e t) : PT X e t := h _
def PA (X : Cx) (es : List Expr) (t : TA) : Prop :=
  ∀ (pos : Pos) (pins : List (Addr × Obj)) (s : Shared) (σ : St) (H : Hp) (Q : List V → Hp → Prop), Inv X pins σ H s → t σ H Q → wpAny (model X.prog X.w) X.A (spliced (backTo pos (starEach es X.env))) (AP X pins σ Q) X.xe s
def PS (X : Cx) (st : Stmt) (t : TS) : Prop :=
  ∀ (pins : List (Addr × Obj)) (s : Shared) (σ : St) (H : Hp) (D : Ends), Inv X pins σ H s → t D σ H → wpAny (model X.prog X.w) X.A (exec st X.env) (SP X pins D) X.xe s
def PSs (X : Cx) (st : List Stmt) (t : TS) : Prop :=
  ∀ (pins : List (Addr × Obj)) (s : Shared) (σ : St) (H : Hp) (D : Ends), Inv X pins σ H s → t D σ H → wpAny (model X.prog X.w) X.A (execs st X.env) (SP X pins D) X.xe s
theorem thn {α : Type} {t : Sem α} {Q Q' : α → Shared → Prop} {M : Model} {A : Around} {E : Value → Shared → Prop} {s : Shared} (h : wpAny M A t Q E s) (hQ : ∀ a s, Q a s → Q' a s) : wpAny M A t Q' E s := wpAny_mono h hQ fun _ _ x => x
end L2
namespace L2
open PySem PySem.Spec PyProof.Rows
section
variable {X : Cx}
def tVar (i : Nat) : TE := fun σ H Q => ∃ v, σ[i]? = some (some v) ∧ Q v H
def tC (v : V) : TE := fun _ H Q => Q v H
theorem pe_var {i : Nat} {x : Str} {pos : Pos} (hN : X.N[i]? = some x) (hv : Vis X.env.scope x) (hd : (x == ("__debug__" : Str)) = false := by decide) (hcd : (x == ("__classdict__" : Str)) = false := by decide) : PE X (.Name x pos) (tVar i) := by
  intro pins s σ H Q I h
  obtain ⟨v, e, h⟩ := h
  obtain ⟨m, hn, hl⟩ := I.loc
  obtain ⟨u, r, l⟩ := hl i x v hN e hv
  have fin : EP X pins σ Q u s := ⟨v, H, I, r, h⟩
  rcases l with ⟨hk, hm⟩ | ⟨hk, c, hc, hcell⟩
  · exact wpAny_Name (wpAny_loadName_local I.ok.kind hk hn hm fin) hd
  · rcases hk with hk | hk
    · exact wpAny_Name (wpAny_loadName_cell I.ok.kind hk hc hcell fin) hd
    · exact wpAny_Name (wpAny_loadName_free I.ok.kind hk hc hcell fin hcd) hd
theorem pe_int {i j pos} : PE X (.Constant (.int i) j pos) (tC (.int i)) := fun _ _ _ H _ I h => wpAny_Constant_int ⟨.int i, H, I.tok _, ⟨_, rfl⟩, h⟩
theorem pe_bl {b j pos} : PE X (.Constant (.bool b) j pos) (tC (.bl b)) := fun _ _ _ H _ I h => Constant_bool ⟨.bl b, H, I, rfl, h⟩
theorem pe_non {j pos} : PE X (.Constant .none j pos) (tC .non) := fun _ _ _ H _ I h => Constant_none ⟨.non, H, I, rfl, h⟩
theorem pe_str {x j pos} : PE X (.Constant (.str x) j pos) (tC (.str x)) := fun _ _ _ H _ I h => Calls.Constant_str ⟨.str x, H, I.tok _, ⟨_, rfl⟩, h⟩
def Gl (X : Cx) (x : Str) : Prop := X.env.kindOf x = some .globalImplicit
theorem ld_glob {E : Value → Shared → Prop} {pins : List (Addr × Obj)} {s : Shared} {σ : St} {H : Hp} {x : Str} {u : Value} {pos : Pos} {Q : Value → Shared → Prop} (I : Inv X pins σ H s) (hg : Gl X x) (hm : X.mg x = some u) (h : Q u s)
    (hd : (x == ("__debug__" : Str)) = false := by decide) : wpAny (model X.prog X.w) X.A (eval (.Name x pos) X.env) Q E s :=
  Calls.Name_function_global I.ok.kind hg (Calls.loadGlobal_global (by rw [I.ok.glob]; exact I.mod.glob.keeps I.bk) hm h) hd
theorem ld_blt {E : Value → Shared → Prop} {pins : List (Addr × Obj)} {s : Shared} {σ : St} {H : Hp} {x : Str} {u : Value} {pos : Pos} {Q : Value → Shared → Prop} (I : Inv X pins σ H s) (hg : Gl X x) (hm : X.mg x = none) (hv : bootBuiltins x = some u) (h : Q u s)
    (hn : x ≠ "__name__" := by decide) (hd : (x == ("__debug__" : Str)) = false := by decide) : wpAny (model X.prog X.w) X.A (eval (.Name x pos) X.env) Q E s := by
  obtain ⟨mb, h1, h2⟩ := I.mod.blt
  exact Calls.Name_function_global I.ok.kind hg (Calls.loadGlobal_builtin (by rw [I.ok.glob]; exact I.mod.glob.keeps I.bk) hm (by rw [I.ok.blt]; exact h1.keeps I.bk) ((h2 x hn).trans hv) h) hd
theorem pe_glob {x : Str} {v : V} {u : Value} {pos : Pos} (hg : Gl X x) (hm : X.mg x = some u) (r : RelV v u) (hd : (x == ("__debug__" : Str)) = false := by decide) : PE X (.Name x pos) (tC v) :=
  fun _ _ _ H _ I h => ld_glob I hg hm ⟨v, H, I, r, h⟩ hd
theorem pe_bltn {x : Str} {v : V} {u : Value} {pos : Pos} (hg : Gl X x) (hm : X.mg x = none) (hv : bootBuiltins x = some u) (r : RelV v u) (hn : x ≠ "__name__" := by decide) (hd : (x == ("__debug__" : Str)) = false := by decide) : PE X (.Name x pos) (tC v) :=
  fun _ _ _ H _ I h => ld_blt I hg hm hv ⟨v, H, I, r, h⟩ hn hd
variable {a b : Expr} {ta tb : TE} {pos : Pos}
def PC (X : Cx) (op : CmpOp) (a b : Expr) (t : TE) : Prop :=
  ∀ (pins : List (Addr × Obj)) (s : Shared) (σ : St) (H : Hp) (Q : VK), Inv X pins σ H s → t σ H Q →
    wpAny (model X.prog X.w) X.A (eval a X.env) (fun v s₁ => wpAny (model X.prog X.w) X.A (eval b X.env) (fun u s₂ => wpAny (model X.prog X.w) X.A (compareOp op v u) (EP X pins σ Q) X.xe s₂) X.xe s₁) X.xe s
theorem nobehind (b : Expr) {op : CmpOp} (h : op ≠ .In) (h2 : op ≠ .NotIn) : behindInMarks op b = false := by
  have e1 : (op == CmpOp.In) = false := by cases op <;> first | rfl | exact absurd rfl h
  have e2 : (op == CmpOp.NotIn) = false := by cases op <;> first | rfl | exact absurd rfl h2
  cases b <;> simp [behindInMarks, e1, e2]
def tIsN (ta : TE) : TE := fun σ H Q => ta σ H fun x H1 => Q (.bl (decide (x = .non))) H1
def tNotN (ta : TE) : TE := fun σ H Q => ta σ H fun x H1 => Q (.bl (!decide (x = .non))) H1
theorem RelV.none_iff {x : V} {v : Value} (r : RelV x v) : (v == Value.none) = decide (x = .non) := by
  cases x with
  | non => cases r; rfl
  | bl _ => cases r; rfl
  | int _ => obtain ⟨t, rfl⟩ := r; rfl
  | str _ => obtain ⟨t, rfl⟩ := r; rfl
  | byt _ => obtain ⟨t, rfl⟩ := r; rfl
  | flt _ => obtain ⟨t, rfl⟩ := r; rfl
  | ref _ => cases r; rfl
  | ty _ => cases r; rfl
theorem pc_isN {j pos'} (ha : PE X a ta) : PC X .Is a (.Constant .none j pos') (tIsN ta) := by
  intro pins s σ H Q I h
  refine thn (ha pins s σ H _ I h) fun v s1 ⟨x, H1, I1, r1, q1⟩ => ?_
  exact Constant_none (is_none_gen ⟨.bl _, H1, I1, by rw [r1.none_iff]; rfl, q1⟩)
def tB (t : TE) : TT := fun σ H Q => t σ H fun x H1 => ∃ c, x = .bl c ∧ Q c H1
theorem pe_cmp {op : CmpOp} {t : TE} (h : PC X op a b t) (h1 : behindInMarks op b = false := by first | exact nobehind _ (by decide) (by decide) | rfl) : PE X (.Compare a [op] [b] pos) t := fun pins s σ H Q I hw => wpAny_Compare1 (h pins s σ H Q I hw) h1
theorem pt_cmp {op : CmpOp} {t : TE} (h : PC X op a b t) (h1 : behindInMarks op b = false := by first | exact nobehind _ (by decide) (by decide) | rfl) : PT X (.Compare a [op] [b] pos) (tB t) := by
  intro pins s σ H Q I hw
  refine wpAny_isTrue_Compare1 (thn (h pins s σ H _ I hw) fun v s1 h1 => thn h1 fun u s2 h2 => thn h2 fun c s3 ⟨x, H1, I1, r1, q1⟩ => ?_) h1
  obtain ⟨d, rfl, q⟩ := q1
  cases r1
  exact wpAny_truthy_bool ⟨H1, I1, q⟩
theorem pt_val {e : Expr} {t : TE} (h : PE X e t) (he : ∀ whole, isTrue e X.env whole = (do let v ← whole; standAt e.pos; holding [v] (truthy v)) := by intro _; rfl) : PT X e (tB t) := by
  intro pins s σ H Q I hw
  refine isTrue_plain (thn (h pins s σ H _ I hw) fun v s1 ⟨x, H1, I1, r1, q1⟩ => ?_) (he _)
  obtain ⟨d, rfl, q⟩ := q1
  cases r1
  exact wpAny_truthy_bool ⟨H1, I1, q⟩
variable {tA tB' : TT} {rest : List Expr}
def tAnd (t u : TT) : TT := fun σ H Q => t σ H fun c H1 => if c = true then u σ H1 Q else Q false H1
def tOr (t u : TT) : TT := fun σ H Q => t σ H fun c H1 => if c = true then Q true H1 else u σ H1 Q
def tNot (t : TT) : TT := fun σ H Q => t σ H fun c H1 => Q (!c) H1
theorem pw_and1 (ha : PT X a tA) : PW X (.BoolOp .And [a] pos) tA := by
  intro wh pins s σ H Q I h
  refine isTrue_and (thn (ha pins s σ H Q I h) fun c s1 e => ?_)
  cases c with
  | true => exact isTrue_and_nil e
  | false => exact e
theorem pw_or1 (ha : PT X a tA) : PW X (.BoolOp .Or [a] pos) tA := by
  intro wh pins s σ H Q I h
  refine isTrue_or (thn (ha pins s σ H Q I h) fun c s1 e => ?_)
  cases c with
  | false => exact isTrue_or_nil e
  | true => exact e
theorem pw_and (ha : PT X a tA) (hb : PW X (.BoolOp .And (b :: rest) pos) tB') : PW X (.BoolOp .And (a :: b :: rest) pos) (tAnd tA tB') := by
  intro wh pins s σ H Q I h
  refine isTrue_and (thn (ha pins s σ H _ I h) fun c s1 ⟨H1, I1, q1⟩ => ?_)
  cases c with
  | true => exact hb wh pins s1 σ H1 Q I1 q1
  | false => exact ⟨H1, I1, q1⟩
theorem pw_or (ha : PT X a tA) (hb : PW X (.BoolOp .Or (b :: rest) pos) tB') : PW X (.BoolOp .Or (a :: b :: rest) pos) (tOr tA tB') := by
  intro wh pins s σ H Q I h
  refine isTrue_or (thn (ha pins s σ H _ I h) fun c s1 ⟨H1, I1, q1⟩ => ?_)
  cases c with
  | true => exact ⟨H1, I1, q1⟩
  | false => exact hb wh pins s1 σ H1 Q I1 q1
theorem pt_not (ha : PT X a tA) : PT X (.UnaryOp .Not a pos) (tNot tA) := by
  intro pins s σ H Q I h
  exact isTrue_not (ha pins s σ H (fun c H1 => Q (!c) H1) I h)
def tAndV (ta tb : TE) : TE := fun σ H Q => ta σ H fun x H1 => ∃ c, x = .bl c ∧ if c = true then tb σ H1 Q else Q (.bl false) H1
def tOrV (ta tb : TE) : TE := fun σ H Q => ta σ H fun x H1 => ∃ c, x = .bl c ∧ if c = true then Q (.bl true) H1 else tb σ H1 Q
def tNotV (ta : TE) : TE := fun σ H Q => ta σ H fun x H1 => ∃ c, x = .bl c ∧ Q (.bl (!c)) H1
theorem pe_one {op} {t : TE} (h : PE X a t) : PE X (.BoolOp op [a] pos) t := fun pins s σ H Q I hw => BoolOp_one (h pins s σ H Q I hw)
theorem pe_and (ha : PE X a ta) (hb : PE X (.BoolOp .And (b :: rest) pos) tb) : PE X (.BoolOp .And (a :: b :: rest) pos) (tAndV ta tb) := by
  intro pins s σ H Q I h
  refine BoolOp_and (thn (ha pins s σ H _ I h) fun v s1 ⟨x, H1, I1, r1, q1⟩ => ?_)
  obtain ⟨c, rfl, q1⟩ := q1
  cases r1
  refine wpAny_truthy_bool ?_
  cases c with
  | true => exact hb pins s1 σ H1 Q I1 q1
  | false => exact ⟨.bl false, H1, I1, rfl, q1⟩
theorem pe_or (ha : PE X a ta) (hb : PE X (.BoolOp .Or (b :: rest) pos) tb) : PE X (.BoolOp .Or (a :: b :: rest) pos) (tOrV ta tb) := by
  intro pins s σ H Q I h
  refine BoolOp_or (thn (ha pins s σ H _ I h) fun v s1 ⟨x, H1, I1, r1, q1⟩ => ?_)
  obtain ⟨c, rfl, q1⟩ := q1
  cases r1
  refine wpAny_truthy_bool ?_
  cases c with
  | false => exact hb pins s1 σ H1 Q I1 q1
  | true => exact ⟨.bl true, H1, I1, rfl, q1⟩
theorem pe_not (ha : PE X a ta) : PE X (.UnaryOp .Not a pos) (tNotV ta) := by
  intro pins s σ H Q I h
  refine UnaryOp_ (thn (ha pins s σ H _ I h) fun v s1 ⟨x, H1, I1, r1, q1⟩ => ?_)
  obtain ⟨c, rfl, q1⟩ := q1
  cases r1
  exact not_of (wpAny_truthy_bool ⟨.bl (!c), H1, I1, rfl, q1⟩)
def tIf (t : TT) (ta tb : TE) : TE := fun σ H Q => t σ H fun c H1 => if c = true then ta σ H1 Q else tb σ H1 Q
theorem pe_ifExp {c : Expr} (hc : PT X c tA) (ha : PE X a ta) (hb : PE X b tb) : PE X (.IfExp c a b pos) (tIf tA ta tb) := by
  intro pins s σ H Q I h
  refine wpAny_IfExp (thn (hc pins s σ H _ I h) fun d s1 ⟨H1, I1, q1⟩ => ?_)
  cases d with
  | true => exact ha pins s1 σ H1 Q I1 q1
  | false => exact hb pins s1 σ H1 Q I1 q1
end
end L2
namespace L2
open PySem PySem.Spec PyProof.Rows
def SqL (K : PySem.W.Frag) (H : Hp) (a : Addr) (xs : List V) : Prop :=
  Rd H a (.lst xs) ∨
    ∃ (o : Obj) (its : Array Value) (n : Nat), K.lookup a = some o ∧ o.cls = .type "list" ∧ o.dict = none ∧ o.data = .seq its n ∧ its.size ≤ sizeLine ∧ Vals xs its.toList
def SqT (K : PySem.W.Frag) (H : Hp) (a : Addr) (xs : List V) : Prop :=
  Rd H a (.tup xs) ∨
    ∃ (o : Obj) (its : Array Value) (n : Nat), K.lookup a = some o ∧ o.cls = .type "tuple" ∧ o.data = .seq its n ∧ its.size ≤ sizeLine ∧ Vals xs its.toList
def absV : Value → Option V
  | .none => some .non
  | .bool b => some (.bl b)
  | .int i _ => some (.int i)
  | .str x _ => some (.str x)
  | .bytes b _ => some (.byt b)
  | .float b _ => some (.flt b)
  | .ref a => some (.ref a)
  | .type n => some (.ty n)
  | _ => none
theorem RelV.abs {x : V} {u : Value} (r : RelV x u) : absV u = some x := by
  cases x with
  | non => cases r; rfl
  | bl _ => cases r; rfl
  | int _ => obtain ⟨t, rfl⟩ := r; rfl
  | str _ => obtain ⟨t, rfl⟩ := r; rfl
  | byt _ => obtain ⟨t, rfl⟩ := r; rfl
  | flt _ => obtain ⟨t, rfl⟩ := r; rfl
  | ref _ => cases r; rfl
  | ty _ => cases r; rfl
theorem RelV.inj {x y : V} {u : Value} (r : RelV x u) (q : RelV y u) : x = y := Option.some.inj (r.abs.symm.trans q.abs)
theorem Vals.inj : ∀ {xs ys : List V} {us : List Value}, Vals xs us → Vals ys us → xs = ys
  | _, _, _, .nil, .nil => rfl
  | _, _, _, .cons r t, .cons r' t' => by rw [r.inj r', Vals.inj t t']
section
variable {X : Cx} {pins : List (Addr × Obj)} {σ : St} {H : Hp} {s : Shared} {a : Addr} {xs ys : List V}
theorem SqL.of {K : PySem.W.Frag} (h : H a = some (.lst xs)) : SqL K H a xs := .inl (.inl h)
theorem SqT.of {K : PySem.W.Frag} (h : H a = some (.tup xs)) : SqT K H a xs := .inl (.inl h)
theorem Inv.list (I : Inv X pins σ H s) (h : SqL X.K H a xs) : ∃ its : List Value, Vals xs its ∧ PlainL s.heap a its.toArray ∧ xs.length ≤ sizeLine := by
  rcases h with h | ⟨o, its, n, hk, hc, hd, hs, hz, r⟩
  · obtain ⟨z, its, n, r, e⟩ := h.ok I.hok
    exact ⟨its, r, ⟨_, n, e, rfl, rfl, rfl⟩, z⟩
  · refine ⟨its.toList, r, ⟨o, n, I.kIn a o hk, hc, hd, by simpa using hs⟩, ?_⟩
    have e := r.length
    simp only [Array.length_toList] at e
    omega
theorem Inv.tuple (I : Inv X pins σ H s) (h : SqT X.K H a xs) : ∃ its : List Value, Vals xs its ∧ IsTup s.heap a its.toArray ∧ xs.length ≤ sizeLine := by
  rcases h with h | ⟨o, its, n, hk, hc, hs, hz, r⟩
  · obtain ⟨z, its, r, p⟩ := h.ok I.hok
    exact ⟨its, r, p, z⟩
  · refine ⟨its.toList, r, ⟨o, I.kIn a o hk, hc, n, by simpa using hs⟩, ?_⟩
    have e := r.length
    simp only [Array.length_toList] at e
    omega
theorem Inv.list_inj (I : Inv X pins σ H s) (h : SqL X.K H a xs) (h' : SqL X.K H a ys) : xs = ys := by
  obtain ⟨its, r, ⟨o, n, e, _, _, d⟩, _⟩ := I.list h
  obtain ⟨its', r', ⟨o', n', e', _, _, d'⟩, _⟩ := I.list h'
  rw [e] at e'; cases e'
  rw [d] at d'
  injection d' with d1 _
  have : its = its' := by simpa using congrArg Array.toList d1
  subst this
  exact r.inj r'
theorem Inv.tuple_inj (I : Inv X pins σ H s) (h : SqT X.K H a xs) (h' : SqT X.K H a ys) : xs = ys := by
  obtain ⟨its, r, ⟨o, e, _, n, d⟩, _⟩ := I.tuple h
  obtain ⟨its', r', ⟨o', e', _, n', d'⟩, _⟩ := I.tuple h'
  rw [e] at e'; cases e'
  rw [d] at d'
  injection d' with d1 _
  have : its = its' := by simpa using congrArg Array.toList d1
  subst this
  exact r.inj r'
end
abbrev Cx.wish (X : Cx) (E : Value → Shared → Prop) : Cx := { X with xe := E }
abbrev Cx.nox (X : Cx) : Cx := X.wish fun _ _ => False
theorem Cx.Ok.wish {X : Cx} (ok : X.Ok) (E : Value → Shared → Prop) : (X.wish E).Ok :=
  ⟨ok.mod, ok.kind, ok.glob, ok.blt, ok.above, ok.inj, ok.has, ok.cab, ok.hd, ok.frames, ok.stk, ok.exf, ok.bs, ok.bsz, ok.noex, ok.exfs, ok.funs, ok.frf⟩
theorem Cx.Ok.unwish {X : Cx} {E : Value → Shared → Prop} (ok : (X.wish E).Ok) : X.Ok :=
  ⟨ok.mod, ok.kind, ok.glob, ok.blt, ok.above, ok.inj, ok.has, ok.cab, ok.hd, ok.frames, ok.stk, ok.exf, ok.bs, ok.bsz, ok.noex, ok.exfs, ok.funs, ok.frf⟩
section
variable {X : Cx} {pins : List (Addr × Obj)} {σ : St} {H : Hp} {s : Shared} {E : Value → Shared → Prop}
theorem Inv.wish (I : Inv X pins σ H s) (E : Value → Shared → Prop) : Inv (X.wish E) pins σ H s := ⟨I.ok.wish E, I.os, I.bare, I.base, I.loc, I.cell, I.free, I.freeC, I.pin, I.hok, I.len⟩
theorem Inv.unwish (I : Inv (X.wish E) pins σ H s) : Inv X pins σ H s := ⟨I.ok.unwish, I.os, I.bare, I.base, I.loc, I.cell, I.free, I.freeC, I.pin, I.hok, I.len⟩
theorem SP.unwish {D : Ends} {f : Flow} {s' : Shared} (h : SP (X.wish E) pins D f s') : SP X pins D f s' := by
  cases f with
  | next => obtain ⟨σ', H', I, q⟩ := h; exact ⟨σ', H', I.unwish, q⟩
  | brk => obtain ⟨σ', H', I, q⟩ := h; exact ⟨σ', H', I.unwish, q⟩
  | cont => obtain ⟨σ', H', I, q⟩ := h; exact ⟨σ', H', I.unwish, q⟩
  | ret u => obtain ⟨v, σ', H', I, r, q⟩ := h; exact ⟨v, σ', H', I.unwish, r, q⟩
theorem PE.nox {e : Expr} {t : TE} (h : PE X.nox e t) : PE X e t := fun pins s σ H Q I hw =>
  wpAny_mono (h pins s σ H Q (I.wish _) hw) (fun _ _ ⟨v, H', I', r, q⟩ => ⟨v, H', I'.unwish, r, q⟩) fun _ _ z => False.elim z
theorem PT.nox {e : Expr} {t : TT} (h : PT X.nox e t) : PT X e t := fun pins s σ H Q I hw =>
  wpAny_mono (h pins s σ H Q (I.wish _) hw) (fun _ _ ⟨H', I', q⟩ => ⟨H', I'.unwish, q⟩) fun _ _ z => False.elim z
theorem PSs.nox {st : List Stmt} {t : TS} (h : PSs X.nox st t) : PSs X st t := fun pins s σ H D I hw =>
  wpAny_mono (h pins s σ H D (I.wish _) hw) (fun _ _ q => q.unwish) fun _ _ z => False.elim z
end
section
variable {X : Cx} {st : Stmt} {rest : List Stmt} {t u : TS} {e : Expr} {te : TE} {pos : Pos}
def tNext : TS := fun D σ H => D.nx σ H
def tSeq (t u : TS) : TS := fun D σ H => t { D with nx := u D } σ H
theorem pss_nil : PSs X [] tNext := fun _ _ σ H _ I h => wpAny_execs_nil ⟨σ, H, I, h⟩
theorem pss_cons (h1 : PS X st t) (h2 : PSs X rest u) : PSs X (st :: rest) (tSeq t u) := by
  intro pins s σ H D I h
  refine wpAny_execs_cons (thn (h1 pins s σ H { D with nx := u D } I h) fun f s1 q => ?_)
  cases f with
  | next =>
    obtain ⟨σ', H', I', q⟩ := q
    exact h2 pins s1 σ' H' D I' q
  | ret v => exact q
  | brk => exact q
  | cont => exact q
theorem pss_one (h1 : PS X st t) : PSs X [st] t := by
  intro pins s σ H D I h
  refine wpAny_execs_cons (thn (h1 pins s σ H D I h) fun f s1 q => ?_)
  cases f with
  | next => exact wpAny_execs_nil q
  | ret v => exact q
  | brk => exact q
  | cont => exact q
def tBreak : TS := fun D σ H => D.bk σ H
def tCont : TS := fun D σ H => D.ct σ H
theorem ps_break : PS X (.Break pos) tBreak := fun _ _ σ H _ I h => wpAny_Break ⟨σ, H, I, h⟩
theorem Inv.quiet {pins : List (Addr × Obj)} {σ : St} {H : Hp} {s : Shared} (I : Inv X pins σ H s) : interactive X.env = false := by simp [interactive, I.ok.kind]
def tDrop (te : TE) : TS := fun D σ H => te σ H fun _ H1 => D.nx σ H1
theorem ps_expr (he : PE X e te) (hs : swapsWith e none pos.line X.env = pure false := by rfl) : PS X (.Expr e pos) (tDrop te) := by
  intro pins s σ H D I h
  exact wpAny_Expr_any (thn (he pins s σ H _ I h) fun v s1 ⟨x, H1, I1, r1, q1⟩ => ⟨σ, H1, I1, q1⟩) I.quiet hs
def tRet (te : TE) : TS := fun D σ H => te σ H D.rt
theorem ps_ret (he : PE X e te) : PS X (.Return (some e) pos) (tRet te) := by
  intro pins s σ H D I h
  exact wpAny_Return_some (thn (he pins s σ H _ I h) fun v s1 ⟨x, H1, I1, r1, q1⟩ => ⟨x, σ, H1, I1, r1, q1⟩)
def tRetN : TS := fun D _ H => D.rt .non H
def tIfS (c : TT) (t u : TS) : TS := fun D σ H => c σ H fun b H1 => if b = true then t D σ H1 else u D σ H1
theorem ps_if {c : Expr} {a b : List Stmt} {tc : TT} (hc : PT X c tc) (ha : PSs X a t) (hb : PSs X b u) : PS X (.If c a b pos) (tIfS tc t u) := by
  intro pins s σ H D I h
  refine wpAny_If (thn (hc pins s σ H _ I h) fun d s1 ⟨H1, I1, q1⟩ => ?_)
  cases d with
  | true => exact ha pins s1 σ H1 D I1 q1
  | false => exact hb pins s1 σ H1 D I1 q1
def tNever : TS := fun _ _ _ => False
theorem ps_never : PS X st tNever := fun _ _ _ _ _ _ h => h.elim
end
abbrev TG := V → St → Hp → (St → Hp → Prop) → Prop
abbrev TGs := List V → St → Hp → (St → Hp → Prop) → Prop
def PG (X : Cx) (target : Expr) (t : TG) : Prop :=
  ∀ (pins : List (Addr × Obj)) (s : Shared) (σ : St) (H : Hp) (v : V) (u : Value) (Q : St → Hp → Prop), Inv X pins σ H s → RelV v u → t v σ H Q →
    wpAny (model X.prog X.w) X.A (assign target X.env u) (fun _ s' => ∃ σ' H', Inv X pins σ' H' s' ∧ Q σ' H') X.xe s
def PGs (X : Cx) (ts : List Expr) (t : TGs) : Prop :=
  ∀ (pins : List (Addr × Obj)) (s : Shared) (σ : St) (H : Hp) (vs : List V) (us : List Value) (Q : St → Hp → Prop), Inv X pins σ H s → Vals vs us → t vs σ H Q →
    wpAny (model X.prog X.w) X.A (assignInOrder ((assignEach ts X.env).map (·.2)) us) (fun _ s' => ∃ σ' H', Inv X pins σ' H' s' ∧ Q σ' H') X.xe s
abbrev TSet := V → V → V → Hp → (Hp → Prop) → Prop
def PSet (X : Cx) (t : TSet) : Prop :=
  ∀ (pins : List (Addr × Obj)) (s : Shared) (σ : St) (H : Hp) (o i v : V) (ov iv u : Value) (Q : Hp → Prop), Inv X pins σ H s → RelV o ov → RelV i iv → RelV v u → t o i v H Q →
    wpAny (model X.prog X.w) X.A (setItem ov iv u) (fun _ s' => ∃ H', Inv X pins σ H' s' ∧ Q H') X.xe s
abbrev TIp := V → V → Hp → VK → Prop
section
variable {X : Cx} {pos : Pos}
def gName (i : Nat) : TG := fun v σ H Q => Q (σ.set i (some v)) H
theorem pg_name {i : Nat} {x : Str} (hN : X.N.Nodup) (hi : X.N[i]? = some x) (hx : Loc X.env.scope x) (hf : X.fn x = true ∨ X.env.scope.names.lookup x = some .local := by first | exact .inl rfl | exact .inr rfl | assumption) : PG X (.Name x pos) (gName i) := by
  intro pins s σ H v u Q I r h
  exact wpAny_assign_Name (store_ok I hN hi hx r (fun s' I' => ⟨_, H, I', h⟩) hf)
def gNil : TGs := fun vs σ H Q => vs = [] ∧ Q σ H
def gCons (t : TG) (u : TGs) : TGs := fun vs σ H Q => ∃ v r, vs = v :: r ∧ t v σ H fun σ' H' => u r σ' H' Q
theorem pgs_nil : PGs X [] gNil := by
  intro pins s σ H vs us Q I r h
  obtain ⟨e, h⟩ := h
  subst e
  cases r
  exact assignInOrder_nil ⟨σ, H, I, h⟩
theorem pgs_cons {e : Expr} {es : List Expr} {t : TG} {u : TGs} (h1 : PG X e t) (h2 : PGs X es u)
    (hs : (assignEach (e :: es) X.env).map (·.2) = assign e X.env :: (assignEach es X.env).map (·.2) := by rfl) : PGs X (e :: es) (gCons t u) := by
  intro pins s σ H vs us Q I r h
  obtain ⟨v, vr, e1, h⟩ := h
  subst e1
  cases r with
  | cons r rr =>
    rw [hs]
    refine assignInOrder_cons (thn (h1 pins s σ H _ _ _ I r h) fun _ s1 ⟨σ1, H1, I1, q1⟩ => ?_)
    exact h2 pins s1 σ1 H1 _ _ Q I1 rr q1
def gTup (K : PySem.W.Frag) (n : Nat) (t : TGs) : TG := fun v σ H Q => ∃ a xs, v = .ref a ∧ SqT K H a xs ∧ xs.length = n ∧ t xs σ H Q
theorem pg_tup {es : List Expr} {k : Nat} {t : TGs} {n : Nat} (hc : X.calm = true) (h : PGs X es t)
    (hn : (assignEach es X.env).length = n := by rfl) (hst : (assignEach es X.env).findIdx? (·.1) = none := by rfl) : PG X (.Tuple es k pos) (gTup X.K n t) := by
  intro pins s σ H v u Q I r hw
  obtain ⟨a, xs, e1, hq, hl, hw⟩ := hw
  subst e1
  cases r
  obtain ⟨its, rv, ht, hz⟩ := I.tuple hq
  refine assign_Tuple_tuple (I.ok.hd hc) ht (by simp [hn, ← hl, rv.length]) hst fun h' hx => ?_
  have I1 : Inv X pins σ H { s with heap := h' } := I.kept (t' := s.toks) fun b o e => hx b o (Nat.ne_of_lt (Heap.lt_size e)) e
  exact h pins _ σ H xs _ Q I1 (by simpa using rv) hw
def gSub (to ti : TE) (t : TSet) : TG := fun v σ H Q => to σ H fun o H1 => ti σ H1 fun i H2 => t o i v H2 fun H3 => Q σ H3
theorem pg_sub {o i : Expr} {to ti : TE} {t : TSet} (ho : PE X o to) (hi : PE X i ti) (hs : PSet X t)
    (ha : ∀ v, assign (.Subscript o i pos) X.env v = (do
      let ov ← holding [v] (eval o X.env)
      let iv ← holding [v, ov] (eval i X.env)
      standAt pos
      holding [v, ov, iv] (setItem ov iv v)
      release [v, ov, iv] []) := by intro _; rfl) : PG X (.Subscript o i pos) (gSub to ti t) := by
  intro pins s σ H v u Q I r h
  rw [ha]
  refine wpAny_bind (wpAny_holding (thn (ho pins s σ H _ I h) fun ov s1 ⟨x, H1, I1, r1, q1⟩ => ?_))
  refine wpAny_bind (wpAny_holding (thn (hi pins s1 σ H1 _ I1 q1) fun iv s2 ⟨y, H2, I2, r2, q2⟩ => ?_))
  refine wpAny_bind (wpAny_standAt (wpAny_bind (wpAny_holding (thn (hs pins s2 σ H2 x y v ov iv u _ I2 r1 r2 r q2) fun _ s3 ⟨H3, I3, q3⟩ => ?_))))
  exact wpAny_release ⟨σ, H3, I3, q3⟩
def tAsg (te : TE) (g : TG) : TS := fun D σ H => te σ H fun x H1 => g x σ H1 D.nx
theorem ps_asg {tg e : Expr} {te : TE} {g : TG} (he : PE X e te) (hg : PG X tg g) (hs : swapsWithSole [tg] e pos.line X.env = pure false := by rfl) (hw : swappedStores [tg] e X.env = pure none := by rfl)
    (h1 : (assignEach [tg] X.env).map (·.2) = [assign tg X.env] := by rfl) : PS X (.Assign [tg] e pos) (tAsg te g) := by
  intro pins s σ H D I h
  refine wpAny_Assign_stores (thn (he pins s σ H _ I h) fun v s1 ⟨x, H1, I1, r1, q1⟩ => ?_) hs hw
  rw [h1]
  exact thn (hg pins s1 σ H1 x v _ I1 r1 q1) fun _ s2 q => q
theorem ps_set {i : Nat} {x : Str} {e : Expr} {te : TE} {pos' : Pos} (hN : X.N.Nodup) (hi : X.N[i]? = some x) (hx : Loc X.env.scope x) (he : PE X e te) (hs : swapsWith e (some (.Name x pos')) pos.line X.env = pure false := by rfl) (hf : X.fn x = true ∨ X.env.scope.names.lookup x = some .local := by first | exact .inl rfl | exact .inr rfl | assumption) :
    PS X (.Assign [.Name x pos'] e pos) (tAsg te (gName i)) := by
  intro pins s σ H D I h
  refine wpAny_Assign_Name (thn (he pins s σ H _ I h) fun v s1 ⟨y, H1, I1, r1, q1⟩ => ?_) hs
  exact store_ok I1 hN hi hx r1 (fun s2 I2 => ⟨_, H1, I2, q1⟩) hf
def tAug (i : Nat) (te : TE) (ti : TIp) : TS := fun D σ H => ∃ x, σ[i]? = some (some x) ∧ te σ H fun y H1 => ti x y H1 fun z H2 => D.nx (σ.set i (some z)) H2
def ipI (f : Int → Int → Int) : TIp := fun x y H Q => ∃ i j, x = .int i ∧ y = .int j ∧ Q (.int (f i j)) H
end
section
variable {X : Cx} {pos : Pos}
def tWhile (c : TT) (tb : TS) : TS := fun D σ H => ∃ W : Nat → St → Hp → Prop, (∃ m, W m σ H) ∧ ∀ m σ H, W m σ H →
  c σ H fun b H1 => if b = true then ∃ N : St → Hp → Prop, (∀ σ' H', N σ' H' → ∃ m', m' < m ∧ W m' σ' H') ∧ tb { D with nx := N, ct := N, bk := D.nx } σ H1 else D.nx σ H1
theorem ps_while {c : Expr} {body : List Stmt} {tc : TT} {tb : TS} (hp : PassesOwn (model X.prog X.w) X.A X.env X.xe) (hc : PT X c tc) (hb : PSs X body tb) : PS X (.While c body [] pos) (tWhile tc tb) := by
  intro pins s σ H D I h
  obtain ⟨W, ⟨m0, w0⟩, turn⟩ := h
  refine wpAny_While (codeAny_whileLoop (fun n s' => ∃ σ' H', Inv X pins σ' H' s' ∧ W n σ' H') ?_ m0 ⟨σ, H, I, w0⟩)
  rintro n s1 ⟨σ1, H1, I1, w1⟩
  refine wpAny_passesOwn hp (thn (hc pins s1 σ1 H1 _ I1 (turn n σ1 H1 w1)) fun b s2 ⟨H2, I2, q2⟩ => ?_)
  cases b with
  | true =>
    obtain ⟨N, hN, q2⟩ := q2
    rw [if_pos rfl]
    refine wpAny_passesOwn hp (thn (hb pins s2 σ1 H2 _ I2 q2) fun f s3 q3 => ?_)
    cases f with
    | next =>
      obtain ⟨σ3, H3, I3, n3⟩ := q3
      obtain ⟨m', hm, w3⟩ := hN σ3 H3 n3
      exact ⟨m', hm, σ3, H3, I3, w3⟩
    | cont =>
      obtain ⟨σ3, H3, I3, n3⟩ := q3
      obtain ⟨m', hm, w3⟩ := hN σ3 H3 n3
      exact ⟨m', hm, σ3, H3, I3, w3⟩
    | brk => exact q3
    | ret v => exact q3
  | false =>
    rw [if_neg Bool.false_ne_true]
    exact wpAny_execs_nil ⟨σ1, H2, I2, q2⟩
end
structure It where
  go : Nat → Hp → Prop
  yld : Nat → Hp → V → Hp → Prop
  stop : Nat → Hp → Prop
def FpOk (X : Cx) (pins : List (Addr × Obj)) (H : Hp) (b : Addr) : Prop :=
  H b = none ∧ b ≠ X.env.locals ∧ b ∉ X.fs ∧ (b ∈ X.ex ∨ X.s₀.heap.objs.size ≤ b) ∧ (∀ x c, X.env.cells.lookup x = some c → c ≠ b) ∧ ∀ p ∈ X.pn ++ pins, p.1 ≠ b
theorem Inv.fpOk {X : Cx} {pins : List (Addr × Obj)} {σ : St} {H H' : Hp} {s : Shared} {b : Addr} (I : Inv X pins σ H s) (hb : s.heap.objs.size ≤ b) (hn : H' b = none) : FpOk X pins H' b := by
  refine ⟨hn, Nat.ne_of_gt (Nat.lt_of_lt_of_le I.lt hb), I.nofs hb, .inr (Nat.le_trans I.sz hb), fun x c e z => ?_, fun p hp z => ?_⟩
  · obtain ⟨v, q⟩ := I.cell x c e
    exact absurd (Nat.lt_of_lt_of_le q.lt (by rw [z]; exact hb)) (Nat.lt_irrefl _)
  · exact absurd (Nat.lt_of_lt_of_le (Heap.lt_size (I.pin p hp).1) (by rw [z]; exact hb)) (Nat.lt_irrefl _)
structure Turn (P : Program) (w : World) (K : PySem.W.Frag) (tg : Expr) (J : It) (fp : List Addr) (it : Addr) (tn : Nat → Heap → Prop) : Prop where
  mem : it ∈ fp
  obj : ∀ i h, tn i h → ∀ b ∈ fp, ∃ o, h.get? b = some o ∧ ∀ v, o.data ≠ .cell v
  keep : ∀ i h h', tn i h → (∀ b ∈ fp, ∀ o, h.get? b = some o → h'.get? b = some o) → tn i h'
  item : ∀ (X : Cx), X.prog = P → X.w = w → X.K = K → X.calm = true → ∀ (i : Nat) (pins : List (Addr × Obj)) (s : Shared) (σ : St) (H : Hp) (E : Value → Shared → Prop), Inv X pins σ H s → (∀ b ∈ fp, FpOk X pins H b) → tn i s.heap → J.go i H →
    wpAny (model P w) X.A (pyNext (.ref it)) (fun r s1 => ∃ u, r = some u ∧
      wpAny (model P w) X.A (letOwnedTupleGo tg (.ref it) u) (fun _ s2 => ∃ x H', Inv X pins σ H' s2 ∧ RelV x u ∧ J.yld i H x H' ∧ tn (i + 1) s2.heap ∧ ∀ b ∈ fp, H' b = none) E s1) E s
  done : ∀ (X : Cx), X.prog = P → X.w = w → X.K = K → X.calm = true → ∀ (i : Nat) (pins : List (Addr × Obj)) (s : Shared) (σ : St) (H : Hp) (E : Value → Shared → Prop), Inv X pins σ H s → (∀ b ∈ fp, FpOk X pins H b) → tn i s.heap → J.stop i H →
    wpAny (model P w) X.A (pyNext (.ref it)) (fun r s1 => r = none ∧ Inv X pins σ H s1) E s
  self : ∀ (A : Around) (i : Nat) (s : Shared) (Q : Value → Shared → Prop) (E : Value → Shared → Prop), tn i s.heap → Q (.ref it) s → wpAny (model P w) A (pyIter (.ref it)) Q E s
abbrev TI := St → Hp → (It → Hp → Prop) → Prop
def PIE (X : Cx) (pins : List (Addr × Obj)) (σ : St) (tg : Expr) (R : It → Hp → Prop) (itv : Value) (s2 : Shared) : Prop :=
  ∃ (it : Addr) (fp : List Addr) (tn : Nat → Heap → Prop) (J : It) (H' : Hp), itv = .ref it ∧ Inv X pins σ H' s2 ∧ Turn X.prog X.w X.K tg J fp it tn ∧ tn 0 s2.heap ∧ (∀ b ∈ fp, FpOk X pins H' b) ∧ R J H'
def PI (X : Cx) (tg iter : Expr) (wi : TI) : Prop :=
  ∀ (pins : List (Addr × Obj)) (s : Shared) (σ : St) (H : Hp) (R : It → Hp → Prop), Inv X pins σ H s → wi σ H R →
    wpAny (model X.prog X.w) X.A (eval iter X.env) (fun v s1 => wpAny (model X.prog X.w) X.A (pyIter v) (PIE X pins σ tg R) X.xe s1) X.xe s
theorem go_of {M : Model} {A : Around} {E : Value → Shared → Prop} {s : Shared} {tg : Expr} {it : Addr} {u : Value} {o : Obj} {n : String} {vs : Array Value} {Q : Unit → Shared → Prop} (ho : s.heap.get? it = some o) (hc : o.cls = .type n) (hd : o.data = .fields vs)
    (hn : ["enumerate", "zip", "dict_itemiterator", "dict_reverseitemiterator", "odict_iterator", "itertools.zip_longest", "itertools.pairwise"].contains n = false) (hQ : Q () s) : wpAny M A (letOwnedTupleGo tg (.ref it) u) Q E s := by
  unfold letOwnedTupleGo
  cases tg <;> first
    | exact wpAny_pure hQ
    | (cases u <;> first
        | exact wpAny_pure hQ
        | (refine wpAny_bind (wpAny_load ho ?_)
           rw [hc, hd]
           show wpAny M A (if (["enumerate", "zip", "dict_itemiterator", "dict_reverseitemiterator", "odict_iterator", "itertools.zip_longest", "itertools.pairwise"].contains n && vs[0]? == some (rawInt _)) = true then _ else _) Q E s
           rw [if_neg (by intro h; rw [hn, Bool.false_and] at h; cases h)]
           exact wpAny_pure hQ))
def Itl (K : PySem.W.Frag) (a : Addr) : It :=
  ⟨fun i H => ∃ xs x, SqL K H a xs ∧ xs[i]? = some x, fun i H x H' => H' = H ∧ ∀ xs, SqL K H a xs → xs[i]? = some x, fun i H => ∃ xs, SqL K H a xs ∧ xs.length ≤ i⟩
def Itt (K : PySem.W.Frag) (a : Addr) : It :=
  ⟨fun i H => ∃ xs x, SqT K H a xs ∧ xs[i]? = some x, fun i H x H' => H' = H ∧ ∀ xs, SqT K H a xs → xs[i]? = some x, fun i H => ∃ xs, SqT K H a xs ∧ xs.length ≤ i⟩
def Itr (lo : Int) (n : Nat) : It := ⟨fun i _ => i < n, fun i H x H' => H' = H ∧ x = .int (lo + i), fun i _ => n ≤ i⟩
theorem turn_list {P : Program} {w : World} {K : PySem.W.Frag} {tg : Expr} (a it : Addr) : Turn P w K tg (Itl K a) [it] it (fun i h => h.IsListIter it a i) where
  mem := by simp
  obj := fun i h st b hb => by
    have e : b = it := by simpa using hb
    subst e
    obtain ⟨o, e, c, d⟩ := st
    exact ⟨o, e, fun v z => by rw [d] at z; cases z⟩
  keep := fun i h h' st k => st.at fun o e => k it (by simp) o e
  item := by
    intro X hP hw hK hc i pins s σ H E I hf st hg
    subst hP hw hK
    obtain ⟨xs, x, hq, hx⟩ := hg
    obtain ⟨its, rv, p, hz⟩ := I.list hq
    obtain ⟨u, hu, ru⟩ := rv.get hx
    obtain ⟨f0, f1, f2, f3, f4, f5⟩ := hf it (by simp)
    refine wpAny_pyNext_list_item st p.isList (x := u) (by simpa using hu) fun h' st' sb => ?_
    have I1 : Inv X pins σ H { s with heap := h' } := I.turned (t' := s.toks) (fun b o hb e => (sb.2 b hb).trans e) f0 f1 f3 f4 f5
    obtain ⟨o, e, c, d⟩ := id st'
    exact ⟨u, rfl, go_of (s := { s with heap := h' }) e c d (by decide) ⟨x, H, I1, ru, ⟨rfl, fun ys hy => by rw [I.list_inj hy hq]; exact hx⟩, st', fun b hb => (hf b hb).1⟩⟩
  done := by
    intro X hP hw hK hc i pins s σ H E I hf st hg
    subst hP hw hK
    obtain ⟨xs, hq, hx⟩ := hg
    obtain ⟨its, rv, p, hz⟩ := I.list hq
    obtain ⟨f0, f1, f2, f3, f4, f5⟩ := hf it (by simp)
    have hl := rv.length
    exact wpAny_pyNext_list_end (I.ok.hd hc) st p.isList (by simp; omega) fun h' eb => ⟨rfl, I.turned (t' := s.toks) (fun b o hb e => eb b o hb e) f0 f1 f3 f4 f5⟩
  self := fun _ _ _ _ _ st h => wpAny_pyIter_listiter st h
theorem turn_tuple {P : Program} {w : World} {K : PySem.W.Frag} {tg : Expr} (a it : Addr) : Turn P w K tg (Itt K a) [it] it (fun i h => h.IsTupleIter it a i) where
  mem := by simp
  obj := fun i h st b hb => by
    have e : b = it := by simpa using hb
    subst e
    obtain ⟨o, e, c, d⟩ := st
    exact ⟨o, e, fun v z => by rw [d] at z; cases z⟩
  keep := fun i h h' st k => st.at fun o e => k it (by simp) o e
  item := by
    intro X hP hw hK hc i pins s σ H E I hf st hg
    subst hP hw hK
    obtain ⟨xs, x, hq, hx⟩ := hg
    obtain ⟨its, rv, p, hz⟩ := I.tuple hq
    obtain ⟨u, hu, ru⟩ := rv.get hx
    obtain ⟨f0, f1, f2, f3, f4, f5⟩ := hf it (by simp)
    refine wpAny_pyNext_tuple_item st (show s.heap.IsTuple a its.toArray from p) (x := u) (by simpa using hu) fun h' st' sb => ?_
    have I1 : Inv X pins σ H { s with heap := h' } := I.turned (t' := s.toks) (fun b o hb e => (sb.2 b hb).trans e) f0 f1 f3 f4 f5
    obtain ⟨o, e, c, d⟩ := id st'
    exact ⟨u, rfl, go_of (s := { s with heap := h' }) e c d (by decide) ⟨x, H, I1, ru, ⟨rfl, fun ys hy => by rw [I.tuple_inj hy hq]; exact hx⟩, st', fun b hb => (hf b hb).1⟩⟩
  done := by
    intro X hP hw hK hc i pins s σ H E I hf st hg
    subst hP hw hK
    obtain ⟨xs, hq, hx⟩ := hg
    obtain ⟨its, rv, p, hz⟩ := I.tuple hq
    obtain ⟨f0, f1, f2, f3, f4, f5⟩ := hf it (by simp)
    have hl := rv.length
    exact wpAny_pyNext_tuple_end (I.ok.hd hc) st (show s.heap.IsTuple a its.toArray from p) (by simp; omega) fun h' eb => ⟨rfl, I.turned (t' := s.toks) (fun b o hb e => eb b o hb e) f0 f1 f3 f4 f5⟩
  self := fun _ _ _ _ _ st h => wpAny_pyIter_tupleiter st h
theorem turn_range {P : Program} {w : World} {K : PySem.W.Frag} {tg : Expr} (it : Addr) (lo : Int) (n : Nat) : Turn P w K tg (Itr lo n) [it] it (fun i h => IsRangeIter h it (lo + (i : Nat) * 1) ((n : Int) - (i : Nat)) 1) where
  mem := by simp
  obj := fun i h st b hb => by
    have e : b = it := by simpa using hb
    subst e
    exact ⟨_, st, fun v z => by
      have z' : Data.fields _ = Data.cell v := z
      cases z'⟩
  keep := fun i h h' st k => k it (by simp) _ st
  item := by
    intro X hP hw hK hc i pins s σ H E I hf st hg
    subst hP hw hK
    obtain ⟨f0, f1, f2, f3, f4, f5⟩ := hf it (by simp)
    have W := Walks.range (prog := X.prog) (w := X.w) (I.ok.hd hc) it lo 1 n
    refine W.item i s _ _ hg st fun v h' tk hv st' kk => ?_
    obtain ⟨t, rfl⟩ := hv
    have I1 : Inv X pins σ H { s with heap := h', toks := tk } := I.turned (fun b o hb e => kk b o (by simpa using hb) e) f0 f1 f3 f4 f5
    refine ⟨_, rfl, go_of (s := { s with heap := h', toks := tk }) (n := "range_iterator") st' rfl rfl (by decide) ⟨.int (lo + i), H, I1, ⟨t, ?_⟩, ⟨rfl, rfl⟩, st', fun b hb => (hf b hb).1⟩⟩
    rw [Int.mul_one]
  done := by
    intro X hP hw hK hc i pins s σ H E I hf st hg
    subst hP hw hK
    obtain ⟨f0, f1, f2, f3, f4, f5⟩ := hf it (by simp)
    exact wpAny_pyNext_range_end (I.ok.hd hc) st (by have : n ≤ i := hg; omega) fun h' eb => ⟨rfl, I.turned (t' := s.toks) (fun b o hb e => eb b o hb e) f0 f1 f3 f4 f5⟩
  self := fun _ _ _ _ _ st h => wpAny_pyIter_rangeiter st h
end L2
namespace L2
open PySem PySem.Spec PyProof.Rows
section
variable {X : Cx} {tg : Expr}
theorem range_it {pins : List (Addr × Obj)} {σ : St} {H : Hp} {s : Shared} {R : It → Hp → Prop} {E : Value → Shared → Prop} {lo hi : Int} {t u v : Tok} {tk : Nat} (I : Inv X pins σ H s) (h1 : -(2 ^ 62) ≤ lo) (h2 : lo < 2 ^ 62) (h3 : -(2 ^ 62) ≤ hi) (h4 : hi < 2 ^ 62)
    (q : R (Itr lo (hi - lo).toNat) H) : wpAny (model X.prog X.w) X.A (pyIter (.ref s.heap.objs.size)) (PIE X pins σ tg R) E { s with heap := s.heap.push { cls := .type "range", data := .fields #[.int lo t, .int hi u, .int 1 v] }, toks := tk } := by
  refine wpAny_pyIter_range (IsRange.new ..) (small_one h1 h2 h3 h4) ?_
  have I1 : Inv X pins σ H { s with heap := s.heap.push { cls := .type "range", data := .fields #[.int lo t, .int hi u, .int 1 v] }, toks := tk } := I.kept fun b o e => Heap.get?_push_of_some _ e
  refine ⟨(s.heap.push { cls := .type "range", data := .fields #[.int lo t, .int hi u, .int 1 v] }).objs.size, [(s.heap.push { cls := .type "range", data := .fields #[.int lo t, .int hi u, .int 1 v] }).objs.size], _, _, H, rfl,
    I1.kept (t' := tk) fun b o e => Heap.get?_push_of_some _ e, turn_range _ lo (hi - lo).toNat, ?_, fun b hb => ?_, q⟩
  · have e1 : lo + ((0 : Nat) : Int) * 1 = lo := by simp
    have e2 : (((hi - lo).toNat : Nat) : Int) - ((0 : Nat) : Int) = Builtin.Range.rangeSize lo hi 1 := by rw [rangeSize_one]; split <;> omega
    show IsRangeIter _ _ (lo + ((0 : Nat) : Int) * 1) ((((hi - lo).toNat : Nat) : Int) - ((0 : Nat) : Int)) 1
    rw [e1, e2]
    exact Heap.get?_push_size _ rfl
  · have e : b = (s.heap.push { cls := .type "range", data := .fields #[.int lo t, .int hi u, .int 1 v] }).objs.size := by simpa using hb
    subst e
    exact I1.fpOk (Nat.le_refl _) (I1.hok.fresh (Nat.le_refl _))
def iRng1 (ta : TA) : TI := fun σ H R => ta σ H fun vs H1 => ∃ j : Int, vs = [.int j] ∧ -(2 ^ 62) ≤ j ∧ j < 2 ^ 62 ∧ R (Itr 0 j.toNat) H1
theorem pi_range1 {a : Expr} {ta : TA} {p pos : Pos} (hg : Gl X "range") (hm : X.mg "range" = none) (ha : PA X [a] ta) (hs : starEach [a] X.env = [(false, eval a X.env)] := by rfl) : PI X tg (.Call (.Name "range" p) [a] [] pos) (iRng1 ta) := by
  intro pins s σ H R I h
  refine Call_ (ld_blt I hg hm boot_range (PyProof.Rows.callWith_type1 (thn (ha pos pins s σ H _ I h) fun us s1 ⟨vs, H1, I1, r1, q1⟩ => ?_) hs rfl))
  obtain ⟨j, e, q1, q2, q⟩ := q1
  subst e
  cases r1 with
  | cons r rr =>
    cases rr
    obtain ⟨t, rfl⟩ := r
    exact call_range_1 (range_it I1 (by omega) (by omega) q1 q2 (by simpa using q))
def tFor (wi : TI) (g : TG) (tb : TS) : TS := fun D σ H => wi σ H fun J H1 => ∃ W : Nat → Nat → St → Hp → Prop, (∃ m, W 0 m σ H1) ∧ ∀ i m σ H, W i m σ H →
  (J.stop i H ∧ D.nx σ H) ∨ (J.go i H ∧ ∃ N : St → Hp → Prop, (∀ σ' H', N σ' H' → ∃ m', m' < m ∧ W (i + 1) m' σ' H') ∧ ∀ x H', J.yld i H x H' → g x σ H' fun σ2 H2 => tb { D with nx := N, ct := N, bk := D.nx } σ2 H2)
def pinsAt (fp : List Addr) (h : Heap) : List (Addr × Obj) := fp.filterMap fun b => (h.get? b).map fun o => (b, o)
theorem mem_pinsAt {fp : List Addr} {h : Heap} {b : Addr} {o : Obj} (hb : b ∈ fp) (e : h.get? b = some o) : (b, o) ∈ pinsAt fp h := List.mem_filterMap.mpr ⟨b, hb, by rw [e]; rfl⟩
theorem of_pinsAt {fp : List Addr} {h : Heap} {p : Addr × Obj} (hp : p ∈ pinsAt fp h) : p.1 ∈ fp ∧ h.get? p.1 = some p.2 := by
  obtain ⟨b, hb, e⟩ := List.mem_filterMap.mp hp
  cases q : h.get? b with
  | none => rw [q] at e; cases e
  | some o =>
    rw [q] at e
    have e' : (b, o) = p := Option.some.inj e
    subst e'
    exact ⟨hb, q⟩
theorem Inv.pinned {pins : List (Addr × Obj)} {σ : St} {H : Hp} {s : Shared} {fp : List Addr} (I : Inv X pins σ H s) (hf : ∀ b ∈ fp, FpOk X pins H b) (ho : ∀ b ∈ fp, ∃ o, s.heap.get? b = some o ∧ ∀ v, o.data ≠ .cell v) : Inv X (pins ++ pinsAt fp s.heap) σ H s :=
  I.pins_of fun p hp => (List.mem_append.mp hp).elim (fun z => I.pin p (List.mem_append_right _ z)) fun z => by
    obtain ⟨hb, e⟩ := of_pinsAt z
    obtain ⟨f0, f1, f2, _⟩ := hf p.1 hb
    obtain ⟨o, e', d⟩ := ho p.1 hb
    rw [e] at e'; cases e'
    exact ⟨e, f0, f1, f2, d⟩
theorem Inv.unpinned {pins pl : List (Addr × Obj)} {σ : St} {H : Hp} {s : Shared} (I : Inv X (pins ++ pl) σ H s) : Inv X pins σ H s := I.pins_of fun p hp => I.pin p (List.mem_append_right _ (List.mem_append_left _ hp))
theorem ps_for {iter : Expr} {body : List Stmt} {wi : TI} {g : TG} {tb : TS} {pos : Pos} (hp : PassesOwn (model X.prog X.w) X.A X.env X.xe) (hc : X.calm = true) (hi : PI X tg iter wi) (hg : PG X tg g) (hb : PSs X body tb)
    (hs : ∀ x, foldedSetIterable iter X.env x = pure x := by intro _; rfl) : PS X (.For tg iter body [] pos) (tFor wi g tb) := by
  intro pins s σ H D I h
  refine wpAny_For (thn (hi pins s σ H _ I h) fun v s1 h1 => thn h1 fun itv s2 h2 => ?_) hs
  obtain ⟨it, fp, tn, J, H2, e, I2, T, st2, f2, W, ⟨m0, w0⟩, turn⟩ := h2
  subst e
  have stat : ∀ {H' : Hp}, (∀ b ∈ fp, H' b = none) → ∀ b ∈ fp, FpOk X pins H' b := fun hn b hb => ⟨hn b hb, (f2 b hb).2⟩
  refine codeAny_forLoop_any (fun n s' => ∃ i σ' H', Inv X pins σ' H' s' ∧ tn i s'.heap ∧ (∀ b ∈ fp, H' b = none) ∧ W i n σ' H') ?_ m0 ⟨0, σ, H2, I2, st2, fun b hb => (f2 b hb).1, w0⟩
  rintro n s3 ⟨i, σ3, H3, I3, st3, fr3, w3⟩
  rcases turn i n σ3 H3 w3 with ⟨stop, qn⟩ | ⟨go, N, hN, step⟩
  · refine wpAny_passesOwn hp (thn (T.done X rfl rfl rfl hc i pins s3 σ3 H3 X.xe I3 (stat fr3) st3 stop) fun r s4 ⟨hr, I4⟩ => ?_)
    subst hr
    exact wpAny_execs_nil ⟨σ3, H3, I4, qn⟩
  · refine wpAny_passesOwn hp (thn (T.item X rfl rfl rfl hc i pins s3 σ3 H3 X.xe I3 (stat fr3) st3 go) fun r s4 ⟨u, hr, h4⟩ => ?_)
    subst hr
    refine wpAny_passesOwn hp (thn h4 fun _ s5 ⟨x, H5, I5, r5, y5, st5, fr5⟩ => ?_)
    have I5' := I5.pinned (stat fr5) (T.obj _ _ st5)
    refine wpAny_passesOwn hp (thn (hg _ s5 σ3 H5 x u _ I5' r5 (step x H5 y5)) fun _ s6 ⟨σ6, H6, I6, q6⟩ => ?_)
    refine wpAny_passesOwn hp (thn (hb _ s6 σ6 H6 _ I6 q6) fun f s7 q7 => ?_)
    have again : ∀ {σ7 : St} {H7 : Hp}, Inv X (pins ++ pinsAt fp s5.heap) σ7 H7 s7 → N σ7 H7 → ∃ m, m < n ∧ ∃ i σ' H', Inv X pins σ' H' s7 ∧ tn i s7.heap ∧ (∀ b ∈ fp, H' b = none) ∧ W i m σ' H' := fun {σ7 H7} I7 n7 => by
      obtain ⟨m', hm, w7⟩ := hN σ7 H7 n7
      refine ⟨m', hm, i + 1, σ7, H7, I7.unpinned, T.keep _ _ _ st5 fun b hb o e => (I7.pin (b, o) (List.mem_append_right _ (List.mem_append_right _ (mem_pinsAt hb e)))).1, fun b hb => ?_, w7⟩
      obtain ⟨o, e, d⟩ := T.obj _ _ st5 b hb
      exact (I7.pin (b, o) (List.mem_append_right _ (List.mem_append_right _ (mem_pinsAt hb e)))).2.1
    cases f with
    | next => obtain ⟨σ7, H7, I7, n7⟩ := q7; exact again I7 n7
    | cont => obtain ⟨σ7, H7, I7, n7⟩ := q7; exact again I7 n7
    | brk => obtain ⟨σ7, H7, I7, q7⟩ := q7; exact ⟨σ7, H7, I7.unpinned, q7⟩
    | ret v => obtain ⟨x7, σ7, H7, I7, r7, q7⟩ := q7; exact ⟨x7, σ7, H7, I7.unpinned, r7, q7⟩
end
theorem for_tup {K : PySem.W.Frag} {a : Addr} {xs : List V} {g : TG} {tb : TS} {D : Ends} {σ : St} {H : Hp} (Pv : Nat → St → Hp → Prop) (h0 : Pv 0 σ H) (hl : ∀ i σ H, i ≤ xs.length → Pv i σ H → SqT K H a xs)
    (hs : ∀ i x σ H, xs[i]? = some x → Pv i σ H → g x σ H fun σ2 H2 => tb { D with nx := Pv (i + 1), ct := Pv (i + 1), bk := D.nx } σ2 H2) (hd : ∀ σ H, Pv xs.length σ H → D.nx σ H) :
    ∃ W : Nat → Nat → St → Hp → Prop, (∃ m, W 0 m σ H) ∧ ∀ i m σ H, W i m σ H →
      ((Itt K a).stop i H ∧ D.nx σ H) ∨ ((Itt K a).go i H ∧ ∃ N : St → Hp → Prop, (∀ σ' H', N σ' H' → ∃ m', m' < m ∧ W (i + 1) m' σ' H') ∧ ∀ x H', (Itt K a).yld i H x H' → g x σ H' fun σ2 H2 => tb { D with nx := N, ct := N, bk := D.nx } σ2 H2) := by
  refine ⟨fun i m σ H => m = xs.length - i ∧ i ≤ xs.length ∧ Pv i σ H, ⟨xs.length, by simp, Nat.zero_le _, h0⟩, ?_⟩
  rintro i m σ H ⟨rfl, hi, p⟩
  have q := hl i σ H hi p
  by_cases hlt : i < xs.length
  · refine .inr ⟨⟨xs, xs[i], q, by simp [hlt]⟩, Pv (i + 1), fun σ' H' p' => ⟨xs.length - (i + 1), by omega, rfl, hlt, p'⟩, fun x H' y => ?_⟩
    obtain ⟨e, y⟩ := y
    subst e
    exact hs i x σ _ (y xs q) p
  · have e : i = xs.length := by omega
    subst e
    exact .inl ⟨⟨xs, q, Nat.le_refl _⟩, hd σ H p⟩
theorem for_range {lo : Int} {n : Nat} {g : TG} {tb : TS} {D : Ends} {σ : St} {H : Hp} (Pv : Nat → St → Hp → Prop) (h0 : Pv 0 σ H)
    (hs : ∀ i σ H, i < n → Pv i σ H → g (.int (lo + i)) σ H fun σ2 H2 => tb { D with nx := Pv (i + 1), ct := Pv (i + 1), bk := D.nx } σ2 H2) (hd : ∀ σ H, Pv n σ H → D.nx σ H) :
    ∃ W : Nat → Nat → St → Hp → Prop, (∃ m, W 0 m σ H) ∧ ∀ i m σ H, W i m σ H →
      ((Itr lo n).stop i H ∧ D.nx σ H) ∨ ((Itr lo n).go i H ∧ ∃ N : St → Hp → Prop, (∀ σ' H', N σ' H' → ∃ m', m' < m ∧ W (i + 1) m' σ' H') ∧ ∀ x H', (Itr lo n).yld i H x H' → g x σ H' fun σ2 H2 => tb { D with nx := N, ct := N, bk := D.nx } σ2 H2) := by
  refine ⟨fun i m σ H => m = n - i ∧ i ≤ n ∧ Pv i σ H, ⟨n, by simp, Nat.zero_le _, h0⟩, ?_⟩
  rintro i m σ H ⟨rfl, hi, p⟩
  by_cases hlt : i < n
  · refine .inr ⟨hlt, Pv (i + 1), fun σ' H' p' => ⟨n - (i + 1), by omega, rfl, hlt, p'⟩, fun x H' y => ?_⟩
    obtain ⟨e, y⟩ := y
    subst e y
    exact hs i σ _ hlt p
  · have e : i = n := by omega
    subst e
    exact .inl ⟨Nat.le_refl _, hd σ H p⟩
end L2
namespace L2
open PySem PySem.Spec PyProof.Rows
abbrev R2 := V → V → Hp → VK → Prop
def OpR (X : Cx) (f : Value → Value → Sem Value) (r : R2) : Prop :=
  ∀ (pins : List (Addr × Obj)) (s : Shared) (σ : St) (H : Hp) (x y : V) (v u : Value) (Q : VK), Inv X pins σ H s → RelV x v → RelV y u → r x y H Q →
    wpAny (model X.prog X.w) X.A (f v u) (EP X pins σ Q) X.xe s
def UnR (X : Cx) (f : Value → Sem Value) (r : V → Hp → VK → Prop) : Prop :=
  ∀ (pins : List (Addr × Obj)) (s : Shared) (σ : St) (H : Hp) (x : V) (v : Value) (Q : VK), Inv X pins σ H s → RelV x v → r x H Q →
    wpAny (model X.prog X.w) X.A (f v) (EP X pins σ Q) X.xe s
def CallR (X : Cx) (f : Value) (r : List V → Hp → VK → Prop) : Prop :=
  ∀ (pins : List (Addr × Obj)) (s : Shared) (σ : St) (H : Hp) (xs : List V) (us : List Value) (Q : VK), Inv X pins σ H s → Vals xs us → r xs H Q →
    wpAny (model X.prog X.w) X.A (call f us) (EP X pins σ Q) X.xe s
def tOp (r : R2) (ta tb : TE) : TE := fun σ H Q => ta σ H fun x H1 => tb σ H1 fun y H2 => r x y H2 Q
def tUn (r : V → Hp → VK → Prop) (ta : TE) : TE := fun σ H Q => ta σ H fun x H1 => r x H1 Q
def rI (C : Int → Int → Prop) (g : Int → Int → V) : R2 := fun x y H Q => ∃ i j, x = .int i ∧ y = .int j ∧ C i j ∧ Q (g i j) H
def rI0 (g : Int → Int → V) : R2 := fun x y H Q => ∃ i j, x = .int i ∧ y = .int j ∧ Q (g i j) H
def rU (g : Int → V) : V → Hp → VK → Prop := fun x H Q => ∃ i, x = .int i ∧ Q (g i) H
section
variable {X : Cx} {a b c : Expr} {ta tb tc : TE} {pos : Pos}
theorem binT (ha : PE X a ta) (hb : PE X b tb) {pins : List (Addr × Obj)} {s : Shared} {σ : St} {H : Hp} {R : V → V → Hp → Prop} (I : Inv X pins σ H s)
    (h : ta σ H fun x H1 => tb σ H1 fun y H2 => R x y H2) {Q : Value → Shared → Prop} {f : Value → Value → Sem Value}
    (hf : ∀ v u s2 x y H2, Inv X pins σ H2 s2 → RelV x v → RelV y u → R x y H2 → wpAny (model X.prog X.w) X.A (f v u) Q X.xe s2) :
    wpAny (model X.prog X.w) X.A (eval a X.env) (fun v s₁ => wpAny (model X.prog X.w) X.A (eval b X.env) (fun u s₂ => wpAny (model X.prog X.w) X.A (f v u) Q X.xe s₂) X.xe s₁) X.xe s := by
  refine thn (ha pins s σ H _ I h) fun v s1 ⟨x, H1, I1, r1, q1⟩ => ?_
  refine thn (hb pins s1 σ H1 _ I1 q1) fun u s2 ⟨y, H2, I2, r2, q2⟩ => ?_
  exact hf v u s2 x y H2 I2 r1 r2 q2
theorem pe_op {op : Operator} {r : R2} (ho : OpR X (binaryOp op) r) (ha : PE X a ta) (hb : PE X b tb) : PE X (.BinOp a op b pos) (tOp r ta tb) := by
  intro pins s σ H Q I h
  exact wpAny_BinOp (binT ha hb I h fun v u s2 x y H2 I2 rx ry q => ho pins s2 σ H2 x y v u Q I2 rx ry q)
theorem pe_un {op : UnaryOp} {r : V → Hp → VK → Prop} (ho : UnR X (unaryOp op) r) (ha : PE X a ta) : PE X (.UnaryOp op a pos) (tUn r ta) := by
  intro pins s σ H Q I h
  exact UnaryOp_ (thn (ha pins s σ H _ I h) fun v s1 ⟨x, H1, I1, r1, q1⟩ => ho pins s1 σ H1 x v Q I1 r1 q1)
theorem opI {f : Value → Value → Sem Value} {C : Int → Int → Prop} {g : Int → Int → Int}
    (rule : ∀ (i j : Int) (t u : Tok) (s : Shared) (Q : Value → Shared → Prop) (E : Value → Shared → Prop), C i j → Q (.int (g i j) s.toks) { s with toks := s.toks + 1 } → wpAny (model X.prog X.w) X.A (f (.int i t) (.int j u)) Q E s) :
    OpR X f (rI C fun i j => .int (g i j)) := by
  intro pins s σ H x y v u Q I rx ry h
  obtain ⟨i, j, rfl, rfl, hc, q⟩ := h
  obtain ⟨t, rfl⟩ := rx
  obtain ⟨t', rfl⟩ := ry
  exact rule i j t t' s _ _ hc ⟨.int (g i j), H, I.tok _, ⟨_, rfl⟩, q⟩
theorem opI0 {f : Value → Value → Sem Value} {g : Int → Int → Int}
    (rule : ∀ (i j : Int) (t u : Tok) (s : Shared) (Q : Value → Shared → Prop) (E : Value → Shared → Prop), Q (.int (g i j) s.toks) { s with toks := s.toks + 1 } → wpAny (model X.prog X.w) X.A (f (.int i t) (.int j u)) Q E s) :
    OpR X f (rI0 fun i j => .int (g i j)) := by
  intro pins s σ H x y v u Q I rx ry h
  obtain ⟨i, j, rfl, rfl, q⟩ := h
  obtain ⟨t, rfl⟩ := rx
  obtain ⟨t', rfl⟩ := ry
  exact rule i j t t' s _ _ ⟨.int (g i j), H, I.tok _, ⟨_, rfl⟩, q⟩
theorem opB0 {f : Value → Value → Sem Value} {g : Int → Int → Bool}
    (rule : ∀ (i j : Int) (t u : Tok) (s : Shared) (Q : Value → Shared → Prop) (E : Value → Shared → Prop), Q (.bool (g i j)) s → wpAny (model X.prog X.w) X.A (f (.int i t) (.int j u)) Q E s) :
    OpR X f (rI0 fun i j => .bl (g i j)) := by
  intro pins s σ H x y v u Q I rx ry h
  obtain ⟨i, j, rfl, rfl, q⟩ := h
  obtain ⟨t, rfl⟩ := rx
  obtain ⟨t', rfl⟩ := ry
  exact rule i j t t' s _ _ ⟨.bl (g i j), H, I, rfl, q⟩
def CDiv (i j : Int) : Prop := 0 < j ∧ j < 1073741824
def CPow (i j : Int) : Prop := 0 ≤ j ∧ j ≤ 1000000 ∧ i.natAbs < 2 ^ 64
def CMul (i j : Int) : Prop := (-(2 ^ 64) < i ∧ i < 2 ^ 64) ∨ (-(2 ^ 64) < j ∧ j < 2 ^ 64)
theorem CMul.ok {i j : Int} (h : CMul i j) : IntMulOk i j := by
  rcases h with ⟨h1, h2⟩ | ⟨h1, h2⟩
  · exact .of_left (intBits_le_64 h1 h2)
  · exact .of_right (intBits_le_64 h1 h2)
theorem op_add : OpR X (binaryOp .Add) (rI0 fun i j => .int (i + j)) := opI0 fun _ _ _ _ _ _ _ q => add_int q
theorem op_sub : OpR X (binaryOp .Sub) (rI0 fun i j => .int (i - j)) := opI0 fun _ _ _ _ _ _ _ q => sub_int q
theorem op_mul : OpR X (binaryOp .Mult) (rI CMul fun i j => .int (i * j)) := opI fun _ _ _ _ _ _ _ hc q => mul_int q hc.ok
theorem op_fdiv : OpR X (binaryOp .FloorDiv) (rI CDiv fun i j => .int (i / j)) := opI fun i j _ _ _ _ _ hc q => by
  have h1 : (0 : Int) < j := hc.1
  have h2 : j < 1073741824 := hc.2
  exact floordiv_int (by omega) (by rw [Int.fdiv_eq_ediv_of_nonneg i (by omega)]; exact q) (.inl (PyProof.noPylong_small (by omega)))
theorem op_mod : OpR X (binaryOp .Mod) (rI (fun _ j => 0 < j) fun i j => .int (i % j)) := opI fun i j _ _ _ _ _ hc q => by
  have h1 : (0 : Int) < j := hc
  exact mod_int' (by omega) (by rw [Int.fmod_eq_emod_of_nonneg i (by omega)]; exact q)
theorem op_pow : OpR X (binaryOp .Pow) (rI CPow fun i j => .int (i ^ j.toNat)) := opI fun _ _ _ _ _ _ _ hc q => pow_int_small hc.1 hc.2.1 hc.2.2 q
theorem unI {f : Value → Sem Value} {g : Int → Int}
    (rule : ∀ (i : Int) (t : Tok) (s : Shared) (Q : Value → Shared → Prop) (E : Value → Shared → Prop), Q (.int (g i) s.toks) { s with toks := s.toks + 1 } → wpAny (model X.prog X.w) X.A (f (.int i t)) Q E s) :
    UnR X f (rU fun i => .int (g i)) := by
  intro pins s σ H x v Q I rx h
  obtain ⟨i, rfl, q⟩ := h
  obtain ⟨t, rfl⟩ := rx
  exact rule i t s _ _ ⟨.int (g i), H, I.tok _, ⟨_, rfl⟩, q⟩
theorem un_neg : UnR X (unaryOp .USub) (rU fun i => .int (-i)) := unI fun _ _ _ _ _ q => neg_int q
end
def scal : V → V → Bool
  | .non, .non => true | .non, .int _ => true | .int _, .non => true | .non, .bl _ => true | .bl _, .non => true | .non, .str _ => true | .str _, .non => true
  | .int _, .int _ => true | .bl _, .bl _ => true | .str _, .str _ => true | .byt _, .byt _ => true
  | .int _, .str _ => true | .str _, .int _ => true | .bl _, .str _ => true | .str _, .bl _ => true
  | _, _ => false
def rEq : R2 := fun x y H Q => scal x y = true ∧ Q (.bl (decide (x = y))) H
def rNe : R2 := fun x y H Q => scal x y = true ∧ Q (.bl (!decide (x = y))) H
theorem dec_int {i j : Int} : decide (V.int i = V.int j) = (i == j) := by
  rw [Bool.eq_iff_iff]
  simp
theorem dec_bl {i j : Bool} : decide (V.bl i = V.bl j) = (i == j) := by
  rw [Bool.eq_iff_iff]
  simp
theorem dec_str {i j : Str} : decide (V.str i = V.str j) = (i == j) := by
  rw [Bool.eq_iff_iff]
  simp
theorem dec_byt {i j : Array UInt8} : decide (V.byt i = V.byt j) = (i.toList == j.toList) := by
  rw [Bool.eq_iff_iff]
  cases i
  cases j
  simp
section
variable {X : Cx} {a b c : Expr} {ta tb tc : TE} {pos : Pos}
theorem fin_bl {pins : List (Addr × Obj)} {σ : St} {H : Hp} {s : Shared} {Q : VK} {k k' : Bool} (I : Inv X pins σ H s) (q : Q (.bl k) H) (e : k = k') : EP X pins σ Q (.bool k') s := by
  subst e
  exact ⟨.bl k, H, I, rfl, q⟩
theorem op_eq : OpR X (compareOp .Eq) rEq := by
  intro pins s σ H x y v u Q I rx ry h
  obtain ⟨hs, q⟩ := h
  cases x with
  | non =>
    cases rx
    cases y with
    | non => cases ry; exact PySem.EqNone.eq_none_none (fin_bl I q (by simp))
    | bl j => cases ry; exact PySem.EqNone.eq_none_bool (fin_bl I q (by simp))
    | int j => obtain ⟨t', rfl⟩ := ry; exact PySem.EqNone.eq_none_int (fin_bl I q (by simp))
    | str j => obtain ⟨t', rfl⟩ := ry; exact PySem.EqNone.eq_none_str (fin_bl I q (by simp))
    | _ => exact absurd (show false = true from hs) Bool.false_ne_true
  | bl i =>
    cases rx
    cases y with
    | non => cases ry; exact PySem.EqNone.eq_bool_none (fin_bl I q (by simp))
    | bl j => cases ry; exact eq_bool (fin_bl I q dec_bl)
    | str j => obtain ⟨t', rfl⟩ := ry; exact PySem.EqMixed.eq_bool_str (fin_bl I q (by simp))
    | _ => exact absurd (show false = true from hs) Bool.false_ne_true
  | int i =>
    obtain ⟨t, rfl⟩ := rx
    cases y with
    | non => cases ry; exact PySem.EqNone.eq_int_none (fin_bl I q (by simp))
    | int j => obtain ⟨t', rfl⟩ := ry; exact eq_int (fin_bl I q dec_int)
    | str j => obtain ⟨t', rfl⟩ := ry; exact PySem.EqMixed.eq_int_str (fin_bl I q (by simp))
    | _ => exact absurd (show false = true from hs) Bool.false_ne_true
  | str i =>
    obtain ⟨t, rfl⟩ := rx
    cases y with
    | non => cases ry; exact PySem.EqNone.eq_str_none (fin_bl I q (by simp))
    | bl j => cases ry; exact PySem.EqMixed.eq_str_bool (fin_bl I q (by simp))
    | int j => obtain ⟨t', rfl⟩ := ry; exact PySem.EqMixed.eq_str_int (fin_bl I q (by simp))
    | str j => obtain ⟨t', rfl⟩ := ry; exact eq_str (fin_bl I q dec_str)
    | _ => exact absurd (show false = true from hs) Bool.false_ne_true
  | byt i =>
    obtain ⟨t, rfl⟩ := rx
    cases y with
    | byt j => obtain ⟨t', rfl⟩ := ry; exact PySem.W.eq_bytes (fin_bl I q dec_byt)
    | _ => exact absurd (show false = true from hs) Bool.false_ne_true
  | _ => cases y <;> exact absurd (show false = true from hs) Bool.false_ne_true
theorem op_ne : OpR X (compareOp .NotEq) rNe := by
  intro pins s σ H x y v u Q I rx ry h
  obtain ⟨hs, q⟩ := h
  cases x with
  | non =>
    cases rx
    cases y with
    | non => cases ry; exact PySem.EqNone.ne_none_none (fin_bl I q (by simp))
    | bl j => cases ry; exact PySem.EqNone.ne_none_bool (fin_bl I q (by simp))
    | int j => obtain ⟨t', rfl⟩ := ry; exact PySem.EqNone.ne_none_int (fin_bl I q (by simp))
    | str j => obtain ⟨t', rfl⟩ := ry; exact PySem.EqNone.ne_none_str (fin_bl I q (by simp))
    | _ => exact absurd (show false = true from hs) Bool.false_ne_true
  | bl i =>
    cases rx
    cases y with
    | non => cases ry; exact PySem.EqNone.ne_bool_none (fin_bl I q (by simp))
    | bl j => cases ry; exact ne_bool (fin_bl I q (congrArg not dec_bl))
    | str j => obtain ⟨t', rfl⟩ := ry; exact PySem.EqMixed.ne_bool_str (fin_bl I q (by simp))
    | _ => exact absurd (show false = true from hs) Bool.false_ne_true
  | int i =>
    obtain ⟨t, rfl⟩ := rx
    cases y with
    | non => cases ry; exact PySem.EqNone.ne_int_none (fin_bl I q (by simp))
    | int j => obtain ⟨t', rfl⟩ := ry; exact ne_int (fin_bl I q (congrArg not dec_int))
    | str j => obtain ⟨t', rfl⟩ := ry; exact PySem.EqMixed.ne_int_str (fin_bl I q (by simp))
    | _ => exact absurd (show false = true from hs) Bool.false_ne_true
  | str i =>
    obtain ⟨t, rfl⟩ := rx
    cases y with
    | non => cases ry; exact PySem.EqNone.ne_str_none (fin_bl I q (by simp))
    | bl j => cases ry; exact PySem.EqMixed.ne_str_bool (fin_bl I q (by simp))
    | int j => obtain ⟨t', rfl⟩ := ry; exact PySem.EqMixed.ne_str_int (fin_bl I q (by simp))
    | str j => obtain ⟨t', rfl⟩ := ry; exact ne_str (fin_bl I q (congrArg not dec_str))
    | _ => exact absurd (show false = true from hs) Bool.false_ne_true
  | byt i =>
    obtain ⟨t, rfl⟩ := rx
    cases y with
    | byt j => obtain ⟨t', rfl⟩ := ry; exact PySem.W.ne_bytes (fin_bl I q (congrArg not dec_byt))
    | _ => exact absurd (show false = true from hs) Bool.false_ne_true
  | _ => cases y <;> exact absurd (show false = true from hs) Bool.false_ne_true
theorem op_lt : OpR X (compareOp .Lt) (rI0 fun i j => .bl (decide (i < j))) := opB0 fun _ _ _ _ _ _ _ q => lt_int q
theorem op_le : OpR X (compareOp .LtE) (rI0 fun i j => .bl (decide (i ≤ j))) := opB0 fun _ _ _ _ _ _ _ q => le_int q
theorem op_gt : OpR X (compareOp .Gt) (rI0 fun i j => .bl (decide (j < i))) := opB0 fun _ _ _ _ _ _ _ q => gt_int q
theorem op_ge : OpR X (compareOp .GtE) (rI0 fun i j => .bl (decide (j ≤ i))) := opB0 fun _ _ _ _ _ _ _ q => ge_int q
theorem op_lt_str : OpR X (compareOp .Lt) (fun x y H Q => ∃ i j, x = .str i ∧ y = .str j ∧ Q (.bl (decide (i.cps.toList < j.cps.toList))) H) := by
  intro pins s σ H x y v u Q I rx ry h
  obtain ⟨i, j, rfl, rfl, q⟩ := h
  obtain ⟨t, rfl⟩ := rx
  obtain ⟨t', rfl⟩ := ry
  exact lt_str (fin_bl I q rfl)
theorem op_in_str : OpR X (compareOp .In) (fun x y H Q => ∃ i j, x = .str i ∧ y = .str j ∧ Q (.bl (!(Builtin.Str.occurrences j i 0 j.length 1).isEmpty)) H) := by
  intro pins s σ H x y v u Q I rx ry h
  obtain ⟨i, j, rfl, rfl, q⟩ := h
  obtain ⟨t, rfl⟩ := rx
  obtain ⟨t', rfl⟩ := ry
  exact in_str (fin_bl I q rfl)
theorem OpR.or {f : Value → Value → Sem Value} {r r' : R2} (h : OpR X f r) (h' : OpR X f r') : OpR X f (fun x y H Q => r x y H Q ∨ r' x y H Q) := by
  intro pins s σ H x y v u Q I rx ry q
  rcases q with q | q
  · exact h pins s σ H x y v u Q I rx ry q
  · exact h' pins s σ H x y v u Q I rx ry q
theorem nomark (b : Expr) {op : CmpOp} (h : op ≠ .In := by decide) (h2 : op ≠ .NotIn := by decide) : behindInMarks op b = false := by
  have e1 : (op == CmpOp.In) = false := by cases op <;> first | rfl | exact absurd rfl h
  have e2 : (op == CmpOp.NotIn) = false := by cases op <;> first | rfl | exact absurd rfl h2
  cases b <;> simp [behindInMarks, e1, e2]
theorem pe_cmpR {op : CmpOp} {r : R2} (ho : OpR X (compareOp op) r) (ha : PE X a ta) (hb : PE X b tb) (hm : behindInMarks op b = false) : PE X (.Compare a [op] [b] pos) (tOp r ta tb) := by
  intro pins s σ H Q I h
  exact wpAny_Compare1 (binT ha hb I h fun v u s2 x y H2 I2 rx ry q => ho pins s2 σ H2 x y v u Q I2 rx ry q) hm
def tTest (t : TE) : TT := fun σ H Q => t σ H fun x H' => ∃ k, x = .bl k ∧ Q k H'
theorem pt_cmpR {op : CmpOp} {r : R2} (ho : OpR X (compareOp op) r) (ha : PE X a ta) (hb : PE X b tb) (hm : behindInMarks op b = false) : PT X (.Compare a [op] [b] pos) (tTest (tOp r ta tb)) := by
  intro pins s σ H Q I h
  refine wpAny_isTrue_Compare1 (thn (ha pins s σ H _ I h) fun v s1 ⟨x, H1, I1, r1, q1⟩ => thn (hb pins s1 σ H1 _ I1 q1) fun u s2 ⟨y, H2, I2, r2, q2⟩ =>
    thn (ho pins s2 σ H2 x y v u _ I2 r1 r2 q2) fun c s3 ⟨z, H3, I3, r3, k, e, q3⟩ => ?_) hm
  subst e
  cases r3
  exact wpAny_truthy_bool ⟨H3, I3, q3⟩
theorem line63 : (sizeLine : Nat) < 2 ^ 63 := by rw [sizeLine_eq]; decide
theorem op_add_str : OpR X (binaryOp .Add) (fun x y H Q => ∃ i j, x = .str i ∧ y = .str j ∧ i.length + j.length ≤ sizeLine ∧ Q (.str (i ++ j)) H) := by
  intro pins s σ H x y v u Q I rx ry h
  obtain ⟨i, j, rfl, rfl, hz, q⟩ := h
  obtain ⟨t, rfl⟩ := rx
  obtain ⟨t', rfl⟩ := ry
  exact add_str (fun t' tk => ⟨.str (i ++ j), H, I.tok _, ⟨_, rfl⟩, q⟩) hz
theorem vals1 {x : V} {us : List Value} (r : Vals [x] us) : ∃ u, us = [u] ∧ RelV x u := by
  cases r with
  | cons r1 r2 => cases r2; exact ⟨_, rfl, r1⟩
theorem vals2 {x y : V} {us : List Value} (r : Vals [x, y] us) : ∃ u w', us = [u, w'] ∧ RelV x u ∧ RelV y w' := by
  cases r with
  | cons r1 r2 =>
    cases r2 with
    | cons r3 r4 => cases r4; exact ⟨_, _, rfl, r1, r3⟩
theorem call_int1 : CallR X (.type "int") (fun xs H Q => (∃ i, xs = [.int i] ∧ Q (.int i) H) ∨ ∃ k, xs = [.bl k] ∧ Q (.int (if k then 1 else 0)) H) := by
  intro pins s σ H xs us Q I r h
  rcases h with ⟨i, rfl, q⟩ | ⟨k, rfl, q⟩
  · obtain ⟨u, rfl, t, rfl⟩ := vals1 r
    exact call_int_int ⟨.int i, H, I, ⟨_, rfl⟩, q⟩
  · obtain ⟨u, rfl, r1⟩ := vals1 r
    cases r1
    exact call_int_bool ⟨.int (if k then 1 else 0), H, I.tok _, ⟨_, rfl⟩, q⟩
def LenV (K : PySem.W.Frag) (x : V) (H : Hp) (n : Nat) : Prop :=
  match x with
  | .str y => y.length ≤ sizeLine ∧ n = y.length
  | .byt y => y.size ≤ sizeLine ∧ n = y.size
  | .ref p => (∃ xs, SqL K H p xs ∧ n = xs.length) ∨ ∃ xs, SqT K H p xs ∧ n = xs.length
  | _ => False
theorem call_len : CallR X (.builtin "len") (fun xs H Q => ∃ x n, xs = [x] ∧ LenV X.K x H n ∧ Q (.int n) H) := by
  intro pins s σ H xs us Q I r h
  obtain ⟨x, n, rfl, e, q⟩ := h
  obtain ⟨u, rfl, rx⟩ := vals1 r
  have hl := line63
  have hs : sizeLine = 16777216 := sizeLine_eq
  cases x with
  | str y =>
    obtain ⟨t, rfl⟩ := rx
    obtain ⟨hy, e'⟩ : y.length ≤ sizeLine ∧ n = y.length := e
    subst e'
    exact len_str (by omega) ⟨.int _, H, I.tok _, ⟨_, rfl⟩, q⟩
  | byt y =>
    obtain ⟨t, rfl⟩ := rx
    obtain ⟨hy, e'⟩ : y.size ≤ sizeLine ∧ n = y.size := e
    subst e'
    exact PySem.W.len_bytes (by omega) ⟨.int _, H, I.tok _, ⟨_, rfl⟩, q⟩
  | ref p =>
    cases rx
    have e' : (∃ xs, SqL X.K H p xs ∧ n = xs.length) ∨ ∃ xs, SqT X.K H p xs ∧ n = xs.length := e
    rcases e' with ⟨xs, hx, e'⟩ | ⟨xs, hx, e'⟩
    · subst e'
      obtain ⟨its, r', pl, hz⟩ := I.list hx
      have hlen := r'.length
      exact Calls.call_len_list pl.isList (by simp only [List.size_toArray]; omega) ⟨.int xs.length, H, I.tok _, ⟨_, by simp only [List.size_toArray]; rw [hlen]⟩, q⟩
    · subst e'
      obtain ⟨its, r', pl, hz⟩ := I.tuple hx
      have hlen := r'.length
      exact len_tuple pl (by simp only [List.size_toArray]; omega) ⟨.int xs.length, H, I.tok _, ⟨_, by simp only [List.size_toArray]; rw [hlen]⟩, q⟩
  | _ => exact (show False from e).elim
end
end L2
namespace L2
open PySem PySem.Spec PyProof.Rows
structure ObjM (h : Heap) (x dx C : Addr) (mA : Str → Option Value) : Prop where
  obj : h.get? x = some (PySem.W.instObj C dx)
  ns : h.Ns1 dx mA
  ne : dx ≠ x
theorem lookIn_ns {h : Heap} {dx : Addr} {mA : Str → Option Value} (n : h.Ns1 dx mA) : ∃ od, h.get? dx = some od ∧ ∀ name, PySem.W.lookIn name od = some (mA name) := by
  obtain ⟨o, es, ep, ho, hd, hk, _, hm⟩ := n
  refine ⟨o, ho, fun name => ?_⟩
  have e := hm name
  unfold nsFind findBy at e
  rw [← Array.find?_toList] at e
  unfold PySem.W.lookIn
  rw [hd]
  dsimp only
  split
  · rename_i y q
    rw [q] at e
    exact congrArg some e
  · rename_i q
    rw [q] at e
    have a : es.toList.any (·.refKey) = false := by
      rw [List.any_eq_false]
      intro y hy
      obtain ⟨z, t, hkey⟩ := hk y (Array.mem_toList_iff.mp hy)
      simp [DictEntry.refKey, hkey]
    have a' : ¬ es.toList.any (·.refKey) = true := by rw [a]; exact Bool.false_ne_true
    rw [if_neg a']
    exact congrArg some e
theorem ObjM.look {h : Heap} {x dx C : Addr} {mA : Str → Option Value} (I : ObjM h x dx C mA) : ∃ od, PySem.W.InstAt h x (PySem.W.instObj C dx) C (some od) ∧ ∀ name, PySem.W.lookIn name od = some (mA name) :=
  let ⟨od, ho, hl⟩ := lookIn_ns I.ns
  ⟨od, ⟨I.obj, rfl, rfl, ho⟩, hl⟩
section
variable {prog : Program} {w : World} {A : Around} {E : Value → Shared → Prop} {s : Shared} {K : PySem.W.Frag} {x dx C f : Addr} {mA : Str → Option Value} {name : Str} {v : Value}
theorem get_map {expr : Bool} {Q : Value → Shared → Prop} (X : K.In s.heap) (I : ObjM s.heap x dx C mA) (hg : PySem.W.plainGet K C name = true) (hh : PySem.W.hasDictIn K C = true)
    (ha : PySem.W.findIn K (.ref C) name = some none) (hv : mA name = some v) (hv' : PySem.W.handedIn v = true) (h : Q v { s with toks := s.toks + 1 }) :
    wpAny (model prog w) A (getAttr (.ref x) name expr) Q E s := by
  obtain ⟨od, J, hl⟩ := I.look
  exact PySem.W.get_value X J (PySem.W.plainGet_of hg).1 (PySem.W.findObj_own hh ha rfl (by rw [hl, hv])) hv' h
theorem get_meth {pl : Sem Bool} {Q : Value × List Value → Shared → Prop} (X : K.In s.heap) (I : ObjM s.heap x dx C mA) (hg : PySem.W.plainGet K C name = true)
    (hf : PySem.W.findIn K (.ref C) name = some (some (.ref f))) (ht : PySem.W.isFn K (.ref f) = true) (hv : mA name = none) (h : Q (.ref f, [.ref x]) s) :
    wpAny (model prog w) A (getMethod (.ref x) name pl) Q E s := by
  obtain ⟨od, J, hl⟩ := I.look
  exact PySem.W.method_fn X J (PySem.W.plainGet_of hg).1 (PySem.W.plainGet_of hg).2 hf (beq_iff_eq.mp ht) (by show (PySem.W.lookIn name od).map (·.isSome) = some false; rw [hl, hv]; rfl) h
theorem set_map {ns : List Str} {Q : Unit → Shared → Prop} (X : K.In s.heap) (I : ObjM s.heap x dx C mA)
    (hs : PySem.W.findIn K (.ref C) "__setattr__" = some (some (.builtin "object.__setattr__"))) (hp : PySem.W.plainOver K C = true) (ht : PySem.W.takerIn K C name = some none) (hh : PySem.W.hasDictIn K C = true)
    (hw : PySem.Within mA ns) (hsz : ns.length ≤ sizeLine)
    (h : ∀ h', ObjM h' x dx C (fun y => if y = name then some v else mA y) → Heap.SameBut dx s.heap h' → Q () { s with heap := h', toks := s.toks + 2 }) :
    wpAny (model prog w) A (setAttr (.ref x) name v) Q E s := by
  obtain ⟨od, J, hl⟩ := I.look
  refine PySem.W.set_plain X J hs (PySem.W.osa_open (s := { s with toks := s.toks + 1 }) (r := none) X J hp ht fun b => ?_)
  obtain ⟨cd, hc, hd'⟩ := PySem.W.any_some hh
  have hx : s.heap.get? x = some ⟨.ref C, some dx, .plain, #[]⟩ := I.obj
  refine wpAny_bind (wpAny_pure (wpAny_bind (wpAny_bind (wpAny_loadPart hx (wpAny_bind (PySem.W.Looks.here (s := { s with toks := s.toks + 1 }) (PySem.W.looks_clsIn X hc) ?_))))))
  rw [hd']
  refine wpAny_pure (a := some dx) (wpAny_bind (wpAny_pure (wpAny_bind ?_)))
  refine wpAny_nsSet1 (s := { s with toks := s.toks + 1 }) I.ns fun h' hn2 hs2 => ?_
  obtain ⟨oD, esD, epD, hoD, hdD, hcD⟩ := hn2.count (PySem.Within.cons name v hw)
  refine wpAny_bind (wpAny_lookBehind hoD (by rw [hdD]; exact pastItsLine_dict (Nat.le_trans hcD (by rw [List.length_cons]; omega))) ?_)
  exact wpAny_pure (h _ ⟨(hs2.2 _ (Ne.symm I.ne)).trans I.obj, hn2, I.ne⟩ hs2)
theorem make_map {R : Result → Shared → Prop} {vs : List Value} {kw : List (Str × Value)} (X : K.In s.heap) (hm : PySem.W.makesIn K C = true)
    (hi : PySem.W.findIn K (.ref C) "__init__" = some (some (.ref f))) (hf : PySem.W.typeIn K (.ref f) = some (.type "function"))
    (h : codeAny (model prog w) (A.under (.builtin "type.__call__" ⟨.ref C :: vs, kw⟩)) (.call (.ref f) ⟨.ref (s.heap.objs.size + 1) :: vs, kw⟩) (PySem.W.InitBack (s.heap.objs.size + 1) R)
      { s with heap := (s.heap.push PySem.W.emptyDict).push (PySem.W.instObj C s.heap.objs.size) }) :
    codeAny (model prog w) A (.call (.ref C) ⟨vs, kw⟩) R s := by
  obtain ⟨hh, g, d, t, os⟩ := s
  exact PySem.W.make_core (PySem.W.makes_of X hm) (PySem.W.looks_findIn X hi) (fun self => PySem.W.bind_fn X self hf) (.inl rfl) h
end
def putF (f : Str) (v : V) : List (Str × V) → List (Str × V)
  | [] => [(f, v)]
  | (g, x) :: r => if g = f then (g, v) :: r else (g, x) :: putF f v r
theorem lookup_putF (f g : Str) (v : V) : ∀ fs : List (Str × V), (putF f v fs).lookup g = if g = f then some v else fs.lookup g
  | [] => by
    show List.lookup g [(f, v)] = _
    by_cases h : g = f
    · have hb : (g == f) = true := beq_iff_eq.mpr h
      simp only [List.lookup, hb, if_pos h]
    · have hb : (g == f) = false := beq_eq_false_iff_ne.mpr h
      simp only [List.lookup, hb, if_neg h]
  | (k, x) :: r => by
    have ih := lookup_putF f g v r
    rw [show putF f v ((k, x) :: r) = (if k = f then (k, v) :: r else (k, x) :: putF f v r) from rfl]
    by_cases hk : k = f
    · rw [if_pos hk]
      by_cases h : g = k
      · have hb : (g == k) = true := beq_iff_eq.mpr h
        simp only [List.lookup, hb, if_pos (h.trans hk)]
      · have hb : (g == k) = false := beq_eq_false_iff_ne.mpr h
        simp only [List.lookup, hb, if_neg (fun e : g = f => h (e.trans hk.symm))]
    · rw [if_neg hk]
      by_cases h : g = k
      · have hb : (g == k) = true := beq_iff_eq.mpr h
        simp only [List.lookup, hb, if_neg (fun e : g = f => hk (h.symm.trans e))]
      · have hb : (g == k) = false := beq_eq_false_iff_ne.mpr h
        simp only [List.lookup, hb]
        exact ih
theorem keys_putF (f : Str) (v : V) : ∀ fs : List (Str × V), f ∈ (putF f v fs).map (·.1) ∧ ∀ g, g ∈ fs.map (·.1) → g ∈ (putF f v fs).map (·.1)
  | [] => ⟨by simp [putF], fun g h => by simp at h⟩
  | (k, x) :: r => by
    obtain ⟨i1, i2⟩ := keys_putF f v r
    rw [show putF f v ((k, x) :: r) = (if k = f then (k, v) :: r else (k, x) :: putF f v r) from rfl]
    by_cases hk : k = f
    · rw [if_pos hk]
      subst hk
      exact ⟨by simp, fun g h => by simpa using h⟩
    · rw [if_neg hk]
      refine ⟨?_, fun g h => ?_⟩
      · rw [List.map_cons]
        exact List.mem_cons_of_mem _ i1
      · rw [List.map_cons] at h ⊢
        rcases List.mem_cons.mp h with e | e
        · exact List.mem_cons.mpr (.inl e)
        · exact List.mem_cons_of_mem _ (i2 g e)
theorem length_putF (f : Str) (v : V) : ∀ fs : List (Str × V), (putF f v fs).length ≤ fs.length + 1
  | [] => by simp [putF]
  | (k, x) :: r => by
    have ih := length_putF f v r
    rw [show putF f v ((k, x) :: r) = (if k = f then (k, v) :: r else (k, x) :: putF f v r) from rfl]
    by_cases hk : k = f
    · rw [if_pos hk, List.length_cons, List.length_cons]; omega
    · rw [if_neg hk, List.length_cons, List.length_cons]; omega
theorem RelO.some_of {v : V} {o : Option Value} (r : RelO (some v) o) : ∃ u, o = some u ∧ RelV v u := by
  cases o with
  | none => exact (show False from r).elim
  | some u => exact ⟨u, rfl, r⟩
theorem RelO.none_of {o : Option Value} (r : RelO none o) : o = none := by
  cases o with
  | none => rfl
  | some u => exact (show False from r).elim
theorem handed_of {v : V} {u : Value} (r : RelV v u) : PySem.W.handedIn u = true := by
  cases v with
  | non => cases (show u = Value.none from r); rfl
  | bl b => cases (show u = Value.bool b from r); rfl
  | int i => obtain ⟨t, e⟩ := (show ∃ t, u = Value.int i t from r); cases e; rfl
  | str x => obtain ⟨t, e⟩ := (show ∃ t, u = Value.str x t from r); cases e; rfl
  | byt b => obtain ⟨t, e⟩ := (show ∃ t, u = Value.bytes b t from r); cases e; rfl
  | flt b => obtain ⟨t, e⟩ := (show ∃ t, u = Value.float b t from r); cases e; rfl
  | ref a => cases (show u = Value.ref a from r); rfl
  | ty n => cases (show u = Value.type n from r); rfl
section
variable {P : Program} {w : World} {H H' : Hp} {h h' : Heap} {a C dx : Addr} {fs fs' : List (Str × V)}
theorem ins_get (hok : HOk P w H h) (e : H a = some (.ins C dx fs)) : ∃ mA, ObjM h a dx C mA ∧ (∀ f, RelO (fs.lookup f) (mA f)) ∧ PySem.Within mA (fs.map (·.1)) ∧ fs.length ≤ 1000 ∧ H dx = some (.own a) := by
  obtain ⟨d, z, ne, ob, mA, n, r, q⟩ := (show ObjOk P w H h a (.ins C dx fs) from hok a _ e)
  exact ⟨mA, ⟨ob, n, ne⟩, r, q, z, d⟩
end
structure Cls (K : PySem.W.Frag) (C : Addr) : Prop where
  pg : PySem.W.plainGet K C Str.empty = true
  hd : PySem.W.hasDictIn K C = true
  po : PySem.W.plainOver K C = true
  sa : PySem.W.findIn K (.ref C) "__setattr__" = some (some (.builtin "object.__setattr__"))
theorem Cls.get {K : PySem.W.Frag} {C : Addr} (c : Cls K C) (f : Str) : PySem.W.plainGet K C f = true := c.pg
def NoAttr (K : PySem.W.Frag) (C : Addr) (f : Str) : Prop := PySem.W.findIn K (.ref C) f = some none
theorem NoAttr.taker {K : PySem.W.Frag} {C : Addr} {f : Str} (n : NoAttr K C f) : PySem.W.takerIn K C f = some none := by
  unfold PySem.W.takerIn
  rw [show PySem.W.findIn K (.ref C) f = some none from n]
  rfl
structure Con (K : PySem.W.Frag) (C : Addr) (f : Str) (v : V) (u : Value) : Prop where
  at_ : PySem.W.findIn K (.ref C) f = some (some u)
  rel : RelV v u
  get : PySem.W.specialIn K u "__get__" = some none
  cp : PySem.W.copiedNames.contains f = false
structure Meth (K : PySem.W.Frag) (C : Addr) (m : Str) (f : Addr) : Prop where
  at_ : PySem.W.findIn K (.ref C) m = some (some (.ref f))
  fn : PySem.W.isFn K (.ref f) = true
  kp : PySem.W.keepIn K (.ref f) = true
section
variable {X : Cx} {pins : List (Addr × Obj)} {σ : St} {H : Hp} {s : Shared} {a C dx : Addr} {fs : List (Str × V)} {f : Str} {v : V} {A : Around} {E : Value → Shared → Prop}
theorem getattr_ok {b : Bool} {Q : Value → Shared → Prop} (I : Inv X pins σ H s) (e : H a = some (.ins C dx fs)) (c : Cls X.K C) (n : NoAttr X.K C f) (l : fs.lookup f = some v)
    (h : ∀ u s', Inv X pins σ H s' → RelV v u → Q u s') : wpAny (model X.prog X.w) A (getAttr (.ref a) f b) Q E s := by
  obtain ⟨mA, O, r, _, _, _⟩ := ins_get I.hok e
  obtain ⟨u, hu, ru⟩ := RelO.some_of (v := v) (o := mA f) (by rw [← l]; exact r f)
  exact get_map I.kIn O (c.get f) c.hd n hu (handed_of ru) (h u _ (I.tok _) ru)
theorem getmeth_ok {m : Str} {g : Addr} {pl : Sem Bool} {Q : Value × List Value → Shared → Prop} (I : Inv X pins σ H s) (e : H a = some (.ins C dx fs)) (c : Cls X.K C) (k : Meth X.K C m g) (l : fs.lookup m = none)
    (h : Q (.ref g, [.ref a]) s) : wpAny (model X.prog X.w) A (getMethod (.ref a) m pl) Q E s := by
  obtain ⟨mA, O, r, _, _, _⟩ := ins_get I.hok e
  have hn : mA m = none := RelO.none_of (by rw [← l]; exact r m)
  exact get_meth I.kIn O (c.get m) k.at_ k.fn hn h
theorem setattr_ok {y : V} {u : Value} {Q : Unit → Shared → Prop} (I : Inv X pins σ H s) (e : H a = some (.ins C dx fs)) (c : Cls X.K C) (n : NoAttr X.K C f) (hl : fs.length < 1000) (ry : RelV y u)
    (h : ∀ s', Inv X pins σ (upd H a (.ins C dx (putF f y fs))) s' → Q () s') : wpAny (model X.prog X.w) A (setAttr (.ref a) f u) Q E s := by
  obtain ⟨mA, O, r, wi, _, ho⟩ := ins_get I.hok e
  have hz : (fs.map (·.1)).length ≤ sizeLine := by rw [List.length_map, sizeLine_eq]; omega
  refine set_map I.kIn O c.sa c.po n.taker c.hd wi hz fun h' O' sb => h _ ?_
  have hd : ∃ o, h'.get? dx = some o := let ⟨o, _, _, e', _⟩ := O'.ns; ⟨o, e'⟩
  refine I.write (x := a) (e := dx) (by rw [e]; exact True.intro) (.inr ho) (fun b q hb z => (sb.2 b hb).trans z) hd ?_
  refine ⟨by rw [upd_ne O.ne]; exact ho, ?_, O.ne, O'.obj, _, O'.ns, fun g => ?_, fun g hg => ?_⟩
  · have := length_putF f y fs; omega
  · show RelO ((putF f y fs).lookup g) (if g = f then some u else mA g)
    rw [lookup_putF]
    by_cases q : g = f
    · rw [if_pos q, if_pos q]; exact ry
    · rw [if_neg q, if_neg q]; exact r g
  · by_cases q : g = f
    · rw [q]; exact (keys_putF f y fs).1
    · refine (keys_putF f y fs).2 g (wi g fun z => hg ?_)
      show (if g = f then some u else mA g) = none
      rw [if_neg q]; exact z
theorem Inv.made (I : Inv X pins σ H s) : Inv X pins σ (upd (upd H s.heap.objs.size (.own (s.heap.objs.size + 1))) (s.heap.objs.size + 1) (.ins C s.heap.objs.size []))
    { s with heap := (s.heap.push PySem.W.emptyDict).push (PySem.W.instObj C s.heap.objs.size) } := by
  have e1 : (s.heap.push PySem.W.emptyDict).get? s.heap.objs.size = some PySem.W.emptyDict := Heap.get?_push_size s.heap rfl
  have e2 : ((s.heap.push PySem.W.emptyDict).push (PySem.W.instObj C s.heap.objs.size)).get? (s.heap.objs.size + 1) = some (PySem.W.instObj C s.heap.objs.size) := by
    have := Heap.get?_push_size (s.heap.push PySem.W.emptyDict) (o := PySem.W.instObj C s.heap.objs.size) rfl
    rwa [Heap.size_push] at this
  have e3 : (s.heap.push PySem.W.emptyDict).Ns s.heap.objs.size (fun _ => none) := ⟨PySem.W.emptyDict, #[], _, e1, rfl, (fun e he => absurd he (by simp)), fun _ => rfl⟩
  have I1 := I.laid (a := s.heap.objs.size) (o := .own (s.heap.objs.size + 1)) (h' := s.heap.push PySem.W.emptyDict) (t' := s.toks) (fun b u q => Heap.get?_push_of_some _ q) (Nat.le_refl _) ⟨_, e1⟩
  refine I1.laid (a := s.heap.objs.size + 1) (o := .ins C s.heap.objs.size []) (t' := s.toks) (fun b u q => Heap.get?_push_of_some _ q) (Nat.le_of_eq (Heap.size_push _ _)) ?_
  have ne : s.heap.objs.size ≠ s.heap.objs.size + 1 := Nat.ne_of_lt (Nat.lt_succ_self _)
  refine ⟨by rw [upd_ne ne, upd_same], Nat.zero_le _, ne, e2, fun _ => none, (Heap.Ns1.of_empty e3).at fun o q => Heap.get?_push_of_some _ q, fun _ => True.intro, fun y hy => absurd rfl hy⟩
theorem attr_of {prog : Program} {w : World} {env : Env} {e : Expr} {f : Str} {pos : Pos} {s : Shared} {Q : Value → Shared → Prop} (hb : attributeBase e f env (eval e env) = eval e env)
    (h : wpAny (model prog w) A (eval e env) (fun o s₁ => wpAny (model prog w) A (getAttr o f true) Q E s₁) E s) : wpAny (model prog w) A (eval (.Attribute e f pos) env) Q E s :=
  Attribute_any_ h (by rw [arm_eval_Attribute, hb])
end
def tFld (K : PySem.W.Frag) (ta : TE) (f : Str) : TE := fun σ H Q => ta σ H fun x H1 => ∃ a C dx fs v, x = .ref a ∧ H1 a = some (.ins C dx fs) ∧ Cls K C ∧ NoAttr K C f ∧ fs.lookup f = some v ∧ Q v H1
def sFld (K : PySem.W.Frag) (ta tv : TE) (f : Str) : TS := fun D σ H => tv σ H fun y H1 => ta σ H1 fun x H2 => ∃ a C dx fs, x = .ref a ∧ H2 a = some (.ins C dx fs) ∧ Cls K C ∧ NoAttr K C f ∧ fs.length < 1000 ∧
  D.nx σ (upd H2 a (.ins C dx (putF f y fs)))
def InOp (X : Cx) (op : Operator) (rd : V → V → Hp → VK → Prop) : Prop :=
  ∀ (pins : List (Addr × Obj)) (s : Shared) (σ : St) (H : Hp) (x y : V) (u v : Value) (Q : VK), Inv X pins σ H s → RelV x u → RelV y v → rd x y H Q → wpAny (model X.prog X.w) X.A (inplaceOp op u v) (EP X pins σ Q) X.xe s
def sFldAug (K : PySem.W.Frag) (ta tv : TE) (rd : V → V → Hp → VK → Prop) (f : Str) : TS := fun D σ H => ta σ H fun x H1 => ∃ a C dx fs v, x = .ref a ∧ H1 a = some (.ins C dx fs) ∧ Cls K C ∧ NoAttr K C f ∧ fs.lookup f = some v ∧
  tv σ H1 fun y H2 => rd v y H2 fun z H3 => ∃ dx' fs', H3 a = some (.ins C dx' fs') ∧ fs'.length < 1000 ∧ D.nx σ (upd H3 a (.ins C dx' (putF f z fs')))
section
variable {X : Cx} {o e value : Expr} {f : Str} {pos pos' tpos : Pos} {ta tv : TE}
theorem pe_fld (he : PE X e ta) (hb : attributeBase e f X.env (eval e X.env) = eval e X.env) : PE X (.Attribute e f pos) (tFld X.K ta f) := by
  intro pins s σ H Q I h
  refine attr_of hb (thn (he pins s σ H _ I h) fun u s1 ⟨x, H1, I1, rx, a, C, dx, fs, v, ex, ea, c, n, l, q⟩ => ?_)
  subst ex
  obtain rfl : u = Value.ref a := rx
  exact getattr_ok I1 ea c n l fun u' s2 I2 ru => ⟨v, H1, I2, ru, q⟩
theorem ps_fld (ha : PE X o ta) (hv : PE X value tv) (hs : swapsWith value (some (.Attribute o f pos')) pos.line X.env = pure false) : PS X (.Assign [.Attribute o f pos'] value pos) (sFld X.K ta tv f) := by
  intro pins s σ H D I h
  refine plainObj_wpAny_Assign_Attribute (thn (hv pins s σ H _ I h) fun u s1 ⟨y, H1, I1, ry, q⟩ => thn (ha pins s1 σ H1 _ I1 q) fun ov s2 ⟨x, H2, I2, rx, a, C, dx, fs, ex, ea, c, n, l, q2⟩ => ?_) hs
  subst ex
  obtain rfl : ov = Value.ref a := rx
  exact setattr_ok I2 ea c n l ry fun s3 I3 => ⟨σ, _, I3, q2⟩
theorem ps_fldaug {op : Operator} {rd : V → V → Hp → VK → Prop} (ha : PE X o ta) (hv : PE X value tv) (hop : InOp X op rd) : PS X (.AugAssign (.Attribute o f tpos) op value pos) (sFldAug X.K ta tv rd f) := by
  intro pins s σ H D I h
  refine wpAny_AugAssign_AttributeAny (thn (ha pins s σ H _ I h) fun ov s1 ⟨x, H1, I1, rx, a, C, dx, fs, v, ex, ea, c, n, l, q⟩ => ?_)
  subst ex
  obtain rfl : ov = Value.ref a := rx
  refine getattr_ok I1 ea c n l fun u s2 I2 ru => thn (hv pins s2 σ H1 _ I2 q) fun w3 s3 ⟨y, H2, I3, ry, q3⟩ => thn (hop pins s3 σ H2 v y u w3 _ I3 ru ry q3) fun w4 s4 ⟨z, H3, I4, rz, dx', fs', ea', l', q4⟩ => ?_
  exact setattr_ok I4 ea' c n l' rz fun s5 I5 => ⟨σ, _, I5, q4⟩
def rAdd : V → V → Hp → VK → Prop := fun x y H Q => ∃ i j, x = .int i ∧ y = .int j ∧ Q (.int (i + j)) H
theorem in_add : InOp X .Add rAdd := by
  rintro pins s σ H x y u v Q I rx ry ⟨i, j, rfl, rfl, q⟩
  obtain ⟨t, rfl⟩ := (show ∃ t, u = Value.int i t from rx)
  obtain ⟨t', rfl⟩ := (show ∃ t', v = Value.int j t' from ry)
  exact PyProof.Rows.iadd_int ⟨.int (i + j), H, I.tok _, ⟨_, rfl⟩, q⟩
end
section
variable {X : Cx} {pins : List (Addr × Obj)} {σ : St} {H : Hp} {s : Shared} {A : Around} {E : Value → Shared → Prop} {Q : Value → Shared → Prop} {c : Value} {b : Bool}
inductive TyOf (K : PySem.W.Frag) (H : Hp) : V → Value → Prop where
  | non : TyOf K H .non (.type "NoneType")
  | bl (x : Bool) : TyOf K H (.bl x) (.type "bool")
  | int (i : Int) : TyOf K H (.int i) (.type "int")
  | str (x : Str) : TyOf K H (.str x) (.type "str")
  | flt (x : UInt64) : TyOf K H (.flt x) (.type "float")
  | lst {a : Addr} {xs : List V} (e : H a = some (.lst xs)) : TyOf K H (.ref a) (.type "list")
  | frz {a : Addr} {o : Obj} {xs : List V} (e : H a = some (.frz o (.lst xs))) : TyOf K H (.ref a) (.type "list")
  | tup {a : Addr} {xs : List V} (e : H a = some (.tup xs)) : TyOf K H (.ref a) (.type "tuple")
  | dK {a : Addr} {kvs : List (Key × V)} (e : H a = some (.dK kvs)) : TyOf K H (.ref a) (.type "dict")
  | dT {a : Addr} {kvs : List (List Key × V)} (e : H a = some (.dT kvs)) : TyOf K H (.ref a) (.type "dict")
  | ins {a C dx : Addr} {fs : List (Str × V)} (e : H a = some (.ins C dx fs)) (cl : Cls K C) (ha : PySem.W.findIn K (.ref C) "__class__" = some (some (.builtin "object.__class__")))
      (hn : PySem.W.specialIn K (.builtin "object.__class__") "__get__" = some (some (.builtin "getset_descriptor.__get__"))) (htk : PySem.W.takesIn K (.builtin "object.__class__") = some true)
      (hm : PySem.W.mroIn K C (.type "object") = some true) : TyOf K H (.ref a) (.ref C)
theorem isinst_ok {x : V} {u t : Value} (I : Inv X pins σ H s) (rx : RelV x u) (ty : TyOf X.K H x t) (e : PySem.W.kitOne X.K t c = some b) (h : ∀ tk, Q (.bool b) { s with toks := tk }) :
    wpAny (model X.prog X.w) A (call (.builtin "isinstance") [u, c]) Q E s := by
  cases ty with
  | non => cases (show u = Value.none from rx); exact PySem.W.kia_one PySem.W.kitx_none I.kIn True.intro e (fun z => nomatch z) h
  | bl y => cases (show u = Value.bool y from rx); exact PySem.W.kia_one PySem.W.kitx_bool I.kIn True.intro e (fun z => nomatch z) h
  | int i => obtain ⟨t, q⟩ := (show ∃ t, u = Value.int i t from rx); cases q; exact PySem.W.kia_one PySem.W.kitx_int I.kIn True.intro e (fun z => nomatch z) h
  | str y => obtain ⟨t, q⟩ := (show ∃ t, u = Value.str y t from rx); cases q; exact PySem.W.kia_one PySem.W.kitx_str I.kIn True.intro e (fun z => nomatch z) h
  | flt y => obtain ⟨t, q⟩ := (show ∃ t, u = Value.float y t from rx); cases q; exact PySem.W.kia_one PySem.W.kitx_float I.kIn True.intro e (fun z => nomatch z) h
  | @lst a xs ea =>
    cases (show u = Value.ref a from rx)
    obtain ⟨_, _, n, _, h1⟩ := (show ObjOk X.prog X.w H s.heap a (.lst xs) from I.hok a _ ea)
    exact PySem.W.kia_one PySem.W.kitx_list I.kIn ⟨_, h1, rfl⟩ e (fun z => nomatch z) h
  | @frz a ob xs ea =>
    cases (show u = Value.ref a from rx)
    obtain ⟨_, _, _, n, _, h1⟩ := (show ObjOk X.prog X.w H s.heap a (.frz ob (.lst xs)) from I.hok a _ ea)
    exact PySem.W.kia_one PySem.W.kitx_list I.kIn ⟨_, h1, rfl⟩ e (fun z => nomatch z) h
  | @tup a xs ea =>
    cases (show u = Value.ref a from rx)
    obtain ⟨_, _, _, p⟩ := (show ObjOk X.prog X.w H s.heap a (.tup xs) from I.hok a _ ea)
    obtain ⟨o, h1, h2, _⟩ := p
    exact PySem.W.kia_one PySem.W.kitx_tuple I.kIn ⟨o, h1, h2⟩ e (fun z => nomatch z) h
  | @dK a kvs ea =>
    cases (show u = Value.ref a from rx)
    obtain ⟨_, _, vs, _, p⟩ := (show ObjOk X.prog X.w H s.heap a (.dK kvs) from I.hok a _ ea)
    obtain ⟨o, es, ep, h1, h2, _⟩ := p
    exact PySem.W.kia_one PySem.W.kitx_dict I.kIn ⟨o, h1, h2.1⟩ e (fun z => nomatch z) h
  | @dT a kvs ea =>
    cases (show u = Value.ref a from rx)
    obtain ⟨_, _, xs, _, o, es, ep, h1, h2, _⟩ := (show ObjOk X.prog X.w H s.heap a (.dT kvs) from I.hok a _ ea)
    exact PySem.W.kia_one PySem.W.kitx_dict I.kIn ⟨o, h1, h2.1⟩ e (fun z => nomatch z) h
  | @ins a C dx fs ea cl ha hn htk hm =>
    cases (show u = Value.ref a from rx)
    obtain ⟨mA, O, _⟩ := ins_get I.hok ea
    obtain ⟨od, J, _⟩ := O.look
    exact PySem.W.kia_one (PySem.W.kitx_own (cl.get _) cl.hd ha hn htk hm) I.kIn J e (fun z => nomatch z) h
end
end L2
namespace L2
open PySem PySem.Spec PyProof.Rows
structure Room (k : Nat) (A : Around) : Prop where
  hd : A.handled = none
  dp : A.depth + 3 * k + 5 < recursionLimit
  un : A.units + 16 * k + 200 < cLine
theorem Room.mono {j k : Nat} {A : Around} (r : Room k A) (h : j ≤ k) : Room j A := ⟨r.hd, by have := r.dp; omega, by have := r.un; omega⟩
theorem Room.deeper {k : Nat} {A : Around} (r : Room (k + 1) A) (env : Env) : Room k (A.deeper env) :=
  ⟨r.hd, by have := r.dp; show A.depth + 1 + 3 * k + 5 < _; omega, by have := r.un; show A.units + 3 + 16 * k + 200 < _; omega⟩
theorem Room.in1 {k : Nat} {A : Around} (r : Room (k + 1) A) : Room k A.in1 :=
  ⟨r.hd, by have := r.dp; show A.depth + 3 * k + 5 < _; omega, by have := r.un; show A.units + 1 + 16 * k + 200 < _; omega⟩
theorem make_depth {A : Around} {C : Addr} {us : List Value} {kw : List (Str × Value)} : (A.under (.builtin "type.__call__" ⟨.ref C :: us, kw⟩)).depth = A.depth + 1 := by
  first | rfl | simp [Around.under, Code.weight, Code.isCreation, Code.isGuard, Code.isCaller, Code.frames, Code.isFrame, guardIds]
theorem make_units {A : Around} {C : Addr} {us : List Value} {kw : List (Str × Value)} : (A.under (.builtin "type.__call__" ⟨.ref C :: us, kw⟩)).units = A.units + 1 := by
  first | rfl | simp [Around.under, Code.cUnits, Code.frames, Code.isFrame]
theorem Room.make {k : Nat} {A : Around} (r : Room (k + 1) A) (C : Addr) (us : List Value) (kw : List (Str × Value)) : Room k (A.under (.builtin "type.__call__" ⟨.ref C :: us, kw⟩)) :=
  ⟨r.hd, by have := r.dp; rw [make_depth]; omega, by have := r.un; rw [make_units]; omega⟩
theorem Room.depth {k : Nat} {A : Around} (r : Room k A) : A.depth < recursionLimit := by have := r.dp; omega
theorem Room.units {k : Nat} {A : Around} (r : Room k A) : A.units + 64 < cLine := by have := r.un; omega
def tNil : TA := fun _ H Q => Q [] H
def tCons (ta : TE) (tr : TA) : TA := fun σ H Q => ta σ H fun x H1 => tr σ H1 fun xs H2 => Q (x :: xs) H2
section
variable {X : Cx} {e : Expr} {es : List Expr} {te : TE} {t : TA} {pos : Pos}
theorem pa_nil : PA X [] tNil := fun _ _ _ _ H Q I h => Calls.spliced_nil ⟨[], H, I, .nil, h⟩
theorem pa_cons (ha : PE X e te) (hr : PA X es t) (hs : starEach (e :: es) X.env = (false, eval e X.env) :: starEach es X.env := by rfl) : PA X (e :: es) (tCons te t) := by
  intro pos pins s σ H Q I h
  rw [hs]
  show wpAny _ _ (spliced ((false, eval e X.env) :: backTo pos (starEach es X.env))) _ _ s
  refine Calls.spliced_cons (thn (ha pins s σ H _ I h) fun u s1 ⟨x, H1, I1, r1, q1⟩ => ?_)
  exact thn (hr pos pins s1 σ H1 _ I1 q1) fun us s2 ⟨xs, H2, I2, r2, q2⟩ => ⟨x :: xs, H2, I2, .cons r1 r2, q2⟩
def tTup (t : TA) : TE := fun σ H Q => t σ H fun xs H1 => xs.length ≤ sizeLine ∧ ∀ p, H1 p = none → Q (.ref p) (upd H1 p (.tup xs))
def tLst (t : TA) : TE := fun σ H Q => t σ H fun xs H1 => xs.length ≤ sizeLine ∧ ∀ p, H1 p = none → Q (.ref p) (upd H1 p (.lst xs))
theorem pe_tup {x1} (h : PA X es t) : PE X (.Tuple es x1 pos) (tTup t) := by
  intro pins s σ H Q I hq
  refine wpAny_Tuple_spliced (thn (h pos pins s σ H _ I hq) fun us s1 ⟨xs, H1, I1, r, z, q⟩ => ⟨by rw [← r.length]; exact z, ?_⟩)
  have hf : H1 s1.heap.objs.size = none := I1.hok.fresh (Nat.le_refl _)
  refine ⟨.ref s1.heap.objs.size, upd H1 s1.heap.objs.size (.tup xs), I1.laid (t' := s1.toks) (fun b u e => Heap.get?_push_of_some _ e) (Nat.le_refl _) ?_, rfl, q _ hf⟩
  exact ⟨z, us, r, ⟨_, Heap.get?_push_size _ rfl, rfl, _, rfl⟩⟩
theorem pe_lst (h : PA X es t) : PE X (.List es pos) (tLst t) := by
  intro pins s σ H Q I hq
  refine wpAny_List_spliced (thn (h pos pins s σ H _ I hq) fun us s1 ⟨xs, H1, I1, r, z, q⟩ => ⟨by rw [← r.length]; exact z, ?_⟩)
  have hf : H1 s1.heap.objs.size = none := I1.hok.fresh (Nat.le_refl _)
  refine ⟨.ref s1.heap.objs.size, upd H1 s1.heap.objs.size (.lst xs), I1.laid (t' := s1.toks) (fun b u e => Heap.get?_push_of_some _ e) (Nat.le_refl _) ?_, rfl, q _ hf⟩
  exact ⟨z, us, 0, r, Heap.get?_push_size _ rfl⟩
end
abbrev Sp := List V → Hp → VK → XK → Prop
abbrev CXT := List Env → Hp → Shared → XK → Value → Shared → Prop
structure Env0 (P : Program) (w : World) (K : PySem.W.Frag) (mg : Str → Option Value) (base : Heap) (A : Around) (outer : List Env) (s : Shared) (H : Hp) : Prop where
  frames : A.frames = some outer
  mod : Mod K mg base
  bs : ∀ b o, base.get? b = some o → s.heap.get? b = some o ∧ H b = none
  bsz : base.objs.size ≤ s.heap.objs.size
  funs : s.heap.FunFrames base outer
  frf : ∀ b ∈ frs outer, H b = none
  hok : HOk P w H s.heap
  bare : AllBare s.gens
def CE (outer : List Env) (P : Program) (w : World) (H : Hp) (s : Shared) (Q : VK) (u : Value) (s' : Shared) : Prop :=
  ∃ v H', s'.os = s.os ∧ AllBare s'.gens ∧ Un (frs outer) [] H H' s.heap s'.heap ∧ HOk P w H' s'.heap ∧ RelV v u ∧ Q v H'
def CR (CX : CXT) (outer : List Env) (P : Program) (w : World) (H : Hp) (s : Shared) (Q : VK) (E : XK) (r : Result) (s' : Shared) : Prop :=
  match r with
  | .ok (.ret u) => CE outer P w H s Q u s'
  | .ok _ => False
  | .error e => CX outer H s E e s'
structure FnOk (P : Program) (w : World) (K : PySem.W.Frag) (mg : Str → Option Value) (base : Heap) (CX : CXT) (k : Nat) (f : Addr) (fd : FuncData) (ps : List Str) (sp : Sp) : Prop where
  len : ∀ vs H Q E, sp vs H Q E → vs.length = ps.length
  run : ∀ (A : Around) (outer : List Env) (s : Shared) (H : Hp) (args : Args) (us : List Value) (vs : List V) (Q : VK) (E : XK), Room k A → Env0 P w K mg base A outer s H → BindsTo s fd args (ps.zip us) → Vals vs us → sp vs H Q E →
    codeAny (model P w) A (.call (.ref f) args) (CR CX outer P w H s Q E) s
theorem FnOk.mono {P : Program} {w : World} {K : PySem.W.Frag} {mg : Str → Option Value} {base : Heap} {CX : CXT} {j k : Nat} {f : Addr} {fd : FuncData} {ps : List Str} {sp : Sp} (F : FnOk P w K mg base CX j f fd ps sp) (h : j ≤ k) :
    FnOk P w K mg base CX k f fd ps sp := ⟨F.len, fun A outer s H args us vs Q E hr => F.run A outer s H args us vs Q E (hr.mono h)⟩
theorem FnOk.imp {P : Program} {w : World} {K : PySem.W.Frag} {mg : Str → Option Value} {base : Heap} {CX : CXT} {k : Nat} {f : Addr} {fd : FuncData} {ps : List Str} {sp sp' : Sp} (F : FnOk P w K mg base CX k f fd ps sp)
    (h : ∀ vs H Q E, sp' vs H Q E → sp vs H Q E) : FnOk P w K mg base CX k f fd ps sp' :=
  ⟨fun vs H Q E q => F.len vs H Q E (h _ _ _ _ q), fun A outer s H args us vs Q E hr he hb hv hs => F.run A outer s H args us vs Q E hr he hb hv (h _ _ _ _ hs)⟩
theorem Env0.make {P : Program} {w : World} {K : PySem.W.Frag} {mg : Str → Option Value} {base : Heap} {A : Around} {outer : List Env} {s : Shared} {H : Hp} (e : Env0 P w K mg base A outer s H) (C : Addr) (us : List Value) (kw : List (Str × Value)) :
    Env0 P w K mg base (A.under (.builtin "type.__call__" ⟨.ref C :: us, kw⟩)) outer s H := ⟨by first | exact e.frames | (simpa [Around.under, Code.envs, Code.isFrame, pushEnvs] using e.frames), e.mod, e.bs, e.bsz, e.funs, e.frf, e.hok, e.bare⟩
theorem Env0.in1 {P : Program} {w : World} {K : PySem.W.Frag} {mg : Str → Option Value} {base : Heap} {A : Around} {outer : List Env} {s : Shared} {H : Hp} (e : Env0 P w K mg base A outer s H) :
    Env0 P w K mg base A.in1 outer s H := ⟨e.frames, e.mod, e.bs, e.bsz, e.funs, e.frf, e.hok, e.bare⟩
section
variable {X : Cx} {pins : List (Addr × Obj)} {σ : St} {H : Hp} {s s' : Shared}
theorem Inv.env0 (I : Inv X pins σ H s) : Env0 X.prog X.w X.K X.mg X.base X.A X.stack s H :=
  ⟨I.ok.frames, I.ok.mod, I.bs, Nat.le_trans I.ok.bsz I.sz, I.stack, I.stkFree, I.hok, I.bare⟩
theorem Inv.after {Q : VK} {u : Value} (I : Inv X pins σ H s) (h : CE X.stack X.prog X.w H s Q u s') : EP X pins σ Q u s' := by
  obtain ⟨v, H', os, bare, un, hok, r, q⟩ := h
  obtain ⟨hh, g, d, t, os'⟩ := s'
  obtain rfl : os' = s.os := os
  exact ⟨v, H', I.call (h' := hh) (g' := g) (d' := d) (t' := t) (ch := []) un hok bare (fun b z => absurd z (by simp)), r, q⟩
end
def tCall (sp : Sp) (dvs : List V) (E : XK) (t : TA) : TE := fun σ H Q => t σ H fun vs H1 => sp (vs ++ dvs) H1 Q E
def tMeth (C : Addr) (m : Str) (sp : Sp) (dvs : List V) (E : XK) (ta : TE) (t : TA) : TE := fun σ H Q => ta σ H fun x H1 => ∃ a dx fs, x = .ref a ∧ H1 a = some (.ins C dx fs) ∧ fs.lookup m = none ∧
  t σ H1 fun vs H2 => sp (x :: (vs ++ dvs)) H2 Q E
def tMake (C : Addr) (sp : Sp) (dvs : List V) (E : XK) (t : TA) : TE := fun σ H Q => t σ H fun vs H1 => ∀ x dx, H1 x = none → H1 dx = none → dx ≠ x →
  sp (.ref x :: (vs ++ dvs)) (upd (upd H1 dx (.own x)) x (.ins C dx [])) (fun v H2 => v = .non ∧ Q (.ref x) H2) E
def Binds (K : PySem.W.Frag) (fd : FuncData) (ps : List Str) (ds : List Value) : Prop :=
  ∀ (s : Shared) (us : List Value), K.In s.heap → (us ++ ds).length = ps.length → BindsTo s fd ⟨us, []⟩ (ps.zip (us ++ ds))
theorem Binds.all {K : PySem.W.Frag} {fd : FuncData} {ps : List Str} (h : ∀ us : List Value, us.length = ps.length → bindArgs fd ⟨us, []⟩ = pure (ps.zip us)) : Binds K fd ps [] := fun s us _ hl => by
  rw [List.append_nil] at hl ⊢
  exact .of_eq (h us hl)
def Passes (CX : CXT) (X : Cx) (E : XK) : Prop := ∀ (pins : List (Addr × Obj)) (σ : St) (H : Hp) (s : Shared) (e : Value) (s' : Shared), Inv X pins σ H s → CX X.stack H s E e s' → X.xe e s'
section
variable {X : Cx} {CX : CXT} {k : Nat} {f C : Addr} {fd : FuncData} {ps : List Str} {sp : Sp} {dvs : List V} {ds : List Value} {E : XK} {x m : Str} {p pos apos : Pos} {e o : Expr} {es : List Expr} {ta : TE} {t : TA}
theorem run_fn {pins : List (Addr × Obj)} {σ : St} {H : Hp} {s : Shared} {Q : VK} {us : List Value} {vs : List V} (F : FnOk X.prog X.w X.K X.mg X.base CX k f fd ps sp) (hr : Room k X.A) (hb : Binds X.K fd ps ds) (hd : Vals dvs ds) (hx : Passes CX X E)
    (I : Inv X pins σ H s) (r : Vals vs us) (h : sp (vs ++ dvs) H Q E) : wpAny (model X.prog X.w) X.A (call (.ref f) us) (EP X pins σ Q) X.xe s := by
  have r2 : Vals (vs ++ dvs) (us ++ ds) := r.append hd
  have hl : (us ++ ds).length = ps.length := by rw [← r2.length]; exact F.len _ _ _ _ h
  refine wpAny_call (codeAny_mono (F.run X.A X.stack s H ⟨us, []⟩ (us ++ ds) (vs ++ dvs) Q E hr I.env0 (hb s us I.kIn hl) r2 h) fun r s' hq => ?_)
  cases r with
  | error e => exact hx pins σ H s e s' I hq
  | ok fl =>
    cases fl with
    | ret u => exact I.after hq
    | next => exact False.elim hq
    | brk => exact False.elim hq
    | cont => exact False.elim hq
theorem pe_call (F : FnOk X.prog X.w X.K X.mg X.base CX k f fd ps sp) (hr : Room k X.A) (hg : Gl X x) (hm : X.mg x = some (.ref f)) (hk : PySem.W.keepIn X.K (.ref f) = true) (hb : Binds X.K fd ps ds) (hd : Vals dvs ds) (hx : Passes CX X E)
    (ha : PA X (e :: es) t) (hdb : (x == ("__debug__" : Str)) = false := by decide) (he : starEach (e :: es) X.env = (false, eval e X.env) :: starEach es X.env := by rfl) (hpl : (backTo pos (starEach es X.env)).any (·.1) = false := by rfl) :
    PE X (.Call (.Name x p) (e :: es) [] pos) (tCall sp dvs E t) := by
  intro pins s σ H Q I h
  refine wpAny_Call_Name_kw (ld_glob I hg hm ?_ hdb)
  refine PySem.W.callWith_K (h₀ := X.base) I.ok.mod.kin hk (thn (ha pos pins s σ H _ I h) fun us s1 ⟨vs, H1, I1, r, q⟩ => ⟨I1.kIn, ?_⟩) he hpl
  exact run_fn F hr hb hd hx I1 r q
theorem pe_meth {pl : Sem Bool} (he : PE X o ta) (c : Cls X.K C) (hm : Meth X.K C m f) (F : FnOk X.prog X.w X.K X.mg X.base CX k f fd ps sp) (hr : Room k X.A) (hb : Binds X.K fd ps ds) (hd : Vals dvs ds) (hx : Passes CX X E) (ha : PA X (e :: es) t)
    (hst : starEach (e :: es) X.env = (false, eval e X.env) :: starEach es X.env := by rfl) (hpl : (backTo pos (starEach es X.env)).any (·.1) = false := by rfl)
    (ht : eval (.Call (.Attribute o m apos) (e :: es) [] pos) X.env = (do
      let ov ← eval o X.env
      standAt apos.atName
      let (f, first) ← holding [ov] (getMethod ov m pl)
      callWith pos f first (backTo pos (starEach (e :: es) X.env)) (backToKw pos (keywordEach [] X.env))) := by rfl) :
    PE X (.Call (.Attribute o m apos) (e :: es) [] pos) (tMeth C m sp dvs E ta t) := by
  intro pins s σ H Q I h
  refine PySem.W.methodCall_KW (pl := pl) (thn (he pins s σ H _ I h) fun u s1 ⟨x, H1, I1, rx, a, dx, fs, ex, ea, l, q⟩ => ?_) ht
  subst ex
  obtain rfl : u = Value.ref a := rx
  refine getmeth_ok I1 ea c hm l ?_
  refine PySem.W.callWith_K (first := [.ref a]) (h₀ := X.base) I.ok.mod.kin hm.kp (thn (ha pos pins s1 σ H1 _ I1 q) fun us s2 ⟨vs, H2, I2, r, q2⟩ => ⟨I2.kIn, ?_⟩) hst hpl
  exact run_fn (us := .ref a :: us) (vs := .ref a :: vs) F hr hb hd hx I2 (.cons rfl r) q2
structure Mk (K : PySem.W.Frag) (C f : Addr) : Prop where
  makes : PySem.W.makesIn K C = true
  init : PySem.W.findIn K (.ref C) "__init__" = some (some (.ref f))
  fn : PySem.W.isFn K (.ref f) = true
  kp : PySem.W.keepIn K (.ref C) = true
theorem run_make {pins : List (Addr × Obj)} {σ : St} {H : Hp} {s : Shared} {Q : VK} {us : List Value} {vs : List V} (M : Mk X.K C f) (F : FnOk X.prog X.w X.K X.mg X.base CX k f fd ps sp) (hr : Room (k + 1) X.A) (hb : Binds X.K fd ps ds) (hd : Vals dvs ds)
    (hx : Passes CX X E) (I : Inv X pins σ H s) (r : Vals vs us)
    (h : ∀ x dx, H x = none → H dx = none → dx ≠ x → sp (.ref x :: (vs ++ dvs)) (upd (upd H dx (.own x)) x (.ins C dx [])) (fun v H2 => v = .non ∧ Q (.ref x) H2) E) :
    wpAny (model X.prog X.w) X.A (call (.ref C) us) (EP X pins σ Q) X.xe s := by
  have hq := h (s.heap.objs.size + 1) s.heap.objs.size (I.hok.fresh (Nat.le_succ _)) (I.hok.fresh (Nat.le_refl _)) (Nat.ne_of_lt (Nat.lt_succ_self _))
  have I2 := Inv.made (C := C) I
  have r2 : Vals (V.ref (s.heap.objs.size + 1) :: (vs ++ dvs)) (Value.ref (s.heap.objs.size + 1) :: (us ++ ds)) := .cons rfl (r.append hd)
  have hl : (Value.ref (s.heap.objs.size + 1) :: us ++ ds).length = ps.length := by
    have e := r2.length
    rw [F.len _ _ _ _ hq] at e
    exact e.symm
  refine wpAny_call (make_map (f := f) I.kIn M.makes M.init (beq_iff_eq.mp M.fn) (codeAny_mono (F.run _ X.stack _ _ ⟨Value.ref (s.heap.objs.size + 1) :: us, []⟩ (Value.ref (s.heap.objs.size + 1) :: (us ++ ds)) _ _ E (hr.make C us [])
    (I2.env0.make C us []) (hb _ (Value.ref (s.heap.objs.size + 1) :: us) I2.kIn hl) r2 hq) fun r s' hq' => ?_))
  cases r with
  | error e => exact hx pins σ _ _ e s' I2 hq'
  | ok fl =>
    cases fl with
    | ret u =>
      obtain ⟨v, H', I3, rv, ev, q3⟩ := I2.after hq'
      subst ev
      exact ⟨rv, ⟨V.ref (s.heap.objs.size + 1), H', I3, rfl, q3⟩⟩
    | next => exact False.elim hq'
    | brk => exact False.elim hq'
    | cont => exact False.elim hq'
theorem pe_make (M : Mk X.K C f) (F : FnOk X.prog X.w X.K X.mg X.base CX k f fd ps sp) (hr : Room (k + 1) X.A) (hg : Gl X x) (hm : X.mg x = some (.ref C)) (hb : Binds X.K fd ps ds) (hd : Vals dvs ds) (hx : Passes CX X E)
    (ha : PA X (e :: es) t) (hdb : (x == ("__debug__" : Str)) = false := by decide) (he : starEach (e :: es) X.env = (false, eval e X.env) :: starEach es X.env := by rfl) (hpl : (backTo pos (starEach es X.env)).any (·.1) = false := by rfl) :
    PE X (.Call (.Name x p) (e :: es) [] pos) (tMake C sp dvs E t) := by
  intro pins s σ H Q I h
  refine wpAny_Call_Name_kw (ld_glob I hg hm ?_ hdb)
  refine PySem.W.callWith_K (h₀ := X.base) I.ok.mod.kin M.kp (thn (ha pos pins s σ H _ I h) fun us s1 ⟨vs, H1, I1, r, q⟩ => ⟨I1.kIn, ?_⟩) he hpl
  exact run_make M F hr hb hd hx I1 r q
end
section
variable {X : Cx} {CX : CXT} {k : Nat} {f C : Addr} {fd : FuncData} {ps ks : List Str} {sp : Sp} {E : XK} {x m : Str} {p pos apos kpos : Pos} {e o : Expr} {es : List Expr} {kws : List Keyword} {te ta : TE} {t tk : TA} {nm : Option Str}
structure KBinds (K : PySem.W.Frag) (fd : FuncData) (ps ks : List Str) (g : List Value → List Value → List Value) (gV : List V → List V → List V) : Prop where
  to : ∀ (s : Shared) (us ws : List Value), K.In s.heap → (g us ws).length = ps.length → BindsTo s fd ⟨us, ks.zip ws⟩ (ps.zip (g us ws))
  rel : ∀ {vs : List V} {us : List Value} {zs : List V} {ws : List Value}, Vals vs us → Vals zs ws → Vals (gV vs zs) (g us ws)
variable {g : List Value → List Value → List Value} {gV : List V → List V → List V}
end
structure FnScope (N P : List Str) (sc : Scope) : Prop where
  kind : sc.kind = .function
  co : sc.isCoroutine = false
  gen : sc.isGenerator = false
  nd : N.Nodup
  pre : N.take P.length = P
  par : ∀ x ∈ P, sc.names.lookup x = some .local ∨ sc.names.lookup x = some .cell
  nofree : ∀ y ∈ sc.names, y.2 ≠ .free
theorem bindL_out {kindOf : Str → Option NameKind} {x : Str} : ∀ {binds : List (Str × Value)} {m : Str → Option Value}, (∀ v, (x, v) ∉ binds) → bindL kindOf binds m x = m x
  | [], _, _ => rfl
  | (n, v) :: r, m, h => by
    unfold bindL
    rw [bindL_out fun w hw => h w (List.mem_cons_of_mem _ hw)]
    split
    · have : x ≠ n := by rintro rfl; exact h v List.mem_cons_self
      simp [this]
    · rfl
theorem bindC_out {kindOf : Str → Option NameKind} {x : Str} : ∀ {binds : List (Str × Value)} {m : Str → Option Value}, (∀ v, (x, v) ∉ binds) → bindC kindOf binds m x = m x
  | [], _, _ => rfl
  | (n, v) :: r, m, h => by
    unfold bindC
    rw [bindC_out fun w hw => h w (List.mem_cons_of_mem _ hw)]
    split
    · rfl
    · have : x ≠ n := by rintro rfl; exact h v List.mem_cons_self
      simp [this]
theorem bindL_get {kindOf : Str → Option NameKind} {x : Str} {v : Value} : ∀ {P : List Str} {vs : List Value} {i : Nat} {m : Str → Option Value}, P.Nodup → P[i]? = some x → vs[i]? = some v → kindOf x = some .local →
    bindL kindOf (P.zip vs) m x = some v
  | [], _, _, _, _, h, _, _ => by simp at h
  | _ :: _, [], _, _, _, _, h, _ => by simp at h
  | p :: P, w :: vs, 0, m, nd, h1, h2, hk => by
    simp at h1 h2; subst h1; subst h2
    show bindL kindOf ((p, w) :: P.zip vs) m p = _
    unfold bindL
    rw [bindL_out fun v hv => (List.nodup_cons.mp nd).1 (List.of_mem_zip hv).1, if_pos hk]
    simp
  | p :: P, w :: vs, i + 1, m, nd, h1, h2, hk => by
    show bindL kindOf ((p, w) :: P.zip vs) m x = _
    unfold bindL
    exact bindL_get (i := i) (List.nodup_cons.mp nd).2 (by simpa using h1) (by simpa using h2) hk
theorem bindC_get {kindOf : Str → Option NameKind} {x : Str} {v : Value} : ∀ {P : List Str} {vs : List Value} {i : Nat} {m : Str → Option Value}, P.Nodup → P[i]? = some x → vs[i]? = some v → kindOf x ≠ some .local →
    bindC kindOf (P.zip vs) m x = some v
  | [], _, _, _, _, h, _, _ => by simp at h
  | _ :: _, [], _, _, _, _, h, _ => by simp at h
  | p :: P, w :: vs, 0, m, nd, h1, h2, hk => by
    simp at h1 h2; subst h1; subst h2
    show bindC kindOf ((p, w) :: P.zip vs) m p = _
    unfold bindC
    rw [bindC_out fun v hv => (List.nodup_cons.mp nd).1 (List.of_mem_zip hv).1, if_neg hk]
    simp
  | p :: P, w :: vs, i + 1, m, nd, h1, h2, hk => by
    show bindC kindOf ((p, w) :: P.zip vs) m x = _
    unfold bindC
    exact bindC_get (i := i) (List.nodup_cons.mp nd).2 (by simpa using h1) (by simpa using h2) hk
def start (N : List Str) (vs : List V) : St := vs.map some ++ List.replicate (N.length - vs.length) none
def cxOf (CX : CXT) (P : Program) (w : World) (K : PySem.W.Frag) (mg : Str → Option Value) (base : Heap) (N : List Str) (qual : Str) (scope : Scope) (f : Addr) (cd : Value) (A : Around) (outer : List Env) (s : Shared) (H : Hp) (E : XK) : Cx where
  prog := P
  w := w
  K := K
  mg := mg
  base := base
  A := A.deeper (envOfC qual scope s.heap.objs.size f cd)
  N := N
  s₀ := s
  H₀ := H
  env := envOfC qual scope s.heap.objs.size f cd
  outer := outer
  stack := envOfC qual scope s.heap.objs.size f cd :: outer
  ex := []
  calm := true
  fn := fun _ => true
  pn := []
  xe := fun e s' => wpAny (model P w) (A.deeper (envOfC qual scope s.heap.objs.size f cd)) (leaving (envOfC qual scope s.heap.objs.size f cd) e) (fun _ s'' => CX outer H s E e s'') (fun e' s'' => CX outer H s E e' s'') s'
theorem cell_has {sc : Scope} {n : Nat} {x : Str} (h : sc.names.lookup x = some .cell) : ∃ c, (cellsFrom n sc.names []).lookup x = some c := by
  have q := PySem.W.cellsFrom_some sc.names n [] (.inl h)
  exact Option.isSome_iff_exists.mp q
theorem inv_start {CX : CXT} {P : Program} {w : World} {K : PySem.W.Frag} {mg : Str → Option Value} {base : Heap} {N ps : List Str} {qual : Str} {scope : Scope} {f : Addr} {cd : Value} {A : Around} {outer : List Env} {s s1 : Shared} {H : Hp} {E : XK} {us : List Value} {vs : List V}
    (S : FnScope N ps scope) (hd : A.handled = none) (e0 : Env0 P w K mg base A outer s H) (hl : vs.length = ps.length) (r : Vals vs us)
    (x : InCallC s s.heap.objs.size (bindL (envOfC qual scope s.heap.objs.size f cd).kindOf (ps.zip us) fun _ => none) (cellsFrom (s.heap.objs.size + 1) scope.names []) (bindC (envOfC qual scope s.heap.objs.size f cd).kindOf (ps.zip us) fun _ => none) s1) :
    Inv (cxOf CX P w K mg base N qual scope f cd A outer s H E) [] (start N vs) H s1 := by
  have hpl : ps.length ≤ N.length := by have := congrArg List.length S.pre; rw [List.length_take] at this; omega
  obtain ⟨h1, tk, rfl, hk⟩ := x.done
  have noA : ∀ b : Addr, b ∉ (cxOf CX P w K mg base N qual scope f cd A outer s H E).ex := fun b z => absurd (show b ∈ ([] : List Addr) from z) (by simp)
  refine ⟨⟨e0.mod, S.kind, rfl, rfl, Nat.le_refl _, fun y z c h1 h2 => ?_, fun y hy => ?_, fun y c _ h => ?_, fun _ => hd, Around.frames_deeper e0.frames, .inr ⟨rfl, rfl⟩, fun b z => absurd z (noA b), e0.bs, e0.bsz, fun b _ _ => noA b, fun b z => absurd z (noA b), e0.funs, e0.frf⟩,
    rfl, e0.bare, Un.kept hk, ⟨_, x.toInCall.ns, fun i y v h1 h2 h3 => ?_⟩, fun y c h => ⟨_, x.cell y c h⟩, e0.hok.fresh (Nat.le_refl _), fun y c h => ?_, fun p hp => absurd (show p ∈ ([] : List (Addr × Obj)) from hp) (by simp), e0.hok.kept hk, ?_⟩
  · exact name_of_addr x.apart (PySem.mem_of_lookup h1) (PySem.mem_of_lookup h2)
  · have hy : scope.names.lookup y = some .cell ∨ scope.names.lookup y = some .free := hy
    rcases hy with hy | hy
    · exact cell_has hy
    · exact absurd rfl (S.nofree _ (PySem.mem_of_lookup hy))
  · exact Nat.le_of_lt (x.above y c (PySem.mem_of_lookup h))
  · have hi : i < vs.length := by
      unfold start at h2
      by_cases hi : i < vs.length
      · exact hi
      · rw [List.getElem?_append_right (by simpa using hi)] at h2
        rw [List.getElem?_replicate] at h2
        split at h2 <;> cases h2
    have ha : vs[i]? = some v := by
      unfold start at h2
      rw [List.getElem?_append_left (by simpa using hi), List.getElem?_map] at h2
      cases e : vs[i]? with
      | none => rw [e] at h2; cases h2
      | some a => rw [e] at h2; cases h2; rfl
    obtain ⟨u, hu, rv⟩ := r.get ha
    have hp : ps[i]? = some y := by
      rw [← S.pre, List.getElem?_take_of_lt (by omega)]; exact h1
    have ndP : ps.Nodup := by rw [← S.pre]; exact S.nd.sublist (List.take_sublist _ _)
    refine ⟨u, rv, ?_⟩
    rcases S.par y (List.mem_of_getElem? hp) with k | k
    · exact .inl ⟨k, bindL_get ndP hp hu k⟩
    · obtain ⟨c, e⟩ := cell_has (n := s.heap.objs.size + 1) k
      refine .inr ⟨.inl k, c, e, ?_⟩
      have q := x.cell y c e
      rw [bindC_get ndP hp hu (by show scope.names.lookup y ≠ _; rw [k]; decide)] at q
      exact q
  · exact e0.hok.fresh (Nat.le_of_lt (x.above y c (PySem.mem_of_lookup h)))
  · unfold start
    show _ = N.length
    rw [List.length_append, List.length_map, List.length_replicate]
    omega
theorem fn_of {CX : CXT} {P : Program} {w : World} {K : PySem.W.Frag} {mg : Str → Option Value} {base : Heap} {k : Nat} {f : Addr} {name qual : Str} {params : Arguments} {body : List Stmt} {scope : Scope} {dV kV doc pm cdv ct oc : Value} {an od : Option Addr}
    {osl : Array (Option Value)} {N ps : List Str} {sp : Sp} (lk : K.lookup f = some ⟨oc, od, .func (PySem.W.fnOf name qual params body scope dV kV doc pm an cdv ct), osl⟩) (hcd : PySem.W.codeIn K cdv qual = true) (S : FnScope N ps scope)
    (len : ∀ vs H Q E, sp vs H Q E → vs.length = ps.length)
    (hbody : ∀ (A : Around) (outer : List Env) (s : Shared) (H : Hp) (vs : List V) (Q : VK) (E : XK), Room k (A.deeper (envOfC qual scope s.heap.objs.size f cdv)) → sp vs H Q E →
      ∃ t, PSs (cxOf CX P w K mg base N qual scope f cdv A outer s H E) body t ∧ t { nx := fun _ H' => Q .non H', rt := Q } (start N vs) H) :
    FnOk P w K mg base CX (k + 1) f (PySem.W.fnOf name qual params body scope dV kV doc pm an cdv ct) ps sp := by
  refine ⟨len, fun A outer s H args us vs Q E hr e0 hb r hsp => ?_⟩
  have hl := len _ _ _ _ hsp
  have KX : K.In s.heap := e0.mod.kin.keeps fun b o e => (e0.bs b o e).1
  have lim : s.heap.NoLimit := e0.mod.nolimit.keeps fun b o e => (e0.bs b o e).1
  have hkind : ∀ y ∈ ps.zip us, scope.names.lookup y.1 = some .local ∨ (scope.names.lookup y.1 = some .cell ∧ ((cellsFrom (s.heap.objs.size + 1) scope.names []).lookup y.1).isSome = true) := fun ⟨n, v⟩ hy => by
    rcases S.par n (List.of_mem_zip hy).1 with q | q
    · exact .inl q
    · exact .inr ⟨q, PySem.W.cellsFrom_some _ _ _ (.inl q)⟩
  refine codeAny_call_function hr.depth (KX _ _ lk) rfl S.co S.gen rfl (PySem.W.codeRec_of KX hcd) (hb _ _ _ _ ?_)
  refine wpAny_newFunctionEnv_cells S.kind hkind fun env he s1 x => ?_
  subst he
  refine ⟨lim.keeps x.toInCall.keep, codeAny_func ?_⟩
  obtain ⟨t, ht, hq⟩ := hbody A outer s H vs Q E (hr.deeper _) hsp
  have I : Inv (cxOf CX P w K mg base N qual scope f cdv A outer s H E) [] (start N vs) H s1 := inv_start S hr.hd e0 hl r x
  refine wpAny_mono (ht [] s1 (start N vs) H _ I hq) (fun fl s' hs => ?_) fun e s' hs => hs
  have fin : ∀ {σ' : St} {H' : Hp} {v : V} {u : Value}, Inv (cxOf CX P w K mg base N qual scope f cdv A outer s H E) [] σ' H' s' → RelV v u → Q v H' → CE outer P w H s Q u s' :=
    fun {σ' H' v u} J rv q => ⟨v, H', J.os, J.bare, J.base, J.hok, rv, q⟩
  cases fl with
  | ret u =>
    obtain ⟨v, σ', H', J, rv, q⟩ := hs
    exact fin J rv q
  | next =>
    obtain ⟨σ', H', J, q⟩ := hs
    exact fin (v := V.non) (u := Value.none) J rfl q
  | brk =>
    obtain ⟨_, _, _, q⟩ := hs
    exact False.elim q
  | cont =>
    obtain ⟨_, _, _, q⟩ := hs
    exact False.elim q
end L2
namespace L2
open PySem PySem.Spec PyProof.Rows
section
variable {X : Cx} {x : Str} {p pos : Pos} {e : Expr} {es : List Expr} {t : TA} {id T : String} {r : List V → Hp → VK → Prop}
def tCB (r : List V → Hp → VK → Prop) (t : TA) : TE := fun σ H Q => t σ H fun vs H1 => r vs H1 Q
theorem pe_callB (hc : CallR X (.builtin id) r) (hg : Gl X x) (hm : X.mg x = none) (hv : bootBuiltins x = some (.builtin id)) (ha : PA X (e :: es) t) (hn : x ≠ "__name__" := by decide) (hdb : (x == ("__debug__" : Str)) = false := by decide)
    (he : starEach (e :: es) X.env = (false, eval e X.env) :: starEach es X.env := by rfl) (hpl : (backTo pos (starEach es X.env)).any (·.1) = false := by rfl) : PE X (.Call (.Name x p) (e :: es) [] pos) (tCB r t) := by
  intro pins s σ H Q I h
  refine wpAny_Call_Name_kw (ld_blt I hg hm hv ?_ hn hdb)
  exact PyProof.Rows.callWith_builtin1 (thn (ha pos pins s σ H _ I h) fun us s1 ⟨vs, H1, I1, r1, q1⟩ => hc pins s1 σ H1 vs us Q I1 r1 q1) he hpl
theorem pe_callTy (hc : CallR X (.type T) r) (hg : Gl X x) (hm : X.mg x = none) (hv : bootBuiltins x = some (.type T)) (ha : PA X (e :: es) t) (hn : x ≠ "__name__" := by decide) (hdb : (x == ("__debug__" : Str)) = false := by decide)
    (he : starEach (e :: es) X.env = (false, eval e X.env) :: starEach es X.env := by rfl) (hpl : (backTo pos (starEach es X.env)).any (·.1) = false := by rfl) : PE X (.Call (.Name x p) (e :: es) [] pos) (tCB r t) := by
  intro pins s σ H Q I h
  refine wpAny_Call_Name_kw (ld_blt I hg hm hv ?_ hn hdb)
  exact PyProof.Rows.callWith_type1 (thn (ha pos pins s σ H _ I h) fun us s1 ⟨vs, H1, I1, r1, q1⟩ => hc pins s1 σ H1 vs us Q I1 r1 q1) he hpl
end
end L2
namespace HT
open PySem PyProof.Rows
section
open PySem.SeqAt
open PySem.AutoSeq1 (wpAny_loadPart')
open PySem.MeetsSeq PySem.MeetsSeq2 PySem.MeetsSeq3
end
section
variable {prog : Program} {w : World} {A : Around} {E : Value → Shared → Prop} {s : Shared}
theorem cat_tup {t b : Addr} {vs ws : List Value} {Q : Value → Shared → Prop} (ht : IsTup s.heap t vs.toArray) (hb : IsTup s.heap b ws.toArray) (hv : vs ≠ [])
    (h1 : ws = [] → Q (.ref t) s) (h2 : ws ≠ [] → Q (.ref s.heap.objs.size) { s with heap := s.heap.push { cls := .type "tuple", data := .seq (vs ++ ws).toArray } })
    (hsz : vs.length + ws.length ≤ sizeLine) : wpAny (model prog w) A (binaryOp .Add (.ref t) (.ref b)) Q E s := by
  obtain ⟨⟨cls, dd, data, sl⟩, ho, hc, n, hd⟩ := id ht
  obtain ⟨⟨cls2, dd2, data2, sl2⟩, ho2, hc2, n2, hd2⟩ := id hb
  simp only at hc hd hc2 hd2
  subst hc hd hc2 hd2
  have e : vs.toArray ++ ws.toArray = (vs ++ ws).toArray := by simp
  by_cases hw : ws = []
  · exact concat_meets ⟨_, ho, rfl⟩ ⟨_, ho2, rfl⟩ noFill_tuple_add seq_tuple_add PySem.F.slot_tuple_add PySem.F.entry_tuple_add (PySem.F.args_tuple_add_2 _ _)
      (tuple_addW1 t b vs.toArray ws.toArray n n2 dd dd2 sl sl2 (by simpa using hv) (by simp [hw])) ⟨ho, ho2, h1 hw⟩
  · refine concat_meets ⟨_, ho, rfl⟩ ⟨_, ho2, rfl⟩ noFill_tuple_add seq_tuple_add PySem.F.slot_tuple_add PySem.F.entry_tuple_add (PySem.F.args_tuple_add_2 _ _)
      (tuple_addW2 t b vs.toArray ws.toArray n n2 dd dd2 sl sl2 (by simpa using hv) (by simpa using hw) (by rw [List.size_toArray, List.size_toArray]; exact hsz)) ⟨ho, ho2, ?_⟩
    rw [e]
    exact h2 hw
def sIx (n d : Nat) : Option Int → Nat
  | none => d
  | some v => if v < 0 then (v + (n : Int)).toNat else min v.toNat n
theorem sIx_none (n d : Nat) : sIx n d none = d := rfl
theorem sIx_nat (n d k : Nat) : sIx n d (some (k : Int)) = min k n := by
  show (if (k : Int) < 0 then ((k : Int) + (n : Int)).toNat else min (k : Int).toNat n) = min k n
  rw [if_neg (by omega), Int.toNat_natCast]
theorem sIx_le (n d : Nat) (hd : d ≤ n) (o : Option Int) : sIx n d o ≤ n := by
  cases o with
  | none => exact hd
  | some v =>
    show (if v < 0 then (v + (n : Int)).toNat else min v.toNat n) ≤ n
    by_cases hv : v < 0
    · rw [if_pos hv]; omega
    · rw [if_neg hv]; exact Nat.min_le_right _ _
theorem clip_eq (v : Int) (n d : Nat) : (if v < 0 then max (v + (n : Int)) 0 else min v (n : Int)) = ((sIx n d (some v) : Nat) : Int) := by
  show (if v < 0 then max (v + (n : Int)) 0 else min v (n : Int)) = (((if v < 0 then (v + (n : Int)).toNat else min v.toNat n) : Nat) : Int)
  by_cases hv : v < 0
  · simp only [if_pos hv]; omega
  · simp only [if_neg hv]; omega
theorem adjust_gen (lo hi : Option Int) (n : Nat) : Builtin.Slice.sliceAdjust lo hi 1 (n : Int) = (((sIx n 0 lo : Nat) : Int), ((sIx n n hi : Nat) : Int)) := by
  have h1 : ¬ ((1 : Int) < 0) := by omega
  unfold Builtin.Slice.sliceAdjust
  simp only [h1, if_false]
  refine Prod.ext ?_ ?_
  · cases lo with
    | none => rfl
    | some v => exact clip_eq v n 0
  · cases hi with
    | none => rfl
    | some v => exact clip_eq v n n
theorem places_gen (i j : Nat) : Builtin.Slice.slicePlaces (i : Int) (j : Int) 1 = j - i := by
  unfold Builtin.Slice.slicePlaces
  have h1 : (1 : Int) > 0 := by omega
  simp only [h1, if_true, Int.ediv_one]
  split <;> omega
theorem slicePart_ {v : Value} {o : Option Int} {Q : Option Int → Shared → Prop} (p : IsPart v o) (h : Q o s) : wpAny (model prog w) A (Builtin.Slice.slicePartIndex v) Q E s := by
  cases p with
  | none => exact slicePart_none h
  | int i t => exact slicePart_int h
theorem sliceApplied_gen {sl : Addr} {vl vu : Value} {lo hi : Option Int} {n : Nat} {Q : Int × Int × Nat → Shared → Prop} (hs : s.heap.IsSliceOf sl vl vu .none) (pl : IsPart vl lo) (pu : IsPart vu hi)
    (h : Q (((sIx n 0 lo : Nat) : Int), 1, sIx n n hi - sIx n 0 lo) s) : wpAny (model prog w) A (Builtin.Slice.sliceApplied (.ref sl) (pure (n : Int))) Q E s := by
  obtain ⟨os, hos, hcs, hds⟩ := id hs
  unfold Builtin.Slice.sliceApplied Builtin.Slice.sliceFields
  refine wpAny_bind (wpAny_bind (wpAny_field hos hds (x := vl) rfl (wpAny_bind (wpAny_field hos hds (x := vu) rfl (wpAny_bind (wpAny_field hos hds (x := .none) rfl (wpAny_pure ?_)))))))
  refine wpAny_bind (slicePart_none ?_)
  show wpAny _ _ (if ((1 : Int) == 0) = true then _ else _) _ _ s
  rw [if_neg (by decide)]
  refine wpAny_bind (slicePart_ pl (wpAny_bind (slicePart_ pu (wpAny_bind (wpAny_pure ?_)))))
  show wpAny _ _ (match Builtin.Slice.sliceAdjust lo hi 1 (n : Int) with | (lo, hi) => pure (lo, (1 : Int), Builtin.Slice.slicePlaces lo hi 1)) _ _ s
  rw [adjust_gen lo hi n]
  show wpAny _ _ (pure (((sIx n 0 lo : Nat) : Int), (1 : Int), Builtin.Slice.slicePlaces ((sIx n 0 lo : Nat) : Int) ((sIx n n hi : Nat) : Int) 1)) _ _ s
  rw [places_gen]
  exact wpAny_pure h
theorem pick_gen (xs : Array Value) (i k : Nat) : ((List.range k).filterMap fun (m : Nat) => xs[((i : Int) + (m : Int) * 1).toNat]?).toArray = ((xs.toList.drop i).take k).toArray := by
  have e : (fun (m : Nat) => xs[((i : Int) + (m : Int) * 1).toNat]?) = fun m => xs[i + m]? := by
    funext m
    have : ((i : Int) + (m : Int) * 1).toNat = i + m := by omega
    rw [this]
  rw [e]
  have := pick_run xs i k
  rw [List.filterMap_map] at this
  have e2 : ((fun x => xs[x]?) ∘ fun x => i + x) = fun m => xs[i + m]? := rfl
  rw [e2] at this
  rw [this]
theorem getItem_tuple_cut {t sl : Addr} {items : Array Value} {vl vu : Value} {lo hi : Option Int} {Q : Value → Shared → Prop} (ht : IsTup s.heap t items) (hs : s.heap.IsSliceOf sl vl vu .none) (pl : IsPart vl lo) (pu : IsPart vu hi)
    (hw : ¬ (sIx items.size 0 lo = 0 ∧ sIx items.size items.size hi = items.size))
    (h : Q (.ref s.heap.objs.size) { s with heap := s.heap.push { cls := .type "tuple", data := .seq ((items.toList.drop (sIx items.size 0 lo)).take (sIx items.size items.size hi - sIx items.size 0 lo)).toArray } })
    (hsz : items.size ≤ sizeLine) : wpAny (model prog w) A (getItem (.ref t) (.ref sl)) Q E s := by
  have htake : sizeOk (.seq ((items.toList.drop (sIx items.size 0 lo)).take (sIx items.size items.size hi - sIx items.size 0 lo)).toArray) := by
    show ((items.toList.drop (sIx items.size 0 lo)).take (sIx items.size items.size hi - sIx items.size 0 lo)).toArray.size ≤ sizeLine
    rw [List.size_toArray, List.length_take, List.length_drop, Array.length_toList]
    omega
  have hj : sIx items.size items.size hi ≤ items.size := sIx_le _ _ (Nat.le_refl _) hi
  obtain ⟨os, hos, hcs, hds⟩ := id hs
  have hTs : s.TypeIs (.ref sl) "slice" := ⟨os, hos, hcs⟩
  unfold getItem
  try with_reducible refine wpAny_holding ?_
  first | refine wpAny_bind (wpAny_pure ?_) | skip
  refine wpAny_bind (wpAny_sequenceKey ht.typeIs (by decide) ?_)
  refine wpAny_bind (wpAny_callSpecial?_slot (name := Str.ofString "__getitem__") ht.typeIs PyProof.Rows.slot_tuple_getitem
    (wpAny_call_entry PyProof.Rows.slot_tuple_getitem ht.typeIs entry_tuple_getitem ?_ (args_tuple_getitem _ _)))
  show wpAny _ _ (Builtin.Tuple.tupleItemsOf (.ref t) >>= _) _ _ s
  refine wpAny_bind (tupleItemsOf_ ht ?_)
  refine wpAny_bind (wpAny_typeOf hTs ?_)
  rw [if_pos (by decide)]
  refine wpAny_bind (sliceApplied_gen hs pl pu ?_)
  have hno : ¬ ((((sIx items.size 0 lo : Nat) : Int) == 0 && (1 : Int) == 1 && (sIx items.size items.size hi - sIx items.size 0 lo) == items.size) = true) := by
    intro q
    rw [Bool.and_eq_true, Bool.and_eq_true] at q
    have q1 : ((sIx items.size 0 lo : Nat) : Int) = 0 := eq_of_beq q.1.1
    have q2 : sIx items.size items.size hi - sIx items.size 0 lo = items.size := eq_of_beq q.2
    exact hw ⟨by omega, by omega⟩
  show wpAny _ _ (if (((sIx items.size 0 lo : Nat) : Int) == 0 && (1 : Int) == 1 && (sIx items.size items.size hi - sIx items.size 0 lo) == items.size) = true then _ else _) _ _ s
  rw [if_neg hno, pick_gen]
  first
    | exact wpAny_bind (m := Builtin.Tuple.tupleExact _) (wpAny_newObj_type (wpAny_pure ⟨_, rfl, wpAny_pure h⟩) htake)
    | exact wpAny_bind (m := Builtin.Tuple.tupleExact _) (wpAny_newObj_type (wpAny_bind (wpAny_pure (wpAny_pure ⟨_, rfl, wpAny_pure h⟩))) htake)
    | exact wpAny_bind (wpAny_bind (m := Builtin.Tuple.tupleExact _) (wpAny_newObj_type (wpAny_pure (wpAny_pure ⟨_, rfl, wpAny_pure h⟩)) htake))
    | exact wpAny_bind (wpAny_bind (m := Builtin.Tuple.tupleExact _) (wpAny_newObj_type (wpAny_pure ⟨_, rfl, wpAny_pure h⟩) htake))
end
end HT
namespace L2
open PySem PySem.Spec PyProof.Rows
abbrev TO := St → Hp → (Option Int → Hp → Prop) → Prop
def PO (X : Cx) (e : Option Expr) (t : TO) : Prop :=
  ∀ (pins : List (Addr × Obj)) (s : Shared) (σ : St) (H : Hp) (Q : Option Int → Hp → Prop), Inv X pins σ H s → t σ H Q →
    wpAny (model X.prog X.w) X.A (evalPart e X.env) (fun u s' => ∃ o H', Inv X pins σ H' s' ∧ IsPart u o ∧ Q o H') X.xe s
def tNoPart : TO := fun _ H Q => Q none H
def tPart (t : TE) : TO := fun σ H Q => t σ H fun x H1 => ∃ i, x = .int i ∧ Q (some i) H1
section
variable {X : Cx} {e : Expr} {te : TE} {lo hi : Option Expr} {tl th : TO} {pos p2 : Pos}
theorem po_none : PO X none tNoPart := by
  intro pins s σ H Q I h
  rw [evalPart_none]
  exact wpAny_pure ⟨none, H, I, .none, h⟩
theorem po_some (h : PE X e te) : PO X (some e) (tPart te) := by
  intro pins s σ H Q I hw
  rw [evalPart_some]
  refine thn (h pins s σ H _ I hw) fun u s1 ⟨x, H1, I1, r1, q1⟩ => ?_
  obtain ⟨i, rfl, q⟩ := q1
  obtain ⟨t, rfl⟩ := r1
  exact ⟨some i, H1, I1, .int i t, q⟩
def SlR (X : Cx) (r : V → Option Int → Option Int → Hp → VK → Prop) : Prop :=
  ∀ (pins : List (Addr × Obj)) (s : Shared) (σ : St) (H : Hp) (x : V) (v vl vu : Value) (lo hi : Option Int) (sl : Addr) (Q : VK), Inv X pins σ H s → RelV x v → s.heap.IsSliceOf sl vl vu .none → IsPart vl lo → IsPart vu hi → r x lo hi H Q →
    ∃ T id, typeLookup (.type T) "__getitem__" = pure (some (.builtin id)) ∧ s.TypeIs v T ∧ wpAny (model X.prog X.w) X.A (getItem v (.ref sl)) (EP X pins σ Q) X.xe s
theorem SlR.or {r r' : V → Option Int → Option Int → Hp → VK → Prop} (h : SlR X r) (h' : SlR X r') : SlR X (fun x lo hi H Q => r x lo hi H Q ∨ r' x lo hi H Q) := by
  intro pins s σ H x v vl vu lo hi sl Q I rx hs pl pu q
  rcases q with q | q
  · exact h pins s σ H x v vl vu lo hi sl Q I rx hs pl pu q
  · exact h' pins s σ H x v vl vu lo hi sl Q I rx hs pl pu q
def tSl (r : V → Option Int → Option Int → Hp → VK → Prop) (te : TE) (tl th : TO) : TE := fun σ H Q => te σ H fun x H1 => tl σ H1 fun l H2 => th σ H2 fun u H3 => r x l u H3 Q
theorem pe_slice {r : V → Option Int → Option Int → Hp → VK → Prop} (hr : SlR X r) (he : PE X e te) (hl : PO X lo tl) (hu : PO X hi th) : PE X (.Subscript e (.Slice lo hi none p2) pos) (tSl r te tl th) := by
  intro pins s σ H Q I h
  refine Subscript_ (thn (he pins s σ H _ I h) fun v s1 ⟨x, H1, I1, r1, q1⟩ => ?_)
  refine wpAny_Slice (thn (hl pins s1 σ H1 _ I1 q1) fun vl s2 ⟨l, H2, I2, pl, q2⟩ => thn (hu pins s2 σ H2 _ I2 q2) fun vu s3 ⟨u, H3, I3, pu, q3⟩ => ?_)
  rw [evalPart_none]
  refine wpAny_pure ?_
  have I4 : Inv X pins σ H3 { s3 with heap := s3.heap.push { cls := .type "slice", data := .fields #[vl, vu, .none] } } := I3.kept (t' := s3.toks) fun b ob q => Heap.get?_push_of_some _ q
  obtain ⟨T, id, hT, ht, hg⟩ := hr pins { s3 with heap := s3.heap.push { cls := .type "slice", data := .fields #[vl, vu, .none] } } σ H3 x v vl vu l u s3.heap.objs.size Q I4 r1 (Heap.IsSliceOf.new ..) pl pu q3
  show wpAny (model X.prog X.w) X.A (subscriptTail e (.Slice lo hi none p2) v (.ref s3.heap.objs.size)) (EP X pins σ Q) X.xe { s3 with heap := s3.heap.push { cls := .type "slice", data := .fields #[vl, vu, .none] } }
  exact tail_any (ops := [.ref s3.heap.objs.size, v]) ht hT hg (by with_unfolding_all rfl)
def cutV (xs : List V) (lo hi : Option Int) : List V := (xs.drop (HT.sIx xs.length 0 lo)).take (HT.sIx xs.length xs.length hi - HT.sIx xs.length 0 lo)
theorem cutV_length (xs : List V) (lo hi : Option Int) : (cutV xs lo hi).length ≤ xs.length := by
  unfold cutV
  rw [List.length_take, List.length_drop]
  omega
def rSlT (K : PySem.W.Frag) : V → Option Int → Option Int → Hp → VK → Prop := fun x lo hi H Q => ∃ a xs, x = .ref a ∧ SqT K H a xs ∧
  ¬ (HT.sIx xs.length 0 lo = 0 ∧ HT.sIx xs.length xs.length hi = xs.length) ∧ ∀ p, H p = none → Q (.ref p) (upd H p (.tup (cutV xs lo hi)))
theorem sl_tup : SlR X (rSlT X.K) := by
  intro pins s σ H x v vl vu lo hi sl Q I rx hs pl pu h
  obtain ⟨a, xs, rfl, hx, hw, q⟩ := h
  cases rx
  obtain ⟨its, r, ht, hz⟩ := I.tuple hx
  have hlen : its.toArray.size = xs.length := by rw [List.size_toArray]; exact r.length.symm
  refine ⟨"tuple", _, PyProof.Rows.slot_tuple_getitem.lookup, ht.typeIs, ?_⟩
  refine HT.getItem_tuple_cut ht hs pl pu (by rw [hlen]; exact hw) ?_ (by rw [hlen]; exact hz)
  rw [hlen]
  refine ⟨.ref s.heap.objs.size, _, I.laid (t' := s.toks) (o := .tup (cutV xs lo hi)) (fun b ob q => Heap.get?_push_of_some _ q) (Nat.le_refl _) ?_, rfl, q _ (I.hok.fresh (Nat.le_refl _))⟩
  exact ⟨Nat.le_trans (cutV_length xs lo hi) hz, _, (r.drop (HT.sIx xs.length 0 lo)).take (HT.sIx xs.length xs.length hi - HT.sIx xs.length 0 lo), IsTup.new _ _⟩
def rCatT (K : PySem.W.Frag) : R2 := fun x y H Q => ∃ a b xs ys, x = .ref a ∧ y = .ref b ∧ SqT K H a xs ∧ SqT K H b ys ∧ xs ≠ [] ∧ xs.length + ys.length ≤ sizeLine ∧
  (ys = [] → Q (.ref a) H) ∧ (ys ≠ [] → ∀ p, H p = none → Q (.ref p) (upd H p (.tup (xs ++ ys))))
theorem Vals.nil_iff {xs : List V} {us : List Value} (r : Vals xs us) : us = [] ↔ xs = [] := by
  cases r with
  | nil => simp
  | cons _ _ => simp
theorem op_catT : OpR X (binaryOp .Add) (rCatT X.K) := by
  intro pins s σ H x y v u Q I rx ry h
  obtain ⟨a, b, xs, ys, rfl, rfl, ha, hb, hx, hz, q1, q2⟩ := h
  cases rx
  cases ry
  obtain ⟨its, r1, p1, _⟩ := I.tuple ha
  obtain ⟨its2, r2, p2, _⟩ := I.tuple hb
  refine HT.cat_tup p1 p2 (fun z => hx (r1.nil_iff.mp z)) (fun z => ⟨.ref a, H, I, rfl, q1 (r2.nil_iff.mp z)⟩) (fun z => ?_) (by rw [← r1.length, ← r2.length]; exact hz)
  refine ⟨.ref s.heap.objs.size, _, I.laid (t' := s.toks) (o := .tup (xs ++ ys)) (fun b ob q => Heap.get?_push_of_some _ q) (Nat.le_refl _) ?_, rfl, q2 (fun w => z (r2.nil_iff.mpr w)) _ (I.hok.fresh (Nat.le_refl _))⟩
  exact ⟨by rw [List.length_append]; exact hz, _, r1.append r2, IsTup.new _ _⟩
end
end L2
namespace L2
open PySem PySem.Spec PyProof.Rows
def ixN (n : Nat) (i : Int) : Option Nat := if 0 ≤ i then (if i < n then some i.toNat else none) else if -(n : Int) ≤ i then some (i + n).toNat else none
def atI {α : Type} (xs : List α) (i : Int) : Option α := (ixN xs.length i).bind fun j => xs[j]?
theorem ixN_seq {n : Nat} {i : Int} {j : Nat} (h : ixN n i = some j) : seqIndex? i n = some j ∧ j < n ∧ -(n : Int) ≤ i ∧ i < n := by
  unfold ixN at h
  by_cases h0 : 0 ≤ i
  · rw [if_pos h0] at h
    by_cases h1 : i < n
    · rw [if_pos h1] at h
      have e : i.toNat = j := Option.some.inj h
      exact ⟨by rw [seqIndex_of h0 h1, e], by omega, by omega, h1⟩
    · rw [if_neg h1] at h; cases h
  · rw [if_neg h0] at h
    by_cases h1 : -(n : Int) ≤ i
    · rw [if_pos h1] at h
      have e : (i + n).toNat = j := Option.some.inj h
      exact ⟨by rw [seqIndex_neg (by omega) h1, e], by omega, h1, by omega⟩
    · rw [if_neg h1] at h; cases h
theorem atI_get {α : Type} {xs : List α} {i : Int} {v : α} (h : atI xs i = some v) : ∃ j, seqIndex? i xs.length = some j ∧ xs[j]? = some v ∧ j < xs.length ∧ -(xs.length : Int) ≤ i ∧ i < xs.length := by
  unfold atI at h
  cases e : ixN xs.length i with
  | none => rw [e] at h; cases h
  | some j =>
    rw [e] at h
    obtain ⟨h1, h2, h3, h4⟩ := ixN_seq e
    exact ⟨j, h1, h, h2, h3, h4⟩
theorem atI_nat {α : Type} {xs : List α} {j : Nat} {v : α} (h : xs[j]? = some v) : atI xs (j : Int) = some v := by
  have hj : j < xs.length := (List.getElem?_eq_some_iff.mp h).1
  have e : ixN xs.length (j : Int) = some j := by
    unfold ixN
    rw [if_pos (by omega), if_pos (by omega)]; simp
  unfold atI; rw [e]; exact h
def PlainIx (b : Expr) : Prop := ∀ o i, subscripted b false o i = operate [o, i] (getItem o i)
def IxR (X : Cx) (r : R2) : Prop :=
  ∀ (value slice : Expr) (pins : List (Addr × Obj)) (s : Shared) (σ : St) (H : Hp) (x y : V) (v u : Value) (Q : VK), Inv X pins σ H s → RelV x v → RelV y u → r x y H Q →
    subscripted slice false v u = operate [v, u] (getItem v u) → wpAny (model X.prog X.w) X.A (subscriptTail value slice v u) (EP X pins σ Q) X.xe s
def MtR (X : Cx) (id : String) (r : V → List V → Hp → VK → Prop) : Prop :=
  ∀ (pins : List (Addr × Obj)) (s : Shared) (σ : St) (H : Hp) (x : V) (xs : List V) (v : Value) (us : List Value) (Q : VK), Inv X pins σ H s → RelV x v → Vals xs us → r x xs H Q →
    wpAny (model X.prog X.w) X.A (call (.builtin id) (v :: us)) (EP X pins σ Q) X.xe s
section
variable {X : Cx} {a b : Expr} {ta tb : TE} {pos : Pos}
theorem IxR.or {r r' : R2} (h : IxR X r) (h' : IxR X r') : IxR X (fun x y H Q => r x y H Q ∨ r' x y H Q) := by
  intro value slice pins s σ H x y v u Q I rx ry q hs
  rcases q with q | q
  · exact h value slice pins s σ H x y v u Q I rx ry q hs
  · exact h' value slice pins s σ H x y v u Q I rx ry q hs
theorem MtR.or {id : String} {r r' : V → List V → Hp → VK → Prop} (h : MtR X id r) (h' : MtR X id r') : MtR X id (fun x xs H Q => r x xs H Q ∨ r' x xs H Q) := by
  intro pins s σ H x xs v us Q I rx rs q
  rcases q with q | q
  · exact h pins s σ H x xs v us Q I rx rs q
  · exact h' pins s σ H x xs v us Q I rx rs q
theorem pe_ix {r : R2} (hr : IxR X r) (ha : PE X a ta) (hb : PE X b tb) (hs : PlainIx b) : PE X (.Subscript a b pos) (tOp r ta tb) := by
  intro pins s σ H Q I h
  exact Subscript_ (binT ha hb I h fun v u s2 x y H2 I2 rx ry q => hr a b pins s2 σ H2 x y v u Q I2 rx ry q (hs _ _))
def rIxL (K : PySem.W.Frag) : R2 := fun x y H Q => ∃ p xs i v, x = .ref p ∧ y = .int i ∧ SqL K H p xs ∧ atI xs i = some v ∧ Q v H
def rIxT (K : PySem.W.Frag) : R2 := fun x y H Q => ∃ p xs i v, x = .ref p ∧ y = .int i ∧ SqT K H p xs ∧ atI xs i = some v ∧ Q v H
def rIxS : R2 := fun x y H Q => ∃ z i c, x = .str z ∧ y = .int i ∧ z.length ≤ sizeLine ∧ atI z.cps.toList i = some c ∧ Q (.str ⟨#[c]⟩) H
theorem ix_list : IxR X (rIxL X.K) := by
  intro value slice pins s σ H x y v u Q I rx ry h hs
  obtain ⟨p, xs, i, z, rfl, rfl, hq, he, q⟩ := h
  cases rx
  obtain ⟨t, rfl⟩ := ry
  obtain ⟨its, r, pl, hz⟩ := I.list hq
  obtain ⟨j, h1, h2, h3, h4, h5⟩ := atI_get he
  obtain ⟨w, ew, rw'⟩ := r.get h2
  have hl := r.length
  have hn := line63
  have fin : EP X pins σ Q w s := ⟨z, H, I, rw', q⟩
  by_cases h0 : 0 ≤ i
  · have hj : i.toNat = j := by
      rw [seqIndex_of h0 h5] at h1
      exact Option.some.inj h1
    exact item_listR pl.isList h0 (by omega) (by rw [hj]; simpa using ew) fin hs
  · have hj : (i + (its.toArray.size : Int)).toNat = j := by
      rw [seqIndex_neg (by omega) h4] at h1
      rw [List.size_toArray, ← hl]
      exact Option.some.inj h1
    exact subscriptTail_builtinR (x := w) pl.isList.typeIs slot_list_getitem.lookup
      (wpAny_getItem_list_neg (Q := fun r s' => r = w ∧ EP X pins σ Q r s') pl.isList (by omega) (by rw [List.size_toArray] <;> omega) (by omega) (by rw [hj]; simpa using ew) ⟨rfl, fin⟩) hs
theorem ix_tup : IxR X (rIxT X.K) := by
  intro value slice pins s σ H x y v u Q I rx ry h hs
  obtain ⟨p, xs, i, z, rfl, rfl, hq, he, q⟩ := h
  cases rx
  obtain ⟨t, rfl⟩ := ry
  obtain ⟨its, r, pl, hz⟩ := I.tuple hq
  obtain ⟨j, h1, h2, h3, h4, h5⟩ := atI_get he
  obtain ⟨w, ew, rw'⟩ := r.get h2
  have hl := r.length
  have hn := line63
  have fin : EP X pins σ Q w s := ⟨z, H, I, rw', q⟩
  exact subscriptTail_builtinR (x := w) pl.typeIs slot_tuple_getitem.lookup
    (getItem_tuple (j := j) (Q := fun r s' => r = w ∧ EP X pins σ Q r s') pl (by omega) (by omega) (by rw [List.size_toArray, ← hl]; exact h1) (by simpa using ew) ⟨rfl, fin⟩) hs
theorem ix_str : IxR X rIxS := by
  intro value slice pins s σ H x y v u Q I rx ry h hs
  obtain ⟨z, i, c, rfl, rfl, hz, he, q⟩ := h
  obtain ⟨t, rfl⟩ := rx
  obtain ⟨t', rfl⟩ := ry
  obtain ⟨j, h1, h2, h3, h4, h5⟩ := atI_get he
  have hl : z.cps.toList.length = z.length := by simp [Str.length]
  rw [hl] at h1 h4 h5
  have hn := line63
  exact tail_any (typeIs_str s z t) slot_str_getitem.lookup (getItem_str (c := c) (by
    have e1 : decide (i < -(2 ^ 63 : Int)) = false := decide_eq_false (by omega)
    have e2 : decide (i ≥ 2 ^ 63) = false := decide_eq_false (by omega)
    rw [e1, e2, Bool.or_false]) (by rw [h1]; simpa using h2) ⟨.str ⟨#[c]⟩, H, I.tok _, ⟨_, rfl⟩, q⟩) hs
def rIx (K : PySem.W.Frag) : R2 := fun x y H Q => rIxL K x y H Q ∨ rIxT K x y H Q ∨ rIxS x y H Q
theorem ix_seq : IxR X (rIx X.K) := ix_list.or (ix_tup.or ix_str)
theorem mapSeq_set (its : List Value) (n j : Nat) (u : Value) : Obj.mapSeq (·.setIfInBounds j u) { cls := .type "list", data := .seq its.toArray n } = { cls := .type "list", data := .seq (its.set j u).toArray n } := by
  simp [Obj.mapSeq]
theorem Inv.lst {pins : List (Addr × Obj)} {σ : St} {H : Hp} {s : Shared} {p : Addr} {xs : List V} (I : Inv X pins σ H s) (h : H p = some (.lst xs)) :
    ∃ (its : List Value) (n : Nat), Vals xs its ∧ s.heap.get? p = some { cls := .type "list", data := .seq its.toArray n } ∧ xs.length ≤ sizeLine := by
  obtain ⟨z, its, n, r, e⟩ := I.hok p _ h
  exact ⟨its, n, r, e, z⟩
theorem Inv.lstUpd {pins : List (Addr × Obj)} {σ : St} {H : Hp} {s : Shared} {p : Addr} {xs ys : List V} {its its' : List Value} {n n' : Nat} {f : Obj → Obj} (I : Inv X pins σ H s) (h : H p = some (.lst xs))
    (ho : s.heap.get? p = some { cls := .type "list", data := .seq its.toArray n }) (hf : f { cls := .type "list", data := .seq its.toArray n } = { cls := .type "list", data := .seq its'.toArray n' }) (r : Vals ys its') (hz : ys.length ≤ sizeLine) (t : Nat) :
    Inv X pins σ (upd H p (.lst ys)) { s with heap := s.heap.update p f, toks := t } := by
  have e : (s.heap.update p f).get? p = some { cls := .type "list", data := .seq its'.toArray n' } := by
    rw [Heap.get?_update_self f ho (by rw [hf] <;> rfl), hf]
  refine I.write (x := p) (e := p) (by rw [h]; trivial) (.inl rfl) (fun b u hb q => (Heap.get?_update_other _ _ (Ne.symm hb)).trans q) ⟨_, e⟩ ?_
  exact ⟨hz, its', n', r, e⟩
def rSetL : V → V → V → Hp → (Hp → Prop) → Prop := fun o i v H Q => ∃ p xs k j, o = .ref p ∧ i = .int k ∧ H p = some (.lst xs) ∧ ixN xs.length k = some j ∧ Q (upd H p (.lst (xs.set j v)))
theorem set_list : PSet X rSetL := by
  intro pins s σ H o i v ov iv u Q I ro ri rv h
  obtain ⟨p, xs, k, j, rfl, rfl, hp, hj, q⟩ := h
  cases ro
  obtain ⟨t, rfl⟩ := ri
  obtain ⟨its, n, r, ho, hz⟩ := I.lst hp
  obtain ⟨h1, h2, h3, h4⟩ := ixN_seq hj
  have hl := r.length
  have hn := line63
  have I' : Inv X pins σ (upd H p (.lst (xs.set j v))) { s with heap := s.heap.update p (Obj.mapSeq (·.setIfInBounds j u)) } :=
    I.lstUpd hp ho (mapSeq_set its n j u) (r.set rv j) (by rw [List.length_set]; exact hz) s.toks
  by_cases h0 : 0 ≤ k
  · have hk : k.toNat = j := by
      rw [seqIndex_of h0 h4] at h1
      exact Option.some.inj h1
    exact PySem.W.ki_setAt ho h0 (by omega) (by rw [List.size_toArray, ← hl]; exact h4) (by rw [hk]; exact ⟨_, I', q⟩)
  · have hk : (k + (its.toArray.size : Int)).toNat = j := by
      rw [seqIndex_neg (by omega) h3] at h1
      rw [List.size_toArray, ← hl]
      exact Option.some.inj h1
    exact PySem.W.ki_setBack ho (by omega) (by rw [List.size_toArray, ← hl]; exact h3) (by omega) (by rw [hk]; exact ⟨_, I', q⟩)
theorem slice_bounds (lo hi : Option Int) (n : Nat) : (sliceBounds lo hi none n).1 = ((HT.sIx n 0 lo : Nat) : Int) ∧ (sliceBounds lo hi none n).2.1 = ((HT.sIx n n hi : Nat) : Int) ∧ (sliceBounds lo hi none n).2.2 = 1 := by
  refine ⟨?_, ?_, rfl⟩
  · cases lo with
    | none => simp [sliceBounds, HT.sIx]
    | some i =>
      simp only [sliceBounds, HT.sIx, Option.getD_none, show (1 : Int) > 0 by decide, if_true]
      by_cases h : i < 0
      · simp only [h, if_true] <;> omega
      · simp only [h, if_false] <;> omega
  · cases hi with
    | none => simp [sliceBounds, HT.sIx]
    | some i =>
      simp only [sliceBounds, HT.sIx, Option.getD_none, show (1 : Int) > 0 by decide, if_true]
      by_cases h : i < 0
      · simp only [h, if_true] <;> omega
      · simp only [h, if_false] <;> omega
theorem slicePick_cut (its : List Value) (lo hi : Option Int) : slicePick its.toArray lo hi none = ((its.drop (HT.sIx its.length 0 lo)).take (HT.sIx its.length its.length hi - HT.sIx its.length 0 lo)).toArray := by
  obtain ⟨h1, h2, h3⟩ := slice_bounds lo hi its.toArray.size
  unfold slicePick
  rw [h1, h2, h3]
  simp only [sliceRange_one, pick_run, List.size_toArray] <;> rfl
def rSlL (K : PySem.W.Frag) : V → Option Int → Option Int → Hp → VK → Prop := fun x lo hi H Q => ∃ a xs, x = .ref a ∧ SqL K H a xs ∧ ∀ p, H p = none → Q (.ref p) (upd H p (.lst (cutV xs lo hi)))
theorem sl_list : SlR X (rSlL X.K) := by
  intro pins s σ H x v vl vu lo hi sl Q I rx hs pl pu h
  obtain ⟨a, xs, rfl, hx, q⟩ := h
  cases rx
  obtain ⟨its, r, ht, hz⟩ := I.list hx
  have hlen := r.length
  refine ⟨"list", _, slot_list_getitem.lookup, ht.isList.typeIs, ?_⟩
  refine wpAny_getItem_list_slice ht.isList hs pl pu .none (by simp) ?_ (by rw [List.size_toArray] <;> omega)
  rw [slicePick_cut, ← hlen]
  refine ⟨.ref s.heap.objs.size, _, I.laid (t' := s.toks) (o := .lst (cutV xs lo hi)) (fun b ob q => Heap.get?_push_of_some _ q) (Nat.le_refl _) ?_, rfl, q _ (I.hok.fresh (Nat.le_refl _))⟩
  exact ⟨Nat.le_trans (cutV_length xs lo hi) hz, _, 0, (r.drop (HT.sIx xs.length 0 lo)).take (HT.sIx xs.length xs.length hi - HT.sIx xs.length 0 lo), Heap.get?_push_size _ rfl⟩
def flatV : V → Bool
  | .non => true
  | .bl _ => true
  | .int _ => true
  | .str _ => true
  | _ => false
def eqV : V → V → Bool
  | .non, .non => true
  | .bl a, .bl b => a == b
  | .bl a, .int b => (if a then 1 else 0) == b
  | .int a, .bl b => a == (if b then 1 else 0)
  | .int a, .int b => a == b
  | .str a, .str b => a == b
  | _, _ => false
theorem eqAt_V {A : Around} {s : Shared} {y x : V} {u v : Value} (ry : RelV y u) (rx : RelV x v) (fy : flatV y = true) (fx : flatV x = true) : SeqAt.EqAt A s u v (eqV y x) := by
  cases y with
  | non =>
    cases ry
    cases x with
    | non => cases rx; exact SeqAt.EqAt.same _
    | bl b => cases rx; exact SeqAt.EqAt.none_bool b
    | int b => obtain ⟨t, rfl⟩ := rx; exact SeqAt.EqAt.none_int b t
    | str b => obtain ⟨t, rfl⟩ := rx; exact SeqAt.EqAt.none_str b t
    | _ => exact absurd (show false = true from fx) Bool.false_ne_true
  | bl a =>
    cases ry
    cases x with
    | non => cases rx; exact SeqAt.EqAt.bool_none a
    | bl b => cases rx; exact SeqAt.EqAt.bool_bool a b
    | int b => obtain ⟨t, rfl⟩ := rx; exact SeqAt.EqAt.bool_int a b t
    | str b => obtain ⟨t, rfl⟩ := rx; exact SeqAt.EqAt.bool_str a b t
    | _ => exact absurd (show false = true from fx) Bool.false_ne_true
  | int a =>
    obtain ⟨t', rfl⟩ := ry
    cases x with
    | non => cases rx; exact SeqAt.EqAt.int_none a t'
    | bl b => cases rx; exact SeqAt.EqAt.int_bool a t' b
    | int b => obtain ⟨t, rfl⟩ := rx; exact SeqAt.EqAt.int_int a t' b t
    | str b => obtain ⟨t, rfl⟩ := rx; exact SeqAt.EqAt.int_str a t' b t
    | _ => exact absurd (show false = true from fx) Bool.false_ne_true
  | str a =>
    obtain ⟨t', rfl⟩ := ry
    cases x with
    | non => cases rx; exact SeqAt.EqAt.str_none a t'
    | bl b => cases rx; exact SeqAt.EqAt.str_bool a t' b
    | int b => obtain ⟨t, rfl⟩ := rx; exact SeqAt.EqAt.str_int a t' b t
    | str b => obtain ⟨t, rfl⟩ := rx; exact SeqAt.EqAt.str_str a t' b t
    | _ => exact absurd (show false = true from fx) Bool.false_ne_true
  | _ => exact absurd (show false = true from fy) Bool.false_ne_true
def eqU (x : V) (u : Value) : Bool := match u with
  | .none => eqV .non x
  | .bool b => eqV (.bl b) x
  | .int i _ => eqV (.int i) x
  | .str z _ => eqV (.str z) x
  | _ => false
theorem eqU_of {x y : V} {u : Value} (r : RelV y u) (f : flatV y = true) : eqU x u = eqV y x := by
  cases y with
  | non => cases r; rfl
  | bl b => cases r; rfl
  | int i => obtain ⟨t, rfl⟩ := r; rfl
  | str z => obtain ⟨t, rfl⟩ := r; rfl
  | _ => exact absurd (show false = true from f) Bool.false_ne_true
theorem any_eqU {x : V} : ∀ {xs : List V} {us : List Value}, Vals xs us → xs.all flatV = true → us.any (eqU x) = xs.any fun y => eqV y x
  | _, _, .nil, _ => rfl
  | y :: xs, u :: us, .cons r t, f => by
    rw [List.all_cons, Bool.and_eq_true] at f
    rw [List.any_cons, List.any_cons, eqU_of r f.1, any_eqU t f.2]
theorem mem_eqAt {A : Around} {s : Shared} {x : V} {v : Value} (rx : RelV x v) (fx : flatV x = true) : ∀ {xs : List V} {us : List Value}, Vals xs us → xs.all flatV = true → ∀ u ∈ us, SeqAt.EqAt A s u v (eqU x u)
  | _, _, .nil, _ => fun u hu => by cases hu
  | y :: xs, u :: us, .cons r t, f => fun u' hu => by
    rw [List.all_cons, Bool.and_eq_true] at f
    rcases List.mem_cons.mp hu with rfl | hu
    · rw [eqU_of r f.1]; exact eqAt_V r rx f.1 fx
    · exact mem_eqAt rx fx t f.2 u' hu
def inV (x : V) (xs : List V) : Bool := xs.any fun y => eqV y x
def rIn (K : PySem.W.Frag) (neg : Bool) : R2 := fun x y H Q => ∃ p xs, y = .ref p ∧ (SqL K H p xs ∨ SqT K H p xs) ∧ flatV x = true ∧ xs.all flatV = true ∧ Q (.bl (if neg then !inV x xs else inV x xs)) H
theorem op_in_seq : OpR X (compareOp .In) (rIn X.K false) := by
  intro pins s σ H x y v u Q I rx ry h
  obtain ⟨p, xs, rfl, hq, fx, fs, q⟩ := h
  cases ry
  rcases hq with hq | hq
  · obtain ⟨its, r, pl, hz⟩ := I.list hq
    refine SeqAt.in_listAt (eqU x) pl.isList (fun w hw => mem_eqAt rx fx r fs w (by simpa using hw)) ⟨.bl _, H, I, rfl, ?_⟩
    rw [show its.toArray.any (eqU x) = its.any (eqU x) by simp, any_eqU r fs]
    exact q
  · obtain ⟨its, r, pl, hz⟩ := I.tuple hq
    refine SeqAt.in_tupleAt (eqU x) pl (fun w hw => mem_eqAt rx fx r fs w (by simpa using hw)) ⟨.bl _, H, I, rfl, ?_⟩
    rw [show its.toArray.any (eqU x) = its.any (eqU x) by simp, any_eqU r fs]
    exact q
theorem op_notIn_seq : OpR X (compareOp .NotIn) (rIn X.K true) := by
  intro pins s σ H x y v u Q I rx ry h
  obtain ⟨p, xs, rfl, hq, fx, fs, q⟩ := h
  cases ry
  rcases hq with hq | hq
  · obtain ⟨its, r, pl, hz⟩ := I.list hq
    refine SeqAt.notIn_listAt (eqU x) pl.isList (fun w hw => mem_eqAt rx fx r fs w (by simpa using hw)) ⟨.bl _, H, I, rfl, ?_⟩
    rw [show its.toArray.any (eqU x) = its.any (eqU x) by simp, any_eqU r fs]
    exact q
  · obtain ⟨its, r, pl, hz⟩ := I.tuple hq
    refine SeqAt.notIn_tupleAt (eqU x) pl (fun w hw => mem_eqAt rx fx r fs w (by simpa using hw)) ⟨.bl _, H, I, rfl, ?_⟩
    rw [show its.toArray.any (eqU x) = its.any (eqU x) by simp, any_eqU r fs]
    exact q
theorem op_notIn_str : OpR X (compareOp .NotIn) (fun x y H Q => ∃ i j, x = .str i ∧ y = .str j ∧ Q (.bl (!(!(Builtin.Str.occurrences j i 0 j.length 1).isEmpty))) H) := by
  intro pins s σ H x y v u Q I rx ry h
  obtain ⟨i, j, rfl, rfl, q⟩ := h
  obtain ⟨t, rfl⟩ := rx
  obtain ⟨t', rfl⟩ := ry
  exact notIn_str ⟨.bl _, H, I, rfl, q⟩
theorem CallR.or {f : Value} {r r' : List V → Hp → VK → Prop} (h : CallR X f r) (h' : CallR X f r') : CallR X f (fun xs H Q => r xs H Q ∨ r' xs H Q) := by
  intro pins s σ H xs us Q I rs q
  rcases q with q | q
  · exact h pins s σ H xs us Q I rs q
  · exact h' pins s σ H xs us Q I rs q
theorem call_list_of : CallR X (.type "list") (fun xs H Q => ∃ p ys, xs = [.ref p] ∧ (SqL X.K H p ys ∨ SqT X.K H p ys) ∧ ∀ l, H l = none → Q (.ref l) (upd H l (.lst ys))) := by
  intro pins s σ H xs us Q I r h
  obtain ⟨p, ys, rfl, hq, q⟩ := h
  obtain ⟨u, rfl, rx⟩ := vals1 r
  cases rx
  have fin : ∀ (its : List Value), Vals ys its → ys.length ≤ sizeLine → ∀ (h' : Heap) (c' : Nat), (∀ b o', s.heap.get? b = some o' → h'.get? b = some o') →
      h'.get? s.heap.objs.size = some { cls := .type "list", dict := none, data := .seq its.toArray c', slots := #[] } → EP X pins σ Q (.ref s.heap.objs.size) { s with heap := h' } := fun its r' hz h' c' kp e =>
    ⟨.ref s.heap.objs.size, _, I.laid (t' := s.toks) kp (Nat.le_refl _) (show ObjOk X.prog X.w _ h' _ (.lst ys) from ⟨hz, its, c', r', e⟩), rfl, q _ (I.hok.fresh (Nat.le_refl _))⟩
  rcases hq with hq | hq
  · obtain ⟨its, r', pl, hz⟩ := I.list hq
    have hlen := r'.length
    obtain ⟨o, ho, hc, n, hd⟩ := pl.isList
    exact call_list_seq p (.inl rfl) ho hc hd (fun h' c' kp e => fin its r' hz h' c' kp e) (by simp only [List.size_toArray] <;> omega)
  · obtain ⟨its, r', pl, hz⟩ := I.tuple hq
    have hlen := r'.length
    obtain ⟨o, ho, hc, n, hd⟩ := pl
    exact call_list_seq p (.inr rfl) ho hc hd (fun h' c' kp e => fin its r' hz h' c' kp e) (by simp only [List.size_toArray] <;> omega)
theorem call_tuple_of : CallR X (.type "tuple") (fun xs H Q => ∃ p ys, xs = [.ref p] ∧ ((SqL X.K H p ys ∧ ∀ l, H l = none → Q (.ref l) (upd H l (.tup ys))) ∨ (SqT X.K H p ys ∧ Q (.ref p) H))) := by
  intro pins s σ H xs us Q I r h
  obtain ⟨p, ys, rfl, h⟩ := h
  obtain ⟨u, rfl, rx⟩ := vals1 r
  cases rx
  rcases h with ⟨hq, q⟩ | ⟨hq, q⟩
  · obtain ⟨its, r', pl, hz⟩ := I.list hq
    have hlen := r'.length
    refine call_tuple_list pl.isList (fun h' kp => ?_) (by simp only [List.size_toArray] <;> omega)
    have I1 : Inv X pins σ H { s with heap := h' } := I.kept (t' := s.toks) kp
    have I2 : Inv X pins σ (upd H h'.objs.size (.tup ys)) { s with heap := h'.push { cls := .type "tuple", data := .seq its.toArray } } :=
      I1.laid (t' := s.toks) (fun b o e => Heap.get?_push_of_some _ e) (Nat.le_refl _) (show ObjOk X.prog X.w _ _ _ (.tup ys) from ⟨hz, its, r', IsTup.new _ _⟩)
    exact ⟨.ref h'.objs.size, _, I2, rfl, q _ (I1.hok.fresh (Nat.le_refl _))⟩
  · obtain ⟨its, r', pl, hz⟩ := I.tuple hq
    exact call_tuple_same pl ⟨.ref p, H, I, rfl, q⟩
def tyV (K : PySem.W.Frag) (T : String) (x : V) (H : Hp) : Prop := match x with
  | .str _ => T = "str"
  | .int _ => T = "int"
  | .ref p => (T = "list" ∧ ∃ xs, SqL K H p xs) ∨ (T = "tuple" ∧ ∃ o, K.lookup p = some o ∧ o.cls = .type "tuple" ∧ o.dict = none) ∨
      (T = "dict" ∧ ((∃ kvs, H p = some (.dK kvs)) ∨ ∃ kvs, H p = some (.dT kvs))) ∨ (T = "set" ∧ ∃ S n, H p = some (.set S n))
  | _ => False
theorem tyV_is {pins : List (Addr × Obj)} {σ : St} {H : Hp} {s : Shared} {T : String} {x : V} {v : Value} (I : Inv X pins σ H s) (r : RelV x v) (ty : tyV X.K T x H) :
    s.TypeIs v T ∧ ∀ a, v = .ref a → ∃ ob, s.heap.get? a = some ob ∧ ob.dict = none := by
  cases x with
  | str z =>
    obtain ⟨t, rfl⟩ := r
    cases (show T = "str" from ty)
    exact ⟨typeIs_str s z t, fun _ e => nomatch e⟩
  | int i =>
    obtain ⟨t, rfl⟩ := r
    cases (show T = "int" from ty)
    exact ⟨typeIs_int s i t, fun _ e => nomatch e⟩
  | ref p =>
    cases r
    rcases ty with ⟨rfl, xs, hq⟩ | ⟨rfl, o, hk, hc, hd⟩ | ⟨rfl, hk⟩ | ⟨rfl, S, n, hk⟩
    · obtain ⟨its, _, pl, _⟩ := I.list hq
      refine ⟨pl.isList.typeIs, fun a e => ?_⟩
      cases e
      obtain ⟨o, n, e, c, hd, _⟩ := pl
      exact ⟨o, e, hd⟩
    · refine ⟨⟨o, I.kIn p o hk, hc⟩, fun a e => ?_⟩
      cases e
      exact ⟨o, I.kIn _ o hk, hd⟩
    · have z : ∃ o, s.heap.get? p = some o ∧ o.ExactDict := by
        rcases hk with ⟨kvs, hk⟩ | ⟨kvs, hk⟩
        · obtain ⟨_, _, _, _, o, _, _, e, ex, _⟩ := I.hok p _ hk
          exact ⟨o, e, ex⟩
        · obtain ⟨_, _, _, _, o, _, _, e, ex, _⟩ := I.hok p _ hk
          exact ⟨o, e, ex⟩
      obtain ⟨o, e, ex⟩ := z
      refine ⟨⟨o, e, ex.1⟩, fun a e2 => ?_⟩
      cases e2
      exact ⟨o, e, ex.2.1⟩
    · obtain ⟨o, _, _, _, e, ex, _⟩ := I.hok p _ hk
      refine ⟨⟨o, e, ex.1⟩, fun a e2 => ?_⟩
      cases e2
      exact ⟨o, e, ex.2.1⟩
  | _ => exact False.elim ty
def tBM (K : PySem.W.Frag) (T : String) (r : V → List V → Hp → VK → Prop) (to : TE) (t : TA) : TE := fun σ H Q => to σ H fun x H1 => tyV K T x H1 ∧ t σ H1 fun xs H2 => r x xs H2 Q
variable {o e : Expr} {es : List Expr} {to : TE} {t : TA} {name : Str} {apos cpos : Pos} {T id : String} {r : V → List V → Hp → VK → Prop}
theorem pe_bm (pa : PlainAttrs T) (slot : Slot T name id) (hty : typeOf (.builtin id) = pure (.type "method_descriptor")) (hm : MtR X id r) (ho : PE X o to) (ha : PA X (e :: es) t)
    (hbase : attributeBase o name X.env (eval o X.env) = eval o X.env := by rfl)
    (hfew : ((backTo cpos (starEach (e :: es) X.env)).all (fun x => !x.1) && (backToKw cpos (keywordEach [] X.env)).all (fun x => x.1.isSome)
      && decide ((e :: es).length + ([] : List Keyword).length + (if ([] : List Keyword).isEmpty then 0 else 1) < 30)) = true := by rfl)
    (hline : (apos.endLine == cpos.line) = true := by rfl) (hs : starEach (e :: es) X.env = (false, eval e X.env) :: starEach es X.env := by rfl) (hplain : (backTo cpos (starEach es X.env)).any (·.1) = false := by rfl) :
    PE X (.Call (.Attribute o name apos) (e :: es) [] cpos) (tBM X.K T r to t) := by
  intro pins s σ H Q I h
  refine wpAny_Call_method_late hbase hfew hline rfl (thn (ho pins s σ H _ I h) fun v s1 ⟨x, H1, I1, r1, ty, q1⟩ => ?_)
  obtain ⟨h1, h2⟩ := tyV_is I1 r1 ty
  refine ⟨T, id, pa, slot, hty, h1, h2, ?_⟩
  have hA := ha cpos pins s1 σ H1 _ I1 q1
  rw [hs] at hA ⊢
  refine Calls.callWith_builtin (by show (false || (backTo cpos (starEach es X.env)).any (·.1)) = false; rw [hplain] <;> rfl) (Calls.evalArgs_plain ?_)
  exact thn hA fun us s2 ⟨vs, H2, I2, r2, q2⟩ => hm pins s2 σ H2 x vs v us Q I2 r1 r2 q2
end
end L2
namespace L2
open PySem PySem.Spec PyProof.Rows
def MtM (X : Cx) (id : String) (r : V → List V → Hp → VK → Prop) : Prop :=
  ∀ (pins : List (Addr × Obj)) (s : Shared) (σ : St) (H : Hp) (x : V) (xs : List V) (v : Value) (us : List Value) (Q : VK), Inv X pins σ H s → RelV x v → Vals xs us → r x xs H Q →
    wpAny (model X.prog X.w) X.A (call (.builtin id) (v :: us)) (EP X pins σ Q) X.xe s
theorem Vals.one : ∀ {x : V} {us : List Value}, Vals [x] us → ∃ u, us = [u] ∧ RelV x u
  | _, _, .cons r .nil => ⟨_, rfl, r⟩
theorem Vals.zero : ∀ {us : List Value}, Vals [] us → us = []
  | _, .nil => rfl
theorem Vals.eraseIdx : ∀ {xs : List V} {us : List Value} (i : Nat), Vals xs us → Vals (xs.eraseIdx i) (us.eraseIdx i)
  | _, _, _, .nil => .nil
  | _, _, 0, .cons _ t => t
  | _, _, i + 1, .cons r t => .cons r (Vals.eraseIdx i t)
theorem Vals.reverse {xs : List V} {us : List Value} (h : Vals xs us) : Vals xs.reverse us.reverse := by
  induction h with
  | nil => exact .nil
  | cons r t ih => rw [List.reverse_cons, List.reverse_cons]; exact Vals.append ih (.cons r .nil)
theorem Vals.rep {xs : List V} {us : List Value} (h : Vals xs us) : ∀ k : Nat, Vals (List.replicate k xs).flatten (List.replicate k us).flatten
  | 0 => .nil
  | k + 1 => by
    rw [List.replicate_succ, List.replicate_succ, List.flatten_cons, List.flatten_cons]
    exact Vals.append h (Vals.rep h k)
theorem foldl_rep (its : List Value) : ∀ (k : Nat) (acc : List Value),
    List.foldl (fun x1 x2 => x1 ++ x2) acc.toArray (List.replicate k its.toArray) = (acc ++ (List.replicate k its).flatten).toArray
  | 0, acc => by simp
  | k + 1, acc => by
    have e : acc.toArray ++ its.toArray = (acc ++ its).toArray := by simp
    have e2 : (acc ++ its) ++ (List.replicate k its).flatten = acc ++ (List.replicate (k + 1) its).flatten := by
      rw [List.replicate_succ, List.flatten_cons, List.append_assoc]
    rw [← e2, ← foldl_rep its k (acc ++ its), ← e, List.replicate_succ, List.foldl_cons]
section
variable {X : Cx} {pins : List (Addr × Obj)} {σ : St} {H : Hp} {s : Shared} {l b : Addr} {xs ys zs : List V}
theorem Inv.lset {its its' : List Value} {n : Nat} {f : Array Value → Array Value} {t' : Nat} (I : Inv X pins σ H s) (hH : H l = some (.lst xs))
    (e : s.heap.get? l = some { cls := .type "list", data := .seq its.toArray n }) (hf : f its.toArray = its'.toArray) (hv : Vals ys its') (hz : ys.length ≤ sizeLine) :
    Inv X pins σ (upd H l (.lst ys)) { s with heap := s.heap.update l (Obj.mapSeq f), toks := t' } := by
  have q := PySem.IsL.update e f
  rw [hf] at q
  refine I.write (x := l) (e := l) (by rw [hH]; exact trivial) (.inl rfl) (fun b' u hb hu => (Heap.get?_update_other s.heap (Obj.mapSeq f) (Ne.symm hb)).trans hu) ⟨_, q⟩ ?_
  exact ⟨hz, its', _, hv, q⟩
theorem Inv.lnew {its : List Value} {t' : Nat} (I : Inv X pins σ H s) (hv : Vals ys its) (hz : ys.length ≤ sizeLine) :
    Inv X pins σ (upd H s.heap.objs.size (.lst ys)) { s with heap := s.heap.push { cls := .type "list", data := .seq its.toArray }, toks := t' } :=
  I.laid (fun _ _ q => Heap.get?_push_of_some _ q) (Nat.le_refl _) ⟨hz, its, 0, hv, Heap.get?_push_size _ rfl⟩
theorem Inv.fresh (I : Inv X pins σ H s) : H s.heap.objs.size = none := I.hok.fresh (Nat.le_refl _)
theorem Inv.lstM (I : Inv X pins σ H s) (hH : H l = some (.lst xs)) : xs.length ≤ sizeLine ∧ ∃ (its : List Value) (n : Nat), Vals xs its ∧ xs.length = its.length ∧ s.heap.get? l = some { cls := .type "list", data := .seq its.toArray n } := by
  obtain ⟨z, its, n, r, e⟩ := I.hok l _ hH
  exact ⟨z, its, n, r, r.length, e⟩
theorem notLongL {n : Nat} (h : n ≤ sizeLine) : Builtin.List.listTooLong n = false := by
  unfold Builtin.List.listTooLong
  exact decide_eq_false (by omega)
end
section
variable {X : Cx}
def rAppend : V → List V → Hp → VK → Prop := fun x vs H Q => ∃ l xs y, x = .ref l ∧ vs = [y] ∧ H l = some (.lst xs) ∧ xs.length < sizeLine ∧ Q .non (upd H l (.lst (xs ++ [y])))
theorem mt_append : MtM X "list.append" rAppend := by
  intro pins s σ H x vs v us Q I rx rv h
  obtain ⟨l, xs, y, rfl, rfl, hH, hz, q⟩ := h
  cases rx
  obtain ⟨u, rfl, ru⟩ := rv.one
  obtain ⟨z, its, n, r, hl, e⟩ := I.lstM hH
  refine call_meets F.slot_list_append ⟨_, e, rfl⟩ F.entry_list_append (F.args_list_append_2 _ _) (PySem.list_append l its.toArray n u (by rw [List.size_toArray]; omega)) ⟨e, ?_⟩
  refine ⟨.non, _, I.lset (its' := its ++ [u]) hH e (by simp) (r.append (.cons ru .nil)) ?_, rfl, q⟩
  rw [List.length_append, List.length_singleton]
  omega
def rExtend : V → List V → Hp → VK → Prop := fun x vs H Q => ∃ l b xs zs, x = .ref l ∧ vs = [.ref b] ∧ H l = some (.lst xs) ∧ H b = some (.lst zs) ∧ xs.length + zs.length ≤ sizeLine ∧ Q .non (upd H l (.lst (xs ++ zs)))
theorem mt_extend : MtM X "list.extend" rExtend := by
  intro pins s σ H x vs v us Q I rx rv h
  obtain ⟨l, b, xs, zs, rfl, rfl, hH, hB, hz, q⟩ := h
  cases rx
  obtain ⟨u, rfl, ru⟩ := rv.one
  cases ru
  obtain ⟨z, its, n, r, hl, e⟩ := I.lstM hH
  obtain ⟨z2, its2, n2, r2, hl2, e2⟩ := I.lstM hB
  have hsz : its.toArray.size + its2.toArray.size ≤ sizeLine := by rw [List.size_toArray, List.size_toArray]; omega
  have hlong : ¬ (!its.toArray.isEmpty && Builtin.List.listTooLong (its.toArray.size + its2.toArray.size)) = true := by
    rw [notLongL hsz, Bool.and_false]
    exact Bool.false_ne_true
  refine call_meets F.slot_list_extend ⟨_, e, rfl⟩ F.entry_list_extend (F.args_list_extend_2 _ _)
    (AutoSeq1.list_extend_list_list_0 l its.toArray n b its2.toArray n2 hlong (by rw [List.size_toArray]; omega) (by omega)) ⟨e, e2, ?_⟩
  refine ⟨.non, _, I.lset (its' := its ++ its2) hH e (by simp) (r.append r2) ?_, rfl, q⟩
  rw [List.length_append]
  omega
def rCat : R2 := fun x y H Q => ∃ l b xs zs, x = .ref l ∧ y = .ref b ∧ H l = some (.lst xs) ∧ H b = some (.lst zs) ∧ xs.length + zs.length ≤ sizeLine ∧ ∀ p, H p = none → Q (.ref p) (upd H p (.lst (xs ++ zs)))
theorem op_cat : OpR X (binaryOp .Add) rCat := by
  intro pins s σ H x y v u Q I rx ry h
  obtain ⟨l, b, xs, zs, rfl, rfl, hH, hB, hz, q⟩ := h
  cases rx
  cases ry
  obtain ⟨z, its, n, r, hl, e⟩ := I.lstM hH
  obtain ⟨z2, its2, n2, r2, hl2, e2⟩ := I.lstM hB
  refine PySem.P.add_list e e2 ?_ (by rw [List.size_toArray, List.size_toArray]; omega)
  have ea : its.toArray ++ its2.toArray = (its ++ its2).toArray := by simp
  rw [ea]
  exact ⟨.ref _, _, I.lnew (t' := s.toks) (r.append r2) (by rw [List.length_append]; omega), rfl, q _ I.fresh⟩
def rRep : R2 := fun x y H Q => ∃ l k xs, x = .ref l ∧ y = .int k ∧ H l = some (.lst xs) ∧ -(2 ^ 63) ≤ k ∧ k < 2 ^ 63 ∧ xs.length * k.toNat ≤ sizeLine ∧
  ∀ p, H p = none → Q (.ref p) (upd H p (.lst (List.replicate k.toNat xs).flatten))
theorem len_rep {α : Type} (xs : List α) (k : Nat) : (List.replicate k xs).flatten.length = k * xs.length := by
  induction k with
  | zero => simp
  | succ k ih => rw [List.replicate_succ, List.flatten_cons, List.length_append, ih, Nat.succ_mul, Nat.add_comm]
theorem op_rep : OpR X (binaryOp .Mult) rRep := by
  intro pins s σ H x y v u Q I rx ry h
  obtain ⟨l, k, xs, rfl, rfl, hH, h1, h2, hz, q⟩ := h
  cases rx
  obtain ⟨t, rfl⟩ := ry
  obtain ⟨z, its, n, r, hl, e⟩ := I.lstM hH
  have hlen : its.toArray.size * k.toNat ≤ sizeLine := by rw [List.size_toArray, ← hl]; exact hz
  have hcap : ¬ its.toArray.size * k.toNat > (2 ^ 63 - 1) / 8 := by
    have : (sizeLine : Nat) ≤ (2 ^ 63 - 1) / 8 := by decide
    omega
  have hfit : ¬ (!Builtin.List.listFitsIndex k) = true := by
    rw [fitsIndex_both h1 h2]
    exact Bool.false_ne_true
  have hlong : ¬ Builtin.List.listTooLong (its.toArray.size * k.toNat) = true := by
    rw [notLongL hlen]
    exact Bool.false_ne_true
  have hnew : List.foldl (fun x1 x2 => x1 ++ x2) #[] (List.replicate (if its.toArray.isEmpty = true then 0 else k.toNat) its.toArray) = (List.replicate k.toNat its).flatten.toArray := by
    have f0 : ∀ m : Nat, List.foldl (fun x1 x2 => x1 ++ x2) #[] (List.replicate m its.toArray) = (List.replicate m its).flatten.toArray := fun m => by
      have := foldl_rep its m []
      rw [List.nil_append] at this
      exact this
    rw [f0]
    cases its with
    | nil => simp
    | cons a r' => rw [if_neg (by simp)]
  refine wpAny_binaryOp_repeat_ref (T := "list") (U := "int") (by decide) ⟨_, e, rfl⟩ (fun s' => typeIs_int s' k t) noFill_list_mul F.fills_int_mul F.slot_int_rmul repeat_list F.slot_int_index.lookup
    (call_meets F.slot_int_rmul (typeIs_int s k t) F.entry_int_rmul (F.args_int_rmul_2 _ _) (int___rmul___int_list k t l its.toArray n)
      ⟨e, rfl, ⟨_, e, rfl⟩, call_meets F.slot_list_mul ⟨_, e, rfl⟩ F.entry_list_mul (F.args_list_mul_2 _ _) (AutoListH.list___mul___list_int_3 l its.toArray n k t hfit hcap hlong) ⟨e, ?_⟩⟩)
  rw [hnew]
  exact ⟨.ref _, _, I.lnew (t' := s.toks) (r.rep k.toNat) (by rw [len_rep, Nat.mul_comm]; exact hz), rfl, q _ I.fresh⟩
end
section
variable {prog : Program} {w : World} {A : Around} {E : Value → Shared → Prop} {s : Shared}
end
section
variable {X : Cx}
end
end L2
namespace Att
open PySem PySem.W PySem.Calls PyProof.Rows
theorem ints_of_wellAll {P : Params} {h : Heap} : ∀ (ns : List Int) (vs : List Value), WellAll P h vs (ns.map WData.int) → IntsAre vs ns := by
  intro ns
  induction ns with
  | nil =>
    intro vs w
    rw [List.map_nil] at w
    cases w
    exact .nil
  | cons n ns ih =>
    intro vs w
    rw [List.map_cons] at w
    cases w with
    | cons a b =>
      cases a
      exact .cons _ _ (ih _ b)
theorem script_of {l : OpenLaw} {n : Nat} (hn : l.most = some n) {P : Params} {h : Heap} {args : List WData} {vals : List Value}
    (hpre : l.row.toRowW.claim.pre args = true) (hwl : WellAll P h vals args) :
    ∃ a vs ns, vals = [Value.ref a] ∧ args = [WData.list (ns.map WData.int)] ∧ h.get? a = some { cls := .type "list", data := .seq vs.toArray } ∧ IntsAre vs ns ∧ ns.length ≤ n := by
  have hsh : WShape.hasAll [] args [.list .int] = true := (pre_splitW hpre).1
  have hc : l.pre.holds [] { args := args } = true := (pre_splitW hpre).2
  obtain ⟨d, r, rfl, h1, h2⟩ := hasAllW_cons hsh
  obtain rfl := hasAllW_nil h2
  obtain ⟨xs, rfl, h3⟩ := hasW_list h1
  obtain ⟨ns, rfl⟩ := items_int h3
  have hlen : ns.length ≤ n := by
    unfold OpenLaw.pre at hc
    have h4 : (WTm.not (.lt (.lit (.int (n : Int))) (.len (.arg 0)))).holds [] { args := [.list (ns.map .int)] } = true := by
      have h4 := (holds_andW hc).1
      rw [hn] at h4
      exact h4
    have h5 := condW_of h4 (w_not (w_lt w_lit (w_len_list (w_arg rfl))))
    rw [List.length_map] at h5
    refine Nat.le_of_not_lt fun q => ?_
    have q' : (n : Int) < ((ns.length : Nat) : Int) := by omega
    first
      | (rw [decide_eq_true q'] at h5; exact absurd h5 (by decide))
      | (simp at h5; omega)
  cases hwl with
  | cons w1 w2 =>
    cases w2
    cases w1 with
    | list ho hall => exact ⟨_, _, ns, rfl, rfl, ho, ints_of_wellAll ns _ hall, hlen⟩
theorem post_true (l : OpenLaw) (args : List WData) : l.row.toRowW.claim.post args (.bool true) args = true :=
  postW_of (r := l.row.toRowW) (X := (true == true))
    (show WShape.has [] (.bool true) .bool = true by first | rfl | decide | simp [WShape.has, WShape.arms, WShape.armsAll])
    (show (WTm.eq .res (.lit (.bool true))).value [] { args := args, res := some (.bool true), after := args } = some (.bool (true == true)) from w_eq_bool (w_res rfl) w_lit) rfl
theorem attach_call {l : OpenLaw} {n : Nat} {q : Program} {loose : List Str} {XP : (Str → Option Value) → Heap → Prop} {YP : World → Heap → Prop} {d : DefRec}
    (hn : l.most = some n) (hdf : d.params.defaults = [])
    (call : ∀ (w : World) (s₀ s₁ : Shared) (mg mb : Str → Option Value) (fa : Addr) (o : Obj) (pm cd doc : Value) (a : Addr) (vs : List Value) (ns : List Int),
      Ground q loose [] XP w s₀ mg mb s₁.heap → YP w s₁.heap →
      s₁.heap.get? fa = some o → o.data = .func (docDef d.name d.params d.body d.scope pm cd doc) → s₁.heap.CodeRec cd d.name → mg d.name = some (.ref fa) →
      s₁.heap.get? a = some { cls := .type "list", data := .seq vs.toArray } → IntsAre vs ns → ns.length ≤ n → s₁.gens = #[] →
      codeAny (model l.prog w) callerA (.call (.ref fa) ⟨[.ref a], []⟩) (fun r s' => r = .ok (.ret (.bool true)) ∧ OldK s₁.heap s'.heap ∧ s'.os = s₁.os ∧ AllBare s'.gens) s₁) :
    WalkO q loose XP YP l.row.toRowW d [] (fun f vs => PySem.call f vs) := by
  intro w s₀ s₁ mg mb G Y fa o pm cd doc dV kV ho hd hcd hD hmg hg args vals as hpre hlay hrd hwl hlo
  obtain rfl : dV = .none := Dflts.none hD hdf
  obtain rfl : kV = .none := Dflts.noKw hD
  obtain ⟨a, vs, ns, rfl, rfl, hobj, hints, hlen⟩ := script_of hn hpre hwl
  refine enter_call (codeAny_mono (call w s₀ s₁ mg mb fa o pm cd doc a vs ns G Y ho (fd_plain hd) hcd hmg hobj hints hlen hg) fun r s' hq => ?_)
  obtain ⟨rfl, h2, h3, h4⟩ := hq
  exact ⟨.inl ⟨.bool true, .bool true, [], rfl, fun _ => rfl, .bool true, post_true l _, fun _ => ⟨List.Pairwise.nil, fun _ hm => (nomatch hm)⟩⟩, h2, h3, h4⟩
section
variable {prog : Program} {w : World} {A : Around} {E : Value → Shared → Prop} {s : Shared} {K : Frag}
end
end Att
namespace L2
open PySem PySem.Spec PyProof.Rows
theorem vals_ints : ∀ {vs : List Value} {ns : List Int}, IntsAre vs ns → Vals (ns.map V.int) vs
  | _, _, .nil => .nil
  | _, _, .cons n t h => .cons ⟨t, rfl⟩ (vals_ints h)
def Only (H : Hp) : Prop := ∀ b, H b = none ∨ ∃ o xs, H b = some (.frz o (.lst xs))
theorem law_call {P : Program} {w : World} {K : PySem.W.Frag} {mg mb : Str → Option Value} {CX : CXT} {k : Nat} {fa a : Addr} {fd : FuncData} {x : Str} {sp : Sp} {s₁ : Shared} {vs : List Value} {ns : List Int}
    (KX : K.In s₁.heap) (hns : s₁.heap.Ns mainGlobals mg) (hb : s₁.heap.Ns builtinsNs mb) (hbb : ∀ x : Str, x ≠ "__name__" → mb x = bootBuiltins x) (hlim : s₁.heap.NoLimit) (hg : s₁.gens = #[])
    (ha : s₁.heap.get? a = some { cls := .type "list", data := .seq vs.toArray }) (hi : IntsAre vs ns) (hl : ns.length ≤ sizeLine) (hr : Room k callerA)
    (F : ∀ base : Heap, K.In base → base.Ns mainGlobals mg → FnOk P w K mg base CX k fa fd [x] sp) (hbind : ∀ (s : Shared) (u : Value), BindsTo s fd ⟨[u], []⟩ [(x, u)])
    (hsp : ∀ H : Hp, Only H → SqL K H a (ns.map V.int) → sp [.ref a] H (fun v _ => v = .bl true) fun _ _ _ => False)
    (hCX : ∀ H e s', CX [] H s₁ (fun _ _ _ => False) e s' → False) :
    codeAny (model P w) callerA (.call (.ref fa) ⟨[.ref a], []⟩) (fun r s' => r = .ok (.ret (.bool true)) ∧ OldK s₁.heap s'.heap ∧ s'.os = s₁.os ∧ AllBare s'.gens) s₁ := by
  have rv := vals_ints hi
  have lenV := hi.length
  have core : ∀ H : Hp, Only H → SqL K H a (ns.map V.int) → HOk P w H s₁.heap → (∀ b, H b ≠ none → b = a) → (H a ≠ none → K.lookup a = none) →
      codeAny (model P w) callerA (.call (.ref fa) ⟨[.ref a], []⟩) (fun r s' => r = .ok (.ret (.bool true)) ∧ OldK s₁.heap s'.heap ∧ s'.os = s₁.os ∧ AllBare s'.gens) s₁ := by
    intro H hO hS hok hA hK
    have base_of : ∀ {b : Addr} {o : Obj}, s₁.heap.get? b = some o → H b = none → (hidT s₁.heap H).get? b = some o := fun e n => hidT_get e n
    have noA : ∀ {b : Addr} {o : Obj} {es : Array DictEntry} {ep : Nat}, s₁.heap.get? b = some o → o.data = .dict es ep → H b = none := fun {b o es ep} e d => by
      cases q : H b with
      | none => rfl
      | some u =>
        have e' : b = a := hA b (by rw [q]; simp)
        subst e'
        rw [ha] at e; cases e
        have d' : Data.seq vs.toArray _ = Data.dict es ep := d
        cases d'
    have nsK : ∀ {b : Addr} {m : Str → Option Value}, s₁.heap.Ns b m → (hidT s₁.heap H).Ns b m := fun {b m} ⟨o, es, ep, e, d, r⟩ => ⟨o, es, ep, base_of e (noA e d), d, r⟩
    have hKb : K.In (hidT s₁.heap H) := fun b o e => base_of (KX b o e) (by
      cases q : H b with
      | none => rfl
      | some u =>
        have e' : b = a := hA b (by rw [q]; simp)
        subst e'
        rw [hK (by rw [q]; simp)] at e; cases e)
    have hM : Mod K mg (hidT s₁.heap H) := ⟨hKb, nsK hns, ⟨mb, nsK hb, hbb⟩, let ⟨mc, h1, h2⟩ := hlim; ⟨mc, nsK h1, h2⟩⟩
    have e0 : Env0 P w K mg (hidT s₁.heap H) callerA [] s₁ H := ⟨rfl, hM, fun b o e => of_hidT e, Nat.le_of_eq (hidT_size _ _), trivial, fun b hb => absurd (show b ∈ ([] : List Addr) from hb) (by simp), hok, .of_eq hg⟩
    refine codeAny_mono ((F _ hKb (nsK hns)).run callerA [] s₁ H ⟨[.ref a], []⟩ [.ref a] [.ref a] _ _ hr e0 (hbind s₁ (.ref a)) (.cons rfl .nil) (hsp H hO hS)) fun r s' h => ?_
    cases r with
    | error e => exact (hCX H e s' h).elim
    | ok fl =>
      cases fl with
      | next => exact False.elim h
      | brk => exact False.elim h
      | cont => exact False.elim h
      | ret u =>
        obtain ⟨v, H', os, bare, un, hok', r', q⟩ := h
        have q' : v = .bl true := q
        subst q'
        obtain rfl : u = Value.bool true := r'
        refine ⟨rfl, OldK.of_keep fun b o e => ?_, os, bare⟩
        cases q : H b with
        | none => exact un.keep b o e q (by intro z; exact absurd (show b ∈ ([] : List Addr) from z) (by simp)) (by simp)
        | some u =>
          rcases hO b with z | ⟨ob, xs, z⟩
          · rw [q] at z; cases z
          · have z2 := un.frzs b ob _ z
            obtain ⟨e1, _⟩ := hok b _ z
            obtain ⟨e2, _⟩ := hok' b _ z2
            rw [e] at e1; cases e1
            exact e2
  cases hk : K.lookup a with
  | some o =>
    have e := KX a o hk
    rw [ha] at e
    cases e
    refine core (fun _ => none) (fun _ => .inl rfl) (.inr ⟨_, vs.toArray, _, hk, rfl, rfl, rfl, by rw [List.size_toArray, lenV]; exact hl, by simpa using rv⟩) (fun b u z => by have z' : (none : Option HO) = some u := z; cases z') (fun b z => absurd rfl z) fun z => absurd rfl z
  | none =>
    refine core (fun b => if b = a then some (.frz { cls := .type "list", data := .seq vs.toArray } (.lst (ns.map V.int))) else none) (fun b => ?_) (.inl (.inr ⟨{ cls := .type "list", data := .seq vs.toArray }, if_pos rfl⟩)) (fun b u z => ?_) (fun b z => ?_) fun _ => hk
    · by_cases hb : b = a
      · exact .inr ⟨_, _, if_pos hb⟩
      · exact .inl (if_neg hb)
    · by_cases hb : b = a
      · have z' := (if_pos hb).symm.trans z
        cases z'
        subst hb
        exact ⟨ha, by rw [List.length_map]; exact hl, vs, _, rv, ha⟩
      · have z' := (if_neg hb).symm.trans z
        cases z'
    · by_cases hb : b = a
      · exact hb
      · exact absurd (if_neg hb) z
end L2
namespace L2
open PySem PySem.Spec PyProof.Rows
theorem walk_of {l : PySem.W.OpenLaw} {n k : Nat} {q : Program} {loose : List Str} {XP : (Str → Option Value) → Heap → Prop} {YP : World → Heap → Prop} {d : DefRec} {K : Params → PySem.W.Frag} {CX : World → CXT} {sp : World → Sp} {x : Str}
    (hn : l.most = some n) (hn2 : n ≤ sizeLine) (hdf : d.params.defaults = []) (hr : Room k callerA)
    (hY : ∀ (w : World) (h : Heap), YP w h → (K w.params).In h)
    (F : ∀ (w : World) (mg : Str → Option Value) (fa : Addr) (h : Heap), (K w.params).In h → h.Ns mainGlobals mg → mg d.name = some (.ref fa) →
      ∃ fd : FuncData, (∀ (s : Shared) (u : Value), BindsTo s fd ⟨[u], []⟩ [(x, u)]) ∧
        ∀ base : Heap, (K w.params).In base → base.Ns mainGlobals mg → FnOk l.prog w (K w.params) mg base (CX w) k fa fd [x] (sp w))
    (hsp : ∀ (w : World) (H : Hp) (a : Addr) (ns : List Int), ns.length ≤ n → Only H → SqL (K w.params) H a (ns.map V.int) → sp w [.ref a] H (fun v _ => v = .bl true) fun _ _ _ => False)
    (hCX : ∀ (w : World) (H : Hp) (s : Shared) (e : Value) (s' : Shared), CX w [] H s (fun _ _ _ => False) e s' → False) :
    PySem.W.WalkO q loose XP YP l.row.toRowW d [] (fun f vs => PySem.call f vs) := by
  refine Att.attach_call hn hdf fun w s₀ s₁ mg mb fa o pm cd doc a vs ns G Y ho hd hcd hmg hobj hints hlen hg => ?_
  have KX := hY w _ Y
  obtain ⟨fd, hb, hF⟩ := F w mg fa _ KX G.T.g hmg
  exact law_call KX G.T.g G.T.b G.T.builtins G.T.nolimit hg hobj hints (Nat.le_trans hlen hn2) hr hF hb (fun H hO hS => hsp w H a ns hlen hO hS) fun H e s' => hCX w H s₁ e s'
end L2
namespace L2
open PySem PySem.Spec PyProof.Rows
def inClass (s : Stmt) (j : Nat) : Stmt := match s with
  | .ClassDef _ _ _ body _ _ _ _ _ _ _ => body.getD j (.Pass ⟨0, 0, 0, 0⟩)
  | _ => .Pass ⟨0, 0, 0, 0⟩
def defArgs (s : Stmt) : Arguments := match s with
  | .FunctionDef _ a _ _ _ _ _ _ _ _ => a
  | _ => { posonlyargs := [], args := [], vararg := none, kwonlyargs := [], kw_defaults := [], kwarg := none, defaults := [] }
def defBody (s : Stmt) : List Stmt := match s with
  | .FunctionDef _ _ b _ _ _ _ _ _ _ => b
  | _ => []
def defScope (s : Stmt) : Scope := match s with
  | .FunctionDef _ _ _ _ _ _ sc _ _ _ => sc
  | _ => { kind := .function, names := [], isGenerator := false, isCoroutine := false }
abbrev CX0 : CXT := fun _ _ _ _ _ _ => False
abbrev E0 : XK := fun _ _ _ => False
theorem pass0 {X : Cx} : Passes CX0 X E0 := fun _ _ _ _ _ _ _ h => h.elim
structure Fun (K : PySem.W.Frag) (x qual : Str) (st : Stmt) (f : Addr) (fd : FuncData) : Prop where
  ex : ∃ (oc : Value) (od : Option Addr) (kV doc pm : Value) (an : Option Addr) (cdv ct : Value) (osl : Array (Option Value)),
    fd = PySem.W.fnOf x qual (defArgs st) (defBody st) (defScope st) .none kV doc pm an cdv ct ∧ K.lookup f = some ⟨oc, od, .func fd, osl⟩ ∧ PySem.W.codeIn K cdv qual = true
  kp : PySem.W.keepIn K (.ref f) = true
section
variable {P : Program} {w : World} {K : PySem.W.Frag} {mg : Str → Option Value} {base : Heap}
theorem Fun.ok {x qual : Str} {st : Stmt} {f : Addr} {fd : FuncData} {N ps : List Str} {k : Nat} {sp : Sp} (F : Fun K x qual st f fd) (S : FnScope N ps (defScope st)) (len : ∀ vs H Q E, sp vs H Q E → vs.length = ps.length)
    (hbody : ∀ (cdv : Value) (A : Around) (outer : List Env) (s : Shared) (H : Hp) (vs : List V) (Q : VK) (E : XK), Room k (A.deeper (envOfC qual (defScope st) s.heap.objs.size f cdv)) → sp vs H Q E →
      ∃ t, PSs (cxOf CX0 P w K mg base N qual (defScope st) f cdv A outer s H E).nox (defBody st) t ∧ t { nx := fun _ H' => Q .non H', rt := Q } (start N vs) H) : FnOk P w K mg base CX0 (k + 1) f fd ps sp := by
  obtain ⟨oc, od, kV, doc, pm, an, cdv, ct, osl, rfl, lk, hcd⟩ := F.ex
  refine fn_of lk hcd S len fun A outer s H vs Q E hr hsp => ?_
  obtain ⟨t, h, q⟩ := hbody cdv A outer s H vs Q E hr hsp
  exact ⟨t, h.nox, q⟩
theorem Fun.binds {x qual : Str} {st : Stmt} {f : Addr} {fd : FuncData} {ps : List Str} (F : Fun K x qual st f fd)
    (h : ∀ (kV doc pm : Value) (an : Option Addr) (cdv ct : Value) (us : List Value), us.length = ps.length → bindArgs (PySem.W.fnOf x qual (defArgs st) (defBody st) (defScope st) .none kV doc pm an cdv ct) ⟨us, []⟩ = pure (ps.zip us)) : Binds K fd ps [] := by
  obtain ⟨oc, od, kV, doc, pm, an, cdv, ct, osl, rfl, lk, hcd⟩ := F.ex
  exact .all (h kV doc pm an cdv ct)
theorem fun_mk {x qual : Str} {st : Stmt} {f : Addr} {oc : Value} {od an : Option Addr} {osl : Array (Option Value)} {kV doc pm cdv ct : Value} (l : K.lookup f = some ⟨oc, od, .func (PySem.W.fnOf x qual (defArgs st) (defBody st) (defScope st) .none kV doc pm an cdv ct), osl⟩)
    (c : PySem.W.codeIn K cdv qual = true) (k : PySem.W.keepIn K (.ref f) = true) : Fun K x qual st f (PySem.W.fnOf x qual (defArgs st) (defBody st) (defScope st) .none kV doc pm an cdv ct) := ⟨⟨oc, od, kV, doc, pm, an, cdv, ct, osl, rfl, l, c⟩, k⟩
end
section
variable {X : Cx}
theorem pv (i : Nat) {x : Str} {pos : Pos} (hN : X.N[i]? = some x := by rfl) (hv : Vis X.env.scope x := by first | exact Or.inl rfl | exact Or.inr (Or.inl rfl) | exact Or.inr (Or.inr rfl)) (hd : (x == ("__debug__" : Str)) = false := by decide)
    (hcd : (x == ("__classdict__" : Str)) = false := by decide) : PE X (.Name x pos) (tVar i) := pe_var hN hv hd hcd
end
theorem ite2 {c A B : Prop} [Decidable c] (h1 : c → A) (h2 : ¬ c → B) : if c then A else B := by
  by_cases h : c
  · rw [if_pos h]
    exact h1 h
  · rw [if_neg h]
    exact h2 h
def Same (H H' : Hp) : Prop := ∀ b o, H b = some o → H' b = some o
theorem Same.refl (H : Hp) : Same H H := fun _ _ h => h
theorem Same.trans {H H1 H2 : Hp} (a : Same H H1) (b : Same H1 H2) : Same H H2 := fun c o h => b c o (a c o h)
theorem Same.free {H H' : Hp} (e : Same H H') {l : Addr} (h : H' l = Option.none) : H l = Option.none := by
  cases q : H l with
  | none => rfl
  | some o =>
    rw [e l o q] at h
    cases h
theorem Same.seq {K : PySem.W.Frag} {H H' : Hp} {a : Addr} {xs : List V} (e : Same H H') (h : SqL K H a xs) : SqL K H' a xs := by
  rcases h with (h | ⟨o, h⟩) | h
  · exact .inl (.inl (e _ _ h))
  · exact .inl (.inr ⟨o, e _ _ h⟩)
  · exact .inr h
end L2
set_option Elab.async false
set_option linter.all false
set_option maxRecDepth 100000
set_option maxHeartbeats 4000000
namespace L2
open PySem PySem.Spec PyProof.Rows
theorem part_of {v : Value} {o : Option Int} (p : IsPart v o) : ∃ q : Option (Int × Tok), v = partValue q ∧ q.map (·.1) = o := by
  cases p with
  | none => exact ⟨none, rfl, rfl⟩
  | int i t => exact ⟨some (i, t), rfl, rfl⟩
def rSlS : V → Option Int → Option Int → Hp → VK → Prop := fun x lo hi H Q => ∃ z, x = .str z ∧ z.length ≤ sizeLine ∧ Q (.str (Txt.slice z lo hi)) H
theorem sl_str {X : Cx} : SlR X rSlS := by
  intro pins s σ H x v vl vu lo hi sl Q I rx hs pl pu h
  obtain ⟨z, rfl, hz, q⟩ := h
  obtain ⟨t, rfl⟩ := rx
  obtain ⟨ql, rfl, rfl⟩ := part_of pl
  obtain ⟨qu, rfl, rfl⟩ := part_of pu
  refine ⟨"str", _, F.slot_str_getitem.lookup, typeIs_str _ _ _, ?_⟩
  refine wpAny_getItem_str_slice (l := ql) (u := qu) (st := none) hs rfl ?_
  exact post_val_or_str ⟨Nat.le_trans (Txt.slice_le z _ _) hz, fun t' k => ⟨.str _, H, I.tok _, ⟨t', rfl⟩, q⟩⟩
def Its (x : Str) : It := ⟨fun i _ => i < x.cps.size, fun i H v H' => H' = H ∧ ∃ c, x.cps[i]? = some c ∧ v = .str ⟨#[c]⟩, fun i _ => x.cps.size ≤ i⟩
theorem turn_str {P : Program} {w : World} {K : PySem.W.Frag} {tg : Expr} (x : Str) (t : Tok) (it : Addr) (ty : String) (hty : ty = "str_ascii_iterator" ∨ ty = "str_iterator") :
    Turn P w K tg (Its x) [it] it (fun i h => h.IsStrIter it ty x t i) where
  mem := by simp
  obj := fun i h st b hb => by
    have e : b = it := by simpa using hb
    subst e
    obtain ⟨o, e, c, d⟩ := st
    exact ⟨o, e, fun v z => by rw [d] at z; cases z⟩
  keep := fun i h h' st k => by
    obtain ⟨o, e, r⟩ := st
    exact ⟨o, k it (by simp) o e, r⟩
  item := by
    intro X hP hw hK hc i pins s σ H E I hf st hg
    subst hP hw hK
    obtain ⟨f0, f1, f2, f3, f4, f5⟩ := hf it (by simp)
    have hg' : i < x.cps.size := hg
    have hx : x.cps[i]? = some x.cps[i] := by simp [hg']
    rcases hty with rfl | rfl
    · refine wpAny_pyNext_ascii_item st hx fun h' st' sb => ?_
      have I1 : Inv X pins σ H { s with heap := h', toks := s.toks + 1 } := I.turned (fun b o hb e => (sb.2 b hb).trans e) f0 f1 f3 f4 f5
      obtain ⟨o, e, c, d⟩ := id st'
      exact ⟨_, rfl, go_of (s := { s with heap := h', toks := s.toks + 1 }) e c d (by decide) ⟨.str ⟨#[x.cps[i]]⟩, H, I1, ⟨_, rfl⟩, ⟨rfl, _, hx, rfl⟩, st', fun b hb => (hf b hb).1⟩⟩
    · refine wpAny_pyNext_wide_item st hx fun h' st' sb => ?_
      have I1 : Inv X pins σ H { s with heap := h', toks := s.toks + 1 } := I.turned (fun b o hb e => (sb.2 b hb).trans e) f0 f1 f3 f4 f5
      obtain ⟨o, e, c, d⟩ := id st'
      exact ⟨_, rfl, go_of (s := { s with heap := h', toks := s.toks + 1 }) e c d (by decide) ⟨.str ⟨#[x.cps[i]]⟩, H, I1, ⟨_, rfl⟩, ⟨rfl, _, hx, rfl⟩, st', fun b hb => (hf b hb).1⟩⟩
  done := by
    intro X hP hw hK hc i pins s σ H E I hf st hg
    subst hP hw hK
    obtain ⟨f0, f1, f2, f3, f4, f5⟩ := hf it (by simp)
    have hx : x.cps[i]? = none := by
      have : x.cps.size ≤ i := hg
      simp [this]
    rcases hty with rfl | rfl
    · exact wpAny_pyNext_ascii_end (I.ok.hd hc) st hx fun h' eb => ⟨rfl, I.turned (t' := s.toks) (fun b o hb e => eb b o hb e) f0 f1 f3 f4 f5⟩
    · exact wpAny_pyNext_wide_end (I.ok.hd hc) st hx fun h' eb => ⟨rfl, I.turned (t' := s.toks) (fun b o hb e => eb b o hb e) f0 f1 f3 f4 f5⟩
  self := fun _ _ _ _ _ st h => by
    rcases hty with rfl | rfl
    · exact wpAny_pyIter_striter_ascii st h
    · exact wpAny_pyIter_striter_wide st h
theorem pi_str_at {X : Cx} {tg : Expr} {pins : List (Addr × Obj)} {σ : St} {H1 : Hp} {s1 : Shared} {R : It → Hp → Prop} {z : Str} {v : Value} {E : Value → Shared → Prop} (I1 : Inv X pins σ H1 s1) (r1 : RelV (.str z) v) (q : R (Its z) H1) :
    wpAny (model X.prog X.w) X.A (pyIter v) (PIE X pins σ tg R) E s1 := by
  obtain ⟨t, rfl⟩ := r1
  have fp : ∀ (b : Addr), b ∈ [s1.heap.objs.size] → FpOk X pins H1 b := fun b hb => by
    have e : b = s1.heap.objs.size := by simpa using hb
    subst e
    exact I1.fpOk (Nat.le_refl _) (I1.hok.fresh (Nat.le_refl _))
  cases ha : z.cps.all (· < 128)
  · refine wpAny_pyIter_wide ha ?_
    exact ⟨s1.heap.objs.size, [s1.heap.objs.size], _, _, H1, rfl, I1.kept (t' := s1.toks) fun b o e => Heap.get?_push_of_some _ e, turn_str z t _ "str_iterator" (.inr rfl), ⟨_, Heap.get?_push_size _ rfl, rfl, rfl⟩, fp, q⟩
  · refine wpAny_pyIter_ascii ha ?_
    exact ⟨s1.heap.objs.size, [s1.heap.objs.size], _, _, H1, rfl, I1.kept (t' := s1.toks) fun b o e => Heap.get?_push_of_some _ e, turn_str z t _ "str_ascii_iterator" (.inl rfl), ⟨_, Heap.get?_push_size _ rfl, rfl, rfl⟩, fp, q⟩
def clos (cells : List (Str × Addr)) : List (Str × NameKind) → List (Str × Addr) → List (Str × Addr)
  | [], acc => acc
  | (n, k) :: r, acc => if k == .free then clos cells r ((n, (cells.lookup n).getD 0) :: acc) else clos cells r acc
theorem closureFor_clos {scope : Scope} {env : Env} (h : ∀ y ∈ scope.names, y.2 = .free → ∃ c, env.cells.lookup y.1 = some c) : closureFor scope env = pure (clos env.cells scope.names []) := by
  have go : ∀ (names : List (Str × NameKind)) (acc : List (Str × Addr)), (∀ y ∈ names, y.2 = .free → ∃ c, env.cells.lookup y.1 = some c) →
      (forIn names acc fun (x : Str × NameKind) (r : List (Str × Addr)) => (if x.2 == NameKind.free then do let a ← cellOf env x.1; pure (ForInStep.yield ((x.1, a) :: r)) else pure (ForInStep.yield r) : Sem (ForInStep (List (Str × Addr))))) = pure (clos env.cells names acc) := by
    intro names
    induction names with
    | nil => intro acc _; rfl
    | cons x r ih =>
      intro acc hx
      obtain ⟨n, k⟩ := x
      rw [List.forIn_cons]
      have hr : ∀ y ∈ r, y.2 = .free → ∃ c, env.cells.lookup y.1 = some c := fun y hy => hx y (List.mem_cons_of_mem _ hy)
      by_cases hk : k = .free
      · subst hk
        obtain ⟨c, hc⟩ := hx (n, .free) List.mem_cons_self rfl
        have hc' : env.cells.lookup n = some c := hc
        have e : cellOf env n = pure c := by unfold cellOf; rw [hc']
        simp only [beq_self_eq_true, if_true, e, pure_bind]
        rw [ih _ hr]
        simp only [clos, beq_self_eq_true, if_true, hc', Option.getD_some]
      · have hb : (k == NameKind.free) = false := by simpa using hk
        simp only [hb, Bool.false_eq_true, if_false, pure_bind]
        rw [ih _ hr]
        simp only [clos, hb, Bool.false_eq_true, if_false]
  have := go scope.names [] h
  unfold closureFor
  first
    | (rw [this]; rfl)
    | (simp only [this, pure_bind]; rfl)
    | simpa using this
theorem clos_lookup {cells : List (Str × Addr)} : ∀ (names : List (Str × NameKind)) (acc : List (Str × Addr)) (y : Str) (c : Addr),
    (∀ z ∈ names, z.2 = .free → ∃ c, cells.lookup z.1 = some c) → (∀ d, acc.lookup y = some d → cells.lookup y = some d) → (clos cells names acc).lookup y = some c → cells.lookup y = some c
  | [], acc, y, c, _, ha, h => ha c h
  | (n, k) :: r, acc, y, c, hx, ha, h => by
    have hr : ∀ z ∈ r, z.2 = .free → ∃ c, cells.lookup z.1 = some c := fun z hz => hx z (List.mem_cons_of_mem _ hz)
    by_cases hk : k = .free
    · subst hk
      simp only [clos, beq_self_eq_true, if_true] at h
      refine clos_lookup r _ y c hr (fun d hd => ?_) h
      by_cases hy : y = n
      · subst hy
        obtain ⟨e, he⟩ := hx (y, .free) List.mem_cons_self rfl
        have he' : cells.lookup y = some e := he
        simp only [List.lookup_cons, beq_self_eq_true, he', Option.getD_some] at hd
        rw [he', hd]
      · have hb : (y == n) = false := by simpa using hy
        simp only [List.lookup_cons, hb] at hd
        exact ha d hd
    · have hb : (k == NameKind.free) = false := by simpa using hk
      simp only [clos, hb, Bool.false_eq_true, if_false] at h
      exact clos_lookup r acc y c hr ha h
theorem clos_keep {cells : List (Str × Addr)} : ∀ (names : List (Str × NameKind)) (acc : List (Str × Addr)) (y : Str), (∃ c, acc.lookup y = some c) → ∃ c, (clos cells names acc).lookup y = some c
  | [], _, _, h => h
  | (n, k) :: r, acc, y, h => by
    by_cases hk : k = .free
    · subst hk
      simp only [clos, beq_self_eq_true, if_true]
      refine clos_keep r _ y ?_
      by_cases hy : y = n
      · subst hy; exact ⟨(cells.lookup y).getD 0, by simp only [List.lookup_cons, beq_self_eq_true]⟩
      · have hb : (y == n) = false := by simpa using hy
        simp only [List.lookup_cons, hb]; exact h
    · have hb : (k == NameKind.free) = false := by simpa using hk
      simp only [clos, hb, Bool.false_eq_true, if_false]
      exact clos_keep r acc y h
theorem clos_has {cells : List (Str × Addr)} : ∀ (names : List (Str × NameKind)) (acc : List (Str × Addr)) (y : Str), (y, NameKind.free) ∈ names → ∃ c, (clos cells names acc).lookup y = some c
  | [], _, _, h => by simp at h
  | (n, k) :: r, acc, y, h => by
    rcases List.mem_cons.mp h with e | h
    · injection e with e1 e2
      subst e1 e2
      simp only [clos, beq_self_eq_true, if_true]
      exact clos_keep r _ y ⟨(cells.lookup y).getD 0, by simp only [List.lookup_cons, beq_self_eq_true]⟩
    · by_cases hk : k = .free
      · rw [hk]
        simp only [clos, beq_self_eq_true, if_true]
        exact clos_has r _ y h
      · have hb : (k == NameKind.free) = false := by simpa using hk
        simp only [clos, hb, Bool.false_eq_true, if_false]
        exact clos_has r _ y h
theorem relabel_kind {env : Env} : ∀ {names : List (Str × NameKind)} {x : Str} {k : NameKind}, (names.map fun (n, k) => if (k == NameKind.free && env.scope.kind == .function && env.kindOf n == some .cell) then (n, NameKind.cell) else (n, k)).lookup x = some k →
    names.lookup x = some k ∨ (k = .cell ∧ names.lookup x = some .free)
  | [], _, _, h => by simp at h
  | (n, j) :: r, x, k, h => by
    have ih := @relabel_kind env r x k
    have h' : List.lookup x ((if (j == NameKind.free && env.scope.kind == .function && env.kindOf n == some .cell) = true then (n, NameKind.cell) else (n, j)) ::
      (r.map fun (n, k) => if (k == NameKind.free && env.scope.kind == .function && env.kindOf n == some .cell) then (n, NameKind.cell) else (n, k))) = some k := h
    cases hx : x == n with
    | true =>
      by_cases hc : (j == NameKind.free && env.scope.kind == .function && env.kindOf n == some .cell) = true
      · rw [if_pos hc] at h'
        simp only [List.lookup_cons, hx] at h' ⊢
        have hj : j = .free := by
          have : (j == NameKind.free) = true := by
            cases q : (j == NameKind.free) with
            | true => rfl
            | false => rw [q] at hc; simp at hc
          simpa using this
        subst hj
        exact .inr ⟨(Option.some.inj h').symm, rfl⟩
      · rw [if_neg hc] at h'
        simp only [List.lookup_cons, hx] at h' ⊢
        exact .inl h'
    | false =>
      have h2 : List.lookup x (r.map fun (n, k) => if (k == NameKind.free && env.scope.kind == .function && env.kindOf n == some .cell) then (n, NameKind.cell) else (n, k)) = some k := by
        by_cases hc : (j == NameKind.free && env.scope.kind == .function && env.kindOf n == some .cell) = true
        · rw [if_pos hc] at h'; simpa only [List.lookup_cons, hx] using h'
        · rw [if_neg hc] at h'; simpa only [List.lookup_cons, hx] using h'
      rcases ih h2 with q | ⟨q1, q2⟩
      · exact .inl (by simpa only [List.lookup_cons, hx] using q)
      · exact .inr ⟨q1, by simpa only [List.lookup_cons, hx] using q2⟩
abbrev cxC (X : Cx) (NC : List Str) (scope : Scope) (C : Addr) (s : Shared) (H : Hp) (ex : List Addr) : Cx :=
  { X with N := NC, s₀ := s, H₀ := H, env := compEnvC scope (clos X.env.cells scope.names []) C X.env, outer := X.stack, stack := X.stack, ex := ex, fn := fun _ => false, pn := [], xe := fun _ _ => False }
def slotsC (nt : Nat) (is : List Nat) (σ : St) : St := List.replicate nt none ++ is.map fun i => (σ[i]?).join
theorem slotsC_len (nt : Nat) (is : List Nat) (σ : St) : (slotsC nt is σ).length = nt + is.length := by simp [slotsC]
def PIf (X : Cx) (ifs : List Expr) (t : TT) : Prop :=
  ∀ (pins : List (Addr × Obj)) (s : Shared) (σ : St) (H : Hp) (Q : Bool → Hp → Prop), Inv X pins σ H s → t σ H Q →
    wpAny (model X.prog X.w) X.A (forIn ifs true fun c r => if r = true then do let ok ← isTrue c X.env (eval c X.env); pure (ForInStep.yield ok) else pure (ForInStep.yield r)) (TP X pins σ Q) X.xe s
def tTrue : TT := fun _ H Q => Q true H
theorem pif_nil {X : Cx} : PIf X [] tTrue := fun _ _ _ H _ I h => wpAny_tests_nil ⟨H, I, h⟩
theorem pif_one {X : Cx} {c : Expr} {t : TT} (h : PT X c t) : PIf X [c] t := fun pins s σ H Q I hw => wpAny_tests_one (h pins s σ H Q I hw)
section
variable {prog : Program} {w : World} {A : Around} {R : Result → Shared → Prop} {s : Shared}
theorem compLoop_any {elt target iter : Expr} {ifs : List Expr} {scope : Scope} {pos : Pos} {it acc : Value} {env : Env} (I : Nat → Shared → Prop)
    (turn : ∀ n s, I n s → wpAny (model prog w) A (pyNext it) (fun r s₁ => match r with
      | none => R (.ok .next) s₁
      | some v => wpAny (model prog w) A (letOwnedTupleGo target it v) (fun _ s₁' => wpAny (model prog w) A (assign target env v) (fun _ s₂ =>
          wpAny (model prog w) A (forIn ifs true fun c r => if r = true then do let ok ← isTrue c env (eval c env); pure (ForInStep.yield ok) else pure (ForInStep.yield r)) (fun ok s₃ =>
            if ok = true then wpAny (model prog w) A (eval elt env) (fun x s₄ =>
              wpAny (model prog w) A (call (.builtin "list.append") [acc, x]) (fun _ s₅ => ∃ m, m < n ∧ I m s₅) (fun _ _ => False) s₄) (fun _ _ => False) s₃
            else ∃ m, m < n ∧ I m s₃) (fun _ _ => False) s₂) (fun _ _ => False) s₁') (fun _ _ => False) s₁) (fun _ _ => False) s)
    (n : Nat) (h : I n s) :
    codeAny (model prog w) A (.compLoop (.ListComp elt [⟨target, iter, ifs, 0⟩] scope pos) 0 it acc env) R s := by
  refine codeAny_loop rfl I (fun n s hI => ?_) n h
  show wpAny _ A ((compTurn (.ListComp elt [⟨target, iter, ifs, 0⟩] scope pos) 0 it acc env).onRaise (fun x => do noteFrame x env; theTreesLotGoes x)) _ _ s
  refine wpAny_noted ?_
  rw [compTurn_list]
  refine wpAny_bind (wpAny_standAt (wpAny_bind (wpAny_mono (turn n s hI) (fun r s₁ h₁ => ?_) fun _ _ h' => h'.elim)))
  cases r with
  | none => exact wpAny_pure h₁
  | some v =>
    refine wpAny_bind (wpAny_mono h₁ (fun _ s₁' h₁' => ?_) fun _ _ h' => h'.elim)
    refine wpAny_bind (wpAny_mono h₁' (fun _ s₂ h₂ => wpAny_bind (wpAny_mono h₂ (fun ok s₃ h₃ => ?_) fun _ _ h' => h'.elim)) fun _ _ h' => h'.elim)
    cases ok with
    | false => exact wpAny_pure ⟨rfl, h₃⟩
    | true =>
      exact wpAny_bind (wpAny_bind (wpAny_mono h₃ (fun x s₄ h₄ => wpAny_bind (wpAny_mono h₄ (fun _ s₅ h₅ => wpAny_pure (wpAny_pure ⟨rfl, h₅⟩)) fun _ _ h' => h'.elim)) fun _ _ h' => h'.elim))
end
def tComp (wi : TI) (nt : Nat) (is : List Nat) (g : TG) (tt : TT) (te : TE) : TE := fun σ H Q => wi σ H fun J H1 => ∃ W : Nat → Nat → List V → Hp → Prop, (∃ m, W 0 m [] H1) ∧ ∀ i m acc H, W i m acc H →
  (J.stop i H ∧ ∀ p, H p = none → Q (.ref p) (upd H p (.lst acc))) ∨
  (J.go i H ∧ acc.length < sizeLine ∧ ∃ N : List V → Hp → Prop, (∀ acc' H', N acc' H' → ∃ m', m' < m ∧ W (i + 1) m' acc' H') ∧ ∀ x H', J.yld i H x H' → g x (slotsC nt is σ) H' fun σ2 H2 => tt σ2 H2 fun b H3 =>
    if b = true then te σ2 H3 fun y H4 => N (acc ++ [y]) H4 else N acc H3)
structure CompSc (X : Cx) (NC : List Str) (nt : Nat) (is : List Nat) (csc : Scope) : Prop where
  kind : csc.kind = .function
  nocell : (csc.names.all fun y => y.2 != .cell) = true
  locs : (csc.names.all fun y => y.2 != .local || csc.names.lookup y.1 == some .local) = true
  frees : (csc.names.all fun y => y.2 != .free || (X.env.kindOf y.1 == some .cell || X.env.kindOf y.1 == some .free)) = true
  len : NC.length = nt + is.length
  slots : (NC.drop nt).map some = is.map fun i => X.N[i]?
  isfree : ((NC.drop nt).all fun y => csc.names.lookup y == some .free) = true
section
variable {X : Cx} {pins : List (Addr × Obj)} {σ : St} {H : Hp} {s : Shared} {NC : List Str} {nt : Nat} {is : List Nat} {csc : Scope}
theorem CompSc.free_kind (S : CompSc X NC nt is csc) {y : Str} (h : (y, NameKind.free) ∈ csc.names) : X.env.kindOf y = some .cell ∨ X.env.kindOf y = some .free := by
  have q := List.all_eq_true.mp S.frees _ h
  simpa using q
theorem CompSc.no_cell (S : CompSc X NC nt is csc) {y : Str} (h : (y, NameKind.cell) ∈ csc.names) : False := by
  have q := List.all_eq_true.mp S.nocell _ h
  simp at q
theorem CompSc.has_cells (S : CompSc X NC nt is csc) (I : Inv X pins σ H s) : ∀ y ∈ csc.names, y.2 = .free → ∃ c, X.env.cells.lookup y.1 = some c := fun y hy e => by
  obtain ⟨n, k⟩ := y
  have e' : k = .free := e
  subst e'
  exact I.ok.has n (S.free_kind hy)
theorem fp_lt {fp : List Addr} (ho : ∀ b ∈ fp, ∃ o, s.heap.get? b = some o) : ∀ b ∈ fp, b < s.heap.objs.size := fun b hb => let ⟨_, e⟩ := ho b hb; Heap.lt_size e
theorem inv_block (S : CompSc X NC nt is csc) (I : Inv X pins σ H s) {fp : List Addr} (hf : ∀ b ∈ fp, FpOk X pins H b) (ho : ∀ b ∈ fp, ∃ o, s.heap.get? b = some o) {h' : Heap} {C : Addr} {m : Str → Option Value} {t' : Nat}
    (hC : s.heap.objs.size ≤ C) (k : ∀ b o, s.heap.get? b = some o → h'.get? b = some o) (hn : h'.Ns C m) : Inv (cxC X NC csc C s H fp) [] (slotsC nt is σ) H { s with heap := h', toks := t' } := by
  have hcells := S.has_cells I
  have hlook : ∀ y c, (clos X.env.cells csc.names []).lookup y = some c → X.env.cells.lookup y = some c := fun y c h => clos_lookup csc.names [] y c hcells (by intro d hd; simp at hd) h
  have hlt := fp_lt ho
  have hfree : ∀ y, csc.names.lookup y = some .free → ∃ c, (clos X.env.cells csc.names []).lookup y = some c := fun y h => clos_has csc.names [] y (PySem.mem_of_lookup h)
  refine ⟨⟨I.ok.mod, S.kind, I.ok.glob, I.ok.blt, hC, fun x y c h1 h2 => I.ok.inj x y c (hlook x c h1) (hlook y c h2), fun x hx => ?_, fun x c h _ => (Bool.false_ne_true h).elim, I.ok.hd, I.ok.frames, .inl rfl,
    fun b hb => ⟨Nat.ne_of_lt (Nat.lt_of_lt_of_le (hlt b hb) hC), fun x c h => (hf b hb).2.2.2.2.1 x c (hlook x c h)⟩, I.bs, Nat.le_trans I.ok.bsz I.sz, fun b o e hb => ?_, fun b hb hs => ?_, I.stack, I.stkFree⟩,
    rfl, I.bare, Un.kept k, ⟨m, hn, fun i x v e1 e2 e3 => ?_⟩, fun x c h => ?_, I.hok.fresh hC, fun x c h => I.freeC x c (hlook x c h), fun p hp => absurd (show p ∈ ([] : List (Addr × Obj)) from hp) (by simp), I.hok.kept k, ?_⟩
  · have hx' : (relabel csc X.env).names.lookup x = some .cell ∨ (relabel csc X.env).names.lookup x = some .free := hx
    rcases hx' with h | h
    · rcases relabel_kind h with q | ⟨_, q⟩
      · exact (S.no_cell (PySem.mem_of_lookup q)).elim
      · exact hfree x q
    · rcases relabel_kind h with q | ⟨q, _⟩
      · exact hfree x q
      · cases q
  · rcases (hf b hb).2.2.2.1 with z | z
    · exact I.ok.noex b o e z
    · exact absurd (Nat.lt_of_lt_of_le (Heap.lt_size e) (Nat.le_trans I.ok.bsz z)) (Nat.lt_irrefl _)
  · rcases List.mem_cons.mp (I.stkSub b hs) with e | e
    · exact (hf b hb).2.1 e
    · exact (hf b hb).2.2.1 e
  · have hi : nt ≤ i := by
      by_cases hi : nt ≤ i
      · exact hi
      · have : (slotsC nt is σ)[i]? = some none := by
          unfold slotsC
          rw [List.getElem?_append_left (by simpa using hi), List.getElem?_replicate, if_pos (by omega)]
        rw [this] at e2; cases e2
    obtain ⟨j, rfl⟩ : ∃ j, i = nt + j := ⟨i - nt, by omega⟩
    have e2' : (is.map fun i => (σ[i]?).join)[j]? = some (some v) := by
      unfold slotsC at e2
      rw [List.getElem?_append_right (by simp)] at e2
      simpa using e2
    rw [List.getElem?_map] at e2'
    cases ej : is[j]? with
    | none => rw [ej] at e2'; cases e2'
    | some i' =>
      rw [ej] at e2'
      have e3' : (σ[i']?).join = some v := Option.some.inj e2'
      have e4 : σ[i']? = some (some v) := by
        cases q : σ[i']? with
        | none => rw [q] at e3'; cases e3'
        | some o => rw [q] at e3'; exact congrArg some e3'
      have e5 : X.N[i']? = some x := by
        have q := congrArg (fun l => l[j]?) S.slots
        simp only [List.getElem?_map, ej, Option.map_some] at q
        have q2 : (NC.drop nt)[j]? = some x := by rw [List.getElem?_drop]; exact e1
        rw [q2] at q
        simpa using q.symm
      have hxfree : csc.names.lookup x = some .free := by
        have q2 : (NC.drop nt)[j]? = some x := by rw [List.getElem?_drop]; exact e1
        have q := List.all_eq_true.mp S.isfree x (List.mem_of_getElem? q2)
        simpa using q
      have hk := S.free_kind (PySem.mem_of_lookup hxfree)
      obtain ⟨m0, _, hl⟩ := I.loc
      obtain ⟨u, r, l⟩ := hl i' x v e5 e4 (hk.elim (fun z => .inr (.inl z)) fun z => .inr (.inr z))
      refine ⟨u, r, ?_⟩
      rcases l with ⟨z, _⟩ | ⟨_, c, hc, hcell⟩
      · rw [z] at hk; rcases hk with q | q <;> cases q
      · obtain ⟨c', hc'⟩ := hfree x hxfree
        have e6 := hlook x c' hc'
        rw [hc] at e6; cases e6
        refine .inr ⟨?_, c, hc', ?_⟩
        · have e3'' : (relabel csc X.env).names.lookup x = some .local ∨ (relabel csc X.env).names.lookup x = some .cell ∨ (relabel csc X.env).names.lookup x = some .free := e3
          rcases e3'' with z | z | z
          · rcases relabel_kind z with q | ⟨q, _⟩
            · rw [hxfree] at q; cases q
            · cases q
          · exact .inl z
          · exact .inr z
        · obtain ⟨o, ho, hd⟩ := hcell
          exact ⟨o, k c o ho, hd⟩
  · obtain ⟨v, o, ho, hd⟩ := I.cell x c (hlook x c h)
    exact ⟨v, o, k c o ho, hd⟩
  · rw [slotsC_len]; exact S.len.symm
theorem inv_behind (I : Inv X pins σ H s) {fp : List Addr} (hf : ∀ b ∈ fp, FpOk X pins H b) {σ' : St} {H' : Hp} {s' : Shared} {C D : Addr} {pins' : List (Addr × Obj)} {acc : List V} {its : List Value} {n : Nat}
    (J : Inv (cxC X NC csc C s H fp) pins' σ' H' s') (hC : s.heap.objs.size ≤ C) (hD : s.heap.objs.size ≤ D) (hDo : s'.heap.get? D = some { cls := .type "list", data := .seq its.toArray n }) (hDn : H' D = none) (hv : Vals acc its)
    (hz : acc.length ≤ sizeLine) : Inv X pins σ (upd H' D (.lst acc)) s' := by
  have hne : ∀ b o, s.heap.get? b = some o → b ≠ D := fun b o e z => absurd (Nat.lt_of_lt_of_le (Heap.lt_size e) (z ▸ hD)) (Nat.lt_irrefl _)
  have hu : Un (frs X.stack) fp H H' s.heap s'.heap := J.base
  refine I.call' (ch := fp) J.os ⟨hu.keep, hu.slot, fun b o e n hx => by rw [upd_ne (hne b o e)]; exact hu.free b o e n hx, hu.there, fun b xs e => ?_, fun b o u e => ?_, fun b ps e => ?_⟩ (fun b u q => ?_) J.bare fun b hb => ?_
  · have q := hu.tups b xs e
    rw [upd_ne (ne_of_none q hDn)]; exact q
  · have q := hu.frzs b o u e
    rw [upd_ne (ne_of_none q hDn)]; exact q
  · obtain ⟨more, q⟩ := hu.tbls b ps e
    exact ⟨more, by rw [upd_ne (ne_of_none q hDn)]; exact q⟩
  · by_cases hb : b = D
    · subst hb
      rw [upd_same] at q; cases q
      exact ⟨hz, its, n, hv, hDo⟩
    · rw [upd_ne hb] at q
      exact (J.hok b u q).stay (fun _ _ _ e => e) (fun c r => by rw [upd_ne (ne_of_none r hDn)]; exact r) fun c xs r => by rw [upd_ne (ne_of_none r hDn)]; exact r
  · obtain ⟨_, f1, f2, f3, f4, f5⟩ := hf b hb
    exact ⟨f3, f1, f4, f5⟩
theorem comp_run {elt tg iter : Expr} {ifs : List Expr} {pos : Pos} {wi : TI} {g : TG} {tt : TT} {te : TE} {Q : VK} {use : Option (Value → Sem Unit)} {QQ : Value → Shared → Prop} {epos : Pos}
    (S : CompSc X NC nt is csc) (hc : X.calm = true) (hi : PI X tg iter wi)
    (hg : ∀ C s H ex, PG (cxC X NC csc C s H ex) tg g) (ht : ∀ C s H ex, PIf (cxC X NC csc C s H ex) ifs tt) (he : ∀ C s H ex, PE (cxC X NC csc C s H ex) elt te)
    (hgk : ∀ x (σ : St) H Q, g x σ H Q → g x σ H fun σ2 H2 => σ2.drop nt = σ.drop nt ∧ Q σ2 H2)
    (I : Inv X pins σ H s) (h : tComp wi nt is g tt te σ H Q)
    (fin : ∀ (s' : Shared) (C D : Addr) (H' : Hp) (m : Str → Option Value), Inv X pins σ H' s' → Q (.ref D) H' → s'.heap.Ns C m → H' C = none → C ≠ X.env.locals → X.s₀.heap.objs.size ≤ C → (∀ x c, X.env.cells.lookup x = some c → c ≠ C) → (∀ p ∈ X.pn ++ pins, p.1 ≠ C) →
      compPost (model X.prog X.w) X.A X.xe use QQ (.ref D) C (.ok .next) s')
    (hs : ∀ x, foldedSetIterable iter X.env x = pure x) :
    wpAny (model X.prog X.w) X.A (comprehension (.ListComp elt [⟨tg, iter, ifs, 0⟩] csc pos) csc X.env epos (newList []) false (eval iter X.env) use) QQ X.xe s := by
  have hcells := S.has_cells I
  have hnames : ∀ x ∈ csc.names, x.2 = .local → csc.names.lookup x.1 = some .local := fun x hx hl => by
    have q := List.all_eq_true.mp S.locs x hx
    simpa [hl] using q
  have hcell : ∀ y ∈ csc.names, y.2 ≠ .cell := fun y hy e => by
    obtain ⟨n, k⟩ := y
    have e' : k = .cell := e
    subst e'
    exact S.no_cell hy
  refine wpAny_comprehension_free (g := ⟨tg, iter, ifs, 0⟩) (gs := []) (cl := clos X.env.cells csc.names []) rfl hs (closureFor_clos hcells) S.kind hnames ?_
  refine thn (hi pins s σ H _ I h) fun v s1 h1 => thn h1 fun itv s2 h2 => ?_
  obtain ⟨it, fp, tn, J, H2, rfl, I2, T, st2, f2, W, ⟨m0, w0⟩, turn⟩ := h2
  have fo : ∀ b ∈ fp, ∃ o, s2.heap.get? b = some o := fun b hb => let ⟨o, e, _⟩ := T.obj 0 _ st2 b hb; ⟨o, e⟩
  have flt := fp_lt fo
  refine wpAny_newObj_type (wpAny_newFunctionEnv hcell (by intro y hy; simp at hy) (fun h₁ hns₁ hsb₁ => ?_) S.kind)
  dsimp only at hns₁ hsb₁ ⊢
  generalize hH2 : s2.heap.push { cls := .type "list", dict := none, data := .seq ([] : List Value).toArray } = P2 at hns₁ hsb₁ ⊢
  have hCs : P2.objs.size = s2.heap.objs.size + 1 := by rw [← hH2, Heap.size_push]
  generalize hCC : P2.objs.size = C at hns₁ hsb₁ hCs ⊢
  generalize hDD : s2.heap.objs.size = D at hCs ⊢
  have hD : s2.heap.objs.size ≤ D := Nat.le_of_eq hDD
  have hC : s2.heap.objs.size ≤ C := by omega
  have hDC : D ≠ C := by omega
  have old : ∀ b o, s2.heap.get? b = some o → h₁.get? b = some o := fun b o e => hsb₁.extBut b o (Nat.ne_of_lt (Nat.lt_of_lt_of_le (Heap.lt_size e) hC)) (Heap.get?_push_of_some _ (hH2 ▸ Heap.get?_push_of_some _ e))
  have accO : h₁.get? D = some { cls := .type "list", data := .seq ([] : List Value).toArray 0 } := by
    refine hsb₁.extBut _ _ hDC (Heap.get?_push_of_some _ ?_)
    rw [← hH2, ← hDD]
    exact Heap.get?_push_size _ rfl
  have Istart : Inv (cxC X NC csc C s2 H2 fp) [] (slotsC nt is σ) H2 { s2 with heap := h₁, toks := s2.toks + ([] : List (Str × Value)).length } := inv_block S I2 f2 fo hC old hns₁
  have HD0 : H2 D = none := I2.hok.fresh hD
  have HC0 : H2 C = none := I2.hok.fresh hC
  have fpY : ∀ {H' : Hp} {pl : List (Addr × Obj)}, (∀ b ∈ fp, H' b = none) → (∀ p ∈ pl, p.1 ∉ fp) → ∀ b ∈ fp, FpOk (cxC X NC csc C s2 H2 fp) pl H' b := fun {H' pl} hn hp b hb => by
    obtain ⟨_, g1, g2, g3, g4, g5⟩ := f2 b hb
    refine ⟨hn b hb, Nat.ne_of_lt (Nat.lt_of_lt_of_le (flt b hb) hC), fun z => ?_, .inl hb, fun x c e => g4 x c (clos_lookup csc.names [] x c hcells (by intro d hd; simp at hd) e), fun p hpp z => ?_⟩
    · rcases List.mem_cons.mp (I2.stkSub b z) with e | e
      · exact g1 e
      · exact g2 e
    · exact hp p (by simpa using hpp) (z ▸ hb)
  have dne : D ∉ fp := fun hb => absurd (flt D hb) (Nat.not_lt.mpr hD)
  have cellD : ∀ {σ' : St} {H' : Hp} {s' : Shared} {pl : List (Addr × Obj)} {its : List Value} {n : Nat}, Inv (cxC X NC csc C s2 H2 fp) pl σ' H' s' → s'.heap.get? D = some { cls := .type "list", data := .seq its.toArray n } →
      ∀ x c, (cxC X NC csc C s2 H2 fp).env.cells.lookup x = some c → c ≠ D := fun {σ' H' s' pl its n} K e x c hx z => by
    obtain ⟨v, o, ho, hd⟩ := K.cell x c hx
    rw [z, e] at ho; cases ho; cases hd
  have loop : ∀ s₃ : Shared, s₃ = { s2 with heap := h₁, toks := s2.toks + ([] : List (Str × Value)).length } →
      codeAny (model X.prog X.w) X.A (.compLoop (.ListComp elt [⟨tg, iter, ifs, 0⟩] csc pos) 0 (.ref it) (.ref D) (compEnvC csc (clos X.env.cells csc.names []) C X.env)) (compPost (model X.prog X.w) X.A X.xe use QQ (.ref D) C) s₃ := by
    rintro s₃ rfl
    refine compLoop_any (fun n s' => ∃ i H' acc its k, Inv (cxC X NC csc C s2 H2 fp) [] (slotsC nt is σ) H' s' ∧ tn i s'.heap ∧ (∀ b ∈ fp, H' b = none) ∧ s'.heap.get? D = some { cls := .type "list", data := .seq its.toArray k } ∧ H' D = none ∧
      Vals acc its ∧ acc.length ≤ sizeLine ∧ W i n acc H') ?_ m0 ⟨0, H2, [], [], 0, Istart, T.keep _ _ _ st2 (fun b hb o e => old b o e), fun b hb => (f2 b hb).1, accO, HD0, .nil, Nat.zero_le _, w0⟩
    rintro n s3 ⟨i, H3, acc, its, k, I3, st3, fr3, o3, n3, v3, z3, w3⟩
    have pinD : Inv (cxC X NC csc C s2 H2 fp) [(D, { cls := .type "list", data := .seq its.toArray k })] (slotsC nt is σ) H3 s3 := I3.pins_of fun p hp => by
      have e : p = (D, { cls := .type "list", data := .seq its.toArray k }) := by simpa using hp
      subst e
      refine ⟨o3, n3, hDC, fun z => ?_, fun v z => by cases z⟩
      rcases List.mem_cons.mp (I2.stkSub D z) with e | e
      · exact absurd I2.lt (Nat.not_lt.mpr (by rw [← e]; exact hD))
      · exact I2.nofs hD e
    have fpD : ∀ p ∈ [((D, { cls := .type "list", data := .seq its.toArray k }) : Addr × Obj)], p.1 ∉ fp := fun p hp => by
      have e : p = (D, { cls := .type "list", data := .seq its.toArray k }) := by simpa using hp
      subst e; exact dne
    rcases turn i n acc H3 w3 with ⟨stop, qn⟩ | ⟨go, hlen, N, hN, step⟩
    · refine thn (T.done (cxC X NC csc C s2 H2 fp) rfl rfl rfl hc i _ s3 _ H3 (fun _ _ => False) pinD (fpY fr3 fpD) st3 stop) fun r s4 ⟨hr, I4⟩ => ?_
      subst hr
      obtain ⟨e4, n4, _⟩ := I4.pin (D, { cls := .type "list", data := .seq its.toArray k }) (List.mem_append_right _ (List.mem_singleton.mpr rfl))
      have J := inv_behind (NC := NC) (csc := csc) I2 f2 I4 hC hD e4 n4 v3 z3
      obtain ⟨m4, hm4, _⟩ := I4.loc
      have nC : H3 C = none := I4.free
      refine fin s4 C D _ m4 J (qn D n4) hm4 (by rw [upd_ne (Ne.symm hDC)]; exact nC) (fun z => absurd I2.lt (Nat.not_lt.mpr (by rw [← z]; exact hC))) (Nat.le_trans I2.sz hC) (fun x c e z => ?_) fun p hp z => ?_
      · obtain ⟨v, o, ho, _⟩ := I2.cell x c e
        exact absurd (Heap.lt_size ho) (Nat.not_lt.mpr (by rw [z]; exact hC))
      · exact absurd (Heap.lt_size (I2.pin p hp).1) (Nat.not_lt.mpr (by rw [z]; exact hC))
    · refine thn (T.item (cxC X NC csc C s2 H2 fp) rfl rfl rfl hc i _ s3 _ H3 (fun _ _ => False) pinD (fpY fr3 fpD) st3 go) fun r s4 ⟨u, hr, h4⟩ => ?_
      subst hr
      refine thn h4 fun _ s5 ⟨x, H5, I5, r5, y5, st5, fr5⟩ => ?_
      have I5' := I5.pinned (fpY fr5 fpD) (T.obj _ _ st5)
      refine thn (hg C s2 H2 fp _ s5 _ H5 x u _ I5' r5 (hgk _ _ _ _ (step x H5 y5))) fun _ s6 ⟨σ6, H6, I6, d6, q6⟩ => ?_
      refine thn (ht C s2 H2 fp _ s6 σ6 H6 _ I6 q6) fun ok s7 ⟨H7, I7, q7⟩ => ?_
      have tnk : ∀ {σ' : St} {H' : Hp} {s' : Shared}, Inv (cxC X NC csc C s2 H2 fp) ([(D, { cls := .type "list", data := .seq its.toArray k })] ++ pinsAt fp s5.heap) σ' H' s' →
          tn (i + 1) s'.heap ∧ (∀ b ∈ fp, H' b = none) ∧ s'.heap.get? D = some { cls := .type "list", data := .seq its.toArray k } ∧ H' D = none := fun {σ' H' s'} K => by
        refine ⟨T.keep _ _ _ st5 fun b hb o e => (K.pin (b, o) (List.mem_append_right _ (List.mem_append_right _ (mem_pinsAt hb e)))).1, fun b hb => ?_, ?_, ?_⟩
        · obtain ⟨o, e, d⟩ := T.obj _ _ st5 b hb
          exact (K.pin (b, o) (List.mem_append_right _ (List.mem_append_right _ (mem_pinsAt hb e)))).2.1
        · exact (K.pin (D, { cls := .type "list", data := .seq its.toArray k }) (List.mem_append_right _ (List.mem_append_left _ (List.mem_singleton.mpr rfl)))).1
        · exact (K.pin (D, { cls := .type "list", data := .seq its.toArray k }) (List.mem_append_right _ (List.mem_append_left _ (List.mem_singleton.mpr rfl)))).2.1
      have reset : ∀ {σ' : St} {H' : Hp} {s' : Shared} {pl : List (Addr × Obj)}, σ'.drop nt = (slotsC nt is σ).drop nt → Inv (cxC X NC csc C s2 H2 fp) pl σ' H' s' → Inv (cxC X NC csc C s2 H2 fp) [] (slotsC nt is σ) H' s' := fun {σ' H' s' pl} hd K => by
        have K0 : Inv (cxC X NC csc C s2 H2 fp) [] σ' H' s' := K.pins_of fun p hp => absurd hp (by simp)
        refine K0.weak ?_ fun j v hj => ?_
        · rw [slotsC_len, K.len]; exact S.len.symm
        · by_cases hjn : j < nt
          · exfalso
            unfold slotsC at hj
            rw [List.getElem?_append_left (by simpa using hjn), List.getElem?_replicate, if_pos hjn] at hj
            cases hj
          · have q := congrArg (fun l => l[j - nt]?) hd
            simp only [List.getElem?_drop] at q
            rw [show nt + (j - nt) = j by omega] at q
            rw [q]; exact hj
      cases ok with
      | false =>
        obtain ⟨m', lt, w7⟩ : ∃ m', m' < n ∧ W (i + 1) m' acc H7 := hN _ _ q7
        obtain ⟨t7, f7, e7, n7⟩ := tnk I7
        exact ⟨m', lt, i + 1, H7, acc, its, k, reset d6 I7, t7, f7, e7, n7, v3, z3, w7⟩
      | true =>
        have q7' : te σ6 H7 fun y H4 => N (acc ++ [y]) H4 := q7
        refine thn (he C s2 H2 fp _ s7 σ6 H7 _ I7 q7') fun u8 s8 ⟨y, H8, I8, r8, qN⟩ => ?_
        obtain ⟨m', lt, w8⟩ := hN _ _ qN
        obtain ⟨t8, f8, e8, n8⟩ := tnk I8
        have I8r := reset d6 I8
        have hl := v3.length
        refine call_meets F.slot_list_append ⟨_, e8, rfl⟩ F.entry_list_append (F.args_list_append_2 _ _) (PySem.list_append D its.toArray k u8 (by rw [List.size_toArray]; omega)) ⟨e8, ?_⟩
        have q := PySem.IsL.update e8 (fun a => a.push u8)
        have hq : (its.toArray.push u8) = (its ++ [u8]).toArray := by simp
        rw [hq] at q
        have kk : ∀ b o, b ≠ D → s8.heap.get? b = some o → (s8.heap.update D (Obj.mapSeq fun a => a.push u8)).get? b = some o := fun b o hb e => (Heap.get?_update_other s8.heap _ (Ne.symm hb)).trans e
        refine ⟨m', lt, i + 1, H8, acc ++ [y], its ++ [u8], _, I8r.turned (t' := s8.toks) kk n8 hDC (.inr hD) (cellD I8r e8) (fun p hp => absurd (show p ∈ ([] : List (Addr × Obj)) from hp) (by simp)), T.keep _ _ _ t8 (fun b hb o e => kk b o (fun z => dne (z ▸ hb)) e), f8, q, n8, v3.append (.cons r8 .nil), ?_, w8⟩
        rw [List.length_append, List.length_singleton]
        omega
  exact codeAny_compStart_list (loop _ rfl) (T.self X.A 0 _ _ _ (T.keep _ _ _ st2 (fun b hb o e => old b o e)) (loop _ rfl))
theorem gName_keep {i nt : Nat} (hi : i < nt) : ∀ x (σ : St) (H : Hp) Q, gName i x σ H Q → gName i x σ H fun σ2 H2 => σ2.drop nt = σ.drop nt ∧ Q σ2 H2 := fun x σ H Q h => ⟨List.drop_set_of_lt hi, h⟩
theorem pe_comp {elt tg iter : Expr} {ifs : List Expr} {pos : Pos} {wi : TI} {g : TG} {tt : TT} {te : TE} (nt : Nat) (is : List Nat) (NC : List Str)
    (S : CompSc X NC nt is csc) (hc : X.calm = true) (hi : PI X tg iter wi)
    (hg : ∀ C s H ex, PG (cxC X NC csc C s H ex) tg g) (hgk : ∀ x (σ : St) H Q, g x σ H Q → g x σ H fun σ2 H2 => σ2.drop nt = σ.drop nt ∧ Q σ2 H2)
    (ht : ∀ C s H ex, PIf (cxC X NC csc C s H ex) ifs tt) (he : ∀ C s H ex, PE (cxC X NC csc C s H ex) elt te)
    (hs : ∀ x, foldedSetIterable iter X.env x = pure x := by intro _; rfl) : PE X (.ListComp elt [⟨tg, iter, ifs, 0⟩] csc pos) (tComp wi nt is g tt te) := by
  intro pins s σ H Q I h
  rw [eval_ListComp]
  refine comp_run S hc hi hg ht he hgk I h (fun s' C D H' m J q hm hC hL hz hcl hp => ⟨m, hm, fun h' hsb => ?_⟩) hs
  exact ⟨.ref D, H', J.turned (t' := s'.toks) (fun b o hb e => hsb.extBut b o hb e) hC hL (.inr hz) hcl hp, rfl, q⟩
theorem ps_setComp {i : Nat} {y : Str} {elt tg iter : Expr} {ifs : List Expr} {pos spos py : Pos} {wi : TI} {g : TG} {tt : TT} {te : TE} (nt : Nat) (is : List Nat) (NC : List Str) (hN : X.N.Nodup) (hy : X.N[i]? = some y) (hyl : X.env.scope.names.lookup y = some .local)
    (S : CompSc X NC nt is csc) (hc : X.calm = true) (hi : PI X tg iter wi)
    (hg : ∀ C s H ex, PG (cxC X NC csc C s H ex) tg g) (hgk : ∀ x (σ : St) H Q, g x σ H Q → g x σ H fun σ2 H2 => σ2.drop nt = σ.drop nt ∧ Q σ2 H2)
    (ht : ∀ C s H ex, PIf (cxC X NC csc C s H ex) ifs tt) (he : ∀ C s H ex, PE (cxC X NC csc C s H ex) elt te)
    (hsw : swapsWith (.ListComp elt [⟨tg, iter, ifs, 0⟩] csc pos) (some (.Name y py)) spos.line X.env = pure true := by rfl)
    (hs : ∀ x, foldedSetIterable iter X.env x = pure x := by intro _; rfl) : PS X (.Assign [.Name y py] (.ListComp elt [⟨tg, iter, ifs, 0⟩] csc pos) spos) (tAsg (tComp wi nt is g tt te) (gName i)) := by
  intro pins s σ H D I h
  rw [exec_Assign_Name_used _ _ _ _ hsw]
  refine wpAny_bind (wpAny_standAt (wpAny_bind ?_))
  show wpAny _ X.A (do let _ ← comprehension (.ListComp elt [⟨tg, iter, ifs, 0⟩] csc pos) csc X.env _ (newList []) false (eval iter X.env) (some (assign (.Name y py) X.env))) _ _ s
  refine wpAny_bind (thn (comp_run (QQ := fun _ s' => SP X pins D .next s') S hc hi hg ht he hgk I h (fun s' C Da H' m J q hm hC hL hz hcl hp => ?_) hs) fun _ s' hq => wpAny_pure (wpAny_pure hq))
  show wpAny _ X.A (assign (.Name y py) X.env (.ref Da)) _ _ _
  refine wpAny_assign_Name (store_ok2 J hN hy (.inl hyl) (v := .ref Da) rfl (fun s'' J' ⟨a, hsb, ha⟩ => ⟨m, hm.sameBut hsb (fun z => ?_), fun h3 hs3 => ?_⟩) (.inr hyl))
  · rcases ha with e | e
    · exact hL (z.trans e)
    · exact hcl y a e z.symm
  · exact ⟨_, H', J'.turned (t' := s''.toks) (fun b o hb e => hs3.extBut b o hb e) hC hL (.inr hz) hcl hp, q⟩
end
section
variable {K : PySem.W.Frag} {nt : Nat} {is : List Nat} {g : TG} {tt : TT} {te : TE} {σ : St} {H : Hp} {Q : VK}
def CompW (J : It) (nt : Nat) (is : List Nat) (g : TG) (tt : TT) (te : TE) (σ : St) (H : Hp) (Q : VK) : Prop := ∃ W : Nat → Nat → List V → Hp → Prop, (∃ m, W 0 m [] H) ∧ ∀ i m acc H, W i m acc H →
  (J.stop i H ∧ ∀ p, H p = none → Q (.ref p) (upd H p (.lst acc))) ∨
  (J.go i H ∧ acc.length < sizeLine ∧ ∃ N : List V → Hp → Prop, (∀ acc' H', N acc' H' → ∃ m', m' < m ∧ W (i + 1) m' acc' H') ∧ ∀ x H', J.yld i H x H' → g x (slotsC nt is σ) H' fun σ2 H2 => tt σ2 H2 fun b H3 =>
    if b = true then te σ2 H3 fun y H4 => N (acc ++ [y]) H4 else N acc H3)
theorem tComp_eq {wi : TI} : tComp wi nt is g tt te σ H Q = wi σ H fun J H1 => CompW J nt is g tt te σ H1 Q := rfl
theorem comp_gen {J : It} {n : Nat} (Pv : Nat → List V → Hp → Prop) (h0 : Pv 0 [] H)
    (hgo : ∀ i acc H, i < n → Pv i acc H → J.go i H ∧ acc.length < sizeLine ∧ ∀ x H', J.yld i H x H' → g x (slotsC nt is σ) H' fun σ2 H2 => tt σ2 H2 fun b H3 => if b = true then te σ2 H3 fun y H4 => Pv (i + 1) (acc ++ [y]) H4 else Pv (i + 1) acc H3)
    (hst : ∀ acc H, Pv n acc H → J.stop n H ∧ ∀ p, H p = none → Q (.ref p) (upd H p (.lst acc))) : CompW J nt is g tt te σ H Q := by
  refine ⟨fun i m acc H => m = n - i ∧ i ≤ n ∧ Pv i acc H, ⟨n, by simp, Nat.zero_le _, h0⟩, ?_⟩
  rintro i m acc H ⟨rfl, hi, p⟩
  by_cases hlt : i < n
  · obtain ⟨h1, h2, h3⟩ := hgo i acc H hlt p
    exact .inr ⟨h1, h2, Pv (i + 1), fun acc' H' q => ⟨n - (i + 1), by omega, rfl, hlt, q⟩, h3⟩
  · have e : i = n := by omega
    subst e
    exact .inl (hst acc H p)
theorem comp_range {lo : Int} {n : Nat} (Pv : Nat → List V → Hp → Prop) (h0 : Pv 0 [] H)
    (hs : ∀ i acc H, i < n → Pv i acc H → acc.length < sizeLine ∧ g (.int (lo + i)) (slotsC nt is σ) H fun σ2 H2 => tt σ2 H2 fun b H3 => if b = true then te σ2 H3 fun y H4 => Pv (i + 1) (acc ++ [y]) H4 else Pv (i + 1) acc H3)
    (hd : ∀ acc H, Pv n acc H → ∀ p, H p = none → Q (.ref p) (upd H p (.lst acc))) : CompW (Itr lo n) nt is g tt te σ H Q := by
  refine comp_gen (n := n) Pv h0 (fun i acc H hi p => ?_) fun acc H p => ⟨Nat.le_refl _, hd acc H p⟩
  obtain ⟨h1, h2⟩ := hs i acc H hi p
  refine ⟨hi, h1, fun x H' y => ?_⟩
  obtain ⟨rfl, rfl⟩ := y
  exact h2
theorem comp_str {z : Str} (Pv : Nat → List V → Hp → Prop) (h0 : Pv 0 [] H)
    (hs : ∀ i c acc H, z.cps.toList[i]? = some c → Pv i acc H → acc.length < sizeLine ∧ g (.str ⟨#[c]⟩) (slotsC nt is σ) H fun σ2 H2 => tt σ2 H2 fun b H3 => if b = true then te σ2 H3 fun y H4 => Pv (i + 1) (acc ++ [y]) H4 else Pv (i + 1) acc H3)
    (hd : ∀ acc H, Pv z.cps.toList.length acc H → ∀ p, H p = none → Q (.ref p) (upd H p (.lst acc))) : CompW (Its z) nt is g tt te σ H Q := by
  have hl : z.cps.toList.length = z.cps.size := by simp
  refine comp_gen (n := z.cps.toList.length) Pv h0 (fun i acc H hi p => ?_) fun acc H p => ⟨Nat.le_of_eq hl.symm, hd acc H p⟩
  have hx : z.cps.toList[i]? = some z.cps.toList[i] := by simp [hi]
  obtain ⟨h1, h2⟩ := hs i _ acc H hx p
  refine ⟨(by show i < z.cps.size; omega), h1, fun x H' y => ?_⟩
  obtain ⟨rfl, c, hc, rfl⟩ := y
  rw [← Array.getElem?_toList, hx] at hc
  cases hc
  exact h2
theorem comp_list {a : Addr} {xs : List V} (Pv : Nat → List V → Hp → Prop) (h0 : Pv 0 [] H) (hl : ∀ i acc H, i ≤ xs.length → Pv i acc H → SqL K H a xs)
    (hs : ∀ i x acc H, xs[i]? = some x → Pv i acc H → acc.length < sizeLine ∧ g x (slotsC nt is σ) H fun σ2 H2 => tt σ2 H2 fun b H3 => if b = true then te σ2 H3 fun y H4 => Pv (i + 1) (acc ++ [y]) H4 else Pv (i + 1) acc H3)
    (hd : ∀ acc H, Pv xs.length acc H → ∀ p, H p = none → Q (.ref p) (upd H p (.lst acc))) : CompW (Itl K a) nt is g tt te σ H Q := by
  refine comp_gen (n := xs.length) Pv h0 (fun i acc H hi p => ?_) fun acc H p => ⟨⟨xs, hl _ _ _ (Nat.le_refl _) p, Nat.le_refl _⟩, hd acc H p⟩
  have hx : xs[i]? = some xs[i] := by simp [hi]
  have q := hl i acc H (Nat.le_of_lt hi) p
  obtain ⟨h1, h2⟩ := hs i _ acc H hx p
  refine ⟨⟨xs, _, q, hx⟩, h1, fun x H' y => ?_⟩
  obtain ⟨rfl, y⟩ := y
  have e := y xs q
  rw [hx] at e
  cases e
  exact h2
end
section
variable {X : Cx}
theorem call_all (hc : X.calm = true) : CallR X (.builtin "all") (fun xs H Q => ∃ (p : Addr) (bs : List Bool), xs = [.ref p] ∧ SqL X.K H p (bs.map V.bl) ∧ Q (.bl (bs.all id)) H) := by
  intro pins s σ H xs us Q I r h
  obtain ⟨p, bs, rfl, hq, q⟩ := h
  obtain ⟨u, rfl, rx⟩ := vals1 r
  cases rx
  obtain ⟨its, rv, pl, hz⟩ := I.list hq
  have hlen : bs.length = its.length := by have := rv.length; simpa using this
  refine call_all_walk (wpAny_pyIter_list pl.isList ?_)
  have hne : p ≠ s.heap.objs.size := by
    obtain ⟨o, _, e, _⟩ := pl
    exact Nat.ne_of_lt (Heap.lt_size e)
  refine ⟨s.heap.objs.size, _, _, _, _, _, fun i => bs.getD i false, rfl, Walks.list (A := X.A.in1) (show X.A.in1.handled = none from I.ok.hd hc) _ p hne its.toArray, ⟨⟨_, Heap.get?_push_size _ rfl, rfl, rfl⟩, pl.isList.push _⟩, ?_, fun h' tk hk => ?_⟩
  · intro i v s' Q' E' hP hQ'
    have hv : its[i]? = some v := by simpa using hP
    have hi : i < bs.length := by rw [hlen]; exact (List.getElem?_eq_some_iff.mp hv).1
    obtain ⟨v', hv', rv'⟩ := rv.get (i := i) (x := V.bl bs[i]) (by simp [hi])
    rw [hv] at hv'; cases hv'
    cases (show v = Value.bool bs[i] from rv')
    have e : bs.getD i false = bs[i] := by simp [hi]
    have hQ2 : Q' (bs.getD i false) s' := hQ'
    rw [e] at hQ2
    exact wpAny_truthy_bool hQ2
  · have e : ((List.range its.toArray.size).all fun i => bs.getD i false) = bs.all id := by
      rw [List.size_toArray, ← hlen]
      rw [Bool.eq_iff_iff, List.all_eq_true, List.all_eq_true]
      constructor
      · intro h x hx
        obtain ⟨i, hi, rfl⟩ := List.mem_iff_getElem.mp hx
        have := h i (List.mem_range.mpr hi)
        simpa [hi] using this
      · intro h i hi
        have hi' := List.mem_range.mp hi
        have := h bs[i] (List.getElem_mem hi')
        simpa [hi'] using this
    rw [e]
    refine ⟨.bl (bs.all id), H, ?_, rfl, q⟩
    exact I.kept (t' := tk) fun b o e => hk b o (fun z => absurd (Heap.lt_size e) (Nat.not_lt.mpr (Nat.le_of_eq (List.mem_singleton.mp z).symm))) (Heap.get?_push_of_some _ e)
theorem strsAre_of : ∀ {ys : List Str} {us : List Value}, Vals (ys.map V.str) us → StrsAre us ys
  | [], _, r => by rw [List.map_nil] at r; cases r; exact .nil
  | y :: ys, _, r => by
    rw [List.map_cons] at r
    cases r with
    | cons r1 r2 =>
      obtain ⟨t, rfl⟩ := r1
      exact .cons y t (strsAre_of r2)
def rInst (K : PySem.W.Frag) (T : String) : List V → Hp → VK → Prop := fun vs H Q => ∃ x t b, vs = [x, .ty T] ∧ TyOf K H x t ∧ PySem.W.kitOne K t (.type T) = some b ∧ Q (.bl b) H
theorem call_inst {T : String} : CallR X (.builtin "isinstance") (rInst X.K T) := by
  intro pins s σ H xs us Q I r h
  obtain ⟨x, t, b, rfl, ty, e, q⟩ := h
  obtain ⟨u, u2, rfl, rx, r2⟩ := vals2 r
  cases (show u2 = Value.type T from r2)
  exact isinst_ok I rx ty e fun tk => ⟨.bl b, H, I.tok tk, rfl, q⟩
def eqVs : List V → List V → Bool
  | [], [] => true
  | x :: xs, y :: ys => eqV x y && eqVs xs ys
  | _, _ => false
def rEqL (K : PySem.W.Frag) : R2 := fun x y H Q => ∃ p q xs ys, x = .ref p ∧ y = .ref q ∧ SqL K H p xs ∧ SqL K H q ys ∧ xs.all flatV = true ∧ ys.all flatV = true ∧ Q (.bl (eqVs xs ys)) H
end
end L2
set_option Elab.async false
set_option linter.all false
set_option maxRecDepth 100000
set_option maxHeartbeats 4000000
namespace L2
open PySem PySem.Spec PyProof.Rows
section
variable {X : Cx} {tg l : Expr} {tl : TE} {a : Expr} {pos : Pos} {tA : TT}
theorem op_modP : OpR X (binaryOp .Mod) (rI (fun _ j => 0 < j) fun i j => .int (i % j)) := op_mod
theorem op_fdivP : OpR X (binaryOp .FloorDiv) (rI CDiv fun i j => .int (i / j)) := op_fdiv
def rAddS : R2 := fun x y H Q => ∃ i j, x = .str i ∧ y = .str j ∧ i.length + j.length ≤ sizeLine ∧ Q (.str (i ++ j)) H
def rAddA (K : PySem.W.Frag) : R2 := fun x y H Q => rI0 (fun i j => .int (i + j)) x y H Q ∨ (rAddS x y H Q ∨ (rCat x y H Q ∨ rCatT K x y H Q))
def rMulA : R2 := fun x y H Q => rI CMul (fun i j => .int (i * j)) x y H Q ∨ rRep x y H Q
theorem opA_mul : OpR X (binaryOp .Mult) rMulA := OpR.or op_mul op_rep
def rEqA (K : PySem.W.Frag) : R2 := fun x y H Q => rEq x y H Q ∨ rEqL K x y H Q
theorem opA_ne (hu : X.A.units + 64 < cLine) : OpR X (compareOp .NotEq) rNe := op_ne
def rLtS : R2 := fun x y H Q => ∃ i j, x = .str i ∧ y = .str j ∧ Q (.bl (decide (i.cps.toList < j.cps.toList))) H
def rLtA : R2 := fun x y H Q => rI0 (fun i j => .bl (decide (i < j))) x y H Q ∨ rLtS x y H Q
theorem opA_lt : OpR X (compareOp .Lt) rLtA := OpR.or op_lt op_lt_str
def inS (i j : Str) : Bool := !(Builtin.Str.occurrences j i 0 j.length 1).isEmpty
def rInS (neg : Bool) : R2 := fun x y H Q => ∃ i j, x = .str i ∧ y = .str j ∧ Q (.bl (if neg then !inS i j else inS i j)) H
def rInA (K : PySem.W.Frag) (neg : Bool) : R2 := fun x y H Q => rInS neg x y H Q ∨ rIn K neg x y H Q
theorem opA_in (K : PySem.W.Frag) (hK : X.K = K := by rfl) : OpR X (compareOp .In) (rInA K false) := hK ▸ (OpR.or op_in_str op_in_seq : OpR X (compareOp .In) (rInA X.K false))
theorem opA_notin (K : PySem.W.Frag) (hK : X.K = K := by rfl) : OpR X (compareOp .NotIn) (rInA K true) := hK ▸ (OpR.or op_notIn_str op_notIn_seq : OpR X (compareOp .NotIn) (rInA X.K true))
def rSlA (K : PySem.W.Frag) : V → Option Int → Option Int → Hp → VK → Prop := fun x lo hi H Q => rSlS x lo hi H Q ∨ (rSlL K x lo hi H Q ∨ rSlT K x lo hi H Q)
theorem ixA (K : PySem.W.Frag) (hK : X.K = K := by rfl) : IxR X (rIx K) := hK ▸ (ix_seq : IxR X (rIx X.K))
def iAnyV (K : PySem.W.Frag) (x : V) (H : Hp) (R : It → Hp → Prop) : Prop := (∃ z, x = .str z ∧ R (Its z) H) ∨ (∃ a, x = .ref a ∧ (∃ xs, SqL K H a xs) ∧ R (Itl K a) H) ∨ (∃ a, x = .ref a ∧ (∃ xs, SqT K H a xs) ∧ R (Itt K a) H)
def iAny (K : PySem.W.Frag) (tl : TE) : TI := fun σ H R => tl σ H fun x H1 => iAnyV K x H1 R
theorem pi_any (K : PySem.W.Frag) (hl : PE X l tl) (hK : X.K = K := by rfl) : PI X tg l (iAny K tl) := by
  subst hK
  intro pins s σ H R I h
  refine thn (hl pins s σ H _ I h) fun v s1 ⟨x, H1, I1, r1, q1⟩ => ?_
  rcases q1 with ⟨z, rfl, q⟩ | ⟨a, rfl, hq, q⟩ | ⟨a, rfl, hq, q⟩
  · exact pi_str_at I1 r1 q
  · obtain ⟨xs, hq⟩ := hq
    cases r1
    obtain ⟨its, rv, p, hz⟩ := I1.list hq
    refine wpAny_pyIter_list p.isList ?_
    refine ⟨s1.heap.objs.size, [s1.heap.objs.size], _, _, H1, rfl, I1.kept (t' := s1.toks) fun b o e => Heap.get?_push_of_some _ e, turn_list a _, ⟨_, Heap.get?_push_size _ rfl, rfl, rfl⟩, fun b hb => ?_, q⟩
    have e : b = s1.heap.objs.size := by simpa using hb
    subst e
    exact I1.fpOk (Nat.le_refl _) (I1.hok.fresh (Nat.le_refl _))
  · obtain ⟨xs, hq⟩ := hq
    cases r1
    obtain ⟨its, rv, p, hz⟩ := I1.tuple hq
    refine wpAny_pyIter_tuple (show s1.heap.IsTuple a its.toArray from p) ?_
    refine ⟨s1.heap.objs.size, [s1.heap.objs.size], _, _, H1, rfl, I1.kept (t' := s1.toks) fun b o e => Heap.get?_push_of_some _ e, turn_tuple a _, ⟨_, Heap.get?_push_size _ rfl, rfl, rfl⟩, fun b hb => ?_, q⟩
    have e : b = s1.heap.objs.size := by simpa using hb
    subst e
    exact I1.fpOk (Nat.le_refl _) (I1.hok.fresh (Nat.le_refl _))
end
section
variable {X : Cx} {o e : Expr} {es : List Expr} {to : TE} {t : TA} {name : Str} {apos cpos : Pos} {T iid : String} {r : V → List V → Hp → VK → Prop}
def rLen (K : PySem.W.Frag) : List V → Hp → VK → Prop := fun xs H Q => ∃ x n, xs = [x] ∧ LenV K x H n ∧ Q (.int n) H
theorem callA_len (K : PySem.W.Frag) (hK : X.K = K := by rfl) : CallR X (.builtin "len") (rLen K) := hK ▸ (call_len : CallR X (.builtin "len") (rLen X.K))
def rAll (K : PySem.W.Frag) : List V → Hp → VK → Prop := fun xs H Q => ∃ (p : Addr) (bs : List Bool), xs = [.ref p] ∧ SqL K H p (bs.map V.bl) ∧ Q (.bl (bs.all id)) H
theorem callA_all (K : PySem.W.Frag) (hc : X.calm = true) (hK : X.K = K := by rfl) : CallR X (.builtin "all") (rAll K) := hK ▸ (call_all hc : CallR X (.builtin "all") (rAll X.K))
def rTupleOf (K : PySem.W.Frag) : List V → Hp → VK → Prop := fun xs H Q => ∃ p ys, xs = [.ref p] ∧ ((SqL K H p ys ∧ ∀ l, H l = none → Q (.ref l) (upd H l (.tup ys))) ∨ (SqT K H p ys ∧ Q (.ref p) H))
theorem callA_tuple (K : PySem.W.Frag) (hK : X.K = K := by rfl) : CallR X (.type "tuple") (rTupleOf K) := hK ▸ (call_tuple_of : CallR X (.type "tuple") (rTupleOf X.K))
def rListOf (K : PySem.W.Frag) : List V → Hp → VK → Prop := fun xs H Q => ∃ p ys, xs = [.ref p] ∧ (SqL K H p ys ∨ SqT K H p ys) ∧ ∀ l, H l = none → Q (.ref l) (upd H l (.lst ys))
theorem callA_list (K : PySem.W.Frag) (hK : X.K = K := by rfl) : CallR X (.type "list") (rListOf K) := hK ▸ (call_list_of : CallR X (.type "list") (rListOf X.K))
def rIntOf : List V → Hp → VK → Prop := fun xs H Q => (∃ i, xs = [.int i] ∧ Q (.int i) H) ∨ ∃ k, xs = [.bl k] ∧ Q (.int (if k then 1 else 0)) H
theorem callA_int : CallR X (.type "int") rIntOf := call_int1
theorem pe_bmA (K : PySem.W.Frag) (pa : PlainAttrs T) (slot : Slot T name iid) (hty : typeOf (.builtin iid) = pure (.type "method_descriptor")) (hm : MtR X iid r) (ho : PE X o to) (ha : PA X (e :: es) t) (hK : X.K = K := by rfl)
    (hbase : attributeBase o name X.env (eval o X.env) = eval o X.env := by rfl)
    (hfew : ((backTo cpos (starEach (e :: es) X.env)).all (fun x => !x.1) && (backToKw cpos (keywordEach [] X.env)).all (fun x => x.1.isSome)
      && decide ((e :: es).length + ([] : List Keyword).length + (if ([] : List Keyword).isEmpty then 0 else 1) < 30)) = true := by rfl)
    (hline : (apos.endLine == cpos.line) = true := by rfl) (hs : starEach (e :: es) X.env = (false, eval e X.env) :: starEach es X.env := by rfl) (hplain : (backTo cpos (starEach es X.env)).any (·.1) = false := by rfl) :
    PE X (.Call (.Attribute o name apos) (e :: es) [] cpos) (tBM K T r to t) := hK ▸ pe_bm pa slot hty hm ho ha hbase hfew hline hs hplain
end
section
variable {K : PySem.W.Frag} {g : TG} {tb : TS} {D : Ends} {σ : St} {H : Hp}
def ForW (J : It) (g : TG) (tb : TS) (D : Ends) (σ : St) (H : Hp) : Prop := ∃ W : Nat → Nat → St → Hp → Prop, (∃ m, W 0 m σ H) ∧ ∀ i m σ H, W i m σ H →
  (J.stop i H ∧ D.nx σ H) ∨ (J.go i H ∧ ∃ N : St → Hp → Prop, (∀ σ' H', N σ' H' → ∃ m', m' < m ∧ W (i + 1) m' σ' H') ∧ ∀ x H', J.yld i H x H' → g x σ H' fun σ2 H2 => tb { D with nx := N, ct := N, bk := D.nx } σ2 H2)
theorem tFor_eq {wi : TI} : tFor wi g tb D σ H = wi σ H fun J H1 => ForW J g tb D σ H1 := rfl
theorem forW_tup {a : Addr} {xs : List V} (Pv : Nat → St → Hp → Prop) (h0 : Pv 0 σ H) (hl : ∀ i σ H, i ≤ xs.length → Pv i σ H → SqT K H a xs)
    (hs : ∀ i x σ H, xs[i]? = some x → Pv i σ H → g x σ H fun σ2 H2 => tb { D with nx := Pv (i + 1), ct := Pv (i + 1), bk := D.nx } σ2 H2) (hd : ∀ σ H, Pv xs.length σ H → D.nx σ H) : ForW (Itt K a) g tb D σ H := for_tup Pv h0 hl hs hd
theorem forW_range {lo : Int} {n : Nat} (Pv : Nat → St → Hp → Prop) (h0 : Pv 0 σ H)
    (hs : ∀ i σ H, i < n → Pv i σ H → g (.int (lo + i)) σ H fun σ2 H2 => tb { D with nx := Pv (i + 1), ct := Pv (i + 1), bk := D.nx } σ2 H2) (hd : ∀ σ H, Pv n σ H → D.nx σ H) : ForW (Itr lo n) g tb D σ H := for_range Pv h0 hs hd
end
theorem sz1000 {n : Nat} (h : n ≤ 100000) : n ≤ sizeLine := Nat.le_trans h (by rw [sizeLine_eq]; decide)
theorem sz1000' {n : Nat} (h : n ≤ 100000) : n < sizeLine := Nat.lt_of_le_of_lt h (by rw [sizeLine_eq]; decide)
theorem same_new {H : Hp} {p : Addr} (h : H p = none) (o : HO) : Same H (upd H p o) := fun b u q => by rw [upd_ne (ne_of_none q h)]; exact q
theorem Same.seqT {K : PySem.W.Frag} {H H' : Hp} {a : Addr} {xs : List V} (e : Same H H') (h : SqT K H a xs) : SqT K H' a xs := by
  rcases h with (h | ⟨o, h⟩) | h
  · exact .inl (.inl (e _ _ h))
  · exact .inl (.inr ⟨o, e _ _ h⟩)
  · exact .inr h
theorem atI_some {α : Type} {xs : List α} {i : Int} (h0 : 0 ≤ i) (h1 : i < xs.length) : ∃ v, v ∈ xs ∧ atI xs i = some v := by
  have hk : i.toNat < xs.length := by omega
  have e : i = ((i.toNat : Nat) : Int) := by omega
  refine ⟨xs[i.toNat], List.getElem_mem hk, ?_⟩
  have q : atI xs ((i.toNat : Nat) : Int) = some xs[i.toNat] := atI_nat (by simp [hk])
  rw [← e] at q
  exact q
theorem atI_getD {α : Type} {xs : List α} {i : Int} {d : α} (h0 : 0 ≤ i) (h1 : i < xs.length) : atI xs i = some (xs.getD i.toNat d) := by
  have hk : i.toNat < xs.length := by omega
  have e : i = ((i.toNat : Nat) : Int) := by omega
  have q : atI xs ((i.toNat : Nat) : Int) = some xs[i.toNat] := atI_nat (by simp [hk])
  rw [← e] at q
  rw [q]; simp [hk]
def spLaw (K : PySem.W.Frag) : Sp := fun vs H Q _ => ∃ (a : Addr) (ns : List Int), vs = [.ref a] ∧ SqL K H a (ns.map V.int) ∧ ns.length ≤ 63 ∧ ∀ H', Q (.bl true) H'
end L2
set_option Elab.async false
set_option linter.all false
set_option maxRecDepth 100000
set_option maxHeartbeats 4000000
namespace L2
open PySem PySem.Spec PyProof.Rows
section
variable {K : PySem.W.Frag} {H : Hp} {Q : VK} {σ : St} {D : Ends} {ta tb tc te : TE} {tt tA tB' : TT} {t u : TS} {g : TG} {r : R2} {tl : TA} {v0 v1 v2 v3 v4 v5 v6 v7 v8 v9 v10 v11 : V}
  {o0 o1 o2 o3 o4 o5 o6 o7 o8 o9 o10 o11 : Option V} {rr : St}
theorem w_v0 : tVar 0 (some v0 :: rr) H Q = Q v0 H := by simp [tVar]
theorem w_v1 : tVar 1 (o0 :: some v1 :: rr) H Q = Q v1 H := by simp [tVar]
theorem w_v2 : tVar 2 (o0 :: o1 :: some v2 :: rr) H Q = Q v2 H := by simp [tVar]
theorem w_v3 : tVar 3 (o0 :: o1 :: o2 :: some v3 :: rr) H Q = Q v3 H := by simp [tVar]
theorem w_v4 : tVar 4 (o0 :: o1 :: o2 :: o3 :: some v4 :: rr) H Q = Q v4 H := by simp [tVar]
theorem w_v5 : tVar 5 (o0 :: o1 :: o2 :: o3 :: o4 :: some v5 :: rr) H Q = Q v5 H := by simp [tVar]
theorem w_v6 : tVar 6 (o0 :: o1 :: o2 :: o3 :: o4 :: o5 :: some v6 :: rr) H Q = Q v6 H := by simp [tVar]
theorem w_v7 : tVar 7 (o0 :: o1 :: o2 :: o3 :: o4 :: o5 :: o6 :: some v7 :: rr) H Q = Q v7 H := by simp [tVar]
theorem w_v8 : tVar 8 (o0 :: o1 :: o2 :: o3 :: o4 :: o5 :: o6 :: o7 :: some v8 :: rr) H Q = Q v8 H := by simp [tVar]
theorem w_v9 : tVar 9 (o0 :: o1 :: o2 :: o3 :: o4 :: o5 :: o6 :: o7 :: o8 :: some v9 :: rr) H Q = Q v9 H := by simp [tVar]
theorem w_v10 : tVar 10 (o0 :: o1 :: o2 :: o3 :: o4 :: o5 :: o6 :: o7 :: o8 :: o9 :: some v10 :: rr) H Q = Q v10 H := by simp [tVar]
theorem w_v11 : tVar 11 (o0 :: o1 :: o2 :: o3 :: o4 :: o5 :: o6 :: o7 :: o8 :: o9 :: o10 :: some v11 :: rr) H Q = Q v11 H := by simp [tVar]
theorem w_c {v : V} : tC v σ H Q = Q v H := rfl
theorem w_seq : tSeq t u D σ H = t { D with nx := u D } σ H := rfl
theorem w_ifS : tIfS tt t u D σ H = tt σ H fun b H1 => if b = true then t D σ H1 else u D σ H1 := rfl
theorem w_next : tNext D σ H = D.nx σ H := rfl
theorem w_ret : tRet te D σ H = te σ H D.rt := rfl
theorem w_retN : tRetN D σ H = D.rt .non H := rfl
theorem w_drop : tDrop te D σ H = te σ H fun _ H1 => D.nx σ H1 := rfl
theorem w_asg : tAsg te g D σ H = te σ H fun x H1 => g x σ H1 D.nx := rfl
theorem w_gName {i : Nat} {x : V} {Qs : St → Hp → Prop} : gName i x σ H Qs = Qs (σ.set i (some x)) H := rfl
theorem w_op : tOp r ta tb σ H Q = ta σ H fun x H1 => tb σ H1 fun y H2 => r x y H2 Q := rfl
theorem w_un {f : V → Hp → VK → Prop} : tUn f ta σ H Q = ta σ H fun x H1 => f x H1 Q := rfl
variable {Qb : Bool → Hp → Prop} {Qs : List V → Hp → Prop}
theorem w_test : tTest te σ H Qb = te σ H fun x H' => ∃ k, x = .bl k ∧ Qb k H' := rfl
theorem w_B : tB te σ H Qb = te σ H fun x H' => ∃ k, x = .bl k ∧ Qb k H' := rfl
theorem w_bl {b : Bool} {P : Bool → Prop} : (∃ k, V.bl b = .bl k ∧ P k) = P b := by
  refine propext ⟨fun ⟨k, e, h⟩ => ?_, fun h => ⟨b, rfl, h⟩⟩
  cases e; exact h
theorem w_and : tAnd tA tB' σ H Qb = tA σ H fun c H1 => if c = true then tB' σ H1 Qb else Qb false H1 := rfl
theorem w_or : tOr tA tB' σ H Qb = tA σ H fun c H1 => if c = true then Qb true H1 else tB' σ H1 Qb := rfl
theorem w_not : tNot tA σ H Qb = tA σ H fun c H1 => Qb (!c) H1 := rfl
theorem w_andV : tAndV ta tb σ H Q = ta σ H fun x H1 => ∃ c, x = .bl c ∧ if c = true then tb σ H1 Q else Q (.bl false) H1 := rfl
theorem w_orV : tOrV ta tb σ H Q = ta σ H fun x H1 => ∃ c, x = .bl c ∧ if c = true then Q (.bl true) H1 else tb σ H1 Q := rfl
theorem w_notV : tNotV ta σ H Q = ta σ H fun x H1 => ∃ c, x = .bl c ∧ Q (.bl (!c)) H1 := rfl
theorem w_if : tIf tt ta tb σ H Q = tt σ H fun c H1 => if c = true then ta σ H1 Q else tb σ H1 Q := rfl
theorem w_true : tTrue σ H Qb = Qb true H := rfl
theorem w_nil : tNil σ H Qs = Qs [] H := rfl
theorem w_cons : tCons ta tl σ H Qs = ta σ H fun x H1 => tl σ H1 fun xs H2 => Qs (x :: xs) H2 := rfl
theorem w_tup : tTup tl σ H Q = tl σ H fun xs H1 => xs.length ≤ sizeLine ∧ ∀ p, H1 p = none → Q (.ref p) (upd H1 p (.tup xs)) := rfl
theorem w_lst : tLst tl σ H Q = tl σ H fun xs H1 => xs.length ≤ sizeLine ∧ ∀ p, H1 p = none → Q (.ref p) (upd H1 p (.lst xs)) := rfl
theorem w_call {sp : Sp} {dvs : List V} {E : XK} : tCall sp dvs E tl σ H Q = tl σ H fun vs H1 => sp (vs ++ dvs) H1 Q E := rfl
theorem w_CB {f : List V → Hp → VK → Prop} : tCB f tl σ H Q = tl σ H fun vs H1 => f vs H1 Q := rfl
theorem w_BM {T : String} {f : V → List V → Hp → VK → Prop} : tBM K T f te tl σ H Q = te σ H fun x H1 => tyV K T x H1 ∧ tl σ H1 fun xs H2 => f x xs H2 Q := rfl
theorem w_ty_str {T : String} {x : Str} : tyV K T (.str x) H = (T = "str") := rfl
theorem w_ty_list {T : String} {p : Addr} (h : T = "list") : tyV K T (.ref p) H = ∃ xs, SqL K H p xs := by
  subst h
  refine propext ⟨fun h => ?_, fun h => .inl ⟨rfl, h⟩⟩
  rcases h with ⟨_, h⟩ | ⟨h, _⟩ | ⟨h, _⟩ | ⟨h, _⟩
  · exact h
  · exact absurd h (by decide)
  · exact absurd h (by decide)
  · exact absurd h (by decide)
variable {tlo thi : TO} {Qo : Option Int → Hp → Prop}
theorem w_sl {f : V → Option Int → Option Int → Hp → VK → Prop} : tSl f te tlo thi σ H Q = te σ H fun x H1 => tlo σ H1 fun l H2 => thi σ H2 fun u H3 => f x l u H3 Q := rfl
theorem w_noPart : tNoPart σ H Qo = Qo none H := rfl
theorem w_part : tPart te σ H Qo = te σ H fun x H1 => ∃ i, x = .int i ∧ Qo (some i) H1 := rfl
theorem w_int {i : Int} {P : Int → Prop} : (∃ k, V.int i = .int k ∧ P k) = P i := by
  refine propext ⟨fun ⟨k, e, h⟩ => ?_, fun h => ⟨i, rfl, h⟩⟩
  cases e; exact h
variable {i j : Int} {x y : Str} {b c : Bool} {p q : Addr} {gi : Int → Int → V} {C : Int → Int → Prop}
theorem w_rI0 : rI0 gi (.int i) (.int j) H Q = Q (gi i j) H := by
  refine propext ⟨fun ⟨_, _, e1, e2, h⟩ => ?_, fun h => ⟨i, j, rfl, rfl, h⟩⟩
  cases e1; cases e2; exact h
theorem w_rI : rI C gi (.int i) (.int j) H Q = (C i j ∧ Q (gi i j) H) := by
  refine propext ⟨fun ⟨_, _, e1, e2, h⟩ => ?_, fun h => ⟨i, j, rfl, rfl, h⟩⟩
  cases e1; cases e2; exact h
theorem w_addI : rAddA K (.int i) (.int j) H Q = Q (.int (i + j)) H := by
  unfold rAddA
  rw [w_rI0]
  refine propext ⟨fun h => ?_, .inl⟩
  rcases h with h | ⟨_, _, e, _⟩ | ⟨_, _, _, _, e, _⟩ | ⟨_, _, _, _, e, _⟩
  · exact h
  all_goals cases e
theorem w_addS : rAddA K (.str x) (.str y) H Q = (x.length + y.length ≤ sizeLine ∧ Q (.str (x ++ y)) H) := by
  refine propext ⟨fun h => ?_, fun h => .inr (.inl ⟨x, y, rfl, rfl, h⟩)⟩
  rcases h with ⟨_, _, e, _⟩ | ⟨_, _, e1, e2, h⟩ | ⟨_, _, _, _, e, _⟩ | ⟨_, _, _, _, e, _⟩
  · cases e
  · cases e1; cases e2; exact h
  all_goals cases e
theorem w_mulI : rMulA (.int i) (.int j) H Q = (CMul i j ∧ Q (.int (i * j)) H) := by
  unfold rMulA
  rw [w_rI]
  refine propext ⟨fun h => ?_, .inl⟩
  rcases h with h | ⟨_, _, _, e, _⟩
  · exact h
  · cases e
theorem w_eqI : rEqA K (.int i) (.int j) H Q = Q (.bl (decide (i = j))) H := by
  refine propext ⟨fun h => ?_, fun h => .inl ⟨rfl, by simpa using h⟩⟩
  rcases h with ⟨_, h⟩ | ⟨_, _, _, _, e, _⟩
  · simpa using h
  · cases e
theorem w_eqS : rEqA K (.str x) (.str y) H Q = Q (.bl (decide (x = y))) H := by
  refine propext ⟨fun h => ?_, fun h => .inl ⟨rfl, by simpa using h⟩⟩
  rcases h with ⟨_, h⟩ | ⟨_, _, _, _, e, _⟩
  · simpa using h
  · cases e
theorem w_eqR : rEqA K (.ref p) (.ref q) H Q = rEqL K (.ref p) (.ref q) H Q := by
  refine propext ⟨fun h => ?_, .inr⟩
  rcases h with ⟨e, _⟩ | h
  · cases e
  · exact h
theorem w_neI : rNe (.int i) (.int j) H Q = Q (.bl (!decide (i = j))) H := by
  refine propext ⟨fun ⟨_, h⟩ => by simpa using h, fun h => ⟨rfl, by simpa using h⟩⟩
theorem w_neS : rNe (.str x) (.str y) H Q = Q (.bl (!decide (x = y))) H := by
  refine propext ⟨fun ⟨_, h⟩ => by simpa using h, fun h => ⟨rfl, by simpa using h⟩⟩
theorem w_ltI : rLtA (.int i) (.int j) H Q = Q (.bl (decide (i < j))) H := by
  unfold rLtA
  rw [w_rI0]
  refine propext ⟨fun h => ?_, .inl⟩
  rcases h with h | ⟨_, _, e, _⟩
  · exact h
  · cases e
theorem w_inS : rInA K false (.str x) (.str y) H Q = Q (.bl (inS x y)) H := by
  refine propext ⟨fun h => ?_, fun h => .inl ⟨x, y, rfl, rfl, h⟩⟩
  rcases h with ⟨_, _, e1, e2, h⟩ | ⟨_, _, e, _⟩
  · cases e1; cases e2; exact h
  · cases e
theorem w_notinS : rInA K true (.str x) (.str y) H Q = Q (.bl (!inS x y)) H := by
  refine propext ⟨fun h => ?_, fun h => .inl ⟨x, y, rfl, rfl, h⟩⟩
  rcases h with ⟨_, _, e1, e2, h⟩ | ⟨_, _, e, _⟩
  · cases e1; cases e2; exact h
  · cases e
theorem w_inR {v : V} : rInA K false v (.ref p) H Q = ∃ xs, (SqL K H p xs ∨ SqT K H p xs) ∧ flatV v = true ∧ xs.all flatV = true ∧ Q (.bl (inV v xs)) H := by
  refine propext ⟨fun h => ?_, fun ⟨xs, h⟩ => .inr ⟨p, xs, rfl, h⟩⟩
  rcases h with ⟨_, _, _, e2, _⟩ | ⟨_, xs, e, h⟩
  · cases e2
  · cases e; exact ⟨xs, h⟩
theorem w_notinR {v : V} : rInA K true v (.ref p) H Q = ∃ xs, (SqL K H p xs ∨ SqT K H p xs) ∧ flatV v = true ∧ xs.all flatV = true ∧ Q (.bl (!inV v xs)) H := by
  refine propext ⟨fun h => ?_, fun ⟨xs, h⟩ => .inr ⟨p, xs, rfl, h⟩⟩
  rcases h with ⟨_, _, _, e2, _⟩ | ⟨_, xs, e, h⟩
  · cases e2
  · cases e; exact ⟨xs, h⟩
theorem w_ixS : rIx K (.str x) (.int i) H Q = (x.length ≤ sizeLine ∧ ∃ c, atI x.cps.toList i = some c ∧ Q (.str ⟨#[c]⟩) H) := by
  refine propext ⟨fun h => ?_, fun ⟨h1, c, h2, h3⟩ => .inr (.inr ⟨x, i, c, rfl, rfl, h1, h2, h3⟩)⟩
  rcases h with ⟨_, _, _, _, e, _⟩ | ⟨_, _, _, _, e, _⟩ | ⟨_, _, c, e1, e2, h1, h2, h3⟩
  · cases e
  · cases e
  · cases e1; cases e2; exact ⟨h1, c, h2, h3⟩
theorem w_ixR : rIx K (.ref p) (.int i) H Q = ∃ xs, (SqL K H p xs ∨ SqT K H p xs) ∧ ∃ v, atI xs i = some v ∧ Q v H := by
  refine propext ⟨fun h => ?_, fun ⟨xs, h, v, e, q⟩ => ?_⟩
  · rcases h with ⟨_, xs, _, v, e1, e2, h1, h2, h3⟩ | ⟨_, xs, _, v, e1, e2, h1, h2, h3⟩ | ⟨_, _, _, e, _⟩
    · cases e1; cases e2; exact ⟨xs, .inl h1, v, h2, h3⟩
    · cases e1; cases e2; exact ⟨xs, .inr h1, v, h2, h3⟩
    · cases e
  · rcases h with h | h
    · exact .inl ⟨p, xs, i, v, rfl, rfl, h, e, q⟩
    · exact .inr (.inl ⟨p, xs, i, v, rfl, rfl, h, e, q⟩)
theorem w_lenS : rLen K [.str x] H Q = (x.length ≤ sizeLine ∧ Q (.int x.length) H) := by
  refine propext ⟨fun ⟨_, n, e, h, q⟩ => ?_, fun ⟨h, q⟩ => ⟨_, _, rfl, ⟨h, rfl⟩, q⟩⟩
  cases e
  obtain ⟨h1, rfl⟩ := h
  exact ⟨h1, q⟩
theorem w_lenR : rLen K [.ref p] H Q = ∃ xs, (SqL K H p xs ∨ SqT K H p xs) ∧ Q (.int (xs.length : Nat)) H := by
  refine propext ⟨fun ⟨_, n, e, h, q⟩ => ?_, fun ⟨xs, h, q⟩ => ?_⟩
  · cases e
    rcases h with ⟨xs, h, rfl⟩ | ⟨xs, h, rfl⟩
    · exact ⟨xs, .inl h, q⟩
    · exact ⟨xs, .inr h, q⟩
  · rcases h with h | h
    · exact ⟨_, _, rfl, .inl ⟨xs, h, rfl⟩, q⟩
    · exact ⟨_, _, rfl, .inr ⟨xs, h, rfl⟩, q⟩
theorem w_slS {lo hi : Option Int} : rSlA K (.str x) lo hi H Q = (x.length ≤ sizeLine ∧ Q (.str (Txt.slice x lo hi)) H) := by
  refine propext ⟨fun h => ?_, fun h => .inl ⟨x, rfl, h⟩⟩
  rcases h with ⟨_, e, h⟩ | ⟨_, _, e, _⟩ | ⟨_, _, e, _⟩
  · cases e; exact h
  · cases e
  · cases e
theorem w_all : rAll K [.ref p] H Q = ∃ bs : List Bool, SqL K H p (bs.map V.bl) ∧ Q (.bl (bs.all id)) H := by
  refine propext ⟨fun ⟨_, bs, e, h⟩ => ?_, fun ⟨bs, h⟩ => ⟨p, bs, rfl, h⟩⟩
  cases e; exact ⟨bs, h⟩
theorem w_intB {b : Bool} : rIntOf [.bl b] H Q = Q (.int (if b then 1 else 0)) H := by
  refine propext ⟨fun h => ?_, fun h => .inr ⟨b, rfl, h⟩⟩
  rcases h with ⟨_, e, _⟩ | ⟨_, e, h⟩
  · cases e
  · cases e; exact h
theorem w_intI : rIntOf [.int i] H Q = Q (.int i) H := by
  refine propext ⟨fun h => ?_, fun h => .inl ⟨i, rfl, h⟩⟩
  rcases h with ⟨_, e, h⟩ | ⟨_, e, _⟩
  · cases e; exact h
  · cases e
variable {R : It → Hp → Prop}
theorem w_itS : iAnyV K (.str x) H R = R (Its x) H := by
  refine propext ⟨fun h => ?_, fun h => .inl ⟨x, rfl, h⟩⟩
  rcases h with ⟨_, e, h⟩ | ⟨_, e, _⟩ | ⟨_, e, _⟩
  · cases e; exact h
  · cases e
  · cases e
theorem w_itR : iAnyV K (.ref p) H R = (((∃ xs, SqL K H p xs) ∧ R (Itl K p) H) ∨ ((∃ xs, SqT K H p xs) ∧ R (Itt K p) H)) := by
  refine propext ⟨fun h => ?_, fun h => ?_⟩
  · rcases h with ⟨_, e, _⟩ | ⟨_, e, h⟩ | ⟨_, e, h⟩
    · cases e
    · cases e; exact .inl h
    · cases e; exact .inr h
  · rcases h with h | h
    · exact .inr (.inl ⟨p, rfl, h⟩)
    · exact .inr (.inr ⟨p, rfl, h⟩)
theorem w_iAny : iAny K te σ H R = te σ H fun x H1 => iAnyV K x H1 R := rfl
theorem w_rng1 : iRng1 tl σ H R = tl σ H fun vs H1 => ∃ j : Int, vs = [.int j] ∧ -(2 ^ 62) ≤ j ∧ j < 2 ^ 62 ∧ R (Itr 0 j.toNat) H1 := rfl
theorem w_rngI {P : Int → Prop} : (∃ j : Int, [V.int i] = [.int j] ∧ P j) = P i := by
  refine propext ⟨fun ⟨_, e, h⟩ => ?_, fun h => ⟨i, rfl, h⟩⟩
  cases e; exact h
end
end L2
set_option Elab.async false
set_option linter.all false
set_option maxRecDepth 100000
set_option maxHeartbeats 4000000
namespace L2
open PySem PySem.Spec PyProof.Rows
section
variable {K : PySem.W.Frag} {H : Hp} {Q : VK} {σ : St} {D : Ends} {ta tb tc te ti to : TE} {i j : Int} {x y : Str} {p q : Addr} {v : V} {T : String} {lo hi : Option Int}
theorem w_ints2 {P : Int → Int → Prop} : (∃ i' j', [V.int i, V.int j] = [V.int i', V.int j'] ∧ P i' j') = P i j := by
  refine propext ⟨fun ⟨_, _, e, h⟩ => ?_, fun h => ⟨i, j, rfl, h⟩⟩
  cases e; exact h
theorem w_tupleOf : rTupleOf K [.ref p] H Q = ∃ ys, (SqL K H p ys ∧ ∀ l, H l = none → Q (.ref l) (upd H l (.tup ys))) ∨ (SqT K H p ys ∧ Q (.ref p) H) := by
  refine propext ⟨fun ⟨_, ys, e, h⟩ => ?_, fun ⟨ys, h⟩ => ⟨p, ys, rfl, h⟩⟩
  cases e; exact ⟨ys, h⟩
theorem w_listOf : rListOf K [.ref p] H Q = ∃ ys, (SqL K H p ys ∨ SqT K H p ys) ∧ ∀ l, H l = none → Q (.ref l) (upd H l (.lst ys)) := by
  refine propext ⟨fun ⟨_, ys, e, h⟩ => ?_, fun ⟨ys, h⟩ => ⟨p, ys, rfl, h⟩⟩
  cases e; exact ⟨ys, h⟩
theorem w_append : rAppend (.ref p) [v] H Q = ∃ xs, H p = some (.lst xs) ∧ xs.length < sizeLine ∧ Q .non (upd H p (.lst (xs ++ [v]))) := by
  refine propext ⟨fun ⟨_, xs, _, e1, e2, h⟩ => ?_, fun ⟨xs, h⟩ => ⟨p, xs, v, rfl, rfl, h⟩⟩
  cases e1; cases e2; exact ⟨xs, h⟩
theorem w_extend : rExtend (.ref p) [.ref q] H Q = ∃ xs zs, H p = some (.lst xs) ∧ H q = some (.lst zs) ∧ xs.length + zs.length ≤ sizeLine ∧ Q .non (upd H p (.lst (xs ++ zs))) := by
  refine propext ⟨fun ⟨_, _, xs, zs, e1, e2, h⟩ => ?_, fun ⟨xs, zs, h⟩ => ⟨p, q, xs, zs, rfl, rfl, h⟩⟩
  cases e1; cases e2; exact ⟨xs, zs, h⟩
theorem w_setL {Qh : Hp → Prop} : rSetL (.ref p) (.int i) v H Qh = ∃ xs j, H p = some (.lst xs) ∧ ixN xs.length i = some j ∧ Qh (upd H p (.lst (xs.set j v))) := by
  refine propext ⟨fun ⟨_, xs, _, j, e1, e2, h⟩ => ?_, fun ⟨xs, j, h⟩ => ⟨p, xs, i, j, rfl, rfl, h⟩⟩
  cases e1; cases e2; exact ⟨xs, j, h⟩
theorem w_gSub {t : TSet} {Qs : St → Hp → Prop} : gSub to ti t v σ H Qs = to σ H fun o H1 => ti σ H1 fun i H2 => t o i v H2 fun H3 => Qs σ H3 := rfl
theorem w_instInt : rInst K T [.int i, .ty T] H Q = ∃ b, PySem.W.kitOne K (.type "int") (.type T) = some b ∧ Q (.bl b) H := by
  refine propext ⟨fun ⟨_, _, b, e, t, h⟩ => ?_, fun ⟨b, h⟩ => ⟨_, _, b, rfl, .int i, h⟩⟩
  cases e; cases t; exact ⟨b, h⟩
theorem w_instStr : rInst K T [.str x, .ty T] H Q = ∃ b, PySem.W.kitOne K (.type "str") (.type T) = some b ∧ Q (.bl b) H := by
  refine propext ⟨fun ⟨_, _, b, e, t, h⟩ => ?_, fun ⟨b, h⟩ => ⟨_, _, b, rfl, .str x, h⟩⟩
  cases e; cases t; exact ⟨b, h⟩
theorem w_slR : rSlA K (.ref p) lo hi H Q = ∃ xs, (SqL K H p xs ∧ ∀ q, H q = none → Q (.ref q) (upd H q (.lst (cutV xs lo hi)))) ∨
    (SqT K H p xs ∧ ¬ (HT.sIx xs.length 0 lo = 0 ∧ HT.sIx xs.length xs.length hi = xs.length) ∧ ∀ q, H q = none → Q (.ref q) (upd H q (.tup (cutV xs lo hi)))) := by
  refine propext ⟨fun h => ?_, fun ⟨xs, h⟩ => ?_⟩
  · rcases h with ⟨_, e, _⟩ | ⟨_, xs, e, h⟩ | ⟨_, xs, e, h⟩
    · cases e
    · cases e; exact ⟨xs, .inl h⟩
    · cases e; exact ⟨xs, .inr h⟩
  · rcases h with h | h
    · exact .inr (.inl ⟨p, xs, rfl, h⟩)
    · exact .inr (.inr ⟨p, xs, rfl, h⟩)
theorem w_catR : rAddA K (.ref p) (.ref q) H Q = ∃ xs zs, (H p = some (.lst xs) ∧ H q = some (.lst zs) ∧ xs.length + zs.length ≤ sizeLine ∧ ∀ r, H r = none → Q (.ref r) (upd H r (.lst (xs ++ zs)))) ∨
    (SqT K H p xs ∧ SqT K H q zs ∧ xs ≠ [] ∧ xs.length + zs.length ≤ sizeLine ∧ (zs = [] → Q (.ref p) H) ∧ (zs ≠ [] → ∀ r, H r = none → Q (.ref r) (upd H r (.tup (xs ++ zs))))) := by
  refine propext ⟨fun h => ?_, fun ⟨xs, zs, h⟩ => ?_⟩
  · rcases h with ⟨_, _, e, _⟩ | ⟨_, _, e, _⟩ | ⟨_, _, xs, zs, e1, e2, h⟩ | ⟨_, _, xs, zs, e1, e2, h⟩
    · cases e
    · cases e
    · cases e1; cases e2; exact ⟨xs, zs, .inl h⟩
    · cases e1; cases e2; exact ⟨xs, zs, .inr h⟩
  · rcases h with h | h
    · exact .inr (.inr (.inl ⟨p, q, xs, zs, rfl, rfl, h⟩))
    · exact .inr (.inr (.inr ⟨p, q, xs, zs, rfl, rfl, h⟩))
end
theorem mtR_append {X : Cx} : MtR X "list.append" rAppend := mt_append
theorem mtR_extend {X : Cx} : MtR X "list.extend" rExtend := mt_extend
theorem Same.upd {H0 H : Hp} {p : Addr} {o : HO} (s : Same H0 H) (h : H0 p = none) : Same H0 (upd H p o) := fun b u q => by rw [upd_ne (ne_of_none q h)]; exact s b u q
theorem keep1 {H : Hp} {p a : Addr} {o u : HO} (hn : H p = none) (h : H a = some u) : upd H p o a = some u := by rw [upd_ne (ne_of_none h hn)]; exact h
inductive Bi where | and | or | thn
  deriving DecidableEq
def Bi.txt : Bi → Str | .and => "and" | .or => "or" | .thn => "then"
def qtx : Bool → Str | true => "all" | false => "some"
inductive Stm where
  | is (w : Str) (ts : List Str) | fls | neg (A : Stm) | bi (o : Bi) (A B : Stm) | qu (q : Bool) (X : Str) (A : Stm)
  deriving DecidableEq
namespace Stm
def deep : Stm → Nat
  | .is _ _ => 1 | .fls => 1 | .neg A => A.deep + 1 | .bi _ A B => max A.deep B.deep + 1 | .qu _ _ A => A.deep + 1
def size : Stm → Nat
  | .is _ _ => 1 | .fls => 1 | .neg A => A.size + 1 | .bi _ A B => A.size + B.size + 1 | .qu _ _ A => A.size + 1
def parts : Stm → List Stm
  | .is _ _ => [] | .fls => [] | .neg A => [A] | .bi _ A B => [A, B] | .qu _ _ A => [A]
def tag : Stm → Str
  | .is _ _ => "is" | .fls => "false" | .neg _ => "not" | .bi o _ _ => o.txt | .qu q _ _ => qtx q
theorem deep_pos (S : Stm) : 1 ≤ S.deep := by cases S <;> simp [deep]
end Stm
def smallS : Str := "abcdefghijklmnopqrstuvwxyz"
def greatS : Str := "ABCDEFGHIJKLMNOPQRSTUVWXYZ"
def sofS : Str := "abcdefghijklmnopqrstuvwxyz0123456789"
def keptW : List Str := ["not", "and", "or", "then", "all", "some", "false"]
def Nm (f x : Str) : Prop := ∃ c r, x.cps.toList = c :: r ∧ c ∈ f.cps.toList ∧ (∀ d ∈ r, d ∈ sofS.cps.toList) ∧ r.length ≤ 7 ∧ x ∉ keptW
def Stm.Ok : Stm → Prop
  | .is w ts => Nm smallS w ∧ ts.length ≤ 3 ∧ ∀ t ∈ ts, Nm smallS t ∨ Nm greatS t
  | .fls => True
  | .neg A => A.Ok
  | .bi _ A B => A.Ok ∧ B.Ok
  | .qu _ X A => Nm greatS X ∧ A.Ok
theorem Nm.len {f x : Str} (h : Nm f x) : x.length ≤ 8 ∧ 1 ≤ x.length := by
  obtain ⟨c, r, e, _, _, h, _⟩ := h
  have : x.length = x.cps.toList.length := by simp [Str.length]
  rw [this, e, List.length_cons]
  omega
def RepS (K : PySem.W.Frag) (H : Hp) : Stm → V → Prop
  | .is w ts, v => ∃ a b, v = .ref a ∧ SqT K H a [.str "is", .str w, .ref b] ∧ SqT K H b (ts.map V.str)
  | .fls, v => ∃ a, v = .ref a ∧ SqT K H a [.str "false"]
  | .neg A, v => ∃ a u, v = .ref a ∧ SqT K H a [.str "not", u] ∧ RepS K H A u
  | .bi o A B, v => ∃ a u u', v = .ref a ∧ SqT K H a [.str o.txt, u, u'] ∧ RepS K H A u ∧ RepS K H B u'
  | .qu q X A, v => ∃ a u, v = .ref a ∧ SqT K H a [.str (qtx q), .str X, u] ∧ RepS K H A u
theorem RepS.same {K : PySem.W.Frag} {H H' : Hp} (e : Same H H') : ∀ {S : Stm} {v : V}, RepS K H S v → RepS K H' S v
  | .is _ _, _, ⟨a, b, h1, h2, h3⟩ => ⟨a, b, h1, e.seqT h2, e.seqT h3⟩
  | .fls, _, ⟨a, h1, h2⟩ => ⟨a, h1, e.seqT h2⟩
  | .neg _, _, ⟨a, u, h1, h2, h3⟩ => ⟨a, u, h1, e.seqT h2, RepS.same e h3⟩
  | .bi _ _ _, _, ⟨a, u, u', h1, h2, h3, h4⟩ => ⟨a, u, u', h1, e.seqT h2, RepS.same e h3, RepS.same e h4⟩
  | .qu _ _ _, _, ⟨a, u, h1, h2, h3⟩ => ⟨a, u, h1, e.seqT h2, RepS.same e h3⟩
theorem RepS.tag {K : PySem.W.Frag} {H : Hp} {S : Stm} {v : V} (h : RepS K H S v) : ∃ a xs, v = .ref a ∧ SqT K H a (.str S.tag :: xs) := by
  cases S with
  | is w ts => obtain ⟨a, b, h1, h2, _⟩ := h; exact ⟨a, _, h1, h2⟩
  | fls => obtain ⟨a, h1, h2⟩ := h; exact ⟨a, _, h1, h2⟩
  | neg A => obtain ⟨a, u, h1, h2, _⟩ := h; exact ⟨a, _, h1, h2⟩
  | bi o A B => obtain ⟨a, u, u', h1, h2, _⟩ := h; exact ⟨a, _, h1, h2⟩
  | qu q X A => obtain ⟨a, u, h1, h2, _⟩ := h; exact ⟨a, _, h1, h2⟩
abbrev RepL (K : PySem.W.Frag) (H : Hp) : List Stm → List V → Prop := Paired (RepS K H)
theorem RepL.same {K : PySem.W.Frag} {H H' : Hp} (e : Same H H') {Ss : List Stm} {vs : List V} (h : RepL K H Ss vs) : RepL K H' Ss vs := Paired.mapP h fun _ _ => RepS.same e
theorem RepL.get {K : PySem.W.Frag} {H : Hp} : ∀ {Ss : List Stm} {vs : List V} {i : Nat} {v : V}, RepL K H Ss vs → vs[i]? = some v → ∃ S, Ss[i]? = some S ∧ RepS K H S v
  | _, _, _, _, .nil, e => by simp at e
  | _, _, 0, _, .cons r _, e => by simp at e; subst e; exact ⟨_, rfl, r⟩
  | _, _, i + 1, x, .cons _ t, e => by
    obtain ⟨u, h1, h2⟩ := RepL.get (i := i) (v := x) t (by simpa using e)
    exact ⟨u, by simpa using h1, h2⟩
theorem cps_append' (x y : Str) : (x ++ y).cps.toList = x.cps.toList ++ y.cps.toList := by
  rw [Str.cps_append]; simp
theorem len_cps (x : Str) : x.cps.toList.length = x.length := by simp [Str.length]
theorem pickC {x : Str} {i : Int} {P : Nat → Prop} (h : 0 < x.length) (k : ∀ c ∈ x.cps.toList, P c) : ∃ c, atI x.cps.toList (i % (x.length : Int)) = some c ∧ P c := by
  have e := len_cps x
  obtain ⟨c, hc', hc⟩ := atI_some (xs := x.cps.toList) (i := i % (x.length : Int)) (Int.emod_nonneg _ (by omega)) (by rw [e]; exact Int.emod_lt_of_pos _ (by omega))
  exact ⟨c, hc, k c hc'⟩
theorem cdiv {i j : Int} (h : 0 < j := by decide) (h2 : j < 1073741824 := by decide) : CDiv i j := ⟨h, h2⟩
theorem cmulL {i j : Int} (h : -(2 ^ 64) < i ∧ i < 2 ^ 64 := by decide) : CMul i j := .inl h
theorem cmulR {i j : Int} (h : -(2 ^ 64) < j ∧ j < 2 ^ 64 := by decide) : CMul i j := .inr h
theorem atI_ints {ns : List Int} {i : Int} (h0 : 0 ≤ i) (h1 : i < (ns.length : Int)) : atI (ns.map V.int) i = some (.int (ns.getD i.toNat 0)) := by
  have hk : i.toNat < ns.length := by omega
  rw [atI_getD (d := .int 0) h0 (by simpa using h1)]
  simp [hk]
theorem pickS {ts : List Str} {i : Int} (h0 : 0 ≤ i) (h1 : i < (ts.length : Int)) : ∃ z, z ∈ ts ∧ atI (ts.map V.str) i = some (.str z) := by
  have hk : i.toNat < ts.length := by omega
  refine ⟨ts[i.toNat], List.getElem_mem hk, ?_⟩
  rw [atI_getD (d := .non) h0 (by simpa using h1)]
  simp [hk]
theorem ixN_in {n : Nat} {i : Int} (h0 : 0 ≤ i) (h1 : i < n) : ixN n i = some i.toNat := by
  unfold ixN; rw [if_pos h0, if_pos h1]
theorem inV_strs (x : Str) : ∀ ts : List Str, inV (.str x) (ts.map V.str) = decide (x ∈ ts)
  | [] => by simp [inV]
  | t :: ts => by
    have ih := inV_strs x ts
    unfold inV at ih ⊢
    rw [List.map_cons, List.any_cons, ih]
    have e : eqV (V.str t) (V.str x) = decide (x = t) := by
      show (t == x) = decide (x = t)
      by_cases h : x = t
      · subst h; simp
      · have h' : ¬ t = x := fun e => h e.symm
        simp [h, h']
    rw [e]
    simp
theorem flat_strs (ts : List Str) : (ts.map V.str).all flatV = true := by
  rw [List.all_map, List.all_eq_true]; intro t _; rfl
def GoodS (f : Str) (cs : List Nat) : Prop := ∃ c r, cs = c :: r ∧ c ∈ f.cps.toList ∧ (∀ d ∈ r, d ∈ sofS.cps.toList) ∧ r.length ≤ 7
theorem kept_small : ∀ z ∈ keptW, 1 ≤ z.length ∧ z.length ≤ 5 ∧ ∀ c ∈ z.cps.toList, c ∈ smallS.cps.toList := by decide +kernel
theorem kept_last : ∀ y ∈ keptW, y.cps.toList.getLast? ≠ some 48 := by decide +kernel
theorem nm_plain {f x : Str} {cs : List Nat} (g : GoodS f cs) (e : x.cps.toList = cs) (h : x ∉ keptW) : Nm f x := by
  obtain ⟨c, r, rfl, h1, h2, h3⟩ := g
  exact ⟨c, r, e, h1, h2, h3, h⟩
theorem nm_nought {f x y : Str} {cs : List Nat} (g : GoodS f cs) (e : x.cps.toList = cs) (h : x ∈ keptW) (ey : y = x ++ "0") : Nm f y := by
  obtain ⟨c, r, rfl, h1, h2, h3⟩ := g
  have hl := (kept_small x h).2.1
  rw [← len_cps, e, List.length_cons] at hl
  have e2 : y.cps.toList = c :: (r ++ [48]) := by
    rw [ey, cps_append', e]; rfl
  refine ⟨c, r ++ [48], e2, h1, fun d hd => ?_, by rw [List.length_append, List.length_singleton]; omega, fun hy => ?_⟩
  · rcases List.mem_append.mp hd with q | q
    · exact h2 d q
    · rw [List.mem_singleton.mp q]; decide +kernel
  · refine kept_last y hy ?_
    rw [e2, ← List.cons_append, List.getLast?_concat]
def spParts (K : PySem.W.Frag) : Sp := fun vs H Q _ => ∃ v S, vs = [v] ∧ RepS K H S v ∧ ∀ p us H', Same H H' → SqT K H' p us → RepL K H' S.parts us → Q (.ref p) H'
theorem bi_no_quant (o : Bi) : inV (.str o.txt) [V.str "all", V.str "some"] = false := by cases o <;> decide +kernel
theorem qu_quant (q : Bool) : inV (.str (qtx q)) [V.str "all", V.str "some"] = true := by cases q <;> decide +kernel
theorem bi_is (o : Bi) : ¬ o.txt = "is" := by cases o <;> decide +kernel
theorem qu_is (q : Bool) : ¬ qtx q = "is" := by cases q <;> decide +kernel
end L2
set_option Elab.async false
set_option linter.all false
set_option maxRecDepth 100000
set_option maxHeartbeats 4000000
namespace L2
open PySem PySem.Spec PyProof.Rows
section
variable {X : Cx} {K : PySem.W.Frag} {H : Hp} {Q : VK} {p q : Addr}
end
inductive EqD (K : PySem.W.Frag) (H : Hp) : Nat → V → V → Bool → Prop
  | flat {n : Nat} {x y : V} (hx : flatV x = true) (hy : flatV y = true) : EqD K H n x y (eqV x y)
  | tups {n : Nat} {a b : Addr} {xs ys : List V} (e : Nat → Bool) (ha : SqT K H a xs) (hb : SqT K H b ys) (he : ∀ (j : Nat) x y, xs[j]? = some x → ys[j]? = some y → EqD K H n x y (e j)) :
      EqD K H (n + 1) (.ref a) (.ref b) ((List.range (min xs.length ys.length)).all e && xs.length == ys.length)
  | lsts {n : Nat} {a b : Addr} {xs ys : List V} (e : Nat → Bool) (ha : SqL K H a xs) (hb : SqL K H b ys) (hl : xs.length = ys.length) (he : ∀ (j : Nat) x y, xs[j]? = some x → ys[j]? = some y → EqD K H n x y (e j)) :
      EqD K H (n + 1) (.ref a) (.ref b) ((List.range xs.length).all e)
  | lstsN {n : Nat} {a b : Addr} {xs ys : List V} (ha : SqL K H a xs) (hb : SqL K H b ys) (hl : xs.length ≠ ys.length) : EqD K H (n + 1) (.ref a) (.ref b) false
  | strTup {n : Nat} {a : Addr} {x : Str} {xs : List V} (ha : SqT K H a xs) : EqD K H (n + 1) (.str x) (.ref a) false
  | tupStr {n : Nat} {a : Addr} {x : Str} {xs : List V} (ha : SqT K H a xs) : EqD K H (n + 1) (.ref a) (.str x) false
  | nonTup {n : Nat} {a : Addr} {xs : List V} (ha : SqT K H a xs) : EqD K H (n + 1) .non (.ref a) false
  | tupNon {n : Nat} {a : Addr} {xs : List V} (ha : SqT K H a xs) : EqD K H (n + 1) (.ref a) .non false
section
variable {X : Cx} {pins : List (Addr × Obj)} {σ : St} {H : Hp} {s : Shared}
theorem eqV_self {x : V} (h : flatV x = true) : eqV x x = true := by
  cases x <;> simp_all [flatV, eqV]
theorem EqD.self (I : Inv X pins σ H s) {n : Nat} {x y : V} {b : Bool} (h : EqD X.K H n x y b) : x = y → b = true := by
  induction h with
  | flat hx hy => rintro rfl; exact eqV_self hx
  | @tups n a b xs ys e ha hb he ih =>
    intro q
    cases q
    have := I.tuple_inj ha hb
    subst this
    rw [Bool.and_eq_true]
    refine ⟨List.all_eq_true.mpr fun j hj => ?_, by simp⟩
    have hj' : j < xs.length := by simpa using hj
    exact ih j xs[j] xs[j] (by simp [hj']) (by simp [hj']) rfl
  | @lsts n a b xs ys e ha hb hl he ih =>
    intro q
    cases q
    have := I.list_inj ha hb
    subst this
    refine List.all_eq_true.mpr fun j hj => ?_
    have hj' : j < xs.length := by simpa using hj
    exact ih j xs[j] xs[j] (by simp [hj']) (by simp [hj']) rfl
  | lstsN ha hb hl =>
    intro q
    cases q
    exact absurd (congrArg List.length (I.list_inj ha hb)) hl
  | strTup => intro q; cases q
  | tupStr => intro q; cases q
  | nonTup => intro q; cases q
  | tupNon => intro q; cases q
theorem getD_some {xs : List V} {its : List Value} (r : Vals xs its) {j : Nat} (h : j < its.toArray.size) : ∃ x, xs[j]? = some x ∧ RelV x its.toArray[j] := by
  have h' : j < its.length := by simpa using h
  have hx : j < xs.length := by rw [r.length]; exact h'
  obtain ⟨u, e, ru⟩ := r.get (i := j) (x := xs[j]) (by simp [hx])
  have : its[j]? = some its[j] := by simp [h']
  rw [this] at e
  cases e
  exact ⟨xs[j], by simp [hx], by simpa using ru⟩
theorem EqD.at (I : Inv X pins σ H s) {n : Nat} {x y : V} {b : Bool} (h : EqD X.K H n x y b) : ∀ {A : Around} {u v : Value}, A.units + n < cLine → RelV x u → RelV y v →
    SeqAt.EqAt A s u v b ∧ ((flatV x = false ∨ flatV y = false) → SeqAt.RcAt A s u v b) := by
  induction h with
  | flat hx hy =>
    intro A u v _ ru rv
    exact ⟨eqAt_V ru rv hx hy, fun e => by rw [hx, hy] at e; simp at e⟩
  | @tups n a b xs ys e ha hb he ih =>
    intro A u v hu ru rv
    cases ru; cases rv
    obtain ⟨its, r1, p1, _⟩ := I.tuple ha
    obtain ⟨its2, r2, p2, _⟩ := I.tuple hb
    have l1 : its.toArray.size = xs.length := by rw [List.size_toArray]; exact r1.length.symm
    have l2 : its2.toArray.size = ys.length := by rw [List.size_toArray]; exact r2.length.symm
    have rc : SeqAt.RcAt A s (.ref a) (.ref b) ((List.range (min xs.length ys.length)).all e && xs.length == ys.length) := by
      have := SeqAt.RcAt.tuples (A := A) (e := e) p1 p2 (by omega) (fun j h1 h2 => by
        obtain ⟨x, ex, rx⟩ := getD_some r1 h1
        obtain ⟨y, ey, ry⟩ := getD_some r2 h2
        exact (ih j x y ex ey (A := A.in1) (by show A.units + 1 + n < cLine; omega) rx ry).1)
      rw [l1, l2] at this
      exact this
    refine ⟨?_, fun _ => rc⟩
    by_cases hab : a = b
    · subst hab
      have := EqD.self I (.tups e ha hb he) rfl
      rw [this]
      exact SeqAt.EqAt.same _
    · exact SeqAt.EqAt.of_refs hab rc
  | @lsts n a b xs ys e ha hb hl he ih =>
    intro A u v hu ru rv
    cases ru; cases rv
    obtain ⟨its, r1, p1, _⟩ := I.list ha
    obtain ⟨its2, r2, p2, _⟩ := I.list hb
    have l1 : its.toArray.size = xs.length := by rw [List.size_toArray]; exact r1.length.symm
    have l2 : its2.toArray.size = ys.length := by rw [List.size_toArray]; exact r2.length.symm
    have rc : SeqAt.RcAt A s (.ref a) (.ref b) ((List.range xs.length).all e) := by
      have := SeqAt.RcAt.lists (A := A) (e := e) p1.isList p2.isList (by omega) (by omega) (fun j h1 h2 => by
        obtain ⟨x, ex, rx⟩ := getD_some r1 h1
        obtain ⟨y, ey, ry⟩ := getD_some r2 h2
        exact (ih j x y ex ey (A := A.in1) (by show A.units + 1 + n < cLine; omega) rx ry).1)
      rw [l1] at this
      exact this
    refine ⟨?_, fun _ => rc⟩
    by_cases hab : a = b
    · subst hab
      have := EqD.self I (.lsts e ha hb hl he) rfl
      rw [this]
      exact SeqAt.EqAt.same _
    · exact SeqAt.EqAt.of_refs hab rc
  | @lstsN n a b xs ys ha hb hl =>
    intro A u v hu ru rv
    cases ru; cases rv
    obtain ⟨its, r1, p1, _⟩ := I.list ha
    obtain ⟨its2, r2, p2, _⟩ := I.list hb
    have l1 : its.toArray.size = xs.length := by rw [List.size_toArray]; exact r1.length.symm
    have l2 : its2.toArray.size = ys.length := by rw [List.size_toArray]; exact r2.length.symm
    have rc := SeqAt.RcAt.lists_lengths (A := A) p1.isList p2.isList (by rw [l1, l2]; simpa using hl) (by omega)
    refine ⟨?_, fun _ => rc⟩
    by_cases hab : a = b
    · subst hab
      exact absurd (congrArg List.length (I.list_inj ha hb)) hl
    · exact SeqAt.EqAt.of_refs hab rc
  | strTup ha =>
    intro A u v hu ru rv
    cases rv; obtain ⟨t, rfl⟩ := ru
    obtain ⟨its, r1, p1, _⟩ := I.tuple ha
    exact ⟨SeqAt.EqAt.str_tuple _ _ p1 (by omega), fun _ => SeqAt.RcAt.str_tuple _ _ p1 (by omega)⟩
  | tupStr ha =>
    intro A u v hu ru rv
    cases ru; obtain ⟨t, rfl⟩ := rv
    obtain ⟨its, r1, p1, _⟩ := I.tuple ha
    exact ⟨SeqAt.EqAt.tuple_str _ _ p1 (by omega), fun _ => SeqAt.RcAt.tuple_str _ _ p1 (by omega)⟩
  | nonTup ha =>
    intro A u v hu ru rv
    cases rv; cases ru
    obtain ⟨its, r1, p1, _⟩ := I.tuple ha
    exact ⟨SeqAt.EqAt.none_tuple p1 (by omega), fun _ => SeqAt.RcAt.none_tuple p1 (by omega)⟩
  | tupNon ha =>
    intro A u v hu ru rv
    cases ru; cases rv
    obtain ⟨its, r1, p1, _⟩ := I.tuple ha
    exact ⟨SeqAt.EqAt.tuple_none p1 (by omega), fun _ => SeqAt.RcAt.tuple_none p1 (by omega)⟩
end
section
variable {X : Cx} {K : PySem.W.Frag} {H : Hp} {Q : VK} {p q : Addr} {i j : Int} {x y : Str}
def rEqD (K : PySem.W.Frag) : R2 := fun x y H Q => ∃ d b, d ≤ 60 ∧ (flatV x = false ∨ flatV y = false) ∧ EqD K H d x y b ∧ Q (.bl b) H
theorem op_eqD (hu : X.A.units + 64 < cLine) : OpR X (compareOp .Eq) (rEqD X.K) := by
  intro pins s σ H x y v u Q I rx ry h
  obtain ⟨d, b, hd, e, h, k⟩ := h
  exact (h.at I (A := X.A) (by omega) rx ry).2 e X.prog X.w X.xe _ ⟨.bl b, H, I, rfl, k⟩
def rEqB (K : PySem.W.Frag) : R2 := fun x y H Q => rEq x y H Q ∨ rEqD K x y H Q
theorem opB_eq (K : PySem.W.Frag) (hu : X.A.units + 64 < cLine) (hK : X.K = K := by rfl) : OpR X (compareOp .Eq) (rEqB K) := hK ▸ (OpR.or op_eq (op_eqD hu) : OpR X (compareOp .Eq) (rEqB X.K))
theorem w_eqIB : rEqB K (.int i) (.int j) H Q = Q (.bl (decide (i = j))) H := by
  refine propext ⟨fun h => ?_, fun h => .inl ⟨rfl, by simpa using h⟩⟩
  rcases h with ⟨_, h⟩ | ⟨_, _, _, e, _⟩
  · simpa using h
  · rcases e with e | e <;> cases e
theorem w_eqSB : rEqB K (.str x) (.str y) H Q = Q (.bl (decide (x = y))) H := by
  refine propext ⟨fun h => ?_, fun h => .inl ⟨rfl, by simpa using h⟩⟩
  rcases h with ⟨_, h⟩ | ⟨_, _, _, e, _⟩
  · simpa using h
  · rcases e with e | e <;> cases e
theorem w_eqR_ {u : V} : rEqB K (.ref p) u H Q = ∃ d b, d ≤ 60 ∧ EqD K H d (.ref p) u b ∧ Q (.bl b) H := by
  refine propext ⟨fun h => ?_, fun ⟨d, b, hd, h, k⟩ => .inr ⟨d, b, hd, .inl rfl, h, k⟩⟩
  rcases h with ⟨e, _⟩ | ⟨d, b, hd, _, h, k⟩
  · cases u <;> cases e
  · exact ⟨d, b, hd, h, k⟩
theorem w_eq_R {u : V} : rEqB K u (.ref p) H Q = ∃ d b, d ≤ 60 ∧ EqD K H d u (.ref p) b ∧ Q (.bl b) H := by
  refine propext ⟨fun h => ?_, fun ⟨d, b, hd, h, k⟩ => .inr ⟨d, b, hd, .inr rfl, h, k⟩⟩
  rcases h with ⟨e, _⟩ | ⟨d, b, hd, _, h, k⟩
  · cases u <;> cases e
  · exact ⟨d, b, hd, h, k⟩
inductive TyB (K : PySem.W.Frag) (H : Hp) : V → Value → Prop where
  | of {x : V} {t : Value} (h : TyOf K H x t) : TyB K H x t
  | tup {a : Addr} {xs : List V} (h : SqT K H a xs) : TyB K H (.ref a) (.type "tuple")
  | lst {a : Addr} {xs : List V} (h : SqL K H a xs) : TyB K H (.ref a) (.type "list")
def rInstB (K : PySem.W.Frag) (T : String) : List V → Hp → VK → Prop := fun vs H Q => ∃ x t b, vs = [x, .ty T] ∧ TyB K H x t ∧ PySem.W.kitOne K t (.type T) = some b ∧ Q (.bl b) H
theorem call_instB {T : String} : CallR X (.builtin "isinstance") (rInstB X.K T) := by
  intro pins s σ H xs us Q I r h
  obtain ⟨x, t, b, rfl, ty, e, q⟩ := h
  cases ty with
  | of ty => exact call_inst pins s σ H _ us Q I r ⟨x, t, b, rfl, ty, e, q⟩
  | tup hq =>
    obtain ⟨u, u2, rfl, rx, r2⟩ := vals2 r
    cases (show u2 = Value.type T from r2)
    cases rx
    obtain ⟨its, _, ⟨o, h1, h2, _⟩, _⟩ := I.tuple hq
    exact PySem.W.kia_one PySem.W.kitx_tuple I.kIn ⟨o, h1, h2⟩ e (fun z => nomatch z) fun tk => ⟨.bl b, H, I.tok tk, rfl, q⟩
  | lst hq =>
    obtain ⟨u, u2, rfl, rx, r2⟩ := vals2 r
    cases (show u2 = Value.type T from r2)
    cases rx
    obtain ⟨its, _, pl, _⟩ := I.list hq
    obtain ⟨o, h1, h2, _⟩ := pl.isList
    exact PySem.W.kia_one PySem.W.kitx_list I.kIn ⟨o, h1, h2⟩ e (fun z => nomatch z) fun tk => ⟨.bl b, H, I.tok tk, rfl, q⟩
theorem callB_inst (K : PySem.W.Frag) (T : String) (hK : X.K = K := by rfl) : CallR X (.builtin "isinstance") (rInstB K T) := hK ▸ (call_instB : CallR X (.builtin "isinstance") (rInstB X.K T))
theorem w_instIntB {T : String} : rInstB K T [.int i, .ty T] H Q = ∃ b, PySem.W.kitOne K (.type "int") (.type T) = some b ∧ Q (.bl b) H := by
  refine propext ⟨fun ⟨_, _, b, e, t, h⟩ => ?_, fun ⟨b, h⟩ => ⟨_, _, b, rfl, .of (.int i), h⟩⟩
  cases e
  rcases t with t | t | t
  cases t; exact ⟨b, h⟩
theorem w_instStrB {T : String} : rInstB K T [.str x, .ty T] H Q = ∃ b, PySem.W.kitOne K (.type "str") (.type T) = some b ∧ Q (.bl b) H := by
  refine propext ⟨fun ⟨_, _, b, e, t, h⟩ => ?_, fun ⟨b, h⟩ => ⟨_, _, b, rfl, .of (.str x), h⟩⟩
  cases e
  rcases t with t | t | t
  cases t; exact ⟨b, h⟩
theorem w_instRB {T : String} : rInstB K T [.ref p, .ty T] H Q = ∃ t b, TyB K H (.ref p) t ∧ PySem.W.kitOne K t (.type T) = some b ∧ Q (.bl b) H := by
  refine propext ⟨fun ⟨_, t, b, e, ty, h⟩ => ?_, fun ⟨t, b, ty, h⟩ => ⟨_, t, b, rfl, ty, h⟩⟩
  cases e; exact ⟨t, b, ty, h⟩
end
theorem EqD.strs {K : PySem.W.Frag} {H : Hp} {n : Nat} {a b : Addr} {ts : List Str} (ha : SqT K H a (ts.map V.str)) (hb : SqT K H b (ts.map V.str)) : EqD K H (n + 1) (.ref a) (.ref b) true := by
  have h := EqD.tups (n := n) (fun _ => true) ha hb fun j x y hx hy => by
    rw [hx] at hy
    cases hy
    rw [List.getElem?_map] at hx
    cases e : ts[j]? with
    | none => rw [e] at hx; cases hx
    | some t =>
      rw [e] at hx
      cases hx
      have : eqV (V.str t) (V.str t) = true := eqV_self rfl
      rw [← this]
      exact .flat rfl rfl
  have e : ((List.range (min (ts.map V.str).length (ts.map V.str).length)).all (fun _ => true) && (ts.map V.str).length == (ts.map V.str).length) = true := by simp
  rw [e] at h
  exact h
theorem EqD.str {K : PySem.W.Frag} {H : Hp} {n : Nat} (x : Str) : EqD K H n (.str x) (.str x) true := by
  have : eqV (V.str x) (V.str x) = true := eqV_self rfl
  have h : EqD K H n (.str x) (.str x) (eqV (V.str x) (V.str x)) := .flat rfl rfl
  rw [this] at h
  exact h
theorem EqD.more {K : PySem.W.Frag} {H : Hp} {n m : Nat} {x y : V} {b : Bool} (h : EqD K H n x y b) : n ≤ m → EqD K H m x y b := by
  induction h generalizing m with
  | flat hx hy => intro _; exact .flat hx hy
  | tups e ha hb he ih =>
    intro hm
    obtain ⟨m, rfl⟩ : ∃ k, m = k + 1 := ⟨m - 1, by omega⟩
    exact .tups e ha hb fun j x y hx hy => ih j x y hx hy (by omega)
  | lsts e ha hb hl he ih =>
    intro hm
    obtain ⟨m, rfl⟩ : ∃ k, m = k + 1 := ⟨m - 1, by omega⟩
    exact .lsts e ha hb hl fun j x y hx hy => ih j x y hx hy (by omega)
  | lstsN ha hb hl => intro hm; obtain ⟨m, rfl⟩ : ∃ k, m = k + 1 := ⟨m - 1, by omega⟩; exact .lstsN ha hb hl
  | strTup ha => intro hm; obtain ⟨m, rfl⟩ : ∃ k, m = k + 1 := ⟨m - 1, by omega⟩; exact .strTup ha
  | tupStr ha => intro hm; obtain ⟨m, rfl⟩ : ∃ k, m = k + 1 := ⟨m - 1, by omega⟩; exact .tupStr ha
  | nonTup ha => intro hm; obtain ⟨m, rfl⟩ : ∃ k, m = k + 1 := ⟨m - 1, by omega⟩; exact .nonTup ha
  | tupNon ha => intro hm; obtain ⟨m, rfl⟩ : ∃ k, m = k + 1 := ⟨m - 1, by omega⟩; exact .tupNon ha
def Stm.txt : Stm → Str
  | .is w ts => if ts.length = 0 then w else w ++ "(" ++ Txt.join ", " ts ++ ")"
  | .fls => "false"
  | .neg A => "not " ++ A.txt
  | .bi o A B => "(" ++ A.txt ++ " " ++ o.txt ++ " " ++ B.txt ++ ")"
  | .qu q X A => qtx q ++ " " ++ X ++ " " ++ A.txt
theorem l1 : ("(" : Str).length = 1 := by decide +kernel
theorem l2 : (")" : Str).length = 1 := by decide +kernel
theorem l3 : (" " : Str).length = 1 := by decide +kernel
theorem l4 : (", " : Str).length = 2 := by decide +kernel
theorem l5 : ("not " : Str).length = 4 := by decide +kernel
theorem l6 : ("false" : Str).length = 5 := by decide +kernel
def Stm.put (x n : Str) : Stm → Stm
  | .is w ts => .is w (ts.map fun t => if t = x then n else t)
  | .fls => .fls
  | .neg A => .neg (A.put x n)
  | .bi o A B => .bi o (A.put x n) (B.put x n)
  | .qu q X A => if X = x then .qu q X A else .qu q X (A.put x n)
end L2
set_option Elab.async false
set_option linter.all false
set_option maxRecDepth 100000
set_option maxHeartbeats 4000000
namespace L2
open PySem PySem.Spec PyProof.Rows
section
variable {t : SetTable} {es : Array (Int × Value)} {h : Int} {x : Value} {n : Nat}
theorem orStandIn_led : (t.orStandIn n).led = t.led := by unfold SetTable.orStandIn; split <;> rfl
theorem orStandIn_plain (p : t.plain = false) : (t.orStandIn n).plain = false := by unfold SetTable.orStandIn; split; exact p; rfl
theorem layNew_led : (layNew t es h x).2.1.led = t.led := by
  unfold layNew
  split
  · exact orStandIn_led
  · rfl
theorem layNew_plain (p : t.plain = false) : (layNew t es h x).2.1.plain = false := by
  unfold layNew
  split
  · exact orStandIn_plain p
  · rfl
theorem relaid_keeps {hs : Array Int} {wanted : Nat} {t' : SetTable} {order : Array Nat} (e : t.relaid hs wanted = some (t', order)) : t'.led = t.led ∧ t'.plain = t.plain := by
  unfold SetTable.relaid SetTable.laid at e
  cases q : SetTable.layClean (SetTable.sizeAbove wanted - 1) hs with
  | none => rw [q] at e; cases e
  | some owner => rw [q] at e; cases e; exact ⟨rfl, rfl⟩
theorem relayAll_led {wanted : Nat} : (relayAll t es wanted).2.1.led = t.led := by
  unfold relayAll
  split
  · rename_i t' order e
    dsimp only
    split
    · exact (relaid_keeps e).1
    · rfl
  · rfl
theorem relayAll_plain {wanted : Nat} (p : t.plain = false) : (relayAll t es wanted).2.1.plain = false := by
  unfold relayAll
  split
  · rename_i t' order e
    dsimp only
    split
    · exact (relaid_keeps e).2.trans p
    · rfl
  · rfl
end
def svT : Value → Str
  | .str x _ => x
  | _ => ""
def setTexts (es : Array (Int × Value)) : List Str := es.toList.map fun e => svT e.2
def byText (w : World) : Bool := w.params.followText "set-order"
def SetS (prog : Program) (w : World) (h : Heap) (a : Addr) (us : List Str) : Prop :=
  ∃ o es ep tb, h.get? a = some o ∧ o.ExactSet ∧ o.data = .set es ep tb ∧ ElemsOf (PySem.strKind prog w) es.toList ∧ setTexts es = us ∧ us.Nodup ∧ es.size < scanBound ∧ tb.fits es.size = true ∧ tb.led = !byText w ∧ (us ≠ [] → tb.plain = false)
theorem is_str {prog : Program} {w : World} {x : Str} {v : Value} (e : (PySem.strKind prog w).is x v = true) : svT v = x := by
  obtain ⟨t, rfl⟩ := Value.isStrOf_shape e
  rfl
theorem str_is {prog : Program} {w : World} (x : Str) (t : Tok) : (PySem.strKind prog w).is x (.str x t) = true := keyIs_str x t
theorem SetS.at {prog : Program} {w : World} {h h' : Heap} {a : Addr} {us : List Str} (s : SetS prog w h a us) (k : ∀ o, h.get? a = some o → h'.get? a = some o) : SetS prog w h' a us := by
  obtain ⟨o, es, ep, tb, ho, r⟩ := s
  exact ⟨o, es, ep, tb, k o ho, r⟩
theorem found_iff_mem {prog : Program} {w : World} {x : Str} : ∀ {l : List (Int × Value)}, ElemsOf (PySem.strKind prog w) l → ((∃ e ∈ l, (PySem.strKind prog w).is x e.2 = true) ↔ x ∈ l.map fun e => svT e.2) := by
  intro l hl
  constructor
  · rintro ⟨e, he, q⟩
    rw [List.mem_map]
    exact ⟨e, he, is_str q⟩
  · intro hx
    obtain ⟨e, he, q⟩ := List.mem_map.mp hx
    obtain ⟨⟨k, hk, _⟩, _⟩ := hl e he
    have := is_str hk
    rw [q] at this
    subst this
    exact ⟨e, he, hk⟩
section
variable {prog : Program} {w : World} {A : Around} {E : Value → Shared → Prop} {s : Shared}
theorem SetS.stored {hp : Heap} {a : Addr} {o : Obj} {es es1 : Array (Int × Value)} {ep : Nat} {t t1 : SetTable} (ho : hp.get? a = some o) (hx : o.ExactSet) (hd : o.data = .set es ep t)
    (hel : ElemsOf (PySem.strKind prog w) es1.toList) (nd : (setTexts es1).Nodup) (hb : es1.size < scanBound) (hf : t1.fits es1.size = true) (hl : t1.led = !byText w) (hp1 : t1.plain = false) :
    SetS prog w (hp.update a (Obj.putSet es1 t1)) a (setTexts es1) ∧ (hp.update a (Obj.putSet es1 t1)).get? a = some { o with data := .set es1 (ep + 1) t1 } := by
  have g := (SetOf_store (knd := PySem.strKind prog w) (S' := fun k => decide (∃ e ∈ es1.toList, (PySem.strKind prog w).is k e.2 = true)) ho hx hd hel (fun k => by rw [decide_eq_true_eq]) hb hf).1
  exact ⟨⟨_, es1, ep + 1, t1, g, hx, rfl, hel, rfl, nd, hb, hf, hl, fun _ => hp1⟩, g⟩
theorem texts_perm {es es1 : Array (Int × Value)} (p : List.Perm es1.toList es.toList) : List.Perm (setTexts es1) (setTexts es) := p.map _
theorem set_add_str {a : Addr} {us : List Str} {x : Str} {tk : Tok} {Q : Bool → Shared → Prop} (hS : SetS prog w s.heap a us) (hroom : us.length + 1 < scanBound)
    (yes : x ∈ us → Q false s) (no : x ∉ us → ∀ hp us', Heap.SameBut a s.heap hp → List.Perm us' (us ++ [x]) → SetS prog w hp a us' → Q true { s with heap := hp }) :
    wpAny (model prog w) A (setAddHashed a (.str x tk) ((PySem.strKind prog w).hash x)) Q E s := by
  obtain ⟨o, es, ep, tb, ho, hex, hd, hel, hus, nd, hb, hf, hl, hpl⟩ := hS
  have hkey : (PySem.strKind prog w).is x (.str x tk) = true := str_is x tk
  have hsc : (Value.str x tk).scannable = true := rfl
  have hlen : us.length = es.size := by rw [← hus]; simp [setTexts]
  unfold setAddHashed setAddHashedIn
  refine wpAny_holding (wpAny_bind (wpAny_setState_of ho hd hf ?_))
  dsimp only
  rw [byScan_of hsc hb hel, if_pos rfl]
  unfold setAddByScan
  refine wpAny_bind (wpAny_bind (wpAny_rule (wpAny_bind (wpAny_setScan_of hkey ho hd hf hel ?_))))
  cases hr : List.findIdx? (fun e => (PySem.strKind prog w).is x e.2) es.toList with
  | some j =>
    dsimp only
    obtain ⟨hj, q, _⟩ := List.findIdx?_eq_some_iff_getElem.mp hr
    have hm : x ∈ us := by rw [← hus]; exact (found_iff_mem hel).mp ⟨_, List.getElem_mem hj, q⟩
    exact wpAny_pure (wpAny_pure (yes hm))
  | none =>
    dsimp only
    have hm : x ∉ us := fun hm => by
      rw [← hus] at hm
      obtain ⟨e, he, q⟩ := (found_iff_mem hel).mpr hm
      have z := List.findIdx?_eq_none_iff.mp hr e he
      rw [q] at z
      cases z
    have gw : ∀ (b : Bool) {s₁ : Shared} {Q' : Unit → Shared → Prop}, Q' () s₁ → wpAny (model prog w) A (match b with | true => rule "set.scan.the-table-gave-way" | false => pure ()) Q' E s₁ := fun b s₁ Q' hq => by
      cases b
      · exact wpAny_pure hq
      · exact wpAny_rule hq
    have p1 := layNew_perm tb es ((PySem.strKind prog w).hash x) (.str x tk)
    have f1 := layNew_fits tb es ((PySem.strKind prog w).hash x) (.str x tk)
    have l1' := layNew_led (t := tb) (es := es) (h := (PySem.strKind prog w).hash x) (x := .str x tk)
    have g1 := layNew_plain (t := tb) (es := es) (h := (PySem.strKind prog w).hash x) (x := .str x tk)
    generalize layNew tb es ((PySem.strKind prog w).hash x) (.str x tk) = L at p1 f1 l1' g1 ⊢
    obtain ⟨es1, t1, wd, gave⟩ := L
    dsimp only at p1 f1 l1' g1 ⊢
    rw [Array.toList_push] at p1
    have el1 : ElemsOf (PySem.strKind prog w) es1.toList := (hel.push hkey hsc).perm p1
    have pu : List.Perm (setTexts es1) (us ++ [x]) := by
      have := p1.map fun e => svT e.2
      rw [List.map_append, List.map_singleton] at this
      rw [← hus]
      exact this
    have nd1 : (setTexts es1).Nodup := pu.nodup_iff.mpr (List.nodup_append.mpr ⟨nd, by simp, fun y hy z hz => by
      rw [List.mem_singleton] at hz
      subst hz
      exact fun e => hm (e ▸ hy)⟩)
    have sz1 : es1.size = es.size + 1 := by rw [← Array.length_toList, p1.length_eq, List.length_append, Array.length_toList]; rfl
    have b1 : es1.size < scanBound := by omega
    refine wpAny_bind (gw _ ?_)
    have go : ∀ t2 : SetTable, t2.fits es1.size = true → t2.led = !byText w → t2.plain = false → wpAny (model prog w) A (do
        storeSet a es1 t2
        if (!wd && t2.tooFull) = true then do
            (match (relayAll t2 es1 (SetTable.grown es1.size)).2.2 with | true => rule "set.scan.the-table-gave-way" | false => pure ())
            storeSet a (relayAll t2 es1 (SetTable.grown es1.size)).1 (relayAll t2 es1 (SetTable.grown es1.size)).2.1
            pure (some true)
          else pure (some true)) (fun r s' => r = some true ∧ Q true s') E s := fun t2 f2 l2' g2 => by
      refine wpAny_bind (wpAny_storeSet_of ho hd ?_ (fits_of_scanBound b1))
      obtain ⟨S1, o1⟩ := SetS.stored (prog := prog) (w := w) ho hex hd el1 nd1 b1 f2 l2' g2
      have sb1 := Heap.SameBut.update s.heap a (Obj.putSet es1 t2)
      split
      · have p3 := relayAll_perm t2 es1 (SetTable.grown es1.size)
        have f3 := relayAll_fits t2 es1 (SetTable.grown es1.size)
        have l3 := relayAll_led (t := t2) (es := es1) (wanted := SetTable.grown es1.size)
        have g3 := relayAll_plain (t := t2) (es := es1) (wanted := SetTable.grown es1.size) g2
        generalize relayAll t2 es1 (SetTable.grown es1.size) = R3 at p3 f3 l3 g3 ⊢
        obtain ⟨es2, t3, gave2⟩ := R3
        dsimp only at p3 f3 l3 g3 ⊢
        have sz2 : es2.size = es1.size := by rw [← Array.length_toList, p3.length_eq, Array.length_toList]
        have p4 := texts_perm p3
        refine wpAny_bind (gw _ (wpAny_bind (wpAny_storeSet_of o1 rfl ?_ (fits_of_scanBound (by omega)))))
        obtain ⟨S2, _⟩ := SetS.stored (prog := prog) (w := w) o1 hex rfl (el1.perm p3) (p4.nodup_iff.mpr nd1) (by omega) f3 (l3.trans l2') g3
        exact wpAny_pure ⟨rfl, no hm _ _ (sb1.trans (Heap.SameBut.update _ a _)) (p4.trans pu) S2⟩
      · exact wpAny_pure ⟨rfl, no hm _ _ sb1 pu S1⟩
    split
    · refine wpAny_bind ?_
      rw [hashByValue_scannable 8 hsc]
      refine wpAny_pure (wpAny_mono (go _ (SetTable.fits_plain_off f1) (l1'.trans hl) rfl) (fun r s' h => ?_) fun _ _ h => h)
      obtain ⟨rfl, h⟩ := h
      exact wpAny_pure h
    · rename_i hq
      refine wpAny_bind (wpAny_pure ?_)
      rw [if_pos rfl]
      refine wpAny_mono (go _ f1 (l1'.trans hl) (by simpa using hq)) (fun r s' h => ?_) fun _ _ h => h
      obtain ⟨rfl, h⟩ := h
      exact wpAny_pure h
end
section
variable {prog : Program} {w : World} {A : Around} {E : Value → Shared → Prop} {s : Shared}
abbrev freshSet (w : World) : Obj := { cls := .type "set", dict := none, data := .set #[] 0 (.fresh 0 0 (!byText w)) }
theorem freshSet_is {hp : Heap} {a : Addr} (e : hp.get? a = some (freshSet w)) : SetS prog w hp a [] :=
  ⟨_, #[], 0, _, e, ⟨rfl, rfl, rfl⟩, rfl, fun x hx => by simp at hx, rfl, List.nodup_nil, by decide, by rfl, rfl, fun z => absurd rfl z⟩
theorem set_new_led (x : Value) {Q : Value → Shared → Prop} (h : Q (.ref s.heap.objs.size) { s with heap := s.heap.push (freshSet w) }) :
    codeAny (model prog w) A (.call (.builtin "set.__new__") ⟨[.type "set", x], []⟩) (wants Q E) s := by
  apply codeAny_of_tree
  show wpAny _ A.in1 (checkBuiltinCall "set.__new__" ⟨[.type "set", x], []⟩ >>= fun _ => again (.builtin "set.__new__" ⟨[.type "set", x], []⟩)) _ _ s
  apply wpAny_bind
  apply wpAny_of_eq (PySem.F.newCall_set_1 x)
  refine wpAny_pure ⟨plainId_quiet PySem.F.plain_set_new _, codeAny_builtin PySem.F.entry_set_new ?_⟩
  rw [show A.under (.builtin "set.__new__" ⟨[.type "set", x], []⟩) = A.in1 from Around.under_plainId PySem.F.plain_set_new _]
  unfold Builtin.«set.__new__»; unfold Builtin.Frozenset.newClass
  have sub := PySem.F.called_set.sub
  obtain ⟨hp, g, d, tk, os⟩ := s
  dsimp only; wp_walk
  apply wpAny_askSetting; apply wpAny_pure
  dsimp only; simp only [newObj]
  exact wpAny_bind (wpAny_alloc (wpAny_pure (wpAny_pure h)))
end
section
variable {prog : Program} {w : World} {A : Around} {R : Result → Shared → Prop} {I : Addr} {fp wr : List Addr} {G : Array GenState → Array GenState → Prop} {n : Nat} {P : Nat → Value → Prop} {St : Nat → Shared → Prop}
theorem set_loop (W : WalksS prog w A.in1 I fp wr G n P St) {S : Addr} (hSf : S ∉ fp) (val : Nat → Str) (hval : ∀ i v, P i v → ∃ t, v = .str (val i) t) (hb : n + 1 < scanBound) :
    ∀ (k i : Nat) (s : Shared) (us : List Str), n - i = k → i ≤ n → St i s → SetS prog w s.heap S us → us.length ≤ i → (∀ x, x ∈ us ↔ ∃ j, j < i ∧ val j = x) →
      (∀ s' us', Moved (S :: wr) G s s' → SetS prog w s'.heap S us' → us'.length ≤ n → (∀ x, x ∈ us' ↔ ∃ j, j < n ∧ val j = x) → R (.ok (.ret .none)) s') →
      codeAny (model prog w) A (.builtin "set.update.loop" ⟨[.ref S, .ref I], []⟩) R s := by
  have hSw : S ∉ wr := fun q => hSf (W.sub _ q)
  have sub : ∀ b ∈ wr, b ∈ S :: wr := fun b q => List.mem_cons_of_mem _ q
  intro k
  induction k with
  | zero =>
    intro i s us hk hi st hS hlen hmem hR
    obtain rfl : i = n := by omega
    apply codeAny_builtin PyProof.Rows.F.entry_set_update_loop
    rw [Around.under_plainId PyProof.Rows.F.plain_set_update_loop _]
    show wpAny _ A.in1 (pyNext (.ref I) >>= _) _ _ s
    apply wpAny_bind
    refine W.done s _ _ st fun s' hm => ?_
    show wpAny _ A.in1 (ret Value.none) _ _ s'
    exact wpAny_pure (hR s' us (hm.mono sub) (hS.at fun o ho => hm.heap S o hSw ho) hlen hmem)
  | succ k ih =>
    intro i s us hk hi st hS hlen hmem hR
    have hlt : i < n := by omega
    apply codeAny_builtin PyProof.Rows.F.entry_set_update_loop
    rw [Around.under_plainId PyProof.Rows.F.plain_set_update_loop _]
    show wpAny _ A.in1 (pyNext (.ref I) >>= _) _ _ s
    apply wpAny_bind
    refine W.item i s _ _ hlt st fun v s' hP st' hm => ?_
    obtain ⟨t, rfl⟩ := hval i v hP
    have hS' : SetS prog w s'.heap S us := hS.at fun o ho => hm.heap S o hSw ho
    show wpAny _ A.in1 (holding [Value.str (val i) t] (setAdd S (.str (val i) t)) >>= _) _ _ s'
    apply wpAny_bind; apply wpAny_holding
    unfold setAdd
    apply wpAny_holding; apply wpAny_bind
    refine (PySem.strKind prog w).pyHash (k := val i) (str_is _ _) ?_
    have step : ∀ (hp : Heap) (us' : List Str), Heap.SameBut S s'.heap hp → SetS prog w hp S us' → us'.length ≤ i + 1 → (∀ x, x ∈ us' ↔ ∃ j, j < i + 1 ∧ val j = x) →
        wpAny (model prog w) A.in1 (again (.builtin "set.update.loop" ⟨[.ref S, .ref I], []⟩)) (fun fin s₂ => match fin with | .done f => R (.ok f) s₂ | .again c => c.quiet = true ∧ codeAny (model prog w) A c R s₂) (fun e s₂ => R (.error e) s₂) { s' with heap := hp, toks := s'.toks + 1 } := fun hp us' sb S2 l2 m2 => by
      refine wpAny_pure ⟨plainId_quiet PyProof.Rows.F.plain_set_update_loop _, ih (i + 1) _ us' (by omega) hlt (W.frame _ s' _ _ st' (Nat.le_succ _) fun b q o e => ?_) S2 l2 m2 fun s'' us2 hm2 S3 l3 m3 => ?_⟩
      · exact (sb.2 b fun z : b = S => hSf (z ▸ q)).trans e
      · exact hR s'' us2 (Moved.trans W.gtrans ((hm.mono sub).then_heap (Nat.le_succ _) fun b o q e => (sb.2 b fun z : b = S => q (z ▸ List.mem_cons_self)).trans e) hm2) S3 l3 m3
    refine set_add_str (s := { s' with toks := s'.toks + 1 }) hS' (by omega) (fun hx => ?_) fun hx hp us' sb pu S2 => ?_
    · exact step s'.heap us (Heap.SameBut.refl S s'.heap) hS' (by omega) fun x => by
        rw [hmem]
        constructor
        · rintro ⟨j, hj, e⟩; exact ⟨j, by omega, e⟩
        · rintro ⟨j, hj, e⟩
          by_cases q : j = i
          · subst q; exact (hmem x).mp (e ▸ hx)
          · exact ⟨j, by omega, e⟩
    · refine step hp us' sb S2 (by rw [pu.length_eq, List.length_append]; simp; omega) fun x => ?_
      rw [pu.mem_iff, List.mem_append, hmem, List.mem_singleton]
      constructor
      · rintro (⟨j, hj, e⟩ | rfl)
        · exact ⟨j, by omega, e⟩
        · exact ⟨i, by omega, rfl⟩
      · rintro ⟨j, hj, e⟩
        by_cases q : j = i
        · subst q; exact .inr e.symm
        · exact .inl ⟨j, by omega, e⟩
end
section
variable {prog : Program} {w : World} {A : Around} {E : Value → Shared → Prop} {s : Shared}
theorem strs_at : ∀ {vs : List Value} {ts : List Str}, StrsAre vs ts → ∀ (i : Nat) (v : Value), vs[i]? = some v → ∃ t, v = .str (ts.getD i "") t
  | _, _, .nil, i, v, h => by simp at h
  | _, _, .cons x t r, 0, v, h => by simp at h; exact ⟨t, h ▸ rfl⟩
  | _, _, .cons x t r, i + 1, v, h => by
    obtain ⟨t', e⟩ := strs_at r i v (by simpa using h)
    exact ⟨t', by rw [e]; rfl⟩
def SetMade (prog : Program) (w : World) (s : Shared) (ts : List Str) (s' : Shared) : Prop :=
  ∃ hp tk us, s' = { s with heap := hp, toks := tk } ∧ SetS prog w hp s.heap.objs.size us ∧ us.length ≤ ts.length ∧ (∀ x, x ∈ us ↔ x ∈ ts) ∧ ∀ b o, b < s.heap.objs.size → s.heap.get? b = some o → hp.get? b = some o
theorem mem_getD {ts : List Str} {x : Str} : (∃ j, j < ts.length ∧ ts.getD j "" = x) ↔ x ∈ ts := by
  constructor
  · rintro ⟨j, hj, e⟩
    rw [← e, List.getD_eq_getElem?_getD, List.getElem?_eq_getElem hj]
    exact List.getElem_mem hj
  · intro hx
    obtain ⟨j, hj, e⟩ := List.mem_iff_getElem.mp hx
    exact ⟨j, hj, by rw [List.getD_eq_getElem?_getD, List.getElem?_eq_getElem hj]; exact e⟩
set_option maxHeartbeats 8000000 in
theorem call_set_strs {l : Addr} {items : Array Value} {ts : List Str} {Q : Value → Shared → Prop} (hh : A.handled = none) (hl : s.heap.IsList l items) (hi : StrsAre items.toList ts) (hb : items.size + 1 < scanBound)
    (h : ∀ s', SetMade prog w s ts s' → Q (.ref s.heap.objs.size) s') : wpAny (model prog w) A (call (.type "set") [.ref l]) Q E s := by
  have hlen : ts.length = items.size := by have := hi.length; simpa using this.symm
  obtain ⟨c, tl, hmro⟩ := PySem.F.called_set.mro
  have made := PySem.F.called_set.made
  have sub := PySem.F.called_set.sub
  apply wpAny_call; apply codeAny_of_tree
  show wpAny _ _ (callAny (.type "set") _) _ _ _
  apply wpAny_pure; refine ⟨Code.quiet_builtin _ (by decide +kernel), codeAny_builtin PySem.F.entry_type_call ?_⟩
  rw [show A.under (.builtin "type.__call__" ⟨.type "set" :: [.ref l], []⟩) = A.in1 from Around.under_plain (weight_type_call_type "set" [.ref l] []) rfl]
  have q1 := PySem.F.called_set.notType
  have q2 := PySem.F.called_set.canCreate
  have q3 := PySem.F.typeCall_set_1 (.ref l)
  repeat (any_goals (first | assumption | wp_step))
  refine codeAny_mono (set_new_led (.ref l) (E := E) (Q := fun obj s₁ => obj = .ref s.heap.objs.size ∧ s₁ = { s with heap := s.heap.push (freshSet w) }) ⟨rfl, rfl⟩) fun r s₁ hr => ?_
  cases r with
  | error e => exact hr
  | ok fl =>
    cases fl with
    | ret obj =>
      obtain ⟨rfl, rfl⟩ := hr
      have hS : (s.heap.push (freshSet w)).get? s.heap.objs.size = some (freshSet w) := Heap.get?_push_size _ rfl
      have hT : Shared.TypeIs { s with heap := s.heap.push (freshSet w) } (.ref s.heap.objs.size) "set" := ⟨_, hS, rfl⟩
      have li := PySem.F.called_set.init.lookup
      have bi := PySem.F.called_set.init.bind (.ref s.heap.objs.size)
      repeat (any_goals (first | assumption | wp_step))
      refine codeAny_mono (codeAny_call_builtin (R := wants (fun r s₂ => r = .none ∧ SetMade prog w s ts s₂) E) PySem.F.called_set.init.plain PySem.F.entry_set_init (check_set_init_1 hT ?_)) fun r₂ s₂ hr₂ => ?_
      · obtain ⟨⟨oc, od, odt, osl⟩, hol, hcl, nl, hdl⟩ := hl
        simp only at hcl hdl
        subst hcl; subst hdl
        have hol' : (s.heap.push (freshSet w)).get? l = some { cls := .type "list", dict := od, data := .seq items nl, slots := osl } := Heap.get?_push_of_some _ hol
        have z1 := PySem.F.sub_list_set
        have z2 := PySem.F.sub_list_frozenset
        have z3 : (Value.type "list" == Value.type "dict") = false := by decide
        have isl : (s.heap.push (freshSet w)).IsList l items := ⟨_, hol', rfl, nl, rfl⟩
        unfold Builtin.«set.__init__» noKeywords Builtin.Frozenset.updateFrom
        generalize hPI : pyIter = PI
        wp_walk
        subst hPI
        refine wpAny_pyIter_list isl (wpAny_bind (wpAny_runValue ?_))
        have hlS : l < s.heap.objs.size := Heap.lt_size hol
        have a3 : A.in1.in1.in1.handled = none := by simp [hh]
        have sz : (s.heap.push (freshSet w)).objs.size = s.heap.objs.size + 1 := Heap.size_push ..
        have nI : l ≠ (s.heap.push (freshSet w)).objs.size := Nat.ne_of_lt (by rw [sz]; exact Nat.lt_succ_of_lt hlS)
        have nf : s.heap.objs.size ∉ [(s.heap.push (freshSet w)).objs.size, l] := by
          simp only [List.mem_cons, List.not_mem_nil, or_false, not_or]
          exact ⟨Nat.ne_of_lt (by rw [sz]; exact Nat.lt_succ_self _), Nat.ne_of_gt hlS⟩
        have hv : ∀ (i : Nat) (v : Value), items[i]? = some v → ∃ t, v = .str ((fun i => ts.getD i "") i) t := fun i v e => strs_at hi i v (by rw [Array.getElem?_toList]; exact e)
        refine set_loop ((Walks.list a3 _ l nI items).toS) nf (fun i => ts.getD i "") hv hb (items.size - 0) 0 _ [] (by omega) (Nat.zero_le _)
          ⟨⟨_, Heap.get?_push_size _ rfl, rfl, rfl⟩, isl.push _⟩ (freshSet_is (Heap.get?_push_of_some _ hS)) (Nat.zero_le _) (fun x => by simp) fun s' us' hm S' l' m' => ?_
        obtain ⟨hp, g', d', tk', os'⟩ := s'
        obtain rfl : g' = s.gens := hm.gens
        obtain rfl : d' = s.drawn := hm.drawn
        obtain rfl : os' = s.os := hm.os
        show wpAny _ _ _ _ _ _
        apply wpAny_pure
        show wpAny _ _ (ret Value.none) _ _ _
        refine wpAny_pure ⟨rfl, hp, tk', us', rfl, S', by omega, fun x => (m' x).trans ?_, fun b o hb' e => ?_⟩
        · rw [← hlen]; exact mem_getD
        · refine hm.heap b o ?_ (Heap.get?_push_of_some _ (Heap.get?_push_of_some _ e))
          simp only [List.mem_cons, List.not_mem_nil, or_false, not_or]
          exact ⟨Nat.ne_of_lt hb', Nat.ne_of_lt (by rw [sz]; exact Nat.lt_succ_of_lt hb')⟩
      · cases r₂ with
        | error e => exact hr₂
        | ok fl₂ =>
          cases fl₂ with
          | ret r =>
            obtain ⟨rfl, hm⟩ := hr₂
            obtain ⟨hp, tk, us, rfl, S', r1, r2, r3⟩ := id hm
            repeat (any_goals (first | assumption | wp_step))
            exact h _ hm
          | _ => exact hr₂.elim
    | _ => exact hr.elim
end
end L2
set_option Elab.async false
set_option linter.all false
set_option maxRecDepth 100000
set_option maxHeartbeats 4000000
namespace L2
open PySem PySem.Spec PyProof.Rows
theorem entry_set_iter : entryFor table "set.__iter__" = some Builtin.«frozenset.__iter__» := entryFor_alias (id' := "frozenset.__iter__") (by kernel_rfl) rfl (by decide +kernel) (by kernel_rfl)
theorem entry_si_next : entryFor table "set_iterator.__next__" = some Builtin.«set_iterator.__next__» := by first | exact entryFor_of_tree (by kernel_rfl) | exact entryFor_of_fast (by kernel_rfl)
theorem slot_si_next : Slot "set_iterator" "__next__" "set_iterator.__next__" :=
  .of (owner := "set_iterator") (n := "__next__") (by rw [typeLookup_type, builtinLookup_eq_fast]; kernel_rfl) (by decide +kernel) (by decide +kernel) (by decide +kernel) (by first | exact .inl (by decide +kernel) | exact .inr (by decide +kernel)) (by rw [isSubtype_type]; kernel_rfl)
theorem args_si_next (a : Value) : argsOk "set_iterator.__next__" ⟨[a], []⟩ := by unfold argsOk; kernel_rfl
theorem entry_si_iter : entryFor table "set_iterator.__iter__" = some Builtin.«dict_keyiterator.__iter__» := entryFor_alias (id' := "dict_keyiterator.__iter__") (by kernel_rfl) rfl (by decide +kernel) (by kernel_rfl)
theorem slot_si_iter : Slot "set_iterator" "__iter__" "set_iterator.__iter__" :=
  .of (owner := "set_iterator") (n := "__iter__") (by rw [typeLookup_type, builtinLookup_eq_fast]; kernel_rfl) (by decide +kernel) (by decide +kernel) (by decide +kernel) (by first | exact .inl (by decide +kernel) | exact .inr (by decide +kernel)) (by rw [isSubtype_type]; kernel_rfl)
theorem args_si_iter (a : Value) : argsOk "set_iterator.__iter__" ⟨[a], []⟩ := by unfold argsOk; kernel_rfl
theorem set_len_lookup : typeLookup (.type "set") "__len__" = pure (some (.builtin "set.__len__")) := by rw [typeLookup_type, builtinLookup_eq_fast]; kernel_rfl
end L2
set_option Elab.async false
set_option linter.all false
set_option maxRecDepth 100000
set_option maxHeartbeats 4000000
namespace L2
open PySem PySem.Spec PyProof.Rows
abbrev siObj (first : Value) (i : Nat) (S : Addr) (n ep : Nat) : Obj := { cls := .type "set_iterator", data := .fields #[first, rawInt i, .ref S, rawInt n, rawInt ep] }
section
variable {prog : Program} {w : World} {A : Around} {E : Value → Shared → Prop} {s : Shared}
theorem fields_of {M : Model} {a : Addr} {o : Obj} {vs : Array Value} {Q : Array Value → Shared → Prop} (ho : s.heap.get? a = some o) (hd : o.data = .fields vs) (h : Q vs s) : wpAny M A (fieldsOf (.ref a)) Q E s := by
  unfold fieldsOf
  apply wpAny_bind; apply wpAny_load ho
  rw [hd]; exact wpAny_pure h
theorem stop_thrown {α : Type} {Q : α → Shared → Prop} {E' : Value → Shared → Prop} (hh : A.handled = none)
    (h : ∀ hp, (∀ b o, s.heap.get? b = some o → hp.get? b = some o) → ∀ a ob, hp.get? a = some ob → ob.cls = .type "StopIteration" → E' (.ref a) { s with heap := hp }) :
    wpAny (model prog w) A (newExc (Value.type "StopIteration") [] >>= fun e => (raiseNew e : Sem α)) Q E' s := by
  apply wpAny_bind
  simp only [newExc, newTuple]
  apply wpAny_bind
  refine wpAny_newObj_type ?_ (by size_fits)
  apply wpAny_bind (m := firstArgMember _ _)
  refine wpAny_of_eq (a := Value.none) (by first | rfl | (simp only [firstArgMember]; rfl)) ?_
  refine wpAny_newObj_type ?_ (by size_fits)
  simp only [raiseNew]
  apply wpAny_bind
  refine wpAny_handled ?_
  rw [hh]
  refine wpAny_bind (wpAny_pure (wpAny_throw (h _ (fun b o e => Heap.get?_push_of_some _ (Heap.get?_push_of_some _ e)) _ _ (Heap.get?_push_size _ rfl) rfl)))
theorem si_put {hp : Heap} {I S : Addr} {first : Value} {i n ep : Nat} (hI : hp.get? I = some (siObj first i S n ep)) (k : Nat) (v : Value) (vs : Array Value)
    (e : (#[first, rawInt i, Value.ref S, rawInt n, rawInt ep] : Array Value).setIfInBounds k v = vs) :
    (hp.update I (Obj.mapFields (·.setIfInBounds k v))).get? I = some { cls := .type "set_iterator", data := .fields vs } := by
  subst e
  exact Heap.get?_update_self _ hI (Obj.isFreed_of_fields (Obj.data_mapFields rfl _))
variable {I S T : Addr} {first : Value} {i n ep slot : Nat} {o : Obj} {es : Array (Int × Value)} {tb : SetTable} {Q : Option Value → Shared → Prop}
theorem si_next (hI : s.heap.get? I = some (siObj first i S n ep)) (ho : s.heap.get? S = some o) (hd : o.data = .set es ep tb) (hf : tb.fits es.size = true) (hn : es.size = n)
    (h : wpAny (model prog w) A.in1 (match first with
        | Value.int slot tok => do
          match ← setNext S slot.toNat i ep with
            | some (x, next) => do
              setField (Value.ref I) 0 (rawInt (next : Nat))
              setField (Value.ref I) 1 (rawInt ((i : Int) + 1))
              ret x
            | none => do
              setField (Value.ref I) 2 Value.none
              raiseNew (← newExc (Value.type "StopIteration") [])
        | x => do
          match ← seqItems? first with
            | some places =>
              match places[i]? with
              | some (Value.int place tok) => do
                let x ← setNextDrawn S place.toNat ep
                setField (Value.ref I) 1 (rawInt ((i : Int) + 1))
                ret x
              | some val => unsupported "internal:set_iterator"
              | none => do
                setField (Value.ref I) 0 (rawInt 0)
                setField (Value.ref I) 2 Value.none
                raiseNew (← newExc (Value.type "StopIteration") [])
            | x => unsupported "internal:set_iterator")
      (fun fin s' => ∃ x, fin = .done (.ret x) ∧ Q (some x) s') (fun e s' => s'.TypeIs e "StopIteration" ∧ Q none s') s) : wpAny (model prog w) A (pyNext (.ref I)) Q E s := by
  have ty : s.TypeIs (.ref I) "set_iterator" := ⟨_, hI, rfl⟩
  unfold pyNext
  apply wpAny_bind; apply wpAny_attempt
  refine wpAny_callSpecial?_slot (name := Str.ofString "__next__") ty slot_si_next (wpAny_call_entry slot_si_next ty entry_si_next ?_ (args_si_next _))
  unfold Builtin.«set_iterator.__next__»
  apply wpAny_bind
  refine wpAny_pure ?_
  dsimp only
  refine wpAny_bind (fields_of hI rfl ?_)
  dsimp only [rawInt]
  refine wpAny_bind (wpAny_setEntries_of ho hd hf ?_)
  rw [hn, if_neg (by simp)]
  refine wpAny_mono h (fun fin s' hq => ?_) fun e s' hq => ?_
  · obtain ⟨x, rfl, hq⟩ := hq
    exact ⟨x, rfl, wpAny_pure hq⟩
  · obtain ⟨ty, hq⟩ := hq
    exact wpAny_bind (wpAny_isInstance (T := "StopIteration") (b := true) ty isSubtype_stop (wpAny_pure hq))
theorem si_item {slot nx : Nat} {x : Value} (hI : s.heap.get? I = some (siObj (rawInt slot) i S n ep)) (ho : s.heap.get? S = some o) (hd : o.data = .set es ep tb) (hf : tb.fits es.size = true) (hn : es.size = n)
    (hx : ∀ (E' : Value → Shared → Prop) (Q' : Option (Value × Nat) → Shared → Prop), Q' (some (x, nx)) s → wpAny (model prog w) A.in1 (setNext S slot i ep) Q' E' s)
    (h : ∀ hp, hp.get? I = some (siObj (rawInt nx) (i + 1) S n ep) → Heap.SameBut I s.heap hp → Q (some x) { s with heap := hp }) : wpAny (model prog w) A (pyNext (.ref I)) Q E s := by
  refine si_next hI ho hd hf hn ?_
  show wpAny _ _ (setNext S ((slot : Nat) : Int).toNat i ep >>= _) _ _ s
  rw [Int.toNat_natCast]
  apply wpAny_bind; apply hx
  dsimp only
  have h1 := si_put hI 0 (rawInt (nx : Nat)) #[rawInt nx, rawInt i, .ref S, rawInt n, rawInt ep] rfl
  refine wpAny_bind (wpAny_setField hI rfl (by simp) ?_)
  refine wpAny_bind (wpAny_setField h1 rfl (by simp) (wpAny_pure ⟨x, rfl, ?_⟩))
  exact h _ (si_put h1 1 (rawInt ((i : Int) + 1)) _ rfl) ((Heap.SameBut.update ..).trans (Heap.SameBut.update ..))
theorem si_end {slot : Nat} (hh : A.handled = none) (hI : s.heap.get? I = some (siObj (rawInt slot) i S n ep)) (ho : s.heap.get? S = some o) (hd : o.data = .set es ep tb) (hf : tb.fits es.size = true) (hn : es.size = n)
    (hx : ∀ (E' : Value → Shared → Prop) (Q' : Option (Value × Nat) → Shared → Prop), Q' none s → wpAny (model prog w) A.in1 (setNext S slot i ep) Q' E' s)
    (h : ∀ hp, (∀ b o, b ≠ I → s.heap.get? b = some o → hp.get? b = some o) → Q none { s with heap := hp }) : wpAny (model prog w) A (pyNext (.ref I)) Q E s := by
  refine si_next hI ho hd hf hn ?_
  show wpAny _ _ (setNext S ((slot : Nat) : Int).toNat i ep >>= _) _ _ s
  rw [Int.toNat_natCast]
  apply wpAny_bind; apply hx
  dsimp only
  refine wpAny_bind (wpAny_setField hI rfl (by simp) ?_)
  refine stop_thrown hh fun hp hk a ob ha hc => ⟨⟨ob, ha, hc⟩, h hp fun b o hb e => hk b o ?_⟩
  exact (Heap.get?_update_other _ _ (Ne.symm hb)).trans e
theorem sd_item {places : Array Value} {c p : Nat} {hsh : Int} {x : Value} (hI : s.heap.get? I = some (siObj (.ref T) i S n ep)) (hT : s.heap.get? T = some { cls := .type "tuple", data := .seq places c })
    (ho : s.heap.get? S = some o) (hd : o.data = .set es ep tb) (hf : tb.fits es.size = true) (hn : es.size = n) (hp : places[i]? = some (rawInt p)) (hx : es[p]? = some (hsh, x))
    (h : ∀ hp, hp.get? I = some (siObj (.ref T) (i + 1) S n ep) → Heap.SameBut I s.heap hp → Q (some x) { s with heap := hp }) : wpAny (model prog w) A (pyNext (.ref I)) Q E s := by
  refine si_next hI ho hd hf hn ?_
  show wpAny _ _ (seqItems? (.ref T) >>= _) _ _ s
  refine wpAny_bind (wpAny_seqItems hT rfl ?_)
  dsimp only
  rw [hp]
  dsimp only [rawInt]
  unfold setNextDrawn
  refine wpAny_bind (wpAny_bind (wpAny_setState_of ho hd hf ?_))
  dsimp only
  rw [if_neg (by simp), Int.toNat_natCast, hx]
  refine wpAny_pure (wpAny_bind (wpAny_setField hI rfl (by simp) (wpAny_pure ⟨x, rfl, ?_⟩)))
  exact h _ (si_put hI 1 (rawInt ((i : Int) + 1)) _ rfl) (Heap.SameBut.update ..)
theorem sd_end {places : Array Value} {c : Nat} (hh : A.handled = none) (hI : s.heap.get? I = some (siObj (.ref T) i S n ep)) (hT : s.heap.get? T = some { cls := .type "tuple", data := .seq places c })
    (ho : s.heap.get? S = some o) (hd : o.data = .set es ep tb) (hf : tb.fits es.size = true) (hn : es.size = n) (hp : places[i]? = none)
    (h : ∀ hp, (∀ b o, b ≠ I → s.heap.get? b = some o → hp.get? b = some o) → Q none { s with heap := hp }) : wpAny (model prog w) A (pyNext (.ref I)) Q E s := by
  refine si_next hI ho hd hf hn ?_
  show wpAny _ _ (seqItems? (.ref T) >>= _) _ _ s
  refine wpAny_bind (wpAny_seqItems hT rfl ?_)
  dsimp only
  rw [hp]
  dsimp only
  have h1 := si_put hI 0 (rawInt (0 : Nat)) #[rawInt (0 : Nat), rawInt i, .ref S, rawInt n, rawInt ep] rfl
  refine wpAny_bind (wpAny_setField hI rfl (by simp) (wpAny_bind (wpAny_setField h1 rfl (by simp) ?_)))
  refine stop_thrown hh fun hp hk a ob ha hc => ⟨⟨ob, ha, hc⟩, h hp fun b o hb e => hk b o ?_⟩
  exact (Heap.get?_update_other _ _ (Ne.symm hb)).trans ((Heap.get?_update_other _ _ (Ne.symm hb)).trans e)
end
end L2
set_option Elab.async false
set_option linter.all false
set_option maxRecDepth 100000
set_option maxHeartbeats 4000000
namespace L2
open PySem PySem.Spec PyProof.Rows
theorem erase_perm {α : Type} {x : α} : ∀ {l : List α} {i : Nat}, l[i]? = some x → List.Perm (x :: l.eraseIdx i) l
  | [], _, h => by simp at h
  | y :: r, 0, h => by simp at h; subst h; simp
  | y :: r, i + 1, h => by
    have ih := erase_perm (l := r) (i := i) (by simpa using h)
    rw [List.eraseIdx_cons_succ]
    exact (List.Perm.swap y x _).trans (ih.cons y)
theorem pick_go {α : Type} (f : Nat → Nat) : ∀ (fuel k : Nat) (left : List α) (out : Array α), left.length ≤ fuel → List.Perm (pickOrder.go f fuel k left out).toList (out.toList ++ left)
  | 0, k, left, out, h => by
    have : left = [] := List.eq_nil_of_length_eq_zero (by omega)
    subst this
    simp [pickOrder.go]
  | fuel + 1, k, left, out, h => by
    unfold pickOrder.go
    cases e : left[f k % left.length]? with
    | none =>
      have : left = [] := by
        cases left with
        | nil => rfl
        | cons y r =>
          have := List.getElem?_eq_none_iff.mp e
          have := Nat.mod_lt (f k) (show 0 < (y :: r).length by simp)
          omega
      subst this
      simp
    | some x =>
      dsimp only
      have hi := (List.getElem?_eq_some_iff.mp e).1
      have ih := pick_go f fuel (k + 1) (left.eraseIdx (f k % left.length)) (out.push x) (by rw [List.length_eraseIdx_of_lt hi]; omega)
      refine ih.trans ?_
      rw [Array.toList_push, List.append_assoc]
      refine List.Perm.append_left _ ?_
      exact erase_perm e
theorem pick_perm {α : Type} (f : Nat → Nat) (xs : Array α) : List.Perm (pickOrder f xs).toList xs.toList := by
  have := pick_go f xs.size 0 xs.toList #[] (by simp)
  simpa [pickOrder] using this
section
variable {prog : Program} {w : World} {A : Around} {E : Value → Shared → Prop} {s : Shared} {S : Addr} {i n ep slot : Nat} {o : Obj} {es : Array (Int × Value)} {tb : SetTable}
theorem draw_perm {α : Type} {Q : List α → Shared → Prop} : ∀ (k : Nat) (xs : List α) (s : Shared), xs.length = k → (∀ ys d, List.Perm ys xs → Q ys { s with drawn := d }) → wpAny (model prog w) A (drawOrder k xs) Q E s
  | 0, xs, s, h, q => by
    have : xs = [] := List.eq_nil_of_length_eq_zero h
    subst this
    exact wpAny_pure (q [] s.drawn .nil)
  | k + 1, xs, s, h, q => by
    cases xs with
    | nil => simp at h
    | cons y r =>
      unfold drawOrder
      apply wpAny_bind
      refine fun Γ p hΓ => ⟨by simp, ?_⟩
      have hlt : (model prog w).w.draws .order (s.drawn.get .order) % (y :: r).length < (y :: r).length := Nat.mod_lt _ (by simp)
      generalize (model prog w).w.draws .order (s.drawn.get .order) % (y :: r).length = j at hlt
      have e : (y :: r)[j]? = some (y :: r)[j] := by simp [hlt]
      generalize (y :: r)[j] = z at e
      refine (?_ : wpAny (model prog w) A _ _ _ _) Γ p hΓ
      refine wpAny_pure ?_
      rw [e]
      dsimp only
      apply wpAny_bind
      refine draw_perm k ((y :: r).eraseIdx j) _ (by rw [List.length_eraseIdx_of_lt hlt]; omega) fun ys d hp => wpAny_pure ?_
      exact q (z :: ys) d ((hp.cons z).trans (erase_perm e))
theorem next_text {Q : Option (Value × Nat) → Shared → Prop} (hb : byText w = true) (ho : s.heap.get? S = some o) (hd : o.data = .set es ep tb) (hf : tb.fits es.size = true)
    (h : Q (((pickOrder (w.params.setOrder S ep) es)[i]?).map fun e => (e.2, slot)) s) : wpAny (model prog w) A (setNext S slot i ep) Q E s := by
  unfold setNext
  refine wpAny_bind (wpAny_setState_of ho hd hf ?_)
  dsimp only
  unfold setsByText
  refine wpAny_bind (wpAny_bind (wpAny_askSetting (wpAny_pure ?_)))
  refine wpAny_ite_split (fun _ => ?_) fun z => absurd hb z
  rw [if_neg (by simp)]
  unfold setWalk
  refine wpAny_bind (wpAny_bind (wpAny_setState_of ho hd hf ?_))
  dsimp only
  unfold setsByText
  refine wpAny_bind (wpAny_bind (wpAny_askSetting (wpAny_pure ?_)))
  refine wpAny_ite_split (fun _ => ?_) fun z => absurd hb z
  refine wpAny_bind (wpAny_askSetting (wpAny_pure (wpAny_pure ?_)))
  exact h
theorem next_place {Q : Option (Value × Nat) → Shared → Prop} (hb : byText w = false) (ho : s.heap.get? S = some o) (hd : o.data = .set es ep tb) (hf : tb.fits es.size = true) (hs : es.size ≤ 1) (hl : tb.led = true)
    (h : Q (match es[SetTable.below tb.place slot]?, tb.place[SetTable.below tb.place slot]? with | some (_, x), some j => some (x, j + 1) | _, _ => none) s) : wpAny (model prog w) A (setNext S slot i ep) Q E s := by
  unfold setNext
  refine wpAny_bind (wpAny_setState_of ho hd hf ?_)
  dsimp only
  unfold setsByText
  refine wpAny_bind (wpAny_bind (wpAny_askSetting (wpAny_pure ?_)))
  refine wpAny_ite_split (fun z => absurd (z.symm.trans (show _ = false from hb)) (by decide)) fun _ => ?_
  have hz : (!tb.plain && decide (es.size > 1)) = false := by rw [decide_eq_false (by omega), Bool.and_false]
  show wpAny _ _ (if (!tb.plain && decide (es.size > 1)) = true then _ else _) _ _ s
  rw [hz, if_neg (by decide)]
  show wpAny _ _ ((if (!tb.led && !es.isEmpty) = true then unsupported "set:maker-not-led" else pure ()) >>= _) _ _ s
  rw [hl]
  refine wpAny_bind (wpAny_pure (wpAny_pure ?_))
  exact h
end
section
variable {prog : Program} {w : World} {A : Around} {E : Value → Shared → Prop} {s : Shared}
theorem si_self {I S : Addr} {first : Value} {i n ep : Nat} {Q : Value → Shared → Prop} (hI : s.heap.get? I = some (siObj first i S n ep)) (h : Q (.ref I) s) : wpAny (model prog w) A (pyIter (.ref I)) Q E s := by
  have ty : s.TypeIs (.ref I) "set_iterator" := ⟨_, hI, rfl⟩
  refine wpAny_pyIter_slot ty slot_si_iter (wpAny_call_entry slot_si_iter ty entry_si_iter ?_ (args_si_iter _))
  show wpAny _ _ (ret (.ref I)) _ _ s
  exact wpAny_pure ⟨_, rfl, "set_iterator", _, ty, slot_si_next.lookup, h⟩
theorem moved_1 {I : Addr} {hp : Heap} (h : ∀ b o, b ≠ I → s.heap.get? b = some o → hp.get? b = some o) : Moved [I] Eq s { s with heap := hp } :=
  ⟨fun b o hb e => h b o (fun z => hb (by simp [z])) e, rfl, rfl, rfl, Nat.le_refl _⟩
theorem walk_set {I : Addr} {fp : List Addr} {vs : List Value} {St : Nat → Heap → Prop} (hI : I ∈ fp) (frame : ∀ i h h', St i h → (∀ b ∈ fp, ∀ o, h.get? b = some o → h'.get? b = some o) → St i h')
    (item : ∀ i v (s : Shared) (Q : Option Value → Shared → Prop) (E : Value → Shared → Prop), vs[i]? = some v → St i s.heap → (∀ hp, St (i + 1) hp → (∀ b o, b ≠ I → s.heap.get? b = some o → hp.get? b = some o) → Q (some v) { s with heap := hp }) → wpAny (model prog w) A (pyNext (.ref I)) Q E s)
    (done : ∀ (s : Shared) (Q : Option Value → Shared → Prop) (E : Value → Shared → Prop), St vs.length s.heap → (∀ hp, (∀ b o, b ≠ I → s.heap.get? b = some o → hp.get? b = some o) → Q none { s with heap := hp }) → wpAny (model prog w) A (pyNext (.ref I)) Q E s)
    (self : ∀ i (s : Shared) (Q : Value → Shared → Prop) (E : Value → Shared → Prop), St i s.heap → Q (.ref I) s → wpAny (model prog w) A (pyIter (.ref I)) Q E s) :
    WalksS prog w A I fp [I] Eq vs.length (fun i v => vs[i]? = some v) (fun i s => St i s.heap) where
  sub := fun b hb => by rw [List.mem_singleton.mp hb]; exact hI
  grefl := fun _ => rfl
  gtrans := fun _ _ _ => Eq.trans
  frame := fun i s h' tk st _ k => frame i _ _ st k
  item := fun i s Q E hi st q => by
    refine item i vs[i] s Q E (by simp [hi]) st fun hp st' k => ?_
    exact q _ _ (by simp [hi]) st' (moved_1 k)
  done := fun s Q E st q => done s Q E st fun hp k => q _ (moved_1 k)
  self := self
end
end L2
set_option Elab.async false
set_option linter.all false
set_option maxRecDepth 100000
set_option maxHeartbeats 4000000
namespace L2
open PySem PySem.Spec PyProof.Rows
structure Ready (prog : Program) (w : World) (s : Shared) (S : Addr) (us : List Str) (I : Addr) (s' : Shared) (vs : List Value) (fp : List Addr) (St : Nat → Heap → Prop) : Prop where
  heap : ∀ b o, s.heap.get? b = some o → s'.heap.get? b = some o
  rest : ∃ d, s' = { s with heap := s'.heap, drawn := d }
  new : s.heap.objs.size ≤ I
  fps : ∀ b ∈ fp, b = S ∨ s.heap.objs.size ≤ b
  lt : ∀ b ∈ fp, b < s'.heap.objs.size
  mem : I ∈ fp
  txts : ∃ us', StrsAre vs us' ∧ us'.Perm us
  st : St 0 s'.heap
  walk : ∀ A : Around, A.handled = none → WalksS prog w A I fp [I] Eq vs.length (fun i v => vs[i]? = some v) (fun i s => St i s.heap)
def StT (o : Obj) (S I : Addr) (n ep : Nat) : Nat → Heap → Prop := fun i h => h.get? S = some o ∧ h.get? I = some (siObj (rawInt (0 : Nat)) i S n ep)
def StP (o : Obj) (S I : Addr) (n ep j : Nat) : Nat → Heap → Prop := fun i h => h.get? S = some o ∧ h.get? I = some (siObj (rawInt ((if i = 0 then 0 else j + 1 : Nat))) i S n ep)
def StD (o : Obj) (S I T : Addr) (n ep : Nat) (places : Array Value) : Nat → Heap → Prop := fun i h => h.get? S = some o ∧ h.get? I = some (siObj (.ref T) i S n ep) ∧ h.get? T = some { cls := .type "tuple", data := .seq places 0 }
theorem strs_of_elems {prog : Program} {w : World} : ∀ {l : List (Int × Value)}, ElemsOf (PySem.strKind prog w) l → StrsAre (l.map (·.2)) (l.map fun e => svT e.2)
  | [], _ => .nil
  | e :: r, h => by
    obtain ⟨⟨k, hk, _⟩, _⟩ := h.head
    obtain ⟨t, q⟩ := Value.isStrOf_shape hk
    rw [List.map_cons, List.map_cons, q]
    exact .cons _ t (strs_of_elems h.tail)
theorem below_one (j k : Nat) : SetTable.below #[j] k = if j < k then 1 else 0 := by
  unfold SetTable.below
  show SetTable.below.go _ _ 1 0 1 = _
  unfold SetTable.below.go
  rw [if_pos (by decide)]
  show (if (#[j] : Array Nat).getD 0 k < k then SetTable.below.go _ _ 0 1 1 else SetTable.below.go _ _ 0 0 0) = _
  have e : (#[j] : Array Nat).getD 0 k = j := rfl
  rw [e]
  split <;> rfl
section
variable {prog : Program} {w : World} {A : Around} {E : Value → Shared → Prop} {s : Shared}
theorem push_keep {h : Heap} {ob : Obj} : ∀ b o, h.get? b = some o → (h.push ob).get? b = some o := fun b o e => Heap.get?_push_of_some _ e
theorem set_iter {S : Addr} {us : List Str} {Q : Value → Shared → Prop} (hS : SetS prog w s.heap S us) (h : ∀ I s' vs fp St, Ready prog w s S us I s' vs fp St → Q (.ref I) s') : wpAny (model prog w) A (pyIter (.ref S)) Q E s := by
  obtain ⟨o, es, ep, tb, ho, hex, hd, hel, hus, nd, hb, hf, hl, hpl⟩ := hS
  have ty : s.TypeIs (.ref S) "set" := ⟨o, ho, hex.1⟩
  have hlt : S < s.heap.objs.size := Heap.lt_size ho
  refine wpAny_pyIter_slot ty PySem.F.slot_set_iter (wpAny_call_entry PySem.F.slot_set_iter ty entry_set_iter ?_ (PySem.F.args_set_iter_1 _))
  unfold Builtin.«frozenset.__iter__»
  apply wpAny_bind
  refine wpAny_pure ?_
  unfold Builtin.Frozenset.sizeOf
  refine wpAny_bind (wpAny_bind (wpAny_setEntries_of ho hd hf (wpAny_pure ?_)))
  unfold setDrawn
  refine wpAny_bind (wpAny_bind (wpAny_setState_of ho hd hf ?_))
  dsimp only
  unfold setsByText
  refine wpAny_bind (wpAny_bind (wpAny_askSetting (wpAny_pure (wpAny_pure ?_))))
  show wpAny _ _ (if (!byText w && (!tb.plain && decide (es.size > 1))) = true then _ else _) _ _ s
  have lens : us.length = es.size := by rw [← hus]; simp [setTexts]
  have psz : tb.place.size = es.size := by
    have := hf
    simp only [SetTable.fits, Bool.and_eq_true, beq_iff_eq, decide_eq_true_eq] at this
    exact this.1
  have lay : ∀ (hp : Heap) (d : Drawn) (first : Value) (vs : List Value) (fp : List Addr) (St : Nat → Heap → Prop), (∀ b o, s.heap.get? b = some o → hp.get? b = some o) → Ready prog w s S us hp.objs.size { s with heap := hp.push (siObj first 0 S es.size ep), drawn := d } vs fp St →
      wpAny (model prog w) A.in1 (do ret (← newFields "set_iterator" [first, rawInt 0, .ref S, rawInt es.size, rawInt (← setEpoch S)])) (fun fin s' => ∃ it, fin = .done (.ret it) ∧ ∃ T' r, s'.TypeIs it T' ∧ typeLookup (.type T') "__next__" = pure (some r) ∧ Q it s') E { s with heap := hp, drawn := d } := fun hp d first vs fp St k R => by
    refine wpAny_bind (wpAny_setEpoch_of (k _ _ ho) hd hf ?_)
    unfold newFields
    refine wpAny_bind (wpAny_newObj_type ?_ (by size_fits))
    refine wpAny_pure ⟨_, rfl, "set_iterator", _, ⟨_, Heap.get?_push_size _ rfl, rfl⟩, slot_si_next.lookup, ?_⟩
    exact h _ _ _ _ _ R
  cases hbt : byText w with
  | true =>
    rw [if_neg (by simp)]
    refine wpAny_bind (wpAny_pure ?_)
    have pp := pick_perm (w.params.setOrder S ep) es
    refine lay s.heap s.drawn (rawInt (0 : Nat)) ((pickOrder (w.params.setOrder S ep) es).toList.map (·.2)) [s.heap.objs.size, S] (StT o S s.heap.objs.size es.size ep) (fun _ _ e => e)
      ⟨push_keep, ⟨s.drawn, rfl⟩, Nat.le_refl _, fun b hb' => ?_, fun b hb' => ?_, List.mem_cons_self, ⟨_, strs_of_elems (hel.perm pp), ?_⟩, ⟨push_keep _ _ ho, Heap.get?_push_size _ rfl⟩, fun A' hh => ?_⟩
    · rcases List.mem_cons.mp hb' with rfl | q
      · exact .inr (Nat.le_refl _)
      · exact .inl (List.mem_singleton.mp q)
    · show b < (s.heap.push _).objs.size
      rw [Heap.size_push]
      rcases List.mem_cons.mp hb' with rfl | q
      · exact Nat.lt_succ_self _
      · rw [List.mem_singleton.mp q]; exact Nat.lt_succ_of_lt hlt
    · rw [← hus]; exact pp.map _
    · refine walk_set (St := StT o S s.heap.objs.size es.size ep) List.mem_cons_self (fun i h h' st k => ⟨k _ (by simp) _ st.1, k _ (by simp) _ st.2⟩) (fun i v s1 Q1 E1 hv st q => ?_) (fun s1 Q1 E1 st q => ?_) fun i s1 Q1 E1 st q => si_self st.2 q
      · have ne : S ≠ s.heap.objs.size := Nat.ne_of_lt hlt
        rw [List.getElem?_map] at hv
        cases e : (pickOrder (w.params.setOrder S ep) es).toList[i]? with
        | none => rw [e] at hv; cases hv
        | some z =>
          rw [e] at hv
          cases hv
          refine si_item (nx := 0) st.2 st.1 hd hf rfl (fun E' Q' hq => next_text hbt st.1 hd hf ?_) fun hp h1 sb => q hp ⟨(sb.2 S ne).trans st.1, h1⟩ fun b o' hb' e' => (sb.2 b hb').trans e'
          rw [Array.getElem?_toList] at e
          rw [e]
          exact hq
      · refine si_end hh st.2 st.1 hd hf rfl (fun E' Q' hq => next_text hbt st.1 hd hf ?_) fun hp k => q hp k
        have : (pickOrder (w.params.setOrder S ep) es)[((pickOrder (w.params.setOrder S ep) es).toList.map (·.2)).length]? = none := by simp
        rw [this]
        exact hq
  | false =>
    have led : tb.led = true := by rw [hl, hbt]; rfl
    by_cases h2 : es.size ≤ 1
    · rw [if_neg (by rw [decide_eq_false (show ¬ es.size > 1 by omega)]; simp)]
      refine wpAny_bind (wpAny_pure ?_)
      refine lay s.heap s.drawn (rawInt (0 : Nat)) (es.toList.map (·.2)) [s.heap.objs.size, S] (StP o S s.heap.objs.size es.size ep (tb.place.getD 0 0)) (fun _ _ e => e)
        ⟨push_keep, ⟨s.drawn, rfl⟩, Nat.le_refl _, fun b hb' => ?_, fun b hb' => ?_, List.mem_cons_self, ⟨_, strs_of_elems hel, ?_⟩, ⟨push_keep _ _ ho, Heap.get?_push_size _ rfl⟩, fun A' hh => ?_⟩
      · rcases List.mem_cons.mp hb' with rfl | q
        · exact .inr (Nat.le_refl _)
        · exact .inl (List.mem_singleton.mp q)
      · show b < (s.heap.push _).objs.size
        rw [Heap.size_push]
        rcases List.mem_cons.mp hb' with rfl | q
        · exact Nat.lt_succ_self _
        · rw [List.mem_singleton.mp q]; exact Nat.lt_succ_of_lt hlt
      · rw [← hus]; exact .rfl
      · have ne : S ≠ s.heap.objs.size := Nat.ne_of_lt hlt
        refine walk_set (St := StP o S s.heap.objs.size es.size ep (tb.place.getD 0 0)) List.mem_cons_self (fun i h h' st k => ⟨k _ (by simp) _ st.1, k _ (by simp) _ st.2⟩) (fun i v s1 Q1 E1 hv st q => ?_) (fun s1 Q1 E1 st q => ?_) fun i s1 Q1 E1 st q => si_self st.2 q
        · have hi : i < es.size := by have := (List.getElem?_eq_some_iff.mp hv).1; simpa using this
          obtain rfl : i = 0 := by omega
          obtain ⟨j, hj⟩ : ∃ j, tb.place = #[j] := by
            have z : tb.place.size = 1 := by omega
            exact ⟨tb.place[0], by apply Array.ext; · simp [z]
                                   · intro k h1 h2; have : k = 0 := by omega
                                     subst this; rfl⟩
          rw [List.getElem?_map] at hv
          cases e : es.toList[0]? with
          | none => rw [e] at hv; cases hv
          | some z =>
            rw [e] at hv
            cases hv
            rw [Array.getElem?_toList] at e
            refine si_item (slot := 0) (nx := j + 1) st.2 st.1 hd hf rfl (fun E' Q' hq => next_place hbt st.1 hd hf h2 led ?_) fun hp h1 sb => q hp ⟨(sb.2 S ne).trans st.1, ?_⟩ fun b o' hb' e' => (sb.2 b hb').trans e'
            · rw [hj, below_one, if_neg (by omega), e]
              exact hq
            · rw [h1, hj]; rfl
        · have hlen : (es.toList.map (·.2)).length = es.size := by simp
          rw [hlen] at st
          refine si_end hh st.2 st.1 hd hf rfl (fun E' Q' hq => next_place hbt st.1 hd hf h2 led ?_) fun hp k => q hp k
          by_cases h0 : es.size = 0
          · have z : ∀ k : Nat, es[k]? = none := fun k => Array.getElem?_eq_none (by omega)
            rw [z]
            exact hq
          · obtain ⟨j, hj⟩ : ∃ j, tb.place = #[j] := by
              have z : tb.place.size = 1 := by omega
              exact ⟨tb.place[0], by apply Array.ext; · simp [z]
                                     · intro k h1 h2; have : k = 0 := by omega
                                       subst this; rfl⟩
            have z : SetTable.below tb.place (if es.size = 0 then 0 else tb.place.getD 0 0 + 1) = 1 := by
              rw [if_neg h0, hj, below_one]
              exact if_pos (by show j < j + 1; omega)
            rw [z]
            have z1 : es[1]? = none := Array.getElem?_eq_none (by omega)
            rw [z1]
            exact hq
    · have plain : tb.plain = false := hpl (fun z => by rw [z] at lens; simp at lens; omega)
      rw [if_pos (by rw [plain, decide_eq_true (show es.size > 1 by omega)]; rfl)]
      refine wpAny_bind (draw_perm es.size (List.range es.size) s (by simp) fun ys d hp => ?_)
      unfold newTuple; apply wpAny_bind
      have hyl : ys.length = es.size := by rw [hp.length_eq]; simp
      refine wpAny_newObj_type ?_ (by show ((ys.map fun (i : Nat) => rawInt i).toArray).size ≤ sizeLine; rw [List.size_toArray, List.length_map, hyl]; exact fits_of_scanBound hb)
      have hin : ∀ j ∈ ys, j < es.size := fun j hj => by have := hp.mem_iff.mp hj; simpa using this
      have perm : List.Perm (ys.map fun j => es.toList.getD j (0, .none)) es.toList := by
        have z := hp.map fun j => es.toList.getD j (0, .none)
        refine z.trans (List.Perm.of_eq ?_)
        apply List.ext_getElem?
        intro k
        rw [List.getElem?_map]
        by_cases hk : k < es.size
        · simp [hk]
        · simp [hk]
      refine lay (s.heap.push { cls := .type "tuple", data := .seq (ys.map fun (i : Nat) => rawInt i).toArray }) d (.ref s.heap.objs.size) ((ys.map fun j => es.toList.getD j (0, .none)).map (·.2)) [(s.heap.push { cls := .type "tuple", data := .seq (ys.map fun (i : Nat) => rawInt i).toArray }).objs.size, S, s.heap.objs.size]
        (StD o S (s.heap.push { cls := .type "tuple", data := .seq (ys.map fun (i : Nat) => rawInt i).toArray }).objs.size s.heap.objs.size es.size ep (ys.map fun (i : Nat) => rawInt i).toArray) push_keep
        ⟨fun b o' e => push_keep _ _ (push_keep _ _ e), ⟨d, rfl⟩, by rw [Heap.size_push]; exact Nat.le_succ _, fun b hb' => ?_, fun b hb' => ?_, List.mem_cons_self, ⟨_, strs_of_elems (hel.perm perm), ?_⟩, ⟨push_keep _ _ (push_keep _ _ ho), Heap.get?_push_size _ rfl, push_keep _ _ (Heap.get?_push_size _ rfl)⟩, fun A' hh => ?_⟩
      · rcases List.mem_cons.mp hb' with rfl | q
        · exact .inr (by rw [Heap.size_push]; exact Nat.le_succ _)
        · rcases List.mem_cons.mp q with rfl | q
          · exact .inl rfl
          · exact .inr (Nat.le_of_eq (List.mem_singleton.mp q).symm)
      · show b < ((s.heap.push _).push _).objs.size
        rw [Heap.size_push, Heap.size_push]
        rcases List.mem_cons.mp hb' with rfl | q
        · rw [Heap.size_push]; exact Nat.lt_succ_self _
        · rcases List.mem_cons.mp q with rfl | q
          · exact Nat.lt_succ_of_lt (Nat.lt_succ_of_lt hlt)
          · rw [List.mem_singleton.mp q]; exact Nat.lt_succ_of_lt (Nat.lt_succ_self _)
      · rw [← hus]; exact perm.map _
      · have ne : S ≠ (s.heap.push { cls := .type "tuple", data := .seq (ys.map fun (i : Nat) => rawInt i).toArray }).objs.size := Nat.ne_of_lt (by rw [Heap.size_push]; exact Nat.lt_succ_of_lt hlt)
        have ne2 : s.heap.objs.size ≠ (s.heap.push { cls := .type "tuple", data := .seq (ys.map fun (i : Nat) => rawInt i).toArray }).objs.size := Nat.ne_of_lt (by rw [Heap.size_push]; exact Nat.lt_succ_self _)
        generalize (s.heap.push { cls := .type "tuple", data := .seq (ys.map fun (i : Nat) => rawInt i).toArray }).objs.size = I at ne ne2
        refine walk_set (St := StD o S I s.heap.objs.size es.size ep (ys.map fun (i : Nat) => rawInt i).toArray) List.mem_cons_self (fun i h h' st k => ⟨k _ (by simp) _ st.1, k _ (by simp) _ st.2.1, k _ (by simp) _ st.2.2⟩) (fun i v s1 Q1 E1 hv st q => ?_) (fun s1 Q1 E1 st q => ?_) fun i s1 Q1 E1 st q => si_self st.2.1 q
        · rw [List.map_map, List.getElem?_map] at hv
          cases e : ys[i]? with
          | none => rw [e] at hv; cases hv
          | some p =>
            rw [e] at hv
            cases hv
            have hp' : p < es.size := hin p (List.mem_of_getElem? e)
            refine sd_item (p := p) (hsh := (es.toList.getD p (0, .none)).1) st.2.1 st.2.2 st.1 hd hf rfl (by simp [e]) (by simp [hp']) fun hp1 h1 sb => q hp1 ⟨(sb.2 S ne).trans st.1, h1, (sb.2 _ ne2).trans st.2.2⟩ fun b o' hb' e' => (sb.2 b hb').trans e'
        · exact sd_end hh st.2.1 st.2.2 st.1 hd hf rfl (by simp) fun hp1 k => q hp1 k
end
end L2
set_option Elab.async false
set_option linter.all false
set_option maxRecDepth 100000
set_option maxHeartbeats 4000000
namespace L2
open PySem PySem.Spec PyProof.Rows
section
variable {prog : Program} {w : World} {A : Around} {E : Value → Shared → Prop} {s : Shared}
theorem hint_set {S : Addr} {Q : Bool → Shared → Prop} (ty : s.TypeIs (.ref S) "set") (h : Q false s) : wpAny (model prog w) A (Builtin.List.listLengthHint (.ref S)) Q E s := by
  unfold Builtin.List.listLengthHint
  refine wpAny_bind (wpAny_specialOf ty set_len_lookup ?_)
  generalize hid : ("set.__len__" : String) = lid
  wp_delta
  rw [show splitId lid = some ("set", "__len__") from by subst hid; decide +kernel]
  subst hid
  refine wpAny_bind (wpAny_isInstance (b := true) ty PySem.F.called_set.sub ?_)
  rw [if_neg (by decide)]
  dsimp only
  refine wpAny_ite_split (fun _ => ?_) fun z => absurd (by decide +kernel) z
  refine wpAny_bind (wpAny_typeOf ty ?_)
  exact wpAny_pure h
theorem collect_set {S : Addr} {us : List Str} {Q : List Value → Shared → Prop} (hh : A.handled = none) (hS : SetS prog w s.heap S us) (hn : us.length ≤ sizeLine)
    (h : ∀ hp tk d vs us', (∀ b o, s.heap.get? b = some o → hp.get? b = some o) → s.heap.objs.size ≤ hp.objs.size → StrsAre vs us' → us'.Perm us → Q vs { s with heap := hp, toks := tk, drawn := d }) : wpAny (model prog w) A (collect (.ref S)) Q E s := by
  have hlt : S < s.heap.objs.size := by obtain ⟨o, _, _, _, ho, _⟩ := hS; exact Heap.lt_size ho
  unfold collect
  apply wpAny_bind; apply wpAny_runValue; apply codeAny_builtin PySem.F.entry_proto_collect
  rw [Around.under_plainId PySem.F.plain_proto_collect _]
  show wpAny _ A.in1 (newList [] >>= fun l => again (.builtin "list.__iadd__" ⟨[l, .ref S], []⟩)) _ _ s
  apply wpAny_bind
  refine wpAny_newObj_type (wpAny_pure ⟨plainId_quiet PySem.F.plain_list_iadd _, codeAny_builtin PySem.F.entry_list_iadd ?_⟩)
  rw [Around.under_plainId PySem.F.plain_list_iadd _]
  show wpAny _ A.in1 (Builtin.List.listExtendWith (.ref s.heap.objs.size) (.ref S) (.ref s.heap.objs.size)) _ _ _
  generalize hL : s.heap.objs.size = L
  have hLo : (s.heap.push { cls := .type "list", data := .seq ([] : List Value).toArray }).get? L = some { cls := .type "list", data := .seq #[] } := by rw [← hL]; exact Heap.get?_push_size _ rfl
  have sz : (s.heap.push { cls := .type "list", data := .seq ([] : List Value).toArray }).objs.size = L + 1 := by rw [Heap.size_push, hL]
  have keep1' : ∀ b o, s.heap.get? b = some o → (s.heap.push { cls := .type "list", data := .seq ([] : List Value).toArray }).get? b = some o := push_keep
  have new1 : ∀ b o, s.heap.get? b = some o → b ≠ L := fun b o e => by rw [← hL]; exact Nat.ne_of_lt (Heap.lt_size e)
  have hS1 := hS.at (h' := s.heap.push { cls := .type "list", data := .seq ([] : List Value).toArray }) fun o e => push_keep _ _ e
  have hSL : S ≠ L := by rw [← hL]; exact Nat.ne_of_lt hlt
  generalize s.heap.push { cls := .type "list", data := .seq ([] : List Value).toArray } = h1 at hLo sz keep1' hS1
  have ty1 : Shared.TypeIs { s with heap := h1 } (.ref S) "set" := by obtain ⟨o, _, _, _, ho, hx, _⟩ := hS1; exact ⟨o, ho, hx.1⟩
  unfold Builtin.List.listExtendWith
  refine wpAny_bind (wpAny_typeOf ty1 ?_)
  have e1 : Builtin.List.listSameRef (.ref L) (.ref S) = false := by
    unfold Builtin.List.listSameRef
    simpa using fun z : L = S => hSL z.symm
  rw [e1]
  rw [if_neg (by decide)]
  refine wpAny_bind (set_iter (s := { s with heap := h1 }) hS1 fun I s2 vs fp St R => ?_)
  obtain ⟨d, e2⟩ := R.rest
  obtain ⟨us', hvs, hpu⟩ := R.txts
  have ty2 : Shared.TypeIs s2 (.ref S) "set" := by obtain ⟨o, ho, hc⟩ := ty1; exact ⟨o, R.heap _ _ ho, hc⟩
  have lf : L ∉ fp := fun m => by
    rcases R.fps L m with z | z
    · exact hSL z.symm
    · have z' : h1.objs.size ≤ L := z
      omega
  have hvl : vs.length ≤ sizeLine := by
    have a1 := hvs.length
    have a2 := hpu.length_eq
    omega
  refine wpAny_bind (wpAny_holding (hint_set ty2 ?_))
  have loop : ∀ (hp : Heap) (c : Nat), St 0 hp → (∀ b o, b ≠ L → s2.heap.get? b = some o → hp.get? b = some o) → hp.get? L = some { cls := .type "list", dict := none, data := .seq #[] c, slots := #[] } →
      codeAny (model prog w) A (.builtin "list.extend.loop" ⟨[.ref L, .ref I, .ref L], []⟩) (fun r s' => ∃ f, r = .ok (.ret f) ∧ wpAny (model prog w) A (match f with
        | .ref a => do
          match (← load a).data with
          | .seq xs _ => pure xs.toList
          | _ => unsupported "internal:collect"
        | _ => unsupported "internal:collect") Q E s') { s2 with heap := hp } := fun hp c st k hl => by
    refine codeAny_extend_loopS (R.walk A.in1 hh) hvl L lf (.ref L) vs.length 0 { s2 with heap := hp } #[] c rfl (Nat.zero_le _) st hl (ItemsOf.nil _) fun s3 acc c' hm hL3 hacc => ⟨_, rfl, ?_⟩
    show wpAny _ A (load L >>= _) _ _ _
    refine wpAny_bind (wpAny_load hL3 (wpAny_pure ?_))
    have ea : acc.toList = vs := by
      apply List.ext_getElem?
      intro j
      by_cases hj : j < acc.size
      · have : acc[j]? = some acc[j] := by simp [hj]
        have q := hacc.2 j _ this
        rw [Array.getElem?_toList, this, q]
      · rw [Array.getElem?_toList, Array.getElem?_eq_none (by omega)]
        have := hacc.1
        exact (List.getElem?_eq_none (by omega)).symm
    rw [ea]
    obtain ⟨hp3, g3, d3, tk3, os3⟩ := s3
    obtain rfl : s2.gens = g3 := hm.gens
    obtain rfl : d3 = s2.drawn := hm.drawn
    obtain rfl : os3 = s2.os := hm.os
    have := h hp3 tk3 d vs us' (fun b o e => hm.heap b o (fun z => ?_) (k b o (new1 b o e) (R.heap b o (keep1' b o e)))) (by rw [hL]; exact Nat.le_of_lt (Heap.lt_size hL3)) hvs hpu
    · rw [e2]; exact this
    · rcases List.mem_cons.mp z with z | z
      · exact new1 b o e z
      · have n1 := R.new
        have n2 := Heap.lt_size (keep1' b o e)
        rw [List.mem_singleton.mp z] at n2
        have n1' : h1.objs.size ≤ I := n1
        exact absurd n2 (Nat.not_lt.mpr n1')
  have hL2 : s2.heap.get? L = some { cls := .type "list", dict := none, data := .seq #[] 0, slots := #[] } := R.heap L _ hLo
  have conv : ∀ (r : Result) (s' : Shared), (∃ f, r = .ok (.ret f) ∧ wpAny (model prog w) A (match f with
        | .ref a => do
          match (← load a).data with
          | .seq xs _ => pure xs.toList
          | _ => unsupported "internal:collect"
        | _ => unsupported "internal:collect") Q E s') → (match r with
        | Except.ok (Flow.ret v) => wpAny (model prog w) A (match v with
            | .ref a => do
              match (← load a).data with
              | .seq xs _ => pure xs.toList
              | _ => unsupported "internal:collect"
            | _ => unsupported "internal:collect") Q E s'
        | Except.ok a => False
        | Except.error e => E e s') := fun r s' ⟨f, e, q⟩ => by subst e; exact q
  refine wpAny_ite_split (fun _ => ?_) fun _ => wpAny_pure ⟨plainId_quiet PySem.F.plain_extend_loop _, codeAny_mono (loop s2.heap 0 R.st (fun b o _ e => e) hL2) conv⟩
  apply wpAny_bind; apply wpAny_rule; apply wpAny_bind
  show wpAny _ _ (updateSeq L (·.push .none) >>= fun _ => updateSeq L (·.pop)) _ _ _
  refine wpAny_bind (wpAny_updateSeq hL2 rfl ?_)
  have hL3 := Heap.get?_update_self (Obj.mapSeq (·.push Value.none)) hL2 rfl
  refine wpAny_updateSeq (hz := by seq_fits) hL3 rfl ?_
  have hL4 := Heap.get?_update_self (Obj.mapSeq (·.pop)) hL3 rfl
  have kp : ∀ b o, b ≠ L → s2.heap.get? b = some o → ((s2.heap.update L (Obj.mapSeq (·.push Value.none))).update L (Obj.mapSeq (·.pop))).get? b = some o := fun b o z e => by
    rw [Heap.get?_update_other _ _ (Ne.symm z), Heap.get?_update_other _ _ (Ne.symm z)]; exact e
  refine wpAny_pure ⟨plainId_quiet PySem.F.plain_extend_loop _, codeAny_mono (loop _ _ ?_ kp hL4) conv⟩
  exact (R.walk A.in1 hh).frame 0 s2 _ s2.toks R.st (Nat.le_refl _) fun b m o e => kp b o (fun z => lf (z ▸ m)) e
theorem sorted_from {x : Value} {n : Nat} {Q : Value → Shared → Prop} (hx : wpAny (model prog w) A.in1 (collect x) (fun vs s1 => ∃ ts, StrsAre vs ts ∧ ts.length < 64 ∧
      ∀ l hp (us : List Str) (out : List Value), (∀ b o, s1.heap.get? b = some o → hp.get? b = some o) → s1.heap.objs.size ≤ l → (∃ c, hp.get? l = some { cls := .type "list", data := .seq out.toArray c }) → StrsAre out us → us.Perm ts → sortedS us = true → Q (.ref l) { s1 with heap := hp }) E s) :
    wpAny (model prog w) A (call (.builtin "sorted") [x]) Q E s := by
  refine Calls.call_function_entry kind_sorted plain_sorted entry_sorted (args_sorted1 _) ?_
  unfold Builtin.«sorted»
  apply wpAny_bind (m := checkCount "sorted" 1 1 _)
  refine wpAny_pure (wpAny_bind (wpAny_mono hx (fun vs s1 q => ?_) fun _ _ z => z))
  obtain ⟨ts, hvs, h64, k⟩ := q
  have hl : vs.length = ts.length := hvs.length
  refine wpAny_bind (wpAny_newList ?_ (by rw [hl]; exact sz1000 (by omega)))
  have ho : (s1.heap.push (seqObj "list" vs.toArray 0)).get? s1.heap.objs.size = some (seqObj "list" vs.toArray 0) := Heap.get?_push_size _ rfl
  have sz : (s1.heap.push (seqObj "list" vs.toArray 0)).objs.size = s1.heap.objs.size + 1 := Heap.size_push ..
  have k1 : ∀ b o, s1.heap.get? b = some o → (s1.heap.push (seqObj "list" vs.toArray 0)).get? b = some o := push_keep
  show wpAny _ _ _ _ _ { s1 with heap := s1.heap.push (seqObj "list" vs.toArray 0) }
  refine wpAny_bind (wpAny_holding (wpAny_call_entry slot_list_sort ⟨_, ho, rfl⟩ entry_list_sort (list_sort_treeK strKind_oneLt ho hvs.keysOf (fun v₁ v₂ rest e => keyKind_strs (by rw [← e]; exact hvs)) (by omega) fun st' a1 a2 => ⟨_, rfl, ?_⟩) (args_list_sort _)))
  obtain ⟨us, b1, b2, b3⟩ := sorted_out_str hvs a1 a2
  obtain ⟨c, hc⟩ := sortedHeap_at (vs := vs) (out := (arrOf st').map (·.2)) ho
  refine wpAny_pure ⟨_, rfl, k _ _ us ((arrOf st').map (·.2)).toList (fun b o e => ?_) (Nat.le_refl _) ⟨c, ?_⟩ b1 b2 b3⟩
  · have hlt := Heap.lt_size e
    rw [sortedHeap_old (Nat.ne_of_lt hlt) (by rw [sz]; exact Nat.lt_succ_of_lt hlt)]
    exact k1 b o e
  · rw [hc]
end
end L2
set_option Elab.async false
set_option linter.all false
set_option maxRecDepth 100000
set_option maxHeartbeats 4000000
namespace L2
open PySem PySem.Spec PyProof.Rows
def SetO (prog : Program) (w : World) (S : Addr) (us : List Str) : HO := .ext fun h => SetS prog w h S us
section
variable {X : Cx} {pins : List (Addr × Obj)} {σ : St} {H : Hp} {s : Shared}
theorem Inv.draw (I : Inv X pins σ H s) (d : Drawn) : Inv X pins σ H { s with drawn := d } := ⟨I.ok, I.os, I.bare, I.base, I.loc, I.cell, I.free, I.freeC, I.pin, I.hok, I.len⟩
def rSetOf (P : Program) (w : World) (K : PySem.W.Frag) : List V → Hp → VK → Prop := fun xs H Q => ∃ (a : Addr) (ts : List Str), xs = [.ref a] ∧ SqL K H a (ts.map V.str) ∧ ts.length < 4000 ∧
  ∀ S us, H S = none → us.Nodup → us.length ≤ ts.length → (∀ x, x ∈ us ↔ x ∈ ts) → Q (.ref S) (upd H S (SetO P w S us))
theorem call_setOf (hc : X.calm = true) : CallR X (.type "set") (rSetOf X.prog X.w X.K) := by
  intro pins s σ H xs us Q I r h
  obtain ⟨a, ts, rfl, hq, hl, k⟩ := h
  obtain ⟨u, rfl, ru⟩ := vals1 r
  cases ru
  obtain ⟨its, rv, pl, _⟩ := I.list hq
  have hlen : its.length = ts.length := by have := rv.length; simpa using this.symm
  refine call_set_strs (I.ok.hd hc) pl.isList (by simpa using strsAre_of rv) (by rw [List.size_toArray, hlen]; show ts.length + 1 < 4096; omega) fun s' hm => ?_
  obtain ⟨hp, tk, us', rfl, S, l1, m1, kp⟩ := hm
  obtain ⟨o, es, ep, tb, ho, hex, hd, hel, hus, nd, rest⟩ := id S
  refine ⟨.ref s.heap.objs.size, _, I.laid (t' := tk) (o := SetO X.prog X.w s.heap.objs.size us') (fun b o e => kp b o (Heap.lt_size e) e) (Nat.le_refl _) ⟨S, ⟨o, ho⟩, fun h1 h2 s1 k1 => s1.at k1⟩, rfl, k _ us' (I.hok.fresh (Nat.le_refl _)) nd l1 m1⟩
def rSorted (P : Program) (w : World) (K : PySem.W.Frag) : List V → Hp → VK → Prop := fun xs H Q => ∃ (a : Addr) (us : List Str), xs = [.ref a] ∧ (H a = some (SetO P w a us) ∨ SqL K H a (us.map V.str)) ∧ us.length < 64 ∧
  ∀ l vs, H l = none → sortedS vs = true → vs.Perm us → Q (.ref l) (upd H l (.lst (vs.map V.str)))
theorem vals_strs : ∀ {us : List Value} {ys : List Str}, StrsAre us ys → Vals (ys.map V.str) us
  | _, _, .nil => .nil
  | _, _, .cons x t r => .cons ⟨t, rfl⟩ (vals_strs r)
theorem call_sortedA (hc : X.calm = true) : CallR X (.builtin "sorted") (rSorted X.prog X.w X.K) := by
  intro pins s σ H xs us Q I r h
  obtain ⟨a, ts, rfl, hq, hl, k⟩ := h
  obtain ⟨u, rfl, ru⟩ := vals1 r
  cases ru
  have fin : ∀ (hp : Heap) (tk : Nat) (d : Drawn), (∀ b o, s.heap.get? b = some o → hp.get? b = some o) → s.heap.objs.size ≤ hp.objs.size → ∀ us' : List Str, us'.Perm ts → ∀ (l : Addr) (hp2 : Heap) (vs : List Str) (out : List Value), (∀ b o, hp.get? b = some o → hp2.get? b = some o) → hp.objs.size ≤ l →
      (∃ c, hp2.get? l = some { cls := .type "list", data := .seq out.toArray c }) → StrsAre out vs → vs.Perm us' → sortedS vs = true → EP X pins σ Q (.ref l) { s with heap := hp2, toks := tk, drawn := d } := fun hp tk d k1 z1 us' p1 l hp2 vs out k2 hn ⟨c, hc'⟩ ho pv hs => by
    have hsz : s.heap.objs.size ≤ l := Nat.le_trans z1 hn
    refine ⟨.ref l, _, (I.laid (t' := tk) (o := .lst (vs.map V.str)) (fun b o e => k2 b o (k1 b o e)) hsz ⟨?_, out, c, vals_strs ho, hc'⟩).draw d, rfl, k l vs (I.hok.fresh hsz) hs (pv.trans p1)⟩
    rw [List.length_map, (pv.trans p1).length_eq]
    exact sz1000 (by omega)
  rcases hq with hq | hq
  · have S : SetS X.prog X.w s.heap a ts := (I.hok a _ hq).1
    refine sorted_from (n := 0) (collect_set (I.ok.hd hc) S (sz1000 (by omega)) fun hp tk d vs us' k1 z1 hv hp' => ⟨us', hv, by rw [hp'.length_eq]; exact hl, fun l hp2 vs2 out k2 hn hl2 ho pv hs => fin hp tk d k1 z1 us' hp' l hp2 vs2 out k2 hn hl2 ho pv hs⟩)
  · obtain ⟨its, rv, pl, _⟩ := I.list hq
    have hlen : its.length = ts.length := by have := rv.length; simpa using this.symm
    refine sorted_strs pl.isList (strsAre_of rv) (by omega) fun out vs ho pv hs => ?_
    obtain ⟨c, hc'⟩ := sortedAll_at s.heap its out
    have z : ({ s with heap := sortedAll s.heap its out } : Shared) = { s with heap := sortedAll s.heap its out, toks := s.toks, drawn := s.drawn } := rfl
    rw [z]
    refine ⟨.ref (s.heap.objs.size + 1), _, (I.laid (t' := s.toks) (o := .lst (vs.map V.str)) (fun b o e => sortedAll_old e) (Nat.le_succ _) ⟨?_, out.toList, c, vals_strs ho, by rw [hc']⟩).draw s.drawn, rfl, k _ vs (I.hok.fresh (Nat.le_succ _)) hs pv⟩
    rw [List.length_map, pv.length_eq]
    exact sz1000 (by omega)
variable {P : Program} {w : World} {K : PySem.W.Frag} {Q : VK} {p : Addr}
theorem callA_set (P : Program) (w : World) (K : PySem.W.Frag) (hc : X.calm = true) (hK : X.K = K := by rfl) (hP : X.prog = P := by rfl) (hw : X.w = w := by rfl) : CallR X (.type "set") (rSetOf P w K) := by
  subst hK hP hw; exact call_setOf hc
theorem callA_sorted (P : Program) (w : World) (K : PySem.W.Frag) (hc : X.calm = true) (hK : X.K = K := by rfl) (hP : X.prog = P := by rfl) (hw : X.w = w := by rfl) : CallR X (.builtin "sorted") (rSorted P w K) := by
  subst hK hP hw; exact call_sortedA hc
theorem w_setOf : rSetOf P w K [.ref p] H Q = ∃ ts : List Str, SqL K H p (ts.map V.str) ∧ ts.length < 4000 ∧ ∀ S us, H S = none → us.Nodup → us.length ≤ ts.length → (∀ x, x ∈ us ↔ x ∈ ts) → Q (.ref S) (upd H S (SetO P w S us)) := by
  refine propext ⟨fun ⟨_, ts, e, h⟩ => ?_, fun ⟨ts, h⟩ => ⟨p, ts, rfl, h⟩⟩
  cases e; exact ⟨ts, h⟩
theorem w_sorted : rSorted P w K [.ref p] H Q = ∃ us : List Str, (H p = some (SetO P w p us) ∨ SqL K H p (us.map V.str)) ∧ us.length < 64 ∧ ∀ l vs, H l = none → sortedS vs = true → vs.Perm us → Q (.ref l) (upd H l (.lst (vs.map V.str))) := by
  refine propext ⟨fun ⟨_, us, e, h⟩ => ?_, fun ⟨us, h⟩ => ⟨p, us, rfl, h⟩⟩
  cases e; exact ⟨us, h⟩
end
end L2
set_option Elab.async false
set_option linter.all false
set_option maxRecDepth 100000
set_option maxHeartbeats 4000000
namespace L2
open PySem PySem.Spec PyProof.Rows
def Air (h : Heap) (e C : Addr) (fl : Option Value) (l : List Addr) : Prop :=
  ∃ oe vs a0, h.get? e = some oe ∧ oe.cls = .ref C ∧ oe.data = .fields vs ∧ vs[0]? = some a0 ∧
    match fl with
    | none => l = [e] ∧ vs[1]? = some .none
    | some f => ∃ T oT ts, l = [e, T] ∧ vs[1]? = some (.ref T) ∧ T ≠ e ∧ h.get? T = some oT ∧ oT.data = .fields ts ∧ ts[3]? = some f
theorem Air.first {h : Heap} {e C : Addr} {fl : Option Value} {l : List Addr} (a : Air h e C fl l) : e ∈ l := by
  obtain ⟨oe, vs, a0, h1, h2, h3, h4, h5⟩ := a
  cases fl with
  | none => obtain ⟨rfl, _⟩ := h5; exact List.mem_singleton.mpr rfl
  | some f => obtain ⟨T, oT, ts, rfl, _⟩ := h5; exact List.mem_cons_self ..
theorem ObjOk.there {P : Program} {w : World} {H : Hp} {h : Heap} {a : Addr} {o : HO} (x : ObjOk P w H h a o) : ∃ ob, h.get? a = some ob := by
  cases o with
  | lst xs => obtain ⟨_, _, _, _, e⟩ := x; exact ⟨_, e⟩
  | tup xs => obtain ⟨_, _, _, p⟩ := x; obtain ⟨o, e, _⟩ := p; exact ⟨_, e⟩
  | dK kvs => obtain ⟨_, _, _, _, o, _, _, e, _⟩ := x; exact ⟨_, e⟩
  | dT kvs => obtain ⟨_, _, _, _, o, _, _, e, _⟩ := x; exact ⟨_, e⟩
  | set S n => obtain ⟨o, _, _, _, e, _⟩ := x; exact ⟨_, e⟩
  | ins C dx fs => obtain ⟨_, _, _, e, _⟩ := x; exact ⟨_, e⟩
  | own y => obtain ⟨_, e⟩ := x; exact ⟨_, e⟩
  | xd fs => obtain ⟨_, ⟨_, _, _, e, _⟩, _⟩ := x; exact ⟨_, e⟩
  | rng lo hi => obtain ⟨_, _, _, e⟩ := x; exact ⟨_, e⟩
  | frz ob u => obtain ⟨e, _⟩ := x; exact ⟨_, e⟩
  | tbl ps => exact ⟨_, (show h.get? a = some _ from x)⟩
  | met f y => exact ⟨_, (show h.get? a = some _ from x)⟩
  | ext φ => obtain ⟨_, ⟨_, e⟩, _⟩ := x; exact ⟨_, e⟩
structure Fnc (X : Cx) : Prop where
  stk : X.stack = X.env :: X.outer
  fr : X.env.frame = some X.env.locals
  ex : X.ex = []
theorem Fnc.wish {X : Cx} (F : Fnc X) (E : Value → Shared → Prop) : Fnc (X.wish E) := ⟨F.stk, F.fr, F.ex⟩
section
variable {X : Cx} {σ : St} {H : Hp} {s : Shared} {l : List Addr} {e C : Addr} {fl : Option Value}
end
def CXX (P : Program) (w : World) : CXT := fun outer H s E u s' =>
  ∃ e C l H', u = .ref e ∧ E (.ref C) none H' ∧ s'.os = s.os ∧ AllBare s'.gens ∧ Un (frs outer) [] H H' s.heap s'.heap ∧ HOk P w H' s'.heap ∧ Air s'.heap e C (some .none) l ∧ ∀ b ∈ l, s.heap.get? b = none ∧ H' b = none
section
variable {X : Cx} {G : Addr → St → Hp → Prop} {u : Value} {s : Shared}
end
def xnames : List Str := ["__init__", "__getattribute__", "__getattr__", "__class__"]
inductive TailX (h : Heap) (bmB : List Value) : List Value → Prop
  | base : TailX h bmB bmB
  | own {A : Addr} {c0 : Value} {dd : Option Addr} {cd : ClassData} {sl : Array (Option Value)} {mA : Str → Option Value} {tl : List Value} :
      h.get? A = some { cls := c0, dict := dd, data := .cls cd, slots := sl } → h.Ns cd.ns mA → (∀ n ∈ xnames, mA n = none) → TailX h bmB tl → TailX h bmB (.ref A :: tl)
theorem TailX.tail {h : Heap} {bmB tl : List Value} (T : TailX h bmB tl) : OwnTail h bmB tl := by
  induction T with
  | base => exact .base
  | own hA hN hq _ ih => exact .own hA hN (hq _ (.head _)) ih
def XCls (K : PySem.W.Frag) (mg : Str → Option Value) (x : Str) (C : Addr) (ch : List Addr) (bm : List Value) (newId : String) : Prop := mg x = some (.ref C) ∧ ∀ h : Heap, K.In h →
  ∃ N nm q bs hdct sn sub ab col dd k0 k1 k2 k3 k5 mN, h.get? C = some (excClassObj nm q C N bs (ch.map Value.ref ++ bm) hdct sn sub ab col dd k0 k1 k2 k3 k5 newId) ∧ h.Ns N mN ∧ (∀ n ∈ xnames, mN n = none) ∧ TailX h bm (ch.map Value.ref ++ bm)
section
variable {X : Cx} {G : Addr → St → Hp → Prop}
end
section
variable {X : Cx} {G : Addr → St → Hp → Prop} {k : Nat} {f : Addr} {fd : FuncData} {ps : List Str} {sp : Sp} {dvs : List V} {ds : List Value} {x : Str} {p pos : Pos} {e : Expr} {es : List Expr} {t : TA}
end
end L2
namespace L2
open PySem PySem.Spec PyProof.Rows
abbrev Cx.at (X : Cx) (pins : List (Addr × Obj)) (E : Value → Shared → Prop) : Cx := { X with pn := X.pn ++ pins, xe := E }
section
variable {X : Cx} {pins : List (Addr × Obj)} {σ : St} {H : Hp} {s : Shared} {E : Value → Shared → Prop} {e : Addr}
theorem Cx.Ok.at (ok : X.Ok) : (X.at pins E).Ok :=
  ⟨ok.mod, ok.kind, ok.glob, ok.blt, ok.above, ok.inj, ok.has, ok.cab, ok.hd, ok.frames, ok.stk, ok.exf, ok.bs, ok.bsz, ok.noex, ok.exfs, ok.funs, ok.frf⟩
theorem Inv.at (I : Inv X pins σ H s) (E : Value → Shared → Prop) : Inv (X.at pins E) [] σ H s := ⟨I.ok.at, I.os, I.bare, I.base, I.loc, I.cell, I.free, I.freeC, fun p hp => I.pin p (by simpa using hp), I.hok, I.len⟩
end
def Apart (X : Cx) (pins : List (Addr × Obj)) (H : Hp) (l : List Addr) : Prop := ∀ b ∈ l, X.s₀.heap.get? b = none ∧ H b = none ∧ ∀ p ∈ X.pn ++ pins, p.1 ≠ b
def PH (X : Cx) (hs : List ExceptHandler) (th : Addr → TS) : Prop :=
  ∀ (pins : List (Addr × Obj)) (s : Shared) (σ : St) (H : Hp) (D : Ends) (e C : Addr) (l : List Addr), Inv X pins σ H s → Air s.heap e C (some .none) l → Apart X pins H l → th C D σ H →
    wpAny (model X.prog X.w) X.A (handleBy (.ref e) X.env hs) (SP X pins D) X.xe s
end L2
namespace L2
open PySem PySem.Spec PyProof.Rows
section
variable {X : Cx}
end
end L2
namespace L2
open PySem PySem.Spec PyProof.Rows
section
variable {prog : Program} {w : World} {A : Around} {E : Value → Shared → Prop} {h : Heap} {g : Array GenState} {d : Drawn} {t : Nat} {os : OsState} {a : Addr} {o : Obj} {vs : Array Value}
  {nm q : Str} {C N : Addr} {bs bm bmB : List Value} {hdct : Bool} {sn : List Str} {sub : List Value} {ab : Bool} {col : Option Bool} {dd : Option Addr} {k0 k1 k2 k3 k5 : Option Value} {B newId : String} {mN : Str → Option Value}
structure XBase (B : String) (bmB : List Value) : Prop extends ExcAttrBase B bmB where
  lkC : typeLookup (.type B) "__class__" = pure (some (.builtin "object.__class__"))
  hasObj : bmB.contains (.type "object") = true
end
end L2
namespace L2
open PySem PySem.Spec PyProof.Rows
structure RoomH (k : Nat) (A : Around) : Prop where
  dp : A.depth + 3 * k + 5 < recursionLimit
  un : A.units + 16 * k + 200 < cLine
theorem Room.h {k : Nat} {A : Around} (r : Room k A) : RoomH k A := ⟨r.dp, r.un⟩
theorem RoomH.deeper {k : Nat} {A : Around} (r : RoomH (k + 1) A) (env : Env) : RoomH k (A.deeper env) :=
  ⟨by have := r.dp; show A.depth + 1 + 3 * k + 5 < _; omega, by have := r.un; show A.units + 3 + 16 * k + 200 < _; omega⟩
theorem RoomH.mono {j k : Nat} {A : Around} (r : RoomH k A) (h : j ≤ k) : RoomH j A := ⟨by have := r.dp; omega, by have := r.un; omega⟩
structure FnOkH (P : Program) (w : World) (K : PySem.W.Frag) (mg : Str → Option Value) (base : Heap) (k : Nat) (f : Addr) (fd : FuncData) (ps : List Str) (sp : Sp) : Prop where
  len : ∀ vs H Q E, sp vs H Q E → vs.length = ps.length
  run : ∀ (A : Around) (outer : List Env) (s : Shared) (H : Hp) (args : Args) (us : List Value) (vs : List V) (Q : VK), RoomH k A → Env0 P w K mg base A outer s H → BindsTo s fd args (ps.zip us) → Vals vs us → sp vs H Q E0 →
    codeAny (model P w) A (.call (.ref f) args) (CR CX0 outer P w H s Q E0) s
theorem FnOk.calm {P : Program} {w : World} {K : PySem.W.Frag} {mg : Str → Option Value} {base : Heap} {k : Nat} {f : Addr} {fd : FuncData} {ps : List Str} {sp : Sp} (F : FnOk P w K mg base (CXX P w) k f fd ps sp) (h : ∀ vs H Q E, sp vs H Q E → sp vs H Q E0) : FnOk P w K mg base CX0 k f fd ps sp :=
  ⟨F.len, fun A outer s H args us vs Q E hr he hb hv hs => codeAny_mono (F.run A outer s H args us vs Q E0 hr he hb hv (h _ _ _ _ hs)) fun r s' q => by
    cases r with
    | error e => obtain ⟨_, _, _, _, _, z, _⟩ := q; exact z.elim
    | ok fl => cases fl <;> exact q⟩
section
variable {X : Cx} {k : Nat} {f : Addr} {fd : FuncData} {ps : List Str} {sp : Sp} {dvs : List V} {ds : List Value} {x : Str} {p pos : Pos} {e : Expr} {es : List Expr} {t : TA}
end
end L2
namespace L2
open PySem PySem.Spec PyProof.Rows
structure CNs (K : PySem.W.Frag) (N : Addr) : Prop where
  ok : ∃ oc od es ep sl, K.lookup N = some ⟨oc, od, .dict (List.toArray es) ep, sl⟩ ∧ (es.all fun e => match e.key with | .str _ _ => true | _ => false) = true
  n1 : PySem.W.nsIn K N "__init__" = some none
  n2 : PySem.W.nsIn K N "__getattribute__" = some none
  n3 : PySem.W.nsIn K N "__getattr__" = some none
  n4 : PySem.W.nsIn K N "__class__" = some none
theorem CNs.quiet {K : PySem.W.Frag} {h : Heap} {N : Addr} (c : CNs K N) (X : K.In h) : h.Ns N (h.nsMap N) ∧ ∀ n ∈ xnames, h.nsMap N n = none := by
  have ok : PySem.W.nsOkIn K N = true := by
    obtain ⟨oc, od, es, ep, sl, e, q⟩ := c.ok
    unfold PySem.W.nsOkIn
    rw [e]
    exact (List.all_toArray (l := es)).trans q
  refine ⟨.of_isNs (PySem.W.isNs_of_in X ok), fun n hn => PySem.W.nsMap_none_of_in X ok ?_⟩
  simp only [xnames, List.mem_cons, List.not_mem_nil, or_false] at hn
  rcases hn with rfl | rfl | rfl | rfl
  · exact c.n1
  · exact c.n2
  · exact c.n3
  · exact c.n4
section
variable {K : PySem.W.Frag} {mg : Str → Option Value} {x nm q nm' q' : Str} {C D N N' : Addr} {bm bs bs' bm' : List Value} {hdct hdct' : Bool} {sn sn' : List Str} {sub sub' : List Value} {ab ab' : Bool} {col col' : Option Bool} {dd dd' : Option Addr} {k0 k1 k2 k3 k5 k0' k1' k2' k3' k5' : Option Value} {newId newId' : String} {b : Bool}
theorem xcls0 (m : mg x = some (.ref C)) (l : K.lookup C = some (excClassObj nm q C N bs bm hdct sn sub ab col dd k0 k1 k2 k3 k5 newId)) (c : CNs K N) : XCls K mg x C [] bm newId :=
  ⟨m, fun h X => ⟨N, nm, q, bs, hdct, sn, sub, ab, col, dd, k0, k1, k2, k3, k5, _, X _ _ l, (c.quiet X).1, (c.quiet X).2, .base⟩⟩
theorem xcls1 (m : mg x = some (.ref C)) (l : K.lookup C = some (excClassObj nm q C N bs (.ref D :: bm) hdct sn sub ab col dd k0 k1 k2 k3 k5 newId)) (c : CNs K N)
    (l' : K.lookup D = some (excClassObj nm' q' D N' bs' bm hdct' sn' sub' ab' col' dd' k0' k1' k2' k3' k5' newId')) (c' : CNs K N') : XCls K mg x C [D] bm newId :=
  ⟨m, fun h X => ⟨N, nm, q, bs, hdct, sn, sub, ab, col, dd, k0, k1, k2, k3, k5, _, X _ _ l, (c.quiet X).1, (c.quiet X).2, .own (X _ _ l') (c'.quiet X).1 (c'.quiet X).2 .base⟩⟩
end
end L2
set_option Elab.async false
set_option linter.all false
set_option maxRecDepth 100000
set_option maxHeartbeats 4000000
namespace L2
open PySem PySem.Spec PyProof.Rows
abbrev TJ := Str → St → Hp → (Str → Hp → Prop) → Prop
def PJ (X : Cx) (es : List Expr) (t : TJ) : Prop :=
  ∀ (pins : List (Addr × Obj)) (s : Shared) (σ : St) (H : Hp) (acc : Str) (Q : Str → Hp → Prop), Inv X pins σ H s → t acc σ H Q → Joins (model X.prog X.w) X.A X.xe (evalEach es X.env) acc (fun out s₁ => ∃ H', Inv X pins σ H' s₁ ∧ Q out H') s
section
variable {X : Cx} {e v : Expr} {es : List Expr} {te : TE} {tr : TJ} {pos : Pos}
end
end L2
namespace L2
open PySem PySem.Spec PyProof.Rows
section
variable {σ : St} {H : Hp} {Q : VK} {D : Ends} {te : TE} {tr : TJ} {acc y : Str} {i : Int} {R : Str → Hp → Prop} {G : Addr → St → Hp → Prop} {sp : Sp} {dvs : List V} {t : TA}
end
end L2
namespace L2
open PySem PySem.Spec PyProof.Rows
abbrev TM := St → Hp → (Hp → Prop) → Prop
def PMp (X : Cx) (e : Expr) (t : TM) : Prop :=
  ∀ (pins : List (Addr × Obj)) (s : Shared) (σ : St) (H : Hp) (R : Hp → Prop), Inv X pins σ H s → t σ H R → wpAny (model X.prog X.w) X.A (eval e X.env) (fun u s' => ∃ y t H', u = .str y t ∧ y.length ≤ 1000 ∧ Inv X pins σ H' s' ∧ R H') X.xe s
def PM (X : Cx) (es : List Expr) (t : TM) : Prop :=
  ∀ (pins : List (Addr × Obj)) (s : Shared) (σ : St) (H : Hp) (acc : Str) (m : Nat) (R : Hp → Prop), Inv X pins σ H s → acc.length ≤ m → m + 1000 * es.length ≤ 100000 → t σ H R →
    Joins (model X.prog X.w) X.A X.xe (evalEach es X.env) acc (fun out s₁ => ∃ H', Inv X pins σ H' s₁ ∧ out.length ≤ 100000 ∧ R H') s
section
variable {X : Cx} {e v : Expr} {es : List Expr} {te : TE} {tp tr : TM} {pos : Pos}
end
section
variable {σ : St} {H : Hp} {Q : VK} {te : TE} {tp tr tm : TM} {R : Hp → Prop} {y : Str} {i : Int}
end
end L2
set_option Elab.async false
set_option linter.all false
set_option maxRecDepth 100000
set_option maxHeartbeats 4000000
namespace L2
open PySem PySem.Spec PyProof.Rows
section
variable {X : Cx} {G : Addr → St → Hp → Prop} {k : Nat} {f C : Addr} {fd : FuncData} {ps : List Str} {sp : Sp} {dvs : List V} {ds : List Value} {x m : Str} {p pos apos : Pos} {e o : Expr} {es : List Expr} {ta : TE} {t : TA}
end
section
variable {K : PySem.W.Frag} {σ : St} {H : Hp} {Q : VK} {D : Ends} {ta tv : TE} {t : TA} {f m : Str} {p C : Addr} {sp : Sp} {dvs : List V} {E : XK} {G : Addr → St → Hp → Prop} {rd : V → V → Hp → VK → Prop}
theorem w_fld : tFld K ta f σ H Q = ta σ H fun x H1 => ∃ a C dx fs v, x = .ref a ∧ H1 a = some (.ins C dx fs) ∧ Cls K C ∧ NoAttr K C f ∧ fs.lookup f = some v ∧ Q v H1 := rfl
theorem w_sfld : sFld K ta tv f D σ H = tv σ H fun y H1 => ta σ H1 fun x H2 => ∃ a C dx fs, x = .ref a ∧ H2 a = some (.ins C dx fs) ∧ Cls K C ∧ NoAttr K C f ∧ fs.length < 1000 ∧ D.nx σ (upd H2 a (.ins C dx (putF f y fs))) := rfl
theorem w_meth : tMeth C m sp dvs E ta t σ H Q = ta σ H fun x H1 => ∃ a dx fs, x = .ref a ∧ H1 a = some (.ins C dx fs) ∧ fs.lookup m = none ∧ t σ H1 fun vs H2 => sp (x :: (vs ++ dvs)) H2 Q E := rfl
theorem w_make : tMake C sp dvs E t σ H Q = t σ H fun vs H1 => ∀ x dx, H1 x = none → H1 dx = none → dx ≠ x → sp (.ref x :: (vs ++ dvs)) (upd (upd H1 dx (.own x)) x (.ins C dx [])) (fun v H2 => v = .non ∧ Q (.ref x) H2) E := rfl
end
end L2
set_option Elab.async false
set_option linter.all false
set_option maxRecDepth 100000
set_option maxHeartbeats 4000000
namespace L2
open PySem PySem.Spec PyProof.Rows
inductive Dt where
  | int (i : Int) | str (x : Str) | non | tup (l : List Dt) | lst (l : List Dt)
mutual
def Dt.beq : Dt → Dt → Bool
  | .int i, .int j => i == j
  | .str x, .str y => decide (x = y)
  | .non, .non => true
  | .tup l, .tup m => Dt.beqs l m
  | .lst l, .lst m => Dt.beqs l m
  | _, _ => false
def Dt.beqs : List Dt → List Dt → Bool
  | [], [] => true
  | a :: l, b :: m => Dt.beq a b && Dt.beqs l m
  | _, _ => false
end
mutual
theorem Dt.beq_iff : ∀ a b : Dt, Dt.beq a b = true ↔ a = b
  | .int i, b => by cases b <;> simp [Dt.beq]
  | .str x, b => by cases b <;> simp [Dt.beq]
  | .non, b => by cases b <;> simp [Dt.beq]
  | .tup l, b => by cases b with
    | tup m => simp only [Dt.beq, Dt.tup.injEq]; exact Dt.beqs_iff l m
    | _ => simp [Dt.beq]
  | .lst l, b => by cases b with
    | lst m => simp only [Dt.beq, Dt.lst.injEq]; exact Dt.beqs_iff l m
    | _ => simp [Dt.beq]
theorem Dt.beqs_iff : ∀ l m : List Dt, Dt.beqs l m = true ↔ l = m
  | [], m => by cases m <;> simp [Dt.beqs]
  | a :: l, m => by cases m with
    | nil => simp [Dt.beqs]
    | cons b m => simp only [Dt.beqs, Bool.and_eq_true, List.cons.injEq]; rw [Dt.beq_iff a b, Dt.beqs_iff l m]
end
instance : DecidableEq Dt := fun a b => if h : Dt.beq a b = true then isTrue ((Dt.beq_iff a b).mp h) else isFalse fun e => h ((Dt.beq_iff a b).mpr e)
theorem Dt.beq_dec (a b : Dt) : Dt.beq a b = decide (a = b) := by
  by_cases h : a = b
  · rw [decide_eq_true h]; exact (Dt.beq_iff a b).mpr h
  · rw [decide_eq_false h]; exact Bool.eq_false_iff.mpr fun e => h ((Dt.beq_iff a b).mp e)
theorem Dt.beqs_all : ∀ (l m : List Dt) (e : Nat → Bool), (∀ (j : Nat) a b, l[j]? = some a → m[j]? = some b → e j = Dt.beq a b) → ((List.range (min l.length m.length)).all e && l.length == m.length) = Dt.beqs l m
  | [], [], e, _ => by simp [Dt.beqs]
  | [], b :: m, e, _ => by simp [Dt.beqs]
  | a :: l, [], e, _ => by simp [Dt.beqs]
  | a :: l, b :: m, e, h => by
    have ih := Dt.beqs_all l m (fun j => e (j + 1)) fun j x y h1 h2 => h (j + 1) x y (by simpa using h1) (by simpa using h2)
    have h0 := h 0 a b rfl rfl
    simp only [Dt.beqs]
    rw [← ih, ← h0]
    simp only [List.length_cons]
    rw [show min (l.length + 1) (m.length + 1) = min l.length m.length + 1 by omega, List.range_succ_eq_map]
    simp only [List.all_cons, List.all_map]
    have : ((l.length + 1 == m.length + 1) : Bool) = (l.length == m.length) := by simp
    rw [this, Bool.and_assoc]
    rfl
mutual
def Dt.dep : Dt → Nat
  | .tup l => Dt.deps l + 1
  | .lst l => Dt.deps l + 1
  | _ => 0
def Dt.deps : List Dt → Nat
  | [] => 0
  | a :: l => max (Dt.dep a) (Dt.deps l)
end
theorem Dt.dep_mem : ∀ {l : List Dt} {j : Nat} {a : Dt}, l[j]? = some a → Dt.dep a ≤ Dt.deps l
  | [], j, a, h => by simp at h
  | b :: l, 0, a, h => by simp at h; subst h; simp only [Dt.deps]; omega
  | b :: l, j + 1, a, h => by have := Dt.dep_mem (l := l) (j := j) (a := a) (by simpa using h); simp only [Dt.deps]; omega
inductive RepD (K : PySem.W.Frag) (H : Hp) : Dt → V → Prop
  | int (i : Int) : RepD K H (.int i) (.int i)
  | str (x : Str) : RepD K H (.str x) (.str x)
  | non : RepD K H .non .non
  | tup {a : Addr} {xs : List V} {l : List Dt} (h : SqT K H a xs) (hl : l.length = xs.length) (hr : ∀ (j : Nat) d x, l[j]? = some d → xs[j]? = some x → RepD K H d x) : RepD K H (.tup l) (.ref a)
  | lst {a : Addr} {xs : List V} {l : List Dt} (h : SqL K H a xs) (hl : l.length = xs.length) (hr : ∀ (j : Nat) d x, l[j]? = some d → xs[j]? = some x → RepD K H d x) : RepD K H (.lst l) (.ref a)
theorem isL {X : Cx} {pins : List (Addr × Obj)} {σ : St} {H : Hp} {s : Shared} {a : Addr} {xs : List V} (I : Inv X pins σ H s) (h : SqL X.K H a xs) : ∃ its : List Value, Vals xs its ∧ s.heap.IsList a its.toArray := by
  obtain ⟨its, r, p, _⟩ := I.list h
  exact ⟨its, r, p.isList⟩
theorem isT {X : Cx} {pins : List (Addr × Obj)} {σ : St} {H : Hp} {s : Shared} {a : Addr} {xs : List V} (I : Inv X pins σ H s) (h : SqT X.K H a xs) : ∃ its : List Value, Vals xs its ∧ s.heap.IsTuple a its.toArray := by
  obtain ⟨its, r, p, _⟩ := I.tuple h
  exact ⟨its, r, p⟩
section
variable {X : Cx} {pins : List (Addr × Obj)} {σ : St} {H : Hp} {s : Shared}
theorem RepD.inj (I : Inv X pins σ H s) {d : Dt} {x : V} (h : RepD X.K H d x) : ∀ {d' : Dt}, RepD X.K H d' x → d = d' := by
  induction h with
  | int i => intro d' h; cases h; rfl
  | str x => intro d' h; cases h; rfl
  | non => intro d' h; cases h; rfl
  | @tup a xs l h hl hr ih =>
    intro d' h'
    cases h' with
    | @tup _ xs' l' h' hl' hr' =>
      obtain rfl := I.tuple_inj h h'
      congr 1
      apply List.ext_getElem?
      intro j
      by_cases hj : j < l.length
      · have e1 : l[j]? = some l[j] := by simp [hj]
        have e2 : xs[j]? = some xs[j] := by simp
        have hj' : j < l'.length := by omega
        have e3 : l'[j]? = some l'[j] := by simp [hj']
        rw [e1, e3, ih j _ _ e1 e2 (hr' j _ _ e3 e2)]
      · rw [List.getElem?_eq_none (by omega), List.getElem?_eq_none (by omega)]
    | @lst _ xs' l' h' hl' hr' =>
      obtain ⟨_, _, p⟩ := isT I h
      obtain ⟨_, _, q⟩ := isL I h'
      exact absurd rfl (SeqAt.ne_of_list_tuple q p)
  | @lst a xs l h hl hr ih =>
    intro d' h'
    cases h' with
    | @lst _ xs' l' h' hl' hr' =>
      obtain rfl := I.list_inj h h'
      congr 1
      apply List.ext_getElem?
      intro j
      by_cases hj : j < l.length
      · have e1 : l[j]? = some l[j] := by simp [hj]
        have e2 : xs[j]? = some xs[j] := by simp
        have hj' : j < l'.length := by omega
        have e3 : l'[j]? = some l'[j] := by simp [hj']
        rw [e1, e3, ih j _ _ e1 e2 (hr' j _ _ e3 e2)]
      · rw [List.getElem?_eq_none (by omega), List.getElem?_eq_none (by omega)]
    | @tup _ xs' l' h' hl' hr' =>
      obtain ⟨_, _, p⟩ := isL I h
      obtain ⟨_, _, q⟩ := isT I h'
      exact absurd rfl (SeqAt.ne_of_list_tuple p q)
theorem RepD.at (I : Inv X pins σ H s) {d : Dt} {x : V} (h : RepD X.K H d x) : ∀ {d' : Dt} {y : V}, RepD X.K H d' y → ∀ {A : Around} {u v : Value}, A.units + Dt.dep d < cLine → RelV x u → RelV y v →
    SeqAt.RcAt A s u v (Dt.beq d d') ∧ SeqAt.EqAt A s u v (Dt.beq d d') := by
  induction h with
  | int i =>
    intro d' y h' A u v hu ru rv
    obtain ⟨t, rfl⟩ := ru
    cases h' with
    | int j => obtain ⟨t', rfl⟩ := rv; exact ⟨SeqAt.RcAt.int_int _ _ _ _, SeqAt.EqAt.int_int _ _ _ _⟩
    | str z => obtain ⟨t', rfl⟩ := rv; exact ⟨SeqAt.RcAt.int_str _ _ _ _, SeqAt.EqAt.int_str _ _ _ _⟩
    | non => cases rv; exact ⟨SeqAt.RcAt.int_none _ _, SeqAt.EqAt.int_none _ _⟩
    | tup h => cases rv; obtain ⟨_, _, p⟩ := isT I h; exact ⟨SeqAt.RcAt.int_tuple _ _ p (by omega), SeqAt.EqAt.int_tuple _ _ p (by omega)⟩
    | lst h => cases rv; obtain ⟨_, _, p⟩ := isL I h; exact ⟨SeqAt.RcAt.int_list _ _ p (by omega), SeqAt.EqAt.int_list _ _ p (by omega)⟩
  | str z =>
    intro d' y h' A u v hu ru rv
    obtain ⟨t, rfl⟩ := ru
    cases h' with
    | int j => obtain ⟨t', rfl⟩ := rv; exact ⟨SeqAt.RcAt.str_int _ _ _ _, SeqAt.EqAt.str_int _ _ _ _⟩
    | str z' =>
      obtain ⟨t', rfl⟩ := rv
      have e : (z == z') = Dt.beq (.str z) (.str z') := by simp only [Dt.beq]; rw [Bool.beq_eq_decide_eq]
      rw [← e]; exact ⟨SeqAt.RcAt.str_str _ _ _ _, SeqAt.EqAt.str_str _ _ _ _⟩
    | non => cases rv; exact ⟨SeqAt.RcAt.str_none _ _, SeqAt.EqAt.str_none _ _⟩
    | tup h => cases rv; obtain ⟨_, _, p⟩ := isT I h; exact ⟨SeqAt.RcAt.str_tuple _ _ p (by omega), SeqAt.EqAt.str_tuple _ _ p (by omega)⟩
    | lst h => cases rv; obtain ⟨_, _, p⟩ := isL I h; exact ⟨SeqAt.RcAt.str_list _ _ p (by omega), SeqAt.EqAt.str_list _ _ p (by omega)⟩
  | non =>
    intro d' y h' A u v hu ru rv
    cases ru
    cases h' with
    | int j => obtain ⟨t', rfl⟩ := rv; exact ⟨SeqAt.RcAt.none_int _ _, SeqAt.EqAt.none_int _ _⟩
    | str z' => obtain ⟨t', rfl⟩ := rv; exact ⟨SeqAt.RcAt.none_str _ _, SeqAt.EqAt.none_str _ _⟩
    | non => cases rv; exact ⟨SeqAt.RcAt.none_none, SeqAt.EqAt.same _⟩
    | tup h => cases rv; obtain ⟨_, _, p⟩ := isT I h; exact ⟨SeqAt.RcAt.none_tuple p (by omega), SeqAt.EqAt.none_tuple p (by omega)⟩
    | lst h => cases rv; obtain ⟨_, _, p⟩ := isL I h; exact ⟨SeqAt.RcAt.none_list p (by omega), SeqAt.EqAt.none_list p (by omega)⟩
  | @tup a xs l h hl hr ih =>
    intro d' y h' A u v hu ru rv
    have h0 := h'
    cases ru
    obtain ⟨its, r1, p1⟩ := isT I h
    cases h' with
    | int j => obtain ⟨t', rfl⟩ := rv; exact ⟨SeqAt.RcAt.tuple_int _ _ p1 (by omega), SeqAt.EqAt.tuple_int _ _ p1 (by omega)⟩
    | str z' => obtain ⟨t', rfl⟩ := rv; exact ⟨SeqAt.RcAt.tuple_str _ _ p1 (by omega), SeqAt.EqAt.tuple_str _ _ p1 (by omega)⟩
    | non => cases rv; exact ⟨SeqAt.RcAt.tuple_none p1 (by omega), SeqAt.EqAt.tuple_none p1 (by omega)⟩
    | lst h2 => cases rv; obtain ⟨_, _, p2⟩ := isL I h2; exact ⟨SeqAt.RcAt.tuple_list p1 p2 (by omega), SeqAt.EqAt.tuple_list p1 p2 (by omega)⟩
    | @tup b ys m h2 hl2 hr2 =>
      cases rv
      obtain ⟨its2, r2, p2⟩ := isT I h2
      have l1 : its.toArray.size = xs.length := by rw [List.size_toArray]; exact r1.length.symm
      have l2 : its2.toArray.size = ys.length := by rw [List.size_toArray]; exact r2.length.symm
      have rc : SeqAt.RcAt A s (.ref a) (.ref b) (Dt.beq (.tup l) (.tup m)) := by
        have hd : Dt.dep (.tup l) = Dt.deps l + 1 := by simp only [Dt.dep]
        rw [hd] at hu
        have := SeqAt.RcAt.tuples (A := A) (e := fun j => match l[j]?, m[j]? with | some x, some y => Dt.beq x y | _, _ => true) p1 p2 (by omega) (fun j h1 h2 => by
          obtain ⟨x, ex, rx⟩ := getD_some r1 h1
          obtain ⟨y, ey, ry⟩ := getD_some r2 h2
          have j1 : j < l.length := by omega
          have j2 : j < m.length := by omega
          have e1 : l[j]? = some l[j] := by simp [j1]
          have e2 : m[j]? = some m[j] := by simp [j2]
          rw [e1, e2]
          exact (ih j _ _ e1 ex (hr2 j _ _ e2 ey) (A := A.in1) (by show A.units + 1 + _ < cLine; have := Dt.dep_mem e1; omega) rx ry).2)
        rw [l1, l2, ← hl, ← hl2, Dt.beqs_all l m _ (fun j x y h1 h2 => by simp only [h1, h2])] at this
        simp only [Dt.beq]
        exact this
      refine ⟨rc, ?_⟩
      by_cases hab : a = b
      · subst hab
        rw [(Dt.beq_iff _ _).mpr ((RepD.tup h hl hr).inj I h0)]
        exact SeqAt.EqAt.same _
      · exact SeqAt.EqAt.of_refs hab rc
  | @lst a xs l h hl hr ih =>
    intro d' y h' A u v hu ru rv
    have h0 := h'
    cases ru
    obtain ⟨its, r1, p1⟩ := isL I h
    cases h' with
    | int j => obtain ⟨t', rfl⟩ := rv; exact ⟨SeqAt.RcAt.list_int _ _ p1 (by omega), SeqAt.EqAt.list_int _ _ p1 (by omega)⟩
    | str z' => obtain ⟨t', rfl⟩ := rv; exact ⟨SeqAt.RcAt.list_str _ _ p1 (by omega), SeqAt.EqAt.list_str _ _ p1 (by omega)⟩
    | non => cases rv; exact ⟨SeqAt.RcAt.list_none p1 (by omega), SeqAt.EqAt.list_none p1 (by omega)⟩
    | tup h2 => cases rv; obtain ⟨_, _, p2⟩ := isT I h2; exact ⟨SeqAt.RcAt.list_tuple p1 p2 (by omega), SeqAt.EqAt.list_tuple p1 p2 (by omega)⟩
    | @lst b ys m h2 hl2 hr2 =>
      cases rv
      obtain ⟨its2, r2, p2⟩ := isL I h2
      have l1 : its.toArray.size = xs.length := by rw [List.size_toArray]; exact r1.length.symm
      have l2 : its2.toArray.size = ys.length := by rw [List.size_toArray]; exact r2.length.symm
      have rc : SeqAt.RcAt A s (.ref a) (.ref b) (Dt.beq (.lst l) (.lst m)) := by
        have hd : Dt.dep (.lst l) = Dt.deps l + 1 := by simp only [Dt.dep]
        rw [hd] at hu
        simp only [Dt.beq]
        by_cases hlen : l.length = m.length
        · have := SeqAt.RcAt.lists (A := A) (e := fun j => match l[j]?, m[j]? with | some x, some y => Dt.beq x y | _, _ => true) p1 p2 (by omega) (by omega) (fun j h1 h2 => by
            obtain ⟨x, ex, rx⟩ := getD_some r1 h1
            obtain ⟨y, ey, ry⟩ := getD_some r2 h2
            have j1 : j < l.length := by omega
            have j2 : j < m.length := by omega
            have e1 : l[j]? = some l[j] := by simp [j1]
            have e2 : m[j]? = some m[j] := by simp [j2]
            rw [e1, e2]
            exact (ih j _ _ e1 ex (hr2 j _ _ e2 ey) (A := A.in1) (by show A.units + 1 + _ < cLine; have := Dt.dep_mem e1; omega) rx ry).2)
          have q := Dt.beqs_all l m (fun j => match l[j]?, m[j]? with | some x, some y => Dt.beq x y | _, _ => true) (fun j x y h1 h2 => by simp only [h1, h2])
          rw [← q]
          have q1 : (l.length == m.length) = true := by simpa using hlen
          have q2 : min l.length m.length = its.toArray.size := by omega
          rw [q1, Bool.and_true, q2]
          exact this
        · have q : Dt.beqs l m = false := Bool.eq_false_iff.mpr fun e => hlen (congrArg List.length ((Dt.beqs_iff l m).mp e))
          rw [q]
          exact SeqAt.RcAt.lists_lengths p1 p2 (by rw [l1, l2]; simp; omega) (by omega)
      refine ⟨rc, ?_⟩
      by_cases hab : a = b
      · subst hab
        rw [(Dt.beq_iff _ _).mpr ((RepD.lst h hl hr).inj I h0)]
        exact SeqAt.EqAt.same _
      · exact SeqAt.EqAt.of_refs hab rc
theorem RepD.ne (I : Inv X pins σ H s) {d d' : Dt} {x y : V} (h : RepD X.K H d x) (h' : RepD X.K H d' y) {A : Around} {u v : Value} (hu : A.units + Dt.dep d < cLine) (ru : RelV x u) (rv : RelV y v) :
    SeqAt.RcNeAt A s u v (!Dt.beq d d') := by
  cases h with
  | int i =>
    obtain ⟨t, rfl⟩ := ru
    cases h' with
    | int j => obtain ⟨t', rfl⟩ := rv; exact SeqAt.RcNeAt.int_int _ _ _ _
    | str z => obtain ⟨t', rfl⟩ := rv; exact SeqAt.RcNeAt.int_str _ _ _ _
    | non => cases rv; exact SeqAt.RcNeAt.int_none _ _
    | tup h => cases rv; obtain ⟨_, _, p⟩ := isT I h; exact SeqAt.RcNeAt.int_tuple _ _ p (by omega)
    | lst h => cases rv; obtain ⟨_, _, p⟩ := isL I h; exact SeqAt.RcNeAt.int_list _ _ p (by omega)
  | str z =>
    obtain ⟨t, rfl⟩ := ru
    cases h' with
    | int j => obtain ⟨t', rfl⟩ := rv; exact SeqAt.RcNeAt.str_int _ _ _ _
    | str z' =>
      obtain ⟨t', rfl⟩ := rv
      have e : (z == z') = Dt.beq (.str z) (.str z') := by simp only [Dt.beq]; rw [Bool.beq_eq_decide_eq]
      rw [← e]; exact SeqAt.RcNeAt.str_str _ _ _ _
    | non => cases rv; exact SeqAt.RcNeAt.str_none _ _
    | tup h => cases rv; obtain ⟨_, _, p⟩ := isT I h; exact SeqAt.RcNeAt.str_tuple _ _ p (by omega)
    | lst h => cases rv; obtain ⟨_, _, p⟩ := isL I h; exact SeqAt.RcNeAt.str_list _ _ p (by omega)
  | non =>
    cases ru
    cases h' with
    | int j => obtain ⟨t', rfl⟩ := rv; exact SeqAt.RcNeAt.none_int _ _
    | str z' => obtain ⟨t', rfl⟩ := rv; exact SeqAt.RcNeAt.none_str _ _
    | non => cases rv; exact SeqAt.RcNeAt.none_none
    | tup h => cases rv; obtain ⟨_, _, p⟩ := isT I h; exact SeqAt.RcNeAt.none_tuple p (by omega)
    | lst h => cases rv; obtain ⟨_, _, p⟩ := isL I h; exact SeqAt.RcNeAt.none_list p (by omega)
  | @tup a xs l h hl hr =>
    cases ru
    obtain ⟨its, r1, p1⟩ := isT I h
    cases h' with
    | int j => obtain ⟨t', rfl⟩ := rv; exact SeqAt.RcNeAt.tuple_int _ _ p1 (by omega)
    | str z' => obtain ⟨t', rfl⟩ := rv; exact SeqAt.RcNeAt.tuple_str _ _ p1 (by omega)
    | non => cases rv; exact SeqAt.RcNeAt.tuple_none p1 (by omega)
    | lst h2 => cases rv; obtain ⟨_, _, p2⟩ := isL I h2; exact SeqAt.RcNeAt.tuple_list p1 p2 (by omega)
    | @tup b ys m h2 hl2 hr2 =>
      cases rv
      obtain ⟨its2, r2, p2⟩ := isT I h2
      have l1 : its.toArray.size = xs.length := by rw [List.size_toArray]; exact r1.length.symm
      have l2 : its2.toArray.size = ys.length := by rw [List.size_toArray]; exact r2.length.symm
      have hd : Dt.dep (.tup l) = Dt.deps l + 1 := by simp only [Dt.dep]
      rw [hd] at hu
      have := SeqAt.RcNeAt.tuples (A := A) (e := fun j => match l[j]?, m[j]? with | some x, some y => Dt.beq x y | _, _ => true) p1 p2 (by omega) (fun j h1 h2 => by
        obtain ⟨x, ex, rx⟩ := getD_some r1 h1
        obtain ⟨y, ey, ry⟩ := getD_some r2 h2
        have j1 : j < l.length := by omega
        have j2 : j < m.length := by omega
        have e1 : l[j]? = some l[j] := by simp [j1]
        have e2 : m[j]? = some m[j] := by simp [j2]
        rw [e1, e2]
        exact (RepD.at I (hr j _ _ e1 ex) (hr2 j _ _ e2 ey) (A := A.in1) (by show A.units + 1 + _ < cLine; have := Dt.dep_mem e1; omega) rx ry).2)
      rw [l1, l2, ← hl, ← hl2, Dt.beqs_all l m _ (fun j x y h1 h2 => by simp only [h1, h2])] at this
      simp only [Dt.beq]
      exact this
  | @lst a xs l h hl hr =>
    cases ru
    obtain ⟨its, r1, p1⟩ := isL I h
    cases h' with
    | int j => obtain ⟨t', rfl⟩ := rv; exact SeqAt.RcNeAt.list_int _ _ p1 (by omega)
    | str z' => obtain ⟨t', rfl⟩ := rv; exact SeqAt.RcNeAt.list_str _ _ p1 (by omega)
    | non => cases rv; exact SeqAt.RcNeAt.list_none p1 (by omega)
    | tup h2 => cases rv; obtain ⟨_, _, p2⟩ := isT I h2; exact SeqAt.RcNeAt.list_tuple p1 p2 (by omega)
    | @lst b ys m h2 hl2 hr2 =>
      cases rv
      obtain ⟨its2, r2, p2⟩ := isL I h2
      have l1 : its.toArray.size = xs.length := by rw [List.size_toArray]; exact r1.length.symm
      have l2 : its2.toArray.size = ys.length := by rw [List.size_toArray]; exact r2.length.symm
      have hd : Dt.dep (.lst l) = Dt.deps l + 1 := by simp only [Dt.dep]
      rw [hd] at hu
      simp only [Dt.beq]
      by_cases hlen : l.length = m.length
      · have := SeqAt.RcNeAt.lists (A := A) (e := fun j => match l[j]?, m[j]? with | some x, some y => Dt.beq x y | _, _ => true) p1 p2 (by omega) (by omega) (fun j h1 h2 => by
          obtain ⟨x, ex, rx⟩ := getD_some r1 h1
          obtain ⟨y, ey, ry⟩ := getD_some r2 h2
          have j1 : j < l.length := by omega
          have j2 : j < m.length := by omega
          have e1 : l[j]? = some l[j] := by simp [j1]
          have e2 : m[j]? = some m[j] := by simp [j2]
          rw [e1, e2]
          exact (RepD.at I (hr j _ _ e1 ex) (hr2 j _ _ e2 ey) (A := A.in1) (by show A.units + 1 + _ < cLine; have := Dt.dep_mem e1; omega) rx ry).2)
        have q := Dt.beqs_all l m (fun j => match l[j]?, m[j]? with | some x, some y => Dt.beq x y | _, _ => true) (fun j x y h1 h2 => by simp only [h1, h2])
        rw [← q]
        have q1 : (l.length == m.length) = true := by simpa using hlen
        have q2 : min l.length m.length = its.toArray.size := by omega
        rw [q1, Bool.and_true, q2]
        exact this
      · have q : Dt.beqs l m = false := Bool.eq_false_iff.mpr fun e => hlen (congrArg List.length ((Dt.beqs_iff l m).mp e))
        rw [q]
        exact SeqAt.RcNeAt.lists_lengths p1 p2 (by rw [l1, l2]; simp; omega) (by omega)
theorem RepD.mem (I : Inv X pins σ H s) {d : Dt} {x : V} {l : List Dt} {xs : List V} {its : List Value} (hx : RepD X.K H d x) (hl : l.length = xs.length) (hr : ∀ (j : Nat) d x, l[j]? = some d → xs[j]? = some x → RepD X.K H d x)
    (r : Vals xs its) {A : Around} {v : Value} (hu : ∀ a ∈ l, A.units + Dt.dep a < cLine) (rv : RelV x v) :
    ∃ e : Value → Bool, (∀ u ∈ its, SeqAt.EqAt A s u v (e u)) ∧ its.any e = decide (d ∈ l) := by
  classical
  have item : ∀ u ∈ its, ∃ (j : Nat) (y : V) (a : Dt), its[j]? = some u ∧ xs[j]? = some y ∧ l[j]? = some a ∧ RelV y u := fun u hm => by
    obtain ⟨j, hj, e⟩ := List.getElem_of_mem hm
    have hx' : j < xs.length := by rw [r.length]; exact hj
    have hl' : j < l.length := by omega
    obtain ⟨u', e', ru⟩ := r.get (i := j) (x := xs[j]) (by simp [hx'])
    have : its[j]? = some u := by simp [hj, e]
    rw [this] at e'; cases e'
    exact ⟨j, xs[j], l[j], this, by simp [hx'], by simp [hl'], ru⟩
  refine ⟨fun u => decide (∃ y, RelV y u ∧ RepD X.K H d y), fun u hm => ?_, ?_⟩
  · obtain ⟨j, y, a, _, hy, ha, ru⟩ := item u hm
    have ry := hr j a y ha hy
    have e : decide (∃ y, RelV y u ∧ RepD X.K H d y) = Dt.beq a d := by
      rw [Dt.beq_dec]
      congr 1
      refine propext ⟨fun ⟨y', r1, r2⟩ => ?_, fun z => ⟨y, ru, z ▸ ry⟩⟩
      obtain rfl := ru.inj r1
      exact ry.inj I r2
    show SeqAt.EqAt A s u v (decide (∃ y, RelV y u ∧ RepD X.K H d y))
    rw [e]
    exact (ry.at I hx (hu a (List.mem_of_getElem? ha)) ru rv).2
  · apply Bool.eq_iff_iff.mpr
    simp only [List.any_eq_true, decide_eq_true_eq]
    constructor
    · rintro ⟨u, hm, y', r1, r2⟩
      obtain ⟨j, y, a, _, hy, ha, ru⟩ := item u hm
      obtain rfl := ru.inj r1
      have := (hr j a y ha hy).inj I r2
      subst this
      exact List.mem_of_getElem? ha
    · intro hm
      obtain ⟨j, hj, e⟩ := List.getElem_of_mem hm
      have hx' : j < xs.length := by omega
      obtain ⟨u, hu', ru⟩ := r.get (i := j) (x := xs[j]) (by simp [hx'])
      exact ⟨u, List.mem_of_getElem? hu', xs[j], ru, e ▸ hr j l[j] xs[j] (by simp [hj]) (by simp [hx'])⟩
end
section
variable {X : Cx} {K : PySem.W.Frag} {H : Hp} {Q : VK}
def rEqT (K : PySem.W.Frag) : R2 := fun x y H Q => ∃ d d', RepD K H d x ∧ RepD K H d' y ∧ Dt.dep d ≤ 60 ∧ Q (.bl (decide (d = d'))) H
def rNeT (K : PySem.W.Frag) : R2 := fun x y H Q => ∃ d d', RepD K H d x ∧ RepD K H d' y ∧ Dt.dep d ≤ 60 ∧ Q (.bl (!decide (d = d'))) H
theorem op_eqT (hu : X.A.units + 64 < cLine) : OpR X (compareOp .Eq) (rEqT X.K) := by
  intro pins s σ H x y v u Q I rx ry ⟨d, d', h, h', hd, q⟩
  exact (h.at I h' (A := X.A) (by omega) rx ry).1 X.prog X.w X.xe _ ⟨.bl _, H, I, rfl, by rw [Dt.beq_dec]; exact q⟩
theorem op_neT (hu : X.A.units + 64 < cLine) : OpR X (compareOp .NotEq) (rNeT X.K) := by
  intro pins s σ H x y v u Q I rx ry ⟨d, d', h, h', hd, q⟩
  exact (h.ne I h' (A := X.A) (by omega) rx ry) X.prog X.w X.xe _ ⟨.bl _, H, I, rfl, by rw [Dt.beq_dec]; exact q⟩
def rInT (K : PySem.W.Frag) (neg : Bool) : R2 := fun x y H Q => ∃ d l, RepD K H d x ∧ (RepD K H (.tup l) y ∨ RepD K H (.lst l) y) ∧ Dt.deps l ≤ 60 ∧ Q (.bl (if neg then !decide (d ∈ l) else decide (d ∈ l))) H
theorem Dt.deps_mem {l : List Dt} {a : Dt} (h : a ∈ l) : Dt.dep a ≤ Dt.deps l := by
  obtain ⟨j, hj, e⟩ := List.getElem_of_mem h
  exact Dt.dep_mem (j := j) (by simp [hj, e])
theorem op_notInT (hu : X.A.units + 64 < cLine) : OpR X (compareOp .NotIn) (rInT X.K true) := by
  intro pins s σ H x y v u Q I rx ry ⟨d, l, h, h', hd, q⟩
  rcases h' with h' | h'
  · cases h' with
    | @tup a xs _ hq hl hr =>
      cases ry
      obtain ⟨its, r, p⟩ := isT I hq
      obtain ⟨e, he, ha⟩ := RepD.mem I h hl hr r (A := X.A.in1) (fun a hm => by show X.A.units + 1 + _ < cLine; have := Dt.deps_mem hm; omega) rx
      refine SeqAt.notIn_tupleAt e p (fun w hw => he w (by simpa using hw)) ⟨.bl _, H, I, rfl, ?_⟩
      rw [show its.toArray.any e = its.any e by simp, ha]
      exact q
  · cases h' with
    | @lst a xs _ hq hl hr =>
      cases ry
      obtain ⟨its, r, p⟩ := isL I hq
      obtain ⟨e, he, ha⟩ := RepD.mem I h hl hr r (A := X.A.in1) (fun a hm => by show X.A.units + 1 + _ < cLine; have := Dt.deps_mem hm; omega) rx
      refine SeqAt.notIn_listAt e p (fun w hw => he w (by simpa using hw)) ⟨.bl _, H, I, rfl, ?_⟩
      rw [show its.toArray.any e = its.any e by simp, ha]
      exact q
end
end L2
namespace L2
open PySem PySem.Spec PyProof.Rows
theorem RepD.same {K : PySem.W.Frag} {H H' : Hp} (e : Same H H') {d : Dt} {x : V} (h : RepD K H d x) : RepD K H' d x := by
  induction h with
  | int i => exact .int i
  | str x => exact .str x
  | non => exact .non
  | tup h hl hr ih => exact .tup (e.seqT h) hl ih
  | lst h hl hr ih => exact .lst (e.seq h) hl ih
theorem RepD.strs {K : PySem.W.Frag} {H : Hp} {a : Addr} {ts : List Str} (h : SqT K H a (ts.map V.str)) : RepD K H (.tup (ts.map Dt.str)) (.ref a) :=
  .tup h (by simp) fun j d x h1 h2 => by
    rw [List.getElem?_map] at h1 h2
    cases e : ts[j]? with
    | none => rw [e] at h1; cases h1
    | some t => rw [e] at h1 h2; cases h1; cases h2; exact .str t
theorem RepD.t1 {K : PySem.W.Frag} {H : Hp} {a : Addr} {x : V} {d : Dt} (h : SqT K H a [x]) (h1 : RepD K H d x) : RepD K H (.tup [d]) (.ref a) :=
  .tup h rfl fun j d' x' e1 e2 => match j, e1, e2 with | 0, e1, e2 => by cases e1; cases e2; exact h1
theorem RepD.t2 {K : PySem.W.Frag} {H : Hp} {a : Addr} {x y : V} {d d2 : Dt} (h : SqT K H a [x, y]) (h1 : RepD K H d x) (h2 : RepD K H d2 y) : RepD K H (.tup [d, d2]) (.ref a) :=
  .tup h rfl fun j d' x' e1 e2 => match j, e1, e2 with
    | 0, e1, e2 => by cases e1; cases e2; exact h1
    | 1, e1, e2 => by cases e1; cases e2; exact h2
theorem RepD.t3 {K : PySem.W.Frag} {H : Hp} {a : Addr} {x y z : V} {d d2 d3 : Dt} (h : SqT K H a [x, y, z]) (h1 : RepD K H d x) (h2 : RepD K H d2 y) (h3 : RepD K H d3 z) : RepD K H (.tup [d, d2, d3]) (.ref a) :=
  .tup h rfl fun j d' x' e1 e2 => match j, e1, e2 with
    | 0, e1, e2 => by cases e1; cases e2; exact h1
    | 1, e1, e2 => by cases e1; cases e2; exact h2
    | 2, e1, e2 => by cases e1; cases e2; exact h3
theorem RepD.t4 {K : PySem.W.Frag} {H : Hp} {a : Addr} {x y z w : V} {d d2 d3 d4 : Dt} (h : SqT K H a [x, y, z, w]) (h1 : RepD K H d x) (h2 : RepD K H d2 y) (h3 : RepD K H d3 z) (h4 : RepD K H d4 w) : RepD K H (.tup [d, d2, d3, d4]) (.ref a) :=
  .tup h rfl fun j d' x' e1 e2 => match j, e1, e2 with
    | 0, e1, e2 => by cases e1; cases e2; exact h1
    | 1, e1, e2 => by cases e1; cases e2; exact h2
    | 2, e1, e2 => by cases e1; cases e2; exact h3
    | 3, e1, e2 => by cases e1; cases e2; exact h4
namespace Stm
def dt : Stm → Dt
  | .is w ts => .tup [.str "is", .str w, .tup (ts.map .str)]
  | .fls => .tup [.str "false"]
  | .neg A => .tup [.str "not", A.dt]
  | .bi o A B => .tup [.str o.txt, A.dt, B.dt]
  | .qu q X A => .tup [.str (qtx q), .str X, A.dt]
theorem deps_strs : ∀ ts : List Str, Dt.deps (ts.map Dt.str) = 0
  | [] => rfl
  | t :: r => by simp [Dt.deps, Dt.dep, deps_strs r]
theorem dep_dt : ∀ S : Stm, Dt.dep S.dt ≤ S.deep + 1
  | .is w ts => by simp [dt, Dt.dep, Dt.deps, deps_strs, deep]
  | .fls => by simp [dt, Dt.dep, Dt.deps, deep]
  | .neg A => by have := dep_dt A; simp [dt, Dt.dep, Dt.deps, deep]; omega
  | .bi o A B => by have := dep_dt A; have := dep_dt B; simp [dt, Dt.dep, Dt.deps, deep]; omega
  | .qu q X A => by have := dep_dt A; simp [dt, Dt.dep, Dt.deps, deep]; omega
end Stm
theorem RepS.repD {K : PySem.W.Frag} {H : Hp} : ∀ {S : Stm} {v : V}, RepS K H S v → RepD K H S.dt v
  | .is _ _, _, ⟨a, b, h1, h2, h3⟩ => by subst h1; exact .t3 h2 (.str _) (.str _) (.strs h3)
  | .fls, _, ⟨a, h1, h2⟩ => by subst h1; exact .t1 h2 (.str _)
  | .neg _, _, ⟨a, u, h1, h2, h3⟩ => by subst h1; exact .t2 h2 (.str _) (RepS.repD h3)
  | .bi _ _ _, _, ⟨a, u, u', h1, h2, h3, h4⟩ => by subst h1; exact .t3 h2 (.str _) (RepS.repD h3) (RepS.repD h4)
  | .qu _ _ _, _, ⟨a, u, h1, h2, h3⟩ => by subst h1; exact .t3 h2 (.str _) (.str _) (RepS.repD h3)
theorem Dt.strs_inj : ∀ {l m : List Str}, l.map Dt.str = m.map Dt.str → l = m
  | [], [], _ => rfl
  | [], _ :: _, h => by simp at h
  | _ :: _, [], h => by simp at h
  | a :: l, b :: m, h => by
    simp only [List.map_cons, List.cons.injEq, Dt.str.injEq] at h
    rw [h.1, Dt.strs_inj h.2]
theorem Stm.dt_inj : ∀ {A B : Stm}, A.dt = B.dt → A = B := by
  have ob : ∀ (o : Bi) , o.txt ≠ "is" ∧ o.txt ≠ "all" ∧ o.txt ≠ "some" := fun o => by cases o <;> refine ⟨?_, ?_, ?_⟩ <;> decide
  have oi : ∀ (o p : Bi), o.txt = p.txt → o = p := fun o p => by cases o <;> cases p <;> decide
  have qi : ∀ (q r : Bool), qtx q = qtx r → q = r := fun q r => by cases q <;> cases r <;> decide
  have qo : ∀ (q : Bool) (o : Bi), qtx q ≠ o.txt := fun q o => by cases q <;> cases o <;> decide
  have qs : ∀ (q : Bool), qtx q ≠ "is" := fun q => by cases q <;> decide
  have nt : (Str.ofString "false") ≠ (Str.ofString "not") := by decide
  intro A
  induction A with
  | is w ts =>
    intro B h
    cases B with
    | is w' ts' => simp only [dt, Dt.tup.injEq, List.cons.injEq, Dt.str.injEq] at h; obtain ⟨_, rfl, h, _⟩ := h; rw [Dt.strs_inj h]
    | bi o A B => simp only [dt, Dt.tup.injEq, List.cons.injEq, Dt.str.injEq] at h; exact absurd h.1.symm (ob o).1
    | qu q X A => simp only [dt, Dt.tup.injEq, List.cons.injEq, Dt.str.injEq] at h; exact absurd h.1.symm (qs q)
    | fls => simp [dt] at h
    | neg A => simp [dt] at h
  | fls =>
    intro B h
    cases B with
    | fls => rfl
    | _ => simp [dt] at h
  | neg A ih =>
    intro B h
    cases B with
    | neg B => simp only [dt, Dt.tup.injEq, List.cons.injEq, Dt.str.injEq] at h; rw [ih h.2.1]
    | _ => simp [dt] at h
  | bi o A B ihA ihB =>
    intro C h
    cases C with
    | bi p C D => simp only [dt, Dt.tup.injEq, List.cons.injEq, Dt.str.injEq] at h; rw [oi _ _ h.1, ihA h.2.1, ihB h.2.2.1]
    | is w ts => simp only [dt, Dt.tup.injEq, List.cons.injEq, Dt.str.injEq] at h; exact absurd h.1 (ob o).1
    | qu q X C => simp only [dt, Dt.tup.injEq, List.cons.injEq, Dt.str.injEq] at h; exact absurd h.1.symm (qo q o)
    | fls => simp [dt] at h
    | neg A => simp [dt] at h
  | qu q X A ih =>
    intro B h
    cases B with
    | qu r Y B => simp only [dt, Dt.tup.injEq, List.cons.injEq, Dt.str.injEq] at h; rw [qi _ _ h.1, h.2.1, ih h.2.2.1]
    | is w ts => simp only [dt, Dt.tup.injEq, List.cons.injEq, Dt.str.injEq] at h; exact absurd h.1 (qs q)
    | bi o A B => simp only [dt, Dt.tup.injEq, List.cons.injEq, Dt.str.injEq] at h; exact absurd h.1 (qo q o)
    | fls => simp [dt] at h
    | neg A => simp [dt] at h
theorem Stm.dt_dec (A B : Stm) : decide (A.dt = B.dt) = decide (A = B) := by
  by_cases h : A = B
  · subst h; simp
  · rw [decide_eq_false h, decide_eq_false fun e => h (Stm.dt_inj e)]
section
variable {X : Cx}
def rEqC (K : PySem.W.Frag) : R2 := fun x y H Q => rEq x y H Q ∨ rEqT K x y H Q
def rNeC (K : PySem.W.Frag) : R2 := fun x y H Q => rNe x y H Q ∨ rNeT K x y H Q
def rInC (K : PySem.W.Frag) (neg : Bool) : R2 := fun x y H Q => rInA K neg x y H Q ∨ rInT K neg x y H Q
theorem opC_eq (K : PySem.W.Frag) (hu : X.A.units + 64 < cLine) (hK : X.K = K := by rfl) : OpR X (compareOp .Eq) (rEqC K) := hK ▸ (OpR.or op_eq (op_eqT hu) : OpR X (compareOp .Eq) (rEqC X.K))
theorem opC_ne (K : PySem.W.Frag) (hu : X.A.units + 64 < cLine) (hK : X.K = K := by rfl) : OpR X (compareOp .NotEq) (rNeC K) := hK ▸ (OpR.or op_ne (op_neT hu) : OpR X (compareOp .NotEq) (rNeC X.K))
theorem opC_notin (K : PySem.W.Frag) (hu : X.A.units + 64 < cLine) (hK : X.K = K := by rfl) : OpR X (compareOp .NotIn) (rInC K true) := hK ▸ (OpR.or (opA_notin X.K) (op_notInT hu) : OpR X (compareOp .NotIn) (rInC X.K true))
end
end L2
namespace L2
open PySem PySem.Spec PyProof.Rows
section
variable {K : PySem.W.Frag} {H : Hp} {Q : VK} {i j : Int} {x y : Str} {p q : Addr} {u : V} {neg : Bool}
theorem RepD.of_int {d : Dt} (h : RepD K H d (.int i)) : d = .int i := by cases h; rfl
theorem RepD.of_str {d : Dt} (h : RepD K H d (.str x)) : d = .str x := by cases h; rfl
theorem w_eqIC : rEqC K (.int i) (.int j) H Q = Q (.bl (decide (i = j))) H := by
  refine propext ⟨fun h => ?_, fun h => .inl ⟨rfl, by simpa using h⟩⟩
  rcases h with ⟨_, h⟩ | ⟨d, d', h1, h2, _, h⟩
  · simpa using h
  · rw [h1.of_int, h2.of_int] at h; simpa using h
theorem w_eqSC : rEqC K (.str x) (.str y) H Q = Q (.bl (decide (x = y))) H := by
  refine propext ⟨fun h => ?_, fun h => .inl ⟨rfl, by simpa using h⟩⟩
  rcases h with ⟨_, h⟩ | ⟨d, d', h1, h2, _, h⟩
  · simpa using h
  · rw [h1.of_str, h2.of_str] at h; simpa using h
theorem w_neIC : rNeC K (.int i) (.int j) H Q = Q (.bl (!decide (i = j))) H := by
  refine propext ⟨fun h => ?_, fun h => .inl ⟨rfl, by simpa using h⟩⟩
  rcases h with ⟨_, h⟩ | ⟨d, d', h1, h2, _, h⟩
  · simpa using h
  · rw [h1.of_int, h2.of_int] at h; simpa using h
theorem w_neSC : rNeC K (.str x) (.str y) H Q = Q (.bl (!decide (x = y))) H := by
  refine propext ⟨fun h => ?_, fun h => .inl ⟨rfl, by simpa using h⟩⟩
  rcases h with ⟨_, h⟩ | ⟨d, d', h1, h2, _, h⟩
  · simpa using h
  · rw [h1.of_str, h2.of_str] at h; simpa using h
theorem w_eqRC : rEqC K (.ref p) u H Q = ∃ d d', RepD K H d (.ref p) ∧ RepD K H d' u ∧ Dt.dep d ≤ 60 ∧ Q (.bl (decide (d = d'))) H := by
  refine propext ⟨fun h => ?_, fun h => .inr h⟩
  rcases h with ⟨e, _⟩ | h
  · cases u <;> cases e
  · exact h
theorem w_eqCR : rEqC K u (.ref p) H Q = ∃ d d', RepD K H d u ∧ RepD K H d' (.ref p) ∧ Dt.dep d ≤ 60 ∧ Q (.bl (decide (d = d'))) H := by
  refine propext ⟨fun h => ?_, fun h => .inr h⟩
  rcases h with ⟨e, _⟩ | h
  · cases u <;> cases e
  · exact h
theorem w_neRC : rNeC K (.ref p) u H Q = ∃ d d', RepD K H d (.ref p) ∧ RepD K H d' u ∧ Dt.dep d ≤ 60 ∧ Q (.bl (!decide (d = d'))) H := by
  refine propext ⟨fun h => ?_, fun h => .inr h⟩
  rcases h with ⟨e, _⟩ | h
  · cases u <;> cases e
  · exact h
theorem w_neCR : rNeC K u (.ref p) H Q = ∃ d d', RepD K H d u ∧ RepD K H d' (.ref p) ∧ Dt.dep d ≤ 60 ∧ Q (.bl (!decide (d = d'))) H := by
  refine propext ⟨fun h => ?_, fun h => .inr h⟩
  rcases h with ⟨e, _⟩ | h
  · cases u <;> cases e
  · exact h
theorem w_inCS : rInC K false (.str x) (.str y) H Q = Q (.bl (inS x y)) H := by
  refine propext ⟨fun h => ?_, fun h => .inl (.inl ⟨x, y, rfl, rfl, h⟩)⟩
  rcases h with (⟨_, _, e1, e2, h⟩ | ⟨_, _, e, _⟩) | ⟨_, _, _, h, _⟩
  · cases e1; cases e2; exact h
  · cases e
  · rcases h with h | h <;> cases h
theorem w_notinCS : rInC K true (.str x) (.str y) H Q = Q (.bl (!inS x y)) H := by
  refine propext ⟨fun h => ?_, fun h => .inl (.inl ⟨x, y, rfl, rfl, h⟩)⟩
  rcases h with (⟨_, _, e1, e2, h⟩ | ⟨_, _, e, _⟩) | ⟨_, _, _, h, _⟩
  · cases e1; cases e2; exact h
  · cases e
  · rcases h with h | h <;> cases h
theorem w_inCR : rInC K neg u (.ref p) H Q = (rIn K neg u (.ref p) H Q ∨ rInT K neg u (.ref p) H Q) := by
  refine propext ⟨fun h => ?_, fun h => ?_⟩
  · rcases h with (⟨_, _, _, e2, _⟩ | h) | h
    · cases e2
    · exact .inl h
    · exact .inr h
  · rcases h with h | h
    · exact .inl (.inr h)
    · exact .inr h
end
end L2
set_option Elab.async false
set_option linter.all false
set_option maxRecDepth 100000
set_option maxHeartbeats 4000000
namespace L2
open PySem PySem.Spec PyProof.Rows
open PySem.Builtin PySem.Builtin.Str
section
variable {X : Cx}
def rIs (f : Str → Bool) : V → List V → Hp → VK → Prop := fun x vs H Q => ∃ z, x = .str z ∧ vs = [] ∧ Q (.bl (f z)) H
end
section
variable {K : PySem.W.Frag} {H : Hp} {Q : VK} {x y : Str} {f : Str → Bool} {g : Str → Str → Bool}
theorem w_is : rIs f (.str x) [] H Q = Q (.bl (f x)) H := propext ⟨fun ⟨_, e, _, h⟩ => by cases e; exact h, fun h => ⟨x, rfl, rfl, h⟩⟩
end
end L2
namespace L2
open PySem PySem.Spec PyProof.Rows
section
variable {X : Cx} {o : Expr} {name : Str} {to : TE} {T iid : String} {r : V → List V → Hp → VK → Prop} {apos cpos : Pos}
end
end L2
set_option Elab.async false
set_option linter.all false
set_option maxRecDepth 100000
set_option maxHeartbeats 4000000
namespace L2
open PySem PySem.Spec PyProof.Rows
section
variable {X : Cx}
def rAny (K : PySem.W.Frag) : List V → Hp → VK → Prop := fun xs H Q => ∃ (p : Addr) (bs : List Bool), xs = [.ref p] ∧ SqL K H p (bs.map V.bl) ∧ Q (.bl (bs.any id)) H
theorem w_any {K : PySem.W.Frag} {p : Addr} {H : Hp} {Q : VK} : rAny K [.ref p] H Q = ∃ bs : List Bool, SqL K H p (bs.map V.bl) ∧ Q (.bl (bs.any id)) H := by
  refine propext ⟨fun ⟨_, bs, e, h⟩ => ?_, fun ⟨bs, h⟩ => ⟨p, bs, rfl, h⟩⟩
  cases e; exact ⟨bs, h⟩
def rSum (K : PySem.W.Frag) : List V → Hp → VK → Prop := fun xs H Q => ∃ (p : Addr) (ns : List Int), xs = [.ref p] ∧ SqL K H p (ns.map V.int) ∧ Q (.int ns.sum) H
theorem w_sum {K : PySem.W.Frag} {p : Addr} {H : Hp} {Q : VK} : rSum K [.ref p] H Q = ∃ ns : List Int, SqL K H p (ns.map V.int) ∧ Q (.int ns.sum) H := by
  refine propext ⟨fun ⟨_, bs, e, h⟩ => ?_, fun ⟨bs, h⟩ => ⟨p, bs, rfl, h⟩⟩
  cases e; exact ⟨bs, h⟩
end
end L2
namespace L2
open PySem PySem.Spec PyProof.Rows
section
variable {K : PySem.W.Frag} {σ : St} {H : Hp} {Q : VK} {D : Ends} {ta tb tc te : TE} {r r' : R2} {i n : Nat} {ti : TIp} {g : TG} {gs : TGs} {v : V} {vs : List V} {R : St → Hp → Prop} {f : Int → Int → Int} {a b : Int}
theorem w_aug : tAug i te ti D σ H = ∃ x, σ[i]? = some (some x) ∧ te σ H fun y H1 => ti x y H1 fun z H2 => D.nx (σ.set i (some z)) H2 := rfl
theorem w_ipI : ipI f (.int a) (.int b) H Q = Q (.int (f a b)) H := propext ⟨fun ⟨_, _, e, e', h⟩ => by cases e; cases e'; exact h, fun h => ⟨a, b, rfl, rfl, h⟩⟩
theorem w_gTup {p : Addr} : gTup K n gs (.ref p) σ H R = ∃ xs, SqT K H p xs ∧ xs.length = n ∧ gs xs σ H R := propext ⟨fun ⟨_, xs, e, h⟩ => by cases e; exact ⟨xs, h⟩, fun ⟨xs, h⟩ => ⟨p, xs, rfl, h⟩⟩
theorem w_gCons : gCons g gs (v :: vs) σ H R = g v σ H fun σ' H' => gs vs σ' H' R := propext ⟨fun ⟨_, _, e, h⟩ => by cases e; exact h, fun h => ⟨v, vs, rfl, h⟩⟩
theorem w_gNil : gNil [] σ H R = R σ H := propext ⟨fun h => h.2, fun h => ⟨rfl, h⟩⟩
end
end L2
set_option Elab.async false
set_option linter.all false
set_option maxRecDepth 100000
set_option maxHeartbeats 4000000
namespace L2
open PySem PySem.Spec PyProof.Rows
section
variable {X : Cx} {pins : List (Addr × Obj)} {σ : St} {H : Hp} {s : Shared}
end
end L2
namespace L2
open PySem PySem.Spec PyProof.Rows
def PS1 (X : Cx) (st : Stmt) (t : TS) : Prop :=
  ∀ (pins : List (Addr × Obj)) (s : Shared) (σ : St) (H : Hp) (D : Ends), 1 ≤ s.toks → Inv X pins σ H s → t D σ H → wpAny (model X.prog X.w) X.A (exec st X.env) (SP X pins D) X.xe s
section
variable {X : Cx}
end
end L2
set_option Elab.async false
set_option linter.all false
set_option maxRecDepth 100000
set_option maxHeartbeats 4000000
namespace L2
open PySem PySem.Spec PyProof.Rows
def PE1 (X : Cx) (e : Expr) (t : TE) : Prop :=
  ∀ (pins : List (Addr × Obj)) (s : Shared) (σ : St) (H : Hp) (Q : VK), 1 ≤ s.toks → Inv X pins σ H s → t σ H Q → wpAny (model X.prog X.w) X.A (eval e X.env) (EP X pins σ Q) X.xe s
def PA1 (X : Cx) (es : List Expr) (t : TA) : Prop :=
  ∀ (pos : Pos) (pins : List (Addr × Obj)) (s : Shared) (σ : St) (H : Hp) (Q : List V → Hp → Prop), 1 ≤ s.toks → Inv X pins σ H s → t σ H Q → wpAny (model X.prog X.w) X.A (spliced (backTo pos (starEach es X.env))) (AP X pins σ Q) X.xe s
def PSs1 (X : Cx) (st : List Stmt) (t : TS) : Prop :=
  ∀ (pins : List (Addr × Obj)) (s : Shared) (σ : St) (H : Hp) (D : Ends), 1 ≤ s.toks → Inv X pins σ H s → t D σ H → wpAny (model X.prog X.w) X.A (execs st X.env) (SP X pins D) X.xe s
section
variable {X : Cx} {e : Expr} {es : List Expr} {st : Stmt} {rest : List Stmt} {te : TE} {ta : TA} {t u : TS} {pos : Pos}
theorem PE.up (h : PE X e te) : PE1 X e te := fun pins s σ H Q _ => h pins s σ H Q
theorem PA.up (h : PA X es ta) : PA1 X es ta := fun pos pins s σ H Q _ => h pos pins s σ H Q
theorem PS.up (h : PS X st t) : PS1 X st t := fun pins s σ H D _ => h pins s σ H D
theorem PSs.up (h : PSs X rest t) : PSs1 X rest t := fun pins s σ H D _ => h pins s σ H D
end
structure FnOk1 (P : Program) (w : World) (K : PySem.W.Frag) (mg : Str → Option Value) (base : Heap) (CX : CXT) (k : Nat) (f : Addr) (fd : FuncData) (ps : List Str) (sp : Sp) : Prop where
  len : ∀ vs H Q E, sp vs H Q E → vs.length = ps.length
  run : ∀ (A : Around) (outer : List Env) (s : Shared) (H : Hp) (args : Args) (us : List Value) (vs : List V) (Q : VK) (E : XK), 1 ≤ s.toks → Room k A → Env0 P w K mg base A outer s H → BindsTo s fd args (ps.zip us) → Vals vs us → sp vs H Q E →
    codeAny (model P w) A (.call (.ref f) args) (CR CX outer P w H s Q E) s
theorem PSs1.nox {X : Cx} {st : List Stmt} {t : TS} (h : PSs1 X.nox st t) : PSs1 X st t := fun pins s σ H D ht I hw =>
  wpAny_mono (h pins s σ H D ht (I.wish _) hw) (fun _ _ q => SP.unwish q) fun _ _ z => z.elim
section
variable {X : Cx} {CX : CXT} {k : Nat} {f C : Addr} {fd : FuncData} {ps : List Str} {sp : Sp} {dvs : List V} {ds : List Value} {E : XK} {x : Str} {p pos : Pos} {e : Expr} {es : List Expr} {t : TA}
end
end L2
namespace L2
open PySem PySem.Spec PyProof.Rows
section
variable {X : Cx} {CX : CXT} {k : Nat} {f C : Addr} {fd : FuncData} {ps : List Str} {sp : Sp} {dvs : List V} {ds : List Value} {E : XK} {x : Str} {p pos : Pos} {e : Expr} {es : List Expr} {te : TE} {t : TA} {tt u : TS} {st : Stmt} {rest : List Stmt}
def PAb (X : Cx) (es : List Expr) (t : TA) : Prop :=
  ∀ (pos : Pos) (pins : List (Addr × Obj)) (s : Shared) (σ : St) (H : Hp) (Q : List V → Hp → Prop), Inv X pins σ H s → t σ H Q → wpAny (model X.prog X.w) X.A (spliced (backTo pos (starEach es X.env))) (fun us s' => 1 ≤ s'.toks ∧ AP X pins σ Q us s') X.xe s
def PSb (X : Cx) (st : Stmt) (t : TS) : Prop :=
  ∀ (pins : List (Addr × Obj)) (s : Shared) (σ : St) (H : Hp) (D : Ends), Inv X pins σ H s → t D σ H → wpAny (model X.prog X.w) X.A (exec st X.env) (fun f s' => 1 ≤ s'.toks ∧ SP X pins D f s') X.xe s
def PEb (X : Cx) (e : Expr) (t : TE) : Prop :=
  ∀ (pins : List (Addr × Obj)) (s : Shared) (σ : St) (H : Hp) (Q : VK), Inv X pins σ H s → t σ H Q → wpAny (model X.prog X.w) X.A (eval e X.env) (fun u s' => 1 ≤ s'.toks ∧ EP X pins σ Q u s') X.xe s
end
end L2
set_option Elab.async false
set_option linter.all false
set_option maxRecDepth 100000
set_option maxHeartbeats 4000000
namespace L2
open PySem PySem.Spec PyProof.Rows
end L2
set_option Elab.async false
set_option linter.all false
set_option maxRecDepth 100000
set_option maxHeartbeats 4000000
namespace L2
open PySem PySem.Spec PyProof.Rows
def flushW (acc : List Nat) : List (List Nat) := if acc = [] then [] else [acc]
def wd (acc : List Nat) : List Nat → List (List Nat)
  | [] => flushW acc
  | c :: r => if c = 32 then flushW acc ++ wd [] r else wd (acc ++ [c]) r
def sgn (c : Nat) : Prop := c = 40 ∨ c = 41 ∨ c = 44
instance (c : Nat) : Decidable (sgn c) := by unfold sgn; infer_instance
end L2
set_option Elab.async false
set_option linter.all false
set_option maxRecDepth 100000
set_option maxHeartbeats 4000000
namespace HT
open PySem PyProof.Rows
section
variable {prog : Program} {w : World} {A : Around} {E : Value → Shared → Prop} {s : Shared}
theorem getItem_tuple_whole {t sl : Addr} {items : Array Value} {vl vu : Value} {lo hi : Option Int} {Q : Value → Shared → Prop} (ht : IsTup s.heap t items) (hs : s.heap.IsSliceOf sl vl vu .none) (pl : IsPart vl lo) (pu : IsPart vu hi)
    (hw : sIx items.size 0 lo = 0 ∧ sIx items.size items.size hi = items.size) (h : Q (.ref t) s) : wpAny (model prog w) A (getItem (.ref t) (.ref sl)) Q E s := by
  obtain ⟨os, hos, hcs, hds⟩ := id hs
  have hTs : s.TypeIs (.ref sl) "slice" := ⟨os, hos, hcs⟩
  unfold getItem
  try with_reducible refine wpAny_holding ?_
  first | refine wpAny_bind (wpAny_pure ?_) | skip
  refine wpAny_bind (wpAny_sequenceKey ht.typeIs (by decide) ?_)
  refine wpAny_bind (wpAny_callSpecial?_slot (name := Str.ofString "__getitem__") ht.typeIs PyProof.Rows.slot_tuple_getitem
    (wpAny_call_entry PyProof.Rows.slot_tuple_getitem ht.typeIs entry_tuple_getitem ?_ (args_tuple_getitem _ _)))
  show wpAny _ _ (Builtin.Tuple.tupleItemsOf (.ref t) >>= _) _ _ s
  refine wpAny_bind (tupleItemsOf_ ht ?_)
  refine wpAny_bind (wpAny_typeOf hTs ?_)
  rw [if_pos (by decide)]
  refine wpAny_bind (sliceApplied_gen hs pl pu ?_)
  show wpAny _ _ (if (((sIx items.size 0 lo : Nat) : Int) == 0 && (1 : Int) == 1 && (sIx items.size items.size hi - sIx items.size 0 lo) == items.size) = true then _ else _) _ _ s
  rw [hw.1, hw.2, if_pos (by simp)]
  refine wpAny_bind (m := Builtin.Tuple.tupleIsExact _) (wpAny_bind (wpAny_typeOf ht.typeIs (wpAny_pure ?_)))
  rw [if_pos (by decide)]
  exact wpAny_bind (wpAny_rule (wpAny_pure ⟨_, rfl, wpAny_pure h⟩))
theorem cat_tup0 {t b : Addr} {vs ws : List Value} {Q : Value → Shared → Prop} (ht : IsTup s.heap t vs.toArray) (hb : IsTup s.heap b ws.toArray) (hv : vs = [])
    (h1 : Q (.ref b) s) : wpAny (model prog w) A (binaryOp .Add (.ref t) (.ref b)) Q E s := by
  obtain ⟨⟨cls, dd, data, sl⟩, ho, hc, n, hd⟩ := id ht
  obtain ⟨⟨cls2, dd2, data2, sl2⟩, ho2, hc2, n2, hd2⟩ := id hb
  simp only at hc hd hc2 hd2
  subst hc hd hc2 hd2
  exact concat_meets ⟨_, ho, rfl⟩ ⟨_, ho2, rfl⟩ noFill_tuple_add seq_tuple_add PySem.F.slot_tuple_add PySem.F.entry_tuple_add (PySem.F.args_tuple_add_2 _ _)
      (tuple_addW0 t b vs.toArray ws.toArray n n2 dd dd2 sl sl2 (by simp [hv])) ⟨ho, ho2, h1⟩
end
end HT
namespace L2
open PySem PySem.Spec PyProof.Rows
section
variable {X : Cx}
def rSlT2 (K : PySem.W.Frag) : V → Option Int → Option Int → Hp → VK → Prop := fun x lo hi H Q => ∃ a xs, x = .ref a ∧ SqT K H a xs ∧ ∀ q H', Same H H' → SqT K H' q (cutV xs lo hi) → Q (.ref q) H'
theorem sl_tup2 : SlR X (rSlT2 X.K) := by
  intro pins s σ H x v vl vu lo hi sl Q I rx hs pl pu h
  obtain ⟨a, xs, rfl, hx, q⟩ := h
  by_cases hw : HT.sIx xs.length 0 lo = 0 ∧ HT.sIx xs.length xs.length hi = xs.length
  · cases rx
    obtain ⟨its, r, ht, hz⟩ := I.tuple hx
    have hlen : its.toArray.size = xs.length := by rw [List.size_toArray]; exact r.length.symm
    refine ⟨"tuple", _, PyProof.Rows.slot_tuple_getitem.lookup, ht.typeIs, ?_⟩
    refine HT.getItem_tuple_whole ht hs pl pu (by rw [hlen]; exact hw) ⟨.ref a, H, I, rfl, q a H (Same.refl H) ?_⟩
    have e : cutV xs lo hi = xs := by unfold cutV; rw [hw.1, hw.2]; simp
    rw [e]; exact hx
  · exact sl_tup pins s σ H _ v vl vu lo hi sl Q I rx hs pl pu ⟨a, xs, rfl, hx, hw, fun p hp => q p _ (same_new hp _) (SqT.of upd_same)⟩
def rSlB (K : PySem.W.Frag) : V → Option Int → Option Int → Hp → VK → Prop := fun x lo hi H Q => rSlS x lo hi H Q ∨ (rSlL K x lo hi H Q ∨ rSlT2 K x lo hi H Q)
theorem slB (K : PySem.W.Frag) (hK : X.K = K := by rfl) : SlR X (rSlB K) := hK ▸ (SlR.or sl_str (SlR.or sl_list sl_tup2) : SlR X (rSlB X.K))
def rCatT2 (K : PySem.W.Frag) : R2 := fun x y H Q => ∃ a b xs ys, x = .ref a ∧ y = .ref b ∧ SqT K H a xs ∧ SqT K H b ys ∧ xs.length + ys.length ≤ sizeLine ∧ ∀ q H', Same H H' → SqT K H' q (xs ++ ys) → Q (.ref q) H'
theorem op_catT2 : OpR X (binaryOp .Add) (rCatT2 X.K) := by
  intro pins s σ H x y v u Q I rx ry h
  obtain ⟨a, b, xs, ys, rfl, rfl, ha, hb, hz, q⟩ := h
  by_cases hx : xs = []
  · subst hx
    cases rx; cases ry
    obtain ⟨its, r1, p1, _⟩ := I.tuple ha
    obtain ⟨its2, r2, p2, _⟩ := I.tuple hb
    exact HT.cat_tup0 p1 p2 (r1.nil_iff.mpr rfl) ⟨.ref b, H, I, rfl, q b H (Same.refl H) hb⟩
  · exact op_catT pins s σ H _ _ v u Q I rx ry ⟨a, b, xs, ys, rfl, rfl, ha, hb, hx, hz, fun e => q a H (Same.refl H) (by subst e; rw [List.append_nil]; exact ha), fun _ p hp => q p _ (same_new hp _) (SqT.of upd_same)⟩
def rAddB (K : PySem.W.Frag) : R2 := fun x y H Q => rI0 (fun i j => .int (i + j)) x y H Q ∨ (rAddS x y H Q ∨ (rCat x y H Q ∨ rCatT2 K x y H Q))
theorem opB_add (K : PySem.W.Frag) (hK : X.K = K := by rfl) : OpR X (binaryOp .Add) (rAddB K) := hK ▸ (OpR.or op_add (OpR.or op_add_str (OpR.or op_cat op_catT2)) : OpR X (binaryOp .Add) (rAddB X.K))
end
section
variable {K : PySem.W.Frag} {σ : St} {H : Hp} {Q : VK} {D : Ends} {p q : Addr} {x y : Str} {i j : Int} {lo hi : Option Int} {a b : Bool} {tc : TT} {tb : TS} {ta : TA} {te : TE} {R : It → Hp → Prop}
theorem w_slSB : rSlB K (.str x) lo hi H Q = (x.length ≤ sizeLine ∧ Q (.str (Txt.slice x lo hi)) H) := by
  refine propext ⟨fun h => ?_, fun ⟨h, k⟩ => .inl ⟨x, rfl, h, k⟩⟩
  rcases h with ⟨_, e, h⟩ | ⟨_, _, e, _⟩ | ⟨_, _, e, _⟩
  · cases e; exact h
  · cases e
  · cases e
theorem w_slRB : rSlB K (.ref p) lo hi H Q = ∃ xs, (SqL K H p xs ∧ ∀ q, H q = none → Q (.ref q) (upd H q (.lst (cutV xs lo hi)))) ∨
    (SqT K H p xs ∧ ∀ q H', Same H H' → SqT K H' q (cutV xs lo hi) → Q (.ref q) H') := by
  refine propext ⟨fun h => ?_, fun ⟨xs, h⟩ => ?_⟩
  · rcases h with ⟨_, e, _⟩ | ⟨_, xs, e, h⟩ | ⟨_, xs, e, h⟩
    · cases e
    · cases e; exact ⟨xs, .inl h⟩
    · cases e; exact ⟨xs, .inr h⟩
  · rcases h with h | h
    · exact .inr (.inl ⟨p, xs, rfl, h⟩)
    · exact .inr (.inr ⟨p, xs, rfl, h⟩)
theorem w_addIB : rAddB K (.int i) (.int j) H Q = Q (.int (i + j)) H := by
  refine propext ⟨fun h => ?_, fun h => .inl ⟨i, j, rfl, rfl, h⟩⟩
  rcases h with ⟨_, _, e1, e2, h⟩ | ⟨_, _, e, _⟩ | ⟨_, _, _, _, e, _⟩ | ⟨_, _, _, _, e, _⟩
  · cases e1; cases e2; exact h
  · cases e
  · cases e
  · cases e
theorem w_addSB : rAddB K (.str x) (.str y) H Q = (x.length + y.length ≤ sizeLine ∧ Q (.str (x ++ y)) H) := by
  refine propext ⟨fun h => ?_, fun ⟨h, k⟩ => .inr (.inl ⟨x, y, rfl, rfl, h, k⟩)⟩
  rcases h with ⟨_, _, e, _⟩ | ⟨_, _, e1, e2, h⟩ | ⟨_, _, _, _, e, _⟩ | ⟨_, _, _, _, e, _⟩
  · cases e
  · cases e1; cases e2; exact h
  · cases e
  · cases e
theorem w_catRB : rAddB K (.ref p) (.ref q) H Q = ∃ xs zs, (H p = some (.lst xs) ∧ H q = some (.lst zs) ∧ xs.length + zs.length ≤ sizeLine ∧ ∀ r, H r = none → Q (.ref r) (upd H r (.lst (xs ++ zs)))) ∨
    (SqT K H p xs ∧ SqT K H q zs ∧ xs.length + zs.length ≤ sizeLine ∧ ∀ r H', Same H H' → SqT K H' r (xs ++ zs) → Q (.ref r) H') := by
  refine propext ⟨fun h => ?_, fun ⟨xs, zs, h⟩ => ?_⟩
  · rcases h with ⟨_, _, e, _⟩ | ⟨_, _, e, _⟩ | ⟨_, _, xs, zs, e1, e2, h⟩ | ⟨_, _, xs, zs, e1, e2, h⟩
    · cases e
    · cases e
    · cases e1; cases e2; exact ⟨xs, zs, .inl h⟩
    · cases e1; cases e2; exact ⟨xs, zs, .inr h⟩
  · rcases h with h | h
    · exact .inr (.inr (.inl ⟨p, q, xs, zs, rfl, rfl, h⟩))
    · exact .inr (.inr (.inr ⟨p, q, xs, zs, rfl, rfl, h⟩))
theorem w_instBlB {T : String} : rInstB K T [.bl a, .ty T] H Q = ∃ c, PySem.W.kitOne K (.type "bool") (.type T) = some c ∧ Q (.bl c) H := by
  refine propext ⟨fun ⟨_, _, b, e, t, h⟩ => ?_, fun ⟨b, h⟩ => ⟨_, _, b, rfl, .of (.bl a), h⟩⟩
  cases e
  rcases t with t | t | t
  cases t; exact ⟨b, h⟩
theorem w_eqBl : rEq (.bl a) (.bl b) H Q = Q (.bl (decide (a = b))) H := by
  refine propext ⟨fun ⟨_, h⟩ => ?_, fun h => ⟨rfl, ?_⟩⟩
  · rw [dec_bl] at h; exact h
  · rw [dec_bl]; exact h
theorem w_neBl : rNe (.bl a) (.bl b) H Q = Q (.bl (!decide (a = b))) H := by
  refine propext ⟨fun ⟨_, h⟩ => ?_, fun h => ⟨rfl, ?_⟩⟩
  · rw [dec_bl] at h; exact h
  · rw [dec_bl]; exact h
theorem w_eqBlB : rEqB K (.bl a) (.bl b) H Q = Q (.bl (decide (a = b))) H := by
  refine propext ⟨fun h => ?_, fun h => .inl (w_eqBl ▸ h)⟩
  rcases h with h | ⟨d, b, hd, h, _⟩
  · rw [w_eqBl] at h; exact h
  · rcases h with h | h <;> cases h
theorem w_eqBlC : rEqC K (.bl a) (.bl b) H Q = Q (.bl (decide (a = b))) H := by
  refine propext ⟨fun h => ?_, fun h => .inl (w_eqBl ▸ h)⟩
  rcases h with h | ⟨d, d', h, _⟩
  · rw [w_eqBl] at h; exact h
  · cases h
theorem w_neBlC : rNeC K (.bl a) (.bl b) H Q = Q (.bl (!decide (a = b))) H := by
  refine propext ⟨fun h => ?_, fun h => .inl (w_neBl ▸ h)⟩
  rcases h with h | ⟨d, d', h, _⟩
  · rw [w_neBl] at h; exact h
  · cases h
theorem w_break : tBreak D σ H = D.bk σ H := rfl
theorem w_cont : tCont D σ H = D.ct σ H := rfl
theorem w_isN : tIsN te σ H Q = te σ H fun x H1 => Q (.bl (decide (x = .non))) H1 := rfl
theorem w_notN : tNotN te σ H Q = te σ H fun x H1 => Q (.bl (!decide (x = .non))) H1 := rfl
theorem w_while : tWhile tc tb D σ H = ∃ W : Nat → St → Hp → Prop, (∃ m, W m σ H) ∧ ∀ m σ H, W m σ H →
  tc σ H fun b H1 => if b = true then ∃ N : St → Hp → Prop, (∀ σ' H', N σ' H' → ∃ m', m' < m ∧ W m' σ' H') ∧ tb { D with nx := N, ct := N, bk := D.nx } σ H1 else D.nx σ H1 := rfl
theorem w_ltS : rLtA (.str x) (.str y) H Q = Q (.bl (decide (x.cps.toList < y.cps.toList))) H := by
  refine propext ⟨fun h => ?_, fun h => .inr ⟨x, y, rfl, rfl, h⟩⟩
  rcases h with ⟨_, _, e, _⟩ | ⟨_, _, e1, e2, h⟩
  · cases e
  · cases e1; cases e2; exact h
theorem cut_to (xs : List V) (n : Nat) : cutV xs none (some (n : Int)) = xs.take n := by
  unfold cutV
  rw [HT.sIx_none, HT.sIx_nat, List.drop_zero, Nat.sub_zero]
  by_cases h : n ≤ xs.length
  · rw [Nat.min_eq_left h]
  · rw [Nat.min_eq_right (by omega), List.take_of_length_le (Nat.le_refl _), List.take_of_length_le (by omega)]
theorem SqT.keepL {xs ys zs : List V} (h : SqT K H q xs) (hp : H p = some (.lst ys)) : SqT K (upd H p (.lst zs)) q xs := by
  rcases h with (h | ⟨o, h⟩) | h
  · exact .inl (.inl (by rw [upd_ne]; exact h; rintro rfl; rw [hp] at h; cases h))
  · exact .inl (.inr ⟨o, by rw [upd_ne]; exact h; rintro rfl; rw [hp] at h; cases h⟩)
  · exact .inr h
end
end L2
set_option Elab.async false
set_option linter.all false
set_option maxRecDepth 100000
set_option maxHeartbeats 4000000
namespace L2
open PySem PySem.Spec PyProof.Rows
def opn (r : Str) : Bool := inV (.str r) [V.str "guess", V.str "new", V.str "case"]
def o1 (r : Str) : Nat := if opn r = true then 1 else 0
def nxt (k : Nat) (r : Str) (l : Nat) (p : List Nat) : List Nat := if opn r = true then p.take (l - 1) ++ [k] else p.take l
def pathAt (rs : List Str) (g : Nat → Nat) : Nat → List Nat
  | 0 => []
  | i + 1 => nxt i (rs.getD i "") (g i) (pathAt rs g i)
theorem path_len (rs : List Str) (g : Nat → Nat) : ∀ i : Nat, (pathAt rs g i).length ≤ i
  | 0 => by simp [pathAt]
  | i + 1 => by
    have ih := path_len rs g i
    show (nxt i (rs.getD i "") (g i) (pathAt rs g i)).length ≤ i + 1
    unfold nxt
    split
    · rw [List.length_append, List.length_take]; simp only [List.length_singleton]; omega
    · rw [List.length_take]; omega
theorem pathAt_open (rs : List Str) (g : Nat → Nat) {b : Nat} (h : opn (rs.getD b "") = true) : pathAt rs g (b + 1) = (pathAt rs g b).take (g b - 1) ++ [b] := by
  show nxt _ _ _ _ = _
  unfold nxt
  rw [if_pos h]
def iv (p : List Nat) : List V := p.map fun n : Nat => V.int n
theorem iv_len (p : List Nat) : (iv p).length = p.length := by simp [iv]
theorem iv_take (p : List Nat) (n : Nat) : (iv p).take n = iv (p.take n) := by simp [iv, List.map_take]
def idt (p : List Nat) : Dt := .tup (p.map fun n : Nat => Dt.int n)
theorem ints_inj : ∀ {p q : List Nat}, (p.map fun n : Nat => Dt.int n) = (q.map fun n : Nat => Dt.int n) → p = q
  | [], [], _ => rfl
  | [], b :: q, h => by simp at h
  | a :: p, [], h => by simp at h
  | a :: p, b :: q, h => by
    simp only [List.map_cons, List.cons.injEq, Dt.int.injEq] at h
    rw [ints_inj h.2, show a = b from by have := h.1; omega]
theorem idt_inj {p q : List Nat} (h : idt p = idt q) : p = q := ints_inj (Dt.tup.inj h)
theorem idt_dec (p q : List Nat) : decide (idt p = idt q) = decide (p = q) := by
  by_cases h : p = q
  · subst h; simp
  · rw [decide_eq_false h, decide_eq_false (fun z => h (idt_inj z))]
theorem idt_dep (p : List Nat) : Dt.dep (idt p) ≤ 60 := by
  have : Dt.deps (p.map fun n : Nat => Dt.int n) = 0 := by
    induction p with
    | nil => rfl
    | cons a p ih => show max (Dt.dep (.int a)) (Dt.deps (p.map fun n : Nat => Dt.int n)) = 0; rw [ih]; rfl
  show Dt.deps (p.map fun n : Nat => Dt.int n) + 1 ≤ 60
  omega
section
variable {K : PySem.W.Frag} {H H' : Hp} {a q p : Addr} {us : List V} {f : Nat → List Nat}
theorem iv_repD {l : List Nat} (h : SqT K H a (iv l)) : RepD K H (idt l) (.ref a) :=
  .tup h (by simp [iv]) fun j d x h1 h2 => by
    unfold iv at h2
    rw [List.getElem?_map] at h1 h2
    cases e : l[j]? with
    | none => rw [e] at h1; cases h1
    | some t => rw [e] at h1 h2; cases h1; cases h2; exact .int t
def RepPs (K : PySem.W.Frag) (H : Hp) (f : Nat → List Nat) (us : List V) : Prop := ∀ i v, us[i]? = some v → ∃ a, v = .ref a ∧ SqT K H a (iv (f i))
theorem RepPs.same (e : Same H H') (h : RepPs K H f us) : RepPs K H' f us := fun i v hv => let ⟨a, e1, h1⟩ := h i v hv; ⟨a, e1, e.seqT h1⟩
theorem RepPs.nil : RepPs K H f [] := fun i v hv => by simp at hv
theorem RepPs.snoc (h : RepPs K H f us) (h1 : SqT K H a (iv (f us.length))) : RepPs K H f (us ++ [.ref a]) := fun i v hv => by
  rw [List.getElem?_append] at hv
  split at hv
  · exact h i v hv
  · next hi =>
    have e : i = us.length := by
      have := List.getElem?_eq_some_iff.mp hv
      obtain ⟨z, _⟩ := this
      simp at z; omega
    subst e
    simp at hv
    subst hv
    exact ⟨a, rfl, h1⟩
theorem RepPs.keepL {ys zs : List V} (h : RepPs K H f us) (hp : H p = some (.lst ys)) : RepPs K (upd H p (.lst zs)) f us := fun i v hv => let ⟨a, e1, h1⟩ := h i v hv; ⟨a, e1, h1.keepL hp⟩
theorem RepPs.at (h : RepPs K H f us) {i : Nat} (hi : i < us.length) : ∃ a, us[i]? = some (.ref a) ∧ SqT K H a (iv (f i)) := by
  obtain ⟨a, e, h1⟩ := h i us[i] (by simp [hi])
  exact ⟨a, by rw [← e]; simp [hi], h1⟩
end
def room (g : Nat → Nat) (j : Nat) : Nat := if j = 0 then 0 else g (j - 1)
def LvOk (rs : List Str) (g : Nat → Nat) (n : Nat) : Prop := ∀ j, j < n → o1 (rs.getD j "") ≤ g j ∧ g j ≤ room g j + o1 (rs.getD j "") ∧ g j ≤ 60
theorem LvOk.snoc {rs : List Str} {g : Nat → Nat} {n l : Nat} (h : LvOk rs g n) (h1 : o1 (rs.getD n "") ≤ l) (h2 : l ≤ room g n + o1 (rs.getD n "")) (h3 : l ≤ 60) : LvOk rs (fun j => if j = n then l else g j) (n + 1) := fun j hj => by
  by_cases e : j = n
  · subst e
    have er : room (fun i => if i = j then l else g i) j = room g j := by
      unfold room
      by_cases z : j = 0
      · simp [z]
      · rw [if_neg z, if_neg z]; show (if _ then _ else _) = _; rw [if_neg (by omega)]
    rw [er]
    simp only [if_true]
    exact ⟨h1, h2, h3⟩
  · have er : room (fun i => if i = n then l else g i) j = room g j := by
      unfold room
      by_cases z : j = 0
      · simp [z]
      · rw [if_neg z, if_neg z]; show (if _ then _ else _) = _; rw [if_neg (by omega)]
    rw [er]
    simp only [if_neg e]
    exact h j (by omega)
theorem at0 {α : Type} {xs : List α} {i : Nat} {v : α} (h : xs[i]? = some v) : atI xs (0 + (i : Int)) = some v := by rw [Int.zero_add]; exact atI_nat h
theorem iv_cat (p : List Nat) (k : Nat) : iv p ++ [V.int (0 + (k : Int))] = iv (p ++ [k]) := by simp [iv]
def spBegins (K : PySem.W.Frag) : Sp := fun vs H Q _ => ∃ (a b : Addr) (p q : List Nat), vs = [.ref a, .ref b] ∧ SqT K H a (iv p) ∧ SqT K H b (iv q) ∧ ∀ H', Same H H' → Q (.bl (decide (p.take q.length = q))) H'
def spSeen (K : PySem.W.Frag) : Sp := fun vs H Q _ => ∃ (a : Addr) (us : List V) (f : Nat → List Nat) (k i : Nat), vs = [.ref a, .int k, .int i] ∧ SqT K H a us ∧ RepPs K H f us ∧ k < us.length ∧ i < us.length ∧
  ∀ H', Same H H' → Q (.bl (decide (i < k) && decide ((f k).take (f i).length = f i))) H'
end L2
set_option Elab.async false
set_option linter.all false
set_option maxRecDepth 100000
set_option maxHeartbeats 4000000
namespace L2
open PySem PySem.Spec PyProof.Rows
section
variable {X : Cx}
end
end L2
namespace L2
open PySem PySem.Spec PyProof.Rows
section
variable {K : PySem.W.Frag} {σ : St} {H H' : Hp} {Q : VK} {ta : TA} {p : Addr} {k : Int}
theorem seq_ifP {c : Prop} [Decidable c] {tt : TT} {t u : TS} {D : Ends} (ht : ∀ Qb : Bool → Hp → Prop, Qb (decide c) H → tt σ H Qb) (h1 : c → t { D with nx := u D } σ H) (h2 : ¬ c → u D σ H) : tSeq (tIfS tt t tNext) u D σ H := by
  show tt σ H fun b H1 => if b = true then t { D with nx := u D } σ H1 else u D σ H1
  refine ht _ ?_
  by_cases hc : c
  · rw [decide_eq_true hc, if_pos rfl]; exact h1 hc
  · rw [decide_eq_false hc, if_neg (by decide)]; exact h2 hc
theorem RepL.snoc {A : List Stm} {U : List V} {S : Stm} {u : V} (h : RepL K H A U) (hs : RepS K H S u) : RepL K H (A ++ [S]) (U ++ [u]) := by
  induction h with
  | nil => exact .cons hs .nil
  | cons h1 _ ih => exact .cons h1 ih
def tb (t : Str) : Prop := 1 ≤ t.length ∧ t.length ≤ 16
end
end L2
set_option Elab.async false
set_option linter.all false
set_option maxRecDepth 100000
set_option maxHeartbeats 4000000
namespace L2
open PySem PySem.Spec PyProof.Rows
section
variable {X : Cx}
def tCallV (X : Cx) (tv : TE) (t : TA) : TE := fun σ H Q => tv σ H fun z H1 => ∃ (f : Addr) (CX : CXT) (k : Nat) (fd : FuncData) (ps : List Str) (sp : Sp) (ds : List Value) (dvs : List V) (E : XK), z = .ref f ∧ FnOk X.prog X.w X.K X.mg X.base CX k f fd ps sp ∧ Room k X.A ∧
  PySem.W.keepIn X.K (.ref f) = true ∧ Binds X.K fd ps ds ∧ Vals dvs ds ∧ Passes CX X E ∧ t σ H1 fun vs H2 => sp (vs ++ dvs) H2 Q E
theorem pe_callV {x : Str} {p pos : Pos} {e : Expr} {es : List Expr} {tv : TE} {t : TA} (hv : PE X (.Name x p) tv) (ha : PA X (e :: es) t)
    (he : starEach (e :: es) X.env = (false, eval e X.env) :: starEach es X.env := by rfl) (hpl : (backTo pos (starEach es X.env)).any (·.1) = false := by rfl) : PE X (.Call (.Name x p) (e :: es) [] pos) (tCallV X tv t) := by
  intro pins s σ H Q I h
  refine wpAny_Call_Name_kw (thn (hv pins s σ H _ I h) fun u s1 ⟨z, H1, I1, r, q⟩ => ?_)
  obtain ⟨f, CX, k, fd, ps, sp, ds, dvs, E, rfl, F, hr, hk, hb, hd, hx, q⟩ := q
  cases r
  refine PySem.W.callWith_K (h₀ := X.base) I1.ok.mod.kin hk (thn (ha pos pins s1 σ H1 _ I1 q) fun us s2 ⟨vs, H2, I2, r2, q2⟩ => ⟨I2.kIn, ?_⟩) he hpl
  exact run_fn F hr hb hd hx I2 r2 q2
theorem w_callV {tv : TE} {t : TA} {σ : St} {H : Hp} {Q : VK} : tCallV X tv t σ H Q = tv σ H fun z H1 => ∃ (f : Addr) (CX : CXT) (k : Nat) (fd : FuncData) (ps : List Str) (sp : Sp) (ds : List Value) (dvs : List V) (E : XK), z = .ref f ∧ FnOk X.prog X.w X.K X.mg X.base CX k f fd ps sp ∧ Room k X.A ∧
  PySem.W.keepIn X.K (.ref f) = true ∧ Binds X.K fd ps ds ∧ Vals dvs ds ∧ Passes CX X E ∧ t σ H1 fun vs H2 => sp (vs ++ dvs) H2 Q E := rfl
end
end L2
set_option Elab.async false
set_option linter.all false
set_option maxRecDepth 100000
set_option maxHeartbeats 4000000
namespace L2
open PySem PySem.Spec PySem.Calls PyProof.V PyProof.Rows PyProof.Rows.KTD
section
variable {X : Cx}
def TabK (K : PySem.W.Frag) (a : Addr) (D : List (Str × V)) : Prop :=
  (a == sysModules) = false ∧ ∃ (o : Obj) (es : Array DictEntry) (ep : Nat), K.lookup a = some o ∧ o.ExactDict ∧ o.data = .dict es ep ∧ KTD.Rows (fun d v => RelV d v) es.toList D
theorem dictGet_tab {prog : Program} {w : World} {A : Around} {E : Value → Shared → Prop} {s : Shared} {a : Addr} {o : Obj} {es : Array DictEntry} {ep : Nat} {D : List (Str × V)} {k : Str} {tk : Tok} {Q : Option Value → Shared → Prop}
    (ho : s.heap.get? a = some o) (hd : o.data = .dict es ep) (hr : KTD.Rows (fun d v => RelV d v) es.toList D) (hq : Q ((es.toList.find? fun e => e.key.isStr k).map (·.val)) { s with toks := s.toks + 1 }) :
    wpAny (model prog w) A (dictGet a (.str k tk)) Q E s := by
  unfold dictGet
  try with_reducible refine wpAny_holding ?_
  refine wpAny_bind (wpAny_pyHash_str (wpAny_bind (kt_dictFind_strs (s := { s with toks := s.toks + 1 }) ho hd (by obtain ⟨l⟩ := es; simpa using hr.exact) ?_)))
  have hf : findBy (fun k v => v.isStr k) es k = (es.toList.find? fun e => e.key.isStr k).map (·.val) := by
    obtain ⟨l⟩ := es
    simp [findBy]
  rw [← hf, findBy_of_findIdx?] at hq
  cases hi : es.findIdx? fun e => e.key.isStr k with
  | none => rw [hi] at hq; exact wpAny_pure hq
  | some i => rw [hi] at hq; exact wpAny_bind (wpAny_dictEntries (s := { s with toks := s.toks + 1 }) ho hd (wpAny_pure hq))
def rInTab (K : PySem.W.Frag) : R2 := fun x y H Q => ∃ k p D, x = .str k ∧ y = .ref p ∧ TabK K p D ∧ Q (.bl (inKeys k D)) H
theorem op_in_tab : OpR X (compareOp .In) (rInTab X.K) := by
  intro pins s σ H x y v u Q I rx ry h
  obtain ⟨k, p, D, rfl, rfl, ⟨hp, o, es, ep, hl, hc, hd, hr⟩, q⟩ := h
  obtain ⟨tk, rfl⟩ := rx
  cases ry
  have ho := I.kIn p o hl
  have hT : s.TypeIs (.ref p) "dict" := ⟨o, ho, hc.1⟩
  have fin : EP X pins σ Q (.bool (inKeys k D)) { s with toks := s.toks + 1 } := ⟨.bl (inKeys k D), H, I.tok _, rfl, q⟩
  show wpAny _ _ (do return Value.bool (← contains (.ref p) (.str k tk)) : Sem Value) _ _ s
  refine wpAny_bind ?_
  unfold contains
  try with_reducible refine wpAny_holding ?_
  refine wpAny_bind (wpAny_specialOf hT slot_dict_contains.lookup ?_)
  show wpAny _ _ (if (some (Value.builtin "dict.__contains__") == some Value.none) = true then _ else _) _ _ s
  rw [if_neg (by rw [beq_builtin_none]; exact Bool.false_ne_true)]
  refine wpAny_bind (wpAny_callSpecialUnlessNone?_slot (name := Str.ofString "__contains__") hT slot_dict_contains
    (wpAny_call_entry slot_dict_contains hT entry_dict_contains ?_ (args_dict_contains _ _)))
  show wpAny _ _ (dictGet p (.str k tk) >>= _) _ _ s
  refine wpAny_bind (dictGet_tab ho hd hr ?_)
  cases hat : datumAt k D with
  | some d =>
    obtain ⟨v, hv, hfl⟩ := hr.find_some hat
    have hb : inKeys k D = true := by rw [← isSome_datumAt, hat]; rfl
    rw [hb] at fin
    rw [hv]
    show wpAny _ _ (ret (.bool true)) _ _ _
    exact wpAny_pure ⟨_, rfl, wpAny_truthy_bool (wpAny_pure fin)⟩
  | none =>
    have hb : inKeys k D = false := by rw [← isSome_datumAt, hat]; rfl
    rw [hb] at fin
    rw [hr.find_none hat]
    show wpAny _ _ (Builtin.Dict.pendingKey? p (.str k tk) >>= _) _ _ _
    exact wpAny_bind (wpAny_pendingKey_other hp (wpAny_pure ⟨_, rfl, wpAny_truthy_bool (wpAny_pure fin)⟩))
theorem opT_in (K : PySem.W.Frag) (hK : X.K = K := by rfl) : OpR X (compareOp .In) (rInTab K) := hK ▸ (op_in_tab : OpR X (compareOp .In) (rInTab X.K))
def rIxTab (K : PySem.W.Frag) : R2 := fun x y H Q => ∃ k p D z, x = .ref p ∧ y = .str k ∧ TabK K p D ∧ datumAt k D = some z ∧ Q z H
theorem ix_tab : IxR X (rIxTab X.K) := by
  intro value slice pins s σ H x y v u Q I rx ry h hs
  obtain ⟨k, p, D, z, rfl, rfl, ⟨hp, o, es, ep, hl, hc, hd, hr⟩, hat, q⟩ := h
  cases rx
  obtain ⟨tk, rfl⟩ := ry
  have ho := I.kIn p o hl
  have hT : s.TypeIs (.ref p) "dict" := ⟨o, ho, hc.1⟩
  obtain ⟨w, hw, rw'⟩ := hr.find_some hat
  have fin : EP X pins σ Q w { s with toks := s.toks + 1 } := ⟨z, H, I.tok _, rw', q⟩
  refine subscriptTail_builtinR (x := w) hT slot_dict_getitem.lookup ?_ hs
  unfold getItem
  try with_reducible refine wpAny_holding ?_
  refine wpAny_bind (wpAny_sequenceKey hT (by decide) ?_)
  refine wpAny_bind (wpAny_callSpecial?_slot (name := Str.ofString "__getitem__") hT slot_dict_getitem
    (wpAny_call_entry slot_dict_getitem hT entry_dict_getitem ?_ (args_dict_getitem _ _)))
  show wpAny _ _ (dictGet p (.str k tk) >>= _) _ _ s
  refine wpAny_bind (dictGet_tab ho hd hr ?_)
  rw [hw]
  exact wpAny_pure ⟨w, rfl, wpAny_pure ⟨rfl, fin⟩⟩
theorem ixT (K : PySem.W.Frag) (hK : X.K = K := by rfl) : IxR X (rIxTab K) := hK ▸ (ix_tab : IxR X (rIxTab X.K))
theorem TabK.mk {K : PySem.W.Frag} {a : Addr} {D : List (Str × V)} {dd : List DictEntry} {ep : Nat} (h : K.lookup a = some ⟨.type "dict", none, .dict dd.toArray ep, #[]⟩) (ha : (a == sysModules) = false)
    (hr : KTD.Rows (fun d v => RelV d v) dd D) : TabK K a D := ⟨ha, _, _, _, h, ⟨rfl, rfl, rfl⟩, rfl, by simpa using hr⟩
end
end L2
set_option Elab.async false
set_option linter.all false
set_option maxRecDepth 100000
set_option maxHeartbeats 4000000
namespace L2
open PySem PySem.Spec PyProof.Rows
open AutoSeq1 (wpAny_loadPart')
section
variable {prog : Program} {w : World} {A : Around} {E : Value → Shared → Prop} {s : Shared}
theorem nextT_item {j t : Addr} {i : Nat} {us : Array Value} {v : Value} {R : Value → Shared → Prop} (hJ : s.heap.IsTupleIter j t i) (hT : s.heap.IsTuple t us) (hv : us[i]? = some v)
    (k : ∀ h1, h1.IsTupleIter j t (i + 1) → Heap.SameBut j s.heap h1 → R v { s with heap := h1 }) : wpAny (model prog w) A (Builtin.SmallTypes.nextOf (.ref j)) R E s := by
  obtain ⟨oj, gj, cj, dj⟩ := id hJ
  obtain ⟨ot, gt, _, n, dt⟩ := hT
  unfold Builtin.SmallTypes.nextOf
  refine wpAny_bind (wpAny_callSpecial?_slot (name := Str.ofString "__next__") hJ.typeIs PySem.F.slot_tuple_iterator_next (wpAny_call_entry PySem.F.slot_tuple_iterator_next hJ.typeIs PySem.F.entry_tuple_iterator_next ?_ (PySem.F.args_tuple_iterator_next_1 _)))
  show wpAny _ _ (field (.ref j) 0 >>= _) _ _ s
  refine wpAny_bind (wpAny_field gj dj (x := .ref t) rfl ?_)
  show wpAny _ _ (if ((Value.ref t : Value) == Value.none) = true then _ else _) _ _ s
  rw [if_neg (by intro z; cases z)]
  show wpAny _ _ (field (.ref j) 1 >>= _) _ _ s
  refine wpAny_bind (wpAny_field gj dj (x := .int i 0) rfl ?_)
  refine wpAny_bind (m := seqItems? (.ref t)) (wpAny_seqItems gt dt ?_)
  simp only [Int.toNat_natCast, hv]
  refine wpAny_bind (wpAny_setField gj dj (by simp) (wpAny_pure ⟨v, rfl, wpAny_pure (k _ ?_ (Heap.SameBut.update ..))⟩))
  refine ⟨_, Heap.get?_update_self _ gj (Obj.isFreed_of_fields (Obj.data_mapFields dj _)), (Obj.cls_mapFields ..).trans cj, ?_⟩
  rw [Obj.data_mapFields dj]
  simp [rawInt]
theorem nextT_end {j t : Addr} {i : Nat} {us : Array Value} {R : Value → Shared → Prop} (hh : A.handled = none) (hJ : s.heap.IsTupleIter j t i) (hT : s.heap.IsTuple t us) (hv : us[i]? = none)
    (k : ∀ h1 x, Heap.ExtBut j s.heap h1 → (∃ o, h1.get? x = some o ∧ o.cls = .type "StopIteration") → E (.ref x) { s with heap := h1 }) : wpAny (model prog w) A (Builtin.SmallTypes.nextOf (.ref j)) R E s := by
  obtain ⟨oj, gj, cj, dj⟩ := id hJ
  obtain ⟨ot, gt, _, n, dt⟩ := hT
  unfold Builtin.SmallTypes.nextOf
  refine wpAny_bind (wpAny_callSpecial?_slot (name := Str.ofString "__next__") hJ.typeIs PySem.F.slot_tuple_iterator_next (wpAny_call_entry PySem.F.slot_tuple_iterator_next hJ.typeIs PySem.F.entry_tuple_iterator_next ?_ (PySem.F.args_tuple_iterator_next_1 _)))
  show wpAny _ _ (field (.ref j) 0 >>= _) _ _ s
  refine wpAny_bind (wpAny_field gj dj (x := .ref t) rfl ?_)
  show wpAny _ _ (if ((Value.ref t : Value) == Value.none) = true then _ else _) _ _ s
  rw [if_neg (by intro z; cases z)]
  show wpAny _ _ (field (.ref j) 1 >>= _) _ _ s
  refine wpAny_bind (wpAny_field gj dj (x := .int i 0) rfl ?_)
  refine wpAny_bind (m := seqItems? (.ref t)) (wpAny_seqItems gt dt ?_)
  simp only [Int.toNat_natCast, hv]
  refine wpAny_bind (wpAny_rule (wpAny_bind (wpAny_setField gj dj (by simp) ?_)))
  show wpAny _ _ ((newExc (.type "StopIteration") []) >>= _) _ _ _
  refine wpAny_bind ?_
  simp only [newExc, newTuple]
  refine wpAny_bind (wpAny_newObj_type (wpAny_bind (m := firstArgMember _ _) (wpAny_of_eq (a := Value.none) (by first | rfl | (simp only [firstArgMember]; rfl)) (wpAny_newObj_type ?_ (by size_fits)))) (by size_fits))
  simp only [raiseNew]
  refine wpAny_bind (wpAny_handled ?_)
  first | rw [show A.in1.handled = none from hh] | rw [hh]
  refine wpAny_bind (wpAny_pure (wpAny_throw ?_))
  exact k _ _ (((Heap.SameBut.update ..).extBut.push _).push _) ⟨_, Heap.get?_push_size _ rfl, rfl⟩
theorem enumT_item {e j t : Addr} {i : Nat} {us : Array Value} {v old : Value} {R : Option Value → Shared → Prop} (hE : IsEnum s.heap e j i old) (hJ : s.heap.IsTupleIter j t i) (hT : s.heap.IsTuple t us) (hv : us[i]? = some v) (hne : e ≠ j)
    (k : ∀ (h3 h' : Heap), (∀ b o, b ≠ e → b ≠ j → s.heap.get? b = some o → h3.get? b = some o) → h3.objs.size = s.heap.objs.size →
      Heap.SameBut e (h3.push { cls := .type "tuple", data := .seq #[.int i s.toks, v] }) h' → IsEnumOut h' e j ((i : Int) + 1) v s.heap.objs.size → h'.IsTupleIter j t (i + 1) →
      R (some (.ref s.heap.objs.size)) { s with heap := h', toks := s.toks + 1 }) : wpAny (model prog w) A (pyNext (.ref e)) R E s := by
  have hTy : s.TypeIs (.ref e) "enumerate" := ⟨_, hE, rfl⟩
  unfold pyNext
  refine wpAny_bind (wpAny_attempt (wpAny_callSpecial?_slot (name := Str.ofString "__next__") hTy PySem.F.slot_enumerate_next (wpAny_call_entry PySem.F.slot_enumerate_next hTy PySem.F.entry_enumerate_next ?_ (PySem.F.args_enumerate_next_1 _))))
  obtain ⟨hp, g, d, tk, os⟩ := s
  show wpAny _ _ (field (.ref e) 2 >>= _) _ _ _
  refine wpAny_bind (wpAny_field hE rfl (x := .ref j) rfl (wpAny_bind (nextT_item hJ hT hv fun h1 hJ1 hs1 => ?_)))
  replace hs1 : Heap.SameBut j hp h1 := hs1
  have e1 : IsEnum h1 e j i old := (hs1.2 e hne).trans hE
  show wpAny _ _ (field (.ref e) 3 >>= _) _ _ ⟨h1, g, d, tk, os⟩
  refine wpAny_bind (wpAny_field e1 rfl (x := rawInt i) rfl ?_)
  show wpAny _ _ (field (.ref e) 4 >>= _) _ _ ⟨h1, g, d, tk, os⟩
  refine wpAny_bind (wpAny_field e1 rfl (x := .none) rfl ?_)
  show wpAny _ _ (mkInt i >>= _) _ _ ⟨h1, g, d, tk, os⟩
  refine wpAny_bind (wpAny_mkInt ?_)
  show wpAny _ _ (setField (.ref e) 3 (rawInt ((i : Int) + 1)) >>= _) _ _ ⟨h1, g, d, tk + 1, os⟩
  refine wpAny_bind (wpAny_setField_rec e1 (by simp) fun h2 e2 hs2 => ?_)
  replace hs2 : Heap.SameBut e h1 h2 := hs2
  replace e2 : IsEnum h2 e j ((i : Int) + 1) old := e2
  show wpAny _ _ (setField (.ref e) 4 .none >>= _) _ _ ⟨h2, g, d, tk + 1, os⟩
  refine wpAny_bind (wpAny_setField_rec e2 (by simp) fun h3 e3 hs3 => ?_)
  replace hs3 : Heap.SameBut e h2 h3 := hs3
  replace e3 : IsEnum h3 e j ((i : Int) + 1) old := e3
  show wpAny _ _ (newTuple [.int i tk, v] >>= _) _ _ ⟨h3, g, d, tk + 1, os⟩
  refine wpAny_bind (wpAny_newTuple ?_)
  have hsz : h3.objs.size = hp.objs.size := by rw [hs3.1, hs2.1, hs1.1]
  have hJ3 : h3.IsTupleIter j t (i + 1) := (hJ1.extBut hs2.extBut (Ne.symm hne)).extBut hs3.extBut (Ne.symm hne)
  have k3 : ∀ b o, b ≠ e → b ≠ j → hp.get? b = some o → h3.get? b = some o := fun b o he hj hb => hs3.extBut b o he (hs2.extBut b o he (hs1.extBut b o hj hb))
  have e4 : IsEnum (h3.push { cls := .type "tuple", data := .seq #[.int i tk, v] }) e j ((i : Int) + 1) old := Heap.get?_push_of_some _ e3
  have hJ4 : (h3.push { cls := .type "tuple", data := .seq #[.int i tk, v] }).IsTupleIter j t (i + 1) := let ⟨o, a, r⟩ := hJ3; ⟨o, Heap.get?_push_of_some _ a, r⟩
  have k' := k h3
  generalize h3.push { cls := .type "tuple", data := .seq #[.int i tk, v] } = h4 at e4 hJ4 k'
  show wpAny _ _ (Builtin.SmallTypes.ownedTupleIsFree (.ref e) >>= _) _ _ ⟨h4, g, d, tk + 1, os⟩
  rw [hsz]
  refine wpAny_bind ?_
  unfold Builtin.SmallTypes.ownedTupleIsFree
  refine wpAny_bind (wpAny_field e4 rfl (x := .none) rfl (wpAny_pure ?_))
  simp only [if_true]
  refine wpAny_bind (wpAny_rule (wpAny_bind (wpAny_field e4 rfl (x := old) rfl (wpAny_bind (wpAny_setField_rec e4 (by simp) fun h5 e5 hs5 => ?_)))))
  replace hs5 : Heap.SameBut e h4 h5 := hs5
  replace e5 : IsEnum h5 e j ((i : Int) + 1) v := e5
  show wpAny _ _ (Builtin.SmallTypes.ownedTupleHandOut (.ref e) (.ref hp.objs.size) >>= _) _ _ ⟨h5, g, d, tk + 1, os⟩
  refine wpAny_bind ?_
  unfold Builtin.SmallTypes.ownedTupleHandOut
  refine wpAny_bind (wpAny_setField_rec e5 (by simp) fun h6 e6 hs6 => ?_)
  replace hs6 : Heap.SameBut e h5 h6 := hs6
  replace e6 : IsEnumOut h6 e j ((i : Int) + 1) v hp.objs.size := e6
  refine wpAny_setField_rec e6 (by simp) fun h7 e7 hs7 => ?_
  replace hs7 : Heap.SameBut e h6 h7 := hs7
  replace e7 : IsEnumOut h7 e j ((i : Int) + 1) v hp.objs.size := e7
  have hs : Heap.SameBut e h4 h7 := ⟨by rw [hs7.1, hs6.1, hs5.1], fun b hb => (hs7.2 b hb).trans ((hs6.2 b hb).trans (hs5.2 b hb))⟩
  exact wpAny_bind (wpAny_letGo (wpAny_pure ⟨_, rfl, wpAny_pure (k' h7 k3 hsz hs e7 (hJ4.extBut hs.extBut (Ne.symm hne)))⟩))
theorem enumT_end {e j t : Addr} {i : Nat} {us : Array Value} {old : Value} {R : Option Value → Shared → Prop} (hh : A.handled = none) (hE : IsEnum s.heap e j i old) (hJ : s.heap.IsTupleIter j t i) (hT : s.heap.IsTuple t us) (hv : us[i]? = none)
    (k : ∀ h1, Heap.ExtBut j s.heap h1 → R none { s with heap := h1 }) : wpAny (model prog w) A (pyNext (.ref e)) R E s := by
  have hTy : s.TypeIs (.ref e) "enumerate" := ⟨_, hE, rfl⟩
  unfold pyNext
  refine wpAny_bind (wpAny_attempt (wpAny_callSpecial?_slot (name := Str.ofString "__next__") hTy PySem.F.slot_enumerate_next (wpAny_call_entry PySem.F.slot_enumerate_next hTy PySem.F.entry_enumerate_next ?_ (PySem.F.args_enumerate_next_1 _))))
  show wpAny _ _ (field (.ref e) 2 >>= _) _ _ _
  refine wpAny_bind (wpAny_field hE rfl (x := .ref j) rfl (wpAny_bind (nextT_end hh hJ hT hv fun h1 x hb ⟨o, ho, hc⟩ => ?_)))
  exact wpAny_bind (wpAny_isInstance (T := "StopIteration") (b := true) ⟨o, ho, hc⟩ isSubtype_stop (wpAny_pure (k _ hb)))
theorem enumT_newM (l : Addr) (us : Array Value) (n : Nat) (dct : Option Addr) (sl : Array (Option Value)) :
    Meets (Builtin.«enumerate.__new__» ⟨[.type "enumerate", .ref l], []⟩) (fun _ R s => s.heap.get? l = some { cls := .type "tuple", dict := dct, data := .seq us n, slots := sl } ∧
      R (.ok (.ret (.ref (s.heap.push { cls := .type "tuple_iterator", data := .fields #[.ref l, .int 0 0] }).objs.size)))
        { s with heap := (s.heap.push { cls := .type "tuple_iterator", data := .fields #[.ref l, .int 0 0] }).push { cls := .type "enumerate", data := .fields #[.none, .bool false, .ref s.heap.objs.size, rawInt 0, .none, .none] } }) :=
  .of_wp fun prog w A R s z => by
    obtain ⟨hp, g, d, tk, os⟩ := s; obtain ⟨hl, z⟩ := z
    have hsub := sub_enumerate
    have hL : Heap.IsTuple (Shared.heap ⟨hp, g, d, tk, os⟩) l us := ⟨_, hl, rfl, n, rfl⟩
    wp_walk using wpAny_loadPart' hl
    refine wpAny_stack_any fun st => wpAny_pure ?_
    split
    · rename_i c _ _ _ _ _
      cases (c == Value.type "enumerate") <;> (wp_walk using wpAny_loadPart' hl, wpAny_pyIter_tuple hL; exact ⟨_, rfl, z⟩)
    · wp_walk using wpAny_loadPart' hl, wpAny_pyIter_tuple hL; exact ⟨_, rfl, z⟩
theorem enumT_new {l : Addr} {us : Array Value} {R : Value → Shared → Prop} (hL : s.heap.IsTuple l us)
    (k : ∀ h', IsEnum h' (s.heap.objs.size + 1) s.heap.objs.size 0 .none → h'.IsTupleIter s.heap.objs.size l 0 → h'.objs.size = s.heap.objs.size + 2 →
      (∀ b o, s.heap.get? b = some o → h'.get? b = some o) → R (.ref (s.heap.objs.size + 1)) { s with heap := h' }) : wpAny (model prog w) A (call (.type "enumerate") [.ref l]) R E s := by
  obtain ⟨⟨c, dct, dt, sl⟩, hl, hc, n, hd⟩ := hL
  replace hc : c = .type "tuple" := hc
  replace hd : dt = .seq us n := hd
  subst hc hd
  have hz : (s.heap.push { cls := .type "tuple_iterator", data := .fields #[.ref l, .int 0 0] }).objs.size = s.heap.objs.size + 1 := Heap.size_push ..
  have he := Heap.get?_push_size (s.heap.push { cls := .type "tuple_iterator", data := .fields #[.ref l, .int 0 0] }) (o := { cls := .type "enumerate", data := .fields #[.none, .bool false, .ref s.heap.objs.size, rawInt 0, .none, .none] }) rfl
  rw [hz] at he
  refine callType_new PySem.F.called_enumerate (by decide) (PySem.F.typeCall_enumerate_1 _) (PySem.F.newCall_enumerate_1 _) (fun obj => PySem.F.args_object_init_2 obj _) PySem.F.entry_enumerate_new (enumT_newM l us n dct sl) ⟨hl, ?_⟩
  show _ ∧ _
  rw [hz]
  exact ⟨⟨_, he, rfl⟩, k _ he ⟨_, Heap.get?_push_of_some _ (Heap.get?_push_size _ rfl), rfl, rfl⟩ (by rw [Heap.size_push, hz]) fun b o x => Heap.get?_push_of_some _ (Heap.get?_push_of_some _ x)⟩
end
section
variable {X : Cx} {pins : List (Addr × Obj)} {σ : St} {H : Hp} {s : Shared} {h' : Heap}
theorem Inv.turned2 {t' : Nat} {e j : Addr} (I : Inv X pins σ H s) (k : ∀ b o, b ≠ e → b ≠ j → s.heap.get? b = some o → h'.get? b = some o) (fe : FpOk X pins H e) (fj : FpOk X pins H j) : Inv X pins σ H { s with heap := h', toks := t' } := by
  have ne : ∀ b u, H b = some u → b ≠ e := fun b u q z => by rw [z, fe.1] at q; cases q
  have nj : ∀ b u, H b = some u → b ≠ j := fun b u q z => by rw [z, fj.1] at q; cases q
  have k2 : ∀ b o, b ∉ [e, j] → s.heap.get? b = some o → h'.get? b = some o := fun b o hb q => k b o (fun z => hb (by simp [z])) (fun z => hb (by simp [z])) q
  refine I.step (g' := s.gens) (d' := s.drawn) (ch := [e, j]) (fun b hb => ?_) (fun b o _ _ hc q _ => k2 b o hc q) (fun b o _ _ hc q _ => ⟨o.slots, k2 b o hc q⟩) (fun _ _ _ _ n => n)
    (fun b o hc q => ⟨o, k2 b o hc q⟩) (fun _ _ q => q) (fun _ _ _ q => q) (fun b ps q => ⟨#[], by rw [q]; simp⟩) (fun m hm => ?_) (fun b u q => ?_) I.bare
  · rcases List.mem_cons.mp hb with rfl | hb
    · exact ⟨fe.2.2.2.1, fe.2.1, fe.2.2.2.2.1, fe.2.2.2.2.2⟩
    · rw [List.mem_singleton.mp hb]; exact ⟨fj.2.2.2.1, fj.2.1, fj.2.2.2.2.1, fj.2.2.2.2.2⟩
  · obtain ⟨o, es, ep, ho, r⟩ := hm
    exact ⟨o, es, ep, k _ o (Ne.symm fe.2.1) (Ne.symm fj.2.1) ho, r⟩
  · refine (I.hok b u q).stay (fun c v hc q2 => ?_) (fun _ q => q) fun _ _ q => q
    rcases hc with z | z
    · rw [z] at q2 ⊢; exact k b v (ne b u q) (nj b u q) q2
    · exact k c v (ne c _ z) (nj c _ z) q2
end
def Ite (K : PySem.W.Frag) (a : Addr) : It :=
  ⟨fun i H => ∃ xs x, SqT K H a xs ∧ xs[i]? = some x, fun i H v H' => ∃ t y, v = .ref t ∧ H t = none ∧ H' = upd H t (.tup [.int i, y]) ∧ ∀ xs, SqT K H a xs → xs[i]? = some y, fun i H => ∃ xs, SqT K H a xs ∧ xs.length ≤ i⟩
theorem turn_enum {P : Program} {w : World} {K : PySem.W.Frag} {es : List Expr} {kx : Nat} {pos : Pos} (a e j : Addr) (hne : e ≠ j) : Turn P w K (.Tuple es kx pos) (Ite K a) [e, j] e (fun i h => (∃ old, IsEnum h e j i old) ∧ h.IsTupleIter j a i) where
  mem := by simp
  obj := fun i h st b hb => by
    obtain ⟨⟨old, he⟩, hj⟩ := st
    rcases List.mem_cons.mp hb with rfl | hb
    · exact ⟨_, he, fun v z => by
        have z' : Data.fields _ = Data.cell v := z
        cases z'⟩
    · rw [List.mem_singleton.mp hb]
      obtain ⟨o, e1, c, d⟩ := hj
      exact ⟨o, e1, fun v z => by rw [d] at z; cases z⟩
  keep := fun i h h' st k => let ⟨⟨old, he⟩, hj⟩ := st; ⟨⟨old, k e (by simp) _ he⟩, hj.at fun o q => k j (by simp) o q⟩
  item := by
    intro X hP hw hK hc i pins s σ H E I hf st hg
    subst hP hw hK
    obtain ⟨xs, x, hq, hx⟩ := hg
    obtain ⟨its, rv, p, hz⟩ := I.tuple hq
    obtain ⟨u, hu, ru⟩ := rv.get hx
    have fe := hf e (by simp)
    have fj := hf j (by simp)
    obtain ⟨⟨old, he⟩, hj⟩ := st
    have hlt : e < s.heap.objs.size := Heap.lt_size he
    have hltj : j < s.heap.objs.size := let ⟨_, q, _⟩ := hj; Heap.lt_size q
    refine enumT_item he hj (show s.heap.IsTuple a its.toArray from p) (v := u) (by simpa using hu) hne fun h3 h' k3 hsz hs ho hj' => ?_
    have I3 : Inv X pins σ H { s with heap := h3, toks := s.toks + 1 } := I.turned2 k3 fe fj
    have I4 : Inv X pins σ (upd H s.heap.objs.size (.tup [.int i, x])) { s with heap := h3.push { cls := .type "tuple", data := .seq #[.int i s.toks, u] }, toks := s.toks + 1 } := by
      rw [← hsz]
      exact I3.laid (t' := s.toks + 1) (fun b o q => Heap.get?_push_of_some _ q) (Nat.le_refl _) ⟨sz1000 (by decide : 2 ≤ 100000), _, .cons ⟨s.toks, rfl⟩ (.cons ru .nil), IsTup.new _ _⟩
    have ne : upd H s.heap.objs.size (.tup [.int i, x]) e = none := by rw [upd_ne (Nat.ne_of_lt hlt)]; exact fe.1
    have nj : upd H s.heap.objs.size (.tup [.int i, x]) j = none := by rw [upd_ne (Nat.ne_of_lt hltj)]; exact fj.1
    have I5 := I4.turned (h' := h') (it := e) (t' := s.toks + 1) (fun b o hb q => (hs.2 b hb).trans q) ne fe.2.1 fe.2.2.2.1 fe.2.2.2.2.1 fe.2.2.2.2.2
    refine ⟨_, rfl, wpAny_letOwnedTupleGo_enum ho fun h8 he8 hs8 => ?_⟩
    have I6 := I5.turned (h' := h8) (it := e) (t' := s.toks + 1) (fun b o hb q => (hs8.2 b hb).trans q) ne fe.2.1 fe.2.2.2.1 fe.2.2.2.2.1 fe.2.2.2.2.2
    refine ⟨.ref s.heap.objs.size, _, I6, rfl, ⟨_, x, rfl, I.hok.fresh (Nat.le_refl _), rfl, fun ys hy => by rw [I.tuple_inj hy hq]; exact hx⟩, ⟨⟨_, by simpa using he8⟩, hj'.extBut hs8.extBut (Ne.symm hne)⟩, fun b hb => ?_⟩
    rcases List.mem_cons.mp hb with rfl | hb
    · exact ne
    · rw [List.mem_singleton.mp hb]; exact nj
  done := by
    intro X hP hw hK hc i pins s σ H E I hf st hg
    subst hP hw hK
    obtain ⟨xs, hq, hx⟩ := hg
    obtain ⟨its, rv, p, hz⟩ := I.tuple hq
    obtain ⟨f0, f1, f2, f3, f4, f5⟩ := hf j (by simp)
    obtain ⟨⟨old, he⟩, hj⟩ := st
    have hl := rv.length
    exact enumT_end (I.ok.hd hc) he hj (show s.heap.IsTuple a its.toArray from p) (by simp; omega) fun h' eb => ⟨rfl, I.turned (t' := s.toks) (fun b o hb e => eb b o hb e) f0 f1 f3 f4 f5⟩
  self := fun _ _ _ _ _ st h => let ⟨⟨_, he⟩, _⟩ := st; wpAny_pyIter_enum he h
section
variable {X : Cx}
def iEnum (K : PySem.W.Frag) (ta : TA) : TI := fun σ H R => ta σ H fun vs H1 => ∃ a, vs = [.ref a] ∧ (∃ xs, SqT K H1 a xs) ∧ R (Ite K a) H1
theorem pi_enum (K : PySem.W.Frag) {es : List Expr} {kx : Nat} {pt p pos : Pos} {a : Expr} {ta : TA} (hg : Gl X "enumerate") (hm : X.mg "enumerate" = none) (ha : PA X [a] ta) (hs : starEach [a] X.env = [(false, eval a X.env)] := by rfl) (hK : X.K = K := by rfl) :
    PI X (.Tuple es kx pt) (.Call (.Name "enumerate" p) [a] [] pos) (iEnum K ta) := by
  subst hK
  intro pins s σ H R I h
  refine Call_ (ld_blt I hg hm boot_enumerate (PyProof.Rows.callWith_type1 (thn (ha pos pins s σ H _ I h) fun us s1 ⟨vs, H1, I1, r1, q1⟩ => ?_) hs rfl))
  obtain ⟨a, e, ⟨xs, hq⟩, q⟩ := q1
  subst e
  cases r1 with
  | cons r rr =>
    cases rr
    cases r
    obtain ⟨its, rv, pp, hz⟩ := I1.tuple hq
    refine enumT_new (show s1.heap.IsTuple a its.toArray from pp) fun h' he hj hsz kk => wpAny_pyIter_enum he ?_
    refine ⟨s1.heap.objs.size + 1, [s1.heap.objs.size + 1, s1.heap.objs.size], _, _, H1, rfl, I1.kept (t' := s1.toks) kk, turn_enum a (s1.heap.objs.size + 1) s1.heap.objs.size (Nat.succ_ne_self _), ⟨⟨_, he⟩, hj⟩, fun b hb => ?_, q⟩
    rcases List.mem_cons.mp hb with rfl | hb
    · exact I1.fpOk (by omega) (I1.hok.fresh (by omega))
    · rw [List.mem_singleton.mp hb]; exact I1.fpOk (Nat.le_refl _) (I1.hok.fresh (Nat.le_refl _))
theorem w_enum {K : PySem.W.Frag} {σ : St} {H : Hp} {R : It → Hp → Prop} {ta : TA} : iEnum K ta σ H R = ta σ H fun vs H1 => ∃ a, vs = [.ref a] ∧ (∃ xs, SqT K H1 a xs) ∧ R (Ite K a) H1 := rfl
theorem forW_enum {K : PySem.W.Frag} {a : Addr} {xs : List V} {g : TG} {tb : TS} {D : Ends} {σ : St} {H : Hp} (Pv : Nat → St → Hp → Prop) (h0 : Pv 0 σ H) (hl : ∀ i σ H, i ≤ xs.length → Pv i σ H → SqT K H a xs)
    (hs : ∀ i x σ H, xs[i]? = some x → Pv i σ H → ∀ t, H t = none → g (.ref t) σ (upd H t (.tup [.int i, x])) fun σ2 H2 => tb { D with nx := Pv (i + 1), ct := Pv (i + 1), bk := D.nx } σ2 H2) (hd : ∀ σ H, Pv xs.length σ H → D.nx σ H) : ForW (Ite K a) g tb D σ H := by
  refine ⟨fun i m σ H => m = xs.length - i ∧ i ≤ xs.length ∧ Pv i σ H, ⟨xs.length, by simp, Nat.zero_le _, h0⟩, ?_⟩
  rintro i m σ H ⟨rfl, hi, p⟩
  by_cases hlt : i < xs.length
  · have hx : xs[i]? = some xs[i] := by simp [hlt]
    refine .inr ⟨⟨xs, _, hl _ _ _ hi p, hx⟩, Pv (i + 1), fun σ' H' q => ⟨xs.length - (i + 1), by omega, rfl, hlt, q⟩, fun x H' y => ?_⟩
    obtain ⟨t, z, rfl, hn, rfl, hz⟩ := y
    have e := hz xs (hl _ _ _ hi p)
    rw [hx] at e
    cases e
    exact hs i _ σ H hx p t hn
  · have e : i = xs.length := by omega
    subst e
    exact .inl ⟨⟨xs, hl _ _ _ hi p, Nat.le_refl _⟩, hd σ H p⟩
end
section
variable {X : Cx}
end
end L2
set_option Elab.async false
set_option linter.all false
set_option maxRecDepth 100000
set_option maxHeartbeats 4000000
namespace L2
open PySem PySem.Spec PyProof.Rows
open AutoSeq1 (wpAny_loadPart')
section
variable {prog : Program} {w : World} {A : Around} {E : Value → Shared → Prop} {s : Shared}
theorem tup_extBut {h h' : Heap} {j t : Addr} {us : Array Value} (hT : h.IsTuple t us) (k : Heap.ExtBut j h h') (hn : t ≠ j) : h'.IsTuple t us := let ⟨o, e, r⟩ := hT; ⟨o, k _ _ hn e, r⟩
theorem zipT_item {z TI TO i1 i2 l1 l2 : Addr} {k1 k2 : Nat} {xs ys : Array Value} {x y a b : Value} {Q : Option Value → Shared → Prop} (D : ZipApart z TI TO i1 i2 l1 l2)
    (hz : IsZip s.heap z TI TO .none) (hTI : IsPair s.heap TI (.ref i1) (.ref i2)) (hTO : IsPair s.heap TO a b)
    (h1 : s.heap.IsTupleIter i1 l1 k1) (h2 : s.heap.IsTupleIter i2 l2 k2) (hl1 : s.heap.IsTuple l1 xs) (hl2 : s.heap.IsTuple l2 ys) (hx : xs[k1]? = some x) (hy : ys[k2]? = some y)
    (hQ : ∀ (h5 h' : Heap), (∀ c o, c ≠ z → c ≠ TO → c ≠ i1 → c ≠ i2 → s.heap.get? c = some o → h5.get? c = some o) → h5.objs.size = s.heap.objs.size →
      Heap.SameBut z (h5.push { cls := .type "tuple", data := .seq #[x, y] }) h' → IsZip h' z TI TO (rawInt s.heap.objs.size) → IsPair h' TI (.ref i1) (.ref i2) → IsPair h' TO x y → h'.IsTupleIter i1 l1 (k1 + 1) → h'.IsTupleIter i2 l2 (k2 + 1) →
      Q (some (.ref s.heap.objs.size)) { s with heap := h' }) :
    wpAny (model prog w) A (pyNext (.ref z)) Q E s := by
  have hT : s.TypeIs (.ref z) "zip" := ⟨_, hz, rfl⟩
  unfold pyNext
  refine wpAny_bind (wpAny_attempt (wpAny_callSpecial?_slot (name := Str.ofString "__next__") hT PySem.F.slot_zip_next
    (wpAny_call_entry PySem.F.slot_zip_next hT PySem.F.entry_zip_next ?_ (PySem.F.args_zip_next_1 _))))
  show wpAny _ _ (field (.ref z) 2 >>= _) _ _ _
  refine wpAny_bind (wpAny_field hz rfl (x := .bool false) rfl ?_)
  show wpAny _ _ (field (.ref z) 3 >>= _) _ _ _
  refine wpAny_bind (wpAny_field hz rfl (x := .ref TI) rfl ?_)
  refine wpAny_bind (wpAny_seqItems hTI rfl ?_)
  show wpAny _ _ (Builtin.SmallTypes.ownedTupleIsFree (.ref z) >>= _) _ _ _
  refine wpAny_bind ?_
  unfold Builtin.SmallTypes.ownedTupleIsFree
  refine wpAny_bind (wpAny_field hz rfl (x := .none) rfl (wpAny_pure ?_))
  simp only [if_true]
  refine wpAny_bind (wpAny_rule ?_)
  refine wpAny_bind (wpAny_field hz rfl (x := .ref TO) rfl ?_)
  refine wpAny_bind (wpAny_setField_rec hz (by simp) fun h₁ hz₁ hs₁ => ?_)
  replace hz₁ : IsZip h₁ z TI TO .ellipsis := hz₁
  refine wpAny_bind ?_
  simp only [List.zipIdx_cons, List.zipIdx_nil, List.forIn_cons, List.forIn_nil]
  refine wpAny_bind (wpAny_bind (wpAny_onRaise ?_))
  show wpAny _ _ (Builtin.SmallTypes.nextOf (.ref i1) >>= _) _ _ _
  refine wpAny_bind (nextT_item (h1.extBut hs₁.extBut D.i1z) (tup_extBut hl1 hs₁.extBut D.l1z) hx fun h₂ h1₂ hs₂ => wpAny_pure ?_)
  have hTO₂ : IsPair h₂ TO a b := hs₂.extBut _ _ D.TOi1 (hs₁.extBut _ _ D.TOz hTO)
  refine wpAny_bind (wpAny_seqItems hTO₂ rfl ?_)
  refine wpAny_bind (wpAny_updateSeq_pair hTO₂ fun h₃ hTO₃ hs₃ => ?_)
  replace hTO₃ : IsPair h₃ TO x b := hTO₃
  refine wpAny_bind (wpAny_letGo (wpAny_pure ?_))
  refine wpAny_bind (wpAny_bind (wpAny_onRaise ?_))
  show wpAny _ _ (Builtin.SmallTypes.nextOf (.ref i2) >>= _) _ _ _
  refine wpAny_bind (nextT_item (((h2.extBut hs₁.extBut D.i2z).extBut hs₂.extBut D.i12.symm).extBut hs₃.extBut D.TOi2.symm)
    (tup_extBut (tup_extBut (tup_extBut hl2 hs₁.extBut D.l2z) hs₂.extBut D.l2i1) hs₃.extBut D.l2TO) hy fun h₄ h2₄ hs₄ => wpAny_pure ?_)
  have hTO₄ : IsPair h₄ TO x b := hs₄.extBut _ _ D.TOi2 hTO₃
  refine wpAny_bind (wpAny_seqItems hTO₄ rfl ?_)
  refine wpAny_bind (wpAny_updateSeq_pair hTO₄ fun h₅ hTO₅ hs₅ => ?_)
  replace hTO₅ : IsPair h₅ TO x y := hTO₅
  refine wpAny_bind (wpAny_letGo (wpAny_pure (wpAny_pure ?_)))
  refine wpAny_bind (wpAny_seqItems hTO₅ rfl ?_)
  refine wpAny_bind (wpAny_newTuple ?_)
  have hsz : h₅.objs.size = s.heap.objs.size := by rw [hs₅.1, hs₄.1, hs₃.1, hs₂.1, hs₁.1]
  have hz₅ : IsZip h₅ z TI TO .ellipsis := hs₅.extBut _ _ D.TOz.symm (hs₄.extBut _ _ D.i2z.symm (hs₃.extBut _ _ D.TOz.symm (hs₂.extBut _ _ D.i1z.symm hz₁)))
  have hk₅ : ∀ c o, c ≠ z → c ≠ TO → c ≠ i1 → c ≠ i2 → s.heap.get? c = some o → h₅.get? c = some o := fun c o c1 c2 c3 c4 e =>
    hs₅.extBut _ _ c2 (hs₄.extBut _ _ c4 (hs₃.extBut _ _ c2 (hs₂.extBut _ _ c3 (hs₁.extBut _ _ c1 e))))
  have h1₅ : h₅.IsTupleIter i1 l1 (k1 + 1) := ((h1₂.extBut hs₃.extBut D.TOi1.symm).extBut hs₄.extBut D.i12).extBut hs₅.extBut D.TOi1.symm
  have h2₅ : h₅.IsTupleIter i2 l2 (k2 + 1) := h2₄.extBut hs₅.extBut D.TOi2.symm
  show wpAny _ _ (Builtin.SmallTypes.ownedTupleHandOut (.ref z) (.ref h₅.objs.size) >>= _) _ _ _
  refine wpAny_bind ?_
  unfold Builtin.SmallTypes.ownedTupleHandOut
  have hz₆ : IsZip (h₅.push { cls := .type "tuple", data := .seq #[x, y] }) z TI TO .ellipsis := Heap.get?_push_of_some _ hz₅
  refine wpAny_bind (wpAny_setField_rec hz₆ (by simp) fun h₇ hz₇ hs₇ => ?_)
  replace hz₇ : IsZip h₇ z TI TO (rawInt h₅.objs.size) := hz₇
  refine wpAny_setField_rec hz₇ (by simp) fun h₈ hz₈ hs₈ => ?_
  replace hz₈ : IsZip h₈ z TI TO (rawInt h₅.objs.size) := hz₈
  have up : ∀ c o, c ≠ z → h₅.get? c = some o → h₈.get? c = some o := fun c o c1 e => hs₈.extBut _ _ c1 (hs₇.extBut _ _ c1 (Heap.get?_push_of_some _ e))
  have hs : Heap.SameBut z (h₅.push { cls := .type "tuple", data := .seq #[x, y] }) h₈ := ⟨by rw [hs₈.1, hs₇.1], fun c hc => (hs₈.2 c hc).trans (hs₇.2 c hc)⟩
  rw [hsz] at hz₈
  refine wpAny_pure ⟨_, rfl, wpAny_pure ?_⟩
  show Q (some (.ref h₅.objs.size)) _
  rw [hsz]
  exact hQ h₅ h₈ hk₅ hsz hs hz₈ (up _ _ D.TIz (hk₅ _ _ D.TIz D.TITO D.TIi1 D.TIi2 hTI)) (up _ _ D.TOz hTO₅) (h1₅.at fun o e => up _ o D.i1z e) (h2₅.at fun o e => up _ o D.i2z e)
theorem zipT_end {z TI TO i1 i2 l1 l2 : Addr} {k1 k2 : Nat} {xs ys : Array Value} {a b : Value} {Q : Option Value → Shared → Prop} (hh : A.handled = none) (D : ZipApart z TI TO i1 i2 l1 l2)
    (hz : IsZip s.heap z TI TO .none) (hTI : IsPair s.heap TI (.ref i1) (.ref i2)) (hTO : IsPair s.heap TO a b)
    (h1 : s.heap.IsTupleIter i1 l1 k1) (h2 : s.heap.IsTupleIter i2 l2 k2) (hl1 : s.heap.IsTuple l1 xs) (hl2 : s.heap.IsTuple l2 ys) (hend : xs[k1]? = none ∨ ys[k2]? = none)
    (hQ : ∀ h', (∀ c o, c ≠ z → c ≠ TO → c ≠ i1 → c ≠ i2 → s.heap.get? c = some o → h'.get? c = some o) → Q none { s with heap := h' }) :
    wpAny (model prog w) A (pyNext (.ref z)) Q E s := by
  have hT : s.TypeIs (.ref z) "zip" := ⟨_, hz, rfl⟩
  have hE : ∀ h' e, (∀ c o, c ≠ z → c ≠ TO → c ≠ i1 → c ≠ i2 → s.heap.get? c = some o → h'.get? c = some o) → (∃ o, h'.get? e = some o ∧ o.cls = .type "StopIteration") →
      wpAny (model prog w) A (do let b ← isInstance (.ref e) (.type "StopIteration"); if b = true then pure none else throw (.ref e)) Q E { s with heap := h' } := fun h' e hk he => by
    obtain ⟨o, ho, hc⟩ := he
    exact wpAny_bind (wpAny_isInstance (T := "StopIteration") (b := true) ⟨o, ho, hc⟩ isSubtype_stop (wpAny_pure (hQ _ hk)))
  unfold pyNext
  refine wpAny_bind (wpAny_attempt (wpAny_callSpecial?_slot (name := Str.ofString "__next__") hT PySem.F.slot_zip_next
    (wpAny_call_entry PySem.F.slot_zip_next hT PySem.F.entry_zip_next ?_ (PySem.F.args_zip_next_1 _))))
  show wpAny _ _ (field (.ref z) 2 >>= _) _ _ _
  refine wpAny_bind (wpAny_field hz rfl (x := .bool false) rfl ?_)
  show wpAny _ _ (field (.ref z) 3 >>= _) _ _ _
  refine wpAny_bind (wpAny_field hz rfl (x := .ref TI) rfl ?_)
  refine wpAny_bind (wpAny_seqItems hTI rfl ?_)
  show wpAny _ _ (Builtin.SmallTypes.ownedTupleIsFree (.ref z) >>= _) _ _ _
  refine wpAny_bind ?_
  unfold Builtin.SmallTypes.ownedTupleIsFree
  refine wpAny_bind (wpAny_field hz rfl (x := .none) rfl (wpAny_pure ?_))
  simp only [if_true]
  refine wpAny_bind (wpAny_rule ?_)
  refine wpAny_bind (wpAny_field hz rfl (x := .ref TO) rfl ?_)
  refine wpAny_bind (wpAny_setField_rec hz (by simp) fun h₁ hz₁ hs₁ => ?_)
  replace hz₁ : IsZip h₁ z TI TO .ellipsis := hz₁
  refine wpAny_bind ?_
  simp only [List.zipIdx_cons, List.zipIdx_nil, List.forIn_cons, List.forIn_nil]
  refine wpAny_bind (wpAny_bind (wpAny_onRaise ?_))
  show wpAny _ _ (Builtin.SmallTypes.nextOf (.ref i1) >>= _) _ _ _
  cases hx : xs[k1]? with
  | none =>
    refine wpAny_bind (nextT_end hh (h1.extBut hs₁.extBut D.i1z) (tup_extBut hl1 hs₁.extBut D.l1z) hx fun h₂ e hs₂ he => ?_)
    obtain ⟨oe, hoe, hce⟩ := he
    have hz₂ : IsZip h₂ z TI TO .ellipsis := hs₂ _ _ D.i1z.symm hz₁
    have hez : e ≠ z := fun x => by subst x; rw [hz₂] at hoe; cases hoe; simp at hce
    exact wpAny_setField_rec hz₂ (by simp) fun h₃ _ hs₃ => hE h₃ e (fun c o c1 _ c3 _ x => hs₃.extBut _ _ c1 (hs₂ _ _ c3 (hs₁.extBut _ _ c1 x))) ⟨oe, hs₃.extBut _ _ hez hoe, hce⟩
  | some x =>
    have hy : ys[k2]? = none := by rcases hend with h | h; rw [hx] at h; cases h; exact h
    refine wpAny_bind (nextT_item (h1.extBut hs₁.extBut D.i1z) (tup_extBut hl1 hs₁.extBut D.l1z) hx fun h₂ h1₂ hs₂ => wpAny_pure ?_)
    have hTO₂ : IsPair h₂ TO a b := hs₂.extBut _ _ D.TOi1 (hs₁.extBut _ _ D.TOz hTO)
    refine wpAny_bind (wpAny_seqItems hTO₂ rfl ?_)
    refine wpAny_bind (wpAny_updateSeq_pair hTO₂ fun h₃ hTO₃ hs₃ => ?_)
    refine wpAny_bind (wpAny_letGo (wpAny_pure ?_))
    refine wpAny_bind (wpAny_bind (wpAny_onRaise ?_))
    show wpAny _ _ (Builtin.SmallTypes.nextOf (.ref i2) >>= _) _ _ _
    refine wpAny_bind (nextT_end hh (((h2.extBut hs₁.extBut D.i2z).extBut hs₂.extBut D.i12.symm).extBut hs₃.extBut D.TOi2.symm)
      (tup_extBut (tup_extBut (tup_extBut hl2 hs₁.extBut D.l2z) hs₂.extBut D.l2i1) hs₃.extBut D.l2TO) hy fun h₄ e hs₄ he => ?_)
    obtain ⟨oe, hoe, hce⟩ := he
    have hz₄ : IsZip h₄ z TI TO .ellipsis := hs₄ _ _ D.i2z.symm (hs₃.extBut _ _ D.TOz.symm (hs₂.extBut _ _ D.i1z.symm hz₁))
    have hez : e ≠ z := fun x => by subst x; rw [hz₄] at hoe; cases hoe; simp at hce
    exact wpAny_setField_rec hz₄ (by simp) fun h₅ _ hs₅ => hE h₅ e (fun c o c1 c2 c3 c4 x => hs₅.extBut _ _ c1 (hs₄ _ _ c4 (hs₃.extBut _ _ c2 (hs₂.extBut _ _ c3 (hs₁.extBut _ _ c1 x))))) ⟨oe, hs₅.extBut _ _ hez hoe, hce⟩
abbrev zpH1 (h : Heap) (l1 : Addr) : Heap := h.push { cls := .type "tuple_iterator", data := .fields #[.ref l1, .int 0 0] }
abbrev zpH2 (h : Heap) (l1 l2 : Addr) : Heap := (zpH1 h l1).push { cls := .type "tuple_iterator", data := .fields #[.ref l2, .int 0 0] }
abbrev zpH3 (h : Heap) (l1 l2 : Addr) : Heap := (zpH2 h l1 l2).push { cls := .type "tuple", data := .seq #[.ref h.objs.size, .ref (zpH1 h l1).objs.size] }
abbrev zpH4 (h : Heap) (l1 l2 : Addr) : Heap := (zpH3 h l1 l2).push { cls := .type "tuple", data := .seq #[.none, .none] }
abbrev zpH5 (h : Heap) (l1 l2 : Addr) : Heap := (zpH4 h l1 l2).push { cls := .type "zip", data := .fields #[.none, .bool false, .bool false, .ref (zpH2 h l1 l2).objs.size, .ref (zpH3 h l1 l2).objs.size] }
theorem zipT_newM (l1 l2 : Addr) (xs ys : Array Value) :
    Meets (Builtin.«zip.__new__» ⟨[.type "zip", .ref l1, .ref l2], []⟩) (fun _ R s => s.heap.IsTuple l1 xs ∧ s.heap.IsTuple l2 ys ∧
      R (.ok (.ret (.ref (zpH4 s.heap l1 l2).objs.size))) { s with heap := zpH5 s.heap l1 l2 }) :=
  .of_wp fun prog w A R s h => by
    obtain ⟨hp, g, d, tk, os⟩ := s; obtain ⟨hl1, hl2, h⟩ := h
    have hsub := sub_zip
    have hL1 : Heap.IsTuple (Shared.heap ⟨hp, g, d, tk, os⟩) l1 xs := hl1
    have hL2 : Heap.IsTuple (Shared.heap ⟨hp.push { cls := .type "tuple_iterator", data := .fields #[.ref l1, .int 0 0] }, g, d, tk, os⟩) l2 ys := let ⟨o, e, r⟩ := hl2; ⟨o, Heap.get?_push_of_some _ e, r⟩
    wp_walk using wpAny_pyIter_tuple hL1, wpAny_pyIter_tuple hL2
    exact ⟨_, rfl, h⟩
theorem zipT_new {l1 l2 : Addr} {xs ys : Array Value} {Q : Value → Shared → Prop} (hl1 : s.heap.IsTuple l1 xs) (hl2 : s.heap.IsTuple l2 ys)
    (h : ∀ h', IsZip h' (s.heap.objs.size + 4) (s.heap.objs.size + 2) (s.heap.objs.size + 3) .none → IsPair h' (s.heap.objs.size + 2) (.ref s.heap.objs.size) (.ref (s.heap.objs.size + 1)) →
      IsPair h' (s.heap.objs.size + 3) .none .none → h'.IsTupleIter s.heap.objs.size l1 0 → h'.IsTupleIter (s.heap.objs.size + 1) l2 0 → h'.objs.size = s.heap.objs.size + 5 →
      (∀ c o, s.heap.get? c = some o → h'.get? c = some o) → Q (.ref (s.heap.objs.size + 4)) { s with heap := h' }) :
    wpAny (model prog w) A (call (.type "zip") [.ref l1, .ref l2]) Q E s := by
  refine callType_new PySem.F.called_zip (by decide) (PySem.F.typeCall_zip_2 _ _) (PySem.F.newCall_zip_2 _ _) (fun obj => PySem.F.args_object_init_3 obj _ _) PySem.F.entry_zip_new
    (zipT_newM l1 l2 xs ys) ⟨hl1, hl2, ?_⟩
  have z1 : (zpH1 s.heap l1).objs.size = s.heap.objs.size + 1 := Heap.size_push ..
  have z2 : (zpH2 s.heap l1 l2).objs.size = s.heap.objs.size + 2 := by rw [Heap.size_push, z1]
  have z3 : (zpH3 s.heap l1 l2).objs.size = s.heap.objs.size + 3 := by rw [Heap.size_push, z2]
  have z4 : (zpH4 s.heap l1 l2).objs.size = s.heap.objs.size + 4 := by rw [Heap.size_push, z3]
  have z5 : (zpH5 s.heap l1 l2).objs.size = s.heap.objs.size + 5 := by rw [Heap.size_push, z4]
  have g5 : (zpH5 s.heap l1 l2).get? (zpH4 s.heap l1 l2).objs.size = some _ := Heap.get?_push_size _ rfl
  have g4 : (zpH5 s.heap l1 l2).get? (zpH3 s.heap l1 l2).objs.size = some _ := Heap.get?_push_of_some _ (Heap.get?_push_size _ rfl)
  have g3 : (zpH5 s.heap l1 l2).get? (zpH2 s.heap l1 l2).objs.size = some _ := Heap.get?_push_of_some _ (Heap.get?_push_of_some _ (Heap.get?_push_size _ rfl))
  have g2 : (zpH5 s.heap l1 l2).get? (zpH1 s.heap l1).objs.size = some _ := Heap.get?_push_of_some _ (Heap.get?_push_of_some _ (Heap.get?_push_of_some _ (Heap.get?_push_size _ rfl)))
  have g1 : (zpH5 s.heap l1 l2).get? s.heap.objs.size = some _ := Heap.get?_push_of_some _ (Heap.get?_push_of_some _ (Heap.get?_push_of_some _ (Heap.get?_push_of_some _ (Heap.get?_push_size _ rfl))))
  show _ ∧ _
  rw [z2, z3, z4] at g5
  rw [z1, z2] at g3
  rw [z3] at g4
  rw [z1] at g2
  rw [z4]
  exact ⟨⟨_, g5, rfl⟩, h _ g5 g3 g4 ⟨_, g1, rfl, rfl⟩ ⟨_, g2, rfl, rfl⟩ z5 fun c o x =>
    Heap.get?_push_of_some _ (Heap.get?_push_of_some _ (Heap.get?_push_of_some _ (Heap.get?_push_of_some _ (Heap.get?_push_of_some _ x))))⟩
end
section
variable {X : Cx} {pins : List (Addr × Obj)} {σ : St} {H : Hp} {s : Shared} {h' : Heap}
theorem Inv.turnedL {t' : Nat} {ch : List Addr} (I : Inv X pins σ H s) (k : ∀ b o, b ∉ ch → s.heap.get? b = some o → h'.get? b = some o) (f : ∀ c ∈ ch, FpOk X pins H c) : Inv X pins σ H { s with heap := h', toks := t' } := by
  have nb : ∀ b u, H b = some u → b ∉ ch := fun b u q z => by rw [(f b z).1] at q; cases q
  have nl : X.env.locals ∉ ch := fun z => (f _ z).2.1 rfl
  refine I.step (g' := s.gens) (d' := s.drawn) (ch := ch) (fun b hb => ⟨(f b hb).2.2.2.1, (f b hb).2.1, (f b hb).2.2.2.2.1, (f b hb).2.2.2.2.2⟩) (fun b o _ _ hc q _ => k b o hc q) (fun b o _ _ hc q _ => ⟨o.slots, k b o hc q⟩) (fun _ _ _ _ n => n)
    (fun b o hc q => ⟨o, k b o hc q⟩) (fun _ _ q => q) (fun _ _ _ q => q) (fun b ps q => ⟨#[], by rw [q]; simp⟩) (fun m hm => ?_) (fun b u q => ?_) I.bare
  · obtain ⟨o, es, ep, ho, r⟩ := hm
    exact ⟨o, es, ep, k _ o nl ho, r⟩
  · refine (I.hok b u q).stay (fun c v hc q2 => ?_) (fun _ q => q) fun _ _ q => q
    rcases hc with z | z
    · rw [z] at q2 ⊢; exact k b v (nb b u q) q2
    · exact k c v (nb c _ z) q2
end
def Itz (K : PySem.W.Frag) (a b : Addr) : It :=
  ⟨fun i H => ∃ xs ys x y, SqT K H a xs ∧ SqT K H b ys ∧ xs[i]? = some x ∧ ys[i]? = some y,
   fun i H v H' => ∃ t x y, v = .ref t ∧ H t = none ∧ H' = upd H t (.tup [x, y]) ∧ (∀ xs, SqT K H a xs → xs[i]? = some x) ∧ ∀ ys, SqT K H b ys → ys[i]? = some y,
   fun i H => ∃ xs ys, SqT K H a xs ∧ SqT K H b ys ∧ (xs.length ≤ i ∨ ys.length ≤ i)⟩
theorem turn_zip {P : Program} {w : World} {K : PySem.W.Frag} {es : List Expr} {kx : Nat} {pos : Pos} (a b z TI TO i1 i2 : Addr) (D : ZipApart z TI TO i1 i2 a b) :
    Turn P w K (.Tuple es kx pos) (Itz K a b) [z, TI, TO, i1, i2] z (fun i h => IsZip h z TI TO .none ∧ IsPair h TI (.ref i1) (.ref i2) ∧ (∃ x y, IsPair h TO x y) ∧ h.IsTupleIter i1 a i ∧ h.IsTupleIter i2 b i) where
  mem := by simp
  obj := fun i h st c hc => by
    obtain ⟨hz, hTI, ⟨x, y, hTO⟩, ⟨o1, e1, c1, d1⟩, ⟨o2, e2, c2, d2⟩⟩ := st
    simp only [List.mem_cons, List.not_mem_nil, or_false] at hc
    rcases hc with rfl | rfl | rfl | rfl | rfl
    · exact ⟨_, hz, fun v q => by have q' : Data.fields _ = Data.cell v := q; cases q'⟩
    · exact ⟨_, hTI, fun v q => by have q' : Data.seq _ _ = Data.cell v := q; cases q'⟩
    · exact ⟨_, hTO, fun v q => by have q' : Data.seq _ _ = Data.cell v := q; cases q'⟩
    · exact ⟨o1, e1, fun v q => by rw [d1] at q; cases q⟩
    · exact ⟨o2, e2, fun v q => by rw [d2] at q; cases q⟩
  keep := fun i h h' st k => let ⟨hz, hTI, ⟨x, y, hTO⟩, h1, h2⟩ := st; ⟨k z (by simp) _ hz, k TI (by simp) _ hTI, ⟨x, y, k TO (by simp) _ hTO⟩, h1.at fun o q => k i1 (by simp) o q, h2.at fun o q => k i2 (by simp) o q⟩
  item := by
    intro X hP hw hK hc i pins s σ H E I hf st hg
    subst hP hw hK
    obtain ⟨xs, ys, x, y, hqa, hqb, hx, hy⟩ := hg
    obtain ⟨its, rv, p, hlz⟩ := I.tuple hqa
    obtain ⟨its2, rv2, p2, hlz2⟩ := I.tuple hqb
    obtain ⟨u, hu, ru⟩ := rv.get hx
    obtain ⟨u2, hu2, ru2⟩ := rv2.get hy
    obtain ⟨hz, hTI, ⟨oa, ob, hTO⟩, h1, h2⟩ := st
    refine zipT_item D hz hTI hTO h1 h2 (show s.heap.IsTuple a its.toArray from p) (show s.heap.IsTuple b its2.toArray from p2) (x := u) (y := u2) (by simpa using hu) (by simpa using hu2) fun h5 h' k5 hsz hs hz' hTI' hTO' h1' h2' => ?_
    have I3 : Inv X pins σ H { s with heap := h5, toks := s.toks } := I.turnedL (ch := [z, TO, i1, i2]) (fun c o hc q => k5 c o (fun e => hc (by simp [e])) (fun e => hc (by simp [e])) (fun e => hc (by simp [e])) (fun e => hc (by simp [e])) q)
      fun c hc => hf c (by simp only [List.mem_cons, List.not_mem_nil, or_false] at hc ⊢; rcases hc with h | h | h | h <;> simp [h])
    have I4 : Inv X pins σ (upd H s.heap.objs.size (.tup [x, y])) { s with heap := h5.push { cls := .type "tuple", data := .seq #[u, u2] }, toks := s.toks } := by
      rw [← hsz]
      exact I3.laid (t' := s.toks) (fun b o q => Heap.get?_push_of_some _ q) (Nat.le_refl _) ⟨sz1000 (by decide : 2 ≤ 100000), _, .cons ru (.cons ru2 .nil), IsTup.new _ _⟩
    have lt : ∀ c ∈ [z, TI, TO, i1, i2], c < s.heap.objs.size := fun c hc => by
      simp only [List.mem_cons, List.not_mem_nil, or_false] at hc
      rcases hc with rfl | rfl | rfl | rfl | rfl
      · exact Heap.lt_size hz
      · exact Heap.lt_size hTI
      · exact Heap.lt_size hTO
      · obtain ⟨_, e, _⟩ := h1; exact Heap.lt_size e
      · obtain ⟨_, e, _⟩ := h2; exact Heap.lt_size e
    have nn : ∀ c ∈ [z, TI, TO, i1, i2], upd H s.heap.objs.size (.tup [x, y]) c = none := fun c hc => by rw [upd_ne (Nat.ne_of_lt (lt c hc))]; exact (hf c hc).1
    have fz := hf z (by simp)
    have I5 := I4.turned (h' := h') (it := z) (t' := s.toks) (fun b o hb q => (hs.2 b hb).trans q) (nn z (by simp)) fz.2.1 fz.2.2.2.1 fz.2.2.2.2.1 fz.2.2.2.2.2
    refine ⟨_, rfl, wpAny_letOwnedTupleGo_zip hz' fun h8 hz8 hs8 => ?_⟩
    have I6 := I5.turned (h' := h8) (it := z) (t' := s.toks) (fun b o hb q => (hs8.2 b hb).trans q) (nn z (by simp)) fz.2.1 fz.2.2.2.1 fz.2.2.2.2.1 fz.2.2.2.2.2
    exact ⟨.ref s.heap.objs.size, _, I6, rfl, ⟨_, x, y, rfl, I.hok.fresh (Nat.le_refl _), rfl, (fun zs hq => by rw [I.tuple_inj hq hqa]; exact hx), fun zs hq => by rw [I.tuple_inj hq hqb]; exact hy⟩,
      ⟨hz8, hs8.extBut _ _ D.TIz hTI', ⟨_, _, hs8.extBut _ _ D.TOz hTO'⟩, h1'.extBut hs8.extBut D.i1z, h2'.extBut hs8.extBut D.i2z⟩, nn⟩
  done := by
    intro X hP hw hK hc i pins s σ H E I hf st hg
    subst hP hw hK
    obtain ⟨xs, ys, hqa, hqb, hx⟩ := hg
    obtain ⟨its, rv, p, hlz⟩ := I.tuple hqa
    obtain ⟨its2, rv2, p2, hlz2⟩ := I.tuple hqb
    obtain ⟨hz, hTI, ⟨oa, ob, hTO⟩, h1, h2⟩ := st
    have hl := rv.length
    have hl2 := rv2.length
    exact zipT_end (I.ok.hd hc) D hz hTI hTO h1 h2 (show s.heap.IsTuple a its.toArray from p) (show s.heap.IsTuple b its2.toArray from p2) (hx.imp (fun h => by simp; omega) fun h => by simp; omega) fun h' k5 => ⟨rfl, I.turnedL (t' := s.toks) (ch := [z, TO, i1, i2])
      (fun c o hc q => k5 c o (fun e => hc (by simp [e])) (fun e => hc (by simp [e])) (fun e => hc (by simp [e])) (fun e => hc (by simp [e])) q)
      fun c hc => hf c (by simp only [List.mem_cons, List.not_mem_nil, or_false] at hc ⊢; rcases hc with h | h | h | h <;> simp [h])⟩
  self := fun _ _ _ _ _ st h => wpAny_pyIter_zip st.1 h
section
variable {X : Cx}
def iZip (K : PySem.W.Frag) (ta : TA) : TI := fun σ H R => ta σ H fun vs H1 => ∃ a b, vs = [.ref a, .ref b] ∧ (∃ xs, SqT K H1 a xs) ∧ (∃ ys, SqT K H1 b ys) ∧ R (Itz K a b) H1
theorem w_zip {K : PySem.W.Frag} {σ : St} {H : Hp} {R : It → Hp → Prop} {ta : TA} : iZip K ta σ H R = ta σ H fun vs H1 => ∃ a b, vs = [.ref a, .ref b] ∧ (∃ xs, SqT K H1 a xs) ∧ (∃ ys, SqT K H1 b ys) ∧ R (Itz K a b) H1 := rfl
theorem pi_zip (K : PySem.W.Frag) {es : List Expr} {kx : Nat} {pt p pos : Pos} {a b : Expr} {ta : TA} (hg : Gl X "zip") (hm : X.mg "zip" = none) (ha : PA X [a, b] ta) (hs : starEach [a, b] X.env = (false, eval a X.env) :: starEach [b] X.env := by rfl) (hpl : (backTo pos (starEach [b] X.env)).any (·.1) = false := by rfl) (hK : X.K = K := by rfl) :
    PI X (.Tuple es kx pt) (.Call (.Name "zip" p) [a, b] [] pos) (iZip K ta) := by
  subst hK
  intro pins s σ H R I h
  refine Call_ (ld_blt I hg hm boot_zip (PyProof.Rows.callWith_type1 (thn (ha pos pins s σ H _ I h) fun us s1 ⟨vs, H1, I1, r1, q1⟩ => ?_) hs hpl))
  obtain ⟨a, b, e, ⟨xs, hqa⟩, ⟨ys, hqb⟩, q⟩ := q1
  subst e
  cases r1 with
  | cons r rr =>
    cases rr with
    | cons r2 rr =>
      cases rr
      cases r
      cases r2
      obtain ⟨its, rv, pp, hz⟩ := I1.tuple hqa
      obtain ⟨its2, rv2, pp2, hz2⟩ := I1.tuple hqb
      have ha : a < s1.heap.objs.size := let ⟨_, e, _⟩ := pp; Heap.lt_size e
      have hb : b < s1.heap.objs.size := let ⟨_, e, _⟩ := pp2; Heap.lt_size e
      refine zipT_new (show s1.heap.IsTuple a its.toArray from pp) (show s1.heap.IsTuple b its2.toArray from pp2) fun h' hz hTI hTO h1 h2 hsz kk => wpAny_pyIter_zip hz ?_
      refine ⟨s1.heap.objs.size + 4, [s1.heap.objs.size + 4, s1.heap.objs.size + 2, s1.heap.objs.size + 3, s1.heap.objs.size, s1.heap.objs.size + 1], _, _, H1, rfl, I1.kept (t' := s1.toks) kk, turn_zip a b _ _ _ _ _ (zipApart_new ha hb), ⟨hz, hTI, ⟨_, _, hTO⟩, h1, h2⟩, fun c hc => ?_, q⟩
      have hc' : s1.heap.objs.size ≤ c := by
        simp only [List.mem_cons, List.not_mem_nil, or_false] at hc
        rcases hc with rfl | rfl | rfl | rfl | rfl <;> omega
      exact I1.fpOk hc' (I1.hok.fresh hc')
end
end L2
set_option Elab.async false
set_option linter.all false
set_option maxRecDepth 100000
set_option maxHeartbeats 4000000
namespace L2
open PySem PySem.Spec PyProof.Rows
section
variable {K : PySem.W.Frag} {nt : Nat} {is : List Nat} {g : TG} {tt : TT} {te : TE} {σ : St} {H : Hp} {Q : VK}
theorem comp_zip {a b : Addr} {xs ys : List V} (he : ys.length = xs.length) (Pv : Nat → List V → Hp → Prop) (h0 : Pv 0 [] H) (hl : ∀ i acc H, i ≤ xs.length → Pv i acc H → SqT K H a xs ∧ SqT K H b ys)
    (hs : ∀ i x y acc H t, xs[i]? = some x → ys[i]? = some y → H t = none → Pv i acc H → acc.length < sizeLine ∧ g (.ref t) (slotsC nt is σ) (upd H t (.tup [x, y])) fun σ2 H2 => tt σ2 H2 fun b H3 => if b = true then te σ2 H3 fun y H4 => Pv (i + 1) (acc ++ [y]) H4 else Pv (i + 1) acc H3)
    (hd : ∀ acc H, Pv xs.length acc H → ∀ p, H p = none → Q (.ref p) (upd H p (.lst acc))) (hz : ∀ i acc H, i < xs.length → Pv i acc H → acc.length < sizeLine) : CompW (Itz K a b) nt is g tt te σ H Q := by
  refine comp_gen (n := xs.length) Pv h0 (fun i acc H hi p => ?_) fun acc H p => ⟨⟨xs, ys, (hl _ _ _ (Nat.le_refl _) p).1, (hl _ _ _ (Nat.le_refl _) p).2, .inl (Nat.le_refl _)⟩, hd acc H p⟩
  have hx : xs[i]? = some xs[i] := by simp [hi]
  have hi' : i < ys.length := by omega
  have hy : ys[i]? = some ys[i] := by simp [hi']
  have q := hl i acc H (Nat.le_of_lt hi) p
  refine ⟨⟨xs, ys, _, _, q.1, q.2, hx, hy⟩, hz i acc H hi p, fun v H' z => ?_⟩
  obtain ⟨t, x, y, rfl, hn, rfl, z1, z2⟩ := z
  have e1 := z1 xs q.1
  have e2 := z2 ys q.2
  rw [hx] at e1
  rw [hy] at e2
  cases e1; cases e2
  exact (hs i _ _ acc H t hx hy hn p).2
theorem gTup2_keep {n : Nat} (hn : 2 ≤ n) : ∀ x (σ : St) (H : Hp) R, gTup K 2 (gCons (gName 0) (gCons (gName 1) gNil)) x σ H R → gTup K 2 (gCons (gName 0) (gCons (gName 1) gNil)) x σ H fun σ2 H2 => σ2.drop n = σ.drop n ∧ R σ2 H2 := by
  rintro x σ H R ⟨a, xs, rfl, hq, hl, v, r, rfl, v2, r2, rfl, rfl, h⟩
  exact ⟨a, _, rfl, hq, hl, v, _, rfl, v2, _, rfl, rfl, by rw [List.drop_set_of_lt (by omega), List.drop_set_of_lt (by omega)], h⟩
end
section
variable {X : Cx}
def tDNew : TE := fun _ H Q => ∀ p, H p = none → Q (.ref p) (upd H p (.dK []))
theorem Inv.past {pins : List (Addr × Obj)} {σ : St} {H : Hp} {s : Shared} (I : Inv X pins σ H s) : sysModules < s.heap.objs.size := by
  exact Nat.lt_trans (by decide) (I.mod.glob.keeps I.bk).lt
theorem pe_dnew {pos : Pos} : PE X (.Dict [] [] pos) tDNew := fun pins s σ H Q I h =>
  wpAny_Dict_empty ⟨.ref s.heap.objs.size, _, I.laid (a := s.heap.objs.size) (o := .dK []) (t' := s.toks) (fun _ _ q => Heap.get?_push_of_some _ q) (Nat.le_refl _)
    ⟨Nat.zero_le _, beq_eq_false_iff_ne.mpr (Ne.symm (Nat.ne_of_lt I.past)), [], .nil, Heap.DictOf.new s.heap⟩, rfl, h _ (I.hok.fresh (Nat.le_refl _))⟩
theorem w_dnew {σ : St} {H : Hp} {Q : VK} : tDNew σ H Q = ∀ p, H p = none → Q (.ref p) (upd H p (.dK [])) := rfl
theorem w_inTab {K : PySem.W.Frag} {k : Str} {p : Addr} {H : Hp} {Q : VK} : rInTab K (.str k) (.ref p) H Q = ∃ D, TabK K p D ∧ Q (.bl (KTD.inKeys k D)) H := by
  refine propext ⟨fun ⟨_, _, D, e1, e2, h⟩ => ?_, fun ⟨D, h⟩ => ⟨k, p, D, rfl, rfl, h⟩⟩
  cases e1; cases e2; exact ⟨D, h⟩
theorem w_ixTab {K : PySem.W.Frag} {k : Str} {p : Addr} {H : Hp} {Q : VK} : rIxTab K (.ref p) (.str k) H Q = ∃ D z, TabK K p D ∧ KTD.datumAt k D = some z ∧ Q z H := by
  refine propext ⟨fun ⟨_, _, D, z, e1, e2, h⟩ => ?_, fun ⟨D, z, h⟩ => ⟨k, p, D, z, rfl, rfl, h⟩⟩
  cases e1; cases e2; exact ⟨D, z, h⟩
end
end L2
set_option Elab.async false
set_option linter.all false
set_option maxRecDepth 100000
set_option maxHeartbeats 4000000
namespace L2
open PySem PySem.Spec PyProof.Rows
def Stm.fts : Stm → List Str
  | .is _ ts => ts
  | .fls => []
  | .neg A => A.fts
  | .bi _ A B => A.fts ++ B.fts
  | .qu _ X A => A.fts.filter fun t => decide (t ≠ X)
theorem pickM {x : Str} {i m : Int} {P : Nat → Prop} (hm : 0 < m) (hx : m ≤ (x.length : Int)) (k : ∀ c ∈ x.cps.toList.take m.toNat, P c) : ∃ c, atI x.cps.toList (i % m) = some c ∧ P c := by
  have e := len_cps x
  have h0 := Int.emod_nonneg i (show m ≠ 0 by omega)
  have h1 := Int.emod_lt_of_pos i hm
  generalize i % m = j at h0 h1
  obtain ⟨j, rfl⟩ : ∃ n : Nat, j = n := ⟨j.toNat, by omega⟩
  have hj : j < x.cps.toList.length := by omega
  exact ⟨x.cps.toList[j], atI_nat (List.getElem?_eq_getElem hj), k _ (List.mem_take_iff_getElem.mpr ⟨j, by omega, rfl⟩)⟩
def TermOk (t : Str) : Prop := Nm smallS t ∨ Nm greatS t
theorem TermOk.len {x : Str} (h : TermOk x) : x.length ≤ 8 ∧ 1 ≤ x.length := h.elim Nm.len Nm.len
def spC3 (K : PySem.W.Frag) : Sp := fun vs H Q _ => ∃ (a : Addr) (ns : List Int) (n : Int), vs = [.ref a, .int n] ∧ SqL K H a (ns.map V.int) ∧ ns.length ≤ 63 ∧ 0 ≤ n ∧ ∀ c : Int, 0 ≤ c → c < 2147483647 → Q (.int c) H
def spNm3 : Sp := fun vs H Q _ => ∃ sh c k : Int, vs = [.int sh, .int c, .int k] ∧ 0 ≤ sh ∧ 0 ≤ c ∧ 0 ≤ k ∧ ∀ (x : Str) H', Same H H' → Nm smallS x → Q (.str x) H'
def spLt3 : Sp := fun vs H Q _ => ∃ c : Int, vs = [.int c] ∧ 0 ≤ c ∧ ∀ (x : Str) H', Same H H' → Nm greatS x → Q (.str x) H'
def spMade (K : PySem.W.Frag) (d : Nat) : Sp := fun vs H Q _ => ∃ (n : Int) (r : Nat) (tp wp : Addr) (ts ws : List Str), vs = [.int n, .int r, .ref tp, .ref wp] ∧ 0 ≤ n ∧ r < d ∧ H tp = some (.lst (ts.map V.str)) ∧ SqL K H wp (ws.map V.str) ∧
  ts ≠ [] ∧ ts.length + r ≤ 100 ∧ (∀ t ∈ ts, TermOk t) ∧ ws.length = 3 ∧ (∀ t ∈ ws, Nm smallS t) ∧
  ∀ (S : Stm) (v : V) H', Same H H' → RepS K H' S v → S.Ok → S.deep ≤ r + 1 → (∀ t ∈ S.fts, t ∈ ts) → Q v H'
section
variable {K : PySem.W.Frag} {H : Hp} {p : Addr} {ys zs : List V}
theorem RepS.keepL (hp : H p = some (.lst ys)) : ∀ {S : Stm} {v : V}, RepS K H S v → RepS K (upd H p (.lst zs)) S v
  | .is _ _, _, ⟨a, b, h1, h2, h3⟩ => ⟨a, b, h1, h2.keepL hp, h3.keepL hp⟩
  | .fls, _, ⟨a, h1, h2⟩ => ⟨a, h1, h2.keepL hp⟩
  | .neg _, _, ⟨a, u, h1, h2, h3⟩ => ⟨a, u, h1, h2.keepL hp, RepS.keepL hp h3⟩
  | .bi _ _ _, _, ⟨a, u, u', h1, h2, h3, h4⟩ => ⟨a, u, u', h1, h2.keepL hp, RepS.keepL hp h3, RepS.keepL hp h4⟩
  | .qu _ _ _, _, ⟨a, u, h1, h2, h3⟩ => ⟨a, u, h1, h2.keepL hp, RepS.keepL hp h3⟩
theorem RepL.keepL {Ss : List Stm} {vs : List V} (hp : H p = some (.lst ys)) (h : RepL K H Ss vs) : RepL K (upd H p (.lst zs)) Ss vs := Paired.mapP h fun _ _ => RepS.keepL hp
end
def StOk (d : Nat) (S : Stm) : Prop := S.Ok ∧ S.deep ≤ d ∧ ∀ t ∈ S.fts, Nm smallS t
theorem StOk.mono {d e : Nat} {S : Stm} (h : StOk d S) (hd : d ≤ e) : StOk e S := ⟨h.1, Nat.le_trans h.2.1 hd, h.2.2⟩
def spDraw (K : PySem.W.Frag) : Sp := fun vs H Q _ => ∃ (a : Addr) (ns : List Int) (n : Int), vs = [.ref a, .int n] ∧ SqL K H a (ns.map V.int) ∧ ns.length ≤ 63 ∧ 0 ≤ n ∧
  ∀ (p np wp : Addr) (nm wd : List Str) H', Same H H' → H' p = some (.lst [.ref np, .ref wp]) → H' np = some (.lst (nm.map V.str)) → H' wp = some (.lst (wd.map V.str)) → nm.length = 3 → wd.length = 3 → (∀ t ∈ nm, Nm smallS t) → (∀ t ∈ wd, Nm smallS t) → Q (.ref p) H'
def spSome (K : PySem.W.Frag) : Sp := fun vs H Q _ => ∃ (a p np wp : Addr) (ns : List Int) (n c : Int) (nm wd : List Str), vs = [.ref a, .int n, .ref p, .int c] ∧ SqL K H a (ns.map V.int) ∧ ns.length ≤ 63 ∧ 0 ≤ n ∧ 0 ≤ c ∧ c ≤ 10 ∧
  H p = some (.lst [.ref np, .ref wp]) ∧ H np = some (.lst (nm.map V.str)) ∧ H wp = some (.lst (wd.map V.str)) ∧ nm.length = 3 ∧ wd.length = 3 ∧ (∀ t ∈ nm, Nm smallS t) ∧ (∀ t ∈ wd, Nm smallS t) ∧
  ∀ (q : Addr) (Ss : List Stm) (us : List V) H', Same H H' → H' q = some (.lst us) → RepL K H' Ss us → Ss.length = c.toNat → (∀ S ∈ Ss, StOk 5 S) → Q (.ref q) H'
end L2
set_option Elab.async false
set_option linter.all false
set_option maxRecDepth 100000
set_option maxHeartbeats 4000000
namespace L2
open PySem PySem.Spec PyProof.Rows
def keptI (l : Int) (r : Str) : Int := if opn r = true then l - 1 else l
def behind (k : Nat) (l : Int) (r : Str) (p : List Nat) : Option (List Nat) :=
  if keptI l r < 0 ∨ keptI l r > p.length then none else some (if opn r = true then p.take (keptI l r).toNat ++ [k] else p.take (keptI l r).toNat)
def fitAt (f : Nat → Int × Str) : Nat → Option (List Nat)
  | 0 => some []
  | i + 1 => (fitAt f i).bind (behind i (f i).1 (f i).2)
theorem nxt_len {k l : Nat} {r : Str} {p : List Nat} (h1 : o1 r ≤ l) (h2 : l ≤ p.length + o1 r) : (nxt k r l p).length = l := by
  unfold nxt
  unfold o1 at h1 h2
  split
  · next h => rw [if_pos h] at h1 h2; rw [List.length_append, List.length_take]; simp only [List.length_singleton]; omega
  · next h => rw [if_neg h] at h1 h2; rw [List.length_take]; omega
theorem pathAt_len {rs : List Str} {g : Nat → Nat} {n : Nat} (h : LvOk rs g n) : ∀ i, i ≤ n → (pathAt rs g i).length = room g i
  | 0, _ => rfl
  | i + 1, hi => by
    obtain ⟨h1, h2, _⟩ := h i (by omega)
    have ih := pathAt_len h i (by omega)
    show (nxt i (rs.getD i "") (g i) (pathAt rs g i)).length = room g (i + 1)
    rw [nxt_len h1 (by omega)]
    show g i = if i + 1 = 0 then 0 else g (i + 1 - 1)
    rw [if_neg (by omega)]
    rfl
theorem behind_fits {k : Nat} {l : Nat} {r : Str} {p : List Nat} (h1 : o1 r ≤ l) (h2 : l ≤ p.length + o1 r) : behind k (l : Int) r p = some (nxt k r l p) := by
  unfold behind nxt keptI
  unfold o1 at h1 h2
  by_cases h : opn r = true
  · rw [if_pos h] at h1 h2
    simp only [h, if_true]
    rw [if_neg (by omega), show ((l : Int) - 1).toNat = l - 1 by omega]
  · rw [if_neg h] at h1 h2
    simp only [h, if_false, Bool.false_eq_true]
    rw [if_neg (by omega), Int.toNat_natCast]
theorem fit_path {rs : List Str} {g : Nat → Nat} {n : Nat} (h : LvOk rs g n) {f : Nat → Int × Str} : ∀ i, i ≤ n → (∀ j, j < i → f j = ((g j : Int), rs.getD j "")) → fitAt f i = some (pathAt rs g i)
  | 0, _, _ => rfl
  | i + 1, hi, hf => by
    have ih := fit_path h (f := f) i (by omega) fun j hj => hf j (by omega)
    obtain ⟨h1, h2, _⟩ := h i (by omega)
    have hl := pathAt_len h i (by omega)
    show (fitAt f i).bind (behind i (f i).1 (f i).2) = _
    rw [ih, hf i (by omega)]
    exact behind_fits (k := i) h1 (show g i ≤ (pathAt rs g i).length + o1 (rs.getD i "") by omega)
theorem fit_none {f : Nat → Int × Str} {i : Nat} (h : fitAt f i = none) : ∀ d, fitAt f (i + d) = none
  | 0 => h
  | d + 1 => by
    show (fitAt f (i + d)).bind _ = none
    rw [fit_none h d]
    rfl
theorem fit_len {f : Nat → Int × Str} : ∀ {i : Nat} {p : List Nat}, fitAt f i = some p → p.length ≤ i
  | 0, p, h => by cases h; exact Nat.le_refl _
  | i + 1, p, h => by
    have h : (fitAt f i).bind (behind i (f i).1 (f i).2) = some p := h
    cases e : fitAt f i with
    | none => rw [e] at h; cases h
    | some q =>
      have ih := fit_len e
      rw [e] at h
      have h : behind i (f i).1 (f i).2 q = some p := h
      unfold behind at h
      split at h
      · cases h
      · cases h
        split
        · rw [List.length_append, List.length_take]; simp only [List.length_singleton]; omega
        · rw [List.length_take]; omega
def hv (h : Nat → Int) (n : Nat) : List V := (List.range n).map fun j => V.int (h j)
section
variable {K : PySem.W.Frag} {H H' : Hp} {us : List V} {f : Nat → Int × Str}
def RepLn (K : PySem.W.Frag) (H : Hp) (f : Nat → Int × Str) (us : List V) : Prop := ∀ i v, us[i]? = some v → ∃ a x y, v = .ref a ∧ SqT K H a [.int (f i).1, .str (f i).2, x, y]
theorem RepLn.same (e : Same H H') (h : RepLn K H f us) : RepLn K H' f us := fun i v hv => let ⟨a, x, y, e1, h1⟩ := h i v hv; ⟨a, x, y, e1, e.seqT h1⟩
theorem RepLn.nil : RepLn K H f [] := fun i v hv => by simp at hv
theorem RepLn.snoc {a : Addr} {x y : V} (h : RepLn K H f us) (h1 : SqT K H a [.int (f us.length).1, .str (f us.length).2, x, y]) : RepLn K H f (us ++ [.ref a]) := fun i v hv => by
  rw [List.getElem?_append] at hv
  split at hv
  · exact h i v hv
  · next hi =>
    have e : i = us.length := by
      obtain ⟨z, _⟩ := List.getElem?_eq_some_iff.mp hv
      simp at z; omega
    subst e
    simp at hv
    subst hv
    exact ⟨a, x, y, rfl, h1⟩
theorem RepPs.repD {g : Nat → List Nat} {q : Addr} (hq : SqT K H q us) (h : RepPs K H g us) : RepD K H (.tup ((List.range us.length).map fun i => idt (g i))) (.ref q) :=
  .tup hq (by simp) fun j d x h1 h2 => by
    have hj : j < us.length := (List.getElem?_eq_some_iff.mp h2).1
    obtain ⟨a, rfl, h3⟩ := h j x h2
    have : d = idt (g j) := by simpa [hj] using h1.symm
    subst this
    exact iv_repD h3
theorem deps_le {l : List Dt} {n : Nat} (h : ∀ d ∈ l, Dt.dep d ≤ n) : Dt.deps l ≤ n := by
  induction l with
  | nil => exact Nat.zero_le _
  | cons a l ih => exact Nat.max_le.mpr ⟨h a (by simp), ih fun d hd => h d (by simp [hd])⟩
end
def spBehind (K : PySem.W.Frag) : Sp := fun vs H Q _ => ∃ (a c : Addr) (k : Nat) (p : List Nat) (l : Int) (r : Str) (x y : V), vs = [.ref a, .ref c, .int k] ∧ SqT K H a (iv p) ∧ SqT K H c [.int l, .str r, x, y] ∧ p.length ≤ 100 ∧
  (behind k l r p = none → Q .non H) ∧ ∀ q, behind k l r p = some q → ∀ b H', Same H H' → SqT K H' b (iv q) → Q (.ref b) H'
def spFit (K : PySem.W.Frag) : Sp := fun vs H Q _ => ∃ (a : Addr) (us : List V) (f : Nat → Int × Str), vs = [.ref a] ∧ SqT K H a us ∧ RepLn K H f us ∧ us.length ≤ 80 ∧
  ∀ (q : Addr) ps H', Same H H' → SqT K H' q ps → RepPs K H' (fun i => (fitAt f (i + 1)).getD []) ps → ps.length ≤ us.length → (∀ i, i < ps.length → fitAt f (i + 1) ≠ none) → (ps.length < us.length → fitAt f (ps.length + 1) = none) → Q (.ref q) H'
end L2
set_option Elab.async false
set_option linter.all false
namespace L2
open PySem
section
variable {H : Hp} {Q : VK} {o0 o1 o2 o3 o4 o5 o6 o7 o8 o9 o10 o11 o12 o13 o14 o15 o16 : Option V} {v : V} {rr : St}
theorem w_v12 : tVar 12 (o0 :: o1 :: o2 :: o3 :: o4 :: o5 :: o6 :: o7 :: o8 :: o9 :: o10 :: o11 :: some v :: rr) H Q = Q v H := by simp [tVar]
theorem w_v13 : tVar 13 (o0 :: o1 :: o2 :: o3 :: o4 :: o5 :: o6 :: o7 :: o8 :: o9 :: o10 :: o11 :: o12 :: some v :: rr) H Q = Q v H := by simp [tVar]
theorem w_v14 : tVar 14 (o0 :: o1 :: o2 :: o3 :: o4 :: o5 :: o6 :: o7 :: o8 :: o9 :: o10 :: o11 :: o12 :: o13 :: some v :: rr) H Q = Q v H := by simp [tVar]
theorem w_v15 : tVar 15 (o0 :: o1 :: o2 :: o3 :: o4 :: o5 :: o6 :: o7 :: o8 :: o9 :: o10 :: o11 :: o12 :: o13 :: o14 :: some v :: rr) H Q = Q v H := by simp [tVar]
theorem w_v16 : tVar 16 (o0 :: o1 :: o2 :: o3 :: o4 :: o5 :: o6 :: o7 :: o8 :: o9 :: o10 :: o11 :: o12 :: o13 :: o14 :: o15 :: some v :: rr) H Q = Q v H := by simp [tVar]
theorem w_v17 : tVar 17 (o0 :: o1 :: o2 :: o3 :: o4 :: o5 :: o6 :: o7 :: o8 :: o9 :: o10 :: o11 :: o12 :: o13 :: o14 :: o15 :: o16 :: some v :: rr) H Q = Q v H := by simp [tVar]
end
end L2
set_option Elab.async false
set_option linter.all false
set_option maxRecDepth 100000
set_option maxHeartbeats 4000000
namespace L2
open PySem PySem.Spec PyProof.Rows
open AutoSeq1 (wpAny_loadPart')
theorem mro_reversed : mroOf (.type "reversed") = pure [.type "reversed", .type "object"] := by rw [mroOf_type]; kernel_rfl
theorem look_reversed_new : typeLookup (.type "reversed") "__new__" = pure (some (.builtin "reversed.__new__")) := by rw [typeLookup_type, builtinLookup_eq_fast]; kernel_rfl
theorem tcall_reversed (a : Value) : checkTypeCall "reversed" ⟨[a], []⟩ = pure () := by kernel_rfl
theorem ncall_reversed (a : Value) : checkBuiltinCall "reversed.__new__" ⟨[.type "reversed", a], []⟩ = pure () := by kernel_rfl
theorem ent_reversed_new : entryFor table "reversed.__new__" = some Builtin.«reversed.__new__» := entryFor_of_tree (by kernel_rfl)
theorem made_reversed : Bind.madeBy (.type "reversed") = pure (some "reversed.__new__") := madeBy_type mro_reversed look_reversed_new (by decide +kernel)
theorem plain_reversed_new : plainId "reversed.__new__" = true := by decide +kernel
theorem sub_reversed : isSubtype (.type "reversed") (.type "reversed") = pure true := by rw [isSubtype_type]; kernel_rfl
section
variable {prog : Program} {w : World} {A : Around} {E : Value → Shared → Prop} {s : Shared}
end
section
variable {prog : Program} {w : World} {A : Around} {E : Value → Shared → Prop} {s : Shared} {I : Addr} {fp wr : List Addr} {G : Array GenState → Array GenState → Prop} {n : Nat} {P : Nat → Value → Prop} {St : Nat → Shared → Prop}
end
section
variable {X : Cx}
theorem vals_rev {xs : List V} {us : List Value} (h : Vals xs us) : Vals xs.reverse us.reverse := by
  have key : ∀ {a : List V} {b : List Value}, Vals a b → ∀ {c : List V} {d : List Value}, Vals c d → Vals (a ++ c) (b ++ d) := by
    intro a b h
    induction h with
    | nil => intro c d h; exact h
    | cons h1 _ ih => intro c d h; exact .cons h1 (ih h)
  induction h with
  | nil => exact .nil
  | cons h1 _ ih => rw [List.reverse_cons, List.reverse_cons]; exact key ih (.cons h1 .nil)
end
end L2
namespace L2
open PySem PySem.Spec PyProof.Rows
open AutoSeq1
section
variable {X : Cx}
end
end L2
set_option Elab.async false
set_option linter.all false
set_option maxRecDepth 100000
set_option maxHeartbeats 4000000
namespace L2
open PySem PySem.Spec PyProof.Rows
section
variable {prog : Program} {w : World} {A : Around} {E : Value → Shared → Prop} {s : Shared}
theorem sub_rngit : isSubtype (.type "range_iterator") (.type "reversed") = pure false := by rw [isSubtype_type]; kernel_rfl
def smallR (n : Int) : Bool := Builtin.Range.rangeFitsLong 0 && Builtin.Range.rangeFitsLong n && Builtin.Range.rangeFitsLong 1 && Builtin.Range.rangeFitsLong (-1) && Builtin.Range.rangeFitsLong (0 - 1) && Builtin.Range.rangeFitsLong (Builtin.Range.rangeSize 0 n 1)
theorem meets_rrG (r : Addr) (a b c : Int) (t u v : Tok) (hc0 : ¬(!(Builtin.Range.rangeFitsLong a && Builtin.Range.rangeFitsLong b && Builtin.Range.rangeFitsLong c && Builtin.Range.rangeFitsLong (-c) && Builtin.Range.rangeFitsLong (a - c) && Builtin.Range.rangeFitsLong (Builtin.Range.rangeSize a b c))) = true) :
    Meets (Builtin.«range.__reversed__» ⟨[.ref r], []⟩) (fun _ R s => s.heap.get? r = some { cls := .type "range", dict := none, data := .fields #[.int a t, .int b u, .int c v], slots := #[] } ∧
      R (.ok (.ret (Value.ref s.heap.objs.size))) { s with heap := s.heap.push { cls := Value.type (if (Builtin.Range.rangeFitsLong a && Builtin.Range.rangeFitsLong b && Builtin.Range.rangeFitsLong c && Builtin.Range.rangeFitsLong (-c) && Builtin.Range.rangeFitsLong (a - c) && Builtin.Range.rangeFitsLong (Builtin.Range.rangeSize a b c)) = true then "range_iterator" else "longrange_iterator"), data := Data.fields #[rawInt (a + (Builtin.Range.rangeSize a b c - 1) * c), rawInt (Builtin.Range.rangeSize a b c), rawInt (-c)] }, toks := s.toks }) :=
  .of_wp fun prog w A R s h => by obtain ⟨hp, g, d, tk, os⟩ := s; obtain ⟨hl, h⟩ := h; wp_walk; exact ⟨_, rfl, h⟩
theorem meets_rr (r : Addr) (n : Int) (t u v : Tok) (hs : smallR n = true) :
    Meets (Builtin.«range.__reversed__» ⟨[.ref r], []⟩) (fun _ R s => s.heap.get? r = some { cls := .type "range", dict := none, data := .fields #[.int 0 t, .int n u, .int 1 v], slots := #[] } ∧
      R (.ok (.ret (Value.ref s.heap.objs.size))) { s with heap := s.heap.push { cls := Value.type "range_iterator", data := Data.fields #[rawInt (0 + (Builtin.Range.rangeSize 0 n 1 - 1) * 1), rawInt (Builtin.Range.rangeSize 0 n 1), rawInt (-1)] } }) := by
  have hs' : (Builtin.Range.rangeFitsLong 0 && Builtin.Range.rangeFitsLong n && Builtin.Range.rangeFitsLong 1 && Builtin.Range.rangeFitsLong (-1) && Builtin.Range.rangeFitsLong (0 - 1) && Builtin.Range.rangeFitsLong (Builtin.Range.rangeSize 0 n 1)) = true := hs
  have := meets_rrG r 0 n 1 t u v (by rw [hs']; decide)
  rw [if_pos hs'] at this
  exact this
theorem code_rr {r : Addr} {n : Int} {t u v : Tok} {Q₁ E₁ : Value → Shared → Prop} (hl : IsRange s.heap r 0 n 1 t u v) (hs : smallR n = true)
    (h : Q₁ (.ref s.heap.objs.size) { s with heap := s.heap.push { cls := Value.type "range_iterator", data := Data.fields #[rawInt (0 + (Builtin.Range.rangeSize 0 n 1 - 1) * 1), rawInt (Builtin.Range.rangeSize 0 n 1), rawInt (-1)] } }) :
    codeAny (model prog w) A (.call (.builtin "range.__reversed__") ⟨[.ref r], []⟩) (wants Q₁ E₁) s :=
  codeAny_call_builtin F.slot_range_reversed.plain F.entry_range_reversed (F.slot_range_reversed.check _ _ _ _ _ _ _ _ ⟨_, hl, rfl⟩ (F.args_range_reversed_1 _) (meets_rr r n t u v hs prog w _ (wants Q₁ E₁) _ ⟨hl, h⟩))
theorem meets_rr_new (r : Addr) (n : Int) (t u v : Tok) (hs : smallR n = true) :
    Meets (Builtin.«reversed.__new__» ⟨[.type "reversed", .ref r], []⟩) (fun _ R s => s.heap.get? r = some { cls := .type "range", dict := none, data := .fields #[.int 0 t, .int n u, .int 1 v], slots := #[] } ∧
      R (.ok (.ret (.ref s.heap.objs.size))) { s with heap := s.heap.push { cls := Value.type "range_iterator", data := Data.fields #[rawInt (0 + (Builtin.Range.rangeSize 0 n 1 - 1) * 1), rawInt (Builtin.Range.rangeSize 0 n 1), rawInt (-1)] } }) :=
  .of_wp fun prog w A R s h => by
    obtain ⟨hp, g, d, tk, os⟩ := s; obtain ⟨hl, h⟩ := h
    have hsub := sub_reversed
    have hT : Shared.TypeIs ⟨hp, g, d, tk, os⟩ (.ref r) "range" := ⟨_, hl, rfl⟩
    wp_walk using wpAny_specialOf hT F.slot_range_reversed.lookup
    refine wpAny_of_eq (F.slot_range_reversed.bind _) ?_
    show wpAny _ _ (rule "reversed.__new__.own-method" >>= _) _ _ _
    refine wpAny_bind (wpAny_rule ?_)
    refine wpAny_bind (wpAny_runValue (code_rr hl hs ?_))
    exact wpAny_pure ⟨_, rfl, h⟩
theorem code_rr_new {r : Addr} {n : Int} {t u v : Tok} {Q₁ E₁ : Value → Shared → Prop} (hl : IsRange s.heap r 0 n 1 t u v) (hs : smallR n = true)
    (h : Q₁ (.ref s.heap.objs.size) { s with heap := s.heap.push { cls := Value.type "range_iterator", data := Data.fields #[rawInt (0 + (Builtin.Range.rangeSize 0 n 1 - 1) * 1), rawInt (Builtin.Range.rangeSize 0 n 1), rawInt (-1)] } }) :
    codeAny (model prog w) A (.call (.builtin "reversed.__new__") ⟨[.type "reversed", .ref r], []⟩) (wants Q₁ E₁) s :=
  codeAny_call_builtin plain_reversed_new ent_reversed_new (wpAny_of_eq (ncall_reversed _) (meets_rr_new r n t u v hs prog w _ (wants Q₁ E₁) _ ⟨hl, h⟩))
theorem call_rr {r : Addr} {n : Int} {t u v : Tok} {Q : Value → Shared → Prop} (hl : IsRange s.heap r 0 n 1 t u v) (hs : smallR n = true)
    (h : Q (.ref s.heap.objs.size) { s with heap := s.heap.push { cls := Value.type "range_iterator", data := Data.fields #[rawInt (0 + (Builtin.Range.rangeSize 0 n 1 - 1) * 1), rawInt (Builtin.Range.rangeSize 0 n 1), rawInt (-1)] } }) :
    wpAny (model prog w) A (call (.type "reversed") [.ref r]) Q E s := by
  have hmro := mro_reversed
  have hmade := made_reversed
  have hct := tcall_reversed (.ref r)
  refine wpAny_call (codeAny_of_tree ?_)
  show wpAny _ _ (callAny (.type "reversed") _) _ _ _
  refine wpAny_pure ⟨Code.quiet_builtin _ (by decide +kernel), codeAny_builtin F.entry_type_call ?_⟩
  rw [Around.under_plain (weight_type_call_type "reversed" [.ref r] []) (units_type_call_type "reversed" [.ref r] [])]
  have h1 : (Value.type "reversed" == Value.type "type") = false := by decide +kernel
  have h2 : ((Manifest.find? "reversed").bind (·.mro.findSome? fun t => (Manifest.find? t).bind fun b => if b.noNew then some true else if b.attrs.any (·.1 == "__new__") then some false else none)).getD false = false := by decide +kernel
  repeat (any_goals (first | assumption | wp_step))
  refine codeAny_mono (code_rr_new (Q₁ := fun v s' => v = .ref s.heap.objs.size ∧ s' = { s with heap := s.heap.push { cls := Value.type "range_iterator", data := Data.fields #[rawInt (0 + (Builtin.Range.rangeSize 0 n 1 - 1) * 1), rawInt (Builtin.Range.rangeSize 0 n 1), rawInt (-1)] } }) (E₁ := fun _ _ => False) hl hs ⟨rfl, rfl⟩) fun r s₁ hr => ?_
  cases r with
  | error e => exact hr.elim
  | ok fl =>
    cases fl with
    | ret obj =>
      obtain ⟨rfl, rfl⟩ := hr
      show wpAny _ _ (isInstance _ _ >>= _) _ _ _
      refine wpAny_bind (wpAny_isInstance (b := false) ⟨_, Heap.get?_push_size _ rfl, rfl⟩ sub_rngit ?_)
      show wpAny _ _ (rule "type.call.new-gave-other-type" >>= _) _ _ _
      exact wpAny_bind (wpAny_rule (wpAny_pure h))
    | _ => exact hr.elim
end
def Itd (hi : Int) (n : Nat) : It := ⟨fun i _ => i < n, fun i H x H' => H' = H ∧ x = .int (hi - 1 - i), fun i _ => n ≤ i⟩
theorem turn_down {P : Program} {w : World} {K : PySem.W.Frag} {tg : Expr} (it : Addr) (hi : Int) (n : Nat) : Turn P w K tg (Itd hi n) [it] it (fun i h => IsRangeIter h it (hi - 1 + (i : Nat) * (-1)) ((n : Int) - (i : Nat)) (-1)) where
  mem := by simp
  obj := fun i h st b hb => by
    have e : b = it := by simpa using hb
    subst e
    exact ⟨_, st, fun v z => by
      have z' : Data.fields _ = Data.cell v := z
      cases z'⟩
  keep := fun i h h' st k => k it (by simp) _ st
  item := by
    intro X hP hw hK hc i pins s σ H E I hf st hg
    subst hP hw hK
    obtain ⟨f0, f1, f2, f3, f4, f5⟩ := hf it (by simp)
    have W := Walks.range (prog := X.prog) (w := X.w) (I.ok.hd hc) it (hi - 1) (-1) n
    refine W.item i s _ _ hg st fun v h' tk hv st' kk => ?_
    obtain ⟨t, rfl⟩ := hv
    have I1 : Inv X pins σ H { s with heap := h', toks := tk } := I.turned (fun b o hb e => kk b o (by simpa using hb) e) f0 f1 f3 f4 f5
    refine ⟨_, rfl, go_of (s := { s with heap := h', toks := tk }) (n := "range_iterator") st' rfl rfl (by decide) ⟨.int (hi - 1 - i), H, I1, ⟨t, ?_⟩, ⟨rfl, rfl⟩, st', fun b hb => (hf b hb).1⟩⟩
    rw [show hi - 1 + (i : Int) * (-1) = hi - 1 - i by omega]
  done := by
    intro X hP hw hK hc i pins s σ H E I hf st hg
    subst hP hw hK
    obtain ⟨f0, f1, f2, f3, f4, f5⟩ := hf it (by simp)
    exact wpAny_pyNext_range_end (I.ok.hd hc) st (by have : n ≤ i := hg; omega) fun h' eb => ⟨rfl, I.turned (t' := s.toks) (fun b o hb e => eb b o hb e) f0 f1 f3 f4 f5⟩
  self := fun _ _ _ _ _ st h => wpAny_pyIter_rangeiter st h
theorem smallR_of {n : Int} (h0 : 0 ≤ n) (h1 : n < 2 ^ 62) : smallR n = true := by
  unfold smallR
  rw [rangeSize_one]
  simp only [Builtin.Range.rangeFitsLong, Bool.and_eq_true, decide_eq_true_eq]
  split <;> omega
section
variable {X : Cx} {tg : Expr}
def iRr (ta : TA) : TI := fun σ H R => ta σ H fun vs H1 => ∃ j : Int, vs = [.int j] ∧ 0 ≤ j ∧ j < 2 ^ 62 ∧ R (Itd j j.toNat) H1
theorem pi_rr {a : Expr} {ta : TA} {p p' pos pos' : Pos} (hg' : Gl X "reversed") (hm' : X.mg "reversed" = none) (hg : Gl X "range") (hm : X.mg "range" = none) (ha : PA X [a] ta) (hs : starEach [a] X.env = [(false, eval a X.env)] := by rfl)
    (hs' : starEach [.Call (.Name "range" p) [a] [] pos] X.env = [(false, eval (.Call (.Name "range" p) [a] [] pos) X.env)] := by rfl) : PI X tg (.Call (.Name "reversed" p') [.Call (.Name "range" p) [a] [] pos] [] pos') (iRr ta) := by
  intro pins s σ H R I h
  refine Call_ (ld_blt I hg' hm' (by rfl) (PyProof.Rows.callWith_type1 ?_ hs' (by rfl)))
  rw [hs']
  show wpAny _ _ (spliced ((false, eval (.Call (.Name "range" p) [a] [] pos) X.env) :: [])) _ _ s
  refine Calls.spliced_cons ?_
  refine Call_ (ld_blt I hg hm boot_range (PyProof.Rows.callWith_type1 (thn (ha pos pins s σ H _ I h) fun us s1 ⟨vs, H1, I1, r1, q1⟩ => ?_) hs rfl))
  obtain ⟨j, e, q1, q2, q⟩ := q1
  subst e
  cases r1 with
  | cons r rr =>
    cases rr
    obtain ⟨t, rfl⟩ := r
    refine call_range_1 (Calls.spliced_nil (call_rr (IsRange.new ..) (smallR_of q1 q2) ?_))
    have I2 : Inv X pins σ H1 { s1 with heap := s1.heap.push { cls := .type "range", data := .fields #[.int 0 s1.toks, .int j t, .int 1 (s1.toks + 1)] }, toks := s1.toks + 1 + 1 } := I1.kept fun b o e => Heap.get?_push_of_some _ e
    have I3 := I2.kept (t' := s1.toks + 1 + 1) (h' := (s1.heap.push { cls := .type "range", data := .fields #[.int 0 s1.toks, .int j t, .int 1 (s1.toks + 1)] }).push { cls := Value.type "range_iterator", data := Data.fields #[rawInt (0 + (Builtin.Range.rangeSize 0 j 1 - 1) * 1), rawInt (Builtin.Range.rangeSize 0 j 1), rawInt (-1)] }) fun b o e => Heap.get?_push_of_some _ e
    have hit : IsRangeIter ((s1.heap.push { cls := .type "range", data := .fields #[.int 0 s1.toks, .int j t, .int 1 (s1.toks + 1)] }).push { cls := Value.type "range_iterator", data := Data.fields #[rawInt (0 + (Builtin.Range.rangeSize 0 j 1 - 1) * 1), rawInt (Builtin.Range.rangeSize 0 j 1), rawInt (-1)] }) (s1.heap.push { cls := .type "range", data := .fields #[.int 0 s1.toks, .int j t, .int 1 (s1.toks + 1)] }).objs.size (j - 1 + ((0 : Nat) : Int) * (-1)) (((j.toNat : Nat) : Int) - ((0 : Nat) : Int)) (-1) := by
      have e1 : j - 1 + ((0 : Nat) : Int) * (-1) = 0 + (Builtin.Range.rangeSize 0 j 1 - 1) * 1 := by rw [rangeSize_one]; split <;> omega
      have e2 : ((j.toNat : Nat) : Int) - ((0 : Nat) : Int) = Builtin.Range.rangeSize 0 j 1 := by rw [rangeSize_one]; split <;> omega
      rw [e1, e2]
      exact Heap.get?_push_size _ rfl
    refine wpAny_pyIter_rangeiter hit ?_
    refine ⟨_, [(s1.heap.push { cls := .type "range", data := .fields #[.int 0 s1.toks, .int j t, .int 1 (s1.toks + 1)] }).objs.size], _, _, H1, rfl, I3, turn_down _ j j.toNat, hit, fun b hb => ?_, q⟩
    have e : b = (s1.heap.push { cls := .type "range", data := .fields #[.int 0 s1.toks, .int j t, .int 1 (s1.toks + 1)] }).objs.size := by simpa using hb
    subst e
    exact I2.fpOk (Nat.le_refl _) (I2.hok.fresh (Nat.le_refl _))
theorem w_rr {ta : TA} {σ : St} {H : Hp} {R : It → Hp → Prop} : iRr ta σ H R = ta σ H fun vs H1 => ∃ j : Int, vs = [.int j] ∧ 0 ≤ j ∧ j < 2 ^ 62 ∧ R (Itd j j.toNat) H1 := rfl
theorem comp_down {hi : Int} {n nt : Nat} {is : List Nat} {g : TG} {tt : TT} {te : TE} {σ : St} {H : Hp} {Q : VK} (Pv : Nat → List V → Hp → Prop) (h0 : Pv 0 [] H)
    (hs : ∀ i acc H, i < n → Pv i acc H → acc.length < sizeLine ∧ g (.int (hi - 1 - i)) (slotsC nt is σ) H fun σ2 H2 => tt σ2 H2 fun b H3 => if b = true then te σ2 H3 fun y H4 => Pv (i + 1) (acc ++ [y]) H4 else Pv (i + 1) acc H3)
    (hd : ∀ acc H, Pv n acc H → ∀ p, H p = none → Q (.ref p) (upd H p (.lst acc))) : CompW (Itd hi n) nt is g tt te σ H Q := by
  refine comp_gen (n := n) Pv h0 (fun i acc H hi p => ?_) fun acc H p => ⟨Nat.le_refl _, hd acc H p⟩
  obtain ⟨h1, h2⟩ := hs i acc H hi p
  refine ⟨hi, h1, fun x H' y => ?_⟩
  obtain ⟨rfl, rfl⟩ := y
  exact h2
end
section
variable {X : Cx} {e st : Expr} {te ts : TE} {pos p2 : Pos}
theorem slicePick_rev (its : List Value) : slicePick its.toArray none none (some (-1)) = its.reverse.toArray := by
  unfold slicePick
  have e0 : sliceBounds none none (some (-1)) its.toArray.size = (((its.length : Nat) : Int) - 1, -1, -1) := by
    simp [sliceBounds]
  rw [e0]
  have e1 : sliceRange (((its.length : Nat) : Int) - 1) (-1) (-1) = (List.range its.length).map fun k => its.length - 1 - k := by
    unfold sliceRange
    have ec : (if (-1 : Int) > 0 then (if ((its.length : Nat) : Int) - 1 < -1 then (-1 - (((its.length : Nat) : Int) - 1) + -1 - 1) / -1 else 0)
        else (if ((its.length : Nat) : Int) - 1 > -1 then (((its.length : Nat) : Int) - 1 - -1 - -1 - 1) / (- -1) else 0)).toNat = its.length := by
      rw [if_neg (by decide)]
      split
      · simp
      · omega
    simp only [ec]
    refine List.map_congr_left fun k hk => ?_
    have := List.mem_range.mp hk
    omega
  congr 1
  show (sliceRange (((its.length : Nat) : Int) - 1) (-1) (-1)).filterMap (its.toArray[·]?) = its.reverse
  rw [e1, List.filterMap_map]
  have e2 : ∀ k ∈ List.range its.length, ((fun i : Nat => its.toArray[i]?) ∘ fun k => its.length - 1 - k) k = some (its.reverse.getD k .none) := fun k hk => by
    have hk := List.mem_range.mp hk
    show its.toArray[its.length - 1 - k]? = _
    rw [List.getElem?_toArray, List.getD_eq_getElem?_getD, List.getElem?_reverse hk, List.getElem?_eq_getElem (by omega)]
    rfl
  have fm : ∀ {l : List Nat} {f : Nat → Option Value} {g : Nat → Value}, (∀ m ∈ l, f m = some (g m)) → l.filterMap f = l.map g := by
    intro l f g h
    induction l with
    | nil => rfl
    | cons a l ih => rw [List.filterMap_cons, h a (by simp), ih fun m hm => h m (by simp [hm])]; rfl
  rw [fm e2]
  refine List.ext_getElem? fun i => ?_
  rw [List.getElem?_map]
  by_cases hi : i < its.length
  · rw [List.getElem?_range hi]
    show some (its.reverse.getD i .none) = _
    rw [List.getD_eq_getElem?_getD, List.getElem?_eq_getElem (by rw [List.length_reverse]; exact hi)]
    rfl
  · rw [List.getElem?_eq_none (by rw [List.length_range]; omega), List.getElem?_eq_none (by rw [List.length_reverse]; omega)]
    rfl
def tRvL (K : PySem.W.Frag) (te ts : TE) : TE := fun σ H Q => te σ H fun x H1 => ts σ H1 fun y H2 => y = .int (-1) ∧ ∃ a xs, x = .ref a ∧ SqL K H2 a xs ∧ ∀ p, H2 p = none → Q (.ref p) (upd H2 p (.lst xs.reverse))
theorem pe_rvL (he : PE X e te) (hs : PE X st ts) (ht : ∀ o r, letTemporaryGo e o r = pure () := by intro _ _; rfl) : PE X (.Subscript e (.Slice none none (some st) p2) pos) (tRvL X.K te ts) := by
  intro pins s σ H Q I h
  refine wpAny_Subscript_Slice_step slot_list_getitem.lookup (thn (he pins s σ H _ I h) fun v s1 ⟨x, H1, I1, r1, q1⟩ => ?_) ht
  refine wpAny_Slice ?_
  rw [evalPart_none, evalPart_some]
  refine wpAny_pure (wpAny_pure (thn (hs pins s1 σ H1 _ I1 q1) fun vs s2 ⟨y, H2, I2, r2, q2⟩ => ?_))
  obtain ⟨rfl, a, xs, rfl, hx, q⟩ := q2
  obtain ⟨t, rfl⟩ := r2
  cases r1
  have I3 : Inv X pins σ H2 { s2 with heap := s2.heap.push { cls := .type "slice", data := .fields #[.none, .none, .int (-1) t] } } := I2.kept (t' := s2.toks) fun b ob q => Heap.get?_push_of_some _ q
  obtain ⟨its, r, hT, hz⟩ := I3.list hx
  have hlen : its.toArray.size = xs.length := by rw [List.size_toArray]; exact r.length.symm
  refine ⟨hT.isList.typeIs, wpAny_getItem_list_slice (lo := none) (hi := none) (st := some (-1)) hT.isList (Heap.IsSliceOf.new ..) .none .none (.int _ _) (by decide) ?_ (by rw [hlen]; exact Nat.le_trans (Nat.le_refl _) hz)⟩
  rw [slicePick_rev]
  refine ⟨.ref _, _, I3.laid (t' := s2.toks) (o := .lst xs.reverse) (fun b o e => Heap.get?_push_of_some _ e) (Nat.le_refl _) ⟨by rw [List.length_reverse]; exact hz, its.reverse, 0, vals_rev r, Heap.get?_push_size _ rfl⟩, rfl, q _ (I3.hok.fresh (Nat.le_refl _))⟩
theorem w_rvL {K : PySem.W.Frag} {σ : St} {H : Hp} {Q : VK} : tRvL K te ts σ H Q = te σ H fun x H1 => ts σ H1 fun y H2 => y = .int (-1) ∧ ∃ a xs, x = .ref a ∧ SqL K H2 a xs ∧ ∀ p, H2 p = none → Q (.ref p) (upd H2 p (.lst xs.reverse)) := rfl
def rEqBs (K : PySem.W.Frag) : R2 := fun x y H Q => ∃ p q bs cs, x = .ref p ∧ y = .ref q ∧ SqL K H p (List.map V.bl bs) ∧ SqL K H q (List.map V.bl cs) ∧ bs.length = cs.length ∧ Q (.bl ((List.range bs.length).all fun i => bs.getD i false == cs.getD i false)) H
def rNeBs (K : PySem.W.Frag) : R2 := fun x y H Q => ∃ p q bs cs, x = .ref p ∧ y = .ref q ∧ SqL K H p (List.map V.bl bs) ∧ SqL K H q (List.map V.bl cs) ∧ bs.length = cs.length ∧ Q (.bl (!(List.range bs.length).all fun i => bs.getD i false == cs.getD i false)) H
theorem bs_at {H : Hp} {bs : List Bool} {j : Nat} {x : V} (h : (List.map V.bl bs)[j]? = some x) : x = .bl (bs.getD j false) := by
  rw [List.getElem?_map] at h
  rw [List.getD_eq_getElem?_getD]
  cases e : bs[j]? with
  | none => rw [e] at h; cases h
  | some b => rw [e] at h; cases h; rfl
theorem op_eqBs (hu : X.A.units + 64 < cLine) : OpR X (compareOp .Eq) (rEqBs X.K) := by
  intro pins s σ H x y v u Q I rx ry ⟨p, q, bs, cs, e1, e2, hp, hq, hl, k⟩
  refine op_eqD hu pins s σ H x y v u Q I rx ry ⟨1, _, by decide, .inl (by rw [e1]; rfl), ?_, k⟩
  rw [e1, e2]
  have := EqD.lsts (n := 0) (K := X.K) (H := H) (xs := List.map V.bl bs) (ys := List.map V.bl cs) (fun i => bs.getD i false == cs.getD i false) hp hq (by rw [List.length_map, List.length_map]; exact hl) fun j x y h1 h2 => by
    rw [bs_at (H := H) h1, bs_at (H := H) h2]
    exact .flat rfl rfl
  rw [List.length_map] at this
  exact this
theorem op_neBs (hu : X.A.units + 64 < cLine) : OpR X (compareOp .NotEq) (rNeBs X.K) := by
  intro pins s σ H x y v u Q I rx ry ⟨p, q, bs, cs, e1, e2, hp, hq, hl, k⟩
  subst e1 e2
  cases rx
  cases ry
  obtain ⟨its, r1, p1⟩ := isL I hp
  obtain ⟨its2, r2, p2⟩ := isL I hq
  have l1 : its.toArray.size = bs.length := by rw [List.size_toArray, ← r1.length, List.length_map]
  have l2 : its2.toArray.size = cs.length := by rw [List.size_toArray, ← r2.length, List.length_map]
  have key : SeqAt.RcNeAt X.A s (.ref p) (.ref q) (!(List.range its.toArray.size).all fun i => bs.getD i false == cs.getD i false) := by
    refine SeqAt.RcNeAt.lists p1 p2 (by omega) (by omega) fun j h1 h2 => ?_
    obtain ⟨x1, a1, b1⟩ := getD_some r1 h1
    obtain ⟨x2, a2, b2⟩ := getD_some r2 h2
    rw [bs_at (H := H) a1] at b1
    rw [bs_at (H := H) a2] at b2
    exact eqAt_V b1 b2 rfl rfl
  rw [l1] at key
  exact key X.prog X.w X.xe _ ⟨.bl _, H, I, rfl, k⟩
def rEqX (K : PySem.W.Frag) : R2 := fun x y H Q => rEqBs K x y H Q ∨ rEqC K x y H Q
theorem opL_eq (K : PySem.W.Frag) (hu : X.A.units + 64 < cLine) (hK : X.K = K := by rfl) : OpR X (compareOp .Eq) (rEqX K) := hK ▸ (OpR.or (op_eqBs hu) (opC_eq X.K hu) : OpR X (compareOp .Eq) (rEqX X.K))
theorem opL_ne (K : PySem.W.Frag) (hu : X.A.units + 64 < cLine) (hK : X.K = K := by rfl) : OpR X (compareOp .NotEq) (rNeBs K) := hK ▸ op_neBs hu
theorem w_eqX {K : PySem.W.Frag} {p q : Addr} {H : Hp} {Q : VK} : rEqX K (.ref p) (.ref q) H Q = (rEqBs K (.ref p) (.ref q) H Q ∨ rEqC K (.ref p) (.ref q) H Q) := rfl
theorem w_neL {K : PySem.W.Frag} {p q : Addr} {H : Hp} {Q : VK} : rNeBs K (.ref p) (.ref q) H Q = ∃ bs cs, SqL K H p (List.map V.bl bs) ∧ SqL K H q (List.map V.bl cs) ∧ bs.length = cs.length ∧ Q (.bl (!(List.range bs.length).all fun i => bs.getD i false == cs.getD i false)) H :=
  propext ⟨fun ⟨_, _, bs, cs, e1, e2, h⟩ => by cases e1; cases e2; exact ⟨bs, cs, h⟩, fun ⟨bs, cs, h⟩ => ⟨p, q, bs, cs, rfl, rfl, h⟩⟩
end
end L2
set_option Elab.async false
set_option linter.all false
set_option maxRecDepth 100000
set_option maxHeartbeats 4000000
namespace K31
open PySem L2
def top (i : Nat) : Stmt := PySem.Challenge.pw_boxproof_k31_given_guess_again.main.body.getD i (.Pass ⟨0, 0, 0, 0⟩)
abbrev s_seen : Stmt := top 1
abbrev s_box_seen : Stmt := top 2
abbrev s_begins_with : Stmt := top 3
abbrev s_end_of : Stmt := top 4
abbrev s_opens : Stmt := top 10
abbrev s_boxes : Stmt := top 11
abbrev s_fitting_boxes : Stmt := top 12
abbrev s_boxes_behind : Stmt := top 13
abbrev s_begins_and_goes_on : Stmt := top 21
abbrev s_is_name : Stmt := top 22
abbrev s_is_letter : Stmt := top 23
abbrev s_parts : Stmt := top 24
abbrev s_terms_in : Stmt := top 25
abbrev s_names_in : Stmt := top 26
abbrev s_free_terms_in : Stmt := top 27
abbrev s_free_in : Stmt := top 28
abbrev s_put : Stmt := top 29
abbrev s_by_again : Stmt := top 32
abbrev s_by_both : Stmt := top 33
abbrev s_by_left : Stmt := top 34
abbrev s_by_right : Stmt := top 35
abbrev s_by_either : Stmt := top 36
abbrev s_by_cases : Stmt := top 37
abbrev s_by_then : Stmt := top 38
abbrev s_by_use : Stmt := top 39
abbrev s_by_deny : Stmt := top 40
abbrev s_by_clash : Stmt := top 41
abbrev s_by_absurd : Stmt := top 42
abbrev s_by_any : Stmt := top 43
abbrev s_by_each : Stmt := top 44
abbrev s_by_every : Stmt := top 45
abbrev s_by_some : Stmt := top 46
abbrev s_by_one : Stmt := top 47
abbrev s_leads : Stmt := top 48
abbrev s_opened_with : Stmt := top 49
abbrev s_only_name : Stmt := top 50
abbrev s_name_for : Stmt := top 51
abbrev s_names_of : Stmt := top 54
abbrev s_follows : Stmt := top 55
abbrev s_follows_behind : Stmt := top 56
abbrev s_fits_its_rule : Stmt := top 57
abbrev s_follows_by : Stmt := top 58
abbrev s_stands_for : Stmt := top 59
abbrev s_is_number_ahead : Stmt := top 60
abbrev s_seen_box : Stmt := top 61
abbrev s_statement_of : Stmt := top 62
abbrev s_cell_at_L : Stmt := top 64
abbrev s_name_by_L : Stmt := top 65
abbrev s_letter_by_L : Stmt := top 66
abbrev s_made_L : Stmt := top 67
abbrev s_draw_L : Stmt := top 68
abbrev s_some_L : Stmt := top 69
abbrev s_paths_L : Stmt := top 70
abbrev s_line_L : Stmt := top 71
abbrev s_refs_L : Stmt := top 72
abbrev s_lines_L : Stmt := top 73
abbrev s_due_L : Stmt := top 74
abbrev s_law : Stmt := top 75
abbrev s_Ahead_init : Stmt := inClass (top 53) 0
abbrev s_Ahead_only_givens : Stmt := inClass (top 53) 1
abbrev s_Ahead_has_name : Stmt := inClass (top 53) 2
set_option genInjectivity false in
set_option genSizeOf false in
structure Defs where
  (a_seen : Addr) (d_seen : FuncData)
  (a_box_seen : Addr) (d_box_seen : FuncData)
  (a_begins_with : Addr) (d_begins_with : FuncData)
  (a_end_of : Addr) (d_end_of : FuncData)
  (a_opens : Addr) (d_opens : FuncData)
  (a_boxes : Addr) (d_boxes : FuncData)
  (a_fitting_boxes : Addr) (d_fitting_boxes : FuncData)
  (a_boxes_behind : Addr) (d_boxes_behind : FuncData)
  (a_begins_and_goes_on : Addr) (d_begins_and_goes_on : FuncData)
  (a_is_name : Addr) (d_is_name : FuncData)
  (a_is_letter : Addr) (d_is_letter : FuncData)
  (a_parts : Addr) (d_parts : FuncData)
  (a_terms_in : Addr) (d_terms_in : FuncData)
  (a_names_in : Addr) (d_names_in : FuncData)
  (a_free_terms_in : Addr) (d_free_terms_in : FuncData)
  (a_free_in : Addr) (d_free_in : FuncData)
  (a_put : Addr) (d_put : FuncData)
  (a_by_again : Addr) (d_by_again : FuncData)
  (a_by_both : Addr) (d_by_both : FuncData)
  (a_by_left : Addr) (d_by_left : FuncData)
  (a_by_right : Addr) (d_by_right : FuncData)
  (a_by_either : Addr) (d_by_either : FuncData)
  (a_by_cases : Addr) (d_by_cases : FuncData)
  (a_by_then : Addr) (d_by_then : FuncData)
  (a_by_use : Addr) (d_by_use : FuncData)
  (a_by_deny : Addr) (d_by_deny : FuncData)
  (a_by_clash : Addr) (d_by_clash : FuncData)
  (a_by_absurd : Addr) (d_by_absurd : FuncData)
  (a_by_any : Addr) (d_by_any : FuncData)
  (a_by_each : Addr) (d_by_each : FuncData)
  (a_by_every : Addr) (d_by_every : FuncData)
  (a_by_some : Addr) (d_by_some : FuncData)
  (a_by_one : Addr) (d_by_one : FuncData)
  (a_leads : Addr) (d_leads : FuncData)
  (a_opened_with : Addr) (d_opened_with : FuncData)
  (a_only_name : Addr) (d_only_name : FuncData)
  (a_name_for : Addr) (d_name_for : FuncData)
  (a_names_of : Addr) (d_names_of : FuncData)
  (a_follows : Addr) (d_follows : FuncData)
  (a_follows_behind : Addr) (d_follows_behind : FuncData)
  (a_fits_its_rule : Addr) (d_fits_its_rule : FuncData)
  (a_follows_by : Addr) (d_follows_by : FuncData)
  (a_stands_for : Addr) (d_stands_for : FuncData)
  (a_is_number_ahead : Addr) (d_is_number_ahead : FuncData)
  (a_seen_box : Addr) (d_seen_box : FuncData)
  (a_statement_of : Addr) (d_statement_of : FuncData)
  (a_cell_at_L : Addr) (d_cell_at_L : FuncData)
  (a_name_by_L : Addr) (d_name_by_L : FuncData)
  (a_letter_by_L : Addr) (d_letter_by_L : FuncData)
  (a_made_L : Addr) (d_made_L : FuncData)
  (a_draw_L : Addr) (d_draw_L : FuncData)
  (a_some_L : Addr) (d_some_L : FuncData)
  (a_paths_L : Addr) (d_paths_L : FuncData)
  (a_line_L : Addr) (d_line_L : FuncData)
  (a_refs_L : Addr) (d_refs_L : FuncData)
  (a_lines_L : Addr) (d_lines_L : FuncData)
  (a_due_L : Addr) (d_due_L : FuncData)
  (a_law : Addr) (d_law : FuncData)
  (a_Ahead_init : Addr) (d_Ahead_init : FuncData)
  (a_Ahead_only_givens : Addr) (d_Ahead_only_givens : FuncData)
  (a_Ahead_has_name : Addr) (d_Ahead_has_name : FuncData)
  (k_OPENING_RULES : Addr)
  (k_KEPT_WORDS : Addr)
  (k_QUANTIFIERS : Addr)
  (k_FALSE : Addr)
  (k_RULES : Addr) (r_RULES_0 w_RULES_0 : Addr) (r_RULES_1 w_RULES_1 : Addr) (r_RULES_2 w_RULES_2 : Addr) (r_RULES_3 w_RULES_3 : Addr) (r_RULES_4 w_RULES_4 : Addr) (r_RULES_5 w_RULES_5 : Addr) (r_RULES_6 w_RULES_6 : Addr) (r_RULES_7 w_RULES_7 : Addr) (r_RULES_8 w_RULES_8 : Addr) (r_RULES_9 w_RULES_9 : Addr) (r_RULES_10 w_RULES_10 : Addr) (r_RULES_11 w_RULES_11 : Addr) (r_RULES_12 w_RULES_12 : Addr) (r_RULES_13 w_RULES_13 : Addr) (r_RULES_14 w_RULES_14 : Addr) (r_RULES_15 w_RULES_15 : Addr)
  (x_BoxError : Addr)
  (x_NoBox : Addr)
  (C_Ahead : Addr)
set_option genInjectivity false in
set_option genSizeOf false in
structure Tx (K : PySem.W.Frag) (mg : Str → Option Value) (D : Defs) : Prop where
  F_seen : Fun K "seen" "seen" s_seen D.a_seen D.d_seen
  m_seen : mg "seen" = some (.ref D.a_seen)
  b_seen : Binds K D.d_seen ["paths", "k", "i"] []
  F_box_seen : Fun K "box_seen" "box_seen" s_box_seen D.a_box_seen D.d_box_seen
  m_box_seen : mg "box_seen" = some (.ref D.a_box_seen)
  b_box_seen : Binds K D.d_box_seen ["paths", "k", "b"] []
  F_begins_with : Fun K "begins_with" "begins_with" s_begins_with D.a_begins_with D.d_begins_with
  m_begins_with : mg "begins_with" = some (.ref D.a_begins_with)
  b_begins_with : Binds K D.d_begins_with ["path", "beginning"] []
  F_end_of : Fun K "end_of" "end_of" s_end_of D.a_end_of D.d_end_of
  m_end_of : mg "end_of" = some (.ref D.a_end_of)
  b_end_of : Binds K D.d_end_of ["paths", "b"] []
  F_opens : Fun K "opens" "opens" s_opens D.a_opens D.d_opens
  m_opens : mg "opens" = some (.ref D.a_opens)
  b_opens : Binds K D.d_opens ["rule"] []
  F_boxes : Fun K "boxes" "boxes" s_boxes D.a_boxes D.d_boxes
  m_boxes : mg "boxes" = some (.ref D.a_boxes)
  b_boxes : Binds K D.d_boxes ["lines"] []
  F_fitting_boxes : Fun K "fitting_boxes" "fitting_boxes" s_fitting_boxes D.a_fitting_boxes D.d_fitting_boxes
  m_fitting_boxes : mg "fitting_boxes" = some (.ref D.a_fitting_boxes)
  b_fitting_boxes : Binds K D.d_fitting_boxes ["lines"] []
  F_boxes_behind : Fun K "boxes_behind" "boxes_behind" s_boxes_behind D.a_boxes_behind D.d_boxes_behind
  m_boxes_behind : mg "boxes_behind" = some (.ref D.a_boxes_behind)
  b_boxes_behind : Binds K D.d_boxes_behind ["path", "line", "k"] []
  F_begins_and_goes_on : Fun K "begins_and_goes_on" "begins_and_goes_on" s_begins_and_goes_on D.a_begins_and_goes_on D.d_begins_and_goes_on
  m_begins_and_goes_on : mg "begins_and_goes_on" = some (.ref D.a_begins_and_goes_on)
  b_begins_and_goes_on : Binds K D.d_begins_and_goes_on ["text", "first_signs"] []
  F_is_name : Fun K "is_name" "is_name" s_is_name D.a_is_name D.d_is_name
  m_is_name : mg "is_name" = some (.ref D.a_is_name)
  b_is_name : Binds K D.d_is_name ["text"] []
  F_is_letter : Fun K "is_letter" "is_letter" s_is_letter D.a_is_letter D.d_is_letter
  m_is_letter : mg "is_letter" = some (.ref D.a_is_letter)
  b_is_letter : Binds K D.d_is_letter ["text"] []
  F_parts : Fun K "parts" "parts" s_parts D.a_parts D.d_parts
  m_parts : mg "parts" = some (.ref D.a_parts)
  b_parts : Binds K D.d_parts ["A"] []
  F_terms_in : Fun K "terms_in" "terms_in" s_terms_in D.a_terms_in D.d_terms_in
  m_terms_in : mg "terms_in" = some (.ref D.a_terms_in)
  b_terms_in : Binds K D.d_terms_in ["A"] []
  F_names_in : Fun K "names_in" "names_in" s_names_in D.a_names_in D.d_names_in
  m_names_in : mg "names_in" = some (.ref D.a_names_in)
  b_names_in : Binds K D.d_names_in ["A"] []
  F_free_terms_in : Fun K "free_terms_in" "free_terms_in" s_free_terms_in D.a_free_terms_in D.d_free_terms_in
  m_free_terms_in : mg "free_terms_in" = some (.ref D.a_free_terms_in)
  b_free_terms_in : Binds K D.d_free_terms_in ["A"] []
  F_free_in : Fun K "free_in" "free_in" s_free_in D.a_free_in D.d_free_in
  m_free_in : mg "free_in" = some (.ref D.a_free_in)
  b_free_in : Binds K D.d_free_in ["A"] []
  F_put : Fun K "put" "put" s_put D.a_put D.d_put
  m_put : mg "put" = some (.ref D.a_put)
  b_put : Binds K D.d_put ["A", "letter", "name"] []
  F_by_again : Fun K "by_again" "by_again" s_by_again D.a_by_again D.d_by_again
  m_by_again : mg "by_again" = some (.ref D.a_by_again)
  b_by_again : Binds K D.d_by_again ["S", "taken"] []
  F_by_both : Fun K "by_both" "by_both" s_by_both D.a_by_both D.d_by_both
  m_by_both : mg "by_both" = some (.ref D.a_by_both)
  b_by_both : Binds K D.d_by_both ["S", "taken"] []
  F_by_left : Fun K "by_left" "by_left" s_by_left D.a_by_left D.d_by_left
  m_by_left : mg "by_left" = some (.ref D.a_by_left)
  b_by_left : Binds K D.d_by_left ["S", "taken"] []
  F_by_right : Fun K "by_right" "by_right" s_by_right D.a_by_right D.d_by_right
  m_by_right : mg "by_right" = some (.ref D.a_by_right)
  b_by_right : Binds K D.d_by_right ["S", "taken"] []
  F_by_either : Fun K "by_either" "by_either" s_by_either D.a_by_either D.d_by_either
  m_by_either : mg "by_either" = some (.ref D.a_by_either)
  b_by_either : Binds K D.d_by_either ["S", "taken"] []
  F_by_cases : Fun K "by_cases" "by_cases" s_by_cases D.a_by_cases D.d_by_cases
  m_by_cases : mg "by_cases" = some (.ref D.a_by_cases)
  b_by_cases : Binds K D.d_by_cases ["S", "taken"] []
  F_by_then : Fun K "by_then" "by_then" s_by_then D.a_by_then D.d_by_then
  m_by_then : mg "by_then" = some (.ref D.a_by_then)
  b_by_then : Binds K D.d_by_then ["S", "taken"] []
  F_by_use : Fun K "by_use" "by_use" s_by_use D.a_by_use D.d_by_use
  m_by_use : mg "by_use" = some (.ref D.a_by_use)
  b_by_use : Binds K D.d_by_use ["S", "taken"] []
  F_by_deny : Fun K "by_deny" "by_deny" s_by_deny D.a_by_deny D.d_by_deny
  m_by_deny : mg "by_deny" = some (.ref D.a_by_deny)
  b_by_deny : Binds K D.d_by_deny ["S", "taken"] []
  F_by_clash : Fun K "by_clash" "by_clash" s_by_clash D.a_by_clash D.d_by_clash
  m_by_clash : mg "by_clash" = some (.ref D.a_by_clash)
  b_by_clash : Binds K D.d_by_clash ["S", "taken"] []
  F_by_absurd : Fun K "by_absurd" "by_absurd" s_by_absurd D.a_by_absurd D.d_by_absurd
  m_by_absurd : mg "by_absurd" = some (.ref D.a_by_absurd)
  b_by_absurd : Binds K D.d_by_absurd ["S", "taken"] []
  F_by_any : Fun K "by_any" "by_any" s_by_any D.a_by_any D.d_by_any
  m_by_any : mg "by_any" = some (.ref D.a_by_any)
  b_by_any : Binds K D.d_by_any ["S", "taken"] []
  F_by_each : Fun K "by_each" "by_each" s_by_each D.a_by_each D.d_by_each
  m_by_each : mg "by_each" = some (.ref D.a_by_each)
  b_by_each : Binds K D.d_by_each ["S", "taken"] []
  F_by_every : Fun K "by_every" "by_every" s_by_every D.a_by_every D.d_by_every
  m_by_every : mg "by_every" = some (.ref D.a_by_every)
  b_by_every : Binds K D.d_by_every ["S", "taken"] []
  F_by_some : Fun K "by_some" "by_some" s_by_some D.a_by_some D.d_by_some
  m_by_some : mg "by_some" = some (.ref D.a_by_some)
  b_by_some : Binds K D.d_by_some ["S", "taken"] []
  F_by_one : Fun K "by_one" "by_one" s_by_one D.a_by_one D.d_by_one
  m_by_one : mg "by_one" = some (.ref D.a_by_one)
  b_by_one : Binds K D.d_by_one ["S", "taken"] []
  F_leads : Fun K "leads" "leads" s_leads D.a_leads D.d_leads
  m_leads : mg "leads" = some (.ref D.a_leads)
  b_leads : Binds K D.d_leads ["box", "guessed", "ending"] []
  F_opened_with : Fun K "opened_with" "opened_with" s_opened_with D.a_opened_with D.d_opened_with
  m_opened_with : mg "opened_with" = some (.ref D.a_opened_with)
  b_opened_with : Binds K D.d_opened_with ["box", "rule"] []
  F_only_name : Fun K "only_name" "only_name" s_only_name D.a_only_name D.d_only_name
  m_only_name : mg "only_name" = some (.ref D.a_only_name)
  b_only_name : Binds K D.d_only_name ["line"] []
  F_name_for : Fun K "name_for" "name_for" s_name_for D.a_name_for D.d_name_for
  m_name_for : mg "name_for" = some (.ref D.a_name_for)
  b_name_for : Binds K D.d_name_for ["ref"] []
  F_names_of : Fun K "names_of" "names_of" s_names_of D.a_names_of D.d_names_of
  m_names_of : mg "names_of" = some (.ref D.a_names_of)
  b_names_of : Binds K D.d_names_of ["line"] []
  F_follows : Fun K "follows" "follows" s_follows D.a_follows D.d_follows
  m_follows : mg "follows" = some (.ref D.a_follows)
  b_follows : Binds K D.d_follows ["lines", "paths", "k"] []
  F_follows_behind : Fun K "follows_behind" "follows_behind" s_follows_behind D.a_follows_behind D.d_follows_behind
  m_follows_behind : mg "follows_behind" = some (.ref D.a_follows_behind)
  b_follows_behind : Binds K D.d_follows_behind ["ahead", "lines", "paths", "k"] []
  F_fits_its_rule : Fun K "fits_its_rule" "fits_its_rule" s_fits_its_rule D.a_fits_its_rule D.d_fits_its_rule
  m_fits_its_rule : mg "fits_its_rule" = some (.ref D.a_fits_its_rule)
  b_fits_its_rule : Binds K D.d_fits_its_rule ["statement", "rule"] []
  F_follows_by : Fun K "follows_by" "follows_by" s_follows_by D.a_follows_by D.d_follows_by
  m_follows_by : mg "follows_by" = some (.ref D.a_follows_by)
  b_follows_by : Binds K D.d_follows_by ["wants_and_step", "lines", "paths", "k"] []
  F_stands_for : Fun K "stands_for" "stands_for" s_stands_for D.a_stands_for D.d_stands_for
  m_stands_for : mg "stands_for" = some (.ref D.a_stands_for)
  b_stands_for : Binds K D.d_stands_for ["want", "ref", "lines", "paths", "k"] []
  F_is_number_ahead : Fun K "is_number_ahead" "is_number_ahead" s_is_number_ahead D.a_is_number_ahead D.d_is_number_ahead
  m_is_number_ahead : mg "is_number_ahead" = some (.ref D.a_is_number_ahead)
  b_is_number_ahead : Binds K D.d_is_number_ahead ["ref", "k"] []
  F_seen_box : Fun K "seen_box" "seen_box" s_seen_box D.a_seen_box D.d_seen_box
  m_seen_box : mg "seen_box" = some (.ref D.a_seen_box)
  b_seen_box : Binds K D.d_seen_box ["b", "lines", "paths", "k"] []
  F_statement_of : Fun K "statement_of" "statement_of" s_statement_of D.a_statement_of D.d_statement_of
  m_statement_of : mg "statement_of" = some (.ref D.a_statement_of)
  b_statement_of : Binds K D.d_statement_of ["line"] []
  F_cell_at_L : Fun K "_law_cell_at" "_law_cell_at" s_cell_at_L D.a_cell_at_L D.d_cell_at_L
  m_cell_at_L : mg "_law_cell_at" = some (.ref D.a_cell_at_L)
  b_cell_at_L : Binds K D.d_cell_at_L ["_law_script", "_law_k"] []
  F_name_by_L : Fun K "_law_name_by" "_law_name_by" s_name_by_L D.a_name_by_L D.d_name_by_L
  m_name_by_L : mg "_law_name_by" = some (.ref D.a_name_by_L)
  b_name_by_L : Binds K D.d_name_by_L ["_law_shape", "_law_cell", "_law_k"] []
  F_letter_by_L : Fun K "_law_letter_by" "_law_letter_by" s_letter_by_L D.a_letter_by_L D.d_letter_by_L
  m_letter_by_L : mg "_law_letter_by" = some (.ref D.a_letter_by_L)
  b_letter_by_L : Binds K D.d_letter_by_L ["_law_cell"] []
  F_made_L : Fun K "_law_made" "_law_made" s_made_L D.a_made_L D.d_made_L
  m_made_L : mg "_law_made" = some (.ref D.a_made_L)
  b_made_L : Binds K D.d_made_L ["_law_number", "_law_room", "_law_terms", "_law_words"] []
  F_draw_L : Fun K "_law_draw" "_law_draw" s_draw_L D.a_draw_L D.d_draw_L
  m_draw_L : mg "_law_draw" = some (.ref D.a_draw_L)
  b_draw_L : Binds K D.d_draw_L ["_law_script", "_law_at"] []
  F_some_L : Fun K "_law_some" "_law_some" s_some_L D.a_some_L D.d_some_L
  m_some_L : mg "_law_some" = some (.ref D.a_some_L)
  b_some_L : Binds K D.d_some_L ["_law_script", "_law_at", "_law_drawn", "_law_count"] []
  F_paths_L : Fun K "_law_paths" "_law_paths" s_paths_L D.a_paths_L D.d_paths_L
  m_paths_L : mg "_law_paths" = some (.ref D.a_paths_L)
  b_paths_L : Binds K D.d_paths_L ["_law_lines_here"] []
  F_line_L : Fun K "_law_line" "_law_line" s_line_L D.a_line_L D.d_line_L
  m_line_L : mg "_law_line" = some (.ref D.a_line_L)
  b_line_L : Binds K D.d_line_L ["_law_lines_here", "_law_k", "_law_ref"] []
  F_refs_L : Fun K "_law_refs" "_law_refs" s_refs_L D.a_refs_L D.d_refs_L
  m_refs_L : mg "_law_refs" = some (.ref D.a_refs_L)
  b_refs_L : Binds K D.d_refs_L ["_law_cell", "_law_k", "_law_drawn"] []
  F_lines_L : Fun K "_law_lines" "_law_lines" s_lines_L D.a_lines_L D.d_lines_L
  m_lines_L : mg "_law_lines" = some (.ref D.a_lines_L)
  b_lines_L : Binds K D.d_lines_L ["_law_script"] []
  F_due_L : Fun K "_law_due" "_law_due" s_due_L D.a_due_L D.d_due_L
  m_due_L : mg "_law_due" = some (.ref D.a_due_L)
  b_due_L : Binds K D.d_due_L ["_law_lines_here", "_law_k"] []
  F_law : Fun K "law" "law" s_law D.a_law D.d_law
  m_law : mg "law" = some (.ref D.a_law)
  b_law : Binds K D.d_law ["_law_script"] []
  F_Ahead_init : Fun K "__init__" "Ahead.__init__" s_Ahead_init D.a_Ahead_init D.d_Ahead_init
  h_Ahead_init : Meth K D.C_Ahead "__init__" D.a_Ahead_init
  b_Ahead_init : Binds K D.d_Ahead_init ["self", "lines"] []
  F_Ahead_only_givens : Fun K "only_givens" "Ahead.only_givens" s_Ahead_only_givens D.a_Ahead_only_givens D.d_Ahead_only_givens
  h_Ahead_only_givens : Meth K D.C_Ahead "only_givens" D.a_Ahead_only_givens
  b_Ahead_only_givens : Binds K D.d_Ahead_only_givens ["self", "k"] []
  F_Ahead_has_name : Fun K "has_name" "Ahead.has_name" s_Ahead_has_name D.a_Ahead_has_name D.d_Ahead_has_name
  h_Ahead_has_name : Meth K D.C_Ahead "has_name" D.a_Ahead_has_name
  b_Ahead_has_name : Binds K D.d_Ahead_has_name ["self", "name", "k"] []
  c_OPENING_RULES : mg "OPENING_RULES" = some (.ref D.k_OPENING_RULES)
  q_OPENING_RULES : ∀ H, SqT K H D.k_OPENING_RULES [V.str "guess", V.str "new", V.str "case"]
  c_SMALL : ∃ t, mg "SMALL" = some (.str "abcdefghijklmnopqrstuvwxyz" t)
  c_GREAT : ∃ t, mg "GREAT" = some (.str "ABCDEFGHIJKLMNOPQRSTUVWXYZ" t)
  c_SMALL_OR_FIGURE : ∃ t, mg "SMALL_OR_FIGURE" = some (.str "abcdefghijklmnopqrstuvwxyz0123456789" t)
  c_KEPT_WORDS : mg "KEPT_WORDS" = some (.ref D.k_KEPT_WORDS)
  q_KEPT_WORDS : ∀ H, SqT K H D.k_KEPT_WORDS [V.str "not", V.str "and", V.str "or", V.str "then", V.str "all", V.str "some", V.str "false"]
  c_MOST_SIGNS : ∃ t, mg "MOST_SIGNS" = some (.int 8 t)
  c_QUANTIFIERS : mg "QUANTIFIERS" = some (.ref D.k_QUANTIFIERS)
  q_QUANTIFIERS : ∀ H, SqT K H D.k_QUANTIFIERS [V.str "all", V.str "some"]
  c_FALSE : mg "FALSE" = some (.ref D.k_FALSE)
  q_FALSE : ∀ H, SqT K H D.k_FALSE [V.str "false"]
  c_RULES : mg "RULES" = some (.ref D.k_RULES)
  q_RULES : TabK K D.k_RULES [("again", V.ref D.r_RULES_0), ("both", V.ref D.r_RULES_1), ("left", V.ref D.r_RULES_2), ("right", V.ref D.r_RULES_3), ("either", V.ref D.r_RULES_4), ("cases", V.ref D.r_RULES_5), ("then", V.ref D.r_RULES_6), ("use", V.ref D.r_RULES_7), ("deny", V.ref D.r_RULES_8), ("clash", V.ref D.r_RULES_9), ("absurd", V.ref D.r_RULES_10), ("any", V.ref D.r_RULES_11), ("each", V.ref D.r_RULES_12), ("every", V.ref D.r_RULES_13), ("some", V.ref D.r_RULES_14), ("one", V.ref D.r_RULES_15)]
  qr_RULES_0 : ∀ H, SqT K H D.r_RULES_0 [V.ref D.w_RULES_0, V.ref D.a_by_again]
  qw_RULES_0 : ∀ H, SqT K H D.w_RULES_0 [V.str "line"]
  qr_RULES_1 : ∀ H, SqT K H D.r_RULES_1 [V.ref D.w_RULES_1, V.ref D.a_by_both]
  qw_RULES_1 : ∀ H, SqT K H D.w_RULES_1 [V.str "line", V.str "line"]
  qr_RULES_2 : ∀ H, SqT K H D.r_RULES_2 [V.ref D.w_RULES_2, V.ref D.a_by_left]
  qw_RULES_2 : ∀ H, SqT K H D.w_RULES_2 [V.str "line"]
  qr_RULES_3 : ∀ H, SqT K H D.r_RULES_3 [V.ref D.w_RULES_3, V.ref D.a_by_right]
  qw_RULES_3 : ∀ H, SqT K H D.w_RULES_3 [V.str "line"]
  qr_RULES_4 : ∀ H, SqT K H D.r_RULES_4 [V.ref D.w_RULES_4, V.ref D.a_by_either]
  qw_RULES_4 : ∀ H, SqT K H D.w_RULES_4 [V.str "line"]
  qr_RULES_5 : ∀ H, SqT K H D.r_RULES_5 [V.ref D.w_RULES_5, V.ref D.a_by_cases]
  qw_RULES_5 : ∀ H, SqT K H D.w_RULES_5 [V.str "line", V.str "box", V.str "box"]
  qr_RULES_6 : ∀ H, SqT K H D.r_RULES_6 [V.ref D.w_RULES_6, V.ref D.a_by_then]
  qw_RULES_6 : ∀ H, SqT K H D.w_RULES_6 [V.str "box"]
  qr_RULES_7 : ∀ H, SqT K H D.r_RULES_7 [V.ref D.w_RULES_7, V.ref D.a_by_use]
  qw_RULES_7 : ∀ H, SqT K H D.w_RULES_7 [V.str "line", V.str "line"]
  qr_RULES_8 : ∀ H, SqT K H D.r_RULES_8 [V.ref D.w_RULES_8, V.ref D.a_by_deny]
  qw_RULES_8 : ∀ H, SqT K H D.w_RULES_8 [V.str "box"]
  qr_RULES_9 : ∀ H, SqT K H D.r_RULES_9 [V.ref D.w_RULES_9, V.ref D.a_by_clash]
  qw_RULES_9 : ∀ H, SqT K H D.w_RULES_9 [V.str "line", V.str "line"]
  qr_RULES_10 : ∀ H, SqT K H D.r_RULES_10 [V.ref D.w_RULES_10, V.ref D.a_by_absurd]
  qw_RULES_10 : ∀ H, SqT K H D.w_RULES_10 [V.str "box"]
  qr_RULES_11 : ∀ H, SqT K H D.r_RULES_11 [V.ref D.w_RULES_11, V.ref D.a_by_any]
  qw_RULES_11 : ∀ H, SqT K H D.w_RULES_11 [V.str "line"]
  qr_RULES_12 : ∀ H, SqT K H D.r_RULES_12 [V.ref D.w_RULES_12, V.ref D.a_by_each]
  qw_RULES_12 : ∀ H, SqT K H D.w_RULES_12 [V.str "line", V.str "name"]
  qr_RULES_13 : ∀ H, SqT K H D.r_RULES_13 [V.ref D.w_RULES_13, V.ref D.a_by_every]
  qw_RULES_13 : ∀ H, SqT K H D.w_RULES_13 [V.str "box"]
  qr_RULES_14 : ∀ H, SqT K H D.r_RULES_14 [V.ref D.w_RULES_14, V.ref D.a_by_some]
  qw_RULES_14 : ∀ H, SqT K H D.w_RULES_14 [V.str "line", V.str "name"]
  qr_RULES_15 : ∀ H, SqT K H D.r_RULES_15 [V.ref D.w_RULES_15, V.ref D.a_by_one]
  qw_RULES_15 : ∀ H, SqT K H D.w_RULES_15 [V.str "line", V.str "box"]
  z_all : mg "all" = none
  z_bool : mg "bool" = none
  z_enumerate : mg "enumerate" = none
  z_int : mg "int" = none
  z_isinstance : mg "isinstance" = none
  z_len : mg "len" = none
  z_list : mg "list" = none
  z_range : mg "range" = none
  z_reversed : mg "reversed" = none
  z_set : mg "set" = none
  z_sorted : mg "sorted" = none
  z_str : mg "str" = none
  z_tuple : mg "tuple" = none
  z_zip : mg "zip" = none
  x_BoxError : XCls K mg "BoxError" D.x_BoxError [] [.type "ValueError", .type "Exception", .type "BaseException", .type "object"] "ValueError.__new__"
  x_NoBox : XCls K mg "NoBox" D.x_NoBox [D.x_BoxError] [.type "ValueError", .type "Exception", .type "BaseException", .type "object"] "ValueError.__new__"
  m_Ahead : mg "Ahead" = some (.ref D.C_Ahead)
  cl_Ahead : Cls K D.C_Ahead
  mk_Ahead : Mk K D.C_Ahead D.a_Ahead_init
  n_Ahead_lines : NoAttr K D.C_Ahead "lines"
  n_Ahead_givens : NoAttr K D.C_Ahead "givens"
  n_Ahead_named : NoAttr K D.C_Ahead "named"
  n_Ahead_first_places : NoAttr K D.C_Ahead "first_places"
theorem Tx.g_OPENING_RULES {K : PySem.W.Frag} {mg : Str → Option Value} {D : Defs} (T : Tx K mg D) {X : Cx} {pos : Pos} (h : Gl X "OPENING_RULES") (hm : X.mg = mg := by rfl) : PE X (.Name "OPENING_RULES" pos) (tC (.ref D.k_OPENING_RULES)) := pe_glob h (hm ▸ T.c_OPENING_RULES) rfl
theorem Tx.g_GREAT {K : PySem.W.Frag} {mg : Str → Option Value} {D : Defs} (T : Tx K mg D) {X : Cx} {pos : Pos} (h : Gl X "GREAT") (hm : X.mg = mg := by rfl) : PE X (.Name "GREAT" pos) (tC (.str "ABCDEFGHIJKLMNOPQRSTUVWXYZ")) := by
  obtain ⟨t, e⟩ := T.c_GREAT
  exact pe_glob h (hm ▸ e) ⟨t, rfl⟩
theorem Tx.g_SMALL_OR_FIGURE {K : PySem.W.Frag} {mg : Str → Option Value} {D : Defs} (T : Tx K mg D) {X : Cx} {pos : Pos} (h : Gl X "SMALL_OR_FIGURE") (hm : X.mg = mg := by rfl) : PE X (.Name "SMALL_OR_FIGURE" pos) (tC (.str "abcdefghijklmnopqrstuvwxyz0123456789")) := by
  obtain ⟨t, e⟩ := T.c_SMALL_OR_FIGURE
  exact pe_glob h (hm ▸ e) ⟨t, rfl⟩
theorem Tx.g_MOST_SIGNS {K : PySem.W.Frag} {mg : Str → Option Value} {D : Defs} (T : Tx K mg D) {X : Cx} {pos : Pos} (h : Gl X "MOST_SIGNS") (hm : X.mg = mg := by rfl) : PE X (.Name "MOST_SIGNS" pos) (tC (.int 8)) := by
  obtain ⟨t, e⟩ := T.c_MOST_SIGNS
  exact pe_glob h (hm ▸ e) ⟨t, rfl⟩
theorem Tx.g_QUANTIFIERS {K : PySem.W.Frag} {mg : Str → Option Value} {D : Defs} (T : Tx K mg D) {X : Cx} {pos : Pos} (h : Gl X "QUANTIFIERS") (hm : X.mg = mg := by rfl) : PE X (.Name "QUANTIFIERS" pos) (tC (.ref D.k_QUANTIFIERS)) := pe_glob h (hm ▸ T.c_QUANTIFIERS) rfl
theorem Tx.g_RULES {K : PySem.W.Frag} {mg : Str → Option Value} {D : Defs} (T : Tx K mg D) {X : Cx} {pos : Pos} (h : Gl X "RULES") (hm : X.mg = mg := by rfl) : PE X (.Name "RULES" pos) (tC (.ref D.k_RULES)) := pe_glob h (hm ▸ T.c_RULES) rfl
theorem sc_seen : FnScope ["paths", "k", "i"] ["paths", "k", "i"] (defScope s_seen) := ⟨rfl, rfl, rfl, by decide +kernel, rfl, by decide +kernel, by decide +kernel⟩
theorem sc_begins_with : FnScope ["path", "beginning"] ["path", "beginning"] (defScope s_begins_with) := ⟨rfl, rfl, rfl, by decide +kernel, rfl, by decide +kernel, by decide +kernel⟩
theorem sc_opens : FnScope ["rule"] ["rule"] (defScope s_opens) := ⟨rfl, rfl, rfl, by decide +kernel, rfl, by decide +kernel, by decide +kernel⟩
theorem sc_boxes : FnScope ["lines", "paths", "place"] ["lines"] (defScope s_boxes) := ⟨rfl, rfl, rfl, by decide +kernel, rfl, by decide +kernel, by decide +kernel⟩
theorem sc_fitting_boxes : FnScope ["lines", "paths", "path", "k", "line"] ["lines"] (defScope s_fitting_boxes) := ⟨rfl, rfl, rfl, by decide +kernel, rfl, by decide +kernel, by decide +kernel⟩
theorem sc_boxes_behind : FnScope ["path", "line", "k", "level", "kept"] ["path", "line", "k"] (defScope s_boxes_behind) := ⟨rfl, rfl, rfl, by decide +kernel, rfl, by decide +kernel, by decide +kernel⟩
theorem sc_begins_and_goes_on : FnScope ["text", "first_signs"] ["text", "first_signs"] (defScope s_begins_and_goes_on) := ⟨rfl, rfl, rfl, by decide +kernel, rfl, by decide +kernel, by decide +kernel⟩
theorem sc_is_letter : FnScope ["text"] ["text"] (defScope s_is_letter) := ⟨rfl, rfl, rfl, by decide +kernel, rfl, by decide +kernel, by decide +kernel⟩
theorem sc_parts : FnScope ["A"] ["A"] (defScope s_parts) := ⟨rfl, rfl, rfl, by decide +kernel, rfl, by decide +kernel, by decide +kernel⟩
theorem sc_free_terms_in : FnScope ["A", "found", "part"] ["A"] (defScope s_free_terms_in) := ⟨rfl, rfl, rfl, by decide +kernel, rfl, by decide +kernel, by decide +kernel⟩
theorem sc_free_in : FnScope ["A"] ["A"] (defScope s_free_in) := ⟨rfl, rfl, rfl, by decide +kernel, rfl, by decide +kernel, by decide +kernel⟩
theorem sc_by_again : FnScope ["S", "taken"] ["S", "taken"] (defScope s_by_again) := ⟨rfl, rfl, rfl, by decide +kernel, rfl, by decide +kernel, by decide +kernel⟩
theorem sc_follows : FnScope ["lines", "paths", "k"] ["lines", "paths", "k"] (defScope s_follows) := ⟨rfl, rfl, rfl, by decide +kernel, rfl, by decide +kernel, by decide +kernel⟩
theorem sc_follows_behind : FnScope ["ahead", "lines", "paths", "k", "line", "rule", "name"] ["ahead", "lines", "paths", "k"] (defScope s_follows_behind) := ⟨rfl, rfl, rfl, by decide +kernel, rfl, by decide +kernel, by decide +kernel⟩
theorem sc_fits_its_rule : FnScope ["statement", "rule"] ["statement", "rule"] (defScope s_fits_its_rule) := ⟨rfl, rfl, rfl, by decide +kernel, rfl, by decide +kernel, by decide +kernel⟩
theorem sc_follows_by : FnScope ["wants_and_step", "lines", "paths", "k", "wants", "step", "refs", "taken"] ["wants_and_step", "lines", "paths", "k"] (defScope s_follows_by) := ⟨rfl, rfl, rfl, by decide +kernel, rfl, by decide +kernel, by decide +kernel⟩
theorem sc_stands_for : FnScope ["want", "ref", "lines", "paths", "k"] ["want", "ref", "lines", "paths", "k"] (defScope s_stands_for) := ⟨rfl, rfl, rfl, by decide +kernel, rfl, by decide +kernel, by decide +kernel⟩
theorem sc_is_number_ahead : FnScope ["ref", "k"] ["ref", "k"] (defScope s_is_number_ahead) := ⟨rfl, rfl, rfl, by decide +kernel, rfl, by decide +kernel, by decide +kernel⟩
theorem sc_statement_of : FnScope ["line"] ["line"] (defScope s_statement_of) := ⟨rfl, rfl, rfl, by decide +kernel, rfl, by decide +kernel, by decide +kernel⟩
theorem sc_cell_at_L : FnScope ["_law_script", "_law_k", "_law_cell"] ["_law_script", "_law_k"] (defScope s_cell_at_L) := ⟨rfl, rfl, rfl, by decide +kernel, rfl, by decide +kernel, by decide +kernel⟩
theorem sc_name_by_L : FnScope ["_law_shape", "_law_cell", "_law_k", "_law_signs", "_law_place", "_law_name", "_law_turn"] ["_law_shape", "_law_cell", "_law_k"] (defScope s_name_by_L) := ⟨rfl, rfl, rfl, by decide +kernel, rfl, by decide +kernel, by decide +kernel⟩
theorem sc_letter_by_L : FnScope ["_law_cell", "_law_signs"] ["_law_cell"] (defScope s_letter_by_L) := ⟨rfl, rfl, rfl, by decide +kernel, rfl, by decide +kernel, by decide +kernel⟩
theorem sc_made_L : FnScope ["_law_number", "_law_room", "_law_terms", "_law_words", "_law_kind", "_law_rest", "_law_some_here", "_law_turn", "_law_first", "_law_second", "_law_letter"] ["_law_number", "_law_room", "_law_terms", "_law_words"] (defScope s_made_L) := ⟨rfl, rfl, rfl, by decide +kernel, rfl, by decide +kernel, by decide +kernel⟩
theorem sc_draw_L : FnScope ["_law_script", "_law_at", "_law_shape", "_law_names", "_law_words"] ["_law_script", "_law_at"] (defScope s_draw_L) := ⟨rfl, rfl, rfl, by decide +kernel, rfl, by decide +kernel, by decide +kernel⟩
theorem sc_some_L : FnScope ["_law_script", "_law_at", "_law_drawn", "_law_count", "_law_found", "_law_k", "_law_number"] ["_law_script", "_law_at", "_law_drawn", "_law_count"] (defScope s_some_L) := ⟨rfl, rfl, rfl, by decide +kernel, rfl, by decide +kernel, by decide +kernel⟩
theorem sc_paths_L : FnScope ["_law_lines_here", "_law_found", "_law_ahead", "_law_k"] ["_law_lines_here"] (defScope s_paths_L) := ⟨rfl, rfl, rfl, by decide +kernel, rfl, by decide +kernel, by decide +kernel⟩
theorem sc_line_L : FnScope ["_law_lines_here", "_law_k", "_law_ref", "_law_paths_here"] ["_law_lines_here", "_law_k", "_law_ref"] (defScope s_line_L) := ⟨rfl, rfl, rfl, by decide +kernel, rfl, by decide +kernel, by decide +kernel⟩
theorem sc_refs_L : FnScope ["_law_cell", "_law_k", "_law_drawn", "_law_some_here"] ["_law_cell", "_law_k", "_law_drawn"] (defScope s_refs_L) := ⟨rfl, rfl, rfl, by decide +kernel, rfl, by decide +kernel, by decide +kernel⟩
theorem sc_lines_L : FnScope ["_law_script", "_law_drawn", "_law_statements", "_law_lines_here", "_law_open_ones", "_law_k", "_law_cell", "_law_rule", "_law_level", "_law_refs_here"] ["_law_script"] (defScope s_lines_L) := ⟨rfl, rfl, rfl, by decide +kernel, rfl, by decide +kernel, by decide +kernel⟩
theorem sc_due_L : FnScope ["_law_lines_here", "_law_k", "_law_line_here"] ["_law_lines_here", "_law_k"] (defScope s_due_L) := ⟨rfl, rfl, rfl, by decide +kernel, rfl, by decide +kernel, by decide +kernel⟩
theorem sc_law : FnScope ["_law_script", "_law_lines_here", "_law_handed", "_law_paths_here", "_law_found", "_law_again"] ["_law_script"] (defScope s_law) := ⟨rfl, rfl, rfl, by decide +kernel, rfl, by decide +kernel, by decide +kernel⟩
theorem sc_Ahead_init : FnScope ["self", "lines"] ["self", "lines"] (defScope s_Ahead_init) := ⟨rfl, rfl, rfl, by decide +kernel, rfl, by decide +kernel, by decide +kernel⟩
theorem sc_Ahead_only_givens : FnScope ["self", "k"] ["self", "k"] (defScope s_Ahead_only_givens) := ⟨rfl, rfl, rfl, by decide +kernel, rfl, by decide +kernel, by decide +kernel⟩
end K31
set_option Elab.async false
set_option linter.all false
set_option maxRecDepth 100000
set_option maxHeartbeats 4000000
namespace K31
open PySem L2
seal PE PS PSs PA PT PW PG PI PO PIf OpR UnR CallR IxR SlR MtR MtM PSet PJ PH PM PMp PE1 PA1 PS1 PSs1 PAb PSb PEb
local macro_rules | `(tactic| walk_at "bpW") => `(tactic| simp only [↓w_v0, ↓w_v1, ↓w_v2, ↓w_v3, ↓w_v4, ↓w_v5, ↓w_v6, ↓w_v7, ↓w_v8, ↓w_v9, ↓w_v10, ↓w_v11, ↓w_c, ↓w_seq, ↓w_ifS, ↓w_next, ↓w_ret, ↓w_retN, ↓w_drop, ↓w_asg, ↓w_gName, ↓w_op, ↓w_un, ↓w_test, ↓w_B, ↓w_bl, ↓w_and, ↓w_or, ↓w_not, ↓w_andV, ↓w_orV, ↓w_notV, ↓w_if, ↓w_true, ↓w_nil, ↓w_cons, ↓w_tup, ↓w_lst, ↓w_call, ↓w_CB, ↓w_BM, ↓w_ty_str, ↓w_ty_list, ↓w_sl, ↓w_noPart, ↓w_part, ↓w_int, ↓w_rI0, ↓w_rI, ↓w_addI, ↓w_addS, ↓w_mulI, ↓w_eqI, ↓w_eqS, ↓w_eqR, ↓w_neI, ↓w_neS, ↓w_ltI, ↓w_inS, ↓w_notinS, ↓w_inR, ↓w_notinR, ↓w_ixS, ↓w_ixR, ↓w_lenS, ↓w_lenR, ↓w_slS, ↓w_all, ↓w_intB, ↓w_intI, ↓w_itS, ↓w_itR, ↓w_iAny, ↓w_rng1, ↓w_rngI, ↓w_ints2, ↓w_tupleOf, ↓w_listOf, ↓w_append, ↓w_extend, ↓w_setL, ↓w_gSub, ↓w_instInt, ↓w_instStr, ↓w_slR, ↓w_catR, ↓w_eqIB, ↓w_eqSB, ↓w_eqR_, ↓w_eq_R, ↓w_instIntB, ↓w_instStrB, ↓w_instRB, ↓tFor_eq, ↓tComp_eq, ↓List.set_cons_zero, ↓List.set_cons_succ, ↓List.nil_append, ↓List.cons_append, ↓List.append_nil, ↓reduceIte, Bool.false_eq_true, decide_eq_true_eq, Bool.not_eq_true', decide_eq_false_iff_not, ↓w_setOf, ↓w_sorted, ↓w_eqIC, ↓w_eqSC, ↓w_eqRC, ↓w_eqCR, ↓w_neIC, ↓w_neSC, ↓w_neRC, ↓w_neCR, ↓w_inCS, ↓w_notinCS, ↓w_inCR, ↓w_is, ↓w_fld, ↓w_sfld, ↓w_meth, ↓w_make, ↓w_any, ↓w_sum, ↓w_aug, ↓w_ipI, ↓w_gTup, ↓w_gCons, ↓w_gNil, ↓w_slSB, ↓w_slRB, ↓w_addIB, ↓w_addSB, ↓w_catRB, ↓w_instBlB, ↓w_eqBlB, ↓w_neBl, ↓w_eqBlC, ↓w_neBlC, ↓w_break, ↓w_cont, ↓w_isN, ↓w_notN, ↓w_while, ↓w_ltS, ↓w_enum, ↓w_zip, ↓w_gTup, ↓w_dnew, ↓w_callV, ↓w_inTab, ↓w_ixTab, ↓w_rr, ↓w_rvL, ↓w_eqX, ↓w_neL, ↓w_v12, ↓w_v13, ↓w_v14, ↓w_v15, ↓w_v16, ↓w_v17])
local macro_rules | `(tactic| walk_at "S") => `(tactic| simp only [L2.start, List.map_cons, List.map_nil, List.length_cons, List.length_nil, Nat.reduceAdd, Nat.reduceSub, List.replicate_succ, List.replicate_zero, List.cons_append, List.nil_append, List.append_nil, Nat.zero_add, Nat.sub_self])
local macro_rules | `(tactic| walk_at "o") => `(tactic| first | exact Or.inl (by rfl) | exact Or.inr (by rfl))
local macro_rules | `(tactic| walk_at "") => `(tactic| walk_at "bpW")
section
variable {P : Program} {w : World} {K : PySem.W.Frag} {mg : Str → Option Value} {base0 : Heap} {D : Defs}
theorem ok_cell_at_L (T : Tx K mg D) : FnOk P w K mg base0 CX0 1 D.a_cell_at_L D.d_cell_at_L ["_law_script", "_law_k"] (spC3 K) := by
  refine T.F_cell_at_L.ok sc_cell_at_L (fun vs H Q E h => ?_) (fun cdv A outer s H vs Q E hr h => ?_)
  · obtain ⟨a, ns, n, rfl, _⟩ := h; rfl
  obtain ⟨a, ns, n, rfl, hS, hl, h0, k⟩ := h
  have hu := hr.units
  refine ⟨_, (pss_cons (ps_if (pt_cmpR (opB_eq K hu) (pe_callB (callA_len K) (by rfl) T.z_len PySem.boot_len (pa_cons (pv 0) pa_nil)) pe_int (nomark _)) (pss_one (ps_ret pe_int)) pss_nil)
    (pss_cons (ps_set (i := 2) sc_cell_at_L.nd (by rfl) (by walk_at "o") (pe_op op_modP (pe_op opA_mul (pe_op (opB_add K) (pe_ix (ixA K) (pv 0) (pe_op op_modP (pv 1) (pe_callB (callA_len K) (by rfl) T.z_len PySem.boot_len (pa_cons (pv 0) pa_nil))) (fun _ _ => rfl)) (pe_op opA_mul pe_int (pv 1))) pe_int) pe_int))
    (pss_one (ps_ret (pe_op op_modP (pe_op opA_mul (pv 2) (pv 2)) pe_int))))), ?_⟩
  walk_at "S"
  walk_at ""
  refine ⟨_, .inl hS, ?_⟩
  rw [List.length_map]
  refine ite2 (fun c => k 0 (by decide) (by decide)) fun c => ?_
  have hp : 0 < ns.length := by omega
  refine ⟨_, .inl hS, ?_⟩
  rw [List.length_map]
  have m0 := Int.emod_nonneg n (show (ns.length : Int) ≠ 0 by omega)
  have m1 := Int.emod_lt_of_pos n (show (0 : Int) < ns.length by omega)
  refine ⟨by omega, _, .inl hS, _, atI_ints m0 m1, ?_⟩
  walk_at ""
  refine ⟨cmulL, cmulR, by decide, cmulL ?_, by decide, k _ (Int.emod_nonneg _ (by decide)) (Int.lt_of_lt_of_le (Int.emod_lt_of_pos _ (by decide)) (by decide))⟩
  have q0 := Int.emod_nonneg ((ns.getD (n % (ns.length : Int)).toNat 0 + 7919 * n) * 48271) (show (2147483647 : Int) ≠ 0 by decide)
  have q1 := Int.emod_lt_of_pos ((ns.getD (n % (ns.length : Int)).toNat 0 + 7919 * n) * 48271) (show (0 : Int) < 2147483647 by decide)
  omega
theorem ok_letter_by_L (T : Tx K mg D) : FnOk P w K mg base0 CX0 1 D.a_letter_by_L D.d_letter_by_L ["_law_cell"] spLt3 := by
  refine T.F_letter_by_L.ok sc_letter_by_L (fun vs H Q E h => ?_) (fun cdv A outer s H vs Q E hr h => ?_)
  · obtain ⟨c, rfl, _⟩ := h; rfl
  obtain ⟨c, rfl, h0, k⟩ := h
  have hu := hr.units
  refine ⟨_, (pss_cons (ps_set (i := 1) sc_letter_by_L.nd (by rfl) (by walk_at "o") pe_str)
    (pss_one (ps_ret (pe_op (opB_add K) (pe_ix (ixA K) (pv 1) (pe_op op_modP (pv 0) pe_int) (fun _ _ => rfl)) (pe_ix (ixA K) (pe_lst (pa_cons pe_str (pa_cons pe_str (pa_cons pe_str (pa_cons pe_str (pa_cons pe_str pa_nil)))))) (pe_op op_modP (pe_op op_fdivP (pv 0) pe_int) pe_int) (fun _ _ => rfl)))))), ?_⟩
  walk_at "S"
  walk_at ""
  obtain ⟨z, ez, hz⟩ := pickC (x := "ABCDEFGHIJKLMNOPQRSTUVWXYZ") (i := c) (P := fun c => c ∈ greatS.cps.toList) (by decide +kernel) (fun _ h => h)
  obtain ⟨y, hy, ey⟩ := pickS (ts := ["", "", "x", "2", "abc1234"]) (i := c / 26 % 5) (Int.emod_nonneg _ (by decide)) (Int.emod_lt_of_pos _ (by decide))
  refine ⟨by decide, sz1000 (by decide +kernel), z, ez, sz1000 (by decide), fun p hp => ⟨cdiv, by decide, _, .inl (SqL.of upd_same), _, ey, ?_⟩⟩
  (try walk_at "")
  have hy7 : ∀ y ∈ (["", "", "x", "2", "abc1234"] : List Str), y.length ≤ 7 ∧ ∀ d ∈ y.cps.toList, d ∈ sofS.cps.toList := by decide +kernel
  obtain ⟨y7, ys⟩ := hy7 y hy
  refine ⟨sz1000 (by show 1 + y.length ≤ _; omega), k _ _ (same_new hp _) ⟨z, y.cps.toList, by rw [cps_append']; rfl, hz, ys, by rw [len_cps]; exact y7, fun q => ?_⟩⟩
  have hk : ∀ x ∈ keptW, ∀ c ∈ x.cps.toList.take 1, c ∉ greatS.cps.toList := by decide +kernel
  exact hk _ q z (by rw [cps_append']; simp) hz
end
section
variable {P : Program} {w : World} {K : PySem.W.Frag} {mg : Str → Option Value} {base0 : Heap} {D : Defs}
theorem grow3 {x : Str} {z i : Nat} (hx : x.length = i) (hi : i < 8) (g : 0 < i → GoodS smallS x.cps.toList) (hz : z ∈ sofS.cps.toList) (h0 : i = 0 → z ∈ smallS.cps.toList) : (x ++ (⟨#[z]⟩ : Str)).length = i + 1 ∧ (0 < i + 1 → GoodS smallS (x ++ (⟨#[z]⟩ : Str)).cps.toList) := by
  have hl := len_cps x
  refine ⟨by rw [← len_cps, cps_append', List.length_append, len_cps, hx]; rfl, fun _ => ?_⟩
  rw [cps_append']
  by_cases hi0 : i = 0
  · have : x.cps.toList = [] := List.length_eq_zero_iff.mp (by omega)
    rw [this]
    exact ⟨z, [], rfl, h0 hi0, by simp, by simp⟩
  · obtain ⟨c, r, e, g1, g2, g3⟩ := g (by omega)
    rw [e] at hl ⊢
    rw [List.length_cons] at hl
    refine ⟨c, r ++ [z], rfl, g1, fun d hd => ?_, by rw [List.length_append, List.length_singleton]; omega⟩
    rcases List.mem_append.mp hd with q | q
    · exact g2 d q
    · rw [List.mem_singleton.mp q]; exact hz
theorem ok_name_by_L (T : Tx K mg D) : FnOk P w K mg base0 CX0 1 D.a_name_by_L D.d_name_by_L ["_law_shape", "_law_cell", "_law_k"] spNm3 := by
  refine T.F_name_by_L.ok sc_name_by_L (fun vs H Q E h => ?_) (fun cdv A outer s H vs Q E hr h => ?_)
  · obtain ⟨sh, c, j, rfl, _⟩ := h; rfl
  obtain ⟨sh, c, j, rfl, h0, c0, j0, k⟩ := h
  have hu := hr.units
  refine ⟨_, (pss_cons (ps_set (i := 3) sc_name_by_L.nd (by rfl) (by walk_at "o") pe_str)
    (pss_cons (ps_set (i := 4) sc_name_by_L.nd (by rfl) (by walk_at "o") (pe_op op_modP (pe_op op_fdivP (pv 0) pe_int) pe_int))
    (pss_cons (ps_if (pt_cmpR (opB_eq K hu) (pe_op op_modP (pv 0) pe_int) pe_int (nomark _)) (pss_one (ps_set (i := 1) sc_name_by_L.nd (by rfl) (by walk_at "o") (pe_op op_fdivP (pv 0) pe_int))) pss_nil)
    (pss_cons (ps_set (i := 5) sc_name_by_L.nd (by rfl) (by walk_at "o") pe_str)
    (pss_cons (ps_for PassesOwn.never (by rfl) (pi_range1 (by rfl) T.z_range (pa_cons (pe_op (opB_add K) (pe_op (opB_add K) (pv 4) pe_int) (pe_op op_modP (pe_op op_fdivP (pv 1) pe_int) (pe_op op_sub pe_int (pv 4)))) pa_nil)) (pg_name (i := 6) sc_name_by_L.nd (by rfl) (by walk_at "o"))
      (pss_one (ps_if (pt_cmpR (opB_eq K hu) (pv 6) (pv 4) (nomark _)) (pss_one (ps_set (i := 5) sc_name_by_L.nd (by rfl) (by walk_at "o") (pe_op (opB_add K) (pv 5) (pe_ix (ixA K) (pv 3) (pe_op op_modP (pe_op (opB_add K) (pe_op op_fdivP (pv 0) pe_int) (pe_op opA_mul pe_int (pv 2))) pe_int) (fun _ _ => rfl))))) (pss_one (ps_if (pt_cmpR (opB_eq K hu) (pv 6) pe_int (nomark _)) (pss_one (ps_set (i := 5) sc_name_by_L.nd (by rfl) (by walk_at "o") (pe_op (opB_add K) (pv 5) (pe_ix (ixA K) (pv 3) (pe_op op_modP (pe_op op_fdivP (pv 1) pe_int) pe_int) (fun _ _ => rfl))))) (pss_one (ps_set (i := 5) sc_name_by_L.nd (by rfl) (by walk_at "o") (pe_op (opB_add K) (pv 5) (pe_ix (ixA K) (pv 3) (pe_op op_modP (pe_op (opB_add K) (pe_op op_fdivP (pv 1) pe_int) (pe_op opA_mul (pv 6) (pe_op (opB_add K) pe_int (pe_op op_modP (pv 1) pe_int)))) pe_int) (fun _ _ => rfl))))))))))
    (pss_cons (ps_if (pt_cmpR (opA_in K) (pv 5) (pe_lst (pa_cons pe_str (pa_cons pe_str (pa_cons pe_str (pa_cons pe_str (pa_cons pe_str (pa_cons pe_str (pa_cons pe_str pa_nil)))))))) (by rfl)) (pss_one (ps_set (i := 5) sc_name_by_L.nd (by rfl) (by walk_at "o") (pe_op (opB_add K) (pv 5) pe_str))) pss_nil)
    (pss_one (ps_ret (pv 5))))))))), ?_⟩
  walk_at "S"
  have h1 : ∀ c : Nat, (⟨#[c]⟩ : Str).length = 1 := fun c => rfl
  have sm : ∀ c ∈ (Str.ofString "abcdefghijklmnopqrstuvwxyz0123456789").cps.toList.take 26, c ∈ smallS.cps.toList := by decide +kernel
  have ss : ∀ c ∈ smallS.cps.toList, c ∈ sofS.cps.toList := by decide +kernel
  have l36 : (Str.ofString "abcdefghijklmnopqrstuvwxyz0123456789").length = 36 := by decide +kernel
  have p0 := Int.emod_nonneg (sh / 2) (show (8 : Int) ≠ 0 by decide)
  have p1 := Int.emod_lt_of_pos (sh / 2) (show (0 : Int) < 8 by decide)
  have c1 : 0 ≤ sh / 16 := Int.ediv_nonneg h0 (by decide)
  walk_at ""
  refine ⟨cdiv, by decide, by decide, ?_⟩
  generalize sh / 2 % 8 = pl at p0 p1 ⊢
  refine ite2 (fun _ => ⟨cdiv, ?_⟩) fun _ => ?_
  · generalize sh / 16 = c at c1 ⊢
    clear c0
    have c0 := c1
    have r0 := Int.emod_nonneg (c / 7) (show 8 - pl ≠ 0 by omega)
    have r1 := Int.emod_lt_of_pos (c / 7) (show 0 < 8 - pl by omega)
    generalize c / 7 % (8 - pl) = rr at r0 r1 ⊢
    refine ⟨cdiv, by omega, by omega, by omega, ?_⟩
    refine forW_range (fun i σ H2 => H2 = H ∧ ∃ (x : Str) (u : Option V), σ = [some (.int sh), some (.int c), some (.int j), some (.str (Str.ofString "abcdefghijklmnopqrstuvwxyz0123456789")), some (.int pl), some (.str x), u] ∧ x.length = i ∧ (0 < i → GoodS smallS x.cps.toList)) ⟨rfl, Str.ofString "", _, rfl, by decide +kernel, fun h => absurd h (by decide)⟩ (fun i σ H2 hi hv => ?_) fun σ H2 hv => ?_
    · obtain ⟨rfl, x, u, rfl, hx, g⟩ := hv
      walk_at ""
      have fin : ∀ z : Nat, z ∈ sofS.cps.toList → (i = 0 → z ∈ smallS.cps.toList) → x.length + ({ cps := #[z] } : Str).length ≤ sizeLine ∧ True ∧ ∃ (y : Str) (u' : Option V), ([some (.int sh), some (.int c), some (.int j), some (.str (Str.ofString "abcdefghijklmnopqrstuvwxyz0123456789")), some (.int pl), some (.str (x ++ (⟨#[z]⟩ : Str))), some (.int (0 + (i : Int)))] : St) = [some (.int sh), some (.int c), some (.int j), some (.str (Str.ofString "abcdefghijklmnopqrstuvwxyz0123456789")), some (.int pl), some (.str y), u'] ∧ y.length = i + 1 ∧ (0 < i + 1 → GoodS smallS y.cps.toList) := fun z hz h0' => by
        have g' := grow3 hx (by omega) g hz h0'
        exact ⟨sz1000 (by rw [h1]; omega), trivial, _, _, rfl, g'.1, g'.2⟩
      obtain ⟨z1, e1, q1⟩ := pickM (x := Str.ofString "abcdefghijklmnopqrstuvwxyz0123456789") (i := sh / 16 + 7 * j) (m := 26) (P := fun c => c ∈ smallS.cps.toList) (by decide) (by rw [l36]; decide) sm
      obtain ⟨z2, e2, q2⟩ := pickM (x := Str.ofString "abcdefghijklmnopqrstuvwxyz0123456789") (i := c / 56) (m := 26) (P := fun c => c ∈ smallS.cps.toList) (by decide) (by rw [l36]; decide) sm
      obtain ⟨z3, e3, q3⟩ := pickC (x := Str.ofString "abcdefghijklmnopqrstuvwxyz0123456789") (i := c / 56 + (0 + (i : Int)) * (1 + c % 5)) (P := fun c => c ∈ sofS.cps.toList) (by decide +kernel) (fun _ h => h)
      refine ite2 (fun a1 => ⟨cdiv, cmulL, by decide, sz1000 (by decide +kernel), z1, e1, fin z1 (ss _ q1) fun _ => q1⟩) fun a1 => ite2 (fun a2 => ⟨cdiv, by decide, sz1000 (by decide +kernel), z2, e2, fin z2 (ss _ q2) fun _ => q2⟩) fun a2 => ⟨cdiv, by decide, cmulL ⟨by omega, by omega⟩, by decide, sz1000 (by decide +kernel), z3, e3, fin z3 q3 fun h => absurd h (by omega)⟩
    · obtain ⟨rfl, x, u, rfl, hx, g⟩ := hv
      have g := g (by omega)
      walk_at ""
      refine ⟨sz1000 (by decide), fun p hp => ⟨_, .inl (SqL.of upd_same), rfl, flat_strs keptW, ?_⟩⟩
      rw [show inV (V.str x) [V.str "not", V.str "and", V.str "or", V.str "then", V.str "all", V.str "some", V.str "false"] = decide (x ∈ keptW) from inV_strs x keptW]
      refine ite2 (fun q => ⟨sz1000 (by have : (Str.ofString "0").length = 1 := rfl; omega), k _ _ (same_new hp _) (nm_nought g rfl (of_decide_eq_true q) rfl)⟩) fun q => k _ _ (same_new hp _) (nm_plain g rfl fun z => q (decide_eq_true z))
  · have r0 := Int.emod_nonneg (c / 7) (show 8 - pl ≠ 0 by omega)
    have r1 := Int.emod_lt_of_pos (c / 7) (show 0 < 8 - pl by omega)
    generalize c / 7 % (8 - pl) = rr at r0 r1 ⊢
    refine ⟨cdiv, by omega, by omega, by omega, ?_⟩
    refine forW_range (fun i σ H2 => H2 = H ∧ ∃ (x : Str) (u : Option V), σ = [some (.int sh), some (.int c), some (.int j), some (.str (Str.ofString "abcdefghijklmnopqrstuvwxyz0123456789")), some (.int pl), some (.str x), u] ∧ x.length = i ∧ (0 < i → GoodS smallS x.cps.toList)) ⟨rfl, Str.ofString "", _, rfl, by decide +kernel, fun h => absurd h (by decide)⟩ (fun i σ H2 hi hv => ?_) fun σ H2 hv => ?_
    · obtain ⟨rfl, x, u, rfl, hx, g⟩ := hv
      walk_at ""
      have fin : ∀ z : Nat, z ∈ sofS.cps.toList → (i = 0 → z ∈ smallS.cps.toList) → x.length + ({ cps := #[z] } : Str).length ≤ sizeLine ∧ True ∧ ∃ (y : Str) (u' : Option V), ([some (.int sh), some (.int c), some (.int j), some (.str (Str.ofString "abcdefghijklmnopqrstuvwxyz0123456789")), some (.int pl), some (.str (x ++ (⟨#[z]⟩ : Str))), some (.int (0 + (i : Int)))] : St) = [some (.int sh), some (.int c), some (.int j), some (.str (Str.ofString "abcdefghijklmnopqrstuvwxyz0123456789")), some (.int pl), some (.str y), u'] ∧ y.length = i + 1 ∧ (0 < i + 1 → GoodS smallS y.cps.toList) := fun z hz h0' => by
        have g' := grow3 hx (by omega) g hz h0'
        exact ⟨sz1000 (by rw [h1]; omega), trivial, _, _, rfl, g'.1, g'.2⟩
      obtain ⟨z1, e1, q1⟩ := pickM (x := Str.ofString "abcdefghijklmnopqrstuvwxyz0123456789") (i := sh / 16 + 7 * j) (m := 26) (P := fun c => c ∈ smallS.cps.toList) (by decide) (by rw [l36]; decide) sm
      obtain ⟨z2, e2, q2⟩ := pickM (x := Str.ofString "abcdefghijklmnopqrstuvwxyz0123456789") (i := c / 56) (m := 26) (P := fun c => c ∈ smallS.cps.toList) (by decide) (by rw [l36]; decide) sm
      obtain ⟨z3, e3, q3⟩ := pickC (x := Str.ofString "abcdefghijklmnopqrstuvwxyz0123456789") (i := c / 56 + (0 + (i : Int)) * (1 + c % 5)) (P := fun c => c ∈ sofS.cps.toList) (by decide +kernel) (fun _ h => h)
      refine ite2 (fun a1 => ⟨cdiv, cmulL, by decide, sz1000 (by decide +kernel), z1, e1, fin z1 (ss _ q1) fun _ => q1⟩) fun a1 => ite2 (fun a2 => ⟨cdiv, by decide, sz1000 (by decide +kernel), z2, e2, fin z2 (ss _ q2) fun _ => q2⟩) fun a2 => ⟨cdiv, by decide, cmulL ⟨by omega, by omega⟩, by decide, sz1000 (by decide +kernel), z3, e3, fin z3 q3 fun h => absurd h (by omega)⟩
    · obtain ⟨rfl, x, u, rfl, hx, g⟩ := hv
      have g := g (by omega)
      walk_at ""
      refine ⟨sz1000 (by decide), fun p hp => ⟨_, .inl (SqL.of upd_same), rfl, flat_strs keptW, ?_⟩⟩
      rw [show inV (V.str x) [V.str "not", V.str "and", V.str "or", V.str "then", V.str "all", V.str "some", V.str "false"] = decide (x ∈ keptW) from inV_strs x keptW]
      refine ite2 (fun q => ⟨sz1000 (by have : (Str.ofString "0").length = 1 := rfl; omega), k _ _ (same_new hp _) (nm_nought g rfl (of_decide_eq_true q) rfl)⟩) fun q => k _ _ (same_new hp _) (nm_plain g rfl fun z => q (decide_eq_true z))
end
section
variable {P : Program} {w : World} {K : PySem.W.Frag} {mg : Str → Option Value} {base0 : Heap} {D : Defs}
theorem ok_made_L (T : Tx K mg D) : ∀ d : Nat, FnOk P w K mg base0 CX0 (d + 1) D.a_made_L D.d_made_L ["_law_number", "_law_room", "_law_terms", "_law_words"] (spMade K d)
  | 0 => by
    refine T.F_made_L.ok sc_made_L (fun vs H Q E h => ?_) (fun cdv A outer s H vs Q E hr h => ?_)
    · obtain ⟨n, r, tp, wp, ts, ws, rfl, _⟩ := h; rfl
    · obtain ⟨n, r, tp, wp, ts, ws, rfl, _, h, _⟩ := h
      omega
  | d + 1 => by
    have G_made_L := ok_made_L T d
    have G_letter_by_L := ok_letter_by_L (P := P) (w := w) (base0 := base0) T
    refine T.F_made_L.ok sc_made_L (fun vs H Q E h => ?_) (fun cdv A outer s H vs Q E hr h => ?_)
    · obtain ⟨n, r, tp, wp, ts, ws, rfl, _⟩ := h; rfl
    obtain ⟨n, r, tp, wp, ts, ws, rfl, h0, hrd, hT, hW, hne, hlen, hts, hws3, hws, k⟩ := h
    have hu := hr.units
    have hr_made_L : Room (d + 1) _ := hr
    have hr_letter_by_L : Room 1 _ := hr.mono (by omega)
    refine ⟨_, (pss_cons (ps_set (i := 4) sc_made_L.nd (by rfl) (by walk_at "o") (pe_op op_modP (pv 0) pe_int))
    (pss_cons (ps_set (i := 5) sc_made_L.nd (by rfl) (by walk_at "o") (pe_op op_modP (pe_op (opB_add K) (pe_op opA_mul (pe_op op_fdivP (pv 0) pe_int) pe_int) pe_int) pe_int))
    (pss_cons (ps_set (i := 5) sc_made_L.nd (by rfl) (by walk_at "o") (pe_op op_modP (pe_op opA_mul (pv 5) (pv 5)) pe_int))
    (pss_cons (ps_if (PW.pt (pw_or (pt_cmpR (opB_eq K hu) (pv 1) pe_int (nomark _)) (pw_or1 (pt_cmpR opA_lt (pv 4) pe_int (nomark _))))) (pss_cons (ps_set (i := 6) sc_made_L.nd (by rfl) (by walk_at "o") (pe_lst pa_nil))
    (pss_cons (ps_for PassesOwn.never (by rfl) (pi_range1 (by rfl) T.z_range (pa_cons (pe_op op_modP (pe_op op_fdivP (pv 5) pe_int) pe_int) pa_nil)) (pg_name (i := 7) sc_made_L.nd (by rfl) (by walk_at "o"))
      (pss_cons (ps_set (i := 5) sc_made_L.nd (by rfl) (by walk_at "o") (pe_op op_modP (pe_op (opB_add K) (pe_op opA_mul (pv 5) pe_int) pe_int) pe_int))
    (pss_one (ps_expr (pe_bmA K PySem.F.plainAttrs_list PySem.F.slot_list_append PySem.F.type_list_append mtR_append (pv 6) (pa_cons (pe_ix (ixA K) (pv 2) (pe_op op_modP (pe_op op_fdivP (pv 5) pe_int) (pe_callB (callA_len K) (by rfl) T.z_len PySem.boot_len (pa_cons (pv 2) pa_nil))) (fun _ _ => rfl)) pa_nil))))))
    (pss_one (ps_ret (pe_tup (pa_cons pe_str (pa_cons (pe_ix (ixA K) (pv 3) (pe_op op_modP (pe_op op_fdivP (pv 0) pe_int) pe_int) (fun _ _ => rfl)) (pa_cons (pe_callTy (callA_tuple K) (by rfl) T.z_tuple (by rfl) (pa_cons (pv 6) pa_nil)) pa_nil)))))))) pss_nil)
    (pss_cons (ps_if (pt_cmpR (opB_eq K hu) (pv 4) pe_int (nomark _)) (pss_one (ps_ret (pe_tup (pa_cons pe_str pa_nil)))) pss_nil)
    (pss_cons (ps_if (pt_cmpR (opB_eq K hu) (pv 4) pe_int (nomark _)) (pss_one (ps_ret (pe_tup (pa_cons pe_str (pa_cons (pe_call G_made_L hr_made_L (by rfl) T.m_made_L T.F_made_L.kp T.b_made_L .nil pass0 (pa_cons (pv 5) (pa_cons (pe_op op_sub (pv 1) pe_int) (pa_cons (pv 2) (pa_cons (pv 3) pa_nil))))) pa_nil))))) pss_nil)
    (pss_cons (ps_if (pt_cmpR opA_lt (pv 4) pe_int (nomark _)) (pss_cons (ps_set (i := 8) sc_made_L.nd (by rfl) (by walk_at "o") (pe_call G_made_L hr_made_L (by rfl) T.m_made_L T.F_made_L.kp T.b_made_L .nil pass0 (pa_cons (pv 5) (pa_cons (pe_op op_sub (pv 1) pe_int) (pa_cons (pv 2) (pa_cons (pv 3) pa_nil))))))
    (pss_cons (ps_set (i := 9) sc_made_L.nd (by rfl) (by walk_at "o") (pe_call G_made_L hr_made_L (by rfl) T.m_made_L T.F_made_L.kp T.b_made_L .nil pass0 (pa_cons (pe_op op_modP (pe_op opA_mul (pv 5) (pv 5)) pe_int) (pa_cons (pe_op op_sub (pv 1) pe_int) (pa_cons (pv 2) (pa_cons (pv 3) pa_nil))))))
    (pss_one (ps_ret (pe_tup (pa_cons (pe_ix (ixA K) (pe_lst (pa_cons pe_str (pa_cons pe_str (pa_cons pe_str pa_nil)))) (pe_op op_sub (pv 4) pe_int) (fun _ _ => rfl)) (pa_cons (pv 8) (pa_cons (pv 9) pa_nil)))))))) pss_nil)
    (pss_cons (ps_set (i := 10) sc_made_L.nd (by rfl) (by walk_at "o") (pe_call G_letter_by_L hr_letter_by_L (by rfl) T.m_letter_by_L T.F_letter_by_L.kp T.b_letter_by_L .nil pass0 (pa_cons (pe_op op_fdivP (pv 5) pe_int) pa_nil)))
    (pss_cons (ps_set (i := 0) sc_made_L.nd (by rfl) (by walk_at "o") (pe_op op_modP (pe_op opA_mul (pv 5) (pv 5)) pe_int))
    (pss_one (ps_ret (pe_tup (pa_cons (pe_ix (ixA K) (pe_lst (pa_cons pe_str (pa_cons pe_str pa_nil))) (pe_op op_modP (pv 5) pe_int) (fun _ _ => rfl)) (pa_cons (pv 10) (pa_cons (pe_call G_made_L hr_made_L (by rfl) T.m_made_L T.F_made_L.kp T.b_made_L .nil pass0 (pa_cons (pv 0) (pa_cons (pe_op op_sub (pv 1) pe_int) (pa_cons (pe_op (opB_add K) (pv 2) (pe_lst (pa_cons (pv 10) pa_nil))) (pa_cons (pv 3) pa_nil))))) pa_nil))))))))))))))), ?_⟩
    walk_at "S"
    rw [w_seq, w_asg]
    simp only [↓w_op, ↓w_v0, ↓w_v4, ↓w_v5, ↓w_c, ↓w_rI, ↓w_mulI, ↓w_addI, ↓w_addIB, ↓w_gName, ↓List.set_cons_zero, ↓List.set_cons_succ]
    refine ⟨by decide, ?_⟩
    have k0 := Int.emod_nonneg n (show (9 : Int) ≠ 0 by decide)
    have k1 := Int.emod_lt_of_pos n (show (0 : Int) < 9 by decide)
    generalize n % 9 = kd at k0 k1 ⊢
    rw [w_seq, w_asg]
    simp only [↓w_op, ↓w_v0, ↓w_v4, ↓w_v5, ↓w_c, ↓w_rI, ↓w_mulI, ↓w_addI, ↓w_addIB, ↓w_gName, ↓List.set_cons_zero, ↓List.set_cons_succ]
    refine ⟨cdiv, cmulR, by decide, ?_⟩
    have a0 := Int.emod_nonneg (n / 9 * 48271 + 11) (show (2147483647 : Int) ≠ 0 by decide)
    have a1 := Int.emod_lt_of_pos (n / 9 * 48271 + 11) (show (0 : Int) < 2147483647 by decide)
    generalize (n / 9 * 48271 + 11) % 2147483647 = re0 at a0 a1 ⊢
    rw [w_seq, w_asg]
    simp only [↓w_op, ↓w_v0, ↓w_v4, ↓w_v5, ↓w_c, ↓w_rI, ↓w_mulI, ↓w_addI, ↓w_addIB, ↓w_gName, ↓List.set_cons_zero, ↓List.set_cons_succ]
    refine ⟨cmulL ⟨by omega, by omega⟩, by decide, ?_⟩
    have b0 := Int.emod_nonneg (re0 * re0) (show (2147483629 : Int) ≠ 0 by decide)
    have b1 := Int.emod_lt_of_pos (re0 * re0) (show (0 : Int) < 2147483629 by decide)
    generalize re0 * re0 % 2147483629 = re at b0 b1 ⊢
    refine seq_ifP (c := r = 0 ∨ kd < 3) (fun Qb q => ?_) (fun c1 => ?_) fun c1 => seq_ifP (c := kd = 3) (fun Qb q => ?_) (fun c2 => ?_) fun c2 => seq_ifP (c := kd = 4) (fun Qb q => ?_) (fun c3 => ?_) fun c3 => seq_ifP (c := kd < 8) (fun Qb q => ?_) (fun c4 => ?_) fun c4 => ?_
    · walk_at ""
      refine ite2 (fun a => ?_) fun a => ?_
      · rw [decide_eq_true (show r = 0 ∨ kd < 3 by omega)] at q; exact q
      · rw [decide_eq_decide.mpr (show kd < 3 ↔ (r = 0 ∨ kd < 3) by omega)]; exact q
    · walk_at ""
      have m0 := Int.emod_nonneg (re / 3) (show (4 : Int) ≠ 0 by decide)
      have m1 := Int.emod_lt_of_pos (re / 3) (show (0 : Int) < 4 by decide)
      generalize re / 3 % 4 = cnt at m0 m1 ⊢
      have hlt : 0 < ts.length := List.length_pos_iff.mpr hne
      refine ⟨Nat.zero_le _, fun p hp => ⟨cdiv, by decide, by omega, by omega, ?_⟩⟩
      refine forW_range (fun i σ H2 => Same H H2 ∧ ∃ (re' : Int) (u : Option V) (ts' : List Str), 0 ≤ re' ∧ σ = [some (.int n), some (.int r), some (.ref tp), some (.ref wp), some (.int kd), some (.int re'), some (.ref p), u, none, none, none] ∧ H2 p = some (.lst (ts'.map V.str)) ∧ ts'.length = i ∧ ∀ t ∈ ts', t ∈ ts) ⟨same_new hp _, re, _, [], b0, rfl, upd_same, rfl, by simp⟩ (fun i σ H2 hi hv => ?_) fun σ H2 hv => ?_
      · obtain ⟨s2, re', u, ts', g0, rfl, hp2, hl', hin⟩ := hv
        walk_at ""
        have tS : SqL K H2 tp (ts.map V.str) := SqL.of (s2 _ _ hT)
        obtain ⟨z, hz, ez⟩ := pickS (ts := ts) (i := (re' * 69621 + 7) % 2147483587 / 12 % (ts.length : Int)) (Int.emod_nonneg _ (by omega)) (Int.emod_lt_of_pos _ (by omega))
        refine ⟨cmulR, by decide, ⟨_, SqL.of hp2⟩, cdiv, _, .inl tS, by rw [List.length_map]; omega, _, .inl tS, _, by rw [List.length_map]; exact ez, _, hp2, sz1000' (by rw [List.length_map]; omega), s2.upd hp, _, _, ts' ++ [z], Int.emod_nonneg _ (by decide), rfl, by rw [upd_same, List.map_append]; rfl, by rw [List.length_append, hl']; rfl, fun t ht => ?_⟩
        rcases List.mem_append.mp ht with q | q
        · exact hin t q
        · rw [List.mem_singleton.mp q]; exact hz
      · obtain ⟨s2, re', u, ts', g0, rfl, hp2, hl', hin⟩ := hv
        walk_at ""
        obtain ⟨z, hz, ez⟩ := pickS (ts := ws) (i := n / 9 % 3) (Int.emod_nonneg _ (by decide)) (by rw [hws3]; exact Int.emod_lt_of_pos _ (by decide))
        refine ⟨cdiv, by decide, _, .inl (s2.seq hW), _, ez, _, .inl ⟨SqL.of hp2, fun l hl2 => ⟨sz1000 (show 3 ≤ 100000 by decide), fun p3 hp3 => ?_⟩⟩⟩
        refine k (.is z ts') _ _ ((s2.trans (same_new hl2 _)).trans (same_new hp3 _)) ⟨p3, l, rfl, SqT.of upd_same, (same_new hp3 _).seqT (SqT.of upd_same)⟩ ⟨hws z hz, by omega, fun t ht => hts t (hin t ht)⟩ (by show 1 ≤ r + 1; omega) hin
    · walk_at ""
      exact q
    · walk_at ""
      exact ⟨sz1000 (by decide), fun p hp => k .fls _ _ (same_new hp _) ⟨p, rfl, SqT.of upd_same⟩ trivial (by show 1 ≤ r + 1; omega) (by simp [Stm.fts])⟩
    · walk_at ""
      exact q
    · walk_at ""
      obtain ⟨r', rfl⟩ : ∃ r', r = r' + 1 := ⟨r - 1, by omega⟩
      refine ⟨re, r', tp, wp, ts, ws, by rw [show ((r' + 1 : Nat) : Int) - 1 = (r' : Int) by omega], b0, by omega, hT, hW, hne, by omega, hts, hws3, hws, fun S v H1 s1 rS hS hd hf => ⟨sz1000 (show 2 ≤ 100000 by decide), fun p hp => ?_⟩⟩
      exact k (.neg S) _ _ (s1.trans (same_new hp _)) ⟨p, v, rfl, SqT.of upd_same, rS.same (same_new hp _)⟩ hS (by show S.deep + 1 ≤ r' + 1 + 1; omega) hf
    · walk_at ""
      exact q
    · walk_at ""
      obtain ⟨r', rfl⟩ : ∃ r', r = r' + 1 := ⟨r - 1, by omega⟩
      have er : ((r' + 1 : Nat) : Int) - 1 = (r' : Int) := by omega
      rw [er]
      obtain ⟨o, eo⟩ : ∃ o : Bi, atI [V.str "and", V.str "or", V.str "then"] (kd - 5) = some (.str o.txt) := by
        obtain rfl | rfl | rfl : kd = 5 ∨ kd = 6 ∨ kd = 7 := by omega
        · exact ⟨.and, rfl⟩
        · exact ⟨.or, rfl⟩
        · exact ⟨.thn, rfl⟩
      refine ⟨re, r', tp, wp, ts, ws, rfl, b0, by omega, hT, hW, hne, by omega, hts, hws3, hws, fun S v H1 s1 rS hS hd hf => ⟨cmulL ⟨by omega, by omega⟩, by decide, ?_⟩⟩
      refine ⟨_, r', tp, wp, ts, ws, rfl, Int.emod_nonneg _ (by decide), by omega, s1 _ _ hT, s1.seq hW, hne, by omega, hts, hws3, hws, fun S2 v2 H2 s2 rS2 hS2 hd2 hf2 => ⟨sz1000 (show 3 ≤ 100000 by decide), fun p hp => ⟨_, .inl (SqL.of upd_same), _, eo, sz1000 (show 3 ≤ 100000 by decide), fun p2 hp2 => ?_⟩⟩⟩
      have sq := (same_new hp (.lst [V.str "and", V.str "or", V.str "then"])).trans (same_new hp2 (.tup [V.str o.txt, v, v2]))
      refine k (.bi o S S2) _ _ ((s1.trans s2).trans sq) ⟨p2, v, v2, rfl, SqT.of upd_same, rS.same (s2.trans sq), rS2.same sq⟩ ⟨hS, hS2⟩ (by show max S.deep S2.deep + 1 ≤ r' + 1 + 1; omega) fun t ht => ?_
      rcases List.mem_append.mp ht with q | q
      · exact hf t q
      · exact hf2 t q
    · walk_at ""
      obtain ⟨r', rfl⟩ : ∃ r', r = r' + 1 := ⟨r - 1, by omega⟩
      have er : ((r' + 1 : Nat) : Int) - 1 = (r' : Int) := by omega
      rw [er]
      obtain ⟨o, eo⟩ : ∃ o : Bool, atI [V.str "all", V.str "some"] (re % 2) = some (.str (qtx o)) := by
        have e0 := Int.emod_nonneg re (show (2 : Int) ≠ 0 by decide)
        have e1 := Int.emod_lt_of_pos re (show (0 : Int) < 2 by decide)
        generalize re % 2 = x at e0 e1
        obtain rfl | rfl : x = 0 ∨ x = 1 := by omega
        · exact ⟨true, rfl⟩
        · exact ⟨false, rfl⟩
      refine ⟨cdiv, _, rfl, Int.ediv_nonneg b0 (by decide), fun X H1 s1 hX => ⟨cmulL ⟨by omega, by omega⟩, by decide, sz1000 (by decide), fun p hp => ⟨by decide, _, .inl (SqL.of upd_same), _, eo, sz1000 (show 1 ≤ 100000 by decide), fun p2 hp2 => ?_⟩⟩⟩
      have sp := (same_new hp (.lst [V.str "all", V.str "some"])).trans (same_new hp2 (.lst [V.str X]))
      refine ⟨ts.map V.str, [V.str X], .inl ⟨sp _ _ (s1 _ _ hT), upd_same, sz1000 (by rw [List.length_map]; show ts.length + 1 ≤ 100000; omega), fun q hq => ?_⟩⟩
      refine ⟨_, r', q, wp, ts ++ [X], ws, rfl, Int.emod_nonneg _ (by decide), by omega, by rw [upd_same, List.map_append]; rfl, (s1.trans (sp.trans (same_new hq _))).seq hW, by simp, by rw [List.length_append]; show ts.length + 1 + r' ≤ 100; omega, fun t ht => ?_, hws3, hws, fun S v H2 s2 rS hS hd hf => ⟨sz1000 (show 3 ≤ 100000 by decide), fun p3 hp3 => ?_⟩⟩
      · rcases List.mem_append.mp ht with h | h
        · exact hts t h
        · rw [List.mem_singleton.mp h]; exact .inr hX
      refine k (.qu o X S) _ _ (((s1.trans (sp.trans (same_new hq _))).trans s2).trans (same_new hp3 _)) ⟨p3, v, rfl, SqT.of upd_same, rS.same (same_new hp3 _)⟩ ⟨hX, hS⟩ (by show S.deep + 1 ≤ r' + 1 + 1; omega) fun t ht => ?_
      obtain ⟨h1, h2⟩ := List.mem_filter.mp ht
      rcases List.mem_append.mp (hf t h1) with h | h
      · exact h
      · exact absurd (List.mem_singleton.mp h) (of_decide_eq_true h2)
end
section
variable {P : Program} {w : World} {K : PySem.W.Frag} {mg : Str → Option Value} {base0 : Heap} {D : Defs}
theorem ok_draw_L (T : Tx K mg D) : FnOk P w K mg base0 CX0 2 D.a_draw_L D.d_draw_L ["_law_script", "_law_at"] (spDraw K) := by
  have G_cell_at_L := ok_cell_at_L (P := P) (w := w) (base0 := base0) T
  have G_name_by_L := ok_name_by_L (P := P) (w := w) (base0 := base0) T
  refine T.F_draw_L.ok sc_draw_L (fun vs H Q E h => ?_) (fun cdv A outer s H vs Q E hr h => ?_)
  · obtain ⟨a, ns, n, rfl, _⟩ := h; rfl
  obtain ⟨a, ns, n, rfl, hS, hl, h0, k⟩ := h
  have hu := hr.units
  have hr_cell_at_L : Room 1 _ := hr.mono (by decide)
  have hr_name_by_L : Room 1 _ := hr.mono (by decide)
  refine ⟨_, (pss_cons (ps_set (i := 2) sc_draw_L.nd (by rfl) (by walk_at "o") (pe_call G_cell_at_L hr_cell_at_L (by rfl) T.m_cell_at_L T.F_cell_at_L.kp T.b_cell_at_L .nil pass0 (pa_cons (pv 0) (pa_cons (pv 1) pa_nil))))
    (pss_cons (ps_setComp (i := 3) 1 [0, 1, 2] ["_law_k", "_law_script", "_law_at", "_law_shape"] sc_draw_L.nd (by rfl) (by rfl) ⟨by rfl, by rfl, by rfl, by rfl, by rfl, by rfl, by rfl⟩ (by rfl) (pi_range1 (by rfl) T.z_range (pa_cons pe_int pa_nil)) (fun _ _ _ _ => pg_name (i := 0) (show List.Nodup (["_law_k", "_law_script", "_law_at", "_law_shape"] : List Str) by decide +kernel) (by rfl) (Or.inl (by rfl)) (Or.inr (by rfl))) (gName_keep (by decide)) (fun _ _ _ _ => pif_nil) (fun _ _ _ _ => (pe_call G_name_by_L hr_name_by_L (by rfl) T.m_name_by_L T.F_name_by_L.kp T.b_name_by_L .nil pass0 (pa_cons (pe_op op_fdivP (pv 3) pe_int) (pa_cons (pe_call G_cell_at_L hr_cell_at_L (by rfl) T.m_cell_at_L T.F_cell_at_L.kp T.b_cell_at_L .nil pass0 (pa_cons (pv 1) (pa_cons (pe_op (opB_add K) (pe_op (opB_add K) (pv 2) pe_int) (pv 0)) pa_nil))) (pa_cons (pv 0) pa_nil))))))
    (pss_cons (ps_setComp (i := 4) 1 [0, 1, 2] ["_law_k", "_law_script", "_law_at", "_law_shape"] sc_draw_L.nd (by rfl) (by rfl) ⟨by rfl, by rfl, by rfl, by rfl, by rfl, by rfl, by rfl⟩ (by rfl) (pi_range1 (by rfl) T.z_range (pa_cons pe_int pa_nil)) (fun _ _ _ _ => pg_name (i := 0) (show List.Nodup (["_law_k", "_law_script", "_law_at", "_law_shape"] : List Str) by decide +kernel) (by rfl) (Or.inl (by rfl)) (Or.inr (by rfl))) (gName_keep (by decide)) (fun _ _ _ _ => pif_nil) (fun _ _ _ _ => (pe_call G_name_by_L hr_name_by_L (by rfl) T.m_name_by_L T.F_name_by_L.kp T.b_name_by_L .nil pass0 (pa_cons (pe_op op_fdivP (pv 3) pe_int) (pa_cons (pe_call G_cell_at_L hr_cell_at_L (by rfl) T.m_cell_at_L T.F_cell_at_L.kp T.b_cell_at_L .nil pass0 (pa_cons (pv 1) (pa_cons (pe_op (opB_add K) (pe_op (opB_add K) (pv 2) pe_int) (pv 0)) pa_nil))) (pa_cons (pe_op (opB_add K) pe_int (pv 0)) pa_nil))))))
    (pss_cons (ps_if (pt_cmpR (opB_eq K hu) (pe_op op_modP (pv 2) pe_int) pe_int (nomark _)) (pss_one (ps_asg (pe_ix (ixA K) (pv 3) pe_int (fun _ _ => rfl)) (pg_sub (pv 4) pe_int set_list))) pss_nil)
    (pss_one (ps_ret (pe_lst (pa_cons (pv 3) (pa_cons (pv 4) pa_nil))))))))), ?_⟩
  walk_at "S"
  walk_at ""
  refine ⟨a, ns, n, rfl, hS, hl, h0, fun sh sh0 sh1 => ?_⟩
  walk_at ""
  have snoc : ∀ (ts : List Str) (x : Str), (∀ t ∈ ts, Nm smallS t) → Nm smallS x → ∀ t ∈ ts ++ [x], Nm smallS t := fun ts x h hx t ht => by
    rcases List.mem_append.mp ht with q | q
    · exact h t q
    · rw [List.mem_singleton.mp q]; exact hx
  refine ⟨by decide, by decide, comp_range (fun i acc H2 => Same H H2 ∧ ∃ ts : List Str, acc = ts.map V.str ∧ ts.length = i ∧ ∀ t ∈ ts, Nm smallS t) ⟨Same.refl _, [], rfl, rfl, by simp⟩ (fun i acc H2 hi hv => ?_) fun acc H2 hv np hnp => ?_⟩
  · obtain ⟨s2, ts, rfl, hlen, hts⟩ := hv
    have hi' : i < 3 := hi
    refine ⟨sz1000' (by rw [List.length_map]; omega), ?_⟩
    simp only [slotsC, List.replicate_succ, List.replicate_zero, List.map_cons, List.map_nil, List.nil_append, List.cons_append, List.getElem?_cons_zero, List.getElem?_cons_succ, Option.join_some]
    walk_at ""
    refine ⟨cdiv, a, ns, _, rfl, s2.seq hS, hl, by omega, fun c c0 c1 => ⟨_, _, _, rfl, Int.ediv_nonneg sh0 (by decide), c0, by omega, fun x H3 s3 hx => ?_⟩⟩
    refine ⟨s2.trans s3, ts ++ [x], by rw [List.map_append]; rfl, by rw [List.length_append, hlen]; rfl, snoc ts x hts hx⟩
  obtain ⟨s2, nm, rfl, ln, hnm⟩ := hv
  have s2' := s2.trans (same_new hnp (.lst (nm.map V.str)))
  refine ⟨by decide, by decide, comp_range (fun i acc H3 => Same (upd H2 np (.lst (nm.map V.str))) H3 ∧ ∃ ts : List Str, acc = ts.map V.str ∧ ts.length = i ∧ ∀ t ∈ ts, Nm smallS t) ⟨Same.refl _, [], rfl, rfl, by simp⟩ (fun i acc H3 hi hv => ?_) fun acc H3 hv wp hwp => ?_⟩
  · obtain ⟨s3, ts, rfl, hlen, hts⟩ := hv
    have hi' : i < 3 := hi
    refine ⟨sz1000' (by rw [List.length_map]; omega), ?_⟩
    simp only [slotsC, List.replicate_succ, List.replicate_zero, List.map_cons, List.map_nil, List.nil_append, List.cons_append, List.getElem?_cons_zero, List.getElem?_cons_succ, Option.join_some]
    walk_at ""
    refine ⟨cdiv, a, ns, _, rfl, (s2'.trans s3).seq hS, hl, by omega, fun c c0 c1 => ⟨_, _, _, rfl, Int.ediv_nonneg sh0 (by decide), c0, by omega, fun x H4 s4 hx => ?_⟩⟩
    refine ⟨s3.trans s4, ts ++ [x], by rw [List.map_append]; rfl, by rw [List.length_append, hlen]; rfl, snoc ts x hts hx⟩
  obtain ⟨s3, wd, rfl, lw, hwd⟩ := hv
  have np3 : H3 np = some (.lst (nm.map V.str)) := s3 _ _ upd_same
  have np4 := keep1 (o := .lst (wd.map V.str)) hwp np3
  have ln' : nm.length = 3 := ln
  have lw' : wd.length = 3 := lw
  refine ⟨by decide, ite2 (fun _ => ?_) fun _ => ?_⟩
  · obtain ⟨z, nm', rfl⟩ : ∃ z nm', nm = z :: nm' := by
      cases nm with
      | nil => simp at ln'
      | cons z nm' => exact ⟨z, nm', rfl⟩
    obtain ⟨w0, wd', rfl⟩ : ∃ z nm', wd = z :: nm' := by
      cases wd with
      | nil => simp at lw'
      | cons z nm' => exact ⟨z, nm', rfl⟩
    walk_at ""
    refine ⟨_, .inl (SqL.of np4), _, atI_nat (j := 0) rfl, _, 0, upd_same, ixN_in (by decide) (by rw [List.length_map]; omega), sz1000 (show 2 ≤ 100000 by decide), fun p hp => ?_⟩
    rw [upd_upd] at hp ⊢
    refine k p np wp (z :: nm') (z :: wd') _ ((s2'.trans s3).trans ((same_new hwp _).trans (same_new hp _))) upd_same (keep1 hp (keep1 hwp np3)) (keep1 hp (by rw [upd_same]; rfl)) ln' (by simpa using lw') hnm fun t ht => ?_
    rcases List.mem_cons.mp ht with q | q
    · rw [q]; exact hnm z List.mem_cons_self
    · exact hwd t (List.mem_cons_of_mem _ q)
  · refine ⟨sz1000 (show 2 ≤ 100000 by decide), fun p hp => ?_⟩
    exact k p np wp nm wd _ ((s2'.trans s3).trans ((same_new hwp _).trans (same_new hp _))) upd_same (keep1 hp np4) (keep1 hp upd_same) ln' lw' hnm hwd
theorem ok_some_L (T : Tx K mg D) : FnOk P w K mg base0 CX0 10 D.a_some_L D.d_some_L ["_law_script", "_law_at", "_law_drawn", "_law_count"] (spSome K) := by
  have G_cell_at_L := ok_cell_at_L (P := P) (w := w) (base0 := base0) T
  have G_made_L := ok_made_L (P := P) (w := w) (base0 := base0) T 5
  refine T.F_some_L.ok sc_some_L (fun vs H Q E h => ?_) (fun cdv A outer s H vs Q E hr h => ?_)
  · obtain ⟨a, p, np, wp, ns, n, c, nm, wd, rfl, _⟩ := h; rfl
  obtain ⟨a, p, np, wp, ns, n, c, nm, wd, rfl, hS, hl, h0, c0, c1, hp, hnp, hwp, ln, lw, hnm, hwd, k⟩ := h
  have hu := hr.units
  have hr_cell_at_L : Room 1 _ := hr.mono (by decide)
  have hr_made_L : Room 6 _ := hr.mono (by decide)
  refine ⟨_, (pss_cons (ps_set (i := 4) sc_some_L.nd (by rfl) (by walk_at "o") (pe_lst pa_nil))
    (pss_cons (ps_for PassesOwn.never (by rfl) (pi_range1 (by rfl) T.z_range (pa_cons (pv 3) pa_nil)) (pg_name (i := 5) sc_some_L.nd (by rfl) (by walk_at "o"))
      (pss_cons (ps_set (i := 6) sc_some_L.nd (by rfl) (by walk_at "o") (pe_call G_cell_at_L hr_cell_at_L (by rfl) T.m_cell_at_L T.F_cell_at_L.kp T.b_cell_at_L .nil pass0 (pa_cons (pv 0) (pa_cons (pe_op (opB_add K) (pv 1) (pv 5)) pa_nil))))
    (pss_one (ps_expr (pe_bmA K PySem.F.plainAttrs_list PySem.F.slot_list_append PySem.F.type_list_append mtR_append (pv 4) (pa_cons (pe_call G_made_L hr_made_L (by rfl) T.m_made_L T.F_made_L.kp T.b_made_L .nil pass0 (pa_cons (pe_op op_modP (pv 6) (pe_op (opB_add K) (pe_op op_pow pe_int pe_int) pe_int)) (pa_cons (pe_op (opB_add K) pe_int (pe_op op_modP (pv 6) pe_int)) (pa_cons (pe_ix (ixA K) (pv 2) pe_int (fun _ _ => rfl)) (pa_cons (pe_ix (ixA K) (pv 2) pe_int (fun _ _ => rfl)) pa_nil))))) pa_nil))))))
    (pss_one (ps_ret (pv 4))))), ?_⟩
  walk_at "S"
  walk_at ""
  refine ⟨Nat.zero_le _, fun q hq => ⟨by omega, by omega, ?_⟩⟩
  refine forW_range (fun i σ H2 => Same H H2 ∧ ∃ (Ss : List Stm) (us : List V) (u u2 : Option V), σ = [some (V.ref a), some (V.int n), some (V.ref p), some (V.int c), some (V.ref q), u, u2] ∧ H2 q = some (.lst us) ∧ RepL K H2 Ss us ∧ Ss.length = i ∧ ∀ S ∈ Ss, StOk 5 S) ⟨same_new hq _, [], [], _, _, rfl, upd_same, Paired.nil, rfl, by simp⟩ (fun i σ H2 hi hv => ?_) fun σ H2 hv => ?_
  · obtain ⟨s2, Ss, us, u, u2, rfl, hq2, hR, hlen, hSs⟩ := hv
    walk_at ""
    refine ⟨a, ns, _, rfl, s2.seq hS, hl, by omega, fun m m0 m1 => ?_⟩
    walk_at ""
    have e0 := Int.emod_nonneg m (show (4 : Int) ≠ 0 by decide)
    have e1 := Int.emod_lt_of_pos m (show (0 : Int) < 4 by decide)
    generalize m % 4 = md at e0 e1 ⊢
    have hp2 : SqL K H2 p [V.ref np, V.ref wp] := SqL.of (s2 _ _ hp)
    refine ⟨⟨_, SqL.of hq2⟩, ⟨by decide, by decide, by decide⟩, by decide, by decide, _, .inl hp2, _, atI_nat (j := 0) rfl, _, .inl hp2, _, atI_nat (j := 1) rfl, _, (1 + md).toNat, np, wp, nm, wd, by rw [show ((1 + md).toNat : Int) = 1 + md by omega], Int.emod_nonneg _ (by decide), by omega, s2 _ _ hnp, SqL.of (s2 _ _ hwp), ?_, by omega, fun t ht => .inl (hnm t ht), lw, hwd, fun S v H3 s3 rS hS hd hf => ?_⟩
    · intro z; rw [z] at ln; cases ln
    · have hq3 := s3 _ _ hq2
      have hlu := Paired.length hR
      refine ⟨us, hq3, sz1000' (by omega), (s2.trans s3).upd hq, Ss ++ [S], us ++ [v], _, _, rfl, upd_same, RepL.snoc (RepL.keepL hq3 (hR.same s3)) (rS.keepL hq3), by rw [List.length_append, hlen]; rfl, fun S' hS' => ?_⟩
      rcases List.mem_append.mp hS' with z | z
      · exact hSs S' z
      · rw [List.mem_singleton.mp z]; exact ⟨hS, by omega, fun t ht => hnm t (hf t ht)⟩
  · obtain ⟨s2, Ss, us, u, u2, rfl, hq2, hR, hlen, hSs⟩ := hv
    walk_at ""
    exact k q Ss us H2 s2 hq2 hR hlen hSs
end
section
variable {P : Program} {w : World} {K : PySem.W.Frag} {mg : Str → Option Value} {base0 : Heap} {D : Defs}
theorem seq_cut {a b : TS} {Dd : Ends} {σ : St} {H : Hp} (R : St → Hp → Prop) (ha : ∀ N : St → Hp → Prop, (∀ σ' H', R σ' H' → N σ' H') → a { Dd with nx := N } σ H) (hb : ∀ σ' H', R σ' H' → b Dd σ' H') : tSeq a b Dd σ H := ha _ hb
theorem ok_parts (T : Tx K mg D) : FnOk P w K mg base0 CX0 1 D.a_parts D.d_parts ["A"] (spParts K) := by
  refine T.F_parts.ok sc_parts (fun vs H Q E h => ?_) (fun cdv A outer s H vs Q E hr h => ?_)
  · obtain ⟨v, S, rfl, _⟩ := h; rfl
  obtain ⟨v, S, rfl, rS, k⟩ := h
  have hu := hr.units
  refine ⟨_, (pss_cons (ps_if (pt_cmpR (opB_eq K hu) (pe_ix (ixA K) (pv 0) pe_int (fun _ _ => rfl)) pe_str (nomark _)) (pss_one (ps_ret (pe_tup pa_nil))) pss_nil)
    (pss_cons (ps_if (pt_cmpR (opA_in K) (pe_ix (ixA K) (pv 0) pe_int (fun _ _ => rfl)) (T.g_QUANTIFIERS (by rfl)) (by rfl)) (pss_one (ps_ret (pe_tup (pa_cons (pe_ix (ixA K) (pv 0) pe_int (fun _ _ => rfl)) pa_nil)))) pss_nil)
    (pss_one (ps_ret (pe_slice (slB K) (pv 0) (po_some pe_int) po_none))))), ?_⟩
  walk_at "S"
  cases S with
  | is x ts =>
    obtain ⟨a, b, rfl, h2, h3⟩ := rS
    walk_at ""
    refine ⟨_, .inr h2, _, atI_nat (j := 0) rfl, ?_⟩
    walk_at ""
    refine ⟨(by show 0 ≤ sizeLine; decide), fun p hp => k p [] _ (same_new hp _) (SqT.of upd_same) .nil⟩
  | fls =>
    obtain ⟨a, rfl, h2⟩ := rS
    walk_at ""
    refine ⟨_, .inr h2, _, atI_nat (j := 0) rfl, ?_⟩
    walk_at ""
    rw [if_neg (by decide +kernel)]
    refine ⟨_, .inr h2, _, atI_nat (j := 0) rfl, ?_⟩
    (try walk_at "")
    refine ⟨_, .inr (T.q_QUANTIFIERS _), rfl, by decide, ?_⟩
    rw [if_neg (by decide +kernel)]
    exact ⟨_, .inr ⟨h2, fun p H1 s1 q1 => k p _ _ s1 q1 .nil⟩⟩
  | neg B =>
    obtain ⟨a, u, rfl, h2, h3⟩ := rS
    walk_at ""
    refine ⟨_, .inr h2, _, atI_nat (j := 0) rfl, ?_⟩
    walk_at ""
    rw [if_neg (by decide +kernel)]
    refine ⟨_, .inr h2, _, atI_nat (j := 0) rfl, ?_⟩
    (try walk_at "")
    refine ⟨_, .inr (T.q_QUANTIFIERS _), rfl, by decide, ?_⟩
    rw [if_neg (by decide +kernel)]
    exact ⟨_, .inr ⟨h2, fun p H1 s1 q1 => k p _ _ s1 q1 (.cons (h3.same s1) .nil)⟩⟩
  | bi o B C =>
    obtain ⟨a, u, u', rfl, h2, h3, h4⟩ := rS
    walk_at ""
    refine ⟨_, .inr h2, _, atI_nat (j := 0) rfl, ?_⟩
    walk_at ""
    rw [if_neg (bi_is o)]
    refine ⟨_, .inr h2, _, atI_nat (j := 0) rfl, ?_⟩
    (try walk_at "")
    refine ⟨_, .inr (T.q_QUANTIFIERS _), rfl, by decide, ?_⟩
    rw [bi_no_quant, if_neg (by decide)]
    exact ⟨_, .inr ⟨h2, fun p H1 s1 q1 => k p _ _ s1 q1 (.cons (h3.same s1) (.cons (h4.same s1) .nil))⟩⟩
  | qu q X B =>
    obtain ⟨a, u, rfl, h2, h3⟩ := rS
    walk_at ""
    refine ⟨_, .inr h2, _, atI_nat (j := 0) rfl, ?_⟩
    walk_at ""
    rw [if_neg (qu_is q)]
    refine ⟨_, .inr h2, _, atI_nat (j := 0) rfl, ?_⟩
    (try walk_at "")
    refine ⟨_, .inr (T.q_QUANTIFIERS _), rfl, by decide, ?_⟩
    rw [qu_quant, if_pos rfl]
    refine ⟨_, .inr h2, _, atI_nat (j := 2) rfl, (by show 1 ≤ sizeLine; decide), fun p hp => k p _ _ (same_new hp _) (SqT.of upd_same) (.cons (h3.same (same_new hp _)) .nil)⟩
theorem fts_len : ∀ {S : Stm}, S.Ok → S.fts.length ≤ 3 * 2 ^ S.deep
  | .is w ts, h => by show ts.length ≤ 6; have := h.2.1; omega
  | .fls, _ => Nat.zero_le _
  | .neg A, h => by
    have h1 := fts_len (S := A) h
    show A.fts.length ≤ 3 * 2 ^ (A.deep + 1)
    rw [Nat.pow_succ]; omega
  | .bi _ A B, h => by
    have h1 := fts_len (S := A) h.1
    have h2 := fts_len (S := B) h.2
    show (A.fts ++ B.fts).length ≤ 3 * 2 ^ (max A.deep B.deep + 1)
    have p1 : 2 ^ A.deep ≤ 2 ^ max A.deep B.deep := Nat.pow_le_pow_right (by decide) (Nat.le_max_left _ _)
    have p2 : 2 ^ B.deep ≤ 2 ^ max A.deep B.deep := Nat.pow_le_pow_right (by decide) (Nat.le_max_right _ _)
    rw [List.length_append, Nat.pow_succ]; omega
  | .qu _ X A, h => by
    have h1 := fts_len (S := A) h.2
    have h2 := List.length_filter_le (fun t => decide (t ≠ X)) A.fts
    show (A.fts.filter fun t => decide (t ≠ X)).length ≤ 3 * 2 ^ (A.deep + 1)
    rw [Nat.pow_succ]; omega
def spFts (K : PySem.W.Frag) (d : Nat) : Sp := fun vs H Q _ => ∃ v S, vs = [v] ∧ RepS K H S v ∧ S.Ok ∧ S.deep ≤ d ∧ d ≤ 12 ∧ ∀ p H', Same H H' → H' p = some (.lst (S.fts.map V.str)) → Q (.ref p) H'
theorem ok_free_terms_in (T : Tx K mg D) : ∀ d : Nat, FnOk P w K mg base0 CX0 (d + 2) D.a_free_terms_in D.d_free_terms_in ["A"] (spFts K d)
  | 0 => by
    refine T.F_free_terms_in.ok sc_free_terms_in (fun vs H Q E h => ?_) (fun cdv A outer s H vs Q E hr h => ?_)
    · obtain ⟨v, S, rfl, _⟩ := h; rfl
    · obtain ⟨v, S, rfl, _, _, h, _⟩ := h
      have := S.deep_pos
      omega
  | d + 1 => by
    have G_parts := ok_parts (P := P) (w := w) (base0 := base0) T
    have G_free_terms_in := ok_free_terms_in T d
    refine T.F_free_terms_in.ok sc_free_terms_in (fun vs H Q E h => ?_) (fun cdv A outer s H vs Q E hr h => ?_)
    · obtain ⟨v, S, rfl, _⟩ := h; rfl
    obtain ⟨v, S, rfl, rS, hOk, hd, hd12, k⟩ := h
    have hu := hr.units
    have hr_parts : Room 1 _ := hr.mono (by omega)
    have hr_free_terms_in : Room (d + 2) _ := hr
    refine ⟨_, (pss_cons (ps_if (pt_cmpR (opB_eq K hu) (pe_ix (ixA K) (pv 0) pe_int (fun _ _ => rfl)) pe_str (nomark _)) (pss_one (ps_ret (pe_callTy (callA_list K) (by rfl) T.z_list (by rfl) (pa_cons (pe_ix (ixA K) (pv 0) pe_int (fun _ _ => rfl)) pa_nil)))) pss_nil)
    (pss_cons (ps_set (i := 1) sc_free_terms_in.nd (by rfl) (by walk_at "o") (pe_lst pa_nil))
    (pss_cons (ps_for PassesOwn.never (by rfl) (pi_any K (pe_call G_parts hr_parts (by rfl) T.m_parts T.F_parts.kp T.b_parts .nil pass0 (pa_cons (pv 0) pa_nil))) (pg_name (i := 2) sc_free_terms_in.nd (by rfl) (by walk_at "o"))
      (pss_one (ps_expr (pe_bmA K PySem.F.plainAttrs_list PySem.F.slot_list_extend PySem.F.type_list_extend mtR_extend (pv 1) (pa_cons (pe_call G_free_terms_in hr_free_terms_in (by rfl) T.m_free_terms_in T.F_free_terms_in.kp T.b_free_terms_in .nil pass0 (pa_cons (pv 2) pa_nil)) pa_nil)))))
    (pss_cons (ps_if (pt_cmpR (opA_in K) (pe_ix (ixA K) (pv 0) pe_int (fun _ _ => rfl)) (T.g_QUANTIFIERS (by rfl)) (by rfl)) (pss_one (ps_ret (pe_comp 1 [0] ["term", "A"] ⟨by rfl, by rfl, by rfl, by rfl, by rfl, by rfl, by rfl⟩ (by rfl) (pi_any K (pv 1)) (fun _ _ _ _ => pg_name (i := 0) (show List.Nodup (["term", "A"] : List Str) by decide +kernel) (by rfl) (Or.inl (by rfl)) (Or.inr (by rfl))) (gName_keep (by decide)) (fun _ _ _ _ => pif_one (pt_cmpR (opA_ne hu) (pv 0) (pe_ix (ixA K) (pv 1) pe_int (fun _ _ => rfl)) (nomark _))) (fun _ _ _ _ => (pv 0))))) pss_nil)
    (pss_one (ps_ret (pv 1))))))), ?_⟩
    walk_at "S"
    obtain ⟨a, xs0, ev, h2⟩ := rS.tag
    subst ev
    refine seq_ifP (c := S.tag = "is") (fun Qb q => ?_) (fun c1 => ?_) fun c1 => ?_
    · walk_at ""
      exact ⟨_, .inr h2, _, atI_nat (j := 0) rfl, by rw [w_eqSB]; exact ⟨_, rfl, q⟩⟩
    · cases S with
      | is x ts =>
        obtain ⟨a', b, e', h2', h3⟩ := rS
        cases e'
        walk_at ""
        refine ⟨_, .inr h2', _, atI_nat (j := 2) rfl, ?_⟩
        walk_at ""
        exact ⟨_, .inr h3, fun l hl => k l _ (same_new hl _) upd_same⟩
      | fls => exact absurd c1 (show ¬ (Str.ofString "false" = Str.ofString "is") by decide +kernel)
      | neg B => exact absurd c1 (show ¬ (Str.ofString "not" = Str.ofString "is") by decide +kernel)
      | bi o B C => exact absurd c1 (bi_is o)
      | qu o X B => exact absurd c1 (qu_is o)
    · have hlen := fts_len hOk
      have hpw : 2 ^ S.deep ≤ 2 ^ 12 := Nat.pow_le_pow_right (by decide) (by omega)
      have small : ∀ {B : Stm}, B.Ok → B.deep ≤ d + 1 → B.fts.length ≤ 12288 := fun {B} hB hd' => by
        have h1 := fts_len hB
        have h2 : 2 ^ B.deep ≤ 2 ^ 12 := Nat.pow_le_pow_right (by decide) (by omega)
        omega
      have pOk : ∀ B ∈ S.parts, B.Ok ∧ B.deep ≤ d := by
        cases S with
        | is x ts => intro B h; cases h
        | fls => intro B h; cases h
        | neg C => intro B h; rw [List.mem_singleton.mp h]; exact ⟨hOk, by have : C.deep + 1 ≤ d + 1 := hd; omega⟩
        | bi o C C' =>
          intro B h
          have : max C.deep C'.deep + 1 ≤ d + 1 := hd
          rcases List.mem_cons.mp h with rfl | h
          · exact ⟨hOk.1, by omega⟩
          · rw [List.mem_singleton.mp h]; exact ⟨hOk.2, by omega⟩
        | qu o X C => intro B h; rw [List.mem_singleton.mp h]; exact ⟨hOk.2, by have : C.deep + 1 ≤ d + 1 := hd; omega⟩
      have pLen : S.parts.length ≤ 2 := by cases S <;> simp [Stm.parts]
      refine seq_cut (fun σ2 H2 => ∃ p, H p = none ∧ H2 = upd H p (.lst []) ∧ σ2 = [some (V.ref a), some (V.ref p), none]) (fun N hN => ?_) fun σ2 H2 hv => ?_
      · walk_at ""
        exact ⟨Nat.zero_le _, fun p hp => hN _ _ ⟨p, hp, rfl, rfl⟩⟩
      obtain ⟨p, hp, rfl, rfl⟩ := hv
      refine seq_cut (fun σ2 H2 => Same H H2 ∧ H2 p = some (.lst ((S.parts.flatMap Stm.fts).map V.str)) ∧ ∃ u, σ2 = [some (V.ref a), some (V.ref p), u]) (fun N hN => ?_) fun σ2 H2 hv => ?_
      · walk_at ""
        refine ⟨_, S, rfl, rS.same (same_new hp _), fun q us H1 s1 hq hR => ?_⟩
        (try walk_at "")
        have s01 := (same_new hp (.lst [])).trans s1
        have hul := Paired.length hR
        refine .inr ⟨⟨_, hq⟩, forW_tup (xs := us) (fun i σ2 H2 => Same H H2 ∧ SqT K H2 q us ∧ RepL K H2 S.parts us ∧ ∃ (u : Option V), σ2 = [some (V.ref a), some (V.ref p), u] ∧ H2 p = some (.lst (((S.parts.take i).flatMap Stm.fts).map V.str)) ∧ ((S.parts.take i).flatMap Stm.fts).length ≤ 12288 * i) ⟨s01, hq, hR, _, rfl, s1 _ _ upd_same, by simp⟩ (fun i σ2 H2 _ hv => hv.2.1) (fun i x σ2 H2 hx hv => ?_) fun σ2 H2 hv => ?_⟩
        · obtain ⟨s2, hq2, hR2, u, rfl, hp2, hle⟩ := hv
          obtain ⟨B, eB, rB⟩ := hR2.get hx
          have hB := pOk B (List.mem_of_getElem? eB)
          have hi : i < S.parts.length := (List.getElem?_eq_some_iff.mp eB).1
          have sB := small hB.1 (by omega)
          walk_at ""
          refine ⟨⟨_, SqL.of hp2⟩, _, B, rfl, rB, hB.1, hB.2, by omega, fun p3 H3 s3 h3 => ?_⟩
          have e1 : S.parts.take (i + 1) = S.parts.take i ++ [B] := by
            rw [List.take_succ, eB]; rfl
          have e2 : (S.parts.take (i + 1)).flatMap Stm.fts = (S.parts.take i).flatMap Stm.fts ++ B.fts := by
            rw [e1, List.flatMap_append]; simp
          (try walk_at "")
          refine ⟨_, _, s3 _ _ hp2, h3, sz1000 (by rw [List.length_map, List.length_map]; omega), (s2.trans s3).upd hp, (s3.seqT hq2).keepL (s3 _ _ hp2), RepL.keepL (s3 _ _ hp2) (hR2.same s3), _, rfl, ?_, ?_⟩
          · rw [upd_same, e2, List.map_append]
          · rw [e2, List.length_append]; omega
        · obtain ⟨s2, hq2, hR2, u, rfl, hp2, hle⟩ := hv
          rw [← hul, List.take_length] at hp2
          exact hN _ _ ⟨s2, hp2, u, rfl⟩
      obtain ⟨s2, hp2, u, rfl⟩ := hv
      have h2' := s2.seqT h2
      cases S with
      | is x ts => exact absurd rfl c1
      | fls =>
        walk_at ""
        refine ⟨_, .inr h2', _, atI_nat (j := 0) rfl, ?_⟩
        (try walk_at "")
        refine ⟨_, .inr (T.q_QUANTIFIERS _), rfl, by decide, ?_⟩
        rw [if_neg (by decide +kernel)]
        exact k p _ s2 hp2
      | neg B =>
        walk_at ""
        refine ⟨_, .inr h2', _, atI_nat (j := 0) rfl, ?_⟩
        (try walk_at "")
        refine ⟨_, .inr (T.q_QUANTIFIERS _), rfl, by decide, ?_⟩
        rw [show B.neg.tag = Str.ofString "not" from rfl, if_neg (show ¬ inV (V.str (Str.ofString "not")) [V.str (Str.ofString "all"), V.str (Str.ofString "some")] = true by decide +kernel)]
        exact k p _ s2 (by rw [hp2]; simp [Stm.parts, Stm.fts])
      | bi o B C =>
        walk_at ""
        refine ⟨_, .inr h2', _, atI_nat (j := 0) rfl, ?_⟩
        (try walk_at "")
        refine ⟨_, .inr (T.q_QUANTIFIERS _), rfl, by decide, ?_⟩
        rw [show (Stm.bi o B C).tag = o.txt from rfl, bi_no_quant, if_neg (by decide)]
        exact k p _ s2 (by rw [hp2]; simp [Stm.parts, Stm.fts])
      | qu o X B =>
        obtain ⟨a', u', e', h3, rB⟩ := rS
        cases e'
        walk_at ""
        refine ⟨_, .inr h2', _, atI_nat (j := 0) rfl, ?_⟩
        (try walk_at "")
        refine ⟨_, .inr (T.q_QUANTIFIERS _), rfl, by decide, ?_⟩
        rw [show (Stm.qu o X B).tag = qtx o from rfl, qu_quant, if_pos rfl]
        have hp3 : H2 p = some (.lst (B.fts.map V.str)) := by rw [hp2]; simp [Stm.parts]
        have hBl : B.fts.length ≤ 12288 := small hOk.2 (by have : B.deep + 1 ≤ d + 1 := hd; omega)
        refine .inl ⟨⟨_, SqL.of hp3⟩, comp_list (xs := B.fts.map V.str) (fun i acc H3 => H3 = H2 ∧ acc = ((B.fts.take i).filter fun t => decide (t ≠ X)).map V.str) ⟨rfl, rfl⟩ (fun i acc H3 _ hv => hv.1 ▸ SqL.of hp3) (fun i x acc H3 hx hv => ?_) fun acc H3 hv p3 h3' => ?_⟩
        · obtain ⟨rfl, rfl⟩ := hv
          rw [List.getElem?_map] at hx
          cases e : B.fts[i]? with
          | none => rw [e] at hx; cases hx
          | some y =>
            rw [e] at hx
            cases hx
            have hfl := List.length_filter_le (fun t => decide (t ≠ X)) (B.fts.take i)
            have htl := List.length_take_le i B.fts
            have htl' := List.length_take_le' i B.fts
            have e1 : B.fts.take (i + 1) = B.fts.take i ++ [y] := by rw [List.take_succ, e]; rfl
            refine ⟨sz1000' (by rw [List.length_map]; omega), ?_⟩
            simp only [slotsC, List.replicate_succ, List.replicate_zero, List.map_cons, List.map_nil, List.nil_append, List.cons_append, List.getElem?_cons_zero, List.getElem?_cons_succ, Option.join_some]
            walk_at ""
            refine ⟨_, .inr (s2.seqT h3), _, atI_nat (j := 1) rfl, ?_⟩
            (try walk_at "")
            rw [e1, List.filter_append, List.map_append]
            refine ite2 (fun q => ⟨trivial, ?_⟩) fun q => ⟨trivial, ?_⟩
            · rw [List.filter_cons, if_pos (decide_eq_true q)]; rfl
            · rw [List.filter_cons, if_neg (by simpa using q)]; simp
        · obtain ⟨rfl, rfl⟩ := hv
          refine k p3 _ (s2.trans (same_new h3' _)) ?_
          rw [upd_same, List.length_map, List.take_length]
          rfl
end
section
variable {P : Program} {w : World} {K : PySem.W.Frag} {mg : Str → Option Value} {base0 : Heap} {D : Defs}
def sof : Str := "abcdefghijklmnopqrstuvwxyz0123456789"
def tailOk (x : Str) : Bool := (Txt.slice x (some 1) none).cps.toList.all fun c => inS ⟨#[c]⟩ sof
def base (x f : Str) : Bool := if x = "" then false else if (8 : Int) < x.length then false else if inS ⟨#[x.cps.toList.headD 0]⟩ f then tailOk x else false
theorem head_at {x : Str} (h : ¬ x = "") : atI x.cps.toList 0 = some (x.cps.toList.headD 0) := by
  have e : x.cps.toList ≠ [] := fun e => h (by
    obtain ⟨c⟩ := x
    have : c = #[] := by simpa using e
    subst this
    rfl)
  cases q : x.cps.toList with
  | nil => exact absurd q e
  | cons c r => exact atI_nat (j := 0) rfl
def spBase : Sp := fun vs H Q _ => ∃ x f, vs = [.str x, .str f] ∧ x.length ≤ 1000 ∧ ∀ H', Same H H' → Q (.bl (base x f)) H'
def sp1 (r : Str → Bool) : Sp := fun vs H Q _ => ∃ x, vs = [.str x] ∧ x.length ≤ 1000 ∧ ∀ H', Same H H' → Q (.bl (r x)) H'
theorem ok_begins (T : Tx K mg D) : FnOk P w K mg base0 CX0 1 D.a_begins_and_goes_on D.d_begins_and_goes_on ["text", "first_signs"] spBase := by
  refine T.F_begins_and_goes_on.ok sc_begins_and_goes_on (fun vs H Q E h => ?_) (fun cdv A outer s H vs Q E hr h => ?_)
  · obtain ⟨x, f, rfl, _⟩ := h; rfl
  obtain ⟨x, f, rfl, hx, k⟩ := h
  have hu := hr.units
  refine ⟨_, (pss_cons (ps_if (PW.pt (pw_or (pt_cmpR (opB_eq K hu) (pv 0) pe_str (nomark _)) (pw_or (pt_cmpR op_gt (pe_callB (callA_len K) (by rfl) T.z_len PySem.boot_len (pa_cons (pv 0) pa_nil)) (T.g_MOST_SIGNS (by rfl)) (nomark _)) (pw_or1 (pt_cmpR (opA_notin K) (pe_ix (ixA K) (pv 0) pe_int (fun _ _ => rfl)) (pv 1) (by rfl)))))) (pss_one (ps_ret pe_bl)) pss_nil)
    (pss_one (ps_ret (pe_callB (callA_all K (by rfl)) (by rfl) T.z_all (by rfl) (pa_cons (pe_comp 1 [] ["sign"] ⟨by rfl, by rfl, by rfl, by rfl, by rfl, by rfl, by rfl⟩ (by rfl) (pi_any K (pe_slice (slB K) (pv 0) (po_some pe_int) po_none)) (fun _ _ _ _ => pg_name (i := 0) (show List.Nodup (["sign"] : List Str) by decide +kernel) (by rfl) (Or.inl (by rfl)) (Or.inr (by rfl))) (gName_keep (by decide)) (fun _ _ _ _ => pif_nil) (fun _ _ _ _ => (pe_cmpR (opA_in K) (pv 0) (T.g_SMALL_OR_FIGURE (by rfl)) (by rfl)))) pa_nil))))), ?_⟩
  walk_at "S"
  walk_at ""
  have hz : x.length ≤ sizeLine := sz1000 (by omega)
  have kf : base x f = false → Q (.bl false) H := fun e => by have q := k H (Same.refl H); rw [e] at q; exact q
  refine ite2 (fun c => kf (by unfold base; rw [if_pos c])) fun c => ⟨hz, ite2 (fun c2 => kf (by unfold base; rw [if_neg c, if_pos c2])) fun c2 => ⟨hz, _, head_at c, ?_⟩⟩
  refine ite2 (fun c3 => kf (by unfold base; rw [if_neg c, if_neg c2, if_neg (by rw [c3]; exact Bool.false_ne_true)])) fun c3 => ⟨hz, ?_⟩
  have c3' : inS ⟨#[x.cps.toList.headD 0]⟩ f = true := by simpa using c3
  have hb : base x f = tailOk x := by unfold base; rw [if_neg c, if_neg c2, if_pos c3']
  have hlen : (Txt.slice x (some 1) none).cps.toList.length ≤ 1000 := Nat.le_trans (Nat.le_of_eq (by simp [Str.length])) (Nat.le_trans (Txt.slice_le x (some 1) none) hx)
  refine comp_str (fun i acc H2 => H2 = H ∧ acc = ((Txt.slice x (some 1) none).cps.toList.take i).map fun c => V.bl (inS ⟨#[c]⟩ sof)) ⟨rfl, by simp⟩ (fun i c acc H2 hi hp => ?_) fun acc H2 hp p hn => ?_
  · obtain ⟨rfl, rfl⟩ := hp
    have hil : i < (Txt.slice x (some 1) none).cps.toList.length := (List.getElem?_eq_some_iff.mp hi).1
    refine ⟨sz1000' (by rw [List.length_map, List.length_take]; omega), ?_⟩
    simp only [slotsC, List.replicate_succ, List.replicate_zero, List.map_nil, List.nil_append, List.cons_append]
    walk_at ""
    refine ⟨trivial, ?_⟩
    rw [List.take_add_one, hi]
    simp [sof]
  · obtain ⟨rfl, rfl⟩ := hp
    walk_at ""
    refine ⟨(Txt.slice x (some 1) none).cps.toList.map fun c => inS ⟨#[c]⟩ sof, SqL.of (by rw [upd_same, List.take_of_length_le (Nat.le_refl _), List.map_map]; rfl), ?_⟩
    have q := k _ (same_new hn (.lst (((Txt.slice x (some 1) none).cps.toList.take (Txt.slice x (some 1) none).cps.toList.length).map fun c => V.bl (inS ⟨#[c]⟩ sof))))
    rw [hb] at q
    have e : ((Txt.slice x (some 1) none).cps.toList.map fun c => inS ⟨#[c]⟩ sof).all id = tailOk x := by unfold tailOk; rw [List.all_map]; rfl
    rw [e]
    exact q
theorem ok_letter (T : Tx K mg D) : FnOk P w K mg base0 CX0 2 D.a_is_letter D.d_is_letter ["text"] (sp1 fun x => base x "ABCDEFGHIJKLMNOPQRSTUVWXYZ") := by
  have G_begins_and_goes_on := ok_begins (P := P) (w := w) (base0 := base0) T
  refine T.F_is_letter.ok sc_is_letter (fun vs H Q E h => ?_) (fun cdv A outer s H vs Q E hr h => ?_)
  · obtain ⟨x, rfl, _⟩ := h; rfl
  obtain ⟨x, rfl, hx, k⟩ := h
  have hu := hr.units
  have hr_begins_and_goes_on : Room 1 _ := hr.mono (by decide)
  refine ⟨_, (pss_one (ps_ret (pe_call G_begins_and_goes_on hr_begins_and_goes_on (by rfl) T.m_begins_and_goes_on T.F_begins_and_goes_on.kp T.b_begins_and_goes_on .nil pass0 (pa_cons (pv 0) (pa_cons (T.g_GREAT (by rfl)) pa_nil))))), ?_⟩
  walk_at "S"
  walk_at ""
  exact ⟨x, _, rfl, hx, k⟩
def spFree3 (K : PySem.W.Frag) : Sp := fun vs H Q _ => ∃ v S, vs = [v] ∧ RepS K H S v ∧ StOk 10 S ∧ ∀ p H', Same H H' → SqT K H' p [] → Q (.ref p) H'
theorem not_letter {y : Str} (h : Nm smallS y) : base y "ABCDEFGHIJKLMNOPQRSTUVWXYZ" = false := by
  obtain ⟨c, r, e, h1, _⟩ := h
  have hc : ∀ c ∈ smallS.cps.toList, inS ⟨#[c]⟩ "ABCDEFGHIJKLMNOPQRSTUVWXYZ" = false := by decide +kernel
  unfold base
  rw [show y.cps.toList.headD 0 = c by rw [e]; rfl, hc c h1]
  split
  · rfl
  · split <;> rfl
theorem ok_free_in (T : Tx K mg D) : FnOk P w K mg base0 CX0 20 D.a_free_in D.d_free_in ["A"] (spFree3 K) := by
  have G_is_letter := ok_letter (P := P) (w := w) (base0 := base0) T
  have G_free_terms_in := ok_free_terms_in (P := P) (w := w) (base0 := base0) T 10
  refine T.F_free_in.ok sc_free_in (fun vs H Q E h => ?_) (fun cdv A outer s H vs Q E hr h => ?_)
  · obtain ⟨v, S, rfl, _⟩ := h; rfl
  obtain ⟨v, S, rfl, rS, oS, k⟩ := h
  have hu := hr.units
  have hr_is_letter : Room 2 _ := hr.mono (by decide)
  have hr_free_terms_in : Room 12 _ := hr.mono (by decide)
  refine ⟨_, (pss_one (ps_ret (pe_callTy (callA_tuple K) (by rfl) T.z_tuple (by rfl) (pa_cons (pe_callB (callA_sorted P w K (by rfl)) (by rfl) T.z_sorted (by rfl) (pa_cons (pe_callTy (callA_set P w K (by rfl)) (by rfl) T.z_set (by rfl) (pa_cons (pe_comp 1 [] ["term"] ⟨by rfl, by rfl, by rfl, by rfl, by rfl, by rfl, by rfl⟩ (by rfl) (pi_any K (pe_call G_free_terms_in hr_free_terms_in (by rfl) T.m_free_terms_in T.F_free_terms_in.kp T.b_free_terms_in .nil pass0 (pa_cons (pv 0) pa_nil))) (fun _ _ _ _ => pg_name (i := 0) (show List.Nodup (["term"] : List Str) by decide +kernel) (by rfl) (Or.inl (by rfl)) (Or.inr (by rfl))) (gName_keep (by decide)) (fun _ _ _ _ => pif_one (pt_val (pe_call G_is_letter hr_is_letter (by rfl) T.m_is_letter T.F_is_letter.kp T.b_is_letter .nil pass0 (pa_cons (pv 0) pa_nil)))) (fun _ _ _ _ => (pv 0))) pa_nil)) pa_nil)) pa_nil)))), ?_⟩
  walk_at "S"
  walk_at ""
  refine ⟨v, S, rfl, rS, oS.1, oS.2.1, by decide, fun p H1 s1 hp => ?_⟩
  (try walk_at "")
  refine .inl ⟨⟨_, SqL.of hp⟩, comp_list (xs := S.fts.map V.str) (fun i acc H2 => Same H1 H2 ∧ acc = []) ⟨Same.refl _, rfl⟩ (fun i acc H2 _ hv => SqL.of (hv.1 _ _ hp)) (fun i x acc H2 hx hv => ?_) fun acc H2 hv p2 h2 => ?_⟩
  · obtain ⟨s2, rfl⟩ := hv
    rw [List.getElem?_map] at hx
    cases e : S.fts[i]? with
    | none => rw [e] at hx; cases hx
    | some y =>
      rw [e] at hx
      cases hx
      have hy := oS.2.2 y (List.mem_of_getElem? e)
      have hy8 := hy.len.1
      refine ⟨Nat.lt_of_le_of_lt (Nat.zero_le _) (show 0 < sizeLine by decide), ?_⟩
      simp only [slotsC, List.replicate_succ, List.replicate_zero, List.map_cons, List.map_nil, List.nil_append, List.cons_append, List.getElem?_cons_zero, List.getElem?_cons_succ, Option.join_some]
      walk_at ""
      refine ⟨y, rfl, by omega, fun H3 s3 => ?_⟩
      show ∃ k, V.bl (base y "ABCDEFGHIJKLMNOPQRSTUVWXYZ") = V.bl k ∧ _
      rw [not_letter hy]
      exact ⟨false, rfl, s2.trans s3, trivial⟩
  · obtain ⟨s2, rfl⟩ := hv
    (try walk_at "")
    refine ⟨[], SqL.of upd_same, by decide, fun So us h3 _ hl _ => ?_⟩
    have hus : us = [] := List.length_eq_zero_iff.mp (by simpa using hl)
    subst hus
    (try walk_at "")
    refine ⟨[], .inl upd_same, by decide, fun l vs h4 _ hperm => ?_⟩
    have hvs : vs = [] := hperm.eq_nil
    subst hvs
    (try walk_at "")
    refine ⟨_, .inl ⟨SqL.of upd_same, fun l2 h5 => k l2 _ ((s1.trans s2).trans (((same_new h2 _).trans (same_new h3 _)).trans ((same_new h4 _).trans (same_new h5 _)))) (SqT.of upd_same)⟩⟩
end
section
variable {P : Program} {w : World} {K : PySem.W.Frag} {mg : Str → Option Value} {base0 : Heap} {D : Defs}
def spFits3 (K : PySem.W.Frag) : Sp := fun vs H Q _ => ∃ v S ru, vs = [v, .str ru] ∧ RepS K H S v ∧ StOk 10 S ∧ ru ≠ "new" ∧ ∀ H', Same H H' → Q (.bl true) H'
theorem ok_fits_its_rule (T : Tx K mg D) : FnOk P w K mg base0 CX0 21 D.a_fits_its_rule D.d_fits_its_rule ["statement", "rule"] (spFits3 K) := by
  have G_free_in := ok_free_in (P := P) (w := w) (base0 := base0) T
  refine T.F_fits_its_rule.ok sc_fits_its_rule (fun vs H Q E h => ?_) (fun cdv A outer s H vs Q E hr h => ?_)
  · obtain ⟨v, S, ru, rfl, _⟩ := h; rfl
  obtain ⟨v, S, ru, rfl, rS, oS, hn, k⟩ := h
  have hu := hr.units
  have hr_free_in : Room 20 _ := hr.mono (by decide)
  refine ⟨_, (pss_cons (ps_if (PW.pt (pw_or (pt_cmpR (opB_eq K hu) (pv 1) pe_str (nomark _)) (pw_or1 (pt_cmp (pc_isN (pv 0)))))) (pss_one (ps_ret (pe_and (pe_cmpR (opB_eq K hu) (pv 1) pe_str (nomark _)) (pe_one (pe_cmp (pc_isN (pv 0))))))) pss_nil)
    (pss_one (ps_ret (pe_cmpR (opB_eq K hu) (pe_callB (callA_len K) (by rfl) T.z_len PySem.boot_len (pa_cons (pe_call G_free_in hr_free_in (by rfl) T.m_free_in T.F_free_in.kp T.b_free_in .nil pass0 (pa_cons (pv 0) pa_nil)) pa_nil)) pe_int (nomark _))))), ?_⟩
  walk_at "S"
  obtain ⟨a, xs0, rfl, h2⟩ := rS.tag
  walk_at ""
  rw [if_neg hn, if_neg (by intro h; cases h)]
  refine ⟨_, S, rfl, rS, oS, fun p H1 s1 hp => ?_⟩
  (try walk_at "")
  refine ⟨_, .inr hp, ?_⟩
  (try walk_at "")
  exact k H1 s1
end
section
variable {P : Program} {w : World} {K : PySem.W.Frag} {mg : Str → Option Value} {base0 : Heap} {D : Defs}
inductive Rf
  | n (i : Int)
  | s (t : Str)
def Rf.v : Rf → V
  | .n i => .int i
  | .s t => .str t
structure Ln where
  (lev : Int) (ru : Str) (st : Stm) (rs : List Rf)
def RepN (K : PySem.W.Frag) (H : Hp) (L : Ln) (v : V) : Prop := ∃ a x b, v = .ref a ∧ SqT K H a [.int L.lev, .str L.ru, x, .ref b] ∧ RepS K H L.st x ∧ SqT K H b (L.rs.map Rf.v)
theorem RepN.same {H H' : Hp} {L : Ln} {v : V} (e : Same H H') (h : RepN K H L v) : RepN K H' L v := let ⟨a, x, b, h1, h2, h3, h4⟩ := h; ⟨a, x, b, h1, e.seqT h2, h3.same e, e.seqT h4⟩
theorem RepN.keepL {H : Hp} {p : Addr} {ys zs : List V} {L : Ln} {v : V} (hp : H p = some (.lst ys)) (h : RepN K H L v) : RepN K (upd H p (.lst zs)) L v := let ⟨a, x, b, h1, h2, h3, h4⟩ := h; ⟨a, x, b, h1, h2.keepL hp, h3.keepL hp, h4.keepL hp⟩
def spStOf (K : PySem.W.Frag) : Sp := fun vs H Q _ => ∃ v L, vs = [v] ∧ RepN K H L v ∧ L.ru ≠ "new" ∧ ∀ x, RepS K H L.st x → Q x H
theorem ok_statement_of (T : Tx K mg D) : FnOk P w K mg base0 CX0 1 D.a_statement_of D.d_statement_of ["line"] (spStOf K) := by
  refine T.F_statement_of.ok sc_statement_of (fun vs H Q E h => ?_) (fun cdv A outer s H vs Q E hr h => ?_)
  · obtain ⟨v, L, rfl, _⟩ := h; rfl
  obtain ⟨v, L, rfl, rL, hn, k⟩ := h
  have hu := hr.units
  refine ⟨_, (pss_one (ps_ret (pe_ifExp (pt_cmpR (opB_eq K hu) (pe_ix (ixA K) (pv 0) pe_int (fun _ _ => rfl)) pe_str (nomark _)) pe_non (pe_ix (ixA K) (pv 0) pe_int (fun _ _ => rfl))))), ?_⟩
  walk_at "S"
  obtain ⟨a, x, b, rfl, h1, h2, h3⟩ := rL
  walk_at ""
  refine ⟨_, .inr h1, _, atI_nat (j := 1) rfl, ?_⟩
  (try walk_at "")
  rw [if_neg hn]
  exact ⟨_, .inr h1, _, atI_nat (j := 2) rfl, k _ h2⟩
def numA (R : Rf) (k : Int) : Bool := match R with
  | .n i => decide (0 ≤ i) && decide (i < k)
  | .s _ => false
def spAheadN : Sp := fun vs H Q _ => ∃ (R : Rf) (k : Int), vs = [R.v, .int k] ∧ Q (.bl (numA R k)) H
theorem ok_is_number_ahead (T : Tx K mg D) : FnOk P w K mg base0 CX0 1 D.a_is_number_ahead D.d_is_number_ahead ["ref", "k"] spAheadN := by
  refine T.F_is_number_ahead.ok sc_is_number_ahead (fun vs H Q E h => ?_) (fun cdv A outer s H vs Q E hr h => ?_)
  · obtain ⟨R, n, rfl, _⟩ := h; rfl
  obtain ⟨R, n, rfl, k⟩ := h
  have hu := hr.units
  refine ⟨_, (pss_one (ps_ret (pe_and (pe_callB (callB_inst K "int") (by rfl) T.z_isinstance (by rfl) (pa_cons (pv 0) (pa_cons (pe_bltn (v := .ty "int") (by rfl) T.z_int (by rfl) (by rfl)) pa_nil))) (pe_and (pe_not (pe_callB (callB_inst K "bool") (by rfl) T.z_isinstance (by rfl) (pa_cons (pv 0) (pa_cons (pe_bltn (v := .ty "bool") (by rfl) T.z_bool (by rfl) (by rfl)) pa_nil)))) (pe_and (pe_cmpR op_le pe_int (pv 0) (nomark _)) (pe_one (pe_cmpR opA_lt (pv 0) (pv 1) (nomark _)))))))), ?_⟩
  walk_at "S"
  cases R with
  | n r =>
    simp only [Rf.v]
    walk_at ""
    refine ⟨true, rfl, ?_⟩
    rw [if_pos rfl]
    refine ⟨false, rfl, ?_⟩
    rw [if_pos rfl]
    by_cases h0 : 0 ≤ r
    · rw [if_pos h0]
      simpa [numA, h0] using k
    · rw [if_neg h0]
      simpa [numA, h0] using k
  | s t =>
    simp only [Rf.v]
    walk_at ""
    refine ⟨false, rfl, ?_⟩
    rw [if_neg (by decide)]
    exact k
end
section
variable {P : Program} {w : World} {K : PySem.W.Frag} {mg : Str → Option Value} {base0 : Heap} {D : Defs}
theorem ok_begins_with (T : Tx K mg D) : FnOk P w K mg base0 CX0 1 D.a_begins_with D.d_begins_with ["path", "beginning"] (spBegins K) := by
  refine T.F_begins_with.ok sc_begins_with (fun vs H Q E h => ?_) (fun cdv A outer s H vs Q E hr h => ?_)
  · obtain ⟨a, b, p, q, rfl, _⟩ := h; rfl
  obtain ⟨a, b, p, q, rfl, hp, hq, k⟩ := h
  have hu := hr.units
  refine ⟨_, (pss_one (ps_ret (pe_cmpR (opC_eq K hu) (pe_slice (slB K) (pv 0) po_none (po_some (pe_callB (callA_len K) (by rfl) T.z_len PySem.boot_len (pa_cons (pv 1) pa_nil)))) (pv 1) (nomark _)))), ?_⟩
  walk_at "S"
  walk_at ""
  refine ⟨_, .inr hq, _, .inr ⟨hp, fun c H' s1 h1 => ?_⟩⟩
  rw [iv_len, cut_to, iv_take] at h1
  refine ⟨_, _, iv_repD h1, iv_repD (s1.seqT hq), idt_dep _, ?_⟩
  rw [idt_dec]
  exact k _ s1
theorem ok_seen (T : Tx K mg D) : FnOk P w K mg base0 CX0 2 D.a_seen D.d_seen ["paths", "k", "i"] (spSeen K) := by
  have G_begins_with := ok_begins_with (P := P) (w := w) (base0 := base0) T
  refine T.F_seen.ok sc_seen (fun vs H Q E h => ?_) (fun cdv A outer s H vs Q E hr h => ?_)
  · obtain ⟨a, us, f, n, i, rfl, _⟩ := h; rfl
  obtain ⟨a, us, f, n, i, rfl, hA, hP, hn, hi, k⟩ := h
  have hu := hr.units
  have hr_begins_with : Room 1 _ := hr.mono (by decide)
  refine ⟨_, (pss_one (ps_ret (pe_and (pe_cmpR opA_lt (pv 2) (pv 1) (nomark _)) (pe_one (pe_call G_begins_with hr_begins_with (by rfl) T.m_begins_with T.F_begins_with.kp T.b_begins_with .nil pass0 (pa_cons (pe_ix (ixA K) (pv 0) (pv 1) (fun _ _ => rfl)) (pa_cons (pe_ix (ixA K) (pv 0) (pv 2) (fun _ _ => rfl)) pa_nil))))))), ?_⟩
  walk_at "S"
  walk_at ""
  obtain ⟨b1, e1, h1⟩ := hP.at hn
  obtain ⟨b2, e2, h2⟩ := hP.at hi
  refine ite2 (fun c => ?_) fun c => ?_
  · refine ⟨_, .inr hA, _, atI_nat e1, _, .inr hA, _, atI_nat e2, b1, b2, _, _, rfl, h1, h2, fun H' s' => ?_⟩
    have := k H' s'
    rw [decide_eq_true (show i < n by omega), Bool.true_and] at this
    exact this
  · have := k H (Same.refl H)
    rw [decide_eq_false (show ¬ i < n by omega), Bool.false_and] at this
    exact this
end
section
variable {P : Program} {w : World} {K : PySem.W.Frag} {mg : Str → Option Value} {base0 : Heap} {D : Defs}
def RepNs (K : PySem.W.Frag) (H : Hp) (L : Nat → Ln) (ls : List V) : Prop := ∀ i v, ls[i]? = some v → RepN K H (L i) v
theorem RepNs.same {H H' : Hp} {L : Nat → Ln} {ls : List V} (e : Same H H') (h : RepNs K H L ls) : RepNs K H' L ls := fun i v hv => (h i v hv).same e
def seenB (f : Nat → List Nat) (n r : Nat) : Bool := decide (r < n) && decide ((f n).take (f r).length = f r)
def tk (f : Nat → List Nat) (n : Nat) (R : Rf) : Option Nat := match R with
  | .n i => if 0 ≤ i ∧ i < n ∧ seenB f n i.toNat = true then some i.toNat else none
  | .s _ => none
theorem tk_lt {f : Nat → List Nat} {n r : Nat} {R : Rf} (h : tk f n R = some r) : r < n := by
  cases R with
  | n i =>
    simp only [tk] at h
    split at h
    · cases h; omega
    · cases h
  | s t => cases h
def spStands (K : PySem.W.Frag) : Sp := fun vs H Q _ => ∃ (R : Rf) (n : Nat) (la pa : Addr) (ls us : List V) (L : Nat → Ln) (f : Nat → List Nat), vs = [.str "line", R.v, .ref la, .ref pa, .int n] ∧ SqT K H la ls ∧ RepNs K H L ls ∧ SqT K H pa us ∧ RepPs K H f us ∧
  n < us.length ∧ ls.length = us.length ∧ (∀ i, i < n → (L i).ru ≠ "new") ∧ ∀ H', Same H H' → (∀ r, tk f n R = some r → ∀ x, RepS K H' (L r).st x → Q x H') ∧ (tk f n R = none → Q .non H')
theorem ok_stands_for (T : Tx K mg D) : FnOk P w K mg base0 CX0 4 D.a_stands_for D.d_stands_for ["want", "ref", "lines", "paths", "k"] (spStands K) := by
  have G_seen := ok_seen (P := P) (w := w) (base0 := base0) T
  have G_statement_of := ok_statement_of (P := P) (w := w) (base0 := base0) T
  have G_is_number_ahead := ok_is_number_ahead (P := P) (w := w) (base0 := base0) T
  refine T.F_stands_for.ok sc_stands_for (fun vs H Q E h => ?_) (fun cdv A outer s H vs Q E hr h => ?_)
  · obtain ⟨R, n, la, pa, ls, us, L, f, rfl, _⟩ := h; rfl
  obtain ⟨R, n, la, pa, ls, us, L, f, rfl, hla, hL, hpa, hP, hn, hlu, hnew, k⟩ := h
  have hu := hr.units
  have hr_seen : Room 2 _ := hr.mono (by decide)
  have hr_statement_of : Room 1 _ := hr.mono (by decide)
  have hr_is_number_ahead : Room 1 _ := hr.mono (by decide)
  refine ⟨_, (pss_cons (ps_if (pt_cmpR (opB_eq K hu) (pv 0) pe_str (nomark _)) (pss_one ps_never) pss_nil)
    (pss_cons (ps_if (pt_not (pt_val (pe_call G_is_number_ahead hr_is_number_ahead (by rfl) T.m_is_number_ahead T.F_is_number_ahead.kp T.b_is_number_ahead .nil pass0 (pa_cons (pv 1) (pa_cons (pv 4) pa_nil))))) (pss_one (ps_ret pe_non)) pss_nil)
    (pss_cons (ps_if (pt_cmpR (opB_eq K hu) (pv 0) pe_str (nomark _)) (pss_one (ps_ret (pe_ifExp (pt_val (pe_call G_seen hr_seen (by rfl) T.m_seen T.F_seen.kp T.b_seen .nil pass0 (pa_cons (pv 3) (pa_cons (pv 4) (pa_cons (pv 1) pa_nil))))) (pe_call G_statement_of hr_statement_of (by rfl) T.m_statement_of T.F_statement_of.kp T.b_statement_of .nil pass0 (pa_cons (pe_ix (ixA K) (pv 2) (pv 1) (fun _ _ => rfl)) pa_nil)) pe_non))) pss_nil)
    (pss_one ps_never)))), ?_⟩
  walk_at "S"
  walk_at ""
  rw [if_neg (by decide +kernel)]
  refine ⟨R, n, rfl, _, rfl, ?_⟩
  refine ite2 (fun c0 => ?_) fun c0 => ?_
  · refine (k H (Same.refl H)).2 ?_
    cases R with
    | n i =>
      have c1 : ¬ (0 ≤ i ∧ i < (n : Int)) := by simpa [numA] using c0
      show (if _ then _ else _) = _
      rw [if_neg fun z => c1 ⟨z.1, z.2.1⟩]
    | s t => rfl
  obtain ⟨r, rfl, hrn⟩ : ∃ r : Nat, R = .n r ∧ r < n := by
    cases R with
    | n i =>
      have c1 : 0 ≤ i ∧ i < (n : Int) := by simpa [numA] using c0
      exact ⟨i.toNat, by rw [show ((i.toNat : Nat) : Int) = i by omega], by omega⟩
    | s t => simp [numA] at c0
  have et : tk f n (.n (r : Int)) = if seenB f n r = true then some r else none := by
    show (if _ then _ else _) = _
    by_cases c : seenB f n r = true
    · rw [if_pos ⟨by omega, by omega, by simpa using c⟩, if_pos c]; simp
    · rw [if_neg fun z => c (by simpa using z.2.2), if_neg c]
  simp only [Rf.v]
  (try walk_at "")
  refine ⟨pa, us, f, n, r, rfl, hpa, hP, hn, by omega, fun H' s' => ⟨_, rfl, ?_⟩⟩
  have kk := k H' s'
  rw [et] at kk
  refine ite2 (fun c => ?_) fun c => kk.2 (by rw [if_neg (by simpa [seenB] using c)])
  have hrl : r < ls.length := by omega
  have rL := (hL r ls[r] (by simp [hrl])).same s'
  exact ⟨_, .inr (s'.seqT hla), _, atI_nat (List.getElem?_eq_getElem hrl), _, L r, rfl, rL, hnew r hrn, fun x rx => kk.1 r (by rw [if_pos (show seenB f n r = true from c)]) x rx⟩
end
section
variable {P : Program} {w : World} {K : PySem.W.Frag} {mg : Str → Option Value} {base0 : Heap} {D : Defs}
def spBy (K : PySem.W.Frag) (n : Nat) (f : Stm → List Stm → Bool) : Sp := fun vs H Q _ => ∃ v S p us Ts, vs = [v, .ref p] ∧ RepS K H S v ∧ SqL K H p us ∧ RepL K H Ts us ∧ Ts.length = n ∧ S.deep ≤ 10 ∧ (∀ T ∈ Ts, T.deep ≤ 10) ∧ ∀ H', Same H H' → Q (.bl (f S Ts)) H'
def fAgain (S : Stm) : List Stm → Bool
  | [A] => decide (S = A) | _ => false
theorem RepL.one {H : Hp} {Ts : List Stm} {us : List V} (h : RepL K H Ts us) (hn : Ts.length = 1) : ∃ A u, Ts = [A] ∧ us = [u] ∧ RepS K H A u := by
  match Ts, us, h, hn with
  | [A], [u], .cons a .nil, _ => exact ⟨A, u, rfl, rfl, a⟩
theorem ok_by_again (T : Tx K mg D) : FnOk P w K mg base0 CX0 1 D.a_by_again D.d_by_again ["S", "taken"] (spBy K 1 fAgain) := by
  refine T.F_by_again.ok sc_by_again (fun vs H Q E h => ?_) (fun cdv A outer s H vs Q E hr h => ?_)
  · obtain ⟨v, S, p, us, Ts, rfl, _⟩ := h; rfl
  obtain ⟨v, S, p, us, Ts, rfl, rS, hp, hR, hn, hd, hdT, k⟩ := h
  have hu := hr.units
  refine ⟨_, (pss_one (ps_ret (pe_cmpR (opC_eq K hu) (pv 0) (pe_ix (ixA K) (pv 1) pe_int (fun _ _ => rfl)) (nomark _)))), ?_⟩
  walk_at "S"
  obtain ⟨A, u, rfl, rfl, rA⟩ := RepL.one hR hn
  obtain ⟨a, xs0, rfl, h2⟩ := rS.tag
  walk_at ""
  refine ⟨_, .inl hp, _, atI_nat (j := 0) rfl, S.dt, A.dt, rS.repD, rA.repD, Nat.le_trans (Stm.dep_dt S) (by omega), ?_⟩
  rw [Stm.dt_dec]
  exact k _ (Same.refl _)
def spFollowsBy (P : Program) (w : World) (K : PySem.W.Frag) (mg : Str → Option Value) (base0 : Heap) : Sp := fun vs H Q _ => ∃ (m : Nat) (g : Stm → List Stm → Bool) (n : Nat) (ra wa fa la pa : Addr) (fd : FuncData) (ls us : List V) (L : Nat → Ln) (f : Nat → List Nat) (rs : List Rf), vs = [.ref ra, .ref la, .ref pa, .int n] ∧
  SqT K H ra [.ref wa, .ref fa] ∧ SqT K H wa (List.replicate m (.str "line")) ∧ FnOk P w K mg base0 CX0 1 fa fd ["S", "taken"] (spBy K m g) ∧ PySem.W.keepIn K (.ref fa) = true ∧ Binds K fd ["S", "taken"] [] ∧ m ≤ 10 ∧
  SqT K H la ls ∧ RepNs K H L ls ∧ SqT K H pa us ∧ RepPs K H f us ∧ n < us.length ∧ ls.length = us.length ∧ (L n).rs = rs ∧ rs.length ≤ 10 ∧ (∀ i, i < n → (L i).ru ≠ "new") ∧ (∀ i, i ≤ n → (L i).st.deep ≤ 10) ∧
  ∀ H', Same H H' → Q (.bl (decide (rs.length = m) && (rs.all (fun R => (tk f n R).isSome) && g (L n).st (rs.map fun R => (L ((tk f n R).getD 0)).st)))) H'
theorem deps_le {k : Nat} : ∀ {l : List Dt}, (∀ d ∈ l, Dt.dep d ≤ k) → Dt.deps l ≤ k
  | [], _ => Nat.zero_le _
  | a :: l, h => by
    have h1 := h a (by simp)
    have h2 := deps_le (l := l) fun d hd => h d (by simp [hd])
    simp only [Dt.deps]
    omega
theorem repL_of {H : Hp} : ∀ {Ss : List Stm} {us : List V}, Ss.length = us.length → (∀ (j : Nat) S v, Ss[j]? = some S → us[j]? = some v → RepS K H S v) → RepL K H Ss us
  | [], [], _, _ => .nil
  | S :: Ss, u :: us, hl, h => .cons (h 0 S u rfl rfl) (repL_of (by simpa using hl) fun j S v e1 e2 => h (j + 1) S v (by simpa using e1) (by simpa using e2))
  | [], _ :: _, hl, _ => by simp at hl
  | _ :: _, [], hl, _ => by simp at hl
def dtk (L : Nat → Ln) (f : Nat → List Nat) (n : Nat) (R : Rf) : Dt := match tk f n R with
  | some r => (L r).st.dt
  | none => .non
theorem none_all {L : Nat → Ln} {f : Nat → List Nat} {n : Nat} : ∀ rs : List Rf, (!decide (Dt.non ∈ rs.map (dtk L f n))) = rs.all (fun R => (tk f n R).isSome)
  | [] => rfl
  | R :: rs => by
    have ih := none_all (L := L) (f := f) (n := n) rs
    rw [List.all_cons, ← ih]
    have hd : ∀ S : Stm, Dt.non ≠ S.dt := fun S => by cases S <;> intro z <;> cases z
    cases hs : tk f n R with
    | some r => simp [dtk, hs, hd]
    | none => simp [dtk, hs]
theorem ok_follows_by (T : Tx K mg D) : FnOk P w K mg base0 CX0 6 D.a_follows_by D.d_follows_by ["wants_and_step", "lines", "paths", "k"] (spFollowsBy P w K mg base0) := by
  have G_stands_for := ok_stands_for (P := P) (w := w) (base0 := base0) T
  refine T.F_follows_by.ok sc_follows_by (fun vs H Q E h => ?_) (fun cdv A outer s H vs Q E hr h => ?_)
  · obtain ⟨m, g, n, ra, wa, fa, la, pa, fd, ls, us, L, f, rs, rfl, _⟩ := h; rfl
  obtain ⟨m, g, n, ra, wa, fa, la, pa, fd, ls, us, L, f, rs, rfl, hra, hwa, hF, hkp, hB, hm, hla, hL, hpa, hP, hn, hlu, hrs, hrl, hrr, hdp, k⟩ := h
  have hu := hr.units
  have hr_stands_for : Room 4 _ := hr.mono (by decide)
  have hr1 : Room 1 _ := hr.mono (by decide)
  refine ⟨_, (pss_cons (ps_set (i := 4) sc_follows_by.nd (by rfl) (by walk_at "o") (pe_ix (ixA K) (pv 0) pe_int (fun _ _ => rfl)))
    (pss_cons (ps_set (i := 5) sc_follows_by.nd (by rfl) (by walk_at "o") (pe_ix (ixA K) (pv 0) pe_int (fun _ _ => rfl)))
    (pss_cons (ps_set (i := 6) sc_follows_by.nd (by rfl) (by walk_at "o") (pe_ix (ixA K) (pe_ix (ixA K) (pv 1) (pv 3) (fun _ _ => rfl)) pe_int (fun _ _ => rfl)))
    (pss_cons (ps_if (pt_cmpR (opC_ne K hu) (pe_callB (callA_len K) (by rfl) T.z_len PySem.boot_len (pa_cons (pv 6) pa_nil)) (pe_callB (callA_len K) (by rfl) T.z_len PySem.boot_len (pa_cons (pv 4) pa_nil)) (nomark _)) (pss_one (ps_ret pe_bl)) pss_nil)
    (pss_cons (ps_setComp (i := 7) 2 [1, 2, 3] ["want", "ref", "lines", "paths", "k"] sc_follows_by.nd (by rfl) (by rfl) ⟨by rfl, by rfl, by rfl, by rfl, by rfl, by rfl, by rfl⟩ (by rfl) (pi_zip K (by rfl) T.z_zip (pa_cons (pv 4) (pa_cons (pv 6) pa_nil))) (fun _ _ _ _ => pg_tup (by rfl) (pgs_cons (pg_name (i := 0) (show List.Nodup (["want", "ref", "lines", "paths", "k"] : List Str) by decide +kernel) (by rfl) (Or.inl (by rfl)) (Or.inr (by rfl))) (pgs_cons (pg_name (i := 1) (show List.Nodup (["want", "ref", "lines", "paths", "k"] : List Str) by decide +kernel) (by rfl) (Or.inl (by rfl)) (Or.inr (by rfl))) pgs_nil))) (gTup2_keep (by decide)) (fun _ _ _ _ => pif_nil) (fun _ _ _ _ => (pe_call G_stands_for hr_stands_for (by rfl) T.m_stands_for T.F_stands_for.kp T.b_stands_for .nil pass0 (pa_cons (pv 0) (pa_cons (pv 1) (pa_cons (pv 2) (pa_cons (pv 3) (pa_cons (pv 4) pa_nil))))))))
    (pss_one (ps_ret (pe_and (pe_cmpR (opC_notin K hu) pe_non (pv 7) (by rfl)) (pe_one (pe_callV (pv 5) (pa_cons (pe_ix (ixA K) (pe_ix (ixA K) (pv 1) (pv 3) (fun _ _ => rfl)) pe_int (fun _ _ => rfl)) (pa_cons (pv 7) pa_nil)))))))))))), ?_⟩
  walk_at "S"
  have hnl : n < ls.length := by omega
  obtain ⟨a, x, b, ea, h2, rx, h4⟩ := hL n ls[n] (by simp [hnl])
  have eat : atI ls (n : Int) = some (.ref a) := by rw [← ea]; exact atI_nat (List.getElem?_eq_getElem hnl)
  rw [hrs] at h4
  rw [w_seq, w_asg]
  simp only [↓w_op, ↓w_v0, ↓w_v1, ↓w_v3, ↓w_c, ↓w_ixR, ↓w_gName, ↓List.set_cons_zero, ↓List.set_cons_succ]
  refine ⟨_, .inr hra, _, atI_nat (j := 0) rfl, ?_⟩
  rw [w_seq, w_asg]
  simp only [↓w_op, ↓w_v0, ↓w_v1, ↓w_v3, ↓w_c, ↓w_ixR, ↓w_gName, ↓List.set_cons_zero, ↓List.set_cons_succ]
  refine ⟨_, .inr hra, _, atI_nat (j := 1) rfl, ?_⟩
  rw [w_seq, w_asg]
  simp only [↓w_op, ↓w_v0, ↓w_v1, ↓w_v3, ↓w_c, ↓w_ixR, ↓w_gName, ↓List.set_cons_zero, ↓List.set_cons_succ]
  refine ⟨_, .inr hla, _, eat, ?_⟩
  rw [w_ixR]
  refine ⟨_, .inr h2, _, atI_nat (j := 3) rfl, ?_⟩
  refine seq_ifP (c := ¬ rs.length = m) (fun Qb q => ?_) (fun c1 => ?_) fun c1 => ?_
  · walk_at ""
    refine ⟨_, .inr h4, _, .inr hwa, ?_⟩
    rw [List.length_map, List.length_replicate]
    have e : (!decide ((rs.length : Int) = (m : Int))) = decide (¬ rs.length = m) := by
      by_cases h : rs.length = m
      · simp [h]
      · have h' : ¬ (rs.length : Int) = (m : Int) := by omega
        simp [h, h']
    rw [e]
    exact q
  · walk_at ""
    have kk := k _ (Same.refl _)
    rw [decide_eq_false c1, Bool.false_and] at kk
    exact kk
  · walk_at ""
    have hlm : rs.length = m := Classical.byContradiction c1
    refine ⟨wa, b, rfl, ⟨_, hwa⟩, ⟨_, h4⟩, comp_zip (xs := List.replicate m (V.str "line")) (ys := rs.map Rf.v) (by rw [List.length_map, List.length_replicate, hlm])
      (fun i acc H2 => Same H H2 ∧ acc.length = i ∧ ∀ j v r, acc[j]? = some v → rs[j]? = some r → (∀ m, tk f n r = some m → RepS K H2 (L m).st v) ∧ (tk f n r = none → v = .non)) ⟨Same.refl _, rfl, fun j v r h => absurd h (by rw [List.getElem?_nil]; intro z; cases z)⟩ (fun i acc H2 _ hv => ⟨hv.1.seqT hwa, hv.1.seqT h4⟩) (fun i x y acc H2 t hx hy ht hv => ?_) (fun acc H2 hv p hp => ?_) fun i acc H2 hi hv => ?_⟩
    · obtain ⟨s2, hlen, hacc⟩ := hv
      obtain ⟨hi, rfl⟩ : i < m ∧ V.str "line" = x := by
        obtain ⟨h1, h2⟩ := List.getElem?_eq_some_iff.mp hx
        rw [List.length_replicate] at h1
        exact ⟨h1, by rw [← h2]; simp⟩
      rw [List.getElem?_map] at hy
      cases er : rs[i]? with
      | none => rw [er] at hy; cases hy
      | some r =>
        rw [er] at hy
        cases hy
        refine ⟨sz1000' (by omega), ?_⟩
        simp only [slotsC, List.replicate_succ, List.replicate_zero, List.map_cons, List.map_nil, List.nil_append, List.cons_append, List.getElem?_cons_zero, List.getElem?_cons_succ, Option.join_some]
        have sq := same_new ht (.tup [V.str "line", r.v])
        walk_at ""
        have hrm := List.mem_of_getElem? er
        have push : ∀ (y : V) (H4 : Hp), Same H2 H4 → ((∀ m, tk f n r = some m → RepS K H4 (L m).st y) ∧ (tk f n r = none → y = .non)) → Same H H4 ∧ (acc ++ [y]).length = i + 1 ∧ ∀ j v r', (acc ++ [y])[j]? = some v → rs[j]? = some r' → (∀ m, tk f n r' = some m → RepS K H4 (L m).st v) ∧ (tk f n r' = none → v = .non) := fun y H4 s4 hy => by
          refine ⟨s2.trans s4, by rw [List.length_append, hlen]; rfl, fun j v r' hj hr' => ?_⟩
          by_cases hlt : j < acc.length
          · rw [List.getElem?_append_left hlt] at hj
            have h := hacc j v r' hj hr'
            exact ⟨fun m c => (h.1 m c).same s4, h.2⟩
          · have hj' : j < (acc ++ [y]).length := (List.getElem?_eq_some_iff.mp hj).1
            rw [List.length_append, List.length_singleton] at hj'
            have ej : j = acc.length := by omega
            subst ej
            rw [List.getElem?_append_right (Nat.le_refl _), Nat.sub_self] at hj
            cases hj
            rw [hlen, er] at hr'
            cases hr'
            exact hy
        refine ⟨_, SqT.of upd_same, rfl, _, _, rfl, _, _, rfl, rfl, ?_⟩
        simp only [List.set_cons_zero, List.set_cons_succ]
        (try walk_at "")
        have s3 := s2.trans sq
        refine ⟨r, n, la, pa, ls, us, L, f, rfl, s3.seqT hla, RepNs.same s3 hL, s3.seqT hpa, hP.same s3, hn, hlu, hrr, fun H' s' => ⟨fun m c x rx => push x H' (sq.trans s') ⟨fun m' c' => (by rw [c] at c'; cases c'; exact rx), fun c' => (by rw [c] at c'; cases c')⟩, fun c => push .non H' (sq.trans s') ⟨fun m' c' => (by rw [c] at c'; cases c'), fun _ => rfl⟩⟩⟩
    · obtain ⟨s2, hlen, hacc⟩ := hv
      have s4 := s2.trans (same_new hp (.lst acc))
      rw [List.length_replicate] at hlen
      have hl2 : ∀ d ∈ (rs.map (dtk L f n)), Dt.dep d ≤ 60 := fun d hd => by
        obtain ⟨r, hr', rfl⟩ := List.mem_map.mp hd
        unfold dtk
        split
        · rename_i m hm'
          exact Nat.le_trans (Stm.dep_dt _) (by have := hdp m (Nat.le_of_lt (tk_lt hm')); omega)
        · exact Nat.zero_le _
      refine .inr ⟨.non, rs.map (dtk L f n), .non, .inr (RepD.lst (SqL.of upd_same) (by rw [List.length_map, hlen, hlm]) fun j d v e1 e2 => ?_), deps_le hl2, _, rfl, ?_⟩
      · rw [List.getElem?_map] at e1
        cases er : rs[j]? with
        | none => rw [er] at e1; cases e1
        | some r =>
          rw [er] at e1
          cases e1
          have h := hacc j v r e2 er
          show RepD K _ (dtk L f n r) v
          unfold dtk
          cases hs : tk f n r with
          | some m => exact ((h.1 m hs).same (same_new hp _)).repD
          | none => rw [h.2 hs]; exact .non
      · have e : (!decide (Dt.non ∈ rs.map (dtk L f n))) = rs.all (fun R => (tk f n R).isSome) := none_all rs
        show if (!decide (Dt.non ∈ rs.map (dtk L f n))) = true then _ else _
        rw [e]
        refine ite2 (fun c => ?_) fun c => ?_
        · refine ⟨fa, CX0, 1, fd, ["S", "taken"], spBy K m g, [], [], E0, rfl, hF, hr1, hkp, hB, .nil, pass0, ?_⟩
          refine ⟨_, .inr (s4.seqT hla), _, eat, ?_⟩
          rw [w_ixR]
          refine ⟨_, .inr (s4.seqT h2), _, atI_nat (j := 2) rfl, x, (L n).st, p, acc, rs.map fun R => (L ((tk f n R).getD 0)).st, rfl, rx.same s4, SqL.of upd_same, repL_of (by rw [List.length_map, hlen, hlm]) (fun j S v e1 e2 => ?_), by rw [List.length_map, hlm], hdp n (Nat.le_refl _), fun S hS => ?_, fun H' s' => ?_⟩
          · rw [List.getElem?_map] at e1
            cases er : rs[j]? with
            | none => rw [er] at e1; cases e1
            | some r =>
              rw [er] at e1
              cases e1
              have hsm := List.all_eq_true.mp c r (List.mem_of_getElem? er)
              obtain ⟨m, hm'⟩ := Option.isSome_iff_exists.mp hsm
              show RepS K _ (L ((tk f n r).getD 0)).st v
              rw [hm']
              exact ((hacc j v r e2 er).1 m hm').same (same_new hp _)
          · obtain ⟨r, hr', rfl⟩ := List.mem_map.mp hS
            obtain ⟨m, hm'⟩ := Option.isSome_iff_exists.mp (List.all_eq_true.mp c r hr')
            show (L ((tk f n r).getD 0)).st.deep ≤ 10
            rw [hm']
            exact hdp m (Nat.le_of_lt (tk_lt hm'))
          · have kk := k H' (s4.trans s')
            rw [decide_eq_true hlm, Bool.true_and, c, Bool.true_and] at kk
            exact kk
        · have kk := k _ s4
          rw [Bool.eq_false_iff.mpr c, Bool.false_and, Bool.and_false] at kk
          exact kk
    · exact sz1000' (by rw [List.length_replicate] at hi; have := hv.2.1; omega)
end
section
variable {P : Program} {w : World} {K : PySem.W.Frag} {mg : Str → Option Value} {base0 : Heap} {D : Defs}
def aheadF (v : V) (d : Addr) : List (Str × V) := [("lines", v), ("givens", .int 0), ("named", .int 0), ("first_places", .ref d)]
def spAheadInit (D : Defs) : Sp := fun vs H Q _ => ∃ (r dx : Addr) (v : V), vs = [.ref r, v] ∧ H r = some (.ins D.C_Ahead dx []) ∧ ∀ H' d, H' r = some (.ins D.C_Ahead dx (aheadF v d)) → (∀ b u, b ≠ r → H b = some u → H' b = some u) → Q .non H'
theorem ok_Ahead_init (T : Tx K mg D) : FnOk P w K mg base0 CX0 1 D.a_Ahead_init D.d_Ahead_init ["self", "lines"] (spAheadInit D) := by
  refine T.F_Ahead_init.ok sc_Ahead_init (fun vs H Q E h => ?_) (fun cdv A outer s H vs Q E hr h => ?_)
  · obtain ⟨r, dx, v, rfl, _⟩ := h; rfl
  obtain ⟨r, dx, v, rfl, h1, k⟩ := h
  have hu := hr.units
  refine ⟨_, (pss_cons (ps_fld (pv 0) (pv 1) (by rfl))
    (pss_cons (ps_fld (pv 0) pe_int (by rfl))
    (pss_cons (ps_fld (pv 0) pe_int (by rfl))
    (pss_one (ps_fld (pv 0) pe_dnew (by rfl)))))), ?_⟩
  walk_at "S"
  walk_at ""
  refine ⟨r, _, dx, _, rfl, h1, T.cl_Ahead, T.n_Ahead_lines, by decide, ?_⟩
  (try walk_at "")
  refine ⟨r, _, dx, _, rfl, upd_same, T.cl_Ahead, T.n_Ahead_givens, by show 1 < 1000; decide, ?_⟩
  (try walk_at "")
  refine ⟨r, _, dx, _, rfl, upd_same, T.cl_Ahead, T.n_Ahead_named, by show 2 < 1000; decide, ?_⟩
  (try walk_at "")
  intro p hp
  simp only [upd_upd] at hp ⊢
  have nrp : r ≠ p := by rintro rfl; rw [upd_same] at hp; cases hp
  refine ⟨r, _, dx, _, rfl, by rw [upd_ne nrp, upd_same], T.cl_Ahead, T.n_Ahead_first_places, by show 3 < 1000; decide, ?_⟩
  refine k _ p (by rw [upd_same]; rfl) fun b u nb hb => ?_
  have nbp : b ≠ p := by rintro rfl; rw [upd_ne nb] at hp; rw [hb] at hp; cases hp
  rw [upd_ne nb, upd_ne nbp, upd_ne nb]
  exact hb
theorem sqtKeepI {H : Hp} {p q : Addr} {xs : List V} {C dx : Addr} {fs : List (Str × V)} {o : HO} (h : SqT K H q xs) (hp : H p = some (.ins C dx fs)) : SqT K (upd H p o) q xs := by
  rcases h with (h | ⟨o', h⟩) | h
  · exact .inl (.inl (by rw [upd_ne]; exact h; rintro rfl; rw [hp] at h; cases h))
  · exact .inl (.inr ⟨o', by rw [upd_ne]; exact h; rintro rfl; rw [hp] at h; cases h⟩)
  · exact .inr h
def aheadG (v : V) (d : Addr) (g : Nat) : List (Str × V) := [("lines", v), ("givens", .int g), ("named", .int 0), ("first_places", .ref d)]
def allG (L : Nat → Ln) (n : Nat) : Bool := (List.range n).all fun i => decide ((L i).ru = "given")
theorem allG_true {L : Nat → Ln} {n : Nat} (h : ∀ i, i < n → (L i).ru = "given") : allG L n = true := List.all_eq_true.mpr fun i hi => decide_eq_true (h i (List.mem_range.mp hi))
theorem allG_false {L : Nat → Ln} {n g : Nat} (hg : g < n) (h : ¬ (L g).ru = "given") : allG L n = false := by
  cases e : allG L n with
  | false => rfl
  | true => exact absurd (of_decide_eq_true (List.all_eq_true.mp e g (List.mem_range.mpr hg))) h
def spOnlyG (D : Defs) (K : PySem.W.Frag) : Sp := fun vs H Q _ => ∃ (r dx la : Addr) (d : Addr) (n : Nat) (ls : List V) (L : Nat → Ln), vs = [.ref r, .int n] ∧ H r = some (.ins D.C_Ahead dx (aheadF (.ref la) d)) ∧ SqT K H la ls ∧ RepNs K H L ls ∧ n ≤ ls.length ∧ ∀ g, Q (.bl (allG L n)) (upd H r (.ins D.C_Ahead dx (aheadG (.ref la) d g)))
theorem w_fldaug {ta tv : TE} {rd : V → V → Hp → VK → Prop} {f : Str} {D : Ends} {σ : St} {H : Hp} : sFldAug K ta tv rd f D σ H = (ta σ H fun x H1 => ∃ a C dx fs v, x = .ref a ∧ H1 a = some (.ins C dx fs) ∧ Cls K C ∧ NoAttr K C f ∧ fs.lookup f = some v ∧
  tv σ H1 fun y H2 => rd v y H2 fun z H3 => ∃ dx' fs', H3 a = some (.ins C dx' fs') ∧ fs'.length < 1000 ∧ D.nx σ (upd H3 a (.ins C dx' (putF f z fs')))) := rfl
theorem upd_id {H : Hp} {p : Addr} {o : HO} (h : H p = some o) : upd H p o = H := by
  funext b
  by_cases e : b = p
  · subst e; rw [upd_same, h]
  · rw [upd_ne e]
theorem ok_Ahead_only_givens (T : Tx K mg D) : FnOk P w K mg base0 CX0 1 D.a_Ahead_only_givens D.d_Ahead_only_givens ["self", "k"] (spOnlyG D K) := by
  refine T.F_Ahead_only_givens.ok sc_Ahead_only_givens (fun vs H Q E h => ?_) (fun cdv A outer s H vs Q E hr h => ?_)
  · obtain ⟨r, dx, la, d, n, ls, L, rfl, _⟩ := h; rfl
  obtain ⟨r, dx, la, d, n, ls, L, rfl, h1, hla, hL, hn, k⟩ := h
  have hu := hr.units
  refine ⟨_, (pss_cons (ps_while PassesOwn.never (PW.pt (pw_and (pt_cmpR opA_lt (pe_fld (pv 0) (by rfl)) (pv 1) (nomark _)) (pw_and1 (pt_cmpR (opB_eq K hu) (pe_ix (ixA K) (pe_ix (ixA K) (pe_fld (pv 0) (by rfl)) (pe_fld (pv 0) (by rfl)) (fun _ _ => rfl)) pe_int (fun _ _ => rfl)) pe_str (nomark _))))) (pss_one (ps_fldaug (pv 0) pe_int in_add)))
    (pss_one (ps_ret (pe_cmpR op_ge (pe_fld (pv 0) (by rfl)) (pv 1) (nomark _))))), ?_⟩
  walk_at "S"
  walk_at ""
  refine ⟨fun m σ H2 => ∃ g : Nat, m = n - g ∧ g ≤ n ∧ (∀ i, i < g → (L i).ru = "given") ∧ σ = [some (V.ref r), some (V.int n)] ∧ H2 = upd H r (.ins D.C_Ahead dx (aheadG (.ref la) d g)), ⟨n, 0, rfl, Nat.zero_le _, fun i hi => absurd hi (Nat.not_lt_zero _), rfl, (upd_id h1).symm⟩, ?_⟩
  rintro m σ H2 ⟨g, rfl, hg, hall, rfl, rfl⟩
  have lk1 : List.lookup (Str.ofString "givens") (aheadG (.ref la) d g) = some (.int g) := by rfl
  have lk2 : List.lookup (Str.ofString "lines") (aheadG (.ref la) d g) = some (.ref la) := by rfl
  (try walk_at "")
  refine ⟨r, _, dx, _, _, rfl, upd_same, T.cl_Ahead, T.n_Ahead_givens, lk1, ?_⟩
  (try walk_at "")
  refine ite2 (fun c => ?_) fun c => ?_
  · refine ⟨r, _, dx, _, _, rfl, upd_same, T.cl_Ahead, T.n_Ahead_lines, lk2, r, _, dx, _, _, rfl, upd_same, T.cl_Ahead, T.n_Ahead_givens, lk1, ?_⟩
    have hgl : g < ls.length := by omega
    obtain ⟨a, x, b, ea, h2, _⟩ := hL g ls[g] (by simp [hgl])
    have eat : atI ls (g : Int) = some (.ref a) := by rw [← ea]; exact atI_nat (List.getElem?_eq_getElem hgl)
    (try walk_at "")
    refine ⟨_, .inr (sqtKeepI hla h1), _, eat, ?_⟩
    (try walk_at "")
    refine ⟨_, .inr (sqtKeepI h2 h1), _, atI_nat (j := 1) rfl, ?_⟩
    (try walk_at "")
    refine ite2 (fun c2 => ?_) fun c2 => ?_
    · refine ⟨fun σ' H' => σ' = [some (V.ref r), some (V.int n)] ∧ H' = upd H r (.ins D.C_Ahead dx (aheadG (.ref la) d (g + 1))), ?_, ?_⟩
      · rintro σ' H' ⟨rfl, rfl⟩
        refine ⟨n - (g + 1), by omega, g + 1, rfl, by omega, fun i hi => ?_, rfl, rfl⟩
        by_cases e : i = g
        · rw [e]; exact c2
        · exact hall i (by omega)
      · rw [w_fldaug]
        walk_at ""
        refine ⟨r, _, dx, _, _, rfl, upd_same, T.cl_Ahead, T.n_Ahead_givens, lk1, ?_⟩
        (try walk_at "")
        refine ⟨g, 1, rfl, rfl, dx, _, upd_same, by show 4 < 1000; decide, trivial, ?_⟩
        rw [upd_upd]
        rfl
    · refine ⟨r, _, dx, _, _, rfl, upd_same, T.cl_Ahead, T.n_Ahead_givens, lk1, ?_⟩
      (try walk_at "")
      have kk := k g
      rw [allG_false (by omega) c2] at kk
      rw [decide_eq_false (by omega)]
      exact kk
  · refine ⟨r, _, dx, _, _, rfl, upd_same, T.cl_Ahead, T.n_Ahead_givens, lk1, ?_⟩
    (try walk_at "")
    have e : g = n := by omega
    subst e
    have kk := k g
    rw [allG_true hall] at kk
    rw [decide_eq_true (by omega)]
    exact kk
end
section
variable {P : Program} {w : World} {K : PySem.W.Frag} {mg : Str → Option Value} {base0 : Heap} {D : Defs}
def agB (L : Nat → Ln) (f : Nat → List Nat) (n : Nat) : Bool := decide ((L n).rs.length = 1) && ((L n).rs.all (fun R => (tk f n R).isSome) && fAgain (L n).st ((L n).rs.map fun R => (L ((tk f n R).getD 0)).st))
def ansB (L : Nat → Ln) (f : Nat → List Nat) (n : Nat) : Bool := if (L n).ru = "given" then decide ((L n).rs.length = 0) && (decide ((L n).lev = 0) && allG L n) else if (L n).ru = "guess" then decide ((L n).rs.length = 0) else agB L f n
def Ru3 (s : Str) : Prop := s = "given" ∨ s = "guess" ∨ s = "again"
theorem Ru3.nn {s : Str} (h : Ru3 s) : s ≠ "new" := by
  rcases h with h | h | h <;> rw [h] <;> decide +kernel
def spFB (D : Defs) (K : PySem.W.Frag) : Sp := fun vs H Q _ => ∃ (n : Nat) (ah la pa dx d : Addr) (H0 : Hp) (ls us : List V) (L : Nat → Ln) (f : Nat → List Nat), vs = [.ref ah, .ref la, .ref pa, .int n] ∧ H ah = some (.ins D.C_Ahead dx (aheadF (.ref la) d)) ∧ Same H0 H ∧ H0 ah = none ∧
  SqT K H0 la ls ∧ RepNs K H0 L ls ∧ SqT K H0 pa us ∧ RepPs K H0 f us ∧ n < us.length ∧ ls.length = us.length ∧ (L n).rs.length ≤ 10 ∧ (∀ i, i ≤ n → Ru3 (L i).ru) ∧ (∀ i, i ≤ n → StOk 10 (L i).st) ∧
  ∀ H', Same H0 H' → Q (.bl (ansB L f n)) H'
def tab7 (D : Defs) : List (Str × V) := [("again", .ref D.r_RULES_0), ("both", .ref D.r_RULES_1), ("left", .ref D.r_RULES_2), ("right", .ref D.r_RULES_3), ("either", .ref D.r_RULES_4), ("cases", .ref D.r_RULES_5), ("then", .ref D.r_RULES_6), ("use", .ref D.r_RULES_7), ("deny", .ref D.r_RULES_8), ("clash", .ref D.r_RULES_9), ("absurd", .ref D.r_RULES_10), ("any", .ref D.r_RULES_11), ("each", .ref D.r_RULES_12), ("every", .ref D.r_RULES_13), ("some", .ref D.r_RULES_14), ("one", .ref D.r_RULES_15)]
theorem ok_follows_behind (T : Tx K mg D) : FnOk P w K mg base0 CX0 22 D.a_follows_behind D.d_follows_behind ["ahead", "lines", "paths", "k"] (spFB D K) := by
  have G_fits_its_rule := ok_fits_its_rule (P := P) (w := w) (base0 := base0) T
  have G_follows_by := ok_follows_by (P := P) (w := w) (base0 := base0) T
  have G_Ahead_only_givens := ok_Ahead_only_givens (P := P) (w := w) (base0 := base0) T
  refine T.F_follows_behind.ok sc_follows_behind (fun vs H Q E h => ?_) (fun cdv A outer s H vs Q E hr h => ?_)
  · obtain ⟨n, ah, la, pa, dx, d, H0, ls, us, L, f, rfl, _⟩ := h; rfl
  obtain ⟨n, ah, la, pa, dx, d, H0, ls, us, L, f, rfl, hah, s0, ha0, hla, hL, hpa, hP, hn, hlu, hrl, hru, hst, k⟩ := h
  have hu := hr.units
  have hr_fits_its_rule : Room 21 _ := hr.mono (by decide)
  have hr_follows_by : Room 6 _ := hr.mono (by decide)
  have hr_Ahead_only_givens : Room 1 _ := hr.mono (by decide)
  refine ⟨_, (pss_cons (ps_set (i := 4) sc_follows_behind.nd (by rfl) (by walk_at "o") (pe_ix (ixA K) (pv 1) (pv 3) (fun _ _ => rfl)))
    (pss_cons (ps_set (i := 5) sc_follows_behind.nd (by rfl) (by walk_at "o") (pe_ix (ixA K) (pv 4) pe_int (fun _ _ => rfl)))
    (pss_cons (ps_if (pt_not (pt_val (pe_call G_fits_its_rule hr_fits_its_rule (by rfl) T.m_fits_its_rule T.F_fits_its_rule.kp T.b_fits_its_rule .nil pass0 (pa_cons (pe_ix (ixA K) (pv 4) pe_int (fun _ _ => rfl)) (pa_cons (pv 5) pa_nil))))) (pss_one (ps_ret pe_bl)) pss_nil)
    (pss_cons (ps_if (pt_cmpR (opB_eq K hu) (pv 5) pe_str (nomark _)) (pss_one (ps_ret (pe_and (pe_cmpR (opB_eq K hu) (pe_callB (callA_len K) (by rfl) T.z_len PySem.boot_len (pa_cons (pe_ix (ixA K) (pv 4) pe_int (fun _ _ => rfl)) pa_nil)) pe_int (nomark _)) (pe_and (pe_cmpR (opB_eq K hu) (pe_ix (ixA K) (pv 4) pe_int (fun _ _ => rfl)) pe_int (nomark _)) (pe_one (pe_meth (pv 0) T.cl_Ahead T.h_Ahead_only_givens G_Ahead_only_givens hr_Ahead_only_givens T.b_Ahead_only_givens .nil pass0 (pa_cons (pv 3) pa_nil))))))) pss_nil)
    (pss_cons (ps_if (pt_cmpR (opB_eq K hu) (pv 5) pe_str (nomark _)) (pss_one (ps_ret (pe_cmpR (opB_eq K hu) (pe_callB (callA_len K) (by rfl) T.z_len PySem.boot_len (pa_cons (pe_ix (ixA K) (pv 4) pe_int (fun _ _ => rfl)) pa_nil)) pe_int (nomark _)))) pss_nil)
    (pss_cons (ps_if (PW.pt (pw_or (pt_cmpR (opB_eq K hu) (pv 5) pe_str (nomark _)) (pw_or1 (pt_cmpR (opB_eq K hu) (pv 5) pe_str (nomark _))))) (pss_cons ps_never
    (pss_one ps_never)) pss_nil)
    (pss_one (ps_ret (pe_and (pe_cmpR (opT_in K) (pv 5) (T.g_RULES (by rfl)) (by rfl)) (pe_one (pe_call G_follows_by hr_follows_by (by rfl) T.m_follows_by T.F_follows_by.kp T.b_follows_by .nil pass0 (pa_cons (pe_ix (ixT K) (T.g_RULES (by rfl)) (pv 5) (fun _ _ => rfl)) (pa_cons (pv 1) (pa_cons (pv 2) (pa_cons (pv 3) pa_nil))))))))))))))), ?_⟩
  walk_at "S"
  have hnl : n < ls.length := by omega
  obtain ⟨a, x, b, ea, h2, rx, h4⟩ := hL n ls[n] (by simp [hnl])
  have eat : atI ls (n : Int) = some (.ref a) := by rw [← ea]; exact atI_nat (List.getElem?_eq_getElem hnl)
  rw [w_seq, w_asg]
  simp only [↓w_op, ↓w_v1, ↓w_v3, ↓w_v4, ↓w_c, ↓w_ixR, ↓w_gName, ↓List.set_cons_zero, ↓List.set_cons_succ]
  refine ⟨_, .inr (s0.seqT hla), _, eat, ?_⟩
  rw [w_seq, w_asg]
  simp only [↓w_op, ↓w_v1, ↓w_v3, ↓w_v4, ↓w_c, ↓w_ixR, ↓w_gName, ↓List.set_cons_zero, ↓List.set_cons_succ]
  refine ⟨_, .inr (s0.seqT h2), _, atI_nat (j := 1) rfl, ?_⟩
  refine seq_cut (fun σ' H' => Same H H' ∧ σ' = [some (V.ref ah), some (V.ref la), some (V.ref pa), some (V.int n), some (V.ref a), some (V.str (L n).ru), none]) (fun N hN => ?_) fun σ' H' hv => ?_
  · walk_at ""
    refine ⟨_, .inr (s0.seqT h2), _, atI_nat (j := 2) rfl, x, (L n).st, (L n).ru, rfl, rx.same s0, hst n (Nat.le_refl _), (hru n (Nat.le_refl _)).nn, fun H' s' => ⟨true, rfl, ?_⟩⟩
    rw [if_neg (by decide)]
    exact hN _ _ ⟨s', rfl⟩
  obtain ⟨s1, rfl⟩ := hv
  have s01 := s0.trans s1
  have e10 : ∀ l : List Rf, (decide (((l.map Rf.v).length : Int) = 0)) = decide (l.length = 0) := fun l => by
    rw [List.length_map]
    by_cases h : l.length = 0
    · simp [h]
    · have h' : ¬ (l.length : Int) = 0 := by omega
      rw [decide_eq_false h, decide_eq_false h']
  rcases hru n (Nat.le_refl _) with hg | hg | hg
  · have ek : ansB L f n = (decide ((L n).rs.length = 0) && (decide ((L n).lev = 0) && allG L n)) := by unfold ansB; rw [if_pos hg]
    rw [ek] at k
    rw [hg]
    walk_at ""
    refine ⟨_, .inr (s01.seqT h2), _, atI_nat (j := 3) rfl, ?_⟩
    (try walk_at "")
    refine ⟨_, .inr (s01.seqT h4), ?_⟩
    (try walk_at "")
    rw [List.length_map]
    refine ite2 (fun c1 => ?_) fun c1 => ?_
    · rw [decide_eq_true (show (L n).rs.length = 0 by omega), Bool.true_and] at k
      refine ⟨_, .inr (s01.seqT h2), _, atI_nat (j := 0) rfl, ?_⟩
      (try walk_at "")
      refine ite2 (fun c2 => ?_) fun c2 => ?_
      · rw [decide_eq_true c2, Bool.true_and] at k
        exact ⟨ah, dx, _, rfl, s1 _ _ hah, by rfl, ah, dx, la, d, n, ls, L, rfl, s1 _ _ hah, s01.seqT hla, RepNs.same s01 hL, by omega, fun g => k _ (s01.upd ha0)⟩
      · rw [decide_eq_false c2, Bool.false_and] at k
        exact k _ s01
    · rw [decide_eq_false (show ¬ (L n).rs.length = 0 by omega), Bool.false_and] at k
      exact k _ s01
  · have ek : ansB L f n = decide ((L n).rs.length = 0) := by unfold ansB; rw [if_neg (by rw [hg]; decide +kernel), if_pos hg]
    rw [ek] at k
    rw [hg]
    walk_at ""
    rw [if_neg (by decide +kernel)]
    refine ⟨_, .inr (s01.seqT h2), _, atI_nat (j := 3) rfl, ?_⟩
    (try walk_at "")
    refine ⟨_, .inr (s01.seqT h4), ?_⟩
    (try walk_at "")
    rw [e10]
    exact k _ s01
  · have ek : ansB L f n = agB L f n := by unfold ansB; rw [if_neg (by rw [hg]; decide +kernel), if_neg (by rw [hg]; decide +kernel)]
    rw [ek] at k
    rw [hg]
    walk_at ""
    rw [if_neg (by decide +kernel), if_neg (by decide +kernel), if_neg (by decide +kernel), if_neg (by decide +kernel)]
    have hat : PyProof.Rows.KTD.datumAt (Str.ofString "again") (tab7 D) = some (.ref D.r_RULES_0) := by rfl
    have hin : PyProof.Rows.KTD.inKeys (Str.ofString "again") (tab7 D) = true := by rw [← PyProof.Rows.KTD.isSome_datumAt, hat]; rfl
    refine ⟨tab7 D, T.q_RULES, ?_⟩
    rw [if_pos hin]
    exact ⟨tab7 D, _, T.q_RULES, hat, 1, fAgain, n, D.r_RULES_0, D.w_RULES_0, D.a_by_again, la, pa, _, ls, us, L, f, (L n).rs, rfl, T.qr_RULES_0 _, T.qw_RULES_0 _, ok_by_again T, T.F_by_again.kp, T.b_by_again, by decide, s01.seqT hla, RepNs.same s01 hL, s01.seqT hpa, hP.same s01, hn, hlu, rfl, hrl, fun i hi => (hru i (Nat.le_of_lt hi)).nn, fun i hi => (hst i hi).2.1, fun H2 s2 => k H2 (s01.trans s2)⟩
end
section
variable {P : Program} {w : World} {K : PySem.W.Frag} {mg : Str → Option Value} {base0 : Heap} {D : Defs}
def spFollows (K : PySem.W.Frag) : Sp := fun vs H Q _ => ∃ (n : Nat) (la pa : Addr) (ls us : List V) (L : Nat → Ln) (f : Nat → List Nat), vs = [.ref la, .ref pa, .int n] ∧
  SqT K H la ls ∧ RepNs K H L ls ∧ SqT K H pa us ∧ RepPs K H f us ∧ n < us.length ∧ ls.length = us.length ∧ (L n).rs.length ≤ 10 ∧ (∀ i, i ≤ n → Ru3 (L i).ru) ∧ (∀ i, i ≤ n → StOk 10 (L i).st) ∧
  ∀ H', Same H H' → Q (.bl (ansB L f n)) H'
theorem ok_follows (T : Tx K mg D) : FnOk P w K mg base0 CX0 23 D.a_follows D.d_follows ["lines", "paths", "k"] (spFollows K) := by
  have G_follows_behind := ok_follows_behind (P := P) (w := w) (base0 := base0) T
  have G_Ahead_init := ok_Ahead_init (P := P) (w := w) (base0 := base0) T
  refine T.F_follows.ok sc_follows (fun vs H Q E h => ?_) (fun cdv A outer s H vs Q E hr h => ?_)
  · obtain ⟨n, la, pa, ls, us, L, f, rfl, _⟩ := h; rfl
  obtain ⟨n, la, pa, ls, us, L, f, rfl, hla, hL, hpa, hP, hn, hlu, hrl, hru, hst, k⟩ := h
  have hu := hr.units
  have hr_follows_behind : Room 22 _ := hr.mono (by decide)
  have hr_Ahead_init : Room 2 _ := hr.mono (by decide)
  refine ⟨_, (pss_one (ps_ret (pe_call G_follows_behind hr_follows_behind (by rfl) T.m_follows_behind T.F_follows_behind.kp T.b_follows_behind .nil pass0 (pa_cons (pe_make T.mk_Ahead G_Ahead_init hr_Ahead_init (by rfl) T.m_Ahead T.b_Ahead_init .nil pass0 (pa_cons (pv 0) pa_nil)) (pa_cons (pv 0) (pa_cons (pv 1) (pa_cons (pv 2) pa_nil))))))), ?_⟩
  walk_at "S"
  walk_at ""
  intro x dx hx hdx hne
  refine ⟨x, dx, .ref la, rfl, upd_same, fun H1 d h1 hkeep => ⟨rfl, ?_⟩⟩
  have s1 : Same H H1 := fun b u hb => hkeep b u (ne_of_none hb hx) (by rw [upd_ne (ne_of_none hb hx), upd_ne (ne_of_none hb hdx)]; exact hb)
  exact ⟨n, x, la, pa, dx, d, H, ls, us, L, f, rfl, h1, s1, hx, hla, hL, hpa, hP, hn, hlu, hrl, hru, hst, k⟩
end
section
variable {P : Program} {w : World} {K : PySem.W.Frag} {mg : Str → Option Value} {base0 : Heap} {D : Defs}
theorem ok_opens (T : Tx K mg D) : FnOk P w K mg base0 CX0 1 D.a_opens D.d_opens ["rule"] (fun vs H Q _ => ∃ r, vs = [.str r] ∧ Q (.bl (opn r)) H) := by
  refine T.F_opens.ok sc_opens (fun vs H Q E h => ?_) (fun cdv A outer s H vs Q E hr h => ?_)
  · obtain ⟨r, rfl, _⟩ := h; rfl
  obtain ⟨r, rfl, k⟩ := h
  have hu := hr.units
  refine ⟨_, (pss_one (ps_ret (pe_cmpR (opA_in K) (pv 0) (T.g_OPENING_RULES (by rfl)) (by rfl)))), ?_⟩
  walk_at "S"
  walk_at ""
  exact ⟨_, .inr (T.q_OPENING_RULES _), rfl, rfl, k⟩
theorem ok_boxes_behind (T : Tx K mg D) : FnOk P w K mg base0 CX0 2 D.a_boxes_behind D.d_boxes_behind ["path", "line", "k"] (spBehind K) := by
  have G_opens := ok_opens (P := P) (w := w) (base0 := base0) T
  refine T.F_boxes_behind.ok sc_boxes_behind (fun vs H Q E h => ?_) (fun cdv A outer s H vs Q E hr h => ?_)
  · obtain ⟨a, c, n, p, l, r, x, y, rfl, _⟩ := h; rfl
  obtain ⟨a, c, n, p, l, r, x, y, rfl, hA, hC, hl, k1, k2⟩ := h
  have hu := hr.units
  have hr_opens : Room 1 _ := hr.mono (by decide)
  refine ⟨_, (pss_cons (ps_set (i := 3) sc_boxes_behind.nd (by rfl) (by walk_at "o") (pe_ix (ixA K) (pv 1) pe_int (fun _ _ => rfl)))
    (pss_cons (ps_set (i := 4) sc_boxes_behind.nd (by rfl) (by walk_at "o") (pe_ifExp (pt_val (pe_call G_opens hr_opens (by rfl) T.m_opens T.F_opens.kp T.b_opens .nil pass0 (pa_cons (pe_ix (ixA K) (pv 1) pe_int (fun _ _ => rfl)) pa_nil))) (pe_op op_sub (pv 3) pe_int) (pv 3)))
    (pss_cons (ps_if (PW.pt (pw_or (pt_cmpR opA_lt (pv 4) pe_int (nomark _)) (pw_or1 (pt_cmpR op_gt (pv 4) (pe_callB (callA_len K) (by rfl) T.z_len PySem.boot_len (pa_cons (pv 0) pa_nil)) (nomark _))))) (pss_one (ps_ret pe_non)) pss_nil)
    (pss_cons (ps_if (pt_val (pe_call G_opens hr_opens (by rfl) T.m_opens T.F_opens.kp T.b_opens .nil pass0 (pa_cons (pe_ix (ixA K) (pv 1) pe_int (fun _ _ => rfl)) pa_nil))) (pss_one (ps_ret (pe_op (opB_add K) (pe_slice (slB K) (pv 0) po_none (po_some (pv 4))) (pe_tup (pa_cons (pv 2) pa_nil))))) pss_nil)
    (pss_one (ps_ret (pe_slice (slB K) (pv 0) po_none (po_some (pv 4))))))))), ?_⟩
  walk_at "S"
  walk_at ""
  refine ⟨_, .inr hC, _, atI_nat (j := 0) rfl, _, .inr hC, _, atI_nat (j := 1) rfl, r, rfl, ite2 (fun c1 => ?_) fun c1 => ?_⟩
  · walk_at ""
    refine ite2 (fun c2 => k1 ?_) fun c2 => ⟨_, .inr hA, ?_⟩
    · unfold behind keptI; rw [if_pos c1, if_pos (.inl c2)]
    (try walk_at "")
    rw [iv_len]
    refine ite2 (fun c3 => k1 ?_) fun c3 => ⟨_, .inr hC, _, atI_nat (j := 1) rfl, r, rfl, ?_⟩
    · unfold behind keptI; rw [if_pos c1, if_pos (.inr c3)]
    rw [if_pos c1]
    refine ⟨_, .inr ⟨hA, fun q H1 s1 h1 => ⟨sz1000 (show 1 ≤ 100000 by decide), fun p2 hp2 => ⟨_, _, .inr ⟨(same_new hp2 _).seqT h1, SqT.of upd_same, ?_, fun b H3 s3 h3 => ?_⟩⟩⟩⟩⟩
    · obtain ⟨m, hm⟩ : ∃ m : Nat, l - 1 = m := ⟨(l - 1).toNat, by omega⟩
      rw [hm, cut_to, iv_take, iv_len]
      have := List.length_take_le' m p
      exact sz1000 (by simp only [List.length_singleton]; omega)
    · obtain ⟨m, hm⟩ : ∃ m : Nat, l - 1 = m := ⟨(l - 1).toNat, by omega⟩
      rw [hm, cut_to, iv_take] at h3
      refine k2 (p.take m ++ [n]) ?_ b H3 ((s1.trans (same_new hp2 _)).trans s3) ?_
      · unfold behind keptI
        rw [if_pos c1, if_neg (by omega), if_pos c1, hm, Int.toNat_natCast]
      · have e : iv (p.take m ++ [n]) = iv (p.take m) ++ [V.int n] := by simp [iv]
        rw [e]; exact h3
  · walk_at ""
    refine ite2 (fun c2 => k1 ?_) fun c2 => ⟨_, .inr hA, ?_⟩
    · unfold behind keptI; rw [if_neg c1, if_pos (.inl c2)]
    (try walk_at "")
    rw [iv_len]
    refine ite2 (fun c3 => k1 ?_) fun c3 => ⟨_, .inr hC, _, atI_nat (j := 1) rfl, r, rfl, ?_⟩
    · unfold behind keptI; rw [if_neg c1, if_pos (.inr c3)]
    rw [if_neg c1]
    refine ⟨_, .inr ⟨hA, fun q H1 s1 h1 => ?_⟩⟩
    obtain ⟨m, hm⟩ : ∃ m : Nat, l = m := ⟨l.toNat, by omega⟩
    rw [hm, cut_to, iv_take] at h1
    refine k2 (p.take m) ?_ q H1 s1 h1
    unfold behind keptI
    rw [if_neg c1, if_neg (by omega), if_neg c1, hm, Int.toNat_natCast]
end
section
variable {P : Program} {w : World} {K : PySem.W.Frag} {mg : Str → Option Value} {base0 : Heap} {D : Defs}
theorem ok_fitting_boxes (T : Tx K mg D) : FnOk P w K mg base0 CX0 3 D.a_fitting_boxes D.d_fitting_boxes ["lines"] (spFit K) := by
  have G_boxes_behind := ok_boxes_behind (P := P) (w := w) (base0 := base0) T
  refine T.F_fitting_boxes.ok sc_fitting_boxes (fun vs H Q E h => ?_) (fun cdv A outer s H vs Q E hr h => ?_)
  · obtain ⟨a, us, f, rfl, _⟩ := h; rfl
  obtain ⟨a, us, f, rfl, hA, hL, hl, k⟩ := h
  have hu := hr.units
  have hr_boxes_behind : Room 2 _ := hr.mono (by decide)
  refine ⟨_, (pss_cons (ps_set (i := 1) sc_fitting_boxes.nd (by rfl) (by walk_at "o") (pe_lst pa_nil))
    (pss_cons (ps_set (i := 2) sc_fitting_boxes.nd (by rfl) (by walk_at "o") (pe_tup pa_nil))
    (pss_cons (ps_for PassesOwn.never (by rfl) (pi_enum K (by rfl) T.z_enumerate (pa_cons (pv 0) pa_nil)) (pg_tup (by rfl) (pgs_cons (pg_name (i := 3) sc_fitting_boxes.nd (by rfl) (by walk_at "o")) (pgs_cons (pg_name (i := 4) sc_fitting_boxes.nd (by rfl) (by walk_at "o")) pgs_nil)))
      (pss_cons (ps_set (i := 2) sc_fitting_boxes.nd (by rfl) (by walk_at "o") (pe_call G_boxes_behind hr_boxes_behind (by rfl) T.m_boxes_behind T.F_boxes_behind.kp T.b_boxes_behind .nil pass0 (pa_cons (pv 2) (pa_cons (pv 4) (pa_cons (pv 3) pa_nil)))))
    (pss_cons (ps_if (pt_cmp (pc_isN (pv 2))) (pss_one ps_break) pss_nil)
    (pss_one (ps_expr (pe_bmA K PySem.F.plainAttrs_list PySem.F.slot_list_append PySem.F.type_list_append mtR_append (pv 1) (pa_cons (pv 2) pa_nil)))))))
    (pss_one (ps_ret (pe_callTy (callA_tuple K) (by rfl) T.z_tuple (by rfl) (pa_cons (pv 1) pa_nil))))))), ?_⟩
  walk_at "S"
  walk_at ""
  refine ⟨Nat.zero_le _, fun p hp => ⟨Nat.zero_le _, fun p1 hp1 => ?_⟩⟩
  have s0 : Same H (upd (upd H p (.lst [])) p1 (.tup [])) := ((Same.refl H).upd hp).trans (same_new hp1 _)
  have hne : p ≠ p1 := ne_of_none upd_same hp1
  refine ⟨a, rfl, ⟨_, s0.seqT hA⟩, ?_⟩
  refine forW_enum (xs := us) (fun i σ H2 => Same H H2 ∧ ∃ c ps u3 u4 pt, σ = [some (.ref a), some (.ref p), some (.ref c), u3, u4] ∧ fitAt f i = some pt ∧ SqT K H2 c (iv pt) ∧ H2 p = some (.lst ps) ∧ ps.length = i ∧ RepPs K H2 (fun i => (fitAt f (i + 1)).getD []) ps ∧ ∀ j, j < i → fitAt f (j + 1) ≠ none)
    ⟨s0, p1, [], _, _, [], rfl, rfl, SqT.of upd_same, by rw [upd_ne hne]; exact upd_same, rfl, RepPs.nil, fun j hj => absurd hj (by omega)⟩ (fun i σ H2 _ hv => hv.1.seqT hA) (fun i x σ H2 hx hv t ht => ?_) fun σ H2 hv => ?_
  · obtain ⟨s2, c, ps, u3, u4, pt, rfl, hf, hc, hps, hlen, hP, hno⟩ := hv
    obtain ⟨ln, x1, y1, rfl, hln⟩ := hL i x hx
    have hi : i < us.length := (List.getElem?_eq_some_iff.mp hx).1
    walk_at ""
    refine ⟨_, SqT.of upd_same, rfl, ?_⟩
    walk_at ""
    have st := same_new ht (.tup [V.int (i : Int), V.ref ln])
    have s3 := s2.trans st
    have hps3 : upd H2 t (.tup [V.int (i : Int), V.ref ln]) p = some (.lst ps) := keep1 ht hps
    refine ⟨c, ln, i, pt, _, _, x1, y1, rfl, st.seqT hc, s3.seqT hln, by have := fit_len hf; omega, fun hn => ?_, fun q hq b H4 s4 hb => ?_⟩
    · walk_at ""
      exact ⟨_, .inl ⟨SqL.of hps3, fun l hl' => k l ps _ (s3.trans (same_new hl' _)) (SqT.of upd_same) ((hP.same st).same (same_new hl' _)) (by omega) (fun i hi => hno i (by omega)) (fun _ => by
        rw [hlen]
        show (fitAt f i).bind (behind i (f i).1 (f i).2) = none
        rw [hf]; exact hn)⟩⟩
    · walk_at ""
      rw [if_neg (by intro z; cases z)]
      have hps4 : H4 p = some (.lst ps) := s4 p _ hps3
      have hfi : fitAt f (i + 1) = some q := by
        show (fitAt f i).bind (behind i (f i).1 (f i).2) = some q
        rw [hf]; exact hq
      refine ⟨⟨_, SqL.of hps4⟩, ps, hps4, sz1000' (by omega), (s3.trans s4).upd hp, b, ps ++ [.ref b], _, _, q, rfl, hfi, hb.keepL hps4, upd_same, by simp [hlen], ?_, fun j hj => ?_⟩
      · refine RepPs.snoc (((hP.same st).same s4).keepL hps4) ?_
        rw [hlen]
        show SqT K _ b (iv ((fitAt f (i + 1)).getD []))
        rw [hfi]
        exact hb.keepL hps4
      · by_cases e : j = i
        · subst e; rw [hfi]; simp
        · exact hno j (by omega)
  · obtain ⟨s2, c, ps, u3, u4, pt, rfl, hf, hc, hps, hlen, hP, hno⟩ := hv
    walk_at ""
    exact ⟨_, .inl ⟨SqL.of hps, fun l hl' => k l ps _ (s2.trans (same_new hl' _)) (SqT.of upd_same) (hP.same (same_new hl' _)) (by omega) (fun i hi => hno i (by omega)) (fun h => by omega)⟩⟩
end
section
variable {P : Program} {w : World} {K : PySem.W.Frag} {mg : Str → Option Value} {base0 : Heap} {D : Defs}
def spBoxesC (K : PySem.W.Frag) : Sp := fun vs H Q _ => ∃ (a : Addr) (us : List V) (f : Nat → Int × Str), vs = [.ref a] ∧ SqT K H a us ∧ RepLn K H f us ∧ us.length ≤ 80 ∧ fitAt f us.length ≠ none ∧
  ∀ (q : Addr) ps H', Same H H' → SqT K H' q ps → ps.length = us.length → RepPs K H' (fun i => (fitAt f (i + 1)).getD []) ps → Q (.ref q) H'
theorem ok_boxes (T : Tx K mg D) : FnOk P w K mg base0 CX0 4 D.a_boxes D.d_boxes ["lines"] (spBoxesC K) := by
  have G_fitting_boxes := ok_fitting_boxes (P := P) (w := w) (base0 := base0) T
  refine T.F_boxes.ok sc_boxes (fun vs H Q E h => ?_) (fun cdv A outer s H vs Q E hr h => ?_)
  · obtain ⟨a, us, f, rfl, _⟩ := h; rfl
  obtain ⟨a, us, f, rfl, hA, hL, hl, hf, k1⟩ := h
  have hu := hr.units
  have hr_fitting_boxes : Room 3 _ := hr.mono (by decide)
  refine ⟨_, (pss_cons (ps_set (i := 1) sc_boxes.nd (by rfl) (by walk_at "o") (pe_call G_fitting_boxes hr_fitting_boxes (by rfl) T.m_fitting_boxes T.F_fitting_boxes.kp T.b_fitting_boxes .nil pass0 (pa_cons (pv 0) pa_nil)))
    (pss_cons (ps_if (pt_cmpR opA_lt (pe_callB (callA_len K) (by rfl) T.z_len PySem.boot_len (pa_cons (pv 1) pa_nil)) (pe_callB (callA_len K) (by rfl) T.z_len PySem.boot_len (pa_cons (pv 0) pa_nil)) (nomark _)) (pss_cons (ps_set (i := 2) sc_boxes.nd (by rfl) (by walk_at "o") (pe_callB (callA_len K) (by rfl) T.z_len PySem.boot_len (pa_cons (pv 1) pa_nil)))
    (pss_one ps_never)) pss_nil)
    (pss_one (ps_ret (pv 1))))), ?_⟩
  walk_at "S"
  walk_at ""
  refine ⟨a, us, f, rfl, hA, hL, hl, fun q ps H1 s1 hq hP h1 h2 h3 => ?_⟩
  (try walk_at "")
  refine ⟨_, .inr hq, _, .inr (s1.seqT hA), ?_⟩
  (try walk_at "")
  refine ite2 (fun c => ?_) fun c => ?_
  · have hn : fitAt f us.length = none := by
      have := fit_none (h3 (by omega)) (us.length - (ps.length + 1))
      rwa [show ps.length + 1 + (us.length - (ps.length + 1)) = us.length by omega] at this
    exact absurd hn hf
  · exact k1 q ps H1 s1 hq (by omega) hP
def spPaths3 (K : PySem.W.Frag) : Sp := fun vs H Q _ => ∃ (a : Addr) (ls : List V) (rs : List Str) (g : Nat → Nat), vs = [.ref a] ∧ SqL K H a ls ∧ RepLn K H (fun i => ((g i : Int), rs.getD i "")) ls ∧ ls.length ≤ 80 ∧ (∀ j, j < ls.length → o1 (rs.getD j "") ≤ g j) ∧
  ∀ (p : Addr) us H', Same H H' → H' p = some (.lst us) → us.length = ls.length → RepPs K H' (fun i => pathAt rs g (i + 1)) us → Q (.ref p) H'
theorem ok_paths_L (T : Tx K mg D) : FnOk P w K mg base0 CX0 1 D.a_paths_L D.d_paths_L ["_law_lines_here"] (spPaths3 K) := by
  refine T.F_paths_L.ok sc_paths_L (fun vs H Q E h => ?_) (fun cdv A outer s H vs Q E hr h => ?_)
  · obtain ⟨a, ls, rs, g, rfl, _⟩ := h; rfl
  obtain ⟨a, ls, rs, g, rfl, hA, hR, hl, hg, k⟩ := h
  have hu := hr.units
  refine ⟨_, (pss_cons (ps_set (i := 1) sc_paths_L.nd (by rfl) (by walk_at "o") (pe_lst pa_nil))
    (pss_cons (ps_set (i := 2) sc_paths_L.nd (by rfl) (by walk_at "o") (pe_tup pa_nil))
    (pss_cons (ps_for PassesOwn.never (by rfl) (pi_range1 (by rfl) T.z_range (pa_cons (pe_callB (callA_len K) (by rfl) T.z_len PySem.boot_len (pa_cons (pv 0) pa_nil)) pa_nil)) (pg_name (i := 3) sc_paths_L.nd (by rfl) (by walk_at "o"))
      (pss_cons (ps_if (pt_cmpR (opA_in K) (pe_ix (ixA K) (pe_ix (ixA K) (pv 0) (pv 3) (fun _ _ => rfl)) pe_int (fun _ _ => rfl)) (pe_lst (pa_cons pe_str (pa_cons pe_str (pa_cons pe_str pa_nil)))) (by rfl)) (pss_one (ps_set (i := 2) sc_paths_L.nd (by rfl) (by walk_at "o") (pe_op (opB_add K) (pe_slice (slB K) (pv 2) po_none (po_some (pe_op op_sub (pe_ix (ixA K) (pe_ix (ixA K) (pv 0) (pv 3) (fun _ _ => rfl)) pe_int (fun _ _ => rfl)) pe_int))) (pe_tup (pa_cons (pv 3) pa_nil))))) (pss_one (ps_set (i := 2) sc_paths_L.nd (by rfl) (by walk_at "o") (pe_slice (slB K) (pv 2) po_none (po_some (pe_ix (ixA K) (pe_ix (ixA K) (pv 0) (pv 3) (fun _ _ => rfl)) pe_int (fun _ _ => rfl)))))))
    (pss_one (ps_expr (pe_bmA K PySem.F.plainAttrs_list PySem.F.slot_list_append PySem.F.type_list_append mtR_append (pv 1) (pa_cons (pv 2) pa_nil))))))
    (pss_one (ps_ret (pv 1)))))), ?_⟩
  walk_at "S"
  walk_at ""
  refine ⟨Nat.zero_le _, fun p hp => ⟨Nat.zero_le _, fun p1 hp1 => ?_⟩⟩
  have s0 : Same H (upd (upd H p (.lst [])) p1 (.tup [])) := ((Same.refl H).upd hp).trans (same_new hp1 _)
  have hne : p ≠ p1 := ne_of_none upd_same hp1
  refine ⟨_, .inl (s0.seq hA), by omega, by omega, ?_⟩
  refine forW_range (fun i σ H2 => Same H H2 ∧ ∃ pp us o, σ = [some (.ref a), some (.ref p), some (.ref pp), o] ∧ SqT K H2 pp (iv (pathAt rs g i)) ∧ H2 p = some (.lst us) ∧ us.length = i ∧ RepPs K H2 (fun i => pathAt rs g (i + 1)) us)
    ⟨s0, p1, [], _, rfl, SqT.of upd_same, by rw [upd_ne hne]; exact upd_same, rfl, RepPs.nil⟩ (fun i σ H2 hi hv => ?_) fun σ H2 hv => ?_
  · obtain ⟨s2, pp, us, o, rfl, hpp, hps, hlen, hP⟩ := hv
    have hi' : i < ls.length := by rw [Int.toNat_natCast] at hi; exact hi
    obtain ⟨v, hv⟩ : ∃ v, ls[i]? = some v := ⟨_, List.getElem?_eq_getElem hi'⟩
    obtain ⟨ln, x, y, rfl, hln⟩ := hR i v hv
    walk_at ""
    refine ⟨_, .inl (s2.seq hA), _, at0 hv, ?_⟩
    (try walk_at "")
    refine ⟨_, .inr (s2.seqT hln), _, atI_nat (j := 1) rfl, sz1000 (by decide), fun p3 hp3 => ⟨_, .inl (SqL.of upd_same), rfl, rfl, ?_⟩⟩
    have s3 := s2.trans (same_new hp3 (.lst [V.str "guess", V.str "new", V.str "case"]))
    have hP3 := hP.same (same_new hp3 (.lst [V.str "guess", V.str "new", V.str "case"]))
    have hpp3 := (same_new hp3 (.lst [V.str "guess", V.str "new", V.str "case"])).seqT hpp
    have hps3 : upd H2 p3 (.lst [V.str "guess", V.str "new", V.str "case"]) p = some (.lst us) := keep1 hp3 hps
    generalize upd H2 p3 (.lst [V.str "guess", V.str "new", V.str "case"]) = H3 at s3 hP3 hpp3 hps3
    have fin : ∀ (r : Addr) (H5 : Hp), Same H H5 → SqT K H5 r (iv (pathAt rs g (i + 1))) → H5 p = some (.lst us) → RepPs K H5 (fun i => pathAt rs g (i + 1)) us → ∃ xs, H5 p = some (.lst xs) ∧ xs.length < sizeLine ∧
        Same H (upd H5 p (.lst (xs ++ [V.ref r]))) ∧ ∃ pp us o, [some (V.ref a), some (V.ref p), some (V.ref r), some (V.int (0 + (i : Int)))] = [some (V.ref a), some (V.ref p), some (V.ref pp), o] ∧
        SqT K (upd H5 p (.lst (xs ++ [V.ref r]))) pp (iv (pathAt rs g (i + 1))) ∧ upd H5 p (.lst (xs ++ [V.ref r])) p = some (.lst us) ∧ us.length = i + 1 ∧
        RepPs K (upd H5 p (.lst (xs ++ [V.ref r]))) (fun i => pathAt rs g (i + 1)) us := fun r H5 s5 h1 h2 h3 => by
      refine ⟨us, h2, sz1000' (by omega), s5.upd hp, r, us ++ [.ref r], _, rfl, h1.keepL h2, upd_same, by simp [hlen], ?_⟩
      refine RepPs.snoc (h3.keepL h2) ?_
      rw [hlen]
      exact h1.keepL h2
    refine ite2 (fun c => ?_) fun c => ?_
    · refine ⟨_, .inl (s3.seq hA), _, at0 hv, ?_⟩
      (try walk_at "")
      refine ⟨_, .inr (s3.seqT hln), _, atI_nat (j := 0) rfl, ?_⟩
      (try walk_at "")
      have c : opn (rs.getD i "") = true := c
      have h1 := hg i hi'
      have e1 : o1 (rs.getD i "") = 1 := by unfold o1; rw [if_pos c]
      have ec : cutV (iv (pathAt rs g i)) none (some ((g i : Int) - 1)) = iv ((pathAt rs g i).take (g i - 1)) := by
        rw [show ((g i : Int) - 1) = ((g i - 1 : Nat) : Int) by omega, cut_to, iv_take]
      refine ⟨_, .inr ⟨hpp3, fun q H4 s4 hq => ⟨sz1000 (show 1 ≤ 100000 by decide), fun p2 hp2 => ?_⟩⟩⟩
      rw [ec] at hq
      refine ⟨_, _, .inr ⟨(same_new hp2 _).seqT hq, SqT.of upd_same, ?_, fun b H6 s6 hb => ?_⟩⟩
      · have := List.length_take_le' (g i - 1) (pathAt rs g i)
        have := path_len rs g i
        refine sz1000 ?_
        rw [iv_len]; simp only [List.length_singleton]; omega
      rw [iv_cat, ← pathAt_open rs g c] at hb
      have s46 := (s4.trans (same_new hp2 (.tup [V.int (0 + (i : Int))]))).trans s6
      have hp6 : H6 p = some (.lst us) := s46 _ _ hps3
      exact ⟨⟨_, SqL.of hp6⟩, fin b H6 (s3.trans s46) hb hp6 (hP3.same s46)⟩
    · refine ⟨_, .inl (s3.seq hA), _, at0 hv, ?_⟩
      (try walk_at "")
      refine ⟨_, .inr (s3.seqT hln), _, atI_nat (j := 0) rfl, ?_⟩
      (try walk_at "")
      have ec : cutV (iv (pathAt rs g i)) none (some (g i : Int)) = iv (pathAt rs g (i + 1)) := by
        rw [cut_to, iv_take]
        show _ = iv (nxt i (rs.getD i "") (g i) (pathAt rs g i))
        unfold nxt
        rw [if_neg (show ¬ opn (rs.getD i "") = true from c)]
      refine ⟨_, .inr ⟨hpp3, fun q H4 s4 hq => ?_⟩⟩
      rw [ec] at hq
      have hp4 : H4 p = some (.lst us) := s4 _ _ hps3
      exact ⟨⟨_, SqL.of hp4⟩, fin q H4 (s3.trans s4) hq hp4 (hP3.same s4)⟩
  · obtain ⟨s2, pp, us, o, rfl, hpp, hps, hlen, hP⟩ := hv
    walk_at ""
    rw [Int.toNat_natCast] at hlen
    exact k p us H2 s2 hps hlen hP
end
section
variable {P : Program} {w : World} {K : PySem.W.Frag} {mg : Str → Option Value} {base0 : Heap} {D : Defs}
def spLine4 (K : PySem.W.Frag) : Sp := fun vs H Q _ => ∃ (a : Addr) (ls : List V) (L : Nat → Ln) (rs : List Str) (g : Nat → Nat) (n : Nat) (R : Rf), vs = [.ref a, .int n, R.v] ∧ n < ls.length ∧ SqL K H a ls ∧ RepNs K H L ls ∧ (∀ i, i < ls.length → (L i).lev = (g i : Int) ∧ (L i).ru = rs.getD i "") ∧ ls.length ≤ 80 ∧ (∀ j, j < ls.length → o1 (rs.getD j "") ≤ g j) ∧
  ∀ H', Same H H' → (∀ r, tk (fun i => pathAt rs g (i + 1)) n R = some r → ∀ x, RepS K H' (L r).st x → Q x H') ∧ (tk (fun i => pathAt rs g (i + 1)) n R = none → Q .non H')
theorem RepNs.ln {H : Hp} {L : Nat → Ln} {ls : List V} {rs : List Str} {g : Nat → Nat} (h : RepNs K H L ls) (e : ∀ i, i < ls.length → (L i).lev = (g i : Int) ∧ (L i).ru = rs.getD i "") : RepLn K H (fun i => ((g i : Int), rs.getD i "")) ls := fun i v hv => by
  obtain ⟨a, x, b, h1, h2, _⟩ := h i v hv
  obtain ⟨e1, e2⟩ := e i (List.getElem?_eq_some_iff.mp hv).1
  rw [e1, e2] at h2
  exact ⟨a, x, _, h1, h2⟩
theorem ok_line_L (T : Tx K mg D) : FnOk P w K mg base0 CX0 2 D.a_line_L D.d_line_L ["_law_lines_here", "_law_k", "_law_ref"] (spLine4 K) := by
  have G_paths_L := ok_paths_L (P := P) (w := w) (base0 := base0) T
  refine T.F_line_L.ok sc_line_L (fun vs H Q E h => ?_) (fun cdv A outer s H vs Q E hr h => ?_)
  · obtain ⟨a, ls, L, rs, g, n, R, rfl, _⟩ := h; rfl
  obtain ⟨a, ls, L, rs, g, n, R, rfl, hn, hA, hL, hLg, hl, hg, k⟩ := h
  have hu := hr.units
  have hr_paths_L : Room 1 _ := hr.mono (by decide)
  refine ⟨_, (pss_cons (ps_if (PW.pt (pw_or (pt_not (pt_val (pe_callB (callB_inst K "int") (by rfl) T.z_isinstance (by rfl) (pa_cons (pv 2) (pa_cons (pe_bltn (v := .ty "int") (by rfl) T.z_int (by rfl) (by rfl)) pa_nil))))) (pw_or (pt_val (pe_callB (callB_inst K "bool") (by rfl) T.z_isinstance (by rfl) (pa_cons (pv 2) (pa_cons (pe_bltn (v := .ty "bool") (by rfl) T.z_bool (by rfl) (by rfl)) pa_nil)))) (pw_or (pt_cmpR opA_lt (pv 2) pe_int (nomark _)) (pw_or1 (pt_cmpR op_ge (pv 2) (pv 1) (nomark _))))))) (pss_one (ps_ret pe_non)) pss_nil)
    (pss_cons (ps_set (i := 3) sc_line_L.nd (by rfl) (by walk_at "o") (pe_call G_paths_L hr_paths_L (by rfl) T.m_paths_L T.F_paths_L.kp T.b_paths_L .nil pass0 (pa_cons (pv 0) pa_nil)))
    (pss_cons (ps_if (pt_cmpR (opC_ne K hu) (pe_slice (slB K) (pe_ix (ixA K) (pv 3) (pv 1) (fun _ _ => rfl)) po_none (po_some (pe_callB (callA_len K) (by rfl) T.z_len PySem.boot_len (pa_cons (pe_ix (ixA K) (pv 3) (pv 2) (fun _ _ => rfl)) pa_nil)))) (pe_ix (ixA K) (pv 3) (pv 2) (fun _ _ => rfl)) (nomark _)) (pss_one (ps_ret pe_non)) pss_nil)
    (pss_one (ps_ret (pe_ix (ixA K) (pe_ix (ixA K) (pv 0) (pv 2) (fun _ _ => rfl)) pe_int (fun _ _ => rfl))))))), ?_⟩
  walk_at "S"
  have k0 := k H (Same.refl H)
  cases R with
  | s t =>
    simp only [Rf.v]
    walk_at ""
    refine ⟨false, rfl, ?_⟩
    rw [if_pos (by decide)]
    exact k0.2 rfl
  | n i =>
    simp only [Rf.v]
    walk_at ""
    refine ⟨true, rfl, ?_⟩
    rw [if_neg (by decide)]
    refine ⟨false, rfl, ?_⟩
    rw [if_neg (by decide)]
    have tn : ¬ (0 ≤ i ∧ i < (n : Int)) → tk (fun i => pathAt rs g (i + 1)) n (.n i) = none := fun h => by
      show (if _ then _ else _) = _
      rw [if_neg fun z => h ⟨z.1, z.2.1⟩]
    refine ite2 (fun c1 => k0.2 (tn (by omega))) fun c1 => ?_
    refine ite2 (fun c2 => k0.2 (tn (by omega))) fun c2 => ?_
    obtain ⟨r, rfl⟩ : ∃ r : Nat, i = r := ⟨i.toNat, by omega⟩
    have hrn : r < n := by omega
    refine ⟨a, ls, rs, g, rfl, hA, RepNs.ln hL hLg, hl, hg, fun p us H1 s1 hp hul hP => ?_⟩
    obtain ⟨c1, hc1, hs1⟩ := hP.at (i := n) (by omega)
    obtain ⟨c2, hc2, hs2⟩ := hP.at (i := r) (by omega)
    (try walk_at "")
    refine ⟨_, .inl (SqL.of hp), _, atI_nat hc1, _, .inl (SqL.of hp), _, atI_nat hc2, ?_⟩
    (try walk_at "")
    refine ⟨_, .inr hs2, ?_⟩
    rw [iv_len]
    refine ⟨_, .inr ⟨hs1, fun q H2 s2 hq => ?_⟩⟩
    rw [cut_to, iv_take] at hq
    have hp2 : H2 p = some (.lst us) := s2 _ _ hp
    refine ⟨_, .inl (SqL.of hp2), _, atI_nat hc2, ?_⟩
    (try walk_at "")
    refine ⟨_, _, iv_repD hq, iv_repD (s2.seqT hs2), idt_dep _, ?_⟩
    have hk := k H2 (s1.trans s2)
    have e : tk (fun i => pathAt rs g (i + 1)) n (.n (r : Int)) = if (pathAt rs g (n + 1)).take (pathAt rs g (r + 1)).length = pathAt rs g (r + 1) then some r else none := by
      show (if _ then _ else _) = _
      by_cases c : (pathAt rs g (n + 1)).take (pathAt rs g (r + 1)).length = pathAt rs g (r + 1)
      · rw [if_pos ⟨by omega, by omega, by simp [seenB, hrn, c]⟩, if_pos c]; simp
      · rw [if_neg fun z => c (by simpa [seenB, hrn] using z.2.2), if_neg c]
    rw [e] at hk
    refine ite2 (fun c => hk.2 (if_neg fun z => c (by rw [z]))) fun c => ?_
    have c' : idt ((pathAt rs g (n + 1)).take (pathAt rs g (r + 1)).length) = idt (pathAt rs g (r + 1)) := Classical.byContradiction c
    obtain ⟨v, hv⟩ : ∃ v, ls[r]? = some v := ⟨_, List.getElem?_eq_getElem (by omega)⟩
    obtain ⟨ln, x, b, rfl, h1, h2, h3⟩ := hL r v hv
    refine ⟨_, .inl ((s1.trans s2).seq hA), _, atI_nat hv, ?_⟩
    (try walk_at "")
    exact ⟨_, .inr ((s1.trans s2).seqT h1), _, atI_nat (j := 2) rfl, hk.1 r (if_pos (idt_inj c')) _ (h2.same (s1.trans s2))⟩
end
section
variable {P : Program} {w : World} {K : PySem.W.Frag} {mg : Str → Option Value} {base0 : Heap} {D : Defs}
theorem seq_ifS {c : Prop} [Decidable c] {tt : TT} {t u : TS} {Dd : Ends} {σ : St} {H : Hp} (ht : ∀ Qb : Bool → Hp → Prop, (∀ H', Same H H' → Qb (decide c) H') → tt σ H Qb) (h1 : ∀ H', Same H H' → c → t { Dd with nx := u Dd } σ H') (h2 : ∀ H', Same H H' → ¬ c → u Dd σ H') : tSeq (tIfS tt t tNext) u Dd σ H := by
  show tt σ H fun b H1 => if b = true then t { Dd with nx := u Dd } σ H1 else u Dd σ H1
  refine ht _ fun H' s' => ?_
  by_cases hc : c
  · rw [decide_eq_true hc, if_pos rfl]; exact h1 H' s' hc
  · rw [decide_eq_false hc, if_neg (by decide)]; exact h2 H' s' hc
theorem fAgain_one {L : Nat → Ln} {f : Nat → List Nat} {n : Nat} {R : Rf} (h : (L n).rs = [R]) : agB L f n = match tk f n R with | some r => decide ((L n).st = (L r).st) | none => false := by
  unfold agB
  rw [h]
  cases e : tk f n R with
  | some r => simp [e, fAgain]
  | none => simp [e]
theorem rv_repD {H : Hp} {b : Addr} {l : List Rf} (h : SqT K H b (l.map Rf.v)) : RepD K H (.tup (l.map fun R => match R with | .n i => Dt.int i | .s t => Dt.str t)) (.ref b) :=
  .tup h (by simp) fun j d x h1 h2 => by
    rw [List.getElem?_map] at h1 h2
    cases e : l[j]? with
    | none => rw [e] at h1; cases h1
    | some R =>
      rw [e] at h1 h2
      cases h1
      cases h2
      cases R with
      | n i => exact .int i
      | s t => exact .str t
theorem rv_dep (l : List Rf) : Dt.dep (.tup (l.map fun R => match R with | .n i => Dt.int i | .s t => Dt.str t)) ≤ 2 := by
  show Dt.deps _ + 1 ≤ 2
  refine Nat.succ_le_succ (deps_le (k := 1) fun d hd => ?_)
  obtain ⟨R, _, rfl⟩ := List.mem_map.mp hd
  cases R <;> exact Nat.zero_le _
def spDue4 (K : PySem.W.Frag) : Sp := fun vs H Q _ => ∃ (a : Addr) (ls : List V) (L : Nat → Ln) (rs : List Str) (g : Nat → Nat) (n : Nat), vs = [.ref a, .int n] ∧ n < ls.length ∧ SqL K H a ls ∧ RepNs K H L ls ∧ (∀ i, i < ls.length → (L i).lev = (g i : Int) ∧ (L i).ru = rs.getD i "") ∧ ls.length ≤ 80 ∧ (∀ j, j < ls.length → o1 (rs.getD j "") ≤ g j) ∧
  (∀ i, i ≤ n → Ru3 (L i).ru) ∧ (∀ i, i ≤ n → StOk 10 (L i).st) ∧ ∀ H', Same H H' → Q (.bl (ansB L (fun i => pathAt rs g (i + 1)) n)) H'
theorem ok_due_L (T : Tx K mg D) : FnOk P w K mg base0 CX0 3 D.a_due_L D.d_due_L ["_law_lines_here", "_law_k"] (spDue4 K) := by
  have G_line_L := ok_line_L (P := P) (w := w) (base0 := base0) T
  refine T.F_due_L.ok sc_due_L (fun vs H Q E h => ?_) (fun cdv A outer s H vs Q E hr h => ?_)
  · obtain ⟨a, ls, L, rs, g, n, rfl, _⟩ := h; rfl
  obtain ⟨a, ls, L, rs, g, n, rfl, hn, hA, hL, hLg, hl, hg, hru, hst, k⟩ := h
  have hu := hr.units
  have hr_line_L : Room 2 _ := hr.mono (by decide)
  refine ⟨_, (pss_cons (ps_set (i := 2) sc_due_L.nd (by rfl) (by walk_at "o") (pe_ix (ixA K) (pv 0) (pv 1) (fun _ _ => rfl)))
    (pss_cons (ps_if (pt_cmpR (opC_eq K hu) (pe_ix (ixA K) (pv 2) pe_int (fun _ _ => rfl)) pe_str (nomark _)) (pss_one (ps_ret (pe_and (pe_cmpR (opC_eq K hu) (pe_callB (callA_len K) (by rfl) T.z_len PySem.boot_len (pa_cons (pe_ix (ixA K) (pv 2) pe_int (fun _ _ => rfl)) pa_nil)) pe_int (nomark _)) (pe_one (pe_cmpR (opC_eq K hu) (pe_ix (ixA K) (pv 2) pe_int (fun _ _ => rfl)) (pe_call G_line_L hr_line_L (by rfl) T.m_line_L T.F_line_L.kp T.b_line_L .nil pass0 (pa_cons (pv 0) (pa_cons (pv 1) (pa_cons (pe_ix (ixA K) (pe_ix (ixA K) (pv 2) pe_int (fun _ _ => rfl)) pe_int (fun _ _ => rfl)) pa_nil)))) (nomark _)))))) pss_nil)
    (pss_cons (ps_if (pt_cmpR (opC_ne K hu) (pe_ix (ixA K) (pv 2) pe_int (fun _ _ => rfl)) (pe_tup pa_nil) (nomark _)) (pss_one (ps_ret pe_bl)) pss_nil)
    (pss_one (ps_ret (pe_or (pe_cmpR (opC_eq K hu) (pe_ix (ixA K) (pv 2) pe_int (fun _ _ => rfl)) pe_str (nomark _)) (pe_one (pe_and (pe_cmpR (opC_eq K hu) (pe_ix (ixA K) (pv 2) pe_int (fun _ _ => rfl)) pe_int (nomark _)) (pe_one (pe_callB (callA_all K (by rfl)) (by rfl) T.z_all (by rfl) (pa_cons (pe_comp 1 [] ["_law_ahead"] ⟨by rfl, by rfl, by rfl, by rfl, by rfl, by rfl, by rfl⟩ (by rfl) (pi_any K (pe_slice (slB K) (pv 0) po_none (po_some (pv 1)))) (fun _ _ _ _ => pg_name (i := 0) (show List.Nodup (["_law_ahead"] : List Str) by decide +kernel) (by rfl) (Or.inl (by rfl)) (Or.inr (by rfl))) (gName_keep (by decide)) (fun _ _ _ _ => pif_nil) (fun _ _ _ _ => (pe_cmpR (opC_eq K hu) (pe_ix (ixA K) (pv 0) pe_int (fun _ _ => rfl)) pe_str (nomark _)))) pa_nil))))))))))), ?_⟩
  walk_at "S"
  obtain ⟨v, hv⟩ : ∃ v, ls[n]? = some v := ⟨_, List.getElem?_eq_getElem hn⟩
  obtain ⟨ln, x, b, rfl, h1, h2, h3⟩ := hL n v hv
  refine seq_cut (fun σ' H' => H' = H ∧ σ' = [some (.ref a), some (.int n), some (.ref ln)]) (fun N hN => ?_) fun σ' H' hv => ?_
  · walk_at ""
    exact ⟨_, .inl hA, _, atI_nat hv, hN _ _ ⟨rfl, rfl⟩⟩
  obtain ⟨rfl, rfl⟩ := hv
  generalize hf : (fun i => pathAt rs g (i + 1)) = f at k
  refine seq_ifP (c := (L n).ru = "again") (fun Qb q => ?_) (fun c1 => ?_) fun c1 => ?_
  · walk_at ""
    refine ⟨_, .inr h1, _, atI_nat (j := 1) rfl, ?_⟩
    (try walk_at "")
    exact q
  · have ek : ansB L f n = agB L f n := by unfold ansB; rw [if_neg (by rw [c1]; decide +kernel), if_neg (by rw [c1]; decide +kernel)]
    rw [ek] at k
    walk_at ""
    refine ⟨_, .inr h1, _, atI_nat (j := 3) rfl, ?_⟩
    (try walk_at "")
    refine ⟨_, .inr h3, ?_⟩
    rw [List.length_map]
    (try walk_at "")
    refine ite2 (fun c2 => ?_) fun c2 => ?_
    · obtain ⟨R, hR⟩ : ∃ R, (L n).rs = [R] := List.length_eq_one_iff.mp (by omega)
      rw [fAgain_one hR] at k
      rw [hR] at h3
      refine ⟨_, .inr h1, _, atI_nat (j := 2) rfl, ?_⟩
      (try walk_at "")
      refine ⟨_, .inr h1, _, atI_nat (j := 3) rfl, ?_⟩
      (try walk_at "")
      refine ⟨_, .inr h3, _, atI_nat (j := 0) rfl, a, ls, L, rs, g, n, R, rfl, hn, hA, hL, hLg, hl, hg, fun H' s' => ⟨fun r er y ry => ?_, fun er => ?_⟩⟩
      · rw [hf] at er
        rw [er] at k
        obtain ⟨ax, xs0, rfl, _⟩ := h2.tag
        (try walk_at "")
        refine ⟨_, _, (h2.same s').repD, ry.repD, Nat.le_trans (Stm.dep_dt _) (by have := (hst n (Nat.le_refl _)).2.1; omega), ?_⟩
        rw [Stm.dt_dec]
        exact k _ s'
      · rw [hf] at er
        rw [er] at k
        obtain ⟨ax, xs0, rfl, _⟩ := h2.tag
        (try walk_at "")
        refine ⟨_, .non, (h2.same s').repD, .non, Nat.le_trans (Stm.dep_dt _) (by have := (hst n (Nat.le_refl _)).2.1; omega), ?_⟩
        have hd : ∀ S : Stm, S.dt ≠ Dt.non := fun S => by cases S <;> intro z <;> cases z
        rw [decide_eq_false (hd _)]
        exact k _ s'
    · have e : agB L f n = false := by unfold agB; rw [decide_eq_false (by omega), Bool.false_and]
      rw [e] at k
      exact k _ (Same.refl _)
  refine seq_ifS (c := ¬ (L n).rs.length = 0) (fun Qb q => ?_) (fun H2 s2 c2 => ?_) fun H2 s2 c2 => ?_
  · walk_at ""
    refine ⟨_, .inr h1, _, atI_nat (j := 3) rfl, Nat.zero_le _, fun p hp => ?_⟩
    have sp := same_new hp (.tup [])
    (try walk_at "")
    refine ⟨_, .tup [], rv_repD (sp.seqT h3), .tup (SqT.of upd_same) rfl (fun j d x h1 h2 => by simp at h1), Nat.le_trans (rv_dep _) (by decide), ?_⟩
    have e : (!decide (Dt.tup ((L n).rs.map fun R => match R with | .n i => Dt.int i | .s t => Dt.str t) = Dt.tup [])) = decide (¬ (L n).rs.length = 0) := by
      cases (L n).rs with
      | nil => simp
      | cons R l => simp
    rw [e]
    exact q _ sp
  · have e : ansB L f n = false := by
      unfold ansB agB
      rw [decide_eq_false c2, Bool.false_and]
      split
      · rfl
      · split
        · rfl
        · exact absurd ((hru n (Nat.le_refl _)).resolve_left (by assumption)) (fun z => z.elim (by assumption) c1)
    rw [e] at k
    walk_at ""
    exact k _ s2
  · have e0 : (L n).rs.length = 0 := Classical.byContradiction c2
    have ek : ansB L f n = (decide ((L n).ru = "guess") || (decide ((L n).lev = 0) && allG L n)) := by
      unfold ansB
      rw [decide_eq_true e0, Bool.true_and]
      by_cases cg : (L n).ru = "given"
      · rw [if_pos cg, decide_eq_false (show ¬ (L n).ru = "guess" by rw [cg]; decide +kernel), Bool.false_or]
      · have cg2 := ((hru n (Nat.le_refl _)).resolve_left cg).resolve_right c1
        rw [if_neg cg, if_pos cg2, decide_eq_true cg2, Bool.true_or]
    rw [ek] at k
    walk_at ""
    refine ⟨_, .inr (s2.seqT h1), _, atI_nat (j := 1) rfl, ?_⟩
    (try walk_at "")
    refine ite2 (fun c3 => ?_) fun c3 => ?_
    · rw [decide_eq_true c3, Bool.true_or] at k
      exact k _ s2
    rw [decide_eq_false c3, Bool.false_or] at k
    refine ⟨_, .inr (s2.seqT h1), _, atI_nat (j := 0) rfl, ?_⟩
    (try walk_at "")
    refine ite2 (fun c4 => ?_) fun c4 => ?_
    · rw [decide_eq_true c4, Bool.true_and] at k
      refine ⟨_, .inl ⟨s2.seq hA, fun q hq => ?_⟩⟩
      rw [cut_to]
      refine .inl ⟨⟨_, SqL.of upd_same⟩, ?_⟩
      have s3 := s2.trans (same_new hq (.lst (ls.take n)))
      refine comp_list (xs := ls.take n) (fun i acc H' => Same (upd H2 q (.lst (ls.take n))) H' ∧ acc = ((List.range i).map fun j => decide ((L j).ru = "given")).map V.bl) ⟨Same.refl _, rfl⟩ (fun i acc H' _ hv => SqL.of (hv.1 _ _ upd_same)) (fun i x acc H' hx hv => ?_) fun acc H' hv p hp => ?_
      · obtain ⟨s4, rfl⟩ := hv
        have hi : i < n := by have := (List.getElem?_eq_some_iff.mp hx).1; rw [List.length_take] at this; omega
        have hx' : ls[i]? = some x := by rw [List.getElem?_take] at hx; rw [if_pos hi] at hx; exact hx
        obtain ⟨ln', x', b', rfl, g1, _⟩ := hL i x hx'
        refine ⟨sz1000' (by rw [List.length_map, List.length_map, List.length_range]; omega), ?_⟩
        simp only [slotsC, List.replicate_succ, List.replicate_zero, List.map_cons, List.map_nil, List.nil_append, List.cons_append, List.getElem?_cons_zero, List.getElem?_cons_succ, Option.join_some]
        walk_at ""
        refine ⟨_, .inr ((s3.trans s4).seqT g1), _, atI_nat (j := 1) rfl, ?_⟩
        (try walk_at "")
        refine ⟨s4, ?_⟩
        rw [List.range_succ, List.map_append, List.map_append]
        rfl
      · obtain ⟨s4, rfl⟩ := hv
        rw [List.length_take, Nat.min_eq_left (Nat.le_of_lt hn)]
        have s5 := s4.trans (same_new hp (.lst (((List.range n).map fun j => decide ((L j).ru = "given")).map V.bl)))
        (try walk_at "")
        refine ⟨_, SqL.of upd_same, ?_⟩
        have e : (((List.range n).map fun j => decide ((L j).ru = "given")).all id) = allG L n := by
          unfold allG
          rw [List.all_map]
          rfl
        rw [e]
        exact k _ (s3.trans s5)
    · rw [decide_eq_false c4, Bool.false_and] at k
      exact k _ s2
end
section
variable {P : Program} {w : World} {K : PySem.W.Frag} {mg : Str → Option Value} {base0 : Heap} {D : Defs}
def spRefs (K : PySem.W.Frag) : Sp := fun vs H Q _ => ∃ (c : Int) (n : Nat) (dp np wp : Addr) (nm : List Str), vs = [.int c, .int n, .ref dp] ∧ 0 ≤ c ∧ n ≤ 100 ∧ H dp = some (.lst [.ref np, .ref wp]) ∧ H np = some (.lst (nm.map V.str)) ∧ nm.length = 3 ∧
  ∀ (q : Addr) (rs : List Rf) H', Same H H' → SqT K H' q (rs.map Rf.v) → rs.length ≤ 2 → Q (.ref q) H'
theorem ok_refs_L (T : Tx K mg D) : FnOk P w K mg base0 CX0 1 D.a_refs_L D.d_refs_L ["_law_cell", "_law_k", "_law_drawn"] (spRefs K) := by
  refine T.F_refs_L.ok sc_refs_L (fun vs H Q E h => ?_) (fun cdv A outer s H vs Q E hr h => ?_)
  · obtain ⟨c, n, dp, np, wp, nm, rfl, _⟩ := h; rfl
  obtain ⟨c, n, dp, np, wp, nm, rfl, c0, hn, hdp, hnp, hnl, k⟩ := h
  have hu := hr.units
  refine ⟨_, (pss_cons (ps_set (i := 3) sc_refs_L.nd (by rfl) (by walk_at "o") (pe_lst (pa_cons (pe_op op_sub (pe_op op_modP (pe_op op_fdivP (pv 0) pe_int) (pe_op (opB_add K) (pv 1) pe_int)) pe_int) (pa_cons (pe_op op_sub (pe_op op_modP (pe_op op_fdivP (pv 0) pe_int) (pe_op (opB_add K) (pv 1) pe_int)) pe_int) pa_nil))))
    (pss_cons (ps_if (pt_cmpR (opB_eq K hu) (pe_op op_modP (pv 0) pe_int) pe_int (nomark _)) (pss_one (ps_ret (pe_tup pa_nil))) pss_nil)
    (pss_cons (ps_if (pt_cmpR (opB_eq K hu) (pe_op op_modP (pv 0) pe_int) pe_int (nomark _)) (pss_one (ps_ret (pe_tup (pa_cons (pe_ix (ixA K) (pe_ix (ixA K) (pv 2) pe_int (fun _ _ => rfl)) (pe_op op_modP (pe_op op_fdivP (pv 0) pe_int) pe_int) (fun _ _ => rfl)) pa_nil)))) pss_nil)
    (pss_one (ps_ret (pe_callTy (callA_tuple K) (by rfl) T.z_tuple (by rfl) (pa_cons (pe_slice (slB K) (pv 3) po_none (po_some (pe_op (opB_add K) pe_int (pe_callTy callA_int (by rfl) T.z_int (by rfl) (pa_cons (pe_cmpR (opB_eq K hu) (pe_op op_modP (pv 0) pe_int) pe_int (nomark _)) pa_nil))))) pa_nil))))))), ?_⟩
  walk_at "S"
  refine seq_cut (fun σ' H' => Same H H' ∧ ∃ (p : Addr) (i j : Int), SqL K H' p [.int i, .int j] ∧ σ' = [some (.int c), some (.int n), some (.ref dp), some (.ref p)]) (fun N hN => ?_) fun σ' H1 hv => ?_
  · walk_at ""
    exact ⟨cdiv, by omega, cdiv, by omega, sz1000 (show 2 ≤ 100000 by decide), fun p hp => hN _ _ ⟨same_new hp _, p, _, _, SqL.of upd_same, rfl⟩⟩
  obtain ⟨s1, p, i, j, hp, rfl⟩ := hv
  refine seq_ifP (c := c % 4 = 0) (fun Qb q => ?_) (fun c1 => ?_) fun c1 => ?_
  · walk_at ""
    exact ⟨by decide, q⟩
  · walk_at ""
    exact ⟨Nat.zero_le _, fun q hq => k q [] _ (s1.trans (same_new hq _)) (SqT.of upd_same) (by decide)⟩
  refine seq_ifP (c := c % 16 = 2) (fun Qb q => ?_) (fun c2 => ?_) fun c2 => ?_
  · walk_at ""
    exact ⟨by decide, q⟩
  · walk_at ""
    refine ⟨_, .inl (SqL.of (s1 _ _ hdp)), _, atI_nat (j := 0) rfl, cdiv, by decide, ?_⟩
    (try walk_at "")
    have m0 := Int.emod_nonneg (c / 16) (show (3 : Int) ≠ 0 by decide)
    have m1 := Int.emod_lt_of_pos (c / 16) (show (0 : Int) < 3 by decide)
    generalize c / 16 % 3 = m at m0 m1
    obtain ⟨m, rfl⟩ : ∃ t : Nat, m = t := ⟨m.toNat, by omega⟩
    have hm : m < nm.length := by omega
    refine ⟨_, .inl (SqL.of (s1 _ _ hnp)), .str nm[m], atI_nat (by rw [List.getElem?_map, List.getElem?_eq_getElem hm]; rfl), sz1000 (show 1 ≤ 100000 by decide), fun q hq => ?_⟩
    exact k q [.s nm[m]] _ (s1.trans (same_new hq _)) (SqT.of upd_same) (by simp)
  · walk_at ""
    refine ⟨by decide, _, .inl ⟨hp, fun q hq => ⟨_, .inl ⟨SqL.of upd_same, fun l hl => ?_⟩⟩⟩⟩
    have fin : ∀ rs : List Rf, rs.length ≤ 2 → cutV [V.int i, V.int j] none (some (1 + if c % 16 = 3 then 1 else 0)) = rs.map Rf.v → Q (V.ref l) (upd (upd H1 q (HO.lst (cutV [V.int i, V.int j] none (some (1 + if c % 16 = 3 then 1 else 0))))) l (HO.tup (cutV [V.int i, V.int j] none (some (1 + if c % 16 = 3 then 1 else 0))))) := fun rs h e => by
      refine k l rs _ (s1.trans ((same_new hq _).trans (same_new hl _))) ?_ h
      rw [← e]
      exact SqT.of upd_same
    by_cases c3 : c % 16 = 3
    · refine fin [.n i, .n j] (by simp) ?_
      rw [if_pos c3]
      rfl
    · refine fin [.n i] (by simp) ?_
      rw [if_neg c3]
      rfl
end
section
variable {P : Program} {w : World} {K : PySem.W.Frag} {mg : Str → Option Value} {base0 : Heap} {D : Defs}
def roomL (L : Nat → Ln) (i : Nat) : Int := if i = 0 then 0 else (L (i - 1)).lev
structure Ls4 (L : Nat → Ln) (n : Nat) : Prop where
  st : ∀ i, i < n → StOk 5 (L i).st
  rs : ∀ i, i < n → (L i).rs.length ≤ 2
  ru : ∀ i, i < n → Ru3 (L i).ru
  lv : ∀ i, i < n → (o1 (L i).ru : Int) ≤ (L i).lev ∧ (L i).lev ≤ roomL L i + o1 (L i).ru ∧ (L i).lev ≤ (i : Int) + 1
def snocN (L : Nat → Ln) (n : Nat) (x : Ln) : Nat → Ln := fun i => if i = n then x else L i
theorem snocN_lt {L : Nat → Ln} {n : Nat} {x : Ln} {i : Nat} (h : i < n) : snocN L n x i = L i := by unfold snocN; rw [if_neg (by omega)]
theorem snocN_eq {L : Nat → Ln} {n : Nat} {x : Ln} : snocN L n x n = x := by unfold snocN; rw [if_pos rfl]
theorem roomL_snoc {L : Nat → Ln} {n : Nat} {x : Ln} {i : Nat} (h : i ≤ n) : roomL (snocN L n x) i = roomL L i := by
  unfold roomL
  split
  · rfl
  · rw [snocN_lt (by omega)]
theorem Ls4.snoc {L : Nat → Ln} {n : Nat} (h : Ls4 L n) (x : Ln) (h1 : StOk 5 x.st) (h2 : x.rs.length ≤ 2) (h3 : Ru3 x.ru) (h4 : (o1 x.ru : Int) ≤ x.lev ∧ x.lev ≤ roomL L n + o1 x.ru ∧ x.lev ≤ (n : Int) + 1) : Ls4 (snocN L n x) (n + 1) where
  st := fun i hi => by
    by_cases e : i = n
    · subst e; rw [snocN_eq]; exact h1
    · rw [snocN_lt (by omega)]; exact h.st i (by omega)
  rs := fun i hi => by
    by_cases e : i = n
    · subst e; rw [snocN_eq]; exact h2
    · rw [snocN_lt (by omega)]; exact h.rs i (by omega)
  ru := fun i hi => by
    by_cases e : i = n
    · subst e; rw [snocN_eq]; exact h3
    · rw [snocN_lt (by omega)]; exact h.ru i (by omega)
  lv := fun i hi => by
    rw [roomL_snoc (by omega)]
    by_cases e : i = n
    · subst e; rw [snocN_eq]; exact h4
    · rw [snocN_lt (by omega)]; exact h.lv i (by omega)
theorem RepNs.snoc {H : Hp} {L : Nat → Ln} {ls : List V} {x : Ln} {v : V} (h : RepNs K H L ls) (hv : RepN K H x v) : RepNs K H (snocN L ls.length x) (ls ++ [v]) := fun i u hu => by
  by_cases e : i < ls.length
  · rw [snocN_lt e]
    rw [List.getElem?_append_left e] at hu
    exact h i u hu
  · have hi := (List.getElem?_eq_some_iff.mp hu).1
    rw [List.length_append, List.length_singleton] at hi
    have e' : i = ls.length := by omega
    subst e'
    rw [snocN_eq]
    simp at hu
    subst hu
    exact hv
theorem RepNs.keepL {H : Hp} {p : Addr} {ys zs : List V} {L : Nat → Ln} {ls : List V} (hp : H p = some (.lst ys)) (h : RepNs K H L ls) : RepNs K (upd H p (.lst zs)) L ls := fun i v hv => (h i v hv).keepL hp
theorem RepL.at {H : Hp} : ∀ {Ss : List Stm} {us : List V}, RepL K H Ss us → ∀ {i : Nat} {v : V}, us[i]? = some v → ∃ S, S ∈ Ss ∧ RepS K H S v
  | _, _, .nil, i, v, h => by simp at h
  | _, _, .cons (a := S) h1 h2, 0, v, h => by simp at h; subst h; exact ⟨S, by simp, h1⟩
  | _, _, .cons h1 h2, i + 1, v, h => by
    obtain ⟨S, hS, r⟩ := RepL.at h2 (i := i) (by simpa using h)
    exact ⟨S, by simp [hS], r⟩
theorem o1_guess : o1 "guess" = 1 := by decide +kernel
theorem o1_again : o1 "again" = 0 := by decide +kernel
theorem o1_given : o1 "given" = 0 := by decide +kernel
theorem Ls4.room {L : Nat → Ln} {n : Nat} (h : Ls4 L n) : 0 ≤ roomL L n ∧ roomL L n ≤ n := by
  unfold roomL
  split
  · omega
  · have := h.lv (n - 1) (by omega)
    omega
def spLines (K : PySem.W.Frag) : Sp := fun vs H Q _ => ∃ (a : Addr) (ns : List Int), vs = [.ref a] ∧ SqL K H a (ns.map V.int) ∧ ns.length ≤ 63 ∧
  ∀ (lp : Addr) (L : Nat → Ln) (ls : List V) H', Same H H' → H' lp = some (.lst ls) → RepNs K H' L ls → Ls4 L ls.length → 1 ≤ ls.length → ls.length ≤ 7 → Q (.ref lp) H'
theorem ok_lines_L (T : Tx K mg D) : FnOk P w K mg base0 CX0 12 D.a_lines_L D.d_lines_L ["_law_script"] (spLines K) := by
  have G_cell_at_L := ok_cell_at_L (P := P) (w := w) (base0 := base0) T
  have G_draw_L := ok_draw_L (P := P) (w := w) (base0 := base0) T
  have G_some_L := ok_some_L (P := P) (w := w) (base0 := base0) T
  have G_refs_L := ok_refs_L (P := P) (w := w) (base0 := base0) T
  refine T.F_lines_L.ok sc_lines_L (fun vs H Q E h => ?_) (fun cdv A outer s H vs Q E hr h => ?_)
  · obtain ⟨a, ns, rfl, _⟩ := h; rfl
  obtain ⟨a, ns, rfl, hS, hl, k⟩ := h
  have hu := hr.units
  have hr_cell_at_L : Room 1 _ := hr.mono (by decide)
  have hr_draw_L : Room 2 _ := hr.mono (by decide)
  have hr_some_L : Room 10 _ := hr.mono (by decide)
  have hr_refs_L : Room 1 _ := hr.mono (by decide)
  refine ⟨_, (pss_cons (ps_set (i := 1) sc_lines_L.nd (by rfl) (by walk_at "o") (pe_call G_draw_L hr_draw_L (by rfl) T.m_draw_L T.F_draw_L.kp T.b_draw_L .nil pass0 (pa_cons (pv 0) (pa_cons pe_int pa_nil))))
    (pss_cons (ps_set (i := 2) sc_lines_L.nd (by rfl) (by walk_at "o") (pe_call G_some_L hr_some_L (by rfl) T.m_some_L T.F_some_L.kp T.b_some_L .nil pass0 (pa_cons (pv 0) (pa_cons pe_int (pa_cons (pv 1) (pa_cons (pe_op (opB_add K) pe_int (pe_op op_modP (pe_call G_cell_at_L hr_cell_at_L (by rfl) T.m_cell_at_L T.F_cell_at_L.kp T.b_cell_at_L .nil pass0 (pa_cons (pv 0) (pa_cons pe_int pa_nil))) pe_int)) pa_nil))))))
    (pss_cons (ps_set (i := 3) sc_lines_L.nd (by rfl) (by walk_at "o") (pe_lst pa_nil))
    (pss_cons (ps_set (i := 4) sc_lines_L.nd (by rfl) (by walk_at "o") pe_int)
    (pss_cons (ps_for PassesOwn.never (by rfl) (pi_range1 (by rfl) T.z_range (pa_cons (pe_op (opB_add K) pe_int (pe_op op_modP (pe_call G_cell_at_L hr_cell_at_L (by rfl) T.m_cell_at_L T.F_cell_at_L.kp T.b_cell_at_L .nil pass0 (pa_cons (pv 0) (pa_cons pe_int pa_nil))) pe_int)) pa_nil)) (pg_name (i := 5) sc_lines_L.nd (by rfl) (by walk_at "o"))
      (pss_cons (ps_set (i := 6) sc_lines_L.nd (by rfl) (by walk_at "o") (pe_call G_cell_at_L hr_cell_at_L (by rfl) T.m_cell_at_L T.F_cell_at_L.kp T.b_cell_at_L .nil pass0 (pa_cons (pv 0) (pa_cons (pe_op (opB_add K) pe_int (pe_op opA_mul pe_int (pv 5))) pa_nil))))
    (pss_cons (ps_set (i := 7) sc_lines_L.nd (by rfl) (by walk_at "o") (pe_ix (ixA K) (pe_lst (pa_cons pe_str (pa_cons pe_str (pa_cons pe_str pa_nil)))) (pe_op op_modP (pv 6) pe_int) (fun _ _ => rfl)))
    (pss_cons (ps_set (i := 8) sc_lines_L.nd (by rfl) (by walk_at "o") (pe_op op_modP (pe_op op_fdivP (pv 6) pe_int) (pe_op (opB_add K) (pv 4) pe_int)))
    (pss_cons (ps_if (pt_cmpR (opB_eq K hu) (pv 7) pe_str (nomark _)) (pss_one (ps_set (i := 8) sc_lines_L.nd (by rfl) (by walk_at "o") (pe_op (opB_add K) (pv 8) pe_int))) pss_nil)
    (pss_cons (ps_if (pt_cmpR (opB_eq K hu) (pe_op op_modP (pe_op op_fdivP (pv 6) pe_int) pe_int) pe_int (nomark _)) (pss_one (ps_set (i := 8) sc_lines_L.nd (by rfl) (by walk_at "o") (pe_ix (ixA K) (pe_lst (pa_cons pe_int (pa_cons pe_int pa_nil))) (pe_callTy callA_int (by rfl) T.z_int (by rfl) (pa_cons (pe_cmpR (opB_eq K hu) (pv 7) pe_str (nomark _)) pa_nil)) (fun _ _ => rfl)))) pss_nil)
    (pss_cons (ps_set (i := 9) sc_lines_L.nd (by rfl) (by walk_at "o") (pe_call G_refs_L hr_refs_L (by rfl) T.m_refs_L T.F_refs_L.kp T.b_refs_L .nil pass0 (pa_cons (pe_call G_cell_at_L hr_cell_at_L (by rfl) T.m_cell_at_L T.F_cell_at_L.kp T.b_cell_at_L .nil pass0 (pa_cons (pv 0) (pa_cons (pe_op (opB_add K) pe_int (pe_op opA_mul pe_int (pv 5))) pa_nil))) (pa_cons (pv 5) (pa_cons (pv 1) pa_nil)))))
    (pss_cons (ps_if (PW.pt (pw_and (pt_cmpR (opA_ne hu) (pv 7) pe_str (nomark _)) (pw_and1 (pt_cmpR op_gt (pe_op op_modP (pe_op op_fdivP (pv 6) pe_int) pe_int) pe_int (nomark _))))) (pss_one (ps_set (i := 9) sc_lines_L.nd (by rfl) (by walk_at "o") (pe_tup pa_nil))) pss_nil)
    (pss_cons (ps_expr (pe_bmA K PySem.F.plainAttrs_list PySem.F.slot_list_append PySem.F.type_list_append mtR_append (pv 3) (pa_cons (pe_tup (pa_cons (pv 8) (pa_cons (pv 7) (pa_cons (pe_ix (ixA K) (pv 2) (pe_op op_modP (pe_op op_fdivP (pv 6) pe_int) (pe_callB (callA_len K) (by rfl) T.z_len PySem.boot_len (pa_cons (pv 2) pa_nil))) (fun _ _ => rfl)) (pa_cons (pv 9) pa_nil))))) pa_nil)))
    (pss_one (ps_set (i := 4) sc_lines_L.nd (by rfl) (by walk_at "o") (pv 8))))))))))))
    (pss_one (ps_ret (pv 3)))))))), ?_⟩
  walk_at "S"
  refine seq_cut (fun σ' H' => ∃ (dp np wp : Addr) (nm wd : List Str), σ' = [some (.ref a), some (.ref dp), none, none, none, none, none, none, none, none] ∧ Same H H' ∧ H' dp = some (.lst [.ref np, .ref wp]) ∧ H' np = some (.lst (nm.map V.str)) ∧ H' wp = some (.lst (wd.map V.str)) ∧ nm.length = 3 ∧ wd.length = 3 ∧ (∀ t ∈ nm, Nm smallS t) ∧ (∀ t ∈ wd, Nm smallS t)) (fun N hN => ?_) fun σ' H1 hv => ?_
  · walk_at ""
    exact ⟨a, ns, _, rfl, hS, hl, by decide, fun p np wp nm wd H1 s1 h1 h2 h3 h4 h5 h6 h7 => hN _ _ ⟨p, np, wp, nm, wd, rfl, s1, h1, h2, h3, h4, h5, h6, h7⟩⟩
  obtain ⟨dp, np, wp, nm, wd, rfl, s1, d1, d2, d3, d4, d5, d6, d7⟩ := hv
  refine seq_cut (fun σ' H' => Same H1 H' ∧ ∃ (pa : Addr) (Ss : List Stm) (us : List V), σ' = [some (.ref a), some (.ref dp), some (.ref pa), none, none, none, none, none, none, none] ∧ H' pa = some (.lst us) ∧ RepL K H' Ss us ∧ 1 ≤ us.length ∧ us.length ≤ 3 ∧ (∀ S ∈ Ss, StOk 5 S)) (fun N hN => ?_) fun σ' H2 hv => ?_
  · walk_at ""
    refine ⟨a, ns, _, rfl, s1.seq hS, hl, by decide, fun c c0 c1 => ?_⟩
    (try walk_at "")
    have e0 := Int.emod_nonneg c (show (3 : Int) ≠ 0 by decide)
    have e1 := Int.emod_lt_of_pos c (show (0 : Int) < 3 by decide)
    refine ⟨by decide, a, dp, np, wp, ns, _, _, nm, wd, rfl, s1.seq hS, hl, by decide, by omega, by omega, d1, d2, d3, d4, d5, d6, d7, fun q Ss us H2 s2 h1 h2 h3 h4 => hN _ _ ⟨s2, q, Ss, us, rfl, h1, h2, ?_, ?_, h4⟩⟩
    · have := Paired.length h2
      omega
    · have := Paired.length h2
      omega
  obtain ⟨s12, pa, Ss, us, rfl, hpa, hSs, hu1, hu3, oSs⟩ := hv
  have s2 := s1.trans s12
  replace d1 := s12 _ _ d1
  replace d2 := s12 _ _ d2
  clear d3 d5 d6 d7 s1 s12
  refine seq_cut (fun σ' H' => ∃ lp, H2 lp = none ∧ H' = upd H2 lp (.lst []) ∧ σ' = [some (.ref a), some (.ref dp), some (.ref pa), some (.ref lp), none, none, none, none, none, none]) (fun N hN => ?_) fun σ' H3 hv => ?_
  · walk_at ""
    exact ⟨Nat.zero_le _, fun lp hlp => hN _ _ ⟨lp, hlp, rfl, rfl⟩⟩
  obtain ⟨lp, hlp, rfl, rfl⟩ := hv
  refine seq_cut (fun σ' H' => H' = upd H2 lp (.lst []) ∧ σ' = [some (.ref a), some (.ref dp), some (.ref pa), some (.ref lp), some (.int 0), none, none, none, none, none]) (fun N hN => ?_) fun σ' H3 hv => ?_
  · walk_at ""
    exact hN _ _ ⟨rfl, rfl⟩
  obtain ⟨rfl, rfl⟩ := hv
  refine seq_cut (fun σ' H' => Same H2 H' ∧ ∃ L ls o u5 u6 u7 u8 u9, σ' = [some (.ref a), some (.ref dp), some (.ref pa), some (.ref lp), o, u5, u6, u7, u8, u9] ∧ H' lp = some (.lst ls) ∧ 1 ≤ ls.length ∧ ls.length ≤ 7 ∧ RepNs K H' L ls ∧ Ls4 L ls.length) (fun N hN => ?_) fun σ' H3 hv => ?_
  · walk_at ""
    refine ⟨a, ns, _, rfl, (s2.trans (same_new hlp _)).seq hS, hl, by decide, fun c c0 c1 => ?_⟩
    (try walk_at "")
    have e0 := Int.emod_nonneg c (show (7 : Int) ≠ 0 by decide)
    have e1 := Int.emod_lt_of_pos c (show (0 : Int) < 7 by decide)
    refine ⟨by decide, by omega, by omega, ?_⟩
    refine forW_range (fun i σ' H' => Same H2 H' ∧ ∃ L ls u5 u6 u7 u8 u9, σ' = [some (.ref a), some (.ref dp), some (.ref pa), some (.ref lp), some (.int (roomL L i)), u5, u6, u7, u8, u9] ∧ H' lp = some (.lst ls) ∧ ls.length = i ∧ RepNs K H' L ls ∧ Ls4 L i)
      ⟨same_new hlp _, fun _ => ⟨0, "", .fls, []⟩, [], _, _, _, _, _, rfl, upd_same, rfl, fun i v hv => by simp at hv, ⟨fun i hi => absurd hi (by omega), fun i hi => absurd hi (by omega), fun i hi => absurd hi (by omega), fun i hi => absurd hi (by omega)⟩⟩ (fun i σ' H' hi hv => ?_) fun σ' H' hv => ?_
    · obtain ⟨s3, L, ls, u5, u6, u7, u8, u9, rfl, hlat, hlen, hR, ok⟩ := hv
      rw [w_gName]
      simp only [↓List.set_cons_zero, ↓List.set_cons_succ]
      obtain ⟨hr0, hr1⟩ := ok.room
      generalize hro : roomL L i = ro at hr0 hr1
      generalize hki : V.int (0 + (i : Int)) = ki
      refine seq_cut (fun σ2 H4 => H4 = H' ∧ ∃ c : Int, 0 ≤ c ∧ σ2 = [some (.ref a), some (.ref dp), some (.ref pa), some (.ref lp), some (.int ro), some ki, some (.int c), u7, u8, u9]) (fun N hN => ?_) fun σ2 H4 hv => ?_
      · subst hki
        walk_at ""
        exact ⟨cmulL, a, ns, _, rfl, (s2.trans s3).seq hS, hl, by omega, fun c c0 c1 => hN _ _ ⟨rfl, c, c0, rfl⟩⟩
      obtain ⟨rfl, cc, cc0, rfl⟩ := hv
      refine seq_cut (fun σ2 H5 => Same H4 H5 ∧ ∃ ru : Str, Ru3 ru ∧ σ2 = [some (.ref a), some (.ref dp), some (.ref pa), some (.ref lp), some (.int ro), some ki, some (.int cc), some (.str ru), u8, u9]) (fun N hN => ?_) fun σ2 H5 hv => ?_
      · walk_at ""
        refine ⟨sz1000 (show 3 ≤ 100000 by decide), fun p hp => ⟨by decide, ?_⟩⟩
        (try walk_at "")
        have m0 := Int.emod_nonneg cc (show (3 : Int) ≠ 0 by decide)
        have m1 := Int.emod_lt_of_pos cc (show (0 : Int) < 3 by decide)
        obtain e | e | e : cc % 3 = 0 ∨ cc % 3 = 1 ∨ cc % 3 = 2 := by omega
        · rw [e]; exact ⟨_, .inl (SqL.of upd_same), _, atI_nat (j := 0) rfl, hN _ _ ⟨same_new hp _, _, .inl rfl, rfl⟩⟩
        · rw [e]; exact ⟨_, .inl (SqL.of upd_same), _, atI_nat (j := 1) rfl, hN _ _ ⟨same_new hp _, _, .inr (.inl rfl), rfl⟩⟩
        · rw [e]; exact ⟨_, .inl (SqL.of upd_same), _, atI_nat (j := 2) rfl, hN _ _ ⟨same_new hp _, _, .inr (.inr rfl), rfl⟩⟩
      obtain ⟨s45, ru, hru, rfl⟩ := hv
      refine seq_cut (fun σ2 H6 => H6 = H5 ∧ ∃ lv : Int, 0 ≤ lv ∧ lv ≤ ro ∧ σ2 = [some (.ref a), some (.ref dp), some (.ref pa), some (.ref lp), some (.int ro), some ki, some (.int cc), some (.str ru), some (.int lv), u9]) (fun N hN => ?_) fun σ2 H6 hv => ?_
      · walk_at ""
        have m0 := Int.emod_nonneg (cc / 3) (show ro + 1 ≠ 0 by omega)
        have m1 := Int.emod_lt_of_pos (cc / 3) (show 0 < ro + 1 by omega)
        exact ⟨cdiv, by omega, hN _ _ ⟨rfl, _, m0, by omega, rfl⟩⟩
      obtain ⟨rfl, lv, lv0, lv1, rfl⟩ := hv
      have oc : (o1 ru = 1 ∧ ru = "guess") ∨ (o1 ru = 0 ∧ ¬ ru = "guess") := by
        rcases hru with rfl | rfl | rfl
        · exact .inr ⟨o1_given, by decide +kernel⟩
        · exact .inl ⟨o1_guess, rfl⟩
        · exact .inr ⟨o1_again, by decide +kernel⟩
      refine seq_cut (fun σ2 H7 => H7 = H6 ∧ ∃ lv : Int, (o1 ru : Int) ≤ lv ∧ lv ≤ ro + o1 ru ∧ σ2 = [some (.ref a), some (.ref dp), some (.ref pa), some (.ref lp), some (.int ro), some ki, some (.int cc), some (.str ru), some (.int lv), u9]) (fun N hN => ?_) fun σ2 H7 hv => ?_
      · walk_at ""
        rcases oc with ⟨o, e⟩ | ⟨o, e⟩
        · rw [if_pos e]; exact hN _ _ ⟨rfl, _, by rw [o]; omega, by rw [o]; omega, rfl⟩
        · rw [if_neg e]; exact hN _ _ ⟨rfl, _, by rw [o]; omega, by rw [o]; omega, rfl⟩
      clear lv0 lv1
      obtain ⟨rfl, lv, lv0, lv1, rfl⟩ := hv
      refine seq_cut (fun σ2 H8 => Same H7 H8 ∧ ∃ lv : Int, (o1 ru : Int) ≤ lv ∧ lv ≤ ro + o1 ru ∧ σ2 = [some (.ref a), some (.ref dp), some (.ref pa), some (.ref lp), some (.int ro), some ki, some (.int cc), some (.str ru), some (.int lv), u9]) (fun N hN => ?_) fun σ2 H8 hv => ?_
      · walk_at ""
        refine ⟨cdiv, by decide, ite2 (fun c2 => ?_) fun c2 => hN _ _ ⟨Same.refl _, lv, lv0, lv1, rfl⟩⟩
        refine ⟨sz1000 (show 2 ≤ 100000 by decide), fun p hp => ?_⟩
        (try walk_at "")
        rcases oc with ⟨o, e⟩ | ⟨o, e⟩
        · rw [if_pos e]
          exact ⟨_, .inl (SqL.of upd_same), _, atI_nat (j := 1) rfl, hN _ _ ⟨same_new hp _, _, by rw [o]; omega, by rw [o]; omega, rfl⟩⟩
        · rw [if_neg e]
          exact ⟨_, .inl (SqL.of upd_same), _, atI_nat (j := 0) rfl, hN _ _ ⟨same_new hp _, _, by rw [o]; omega, by rw [o]; omega, rfl⟩⟩
      clear lv0 lv1
      obtain ⟨s78, lv, lv0, lv1, rfl⟩ := hv
      have s48 := s45.trans s78
      clear s45 s78
      refine seq_cut (fun σ2 H9 => Same H8 H9 ∧ ∃ (q : Addr) (rs : List Rf), SqT K H9 q (rs.map Rf.v) ∧ rs.length ≤ 2 ∧ σ2 = [some (.ref a), some (.ref dp), some (.ref pa), some (.ref lp), some (.int ro), some ki, some (.int cc), some (.str ru), some (.int lv), some (.ref q)]) (fun N hN => ?_) fun σ2 H9 hv => ?_
      · subst hki
        walk_at ""
        refine ⟨cmulL, a, ns, _, rfl, ((s2.trans s3).trans s48).seq hS, hl, by omega, fun c c0 c1 => ?_⟩
        exact ⟨c, i, dp, np, wp, nm, by simp, c0, by omega, (s3.trans s48) _ _ d1, (s3.trans s48) _ _ d2, d4, fun q rs H9 s9 hq hr2 => hN _ _ ⟨s9, q, rs, hq, hr2, rfl⟩⟩
      obtain ⟨s89, q, rs, hq, hr2, rfl⟩ := hv
      refine seq_cut (fun σ2 H10 => Same H9 H10 ∧ ∃ (q : Addr) (rs : List Rf), SqT K H10 q (rs.map Rf.v) ∧ rs.length ≤ 2 ∧ σ2 = [some (.ref a), some (.ref dp), some (.ref pa), some (.ref lp), some (.int ro), some ki, some (.int cc), some (.str ru), some (.int lv), some (.ref q)]) (fun N hN => ?_) fun σ2 H10 hv => ?_
      · have n1 := hN _ _ ⟨Same.refl H9, q, rs, hq, hr2, rfl⟩
        walk_at ""
        refine ite2 (fun _ => ⟨cdiv, by decide, ite2 (fun _ => ⟨Nat.zero_le _, fun p hp => hN _ _ ⟨same_new hp _, p, [], SqT.of upd_same, by decide, rfl⟩⟩) fun _ => n1⟩) fun _ => n1
      clear hq hr2 rs q
      obtain ⟨s90, q, rs, hq, hr2, rfl⟩ := hv
      have s40 := (s48.trans s89).trans s90
      clear s48 s89 s90
      have s20 := s3.trans s40
      have hpa' := s20 _ _ hpa
      walk_at ""
      refine ⟨⟨_, SqL.of (s40 _ _ hlat)⟩, ?_⟩
      (try walk_at "")
      have hul : (0 : Int) < ((us.length : Nat) : Int) := by omega
      have m0 := Int.emod_nonneg (cc / 240) (show ((us.length : Nat) : Int) ≠ 0 by omega)
      have m1 := Int.emod_lt_of_pos (cc / 240) hul
      obtain ⟨j, hj⟩ : ∃ j : Nat, cc / 240 % ((us.length : Nat) : Int) = j := ⟨(cc / 240 % ((us.length : Nat) : Int)).toNat, by omega⟩
      have hju : j < us.length := by omega
      obtain ⟨S, hSm, rS⟩ := RepL.at hSs (List.getElem?_eq_getElem hju)
      refine ⟨cdiv, _, .inl (SqL.of hpa'), hul, _, .inl (SqL.of hpa'), us[j], by rw [hj]; exact atI_nat (List.getElem?_eq_getElem hju), sz1000 (show 4 ≤ 100000 by decide), fun p hp => ?_⟩
      have sp := same_new hp (.tup [V.int lv, V.str ru, us[j], V.ref q])
      have hl10 := (s40.trans sp) _ _ hlat
      have s2p := s20.trans sp
      refine ⟨ls, hl10, sz1000' (by omega), s2p.upd hlp, snocN L ls.length ⟨lv, ru, S, rs⟩, ls ++ [.ref p], some ki, some (.int cc), some (.str ru), some (.int lv), some (.ref q), ?_, upd_same, by rw [List.length_append, hlen]; rfl, ?_, ?_⟩
      · have er : roomL (snocN L ls.length ⟨lv, ru, S, rs⟩) (i + 1) = lv := by
          unfold roomL
          rw [if_neg (by omega), Nat.add_sub_cancel, ← hlen, snocN_eq]
        rw [er]
      · exact RepNs.snoc ((hR.same (s40.trans sp)).keepL hl10) ⟨p, us[j], q, rfl, (SqT.of upd_same).keepL hl10, (rS.same s2p).keepL hl10, (sp.seqT hq).keepL hl10⟩
      · rw [hlen]
        exact ok.snoc _ (oSs S hSm) hr2 hru ⟨lv0, by rw [hro]; exact lv1, by show lv ≤ _; rcases oc with ⟨o, _⟩ | ⟨o, _⟩ <;> omega⟩
    · obtain ⟨s3, L, ls, u5, u6, u7, u8, u9, rfl, hlat, hlen, hR, ok⟩ := hv
      exact hN _ _ ⟨s3, L, ls, _, _, _, _, _, _, rfl, hlat, by omega, by omega, hR, by rw [hlen]; exact ok⟩
  obtain ⟨s3, L, ls, o, u5, u6, u7, u8, u9, rfl, hlat, h1, h7, hR, ok⟩ := hv
  walk_at ""
  exact k lp L ls H3 (s2.trans s3) hlat hR ok h1 h7
end
section
variable {P : Program} {w : World} {K : PySem.W.Frag} {mg : Str → Option Value} {base0 : Heap} {D : Defs}
def rdt (l : List Rf) : List Dt := l.map fun R => match R with | .n i => Dt.int i | .s t => Dt.str t
def Ln.dt (L : Ln) : Dt := .tup [.int L.lev, .str L.ru, L.st.dt, .tup (rdt L.rs)]
theorem RepN.repD {H : Hp} {L : Ln} {v : V} (h : RepN K H L v) : RepD K H L.dt v := by
  obtain ⟨a, x, b, rfl, h2, h3, h4⟩ := h
  exact RepD.t4 h2 (.int _) (.str _) h3.repD (rv_repD h4)
theorem RepNs.repD {H : Hp} {L : Nat → Ln} {ls : List V} {p : Addr} (h : RepNs K H L ls) (hp : SqL K H p ls) : RepD K H (.lst ((List.range ls.length).map fun i => (L i).dt)) (.ref p) :=
  .lst hp (by simp) fun j d x h1 h2 => by
    have hj := (List.getElem?_eq_some_iff.mp h2).1
    rw [List.getElem?_map, List.getElem?_range hj] at h1
    cases h1
    exact (h j x h2).repD
theorem RepNs.repT {H : Hp} {L : Nat → Ln} {ls : List V} {p : Addr} (h : RepNs K H L ls) (hp : SqT K H p ls) : RepD K H (.tup ((List.range ls.length).map fun i => (L i).dt)) (.ref p) :=
  .tup hp (by simp) fun j d x h1 h2 => by
    have hj := (List.getElem?_eq_some_iff.mp h2).1
    rw [List.getElem?_map, List.getElem?_range hj] at h1
    cases h1
    exact (h j x h2).repD
theorem Ln.dep {L : Ln} (h : L.st.deep ≤ 10) : Dt.dep L.dt ≤ 20 := by
  have h1 := Stm.dep_dt L.st
  have h3 : Dt.dep (.tup (rdt L.rs)) ≤ 2 := rv_dep L.rs
  show Dt.deps _ + 1 ≤ 20
  refine Nat.succ_le_succ (deps_le (k := 19) fun d hd => ?_)
  simp only [List.mem_cons, List.not_mem_nil, or_false] at hd
  rcases hd with rfl | rfl | rfl | rfl
  · exact Nat.zero_le _
  · exact Nat.zero_le _
  · omega
  · omega
theorem lns_dep {L : Nat → Ln} {n : Nat} (h : ∀ i, i < n → (L i).st.deep ≤ 10) : Dt.deps ((List.range n).map fun i => (L i).dt) ≤ 20 := deps_le fun d hd => by
  obtain ⟨i, hi, rfl⟩ := List.mem_map.mp hd
  exact Ln.dep (h i (List.mem_range.mp hi))
def LvL (L : Nat → Ln) (n : Nat) : Prop := ∀ i, i < n → (o1 (L i).ru : Int) ≤ (L i).lev ∧ (L i).lev ≤ roomL L i + o1 (L i).ru ∧ (L i).lev ≤ 60
def rusL (L : Nat → Ln) (n : Nat) : List Str := (List.range n).map fun i => (L i).ru
def levL (L : Nat → Ln) (i : Nat) : Nat := (L i).lev.toNat
theorem rusL_get {L : Nat → Ln} {n i : Nat} (h : i < n) : (rusL L n).getD i "" = (L i).ru := by
  simp [rusL, List.getD_eq_getElem?_getD, h]
theorem LvL.ok {L : Nat → Ln} {n : Nat} (h : LvL L n) : LvOk (rusL L n) (levL L) n := fun j hj => by
  obtain ⟨h1, h2, h3⟩ := h j hj
  rw [rusL_get hj]
  have er : ((room (levL L) j : Nat) : Int) = roomL L j := by
    unfold room roomL
    split
    · rfl
    · have := h (j - 1) (by omega)
      unfold levL
      omega
  have ej : ((levL L j : Nat) : Int) = (L j).lev := by unfold levL; omega
  omega
theorem LvL.at {L : Nat → Ln} {n i : Nat} (h : LvL L n) (hi : i < n) : (L i).lev = (levL L i : Int) ∧ (L i).ru = (rusL L n).getD i "" := by
  obtain ⟨h1, _⟩ := h i hi
  rw [rusL_get hi]
  unfold levL
  refine ⟨?_, rfl⟩
  omega
theorem all_beq (bs cs : List Bool) (h1 : bs = cs) : ((List.range bs.length).all fun i => bs.getD i false == cs.getD i false) = true := by
  subst h1
  exact List.all_eq_true.mpr fun i _ => by simp
theorem rev_range {n : Nat} {F : Nat → Bool} : ((List.range n).map fun i => F (n - 1 - i)).reverse = (List.range n).map F := by
  refine List.ext_getElem? fun i => ?_
  by_cases hi : i < n
  · rw [List.getElem?_reverse (by simpa using hi)]
    simp only [List.length_map, List.length_range, List.getElem?_map]
    rw [List.getElem?_range (by omega), List.getElem?_range hi]
    simp only [Option.map_some]
    congr 2
    omega
  · rw [List.getElem?_eq_none (by simpa using hi), List.getElem?_eq_none (by simpa using hi)]
theorem ok_law (T : Tx K mg D) : FnOk P w K mg base0 CX0 60 D.a_law D.d_law ["_law_script"] (spLaw K) := by
  have G_lines_L := ok_lines_L (P := P) (w := w) (base0 := base0) T
  have G_boxes := ok_boxes (P := P) (w := w) (base0 := base0) T
  have G_follows := ok_follows (P := P) (w := w) (base0 := base0) T
  have G_due_L := ok_due_L (P := P) (w := w) (base0 := base0) T
  refine T.F_law.ok sc_law (fun vs H Q E h => ?_) (fun cdv A outer s H vs Q E hr h => ?_)
  · obtain ⟨a, ns, rfl, _⟩ := h; rfl
  obtain ⟨a, ns, rfl, hS, hl, k⟩ := h
  have hu := hr.units
  have hr_lines_L : Room 12 _ := hr.mono (by decide)
  have hr_boxes : Room 4 _ := hr.mono (by decide)
  have hr_follows : Room 23 _ := hr.mono (by decide)
  have hr_due_L : Room 3 _ := hr.mono (by decide)
  refine ⟨_, (pss_cons (ps_set (i := 1) sc_law.nd (by rfl) (by walk_at "o") (pe_call G_lines_L hr_lines_L (by rfl) T.m_lines_L T.F_lines_L.kp T.b_lines_L .nil pass0 (pa_cons (pv 0) pa_nil)))
    (pss_cons (ps_set (i := 2) sc_law.nd (by rfl) (by walk_at "o") (pe_callTy (callA_tuple K) (by rfl) T.z_tuple (by rfl) (pa_cons (pv 1) pa_nil)))
    (pss_cons (ps_set (i := 3) sc_law.nd (by rfl) (by walk_at "o") (pe_call G_boxes hr_boxes (by rfl) T.m_boxes T.F_boxes.kp T.b_boxes .nil pass0 (pa_cons (pv 2) pa_nil)))
    (pss_cons (ps_setComp (i := 4) 1 [2, 3] ["_law_k", "_law_handed", "_law_paths_here"] sc_law.nd (by rfl) (by rfl) ⟨by rfl, by rfl, by rfl, by rfl, by rfl, by rfl, by rfl⟩ (by rfl) (pi_range1 (by rfl) T.z_range (pa_cons (pe_callB (callA_len K) (by rfl) T.z_len PySem.boot_len (pa_cons (pv 1) pa_nil)) pa_nil)) (fun _ _ _ _ => pg_name (i := 0) (show List.Nodup (["_law_k", "_law_handed", "_law_paths_here"] : List Str) by decide +kernel) (by rfl) (Or.inl (by rfl)) (Or.inr (by rfl))) (gName_keep (by decide)) (fun _ _ _ _ => pif_nil) (fun _ _ _ _ => (pe_call G_follows hr_follows (by rfl) T.m_follows T.F_follows.kp T.b_follows .nil pass0 (pa_cons (pv 1) (pa_cons (pv 2) (pa_cons (pv 0) pa_nil))))))
    (pss_cons (ps_if (PW.pt (pw_or (pt_not (pt_val (pe_callB (callA_all K (by rfl)) (by rfl) T.z_all (by rfl) (pa_cons (pe_comp 1 [] ["_law_one"] ⟨by rfl, by rfl, by rfl, by rfl, by rfl, by rfl, by rfl⟩ (by rfl) (pi_any K (pv 4)) (fun _ _ _ _ => pg_name (i := 0) (show List.Nodup (["_law_one"] : List Str) by decide +kernel) (by rfl) (Or.inl (by rfl)) (Or.inr (by rfl))) (gName_keep (by decide)) (fun _ _ _ _ => pif_nil) (fun _ _ _ _ => (pe_callB (callB_inst K "bool") (by rfl) T.z_isinstance (by rfl) (pa_cons (pv 0) (pa_cons (pe_bltn (v := .ty "bool") (by rfl) T.z_bool (by rfl) (by rfl)) pa_nil))))) pa_nil)))) (pw_or1 (pt_cmpR (opL_ne K hu) (pv 4) (pe_comp 1 [1] ["_law_k", "_law_lines_here"] ⟨by rfl, by rfl, by rfl, by rfl, by rfl, by rfl, by rfl⟩ (by rfl) (pi_range1 (by rfl) T.z_range (pa_cons (pe_callB (callA_len K) (by rfl) T.z_len PySem.boot_len (pa_cons (pv 1) pa_nil)) pa_nil)) (fun _ _ _ _ => pg_name (i := 0) (show List.Nodup (["_law_k", "_law_lines_here"] : List Str) by decide +kernel) (by rfl) (Or.inl (by rfl)) (Or.inr (by rfl))) (gName_keep (by decide)) (fun _ _ _ _ => pif_nil) (fun _ _ _ _ => (pe_call G_due_L hr_due_L (by rfl) T.m_due_L T.F_due_L.kp T.b_due_L .nil pass0 (pa_cons (pv 1) (pa_cons (pv 0) pa_nil))))) (nomark _))))) (pss_one (ps_ret pe_bl)) pss_nil)
    (pss_cons (ps_setComp (i := 5) 1 [2, 3] ["_law_k", "_law_handed", "_law_paths_here"] sc_law.nd (by rfl) (by rfl) ⟨by rfl, by rfl, by rfl, by rfl, by rfl, by rfl, by rfl⟩ (by rfl) (pi_rr (by rfl) T.z_reversed (by rfl) T.z_range (pa_cons (pe_callB (callA_len K) (by rfl) T.z_len PySem.boot_len (pa_cons (pv 1) pa_nil)) pa_nil)) (fun _ _ _ _ => pg_name (i := 0) (show List.Nodup (["_law_k", "_law_handed", "_law_paths_here"] : List Str) by decide +kernel) (by rfl) (Or.inl (by rfl)) (Or.inr (by rfl))) (gName_keep (by decide)) (fun _ _ _ _ => pif_nil) (fun _ _ _ _ => (pe_call G_follows hr_follows (by rfl) T.m_follows T.F_follows.kp T.b_follows .nil pass0 (pa_cons (pv 1) (pa_cons (pv 2) (pa_cons (pv 0) pa_nil))))))
    (pss_one (ps_ret (pe_and (pe_cmpR (opL_eq K hu) (pe_rvL (pv 5) (pe_un un_neg pe_int)) (pv 4) (nomark _)) (pe_one (pe_cmpR (opL_eq K hu) (pv 2) (pe_callTy (callA_tuple K) (by rfl) T.z_tuple (by rfl) (pa_cons (pv 1) pa_nil)) (nomark _)))))))))))), ?_⟩
  walk_at "S"
  refine seq_cut (fun σ' H' => ∃ (lp : Addr) (L : Nat → Ln) (ls : List V), σ' = [some (.ref a), some (.ref lp), none, none, none, none] ∧ H' lp = some (.lst ls) ∧ RepNs K H' L ls ∧ Ls4 L ls.length ∧ 1 ≤ ls.length ∧ ls.length ≤ 7) (fun N hN => ?_) fun σ' H1 hv => ?_
  · walk_at ""
    exact ⟨a, ns, rfl, hS, hl, fun lp L ls H1 s1 h1 h2 h3 h4 h5 => hN _ _ ⟨lp, L, ls, rfl, h1, h2, h3, h4, h5⟩⟩
  obtain ⟨lp, L, ls, rfl, hlp, hNs, ok, hl1, hl7⟩ := hv
  have hlv : LvL L ls.length := fun i hi => by have := ok.lv i hi; omega
  have hvo := hlv.ok
  have hst : ∀ i, i < ls.length → StOk 10 (L i).st := fun i hi => (ok.st i hi).mono (by decide)
  refine seq_cut (fun σ' H' => Same H1 H' ∧ ∃ hp, SqT K H' hp ls ∧ σ' = [some (.ref a), some (.ref lp), some (.ref hp), none, none, none]) (fun N hN => ?_) fun σ' H2 hv => ?_
  · walk_at ""
    exact ⟨_, .inl ⟨SqL.of hlp, fun l hl' => hN _ _ ⟨same_new hl' _, l, SqT.of upd_same, rfl⟩⟩⟩
  obtain ⟨s2, hp, hhp, rfl⟩ := hv
  replace hlp := s2 _ _ hlp
  replace hNs := hNs.same s2
  clear s2
  refine seq_cut (fun σ' H' => Same H2 H' ∧ ∃ ba ps, SqT K H' ba ps ∧ ps.length = ls.length ∧ RepPs K H' (fun i => pathAt (rusL L ls.length) (levL L) (i + 1)) ps ∧ σ' = [some (.ref a), some (.ref lp), some (.ref hp), some (.ref ba), none, none]) (fun N hN => ?_) fun σ' H3 hv => ?_
  · walk_at ""
    have hfit : ∀ i, i ≤ ls.length → fitAt (fun i => ((levL L i : Int), (rusL L ls.length).getD i "")) i = some (pathAt (rusL L ls.length) (levL L) i) := fun i hi => fit_path hvo i hi fun j _ => rfl
    refine ⟨hp, ls, _, rfl, hhp, RepNs.ln hNs fun i hi => hlv.at hi, by omega, by rw [hfit _ (Nat.le_refl _)]; simp, fun b ps H' s' hb hpl hP => hN _ _ ⟨s', b, ps, hb, hpl, fun i u hu => ?_, rfl⟩⟩
    have hi : i < ls.length := by have := (List.getElem?_eq_some_iff.mp hu).1; omega
    obtain ⟨aa, e, hs⟩ := hP i u hu
    refine ⟨aa, e, ?_⟩
    have e2 : (fitAt (fun i => ((levL L i : Int), (rusL L ls.length).getD i "")) (i + 1)).getD [] = pathAt (rusL L ls.length) (levL L) (i + 1) := by rw [hfit (i + 1) (by omega)]; rfl
    show SqT K H' aa (iv (pathAt (rusL L ls.length) (levL L) (i + 1)))
    rw [← e2]
    exact hs
  obtain ⟨s3, ba, ps, hba, hpl, hP, rfl⟩ := hv
  replace hlp := s3 _ _ hlp
  replace hNs := hNs.same s3
  replace hhp := s3.seqT hhp
  clear s3
  generalize hf : (fun i => pathAt (rusL L ls.length) (levL L) (i + 1)) = f at hP
  have hfol : ∀ (n : Nat) (H' : Hp) (Q' : VK), n < ls.length → Same H3 H' → (∀ H2, Same H' H2 → Q' (.bl (ansB L f n)) H2) → spFollows K [.ref hp, .ref ba, .int n] H' Q' E0 := fun n H' Q' hn s' kk =>
    ⟨n, hp, ba, ls, ps, L, f, rfl, s'.seqT hhp, hNs.same s', s'.seqT hba, hP.same s', by omega, by omega, Nat.le_trans (ok.rs n hn) (by decide), fun i hi => ok.ru i (by omega), fun i hi => hst i (by omega), kk⟩
  refine seq_cut (fun σ' H' => Same H3 H' ∧ ∃ fp, H' fp = some (.lst (((List.range ls.length).map (ansB L f)).map V.bl)) ∧ σ' = [some (.ref a), some (.ref lp), some (.ref hp), some (.ref ba), some (.ref fp), none]) (fun N hN => ?_) fun σ' H4 hv => ?_
  · walk_at ""
    refine ⟨_, .inl (SqL.of hlp), by omega, by omega, ?_⟩
    refine comp_range (fun i acc H' => Same H3 H' ∧ acc = ((List.range i).map (ansB L f)).map V.bl) ⟨Same.refl _, rfl⟩ (fun i acc H' hi hv => ?_) fun acc H' hv p hp' => ?_
    · obtain ⟨s4, rfl⟩ := hv
      have hi' : i < ls.length := by rw [Int.toNat_natCast] at hi; exact hi
      refine ⟨sz1000' (by rw [List.length_map, List.length_map, List.length_range]; omega), ?_⟩
      simp only [slotsC, List.replicate_succ, List.replicate_zero, List.map_cons, List.map_nil, List.nil_append, List.cons_append, List.getElem?_cons_zero, List.getElem?_cons_succ, Option.join_some]
      walk_at ""
      rw [Int.zero_add]
      refine hfol i H' _ hi' s4 fun H5 s5 => ⟨s4.trans s5, ?_⟩
      rw [List.range_succ, List.map_append, List.map_append]
      rfl
    · obtain ⟨s4, rfl⟩ := hv
      rw [Int.toNat_natCast]
      exact hN _ _ ⟨s4.trans (same_new hp' _), p, upd_same, rfl⟩
  obtain ⟨s4, fp, hfp, rfl⟩ := hv
  generalize hFs : (List.range ls.length).map (ansB L f) = Fs at hfp
  have hFl : Fs.length = ls.length := by rw [← hFs, List.length_map, List.length_range]
  refine seq_cut (fun σ' H' => Same H4 H' ∧ σ' = [some (.ref a), some (.ref lp), some (.ref hp), some (.ref ba), some (.ref fp), none]) (fun N hN => ?_) fun σ' H5 hv => ?_
  · walk_at ""
    refine .inl ⟨⟨_, SqL.of hfp⟩, ?_⟩
    refine comp_list (xs := Fs.map V.bl) (fun i acc H' => Same H4 H' ∧ acc = ((List.range i).map fun _ => true).map V.bl) ⟨Same.refl _, rfl⟩ (fun i acc H' _ hv => SqL.of (hv.1 _ _ hfp)) (fun i x acc H' hx hv => ?_) fun acc H' hv p hp' => ?_
    · obtain ⟨s5, rfl⟩ := hv
      have hi : i < ls.length := by have := (List.getElem?_eq_some_iff.mp hx).1; rw [List.length_map] at this; omega
      obtain ⟨b, rfl⟩ : ∃ b, x = .bl b := ⟨_, bs_at (H := H) hx⟩
      refine ⟨sz1000' (by rw [List.length_map, List.length_map, List.length_range]; omega), ?_⟩
      simp only [slotsC, List.replicate_succ, List.replicate_zero, List.map_cons, List.map_nil, List.nil_append, List.cons_append, List.getElem?_cons_zero, List.getElem?_cons_succ, Option.join_some]
      walk_at ""
      refine ⟨true, rfl, s5, ?_⟩
      rw [List.range_succ, List.map_append, List.map_append]
      rfl
    · obtain ⟨s5, rfl⟩ := hv
      (try walk_at "")
      refine ⟨_, SqL.of upd_same, ?_⟩
      have e : (((List.range (Fs.map V.bl).length).map fun _ => true).all id) = true := List.all_eq_true.mpr fun b hb => by obtain ⟨_, _, rfl⟩ := List.mem_map.mp hb; rfl
      rw [e, if_neg (by decide)]
      have s6 := s5.trans (same_new hp' (.lst (((List.range (Fs.map V.bl).length).map fun _ => true).map V.bl)))
      generalize upd H' p (HO.lst (((List.range (Fs.map V.bl).length).map fun _ => true).map V.bl)) = H6 at s6
      have s36 := s4.trans s6
      refine ⟨_, .inl (SqL.of (s36 _ _ hlp)), by omega, by omega, ?_⟩
      refine comp_range (fun i acc H' => Same H6 H' ∧ acc = ((List.range i).map (ansB L f)).map V.bl) ⟨Same.refl _, rfl⟩ (fun i acc H' hi hv => ?_) fun acc H' hv p hp' => ?_
      · obtain ⟨s7, rfl⟩ := hv
        have hi' : i < ls.length := by rw [Int.toNat_natCast] at hi; exact hi
        refine ⟨sz1000' (by rw [List.length_map, List.length_map, List.length_range]; omega), ?_⟩
        simp only [slotsC, List.replicate_succ, List.replicate_zero, List.map_cons, List.map_nil, List.nil_append, List.cons_append, List.getElem?_cons_zero, List.getElem?_cons_succ, Option.join_some]
        walk_at ""
        rw [Int.zero_add]
        have s37 := s36.trans s7
        refine ⟨lp, ls, L, rusL L ls.length, levL L, i, rfl, hi', SqL.of (s37 _ _ hlp), hNs.same s37, fun i hi => hlv.at hi, by omega, fun j hj => (hvo j hj).1, fun j hj => ok.ru j (by omega), fun j hj => hst j (by omega), fun H8 s8 => ⟨s7.trans s8, ?_⟩⟩
        rw [hf, List.range_succ, List.map_append, List.map_append]
        rfl
      · obtain ⟨s7, rfl⟩ := hv
        rw [Int.toNat_natCast, hFs]
        have s8 := s7.trans (same_new hp' (.lst (Fs.map V.bl)))
        rw [w_neL]
        refine ⟨Fs, Fs, SqL.of ((s6.trans s8) _ _ hfp), SqL.of upd_same, rfl, _, rfl, ?_⟩
        rw [all_beq Fs Fs rfl, if_neg (by decide)]
        exact hN _ _ ⟨s6.trans s8, rfl⟩
  obtain ⟨s5, rfl⟩ := hv
  have s35 := s4.trans s5
  refine seq_cut (fun σ' H' => Same H5 H' ∧ ∃ gp, H' gp = some (.lst (((List.range ls.length).map fun i => ansB L f (ls.length - 1 - i)).map V.bl)) ∧ σ' = [some (.ref a), some (.ref lp), some (.ref hp), some (.ref ba), some (.ref fp), some (.ref gp)]) (fun N hN => ?_) fun σ' H6 hv => ?_
  · walk_at ""
    refine ⟨_, .inl (SqL.of (s35 _ _ hlp)), by omega, by omega, ?_⟩
    refine comp_down (fun i acc H' => Same H5 H' ∧ acc = ((List.range i).map fun i => ansB L f (ls.length - 1 - i)).map V.bl) ⟨Same.refl _, rfl⟩ (fun i acc H' hi hv => ?_) fun acc H' hv p hp' => ?_
    · obtain ⟨s6, rfl⟩ := hv
      have hi' : i < ls.length := by rw [Int.toNat_natCast] at hi; exact hi
      refine ⟨sz1000' (by rw [List.length_map, List.length_map, List.length_range]; omega), ?_⟩
      simp only [slotsC, List.replicate_succ, List.replicate_zero, List.map_cons, List.map_nil, List.nil_append, List.cons_append, List.getElem?_cons_zero, List.getElem?_cons_succ, Option.join_some]
      walk_at ""
      rw [show ((ls.length : Nat) : Int) - 1 - (i : Int) = ((ls.length - 1 - i : Nat) : Int) by omega]
      refine hfol (ls.length - 1 - i) H' _ (by omega) (s35.trans s6) fun H7 s7 => ⟨s6.trans s7, ?_⟩
      rw [List.range_succ, List.map_append, List.map_append]
      rfl
    · obtain ⟨s6, rfl⟩ := hv
      rw [Int.toNat_natCast]
      exact hN _ _ ⟨s6.trans (same_new hp' _), p, upd_same, rfl⟩
  obtain ⟨s6, gp, hgp, rfl⟩ := hv
  have s36 := s35.trans s6
  walk_at ""
  refine ⟨1, rfl, rfl, gp, _, rfl, SqL.of hgp, fun p hp' => .inl ⟨p, fp, Fs, Fs, rfl, rfl, SqL.of ?_, ?_, rfl, true, by rw [all_beq Fs Fs rfl], ?_⟩⟩
  · rw [upd_same, ← List.map_reverse, rev_range, hFs]
  · exact (same_new hp' _).seq (SqL.of ((s5.trans s6) _ _ hfp))
  rw [if_pos rfl]
  have s37 := s36.trans (same_new hp' (.lst (List.map V.bl ((List.range ls.length).map fun i => ansB L f (ls.length - 1 - i))).reverse))
  refine ⟨_, .inl ⟨SqL.of (s37 _ _ hlp), fun l hl' => .inr ?_⟩⟩
  have sl := s37.trans (same_new hl' (.tup ls))
  refine ⟨_, _, (hNs.same sl).repT (sl.seqT hhp), (hNs.same sl).repT (SqT.of upd_same), ?_, ?_⟩
  · have := lns_dep (L := L) (n := ls.length) fun i hi => (hst i (by omega)).2.1
    show Dt.deps _ + 1 ≤ 60
    omega
  · rw [decide_eq_true rfl]
    exact k _
end
theorem all_mk {l : PySem.W.OpenLaw} {w : World} {K : PySem.W.Frag} {h : Heap} {mg : Str → Option Value} {fa : Addr} (X : K.In h) (G : h.Ns mainGlobals mg) (hfa : mg "law" = some (.ref fa)) {f0 f1 f2 f3 f4 f5 f6 f7 f8 f9 f10 f11 f12 f13 f14 f15 f16 f17 f18 f19 f20 f21 f22 f23 f24 f25 f26 f27 f28 f29 f30 f31 f32 f33 f34 f35 f36 f37 f38 f39 f40 f41 f42 f43 f44 f45 f46 f47 f48 f49 f50 f51 f52 f53 f54 f55 f56 f57 f58 f59 f60 : Addr}
    {od0 an0 od1 an1 od2 an2 od3 an3 od4 an4 od5 an5 od6 an6 od7 an7 od8 an8 od9 an9 od10 an10 od11 an11 od12 an12 od13 an13 od14 an14 od15 an15 od16 an16 od17 an17 od18 an18 od19 an19 od20 an20 od21 an21 od22 an22 od23 an23 od24 an24 od25 an25 od26 an26 od27 an27 od28 an28 od29 an29 od30 an30 od31 an31 od32 an32 od33 an33 od34 an34 od35 an35 od36 an36 od37 an37 od38 an38 od39 an39 od40 an40 od41 an41 od42 an42 od43 an43 od44 an44 od45 an45 od46 an46 od47 an47 od48 an48 od49 an49 od50 an50 od51 an51 od52 an52 od53 an53 od54 an54 od55 an55 od56 an56 od57 an57 od58 an58 od59 an59 od60 an60 : Option Addr} {sl0 sl1 sl2 sl3 sl4 sl5 sl6 sl7 sl8 sl9 sl10 sl11 sl12 sl13 sl14 sl15 sl16 sl17 sl18 sl19 sl20 sl21 sl22 sl23 sl24 sl25 sl26 sl27 sl28 sl29 sl30 sl31 sl32 sl33 sl34 sl35 sl36 sl37 sl38 sl39 sl40 sl41 sl42 sl43 sl44 sl45 sl46 sl47 sl48 sl49 sl50 sl51 sl52 sl53 sl54 sl55 sl56 sl57 sl58 sl59 sl60 : Array (Option Value)} {oc0 kV0 dc0 pm0 cd0 ct0 oc1 kV1 dc1 pm1 cd1 ct1 oc2 kV2 dc2 pm2 cd2 ct2 oc3 kV3 dc3 pm3 cd3 ct3 oc4 kV4 dc4 pm4 cd4 ct4 oc5 kV5 dc5 pm5 cd5 ct5 oc6 kV6 dc6 pm6 cd6 ct6 oc7 kV7 dc7 pm7 cd7 ct7 oc8 kV8 dc8 pm8 cd8 ct8 oc9 kV9 dc9 pm9 cd9 ct9 oc10 kV10 dc10 pm10 cd10 ct10 oc11 kV11 dc11 pm11 cd11 ct11 oc12 kV12 dc12 pm12 cd12 ct12 oc13 kV13 dc13 pm13 cd13 ct13 oc14 kV14 dc14 pm14 cd14 ct14 oc15 kV15 dc15 pm15 cd15 ct15 oc16 kV16 dc16 pm16 cd16 ct16 oc17 kV17 dc17 pm17 cd17 ct17 oc18 kV18 dc18 pm18 cd18 ct18 oc19 kV19 dc19 pm19 cd19 ct19 oc20 kV20 dc20 pm20 cd20 ct20 oc21 kV21 dc21 pm21 cd21 ct21 oc22 kV22 dc22 pm22 cd22 ct22 oc23 kV23 dc23 pm23 cd23 ct23 oc24 kV24 dc24 pm24 cd24 ct24 oc25 kV25 dc25 pm25 cd25 ct25 oc26 kV26 dc26 pm26 cd26 ct26 oc27 kV27 dc27 pm27 cd27 ct27 oc28 kV28 dc28 pm28 cd28 ct28 oc29 kV29 dc29 pm29 cd29 ct29 oc30 kV30 dc30 pm30 cd30 ct30 oc31 kV31 dc31 pm31 cd31 ct31 oc32 kV32 dc32 pm32 cd32 ct32 oc33 kV33 dc33 pm33 cd33 ct33 oc34 kV34 dc34 pm34 cd34 ct34 oc35 kV35 dc35 pm35 cd35 ct35 oc36 kV36 dc36 pm36 cd36 ct36 oc37 kV37 dc37 pm37 cd37 ct37 oc38 kV38 dc38 pm38 cd38 ct38 oc39 kV39 dc39 pm39 cd39 ct39 oc40 kV40 dc40 pm40 cd40 ct40 oc41 kV41 dc41 pm41 cd41 ct41 oc42 kV42 dc42 pm42 cd42 ct42 oc43 kV43 dc43 pm43 cd43 ct43 oc44 kV44 dc44 pm44 cd44 ct44 oc45 kV45 dc45 pm45 cd45 ct45 oc46 kV46 dc46 pm46 cd46 ct46 oc47 kV47 dc47 pm47 cd47 ct47 oc48 kV48 dc48 pm48 cd48 ct48 oc49 kV49 dc49 pm49 cd49 ct49 oc50 kV50 dc50 pm50 cd50 ct50 oc51 kV51 dc51 pm51 cd51 ct51 oc52 kV52 dc52 pm52 cd52 ct52 oc53 kV53 dc53 pm53 cd53 ct53 oc54 kV54 dc54 pm54 cd54 ct54 oc55 kV55 dc55 pm55 cd55 ct55 oc56 kV56 dc56 pm56 cd56 ct56 oc57 kV57 dc57 pm57 cd57 ct57 oc58 kV58 dc58 pm58 cd58 ct58 oc59 kV59 dc59 pm59 cd59 ct59 oc60 kV60 dc60 pm60 cd60 ct60 : Value}
    {oC_Ahead : Addr} (oa_Ahead : PySem.W.nsIn K mainGlobals "Ahead" = some (some (.ref oC_Ahead)))
    (a0 : PySem.W.nsIn K mainGlobals "seen" = some (some (.ref f0))) (l0 : K.lookup f0 = some ⟨oc0, od0, .func (PySem.W.fnOf "seen" "seen" (defArgs s_seen) (defBody s_seen) (defScope s_seen) .none kV0 dc0 pm0 an0 cd0 ct0), sl0⟩) (c0 : PySem.W.codeIn K cd0 "seen" = true) (k0 : PySem.W.keepIn K (.ref f0) = true)
    (a1 : PySem.W.nsIn K mainGlobals "box_seen" = some (some (.ref f1))) (l1 : K.lookup f1 = some ⟨oc1, od1, .func (PySem.W.fnOf "box_seen" "box_seen" (defArgs s_box_seen) (defBody s_box_seen) (defScope s_box_seen) .none kV1 dc1 pm1 an1 cd1 ct1), sl1⟩) (c1 : PySem.W.codeIn K cd1 "box_seen" = true) (k1 : PySem.W.keepIn K (.ref f1) = true)
    (a2 : PySem.W.nsIn K mainGlobals "begins_with" = some (some (.ref f2))) (l2 : K.lookup f2 = some ⟨oc2, od2, .func (PySem.W.fnOf "begins_with" "begins_with" (defArgs s_begins_with) (defBody s_begins_with) (defScope s_begins_with) .none kV2 dc2 pm2 an2 cd2 ct2), sl2⟩) (c2 : PySem.W.codeIn K cd2 "begins_with" = true) (k2 : PySem.W.keepIn K (.ref f2) = true)
    (a3 : PySem.W.nsIn K mainGlobals "end_of" = some (some (.ref f3))) (l3 : K.lookup f3 = some ⟨oc3, od3, .func (PySem.W.fnOf "end_of" "end_of" (defArgs s_end_of) (defBody s_end_of) (defScope s_end_of) .none kV3 dc3 pm3 an3 cd3 ct3), sl3⟩) (c3 : PySem.W.codeIn K cd3 "end_of" = true) (k3 : PySem.W.keepIn K (.ref f3) = true)
    (a4 : PySem.W.nsIn K mainGlobals "opens" = some (some (.ref f4))) (l4 : K.lookup f4 = some ⟨oc4, od4, .func (PySem.W.fnOf "opens" "opens" (defArgs s_opens) (defBody s_opens) (defScope s_opens) .none kV4 dc4 pm4 an4 cd4 ct4), sl4⟩) (c4 : PySem.W.codeIn K cd4 "opens" = true) (k4 : PySem.W.keepIn K (.ref f4) = true)
    (a5 : PySem.W.nsIn K mainGlobals "boxes" = some (some (.ref f5))) (l5 : K.lookup f5 = some ⟨oc5, od5, .func (PySem.W.fnOf "boxes" "boxes" (defArgs s_boxes) (defBody s_boxes) (defScope s_boxes) .none kV5 dc5 pm5 an5 cd5 ct5), sl5⟩) (c5 : PySem.W.codeIn K cd5 "boxes" = true) (k5 : PySem.W.keepIn K (.ref f5) = true)
    (a6 : PySem.W.nsIn K mainGlobals "fitting_boxes" = some (some (.ref f6))) (l6 : K.lookup f6 = some ⟨oc6, od6, .func (PySem.W.fnOf "fitting_boxes" "fitting_boxes" (defArgs s_fitting_boxes) (defBody s_fitting_boxes) (defScope s_fitting_boxes) .none kV6 dc6 pm6 an6 cd6 ct6), sl6⟩) (c6 : PySem.W.codeIn K cd6 "fitting_boxes" = true) (k6 : PySem.W.keepIn K (.ref f6) = true)
    (a7 : PySem.W.nsIn K mainGlobals "boxes_behind" = some (some (.ref f7))) (l7 : K.lookup f7 = some ⟨oc7, od7, .func (PySem.W.fnOf "boxes_behind" "boxes_behind" (defArgs s_boxes_behind) (defBody s_boxes_behind) (defScope s_boxes_behind) .none kV7 dc7 pm7 an7 cd7 ct7), sl7⟩) (c7 : PySem.W.codeIn K cd7 "boxes_behind" = true) (k7 : PySem.W.keepIn K (.ref f7) = true)
    (a8 : PySem.W.nsIn K mainGlobals "begins_and_goes_on" = some (some (.ref f8))) (l8 : K.lookup f8 = some ⟨oc8, od8, .func (PySem.W.fnOf "begins_and_goes_on" "begins_and_goes_on" (defArgs s_begins_and_goes_on) (defBody s_begins_and_goes_on) (defScope s_begins_and_goes_on) .none kV8 dc8 pm8 an8 cd8 ct8), sl8⟩) (c8 : PySem.W.codeIn K cd8 "begins_and_goes_on" = true) (k8 : PySem.W.keepIn K (.ref f8) = true)
    (a9 : PySem.W.nsIn K mainGlobals "is_name" = some (some (.ref f9))) (l9 : K.lookup f9 = some ⟨oc9, od9, .func (PySem.W.fnOf "is_name" "is_name" (defArgs s_is_name) (defBody s_is_name) (defScope s_is_name) .none kV9 dc9 pm9 an9 cd9 ct9), sl9⟩) (c9 : PySem.W.codeIn K cd9 "is_name" = true) (k9 : PySem.W.keepIn K (.ref f9) = true)
    (a10 : PySem.W.nsIn K mainGlobals "is_letter" = some (some (.ref f10))) (l10 : K.lookup f10 = some ⟨oc10, od10, .func (PySem.W.fnOf "is_letter" "is_letter" (defArgs s_is_letter) (defBody s_is_letter) (defScope s_is_letter) .none kV10 dc10 pm10 an10 cd10 ct10), sl10⟩) (c10 : PySem.W.codeIn K cd10 "is_letter" = true) (k10 : PySem.W.keepIn K (.ref f10) = true)
    (a11 : PySem.W.nsIn K mainGlobals "parts" = some (some (.ref f11))) (l11 : K.lookup f11 = some ⟨oc11, od11, .func (PySem.W.fnOf "parts" "parts" (defArgs s_parts) (defBody s_parts) (defScope s_parts) .none kV11 dc11 pm11 an11 cd11 ct11), sl11⟩) (c11 : PySem.W.codeIn K cd11 "parts" = true) (k11 : PySem.W.keepIn K (.ref f11) = true)
    (a12 : PySem.W.nsIn K mainGlobals "terms_in" = some (some (.ref f12))) (l12 : K.lookup f12 = some ⟨oc12, od12, .func (PySem.W.fnOf "terms_in" "terms_in" (defArgs s_terms_in) (defBody s_terms_in) (defScope s_terms_in) .none kV12 dc12 pm12 an12 cd12 ct12), sl12⟩) (c12 : PySem.W.codeIn K cd12 "terms_in" = true) (k12 : PySem.W.keepIn K (.ref f12) = true)
    (a13 : PySem.W.nsIn K mainGlobals "names_in" = some (some (.ref f13))) (l13 : K.lookup f13 = some ⟨oc13, od13, .func (PySem.W.fnOf "names_in" "names_in" (defArgs s_names_in) (defBody s_names_in) (defScope s_names_in) .none kV13 dc13 pm13 an13 cd13 ct13), sl13⟩) (c13 : PySem.W.codeIn K cd13 "names_in" = true) (k13 : PySem.W.keepIn K (.ref f13) = true)
    (a14 : PySem.W.nsIn K mainGlobals "free_terms_in" = some (some (.ref f14))) (l14 : K.lookup f14 = some ⟨oc14, od14, .func (PySem.W.fnOf "free_terms_in" "free_terms_in" (defArgs s_free_terms_in) (defBody s_free_terms_in) (defScope s_free_terms_in) .none kV14 dc14 pm14 an14 cd14 ct14), sl14⟩) (c14 : PySem.W.codeIn K cd14 "free_terms_in" = true) (k14 : PySem.W.keepIn K (.ref f14) = true)
    (a15 : PySem.W.nsIn K mainGlobals "free_in" = some (some (.ref f15))) (l15 : K.lookup f15 = some ⟨oc15, od15, .func (PySem.W.fnOf "free_in" "free_in" (defArgs s_free_in) (defBody s_free_in) (defScope s_free_in) .none kV15 dc15 pm15 an15 cd15 ct15), sl15⟩) (c15 : PySem.W.codeIn K cd15 "free_in" = true) (k15 : PySem.W.keepIn K (.ref f15) = true)
    (a16 : PySem.W.nsIn K mainGlobals "put" = some (some (.ref f16))) (l16 : K.lookup f16 = some ⟨oc16, od16, .func (PySem.W.fnOf "put" "put" (defArgs s_put) (defBody s_put) (defScope s_put) .none kV16 dc16 pm16 an16 cd16 ct16), sl16⟩) (c16 : PySem.W.codeIn K cd16 "put" = true) (k16 : PySem.W.keepIn K (.ref f16) = true)
    (a17 : PySem.W.nsIn K mainGlobals "by_again" = some (some (.ref f17))) (l17 : K.lookup f17 = some ⟨oc17, od17, .func (PySem.W.fnOf "by_again" "by_again" (defArgs s_by_again) (defBody s_by_again) (defScope s_by_again) .none kV17 dc17 pm17 an17 cd17 ct17), sl17⟩) (c17 : PySem.W.codeIn K cd17 "by_again" = true) (k17 : PySem.W.keepIn K (.ref f17) = true)
    (a18 : PySem.W.nsIn K mainGlobals "by_both" = some (some (.ref f18))) (l18 : K.lookup f18 = some ⟨oc18, od18, .func (PySem.W.fnOf "by_both" "by_both" (defArgs s_by_both) (defBody s_by_both) (defScope s_by_both) .none kV18 dc18 pm18 an18 cd18 ct18), sl18⟩) (c18 : PySem.W.codeIn K cd18 "by_both" = true) (k18 : PySem.W.keepIn K (.ref f18) = true)
    (a19 : PySem.W.nsIn K mainGlobals "by_left" = some (some (.ref f19))) (l19 : K.lookup f19 = some ⟨oc19, od19, .func (PySem.W.fnOf "by_left" "by_left" (defArgs s_by_left) (defBody s_by_left) (defScope s_by_left) .none kV19 dc19 pm19 an19 cd19 ct19), sl19⟩) (c19 : PySem.W.codeIn K cd19 "by_left" = true) (k19 : PySem.W.keepIn K (.ref f19) = true)
    (a20 : PySem.W.nsIn K mainGlobals "by_right" = some (some (.ref f20))) (l20 : K.lookup f20 = some ⟨oc20, od20, .func (PySem.W.fnOf "by_right" "by_right" (defArgs s_by_right) (defBody s_by_right) (defScope s_by_right) .none kV20 dc20 pm20 an20 cd20 ct20), sl20⟩) (c20 : PySem.W.codeIn K cd20 "by_right" = true) (k20 : PySem.W.keepIn K (.ref f20) = true)
    (a21 : PySem.W.nsIn K mainGlobals "by_either" = some (some (.ref f21))) (l21 : K.lookup f21 = some ⟨oc21, od21, .func (PySem.W.fnOf "by_either" "by_either" (defArgs s_by_either) (defBody s_by_either) (defScope s_by_either) .none kV21 dc21 pm21 an21 cd21 ct21), sl21⟩) (c21 : PySem.W.codeIn K cd21 "by_either" = true) (k21 : PySem.W.keepIn K (.ref f21) = true)
    (a22 : PySem.W.nsIn K mainGlobals "by_cases" = some (some (.ref f22))) (l22 : K.lookup f22 = some ⟨oc22, od22, .func (PySem.W.fnOf "by_cases" "by_cases" (defArgs s_by_cases) (defBody s_by_cases) (defScope s_by_cases) .none kV22 dc22 pm22 an22 cd22 ct22), sl22⟩) (c22 : PySem.W.codeIn K cd22 "by_cases" = true) (k22 : PySem.W.keepIn K (.ref f22) = true)
    (a23 : PySem.W.nsIn K mainGlobals "by_then" = some (some (.ref f23))) (l23 : K.lookup f23 = some ⟨oc23, od23, .func (PySem.W.fnOf "by_then" "by_then" (defArgs s_by_then) (defBody s_by_then) (defScope s_by_then) .none kV23 dc23 pm23 an23 cd23 ct23), sl23⟩) (c23 : PySem.W.codeIn K cd23 "by_then" = true) (k23 : PySem.W.keepIn K (.ref f23) = true)
    (a24 : PySem.W.nsIn K mainGlobals "by_use" = some (some (.ref f24))) (l24 : K.lookup f24 = some ⟨oc24, od24, .func (PySem.W.fnOf "by_use" "by_use" (defArgs s_by_use) (defBody s_by_use) (defScope s_by_use) .none kV24 dc24 pm24 an24 cd24 ct24), sl24⟩) (c24 : PySem.W.codeIn K cd24 "by_use" = true) (k24 : PySem.W.keepIn K (.ref f24) = true)
    (a25 : PySem.W.nsIn K mainGlobals "by_deny" = some (some (.ref f25))) (l25 : K.lookup f25 = some ⟨oc25, od25, .func (PySem.W.fnOf "by_deny" "by_deny" (defArgs s_by_deny) (defBody s_by_deny) (defScope s_by_deny) .none kV25 dc25 pm25 an25 cd25 ct25), sl25⟩) (c25 : PySem.W.codeIn K cd25 "by_deny" = true) (k25 : PySem.W.keepIn K (.ref f25) = true)
    (a26 : PySem.W.nsIn K mainGlobals "by_clash" = some (some (.ref f26))) (l26 : K.lookup f26 = some ⟨oc26, od26, .func (PySem.W.fnOf "by_clash" "by_clash" (defArgs s_by_clash) (defBody s_by_clash) (defScope s_by_clash) .none kV26 dc26 pm26 an26 cd26 ct26), sl26⟩) (c26 : PySem.W.codeIn K cd26 "by_clash" = true) (k26 : PySem.W.keepIn K (.ref f26) = true)
    (a27 : PySem.W.nsIn K mainGlobals "by_absurd" = some (some (.ref f27))) (l27 : K.lookup f27 = some ⟨oc27, od27, .func (PySem.W.fnOf "by_absurd" "by_absurd" (defArgs s_by_absurd) (defBody s_by_absurd) (defScope s_by_absurd) .none kV27 dc27 pm27 an27 cd27 ct27), sl27⟩) (c27 : PySem.W.codeIn K cd27 "by_absurd" = true) (k27 : PySem.W.keepIn K (.ref f27) = true)
    (a28 : PySem.W.nsIn K mainGlobals "by_any" = some (some (.ref f28))) (l28 : K.lookup f28 = some ⟨oc28, od28, .func (PySem.W.fnOf "by_any" "by_any" (defArgs s_by_any) (defBody s_by_any) (defScope s_by_any) .none kV28 dc28 pm28 an28 cd28 ct28), sl28⟩) (c28 : PySem.W.codeIn K cd28 "by_any" = true) (k28 : PySem.W.keepIn K (.ref f28) = true)
    (a29 : PySem.W.nsIn K mainGlobals "by_each" = some (some (.ref f29))) (l29 : K.lookup f29 = some ⟨oc29, od29, .func (PySem.W.fnOf "by_each" "by_each" (defArgs s_by_each) (defBody s_by_each) (defScope s_by_each) .none kV29 dc29 pm29 an29 cd29 ct29), sl29⟩) (c29 : PySem.W.codeIn K cd29 "by_each" = true) (k29 : PySem.W.keepIn K (.ref f29) = true)
    (a30 : PySem.W.nsIn K mainGlobals "by_every" = some (some (.ref f30))) (l30 : K.lookup f30 = some ⟨oc30, od30, .func (PySem.W.fnOf "by_every" "by_every" (defArgs s_by_every) (defBody s_by_every) (defScope s_by_every) .none kV30 dc30 pm30 an30 cd30 ct30), sl30⟩) (c30 : PySem.W.codeIn K cd30 "by_every" = true) (k30 : PySem.W.keepIn K (.ref f30) = true)
    (a31 : PySem.W.nsIn K mainGlobals "by_some" = some (some (.ref f31))) (l31 : K.lookup f31 = some ⟨oc31, od31, .func (PySem.W.fnOf "by_some" "by_some" (defArgs s_by_some) (defBody s_by_some) (defScope s_by_some) .none kV31 dc31 pm31 an31 cd31 ct31), sl31⟩) (c31 : PySem.W.codeIn K cd31 "by_some" = true) (k31 : PySem.W.keepIn K (.ref f31) = true)
    (a32 : PySem.W.nsIn K mainGlobals "by_one" = some (some (.ref f32))) (l32 : K.lookup f32 = some ⟨oc32, od32, .func (PySem.W.fnOf "by_one" "by_one" (defArgs s_by_one) (defBody s_by_one) (defScope s_by_one) .none kV32 dc32 pm32 an32 cd32 ct32), sl32⟩) (c32 : PySem.W.codeIn K cd32 "by_one" = true) (k32 : PySem.W.keepIn K (.ref f32) = true)
    (a33 : PySem.W.nsIn K mainGlobals "leads" = some (some (.ref f33))) (l33 : K.lookup f33 = some ⟨oc33, od33, .func (PySem.W.fnOf "leads" "leads" (defArgs s_leads) (defBody s_leads) (defScope s_leads) .none kV33 dc33 pm33 an33 cd33 ct33), sl33⟩) (c33 : PySem.W.codeIn K cd33 "leads" = true) (k33 : PySem.W.keepIn K (.ref f33) = true)
    (a34 : PySem.W.nsIn K mainGlobals "opened_with" = some (some (.ref f34))) (l34 : K.lookup f34 = some ⟨oc34, od34, .func (PySem.W.fnOf "opened_with" "opened_with" (defArgs s_opened_with) (defBody s_opened_with) (defScope s_opened_with) .none kV34 dc34 pm34 an34 cd34 ct34), sl34⟩) (c34 : PySem.W.codeIn K cd34 "opened_with" = true) (k34 : PySem.W.keepIn K (.ref f34) = true)
    (a35 : PySem.W.nsIn K mainGlobals "only_name" = some (some (.ref f35))) (l35 : K.lookup f35 = some ⟨oc35, od35, .func (PySem.W.fnOf "only_name" "only_name" (defArgs s_only_name) (defBody s_only_name) (defScope s_only_name) .none kV35 dc35 pm35 an35 cd35 ct35), sl35⟩) (c35 : PySem.W.codeIn K cd35 "only_name" = true) (k35 : PySem.W.keepIn K (.ref f35) = true)
    (a36 : PySem.W.nsIn K mainGlobals "name_for" = some (some (.ref f36))) (l36 : K.lookup f36 = some ⟨oc36, od36, .func (PySem.W.fnOf "name_for" "name_for" (defArgs s_name_for) (defBody s_name_for) (defScope s_name_for) .none kV36 dc36 pm36 an36 cd36 ct36), sl36⟩) (c36 : PySem.W.codeIn K cd36 "name_for" = true) (k36 : PySem.W.keepIn K (.ref f36) = true)
    (a37 : PySem.W.nsIn K mainGlobals "names_of" = some (some (.ref f37))) (l37 : K.lookup f37 = some ⟨oc37, od37, .func (PySem.W.fnOf "names_of" "names_of" (defArgs s_names_of) (defBody s_names_of) (defScope s_names_of) .none kV37 dc37 pm37 an37 cd37 ct37), sl37⟩) (c37 : PySem.W.codeIn K cd37 "names_of" = true) (k37 : PySem.W.keepIn K (.ref f37) = true)
    (a38 : PySem.W.nsIn K mainGlobals "follows" = some (some (.ref f38))) (l38 : K.lookup f38 = some ⟨oc38, od38, .func (PySem.W.fnOf "follows" "follows" (defArgs s_follows) (defBody s_follows) (defScope s_follows) .none kV38 dc38 pm38 an38 cd38 ct38), sl38⟩) (c38 : PySem.W.codeIn K cd38 "follows" = true) (k38 : PySem.W.keepIn K (.ref f38) = true)
    (a39 : PySem.W.nsIn K mainGlobals "follows_behind" = some (some (.ref f39))) (l39 : K.lookup f39 = some ⟨oc39, od39, .func (PySem.W.fnOf "follows_behind" "follows_behind" (defArgs s_follows_behind) (defBody s_follows_behind) (defScope s_follows_behind) .none kV39 dc39 pm39 an39 cd39 ct39), sl39⟩) (c39 : PySem.W.codeIn K cd39 "follows_behind" = true) (k39 : PySem.W.keepIn K (.ref f39) = true)
    (a40 : PySem.W.nsIn K mainGlobals "fits_its_rule" = some (some (.ref f40))) (l40 : K.lookup f40 = some ⟨oc40, od40, .func (PySem.W.fnOf "fits_its_rule" "fits_its_rule" (defArgs s_fits_its_rule) (defBody s_fits_its_rule) (defScope s_fits_its_rule) .none kV40 dc40 pm40 an40 cd40 ct40), sl40⟩) (c40 : PySem.W.codeIn K cd40 "fits_its_rule" = true) (k40 : PySem.W.keepIn K (.ref f40) = true)
    (a41 : PySem.W.nsIn K mainGlobals "follows_by" = some (some (.ref f41))) (l41 : K.lookup f41 = some ⟨oc41, od41, .func (PySem.W.fnOf "follows_by" "follows_by" (defArgs s_follows_by) (defBody s_follows_by) (defScope s_follows_by) .none kV41 dc41 pm41 an41 cd41 ct41), sl41⟩) (c41 : PySem.W.codeIn K cd41 "follows_by" = true) (k41 : PySem.W.keepIn K (.ref f41) = true)
    (a42 : PySem.W.nsIn K mainGlobals "stands_for" = some (some (.ref f42))) (l42 : K.lookup f42 = some ⟨oc42, od42, .func (PySem.W.fnOf "stands_for" "stands_for" (defArgs s_stands_for) (defBody s_stands_for) (defScope s_stands_for) .none kV42 dc42 pm42 an42 cd42 ct42), sl42⟩) (c42 : PySem.W.codeIn K cd42 "stands_for" = true) (k42 : PySem.W.keepIn K (.ref f42) = true)
    (a43 : PySem.W.nsIn K mainGlobals "is_number_ahead" = some (some (.ref f43))) (l43 : K.lookup f43 = some ⟨oc43, od43, .func (PySem.W.fnOf "is_number_ahead" "is_number_ahead" (defArgs s_is_number_ahead) (defBody s_is_number_ahead) (defScope s_is_number_ahead) .none kV43 dc43 pm43 an43 cd43 ct43), sl43⟩) (c43 : PySem.W.codeIn K cd43 "is_number_ahead" = true) (k43 : PySem.W.keepIn K (.ref f43) = true)
    (a44 : PySem.W.nsIn K mainGlobals "seen_box" = some (some (.ref f44))) (l44 : K.lookup f44 = some ⟨oc44, od44, .func (PySem.W.fnOf "seen_box" "seen_box" (defArgs s_seen_box) (defBody s_seen_box) (defScope s_seen_box) .none kV44 dc44 pm44 an44 cd44 ct44), sl44⟩) (c44 : PySem.W.codeIn K cd44 "seen_box" = true) (k44 : PySem.W.keepIn K (.ref f44) = true)
    (a45 : PySem.W.nsIn K mainGlobals "statement_of" = some (some (.ref f45))) (l45 : K.lookup f45 = some ⟨oc45, od45, .func (PySem.W.fnOf "statement_of" "statement_of" (defArgs s_statement_of) (defBody s_statement_of) (defScope s_statement_of) .none kV45 dc45 pm45 an45 cd45 ct45), sl45⟩) (c45 : PySem.W.codeIn K cd45 "statement_of" = true) (k45 : PySem.W.keepIn K (.ref f45) = true)
    (a46 : PySem.W.nsIn K mainGlobals "_law_cell_at" = some (some (.ref f46))) (l46 : K.lookup f46 = some ⟨oc46, od46, .func (PySem.W.fnOf "_law_cell_at" "_law_cell_at" (defArgs s_cell_at_L) (defBody s_cell_at_L) (defScope s_cell_at_L) .none kV46 dc46 pm46 an46 cd46 ct46), sl46⟩) (c46 : PySem.W.codeIn K cd46 "_law_cell_at" = true) (k46 : PySem.W.keepIn K (.ref f46) = true)
    (a47 : PySem.W.nsIn K mainGlobals "_law_name_by" = some (some (.ref f47))) (l47 : K.lookup f47 = some ⟨oc47, od47, .func (PySem.W.fnOf "_law_name_by" "_law_name_by" (defArgs s_name_by_L) (defBody s_name_by_L) (defScope s_name_by_L) .none kV47 dc47 pm47 an47 cd47 ct47), sl47⟩) (c47 : PySem.W.codeIn K cd47 "_law_name_by" = true) (k47 : PySem.W.keepIn K (.ref f47) = true)
    (a48 : PySem.W.nsIn K mainGlobals "_law_letter_by" = some (some (.ref f48))) (l48 : K.lookup f48 = some ⟨oc48, od48, .func (PySem.W.fnOf "_law_letter_by" "_law_letter_by" (defArgs s_letter_by_L) (defBody s_letter_by_L) (defScope s_letter_by_L) .none kV48 dc48 pm48 an48 cd48 ct48), sl48⟩) (c48 : PySem.W.codeIn K cd48 "_law_letter_by" = true) (k48 : PySem.W.keepIn K (.ref f48) = true)
    (a49 : PySem.W.nsIn K mainGlobals "_law_made" = some (some (.ref f49))) (l49 : K.lookup f49 = some ⟨oc49, od49, .func (PySem.W.fnOf "_law_made" "_law_made" (defArgs s_made_L) (defBody s_made_L) (defScope s_made_L) .none kV49 dc49 pm49 an49 cd49 ct49), sl49⟩) (c49 : PySem.W.codeIn K cd49 "_law_made" = true) (k49 : PySem.W.keepIn K (.ref f49) = true)
    (a50 : PySem.W.nsIn K mainGlobals "_law_draw" = some (some (.ref f50))) (l50 : K.lookup f50 = some ⟨oc50, od50, .func (PySem.W.fnOf "_law_draw" "_law_draw" (defArgs s_draw_L) (defBody s_draw_L) (defScope s_draw_L) .none kV50 dc50 pm50 an50 cd50 ct50), sl50⟩) (c50 : PySem.W.codeIn K cd50 "_law_draw" = true) (k50 : PySem.W.keepIn K (.ref f50) = true)
    (a51 : PySem.W.nsIn K mainGlobals "_law_some" = some (some (.ref f51))) (l51 : K.lookup f51 = some ⟨oc51, od51, .func (PySem.W.fnOf "_law_some" "_law_some" (defArgs s_some_L) (defBody s_some_L) (defScope s_some_L) .none kV51 dc51 pm51 an51 cd51 ct51), sl51⟩) (c51 : PySem.W.codeIn K cd51 "_law_some" = true) (k51 : PySem.W.keepIn K (.ref f51) = true)
    (a52 : PySem.W.nsIn K mainGlobals "_law_paths" = some (some (.ref f52))) (l52 : K.lookup f52 = some ⟨oc52, od52, .func (PySem.W.fnOf "_law_paths" "_law_paths" (defArgs s_paths_L) (defBody s_paths_L) (defScope s_paths_L) .none kV52 dc52 pm52 an52 cd52 ct52), sl52⟩) (c52 : PySem.W.codeIn K cd52 "_law_paths" = true) (k52 : PySem.W.keepIn K (.ref f52) = true)
    (a53 : PySem.W.nsIn K mainGlobals "_law_line" = some (some (.ref f53))) (l53 : K.lookup f53 = some ⟨oc53, od53, .func (PySem.W.fnOf "_law_line" "_law_line" (defArgs s_line_L) (defBody s_line_L) (defScope s_line_L) .none kV53 dc53 pm53 an53 cd53 ct53), sl53⟩) (c53 : PySem.W.codeIn K cd53 "_law_line" = true) (k53 : PySem.W.keepIn K (.ref f53) = true)
    (a54 : PySem.W.nsIn K mainGlobals "_law_refs" = some (some (.ref f54))) (l54 : K.lookup f54 = some ⟨oc54, od54, .func (PySem.W.fnOf "_law_refs" "_law_refs" (defArgs s_refs_L) (defBody s_refs_L) (defScope s_refs_L) .none kV54 dc54 pm54 an54 cd54 ct54), sl54⟩) (c54 : PySem.W.codeIn K cd54 "_law_refs" = true) (k54 : PySem.W.keepIn K (.ref f54) = true)
    (a55 : PySem.W.nsIn K mainGlobals "_law_lines" = some (some (.ref f55))) (l55 : K.lookup f55 = some ⟨oc55, od55, .func (PySem.W.fnOf "_law_lines" "_law_lines" (defArgs s_lines_L) (defBody s_lines_L) (defScope s_lines_L) .none kV55 dc55 pm55 an55 cd55 ct55), sl55⟩) (c55 : PySem.W.codeIn K cd55 "_law_lines" = true) (k55 : PySem.W.keepIn K (.ref f55) = true)
    (a56 : PySem.W.nsIn K mainGlobals "_law_due" = some (some (.ref f56))) (l56 : K.lookup f56 = some ⟨oc56, od56, .func (PySem.W.fnOf "_law_due" "_law_due" (defArgs s_due_L) (defBody s_due_L) (defScope s_due_L) .none kV56 dc56 pm56 an56 cd56 ct56), sl56⟩) (c56 : PySem.W.codeIn K cd56 "_law_due" = true) (k56 : PySem.W.keepIn K (.ref f56) = true)
    (a57 : PySem.W.nsIn K mainGlobals "law" = some (some (.ref f57))) (l57 : K.lookup f57 = some ⟨oc57, od57, .func (PySem.W.fnOf "law" "law" (defArgs s_law) (defBody s_law) (defScope s_law) .none kV57 dc57 pm57 an57 cd57 ct57), sl57⟩) (c57 : PySem.W.codeIn K cd57 "law" = true) (k57 : PySem.W.keepIn K (.ref f57) = true)
    (a58 : PySem.W.findIn K (.ref oC_Ahead) "__init__" = some (some (.ref f58))) (i58 : PySem.W.isFn K (.ref f58) = true) (l58 : K.lookup f58 = some ⟨oc58, od58, .func (PySem.W.fnOf "__init__" "Ahead.__init__" (defArgs s_Ahead_init) (defBody s_Ahead_init) (defScope s_Ahead_init) .none kV58 dc58 pm58 an58 cd58 ct58), sl58⟩) (c58 : PySem.W.codeIn K cd58 "Ahead.__init__" = true) (k58 : PySem.W.keepIn K (.ref f58) = true)
    (a59 : PySem.W.findIn K (.ref oC_Ahead) "only_givens" = some (some (.ref f59))) (i59 : PySem.W.isFn K (.ref f59) = true) (l59 : K.lookup f59 = some ⟨oc59, od59, .func (PySem.W.fnOf "only_givens" "Ahead.only_givens" (defArgs s_Ahead_only_givens) (defBody s_Ahead_only_givens) (defScope s_Ahead_only_givens) .none kV59 dc59 pm59 an59 cd59 ct59), sl59⟩) (c59 : PySem.W.codeIn K cd59 "Ahead.only_givens" = true) (k59 : PySem.W.keepIn K (.ref f59) = true)
    (a60 : PySem.W.findIn K (.ref oC_Ahead) "has_name" = some (some (.ref f60))) (i60 : PySem.W.isFn K (.ref f60) = true) (l60 : K.lookup f60 = some ⟨oc60, od60, .func (PySem.W.fnOf "has_name" "Ahead.has_name" (defArgs s_Ahead_has_name) (defBody s_Ahead_has_name) (defScope s_Ahead_has_name) .none kV60 dc60 pm60 an60 cd60 ct60), sl60⟩) (c60 : PySem.W.codeIn K cd60 "Ahead.has_name" = true) (k60 : PySem.W.keepIn K (.ref f60) = true)
    {p0 : Addr} {dd0 : Option Addr} {nn0 : Nat} {ss0 : Array (Option Value)} {u0_0 u0_1 u0_2 : Tok} (g0 : PySem.W.nsIn K mainGlobals "OPENING_RULES" = some (some (.ref p0))) (q0 : K.lookup p0 = some ⟨.type "tuple", dd0, .seq #[Value.str "guess" u0_0, Value.str "new" u0_1, Value.str "case" u0_2] nn0, ss0⟩)
    {t1 : Tok} (g1 : PySem.W.nsIn K mainGlobals "SMALL" = some (some (.str "abcdefghijklmnopqrstuvwxyz" t1)))
    {t2 : Tok} (g2 : PySem.W.nsIn K mainGlobals "GREAT" = some (some (.str "ABCDEFGHIJKLMNOPQRSTUVWXYZ" t2)))
    {t3 : Tok} (g3 : PySem.W.nsIn K mainGlobals "SMALL_OR_FIGURE" = some (some (.str "abcdefghijklmnopqrstuvwxyz0123456789" t3)))
    {p4 : Addr} {dd4 : Option Addr} {nn4 : Nat} {ss4 : Array (Option Value)} {u4_0 u4_1 u4_2 u4_3 u4_4 u4_5 u4_6 : Tok} (g4 : PySem.W.nsIn K mainGlobals "KEPT_WORDS" = some (some (.ref p4))) (q4 : K.lookup p4 = some ⟨.type "tuple", dd4, .seq #[Value.str "not" u4_0, Value.str "and" u4_1, Value.str "or" u4_2, Value.str "then" u4_3, Value.str "all" u4_4, Value.str "some" u4_5, Value.str "false" u4_6] nn4, ss4⟩)
    {t5 : Tok} (g5 : PySem.W.nsIn K mainGlobals "MOST_SIGNS" = some (some (.int 8 t5)))
    {p6 : Addr} {dd6 : Option Addr} {nn6 : Nat} {ss6 : Array (Option Value)} {u6_0 u6_1 : Tok} (g6 : PySem.W.nsIn K mainGlobals "QUANTIFIERS" = some (some (.ref p6))) (q6 : K.lookup p6 = some ⟨.type "tuple", dd6, .seq #[Value.str "all" u6_0, Value.str "some" u6_1] nn6, ss6⟩)
    {p7 : Addr} {dd7 : Option Addr} {nn7 : Nat} {ss7 : Array (Option Value)} {u7_0 : Tok} (g7 : PySem.W.nsIn K mainGlobals "FALSE" = some (some (.ref p7))) (q7 : K.lookup p7 = some ⟨.type "tuple", dd7, .seq #[Value.str "false" u7_0] nn7, ss7⟩)
    {p_RULES : Addr} {nn_RULES : Nat} {th0 th1 th2 th3 th4 th5 th6 th7 th8 th9 th10 th11 th12 th13 th14 th15 : Int} {tt0 tt1 tt2 tt3 tt4 tt5 tt6 tt7 tt8 tt9 tt10 tt11 tt12 tt13 tt14 tt15 : Tok} {tr0 tw0 tr1 tw1 tr2 tw2 tr3 tw3 tr4 tw4 tr5 tw5 tr6 tw6 tr7 tw7 tr8 tw8 tr9 tw9 tr10 tw10 tr11 tw11 tr12 tw12 tr13 tw13 tr14 tw14 tr15 tw15 : Addr} (g_RULES : PySem.W.nsIn K mainGlobals "RULES" = some (some (.ref p_RULES))) (q_RULES : K.lookup p_RULES = some ⟨.type "dict", none, .dict #[⟨th0, .str "again" tt0, .ref tr0⟩, ⟨th1, .str "both" tt1, .ref tr1⟩, ⟨th2, .str "left" tt2, .ref tr2⟩, ⟨th3, .str "right" tt3, .ref tr3⟩, ⟨th4, .str "either" tt4, .ref tr4⟩, ⟨th5, .str "cases" tt5, .ref tr5⟩, ⟨th6, .str "then" tt6, .ref tr6⟩, ⟨th7, .str "use" tt7, .ref tr7⟩, ⟨th8, .str "deny" tt8, .ref tr8⟩, ⟨th9, .str "clash" tt9, .ref tr9⟩, ⟨th10, .str "absurd" tt10, .ref tr10⟩, ⟨th11, .str "any" tt11, .ref tr11⟩, ⟨th12, .str "each" tt12, .ref tr12⟩, ⟨th13, .str "every" tt13, .ref tr13⟩, ⟨th14, .str "some" tt14, .ref tr14⟩, ⟨th15, .str "one" tt15, .ref tr15⟩] nn_RULES, #[]⟩) (e_RULES : (p_RULES == sysModules) = false)
    {td0 te0 : Option Addr} {tn0 tm0 : Nat} {ts0 tz0 : Array (Option Value)} {tu0_0 : Tok} (tq0 : K.lookup tr0 = some ⟨.type "tuple", td0, .seq #[.ref tw0, .ref f17] tn0, ts0⟩) (tv0 : K.lookup tw0 = some ⟨.type "tuple", te0, .seq #[Value.str "line" tu0_0] tm0, tz0⟩)
    {td1 te1 : Option Addr} {tn1 tm1 : Nat} {ts1 tz1 : Array (Option Value)} {tu1_0 tu1_1 : Tok} (tq1 : K.lookup tr1 = some ⟨.type "tuple", td1, .seq #[.ref tw1, .ref f18] tn1, ts1⟩) (tv1 : K.lookup tw1 = some ⟨.type "tuple", te1, .seq #[Value.str "line" tu1_0, Value.str "line" tu1_1] tm1, tz1⟩)
    {td2 te2 : Option Addr} {tn2 tm2 : Nat} {ts2 tz2 : Array (Option Value)} {tu2_0 : Tok} (tq2 : K.lookup tr2 = some ⟨.type "tuple", td2, .seq #[.ref tw2, .ref f19] tn2, ts2⟩) (tv2 : K.lookup tw2 = some ⟨.type "tuple", te2, .seq #[Value.str "line" tu2_0] tm2, tz2⟩)
    {td3 te3 : Option Addr} {tn3 tm3 : Nat} {ts3 tz3 : Array (Option Value)} {tu3_0 : Tok} (tq3 : K.lookup tr3 = some ⟨.type "tuple", td3, .seq #[.ref tw3, .ref f20] tn3, ts3⟩) (tv3 : K.lookup tw3 = some ⟨.type "tuple", te3, .seq #[Value.str "line" tu3_0] tm3, tz3⟩)
    {td4 te4 : Option Addr} {tn4 tm4 : Nat} {ts4 tz4 : Array (Option Value)} {tu4_0 : Tok} (tq4 : K.lookup tr4 = some ⟨.type "tuple", td4, .seq #[.ref tw4, .ref f21] tn4, ts4⟩) (tv4 : K.lookup tw4 = some ⟨.type "tuple", te4, .seq #[Value.str "line" tu4_0] tm4, tz4⟩)
    {td5 te5 : Option Addr} {tn5 tm5 : Nat} {ts5 tz5 : Array (Option Value)} {tu5_0 tu5_1 tu5_2 : Tok} (tq5 : K.lookup tr5 = some ⟨.type "tuple", td5, .seq #[.ref tw5, .ref f22] tn5, ts5⟩) (tv5 : K.lookup tw5 = some ⟨.type "tuple", te5, .seq #[Value.str "line" tu5_0, Value.str "box" tu5_1, Value.str "box" tu5_2] tm5, tz5⟩)
    {td6 te6 : Option Addr} {tn6 tm6 : Nat} {ts6 tz6 : Array (Option Value)} {tu6_0 : Tok} (tq6 : K.lookup tr6 = some ⟨.type "tuple", td6, .seq #[.ref tw6, .ref f23] tn6, ts6⟩) (tv6 : K.lookup tw6 = some ⟨.type "tuple", te6, .seq #[Value.str "box" tu6_0] tm6, tz6⟩)
    {td7 te7 : Option Addr} {tn7 tm7 : Nat} {ts7 tz7 : Array (Option Value)} {tu7_0 tu7_1 : Tok} (tq7 : K.lookup tr7 = some ⟨.type "tuple", td7, .seq #[.ref tw7, .ref f24] tn7, ts7⟩) (tv7 : K.lookup tw7 = some ⟨.type "tuple", te7, .seq #[Value.str "line" tu7_0, Value.str "line" tu7_1] tm7, tz7⟩)
    {td8 te8 : Option Addr} {tn8 tm8 : Nat} {ts8 tz8 : Array (Option Value)} {tu8_0 : Tok} (tq8 : K.lookup tr8 = some ⟨.type "tuple", td8, .seq #[.ref tw8, .ref f25] tn8, ts8⟩) (tv8 : K.lookup tw8 = some ⟨.type "tuple", te8, .seq #[Value.str "box" tu8_0] tm8, tz8⟩)
    {td9 te9 : Option Addr} {tn9 tm9 : Nat} {ts9 tz9 : Array (Option Value)} {tu9_0 tu9_1 : Tok} (tq9 : K.lookup tr9 = some ⟨.type "tuple", td9, .seq #[.ref tw9, .ref f26] tn9, ts9⟩) (tv9 : K.lookup tw9 = some ⟨.type "tuple", te9, .seq #[Value.str "line" tu9_0, Value.str "line" tu9_1] tm9, tz9⟩)
    {td10 te10 : Option Addr} {tn10 tm10 : Nat} {ts10 tz10 : Array (Option Value)} {tu10_0 : Tok} (tq10 : K.lookup tr10 = some ⟨.type "tuple", td10, .seq #[.ref tw10, .ref f27] tn10, ts10⟩) (tv10 : K.lookup tw10 = some ⟨.type "tuple", te10, .seq #[Value.str "box" tu10_0] tm10, tz10⟩)
    {td11 te11 : Option Addr} {tn11 tm11 : Nat} {ts11 tz11 : Array (Option Value)} {tu11_0 : Tok} (tq11 : K.lookup tr11 = some ⟨.type "tuple", td11, .seq #[.ref tw11, .ref f28] tn11, ts11⟩) (tv11 : K.lookup tw11 = some ⟨.type "tuple", te11, .seq #[Value.str "line" tu11_0] tm11, tz11⟩)
    {td12 te12 : Option Addr} {tn12 tm12 : Nat} {ts12 tz12 : Array (Option Value)} {tu12_0 tu12_1 : Tok} (tq12 : K.lookup tr12 = some ⟨.type "tuple", td12, .seq #[.ref tw12, .ref f29] tn12, ts12⟩) (tv12 : K.lookup tw12 = some ⟨.type "tuple", te12, .seq #[Value.str "line" tu12_0, Value.str "name" tu12_1] tm12, tz12⟩)
    {td13 te13 : Option Addr} {tn13 tm13 : Nat} {ts13 tz13 : Array (Option Value)} {tu13_0 : Tok} (tq13 : K.lookup tr13 = some ⟨.type "tuple", td13, .seq #[.ref tw13, .ref f30] tn13, ts13⟩) (tv13 : K.lookup tw13 = some ⟨.type "tuple", te13, .seq #[Value.str "box" tu13_0] tm13, tz13⟩)
    {td14 te14 : Option Addr} {tn14 tm14 : Nat} {ts14 tz14 : Array (Option Value)} {tu14_0 tu14_1 : Tok} (tq14 : K.lookup tr14 = some ⟨.type "tuple", td14, .seq #[.ref tw14, .ref f31] tn14, ts14⟩) (tv14 : K.lookup tw14 = some ⟨.type "tuple", te14, .seq #[Value.str "line" tu14_0, Value.str "name" tu14_1] tm14, tz14⟩)
    {td15 te15 : Option Addr} {tn15 tm15 : Nat} {ts15 tz15 : Array (Option Value)} {tu15_0 tu15_1 : Tok} (tq15 : K.lookup tr15 = some ⟨.type "tuple", td15, .seq #[.ref tw15, .ref f32] tn15, ts15⟩) (tv15 : K.lookup tw15 = some ⟨.type "tuple", te15, .seq #[Value.str "line" tu15_0, Value.str "box" tu15_1] tm15, tz15⟩)
    (og_Ahead : PySem.W.plainGet K oC_Ahead Str.empty = true) (oh_Ahead : PySem.W.hasDictIn K oC_Ahead = true) (op_Ahead : PySem.W.plainOver K oC_Ahead = true) (os_Ahead : PySem.W.findIn K (.ref oC_Ahead) "__setattr__" = some (some (.builtin "object.__setattr__"))) (om_Ahead : PySem.W.makesIn K oC_Ahead = true) (ok_Ahead : PySem.W.keepIn K (.ref oC_Ahead) = true)
    (on_Ahead_lines : PySem.W.findIn K (.ref oC_Ahead) "lines" = some none)
    (on_Ahead_givens : PySem.W.findIn K (.ref oC_Ahead) "givens" = some none)
    (on_Ahead_named : PySem.W.findIn K (.ref oC_Ahead) "named" = some none)
    (on_Ahead_first_places : PySem.W.findIn K (.ref oC_Ahead) "first_places" = some none)
    {xnm0 xq0 : Str} {xC0 xN0 : Addr} {xbs0 : List Value} {xh0 : Bool} {xsn0 : List Str} {xsu0 : List Value} {xab0 : Bool} {xco0 : Option Bool} {xdd0 xod0 : Option Addr} {xka0 xkb0 xkc0 xkd0 xke0 : Option Value} {xoc0 : Value} {xes0 : List DictEntry} {xep0 : Nat} {xsl0 : Array (Option Value)}
    (xa0 : PySem.W.nsIn K mainGlobals "BoxError" = some (some (.ref xC0))) (xl0 : K.lookup xC0 = some (excClassObj xnm0 xq0 xC0 xN0 xbs0 ([.type "ValueError", .type "Exception", .type "BaseException", .type "object"]) xh0 xsn0 xsu0 xab0 xco0 xdd0 xka0 xkb0 xkc0 xkd0 xke0 "ValueError.__new__"))
    (xn0 : K.lookup xN0 = some ⟨xoc0, xod0, .dict (List.toArray xes0) xep0, xsl0⟩) (xy0 : (xes0.all fun e => match e.key with | .str _ _ => true | _ => false) = true) (xp0 : PySem.W.nsIn K xN0 "__init__" = some none) (xr0 : PySem.W.nsIn K xN0 "__getattribute__" = some none) (xu0 : PySem.W.nsIn K xN0 "__getattr__" = some none) (xv0 : PySem.W.nsIn K xN0 "__class__" = some none)
    {xnm1 xq1 : Str} {xC1 xN1 : Addr} {xbs1 : List Value} {xh1 : Bool} {xsn1 : List Str} {xsu1 : List Value} {xab1 : Bool} {xco1 : Option Bool} {xdd1 xod1 : Option Addr} {xka1 xkb1 xkc1 xkd1 xke1 : Option Value} {xoc1 : Value} {xes1 : List DictEntry} {xep1 : Nat} {xsl1 : Array (Option Value)}
    (xa1 : PySem.W.nsIn K mainGlobals "NoBox" = some (some (.ref xC1))) (xl1 : K.lookup xC1 = some (excClassObj xnm1 xq1 xC1 xN1 xbs1 (Value.ref xC0 :: [.type "ValueError", .type "Exception", .type "BaseException", .type "object"]) xh1 xsn1 xsu1 xab1 xco1 xdd1 xka1 xkb1 xkc1 xkd1 xke1 "ValueError.__new__"))
    (xn1 : K.lookup xN1 = some ⟨xoc1, xod1, .dict (List.toArray xes1) xep1, xsl1⟩) (xy1 : (xes1.all fun e => match e.key with | .str _ _ => true | _ => false) = true) (xp1 : PySem.W.nsIn K xN1 "__init__" = some none) (xr1 : PySem.W.nsIn K xN1 "__getattribute__" = some none) (xu1 : PySem.W.nsIn K xN1 "__getattr__" = some none) (xv1 : PySem.W.nsIn K xN1 "__class__" = some none)
    (z_all : PySem.W.nsIn K mainGlobals "all" = some none)
    (z_bool : PySem.W.nsIn K mainGlobals "bool" = some none)
    (z_enumerate : PySem.W.nsIn K mainGlobals "enumerate" = some none)
    (z_int : PySem.W.nsIn K mainGlobals "int" = some none)
    (z_isinstance : PySem.W.nsIn K mainGlobals "isinstance" = some none)
    (z_len : PySem.W.nsIn K mainGlobals "len" = some none)
    (z_list : PySem.W.nsIn K mainGlobals "list" = some none)
    (z_range : PySem.W.nsIn K mainGlobals "range" = some none)
    (z_reversed : PySem.W.nsIn K mainGlobals "reversed" = some none)
    (z_set : PySem.W.nsIn K mainGlobals "set" = some none)
    (z_sorted : PySem.W.nsIn K mainGlobals "sorted" = some none)
    (z_str : PySem.W.nsIn K mainGlobals "str" = some none)
    (z_tuple : PySem.W.nsIn K mainGlobals "tuple" = some none)
    (z_zip : PySem.W.nsIn K mainGlobals "zip" = some none)
    (OK : ∀ (P : Program) (D : Defs) (base : Heap), Tx K mg D → FnOk P w K mg base CX0 60 D.a_law D.d_law ["_law_script"] (spLaw K)) :
    ∃ fd : FuncData, (∀ (s : Shared) (v : Value), BindsTo s fd ⟨[v], []⟩ [("_law_script", v)]) ∧ ∀ base : Heap, K.In base → base.Ns mainGlobals mg → FnOk l.prog w K mg base CX0 60 fa fd ["_law_script"] (spLaw K) := by
  have e := hfa.symm.trans (PySem.W.mg_of X G a57)
  cases e
  have F0 := fun_mk (st := s_seen) l0 c0 k0
  have b0 := F0.binds (ps := ["paths", "k", "i"]) fun _ _ _ _ _ _ us hl => match us, hl with | [_, _, _], _ => rfl
  have F1 := fun_mk (st := s_box_seen) l1 c1 k1
  have b1 := F1.binds (ps := ["paths", "k", "b"]) fun _ _ _ _ _ _ us hl => match us, hl with | [_, _, _], _ => rfl
  have F2 := fun_mk (st := s_begins_with) l2 c2 k2
  have b2 := F2.binds (ps := ["path", "beginning"]) fun _ _ _ _ _ _ us hl => match us, hl with | [_, _], _ => rfl
  have F3 := fun_mk (st := s_end_of) l3 c3 k3
  have b3 := F3.binds (ps := ["paths", "b"]) fun _ _ _ _ _ _ us hl => match us, hl with | [_, _], _ => rfl
  have F4 := fun_mk (st := s_opens) l4 c4 k4
  have b4 := F4.binds (ps := ["rule"]) fun _ _ _ _ _ _ us hl => match us, hl with | [_], _ => rfl
  have F5 := fun_mk (st := s_boxes) l5 c5 k5
  have b5 := F5.binds (ps := ["lines"]) fun _ _ _ _ _ _ us hl => match us, hl with | [_], _ => rfl
  have F6 := fun_mk (st := s_fitting_boxes) l6 c6 k6
  have b6 := F6.binds (ps := ["lines"]) fun _ _ _ _ _ _ us hl => match us, hl with | [_], _ => rfl
  have F7 := fun_mk (st := s_boxes_behind) l7 c7 k7
  have b7 := F7.binds (ps := ["path", "line", "k"]) fun _ _ _ _ _ _ us hl => match us, hl with | [_, _, _], _ => rfl
  have F8 := fun_mk (st := s_begins_and_goes_on) l8 c8 k8
  have b8 := F8.binds (ps := ["text", "first_signs"]) fun _ _ _ _ _ _ us hl => match us, hl with | [_, _], _ => rfl
  have F9 := fun_mk (st := s_is_name) l9 c9 k9
  have b9 := F9.binds (ps := ["text"]) fun _ _ _ _ _ _ us hl => match us, hl with | [_], _ => rfl
  have F10 := fun_mk (st := s_is_letter) l10 c10 k10
  have b10 := F10.binds (ps := ["text"]) fun _ _ _ _ _ _ us hl => match us, hl with | [_], _ => rfl
  have F11 := fun_mk (st := s_parts) l11 c11 k11
  have b11 := F11.binds (ps := ["A"]) fun _ _ _ _ _ _ us hl => match us, hl with | [_], _ => rfl
  have F12 := fun_mk (st := s_terms_in) l12 c12 k12
  have b12 := F12.binds (ps := ["A"]) fun _ _ _ _ _ _ us hl => match us, hl with | [_], _ => rfl
  have F13 := fun_mk (st := s_names_in) l13 c13 k13
  have b13 := F13.binds (ps := ["A"]) fun _ _ _ _ _ _ us hl => match us, hl with | [_], _ => rfl
  have F14 := fun_mk (st := s_free_terms_in) l14 c14 k14
  have b14 := F14.binds (ps := ["A"]) fun _ _ _ _ _ _ us hl => match us, hl with | [_], _ => rfl
  have F15 := fun_mk (st := s_free_in) l15 c15 k15
  have b15 := F15.binds (ps := ["A"]) fun _ _ _ _ _ _ us hl => match us, hl with | [_], _ => rfl
  have F16 := fun_mk (st := s_put) l16 c16 k16
  have b16 := F16.binds (ps := ["A", "letter", "name"]) fun _ _ _ _ _ _ us hl => match us, hl with | [_, _, _], _ => rfl
  have F17 := fun_mk (st := s_by_again) l17 c17 k17
  have b17 := F17.binds (ps := ["S", "taken"]) fun _ _ _ _ _ _ us hl => match us, hl with | [_, _], _ => rfl
  have F18 := fun_mk (st := s_by_both) l18 c18 k18
  have b18 := F18.binds (ps := ["S", "taken"]) fun _ _ _ _ _ _ us hl => match us, hl with | [_, _], _ => rfl
  have F19 := fun_mk (st := s_by_left) l19 c19 k19
  have b19 := F19.binds (ps := ["S", "taken"]) fun _ _ _ _ _ _ us hl => match us, hl with | [_, _], _ => rfl
  have F20 := fun_mk (st := s_by_right) l20 c20 k20
  have b20 := F20.binds (ps := ["S", "taken"]) fun _ _ _ _ _ _ us hl => match us, hl with | [_, _], _ => rfl
  have F21 := fun_mk (st := s_by_either) l21 c21 k21
  have b21 := F21.binds (ps := ["S", "taken"]) fun _ _ _ _ _ _ us hl => match us, hl with | [_, _], _ => rfl
  have F22 := fun_mk (st := s_by_cases) l22 c22 k22
  have b22 := F22.binds (ps := ["S", "taken"]) fun _ _ _ _ _ _ us hl => match us, hl with | [_, _], _ => rfl
  have F23 := fun_mk (st := s_by_then) l23 c23 k23
  have b23 := F23.binds (ps := ["S", "taken"]) fun _ _ _ _ _ _ us hl => match us, hl with | [_, _], _ => rfl
  have F24 := fun_mk (st := s_by_use) l24 c24 k24
  have b24 := F24.binds (ps := ["S", "taken"]) fun _ _ _ _ _ _ us hl => match us, hl with | [_, _], _ => rfl
  have F25 := fun_mk (st := s_by_deny) l25 c25 k25
  have b25 := F25.binds (ps := ["S", "taken"]) fun _ _ _ _ _ _ us hl => match us, hl with | [_, _], _ => rfl
  have F26 := fun_mk (st := s_by_clash) l26 c26 k26
  have b26 := F26.binds (ps := ["S", "taken"]) fun _ _ _ _ _ _ us hl => match us, hl with | [_, _], _ => rfl
  have F27 := fun_mk (st := s_by_absurd) l27 c27 k27
  have b27 := F27.binds (ps := ["S", "taken"]) fun _ _ _ _ _ _ us hl => match us, hl with | [_, _], _ => rfl
  have F28 := fun_mk (st := s_by_any) l28 c28 k28
  have b28 := F28.binds (ps := ["S", "taken"]) fun _ _ _ _ _ _ us hl => match us, hl with | [_, _], _ => rfl
  have F29 := fun_mk (st := s_by_each) l29 c29 k29
  have b29 := F29.binds (ps := ["S", "taken"]) fun _ _ _ _ _ _ us hl => match us, hl with | [_, _], _ => rfl
  have F30 := fun_mk (st := s_by_every) l30 c30 k30
  have b30 := F30.binds (ps := ["S", "taken"]) fun _ _ _ _ _ _ us hl => match us, hl with | [_, _], _ => rfl
  have F31 := fun_mk (st := s_by_some) l31 c31 k31
  have b31 := F31.binds (ps := ["S", "taken"]) fun _ _ _ _ _ _ us hl => match us, hl with | [_, _], _ => rfl
  have F32 := fun_mk (st := s_by_one) l32 c32 k32
  have b32 := F32.binds (ps := ["S", "taken"]) fun _ _ _ _ _ _ us hl => match us, hl with | [_, _], _ => rfl
  have F33 := fun_mk (st := s_leads) l33 c33 k33
  have b33 := F33.binds (ps := ["box", "guessed", "ending"]) fun _ _ _ _ _ _ us hl => match us, hl with | [_, _, _], _ => rfl
  have F34 := fun_mk (st := s_opened_with) l34 c34 k34
  have b34 := F34.binds (ps := ["box", "rule"]) fun _ _ _ _ _ _ us hl => match us, hl with | [_, _], _ => rfl
  have F35 := fun_mk (st := s_only_name) l35 c35 k35
  have b35 := F35.binds (ps := ["line"]) fun _ _ _ _ _ _ us hl => match us, hl with | [_], _ => rfl
  have F36 := fun_mk (st := s_name_for) l36 c36 k36
  have b36 := F36.binds (ps := ["ref"]) fun _ _ _ _ _ _ us hl => match us, hl with | [_], _ => rfl
  have F37 := fun_mk (st := s_names_of) l37 c37 k37
  have b37 := F37.binds (ps := ["line"]) fun _ _ _ _ _ _ us hl => match us, hl with | [_], _ => rfl
  have F38 := fun_mk (st := s_follows) l38 c38 k38
  have b38 := F38.binds (ps := ["lines", "paths", "k"]) fun _ _ _ _ _ _ us hl => match us, hl with | [_, _, _], _ => rfl
  have F39 := fun_mk (st := s_follows_behind) l39 c39 k39
  have b39 := F39.binds (ps := ["ahead", "lines", "paths", "k"]) fun _ _ _ _ _ _ us hl => match us, hl with | [_, _, _, _], _ => rfl
  have F40 := fun_mk (st := s_fits_its_rule) l40 c40 k40
  have b40 := F40.binds (ps := ["statement", "rule"]) fun _ _ _ _ _ _ us hl => match us, hl with | [_, _], _ => rfl
  have F41 := fun_mk (st := s_follows_by) l41 c41 k41
  have b41 := F41.binds (ps := ["wants_and_step", "lines", "paths", "k"]) fun _ _ _ _ _ _ us hl => match us, hl with | [_, _, _, _], _ => rfl
  have F42 := fun_mk (st := s_stands_for) l42 c42 k42
  have b42 := F42.binds (ps := ["want", "ref", "lines", "paths", "k"]) fun _ _ _ _ _ _ us hl => match us, hl with | [_, _, _, _, _], _ => rfl
  have F43 := fun_mk (st := s_is_number_ahead) l43 c43 k43
  have b43 := F43.binds (ps := ["ref", "k"]) fun _ _ _ _ _ _ us hl => match us, hl with | [_, _], _ => rfl
  have F44 := fun_mk (st := s_seen_box) l44 c44 k44
  have b44 := F44.binds (ps := ["b", "lines", "paths", "k"]) fun _ _ _ _ _ _ us hl => match us, hl with | [_, _, _, _], _ => rfl
  have F45 := fun_mk (st := s_statement_of) l45 c45 k45
  have b45 := F45.binds (ps := ["line"]) fun _ _ _ _ _ _ us hl => match us, hl with | [_], _ => rfl
  have F46 := fun_mk (st := s_cell_at_L) l46 c46 k46
  have b46 := F46.binds (ps := ["_law_script", "_law_k"]) fun _ _ _ _ _ _ us hl => match us, hl with | [_, _], _ => rfl
  have F47 := fun_mk (st := s_name_by_L) l47 c47 k47
  have b47 := F47.binds (ps := ["_law_shape", "_law_cell", "_law_k"]) fun _ _ _ _ _ _ us hl => match us, hl with | [_, _, _], _ => rfl
  have F48 := fun_mk (st := s_letter_by_L) l48 c48 k48
  have b48 := F48.binds (ps := ["_law_cell"]) fun _ _ _ _ _ _ us hl => match us, hl with | [_], _ => rfl
  have F49 := fun_mk (st := s_made_L) l49 c49 k49
  have b49 := F49.binds (ps := ["_law_number", "_law_room", "_law_terms", "_law_words"]) fun _ _ _ _ _ _ us hl => match us, hl with | [_, _, _, _], _ => rfl
  have F50 := fun_mk (st := s_draw_L) l50 c50 k50
  have b50 := F50.binds (ps := ["_law_script", "_law_at"]) fun _ _ _ _ _ _ us hl => match us, hl with | [_, _], _ => rfl
  have F51 := fun_mk (st := s_some_L) l51 c51 k51
  have b51 := F51.binds (ps := ["_law_script", "_law_at", "_law_drawn", "_law_count"]) fun _ _ _ _ _ _ us hl => match us, hl with | [_, _, _, _], _ => rfl
  have F52 := fun_mk (st := s_paths_L) l52 c52 k52
  have b52 := F52.binds (ps := ["_law_lines_here"]) fun _ _ _ _ _ _ us hl => match us, hl with | [_], _ => rfl
  have F53 := fun_mk (st := s_line_L) l53 c53 k53
  have b53 := F53.binds (ps := ["_law_lines_here", "_law_k", "_law_ref"]) fun _ _ _ _ _ _ us hl => match us, hl with | [_, _, _], _ => rfl
  have F54 := fun_mk (st := s_refs_L) l54 c54 k54
  have b54 := F54.binds (ps := ["_law_cell", "_law_k", "_law_drawn"]) fun _ _ _ _ _ _ us hl => match us, hl with | [_, _, _], _ => rfl
  have F55 := fun_mk (st := s_lines_L) l55 c55 k55
  have b55 := F55.binds (ps := ["_law_script"]) fun _ _ _ _ _ _ us hl => match us, hl with | [_], _ => rfl
  have F56 := fun_mk (st := s_due_L) l56 c56 k56
  have b56 := F56.binds (ps := ["_law_lines_here", "_law_k"]) fun _ _ _ _ _ _ us hl => match us, hl with | [_, _], _ => rfl
  have F57 := fun_mk (st := s_law) l57 c57 k57
  have b57 := F57.binds (ps := ["_law_script"]) fun _ _ _ _ _ _ us hl => match us, hl with | [_], _ => rfl
  have F58 := fun_mk (st := s_Ahead_init) l58 c58 k58
  have b58 := F58.binds (ps := ["self", "lines"]) fun _ _ _ _ _ _ us hl => match us, hl with | [_, _], _ => rfl
  have F59 := fun_mk (st := s_Ahead_only_givens) l59 c59 k59
  have b59 := F59.binds (ps := ["self", "k"]) fun _ _ _ _ _ _ us hl => match us, hl with | [_, _], _ => rfl
  have F60 := fun_mk (st := s_Ahead_has_name) l60 c60 k60
  have b60 := F60.binds (ps := ["self", "name", "k"]) fun _ _ _ _ _ _ us hl => match us, hl with | [_, _, _], _ => rfl
  let D : Defs := ⟨f0, PySem.W.fnOf "seen" "seen" (defArgs s_seen) (defBody s_seen) (defScope s_seen) .none kV0 dc0 pm0 an0 cd0 ct0, f1, PySem.W.fnOf "box_seen" "box_seen" (defArgs s_box_seen) (defBody s_box_seen) (defScope s_box_seen) .none kV1 dc1 pm1 an1 cd1 ct1, f2, PySem.W.fnOf "begins_with" "begins_with" (defArgs s_begins_with) (defBody s_begins_with) (defScope s_begins_with) .none kV2 dc2 pm2 an2 cd2 ct2, f3, PySem.W.fnOf "end_of" "end_of" (defArgs s_end_of) (defBody s_end_of) (defScope s_end_of) .none kV3 dc3 pm3 an3 cd3 ct3, f4, PySem.W.fnOf "opens" "opens" (defArgs s_opens) (defBody s_opens) (defScope s_opens) .none kV4 dc4 pm4 an4 cd4 ct4, f5, PySem.W.fnOf "boxes" "boxes" (defArgs s_boxes) (defBody s_boxes) (defScope s_boxes) .none kV5 dc5 pm5 an5 cd5 ct5, f6, PySem.W.fnOf "fitting_boxes" "fitting_boxes" (defArgs s_fitting_boxes) (defBody s_fitting_boxes) (defScope s_fitting_boxes) .none kV6 dc6 pm6 an6 cd6 ct6, f7, PySem.W.fnOf "boxes_behind" "boxes_behind" (defArgs s_boxes_behind) (defBody s_boxes_behind) (defScope s_boxes_behind) .none kV7 dc7 pm7 an7 cd7 ct7, f8, PySem.W.fnOf "begins_and_goes_on" "begins_and_goes_on" (defArgs s_begins_and_goes_on) (defBody s_begins_and_goes_on) (defScope s_begins_and_goes_on) .none kV8 dc8 pm8 an8 cd8 ct8, f9, PySem.W.fnOf "is_name" "is_name" (defArgs s_is_name) (defBody s_is_name) (defScope s_is_name) .none kV9 dc9 pm9 an9 cd9 ct9, f10, PySem.W.fnOf "is_letter" "is_letter" (defArgs s_is_letter) (defBody s_is_letter) (defScope s_is_letter) .none kV10 dc10 pm10 an10 cd10 ct10, f11, PySem.W.fnOf "parts" "parts" (defArgs s_parts) (defBody s_parts) (defScope s_parts) .none kV11 dc11 pm11 an11 cd11 ct11, f12, PySem.W.fnOf "terms_in" "terms_in" (defArgs s_terms_in) (defBody s_terms_in) (defScope s_terms_in) .none kV12 dc12 pm12 an12 cd12 ct12, f13, PySem.W.fnOf "names_in" "names_in" (defArgs s_names_in) (defBody s_names_in) (defScope s_names_in) .none kV13 dc13 pm13 an13 cd13 ct13, f14, PySem.W.fnOf "free_terms_in" "free_terms_in" (defArgs s_free_terms_in) (defBody s_free_terms_in) (defScope s_free_terms_in) .none kV14 dc14 pm14 an14 cd14 ct14, f15, PySem.W.fnOf "free_in" "free_in" (defArgs s_free_in) (defBody s_free_in) (defScope s_free_in) .none kV15 dc15 pm15 an15 cd15 ct15, f16, PySem.W.fnOf "put" "put" (defArgs s_put) (defBody s_put) (defScope s_put) .none kV16 dc16 pm16 an16 cd16 ct16, f17, PySem.W.fnOf "by_again" "by_again" (defArgs s_by_again) (defBody s_by_again) (defScope s_by_again) .none kV17 dc17 pm17 an17 cd17 ct17, f18, PySem.W.fnOf "by_both" "by_both" (defArgs s_by_both) (defBody s_by_both) (defScope s_by_both) .none kV18 dc18 pm18 an18 cd18 ct18, f19, PySem.W.fnOf "by_left" "by_left" (defArgs s_by_left) (defBody s_by_left) (defScope s_by_left) .none kV19 dc19 pm19 an19 cd19 ct19, f20, PySem.W.fnOf "by_right" "by_right" (defArgs s_by_right) (defBody s_by_right) (defScope s_by_right) .none kV20 dc20 pm20 an20 cd20 ct20, f21, PySem.W.fnOf "by_either" "by_either" (defArgs s_by_either) (defBody s_by_either) (defScope s_by_either) .none kV21 dc21 pm21 an21 cd21 ct21, f22, PySem.W.fnOf "by_cases" "by_cases" (defArgs s_by_cases) (defBody s_by_cases) (defScope s_by_cases) .none kV22 dc22 pm22 an22 cd22 ct22, f23, PySem.W.fnOf "by_then" "by_then" (defArgs s_by_then) (defBody s_by_then) (defScope s_by_then) .none kV23 dc23 pm23 an23 cd23 ct23, f24, PySem.W.fnOf "by_use" "by_use" (defArgs s_by_use) (defBody s_by_use) (defScope s_by_use) .none kV24 dc24 pm24 an24 cd24 ct24, f25, PySem.W.fnOf "by_deny" "by_deny" (defArgs s_by_deny) (defBody s_by_deny) (defScope s_by_deny) .none kV25 dc25 pm25 an25 cd25 ct25, f26, PySem.W.fnOf "by_clash" "by_clash" (defArgs s_by_clash) (defBody s_by_clash) (defScope s_by_clash) .none kV26 dc26 pm26 an26 cd26 ct26, f27, PySem.W.fnOf "by_absurd" "by_absurd" (defArgs s_by_absurd) (defBody s_by_absurd) (defScope s_by_absurd) .none kV27 dc27 pm27 an27 cd27 ct27, f28, PySem.W.fnOf "by_any" "by_any" (defArgs s_by_any) (defBody s_by_any) (defScope s_by_any) .none kV28 dc28 pm28 an28 cd28 ct28, f29, PySem.W.fnOf "by_each" "by_each" (defArgs s_by_each) (defBody s_by_each) (defScope s_by_each) .none kV29 dc29 pm29 an29 cd29 ct29, f30, PySem.W.fnOf "by_every" "by_every" (defArgs s_by_every) (defBody s_by_every) (defScope s_by_every) .none kV30 dc30 pm30 an30 cd30 ct30, f31, PySem.W.fnOf "by_some" "by_some" (defArgs s_by_some) (defBody s_by_some) (defScope s_by_some) .none kV31 dc31 pm31 an31 cd31 ct31, f32, PySem.W.fnOf "by_one" "by_one" (defArgs s_by_one) (defBody s_by_one) (defScope s_by_one) .none kV32 dc32 pm32 an32 cd32 ct32, f33, PySem.W.fnOf "leads" "leads" (defArgs s_leads) (defBody s_leads) (defScope s_leads) .none kV33 dc33 pm33 an33 cd33 ct33, f34, PySem.W.fnOf "opened_with" "opened_with" (defArgs s_opened_with) (defBody s_opened_with) (defScope s_opened_with) .none kV34 dc34 pm34 an34 cd34 ct34, f35, PySem.W.fnOf "only_name" "only_name" (defArgs s_only_name) (defBody s_only_name) (defScope s_only_name) .none kV35 dc35 pm35 an35 cd35 ct35, f36, PySem.W.fnOf "name_for" "name_for" (defArgs s_name_for) (defBody s_name_for) (defScope s_name_for) .none kV36 dc36 pm36 an36 cd36 ct36, f37, PySem.W.fnOf "names_of" "names_of" (defArgs s_names_of) (defBody s_names_of) (defScope s_names_of) .none kV37 dc37 pm37 an37 cd37 ct37, f38, PySem.W.fnOf "follows" "follows" (defArgs s_follows) (defBody s_follows) (defScope s_follows) .none kV38 dc38 pm38 an38 cd38 ct38, f39, PySem.W.fnOf "follows_behind" "follows_behind" (defArgs s_follows_behind) (defBody s_follows_behind) (defScope s_follows_behind) .none kV39 dc39 pm39 an39 cd39 ct39, f40, PySem.W.fnOf "fits_its_rule" "fits_its_rule" (defArgs s_fits_its_rule) (defBody s_fits_its_rule) (defScope s_fits_its_rule) .none kV40 dc40 pm40 an40 cd40 ct40, f41, PySem.W.fnOf "follows_by" "follows_by" (defArgs s_follows_by) (defBody s_follows_by) (defScope s_follows_by) .none kV41 dc41 pm41 an41 cd41 ct41, f42, PySem.W.fnOf "stands_for" "stands_for" (defArgs s_stands_for) (defBody s_stands_for) (defScope s_stands_for) .none kV42 dc42 pm42 an42 cd42 ct42, f43, PySem.W.fnOf "is_number_ahead" "is_number_ahead" (defArgs s_is_number_ahead) (defBody s_is_number_ahead) (defScope s_is_number_ahead) .none kV43 dc43 pm43 an43 cd43 ct43, f44, PySem.W.fnOf "seen_box" "seen_box" (defArgs s_seen_box) (defBody s_seen_box) (defScope s_seen_box) .none kV44 dc44 pm44 an44 cd44 ct44, f45, PySem.W.fnOf "statement_of" "statement_of" (defArgs s_statement_of) (defBody s_statement_of) (defScope s_statement_of) .none kV45 dc45 pm45 an45 cd45 ct45, f46, PySem.W.fnOf "_law_cell_at" "_law_cell_at" (defArgs s_cell_at_L) (defBody s_cell_at_L) (defScope s_cell_at_L) .none kV46 dc46 pm46 an46 cd46 ct46, f47, PySem.W.fnOf "_law_name_by" "_law_name_by" (defArgs s_name_by_L) (defBody s_name_by_L) (defScope s_name_by_L) .none kV47 dc47 pm47 an47 cd47 ct47, f48, PySem.W.fnOf "_law_letter_by" "_law_letter_by" (defArgs s_letter_by_L) (defBody s_letter_by_L) (defScope s_letter_by_L) .none kV48 dc48 pm48 an48 cd48 ct48, f49, PySem.W.fnOf "_law_made" "_law_made" (defArgs s_made_L) (defBody s_made_L) (defScope s_made_L) .none kV49 dc49 pm49 an49 cd49 ct49, f50, PySem.W.fnOf "_law_draw" "_law_draw" (defArgs s_draw_L) (defBody s_draw_L) (defScope s_draw_L) .none kV50 dc50 pm50 an50 cd50 ct50, f51, PySem.W.fnOf "_law_some" "_law_some" (defArgs s_some_L) (defBody s_some_L) (defScope s_some_L) .none kV51 dc51 pm51 an51 cd51 ct51, f52, PySem.W.fnOf "_law_paths" "_law_paths" (defArgs s_paths_L) (defBody s_paths_L) (defScope s_paths_L) .none kV52 dc52 pm52 an52 cd52 ct52, f53, PySem.W.fnOf "_law_line" "_law_line" (defArgs s_line_L) (defBody s_line_L) (defScope s_line_L) .none kV53 dc53 pm53 an53 cd53 ct53, f54, PySem.W.fnOf "_law_refs" "_law_refs" (defArgs s_refs_L) (defBody s_refs_L) (defScope s_refs_L) .none kV54 dc54 pm54 an54 cd54 ct54, f55, PySem.W.fnOf "_law_lines" "_law_lines" (defArgs s_lines_L) (defBody s_lines_L) (defScope s_lines_L) .none kV55 dc55 pm55 an55 cd55 ct55, f56, PySem.W.fnOf "_law_due" "_law_due" (defArgs s_due_L) (defBody s_due_L) (defScope s_due_L) .none kV56 dc56 pm56 an56 cd56 ct56, fa, PySem.W.fnOf "law" "law" (defArgs s_law) (defBody s_law) (defScope s_law) .none kV57 dc57 pm57 an57 cd57 ct57, f58, PySem.W.fnOf "__init__" "Ahead.__init__" (defArgs s_Ahead_init) (defBody s_Ahead_init) (defScope s_Ahead_init) .none kV58 dc58 pm58 an58 cd58 ct58, f59, PySem.W.fnOf "only_givens" "Ahead.only_givens" (defArgs s_Ahead_only_givens) (defBody s_Ahead_only_givens) (defScope s_Ahead_only_givens) .none kV59 dc59 pm59 an59 cd59 ct59, f60, PySem.W.fnOf "has_name" "Ahead.has_name" (defArgs s_Ahead_has_name) (defBody s_Ahead_has_name) (defScope s_Ahead_has_name) .none kV60 dc60 pm60 an60 cd60 ct60, p0, p4, p6, p7, p_RULES, tr0, tw0, tr1, tw1, tr2, tw2, tr3, tw3, tr4, tw4, tr5, tw5, tr6, tw6, tr7, tw7, tr8, tw8, tr9, tw9, tr10, tw10, tr11, tw11, tr12, tw12, tr13, tw13, tr14, tw14, tr15, tw15, xC0, xC1, oC_Ahead⟩
  have T : Tx K mg D := ⟨F0, PySem.W.mg_of X G a0, b0, F1, PySem.W.mg_of X G a1, b1, F2, PySem.W.mg_of X G a2, b2, F3, PySem.W.mg_of X G a3, b3, F4, PySem.W.mg_of X G a4, b4, F5, PySem.W.mg_of X G a5, b5, F6, PySem.W.mg_of X G a6, b6, F7, PySem.W.mg_of X G a7, b7, F8, PySem.W.mg_of X G a8, b8, F9, PySem.W.mg_of X G a9, b9, F10, PySem.W.mg_of X G a10, b10, F11, PySem.W.mg_of X G a11, b11, F12, PySem.W.mg_of X G a12, b12, F13, PySem.W.mg_of X G a13, b13, F14, PySem.W.mg_of X G a14, b14, F15, PySem.W.mg_of X G a15, b15, F16, PySem.W.mg_of X G a16, b16, F17, PySem.W.mg_of X G a17, b17, F18, PySem.W.mg_of X G a18, b18, F19, PySem.W.mg_of X G a19, b19, F20, PySem.W.mg_of X G a20, b20, F21, PySem.W.mg_of X G a21, b21, F22, PySem.W.mg_of X G a22, b22, F23, PySem.W.mg_of X G a23, b23, F24, PySem.W.mg_of X G a24, b24, F25, PySem.W.mg_of X G a25, b25, F26, PySem.W.mg_of X G a26, b26, F27, PySem.W.mg_of X G a27, b27, F28, PySem.W.mg_of X G a28, b28, F29, PySem.W.mg_of X G a29, b29, F30, PySem.W.mg_of X G a30, b30, F31, PySem.W.mg_of X G a31, b31, F32, PySem.W.mg_of X G a32, b32, F33, PySem.W.mg_of X G a33, b33, F34, PySem.W.mg_of X G a34, b34, F35, PySem.W.mg_of X G a35, b35, F36, PySem.W.mg_of X G a36, b36, F37, PySem.W.mg_of X G a37, b37, F38, PySem.W.mg_of X G a38, b38, F39, PySem.W.mg_of X G a39, b39, F40, PySem.W.mg_of X G a40, b40, F41, PySem.W.mg_of X G a41, b41, F42, PySem.W.mg_of X G a42, b42, F43, PySem.W.mg_of X G a43, b43, F44, PySem.W.mg_of X G a44, b44, F45, PySem.W.mg_of X G a45, b45, F46, PySem.W.mg_of X G a46, b46, F47, PySem.W.mg_of X G a47, b47, F48, PySem.W.mg_of X G a48, b48, F49, PySem.W.mg_of X G a49, b49, F50, PySem.W.mg_of X G a50, b50, F51, PySem.W.mg_of X G a51, b51, F52, PySem.W.mg_of X G a52, b52, F53, PySem.W.mg_of X G a53, b53, F54, PySem.W.mg_of X G a54, b54, F55, PySem.W.mg_of X G a55, b55, F56, PySem.W.mg_of X G a56, b56, F57, PySem.W.mg_of X G a57, b57, F58, ⟨a58, i58, k58⟩, b58, F59, ⟨a59, i59, k59⟩, b59, F60, ⟨a60, i60, k60⟩, b60, PySem.W.mg_of X G g0, fun H => .inr ⟨_, _, _, q0, rfl, rfl, (by show 3 ≤ sizeLine; decide), (.cons ⟨_, rfl⟩ (.cons ⟨_, rfl⟩ (.cons ⟨_, rfl⟩ .nil)))⟩, ⟨_, PySem.W.mg_of X G g1⟩, ⟨_, PySem.W.mg_of X G g2⟩, ⟨_, PySem.W.mg_of X G g3⟩, PySem.W.mg_of X G g4, fun H => .inr ⟨_, _, _, q4, rfl, rfl, (by show 7 ≤ sizeLine; decide), (.cons ⟨_, rfl⟩ (.cons ⟨_, rfl⟩ (.cons ⟨_, rfl⟩ (.cons ⟨_, rfl⟩ (.cons ⟨_, rfl⟩ (.cons ⟨_, rfl⟩ (.cons ⟨_, rfl⟩ .nil)))))))⟩, ⟨_, PySem.W.mg_of X G g5⟩, PySem.W.mg_of X G g6, fun H => .inr ⟨_, _, _, q6, rfl, rfl, (by show 2 ≤ sizeLine; decide), (.cons ⟨_, rfl⟩ (.cons ⟨_, rfl⟩ .nil))⟩, PySem.W.mg_of X G g7, fun H => .inr ⟨_, _, _, q7, rfl, rfl, (by show 1 ≤ sizeLine; decide), (.cons ⟨_, rfl⟩ .nil)⟩, PySem.W.mg_of X G g_RULES, TabK.mk q_RULES e_RULES (.cons rfl rfl (.cons rfl rfl (.cons rfl rfl (.cons rfl rfl (.cons rfl rfl (.cons rfl rfl (.cons rfl rfl (.cons rfl rfl (.cons rfl rfl (.cons rfl rfl (.cons rfl rfl (.cons rfl rfl (.cons rfl rfl (.cons rfl rfl (.cons rfl rfl (.cons rfl rfl .nil)))))))))))))))), fun H => .inr ⟨_, _, _, tq0, rfl, rfl, (by show 2 ≤ sizeLine; decide), .cons rfl (.cons rfl .nil)⟩, fun H => .inr ⟨_, _, _, tv0, rfl, rfl, (by show 1 ≤ sizeLine; decide), (.cons ⟨_, rfl⟩ .nil)⟩, fun H => .inr ⟨_, _, _, tq1, rfl, rfl, (by show 2 ≤ sizeLine; decide), .cons rfl (.cons rfl .nil)⟩, fun H => .inr ⟨_, _, _, tv1, rfl, rfl, (by show 2 ≤ sizeLine; decide), (.cons ⟨_, rfl⟩ (.cons ⟨_, rfl⟩ .nil))⟩, fun H => .inr ⟨_, _, _, tq2, rfl, rfl, (by show 2 ≤ sizeLine; decide), .cons rfl (.cons rfl .nil)⟩, fun H => .inr ⟨_, _, _, tv2, rfl, rfl, (by show 1 ≤ sizeLine; decide), (.cons ⟨_, rfl⟩ .nil)⟩, fun H => .inr ⟨_, _, _, tq3, rfl, rfl, (by show 2 ≤ sizeLine; decide), .cons rfl (.cons rfl .nil)⟩, fun H => .inr ⟨_, _, _, tv3, rfl, rfl, (by show 1 ≤ sizeLine; decide), (.cons ⟨_, rfl⟩ .nil)⟩, fun H => .inr ⟨_, _, _, tq4, rfl, rfl, (by show 2 ≤ sizeLine; decide), .cons rfl (.cons rfl .nil)⟩, fun H => .inr ⟨_, _, _, tv4, rfl, rfl, (by show 1 ≤ sizeLine; decide), (.cons ⟨_, rfl⟩ .nil)⟩, fun H => .inr ⟨_, _, _, tq5, rfl, rfl, (by show 2 ≤ sizeLine; decide), .cons rfl (.cons rfl .nil)⟩, fun H => .inr ⟨_, _, _, tv5, rfl, rfl, (by show 3 ≤ sizeLine; decide), (.cons ⟨_, rfl⟩ (.cons ⟨_, rfl⟩ (.cons ⟨_, rfl⟩ .nil)))⟩, fun H => .inr ⟨_, _, _, tq6, rfl, rfl, (by show 2 ≤ sizeLine; decide), .cons rfl (.cons rfl .nil)⟩, fun H => .inr ⟨_, _, _, tv6, rfl, rfl, (by show 1 ≤ sizeLine; decide), (.cons ⟨_, rfl⟩ .nil)⟩, fun H => .inr ⟨_, _, _, tq7, rfl, rfl, (by show 2 ≤ sizeLine; decide), .cons rfl (.cons rfl .nil)⟩, fun H => .inr ⟨_, _, _, tv7, rfl, rfl, (by show 2 ≤ sizeLine; decide), (.cons ⟨_, rfl⟩ (.cons ⟨_, rfl⟩ .nil))⟩, fun H => .inr ⟨_, _, _, tq8, rfl, rfl, (by show 2 ≤ sizeLine; decide), .cons rfl (.cons rfl .nil)⟩, fun H => .inr ⟨_, _, _, tv8, rfl, rfl, (by show 1 ≤ sizeLine; decide), (.cons ⟨_, rfl⟩ .nil)⟩, fun H => .inr ⟨_, _, _, tq9, rfl, rfl, (by show 2 ≤ sizeLine; decide), .cons rfl (.cons rfl .nil)⟩, fun H => .inr ⟨_, _, _, tv9, rfl, rfl, (by show 2 ≤ sizeLine; decide), (.cons ⟨_, rfl⟩ (.cons ⟨_, rfl⟩ .nil))⟩, fun H => .inr ⟨_, _, _, tq10, rfl, rfl, (by show 2 ≤ sizeLine; decide), .cons rfl (.cons rfl .nil)⟩, fun H => .inr ⟨_, _, _, tv10, rfl, rfl, (by show 1 ≤ sizeLine; decide), (.cons ⟨_, rfl⟩ .nil)⟩, fun H => .inr ⟨_, _, _, tq11, rfl, rfl, (by show 2 ≤ sizeLine; decide), .cons rfl (.cons rfl .nil)⟩, fun H => .inr ⟨_, _, _, tv11, rfl, rfl, (by show 1 ≤ sizeLine; decide), (.cons ⟨_, rfl⟩ .nil)⟩, fun H => .inr ⟨_, _, _, tq12, rfl, rfl, (by show 2 ≤ sizeLine; decide), .cons rfl (.cons rfl .nil)⟩, fun H => .inr ⟨_, _, _, tv12, rfl, rfl, (by show 2 ≤ sizeLine; decide), (.cons ⟨_, rfl⟩ (.cons ⟨_, rfl⟩ .nil))⟩, fun H => .inr ⟨_, _, _, tq13, rfl, rfl, (by show 2 ≤ sizeLine; decide), .cons rfl (.cons rfl .nil)⟩, fun H => .inr ⟨_, _, _, tv13, rfl, rfl, (by show 1 ≤ sizeLine; decide), (.cons ⟨_, rfl⟩ .nil)⟩, fun H => .inr ⟨_, _, _, tq14, rfl, rfl, (by show 2 ≤ sizeLine; decide), .cons rfl (.cons rfl .nil)⟩, fun H => .inr ⟨_, _, _, tv14, rfl, rfl, (by show 2 ≤ sizeLine; decide), (.cons ⟨_, rfl⟩ (.cons ⟨_, rfl⟩ .nil))⟩, fun H => .inr ⟨_, _, _, tq15, rfl, rfl, (by show 2 ≤ sizeLine; decide), .cons rfl (.cons rfl .nil)⟩, fun H => .inr ⟨_, _, _, tv15, rfl, rfl, (by show 2 ≤ sizeLine; decide), (.cons ⟨_, rfl⟩ (.cons ⟨_, rfl⟩ .nil))⟩, PySem.W.mg_none_of X G z_all, PySem.W.mg_none_of X G z_bool, PySem.W.mg_none_of X G z_enumerate, PySem.W.mg_none_of X G z_int, PySem.W.mg_none_of X G z_isinstance, PySem.W.mg_none_of X G z_len, PySem.W.mg_none_of X G z_list, PySem.W.mg_none_of X G z_range, PySem.W.mg_none_of X G z_reversed, PySem.W.mg_none_of X G z_set, PySem.W.mg_none_of X G z_sorted, PySem.W.mg_none_of X G z_str, PySem.W.mg_none_of X G z_tuple, PySem.W.mg_none_of X G z_zip, xcls0 (PySem.W.mg_of X G xa0) xl0 ⟨⟨_, _, _, _, _, xn0, xy0⟩, xp0, xr0, xu0, xv0⟩, xcls1 (PySem.W.mg_of X G xa1) xl1 ⟨⟨_, _, _, _, _, xn1, xy1⟩, xp1, xr1, xu1, xv1⟩ xl0 ⟨⟨_, _, _, _, _, xn0, xy0⟩, xp0, xr0, xu0, xv0⟩, PySem.W.mg_of X G oa_Ahead, ⟨og_Ahead, oh_Ahead, op_Ahead, os_Ahead⟩, ⟨om_Ahead, a58, i58, ok_Ahead⟩, on_Ahead_lines, on_Ahead_givens, on_Ahead_named, on_Ahead_first_places⟩
  exact ⟨_, fun s v => .of_eq rfl, fun base _ _ => OK l.prog D base T⟩
theorem walk {l : PySem.W.OpenLaw} {q : Program} {loose : List Str} {XP : (Str → Option Value) → Heap → Prop} {YP : World → Heap → Prop} {d : DefRec} {K : Params → PySem.W.Frag} (hn : l.most = some 63) (hdf : d.params.defaults = [])
    (hY : ∀ (w : World) (h : Heap), YP w h → (K w.params).In h)
    (F : ∀ (w : World) (mg : Str → Option Value) (fa : Addr) (h : Heap), (K w.params).In h → h.Ns mainGlobals mg → mg d.name = some (.ref fa) →
      ∃ fd : FuncData, (∀ (s : Shared) (u : Value), BindsTo s fd ⟨[u], []⟩ [("_law_script", u)]) ∧ ∀ base : Heap, (K w.params).In base → base.Ns mainGlobals mg → FnOk l.prog w (K w.params) mg base CX0 60 fa fd ["_law_script"] (spLaw (K w.params))) :
    PySem.W.WalkO q loose XP YP l.row.toRowW d [] (fun f vs => PySem.call f vs) :=
  L2.walk_of (n := 63) (k := 60) (x := "_law_script") (CX := fun _ => CX0) (sp := fun w => spLaw (K w.params)) hn (by decide) hdf ⟨rfl, by decide, by decide⟩ hY F (fun _ _ a ns hl _ hS => ⟨a, ns, rfl, hS, hl, fun _ => rfl⟩) fun _ _ _ _ _ z => z
end K31
namespace PySem.W.Fast
def tw6976304580159850036 := 0
def tw10383905345716475427 := 0
def tw1754226358985293630 := 0
def tw18293598519827550079 := 0
def tw5415936984791999710 := 0
def tw18315629656262715635 := 0
def tw4945151683606816928 := 0
def tw15891474388536028747 := 0
def tw17486388830826883777 := 0
def tw17897000843287872641 := 0
def tw10844356531264382186 := 0
def tw1647252451724021184 := 0
def tw11301257769027062546 := 0
def tw5284176897831844408 := 0
def tw3413514338048206499 := 0
def tw9892315795283464223 := 0
def tw4541000119950174543 := 0
def tw10298227454523327459 := 0
def tw17455702808524035830 := 0
def tw16618118553378799313 := 0
def tw7299070025944128939 := 0
def tw187693129185944972 := 0
def tw16996553677589686642 := 0
def tw14664640637779928467 := 0
def tw3783915619956301038 := 0
def tw5982265520512183275 := 0
def tw10092137703666577207 := 0
def tw9708832401857537168 := 0
def tw9665805868843371504 := 0
def tw12535708313378182127 := 0
def tw11087058895158547511 := 0
def tw15959210218680361558 := 0
def tw2237985664750598702 := 0
def tw11709739904810882874 := 0
def tw12855296370685681356 := 0
def tw5988809404909108595 := 0
def tw12489101543014089166 := 0
def tw1318491925882382981 := 0
def tw4072697218671293597 := 0
def tw3724105400007040604 := 0
def tw9123300122696421093 := 0
def tw4158797730854990453 := 0
def tw16795375657477148636 := 0
def tw2296628054515069284 := 0
def tw17734516097445170315 := 0
def tw13124094429862472407 := 0
def tw16042035421038605245 := 0
def tw1853621439726696636 := 0
end PySem.W.Fast
open PySem PySem.W PyProof.Rows
set_option maxRecDepth 100000 in
set_option maxHeartbeats 0 in
theorem PySem.Challenge.cw_boxproof_k31_given_guess_again_holds : PySem.Challenge.rw_boxproof_k31_given_guess_again.Holds := by
  w_on; o_law; k_head; (case hw => w_witness2)
  k_fill
  refine K31.walk (l := PySem.Challenge.rw_boxproof_k31_given_guess_again) rfl rfl (fun w h Y => PySem.W.kIn_of Y) ?F
  case F =>
    intro w mg fa h KX G hmg
    refine' K31.all_mk KX G hmg ?bpoa_Ahead ?bpa0 ?bpl0 ?bpc0 ?bpk0 ?bpa1 ?bpl1 ?bpc1 ?bpk1 ?bpa2 ?bpl2 ?bpc2 ?bpk2 ?bpa3 ?bpl3 ?bpc3 ?bpk3 ?bpa4 ?bpl4 ?bpc4 ?bpk4 ?bpa5 ?bpl5 ?bpc5 ?bpk5 ?bpa6 ?bpl6 ?bpc6 ?bpk6 ?bpa7 ?bpl7 ?bpc7 ?bpk7 ?bpa8 ?bpl8 ?bpc8 ?bpk8 ?bpa9 ?bpl9 ?bpc9 ?bpk9 ?bpa10 ?bpl10 ?bpc10 ?bpk10 ?bpa11 ?bpl11 ?bpc11 ?bpk11 ?bpa12 ?bpl12 ?bpc12 ?bpk12 ?bpa13 ?bpl13 ?bpc13 ?bpk13 ?bpa14 ?bpl14 ?bpc14 ?bpk14 ?bpa15 ?bpl15 ?bpc15 ?bpk15 ?bpa16 ?bpl16 ?bpc16 ?bpk16 ?bpa17 ?bpl17 ?bpc17 ?bpk17 ?bpa18 ?bpl18 ?bpc18 ?bpk18 ?bpa19 ?bpl19 ?bpc19 ?bpk19 ?bpa20 ?bpl20 ?bpc20 ?bpk20 ?bpa21 ?bpl21 ?bpc21 ?bpk21 ?bpa22 ?bpl22 ?bpc22 ?bpk22 ?bpa23 ?bpl23 ?bpc23 ?bpk23 ?bpa24 ?bpl24 ?bpc24 ?bpk24 ?bpa25 ?bpl25 ?bpc25 ?bpk25 ?bpa26 ?bpl26 ?bpc26 ?bpk26 ?bpa27 ?bpl27 ?bpc27 ?bpk27 ?bpa28 ?bpl28 ?bpc28 ?bpk28 ?bpa29 ?bpl29 ?bpc29 ?bpk29 ?bpa30 ?bpl30 ?bpc30 ?bpk30 ?bpa31 ?bpl31 ?bpc31 ?bpk31 ?bpa32 ?bpl32 ?bpc32 ?bpk32 ?bpa33 ?bpl33 ?bpc33 ?bpk33 ?bpa34 ?bpl34 ?bpc34 ?bpk34 ?bpa35 ?bpl35 ?bpc35 ?bpk35 ?bpa36 ?bpl36 ?bpc36 ?bpk36 ?bpa37 ?bpl37 ?bpc37 ?bpk37 ?bpa38 ?bpl38 ?bpc38 ?bpk38 ?bpa39 ?bpl39 ?bpc39 ?bpk39 ?bpa40 ?bpl40 ?bpc40 ?bpk40 ?bpa41 ?bpl41 ?bpc41 ?bpk41 ?bpa42 ?bpl42 ?bpc42 ?bpk42 ?bpa43 ?bpl43 ?bpc43 ?bpk43 ?bpa44 ?bpl44 ?bpc44 ?bpk44 ?bpa45 ?bpl45 ?bpc45 ?bpk45 ?bpa46 ?bpl46 ?bpc46 ?bpk46 ?bpa47 ?bpl47 ?bpc47 ?bpk47 ?bpa48 ?bpl48 ?bpc48 ?bpk48 ?bpa49 ?bpl49 ?bpc49 ?bpk49 ?bpa50 ?bpl50 ?bpc50 ?bpk50 ?bpa51 ?bpl51 ?bpc51 ?bpk51 ?bpa52 ?bpl52 ?bpc52 ?bpk52 ?bpa53 ?bpl53 ?bpc53 ?bpk53 ?bpa54 ?bpl54 ?bpc54 ?bpk54 ?bpa55 ?bpl55 ?bpc55 ?bpk55 ?bpa56 ?bpl56 ?bpc56 ?bpk56 ?bpa57 ?bpl57 ?bpc57 ?bpk57 ?bpa58 ?bpi58 ?bpl58 ?bpc58 ?bpk58 ?bpa59 ?bpi59 ?bpl59 ?bpc59 ?bpk59 ?bpa60 ?bpi60 ?bpl60 ?bpc60 ?bpk60 ?bpg0 ?bpq0 ?bpg1 ?bpg2 ?bpg3 ?bpg4 ?bpq4 ?bpg5 ?bpg6 ?bpq6 ?bpg7 ?bpq7 ?bpg_RULES ?bpq_RULES ?bpe_RULES ?bptq0 ?bptv0 ?bptq1 ?bptv1 ?bptq2 ?bptv2 ?bptq3 ?bptv3 ?bptq4 ?bptv4 ?bptq5 ?bptv5 ?bptq6 ?bptv6 ?bptq7 ?bptv7 ?bptq8 ?bptv8 ?bptq9 ?bptv9 ?bptq10 ?bptv10 ?bptq11 ?bptv11 ?bptq12 ?bptv12 ?bptq13 ?bptv13 ?bptq14 ?bptv14 ?bptq15 ?bptv15 ?bpog_Ahead ?bpoh_Ahead ?bpop_Ahead ?bpos_Ahead ?bpom_Ahead ?bpok_Ahead ?bpon_Ahead_lines ?bpon_Ahead_givens ?bpon_Ahead_named ?bpon_Ahead_first_places ?bpxa0 ?bpxl0 ?bpxn0 ?bpxy0 ?bpxp0 ?bpxr0 ?bpxu0 ?bpxv0 ?bpxa1 ?bpxl1 ?bpxn1 ?bpxy1 ?bpxp1 ?bpxr1 ?bpxu1 ?bpxv1 ?bpz_all ?bpz_bool ?bpz_enumerate ?bpz_int ?bpz_isinstance ?bpz_len ?bpz_list ?bpz_range ?bpz_reversed ?bpz_set ?bpz_sorted ?bpz_str ?bpz_tuple ?bpz_zip ?bpOK
    (case bpoa_Ahead => k_is)
    (case bpa0 => k_is)
    (case bpl0 => k_is)
    (case bpc0 => k_is)
    (case bpk0 => k_is)
    (case bpa1 => k_is)
    (case bpl1 => k_is)
    (case bpc1 => k_is)
    (case bpk1 => k_is)
    (case bpa2 => k_is)
    (case bpl2 => k_is)
    (case bpc2 => k_is)
    (case bpk2 => k_is)
    (case bpa3 => k_is)
    (case bpl3 => k_is)
    (case bpc3 => k_is)
    (case bpk3 => k_is)
    (case bpa4 => k_is)
    (case bpl4 => k_is)
    (case bpc4 => k_is)
    (case bpk4 => k_is)
    (case bpa5 => k_is)
    (case bpl5 => k_is)
    (case bpc5 => k_is)
    (case bpk5 => k_is)
    (case bpa6 => k_is)
    (case bpl6 => k_is)
    (case bpc6 => k_is)
    (case bpk6 => k_is)
    (case bpa7 => k_is)
    (case bpl7 => k_is)
    (case bpc7 => k_is)
    (case bpk7 => k_is)
    (case bpa8 => k_is)
    (case bpl8 => k_is)
    (case bpc8 => k_is)
    (case bpk8 => k_is)
    (case bpa9 => k_is)
    (case bpl9 => k_is)
    (case bpc9 => k_is)
    (case bpk9 => k_is)
    (case bpa10 => k_is)
    (case bpl10 => k_is)
    (case bpc10 => k_is)
    (case bpk10 => k_is)
    (case bpa11 => k_is)
    (case bpl11 => k_is)
    (case bpc11 => k_is)
    (case bpk11 => k_is)
    (case bpa12 => k_is)
    (case bpl12 => k_is)
    (case bpc12 => k_is)
    (case bpk12 => k_is)
    (case bpa13 => k_is)
    (case bpl13 => k_is)
    (case bpc13 => k_is)
    (case bpk13 => k_is)
    (case bpa14 => k_is)
    (case bpl14 => k_is)
    (case bpc14 => k_is)
    (case bpk14 => k_is)
    (case bpa15 => k_is)
    (case bpl15 => k_is)
    (case bpc15 => k_is)
    (case bpk15 => k_is)
    (case bpa16 => k_is)
    (case bpl16 => k_is)
    (case bpc16 => k_is)
    (case bpk16 => k_is)
    (case bpa17 => k_is)
    (case bpl17 => k_is)
    (case bpc17 => k_is)
    (case bpk17 => k_is)
    (case bpa18 => k_is)
    (case bpl18 => k_is)
    (case bpc18 => k_is)
    (case bpk18 => k_is)
    (case bpa19 => k_is)
    (case bpl19 => k_is)
    (case bpc19 => k_is)
    (case bpk19 => k_is)
    (case bpa20 => k_is)
    (case bpl20 => k_is)
    (case bpc20 => k_is)
    (case bpk20 => k_is)
    (case bpa21 => k_is)
    (case bpl21 => k_is)
    (case bpc21 => k_is)
    (case bpk21 => k_is)
    (case bpa22 => k_is)
    (case bpl22 => k_is)
    (case bpc22 => k_is)
    (case bpk22 => k_is)
    (case bpa23 => k_is)
    (case bpl23 => k_is)
    (case bpc23 => k_is)
    (case bpk23 => k_is)
    (case bpa24 => k_is)
    (case bpl24 => k_is)
    (case bpc24 => k_is)
    (case bpk24 => k_is)
    (case bpa25 => k_is)
    (case bpl25 => k_is)
    (case bpc25 => k_is)
    (case bpk25 => k_is)
    (case bpa26 => k_is)
    (case bpl26 => k_is)
    (case bpc26 => k_is)
    (case bpk26 => k_is)
    (case bpa27 => k_is)
    (case bpl27 => k_is)
    (case bpc27 => k_is)
    (case bpk27 => k_is)
    (case bpa28 => k_is)
    (case bpl28 => k_is)
    (case bpc28 => k_is)
    (case bpk28 => k_is)
    (case bpa29 => k_is)
    (case bpl29 => k_is)
    (case bpc29 => k_is)
    (case bpk29 => k_is)
    (case bpa30 => k_is)
    (case bpl30 => k_is)
    (case bpc30 => k_is)
    (case bpk30 => k_is)
    (case bpa31 => k_is)
    (case bpl31 => k_is)
    (case bpc31 => k_is)
    (case bpk31 => k_is)
    (case bpa32 => k_is)
    (case bpl32 => k_is)
    (case bpc32 => k_is)
    (case bpk32 => k_is)
    (case bpa33 => k_is)
    (case bpl33 => k_is)
    (case bpc33 => k_is)
    (case bpk33 => k_is)
    (case bpa34 => k_is)
    (case bpl34 => k_is)
    (case bpc34 => k_is)
    (case bpk34 => k_is)
    (case bpa35 => k_is)
    (case bpl35 => k_is)
    (case bpc35 => k_is)
    (case bpk35 => k_is)
    (case bpa36 => k_is)
    (case bpl36 => k_is)
    (case bpc36 => k_is)
    (case bpk36 => k_is)
    (case bpa37 => k_is)
    (case bpl37 => k_is)
    (case bpc37 => k_is)
    (case bpk37 => k_is)
    (case bpa38 => k_is)
    (case bpl38 => k_is)
    (case bpc38 => k_is)
    (case bpk38 => k_is)
    (case bpa39 => k_is)
    (case bpl39 => k_is)
    (case bpc39 => k_is)
    (case bpk39 => k_is)
    (case bpa40 => k_is)
    (case bpl40 => k_is)
    (case bpc40 => k_is)
    (case bpk40 => k_is)
    (case bpa41 => k_is)
    (case bpl41 => k_is)
    (case bpc41 => k_is)
    (case bpk41 => k_is)
    (case bpa42 => k_is)
    (case bpl42 => k_is)
    (case bpc42 => k_is)
    (case bpk42 => k_is)
    (case bpa43 => k_is)
    (case bpl43 => k_is)
    (case bpc43 => k_is)
    (case bpk43 => k_is)
    (case bpa44 => k_is)
    (case bpl44 => k_is)
    (case bpc44 => k_is)
    (case bpk44 => k_is)
    (case bpa45 => k_is)
    (case bpl45 => k_is)
    (case bpc45 => k_is)
    (case bpk45 => k_is)
    (case bpa46 => k_is)
    (case bpl46 => k_is)
    (case bpc46 => k_is)
    (case bpk46 => k_is)
    (case bpa47 => k_is)
    (case bpl47 => k_is)
    (case bpc47 => k_is)
    (case bpk47 => k_is)
    (case bpa48 => k_is)
    (case bpl48 => k_is)
    (case bpc48 => k_is)
    (case bpk48 => k_is)
    (case bpa49 => k_is)
    (case bpl49 => k_is)
    (case bpc49 => k_is)
    (case bpk49 => k_is)
    (case bpa50 => k_is)
    (case bpl50 => k_is)
    (case bpc50 => k_is)
    (case bpk50 => k_is)
    (case bpa51 => k_is)
    (case bpl51 => k_is)
    (case bpc51 => k_is)
    (case bpk51 => k_is)
    (case bpa52 => k_is)
    (case bpl52 => k_is)
    (case bpc52 => k_is)
    (case bpk52 => k_is)
    (case bpa53 => k_is)
    (case bpl53 => k_is)
    (case bpc53 => k_is)
    (case bpk53 => k_is)
    (case bpa54 => k_is)
    (case bpl54 => k_is)
    (case bpc54 => k_is)
    (case bpk54 => k_is)
    (case bpa55 => k_is)
    (case bpl55 => k_is)
    (case bpc55 => k_is)
    (case bpk55 => k_is)
    (case bpa56 => k_is)
    (case bpl56 => k_is)
    (case bpc56 => k_is)
    (case bpk56 => k_is)
    (case bpa57 => k_is)
    (case bpl57 => k_is)
    (case bpc57 => k_is)
    (case bpk57 => k_is)
    (case bpa58 => k_is)
    (case bpi58 => k_is)
    (case bpl58 => k_is)
    (case bpc58 => k_is)
    (case bpk58 => k_is)
    (case bpa59 => k_is)
    (case bpi59 => k_is)
    (case bpl59 => k_is)
    (case bpc59 => k_is)
    (case bpk59 => k_is)
    (case bpa60 => k_is)
    (case bpi60 => k_is)
    (case bpl60 => k_is)
    (case bpc60 => k_is)
    (case bpk60 => k_is)
    (case bpg0 => k_is)
    (case bpq0 => k_is)
    (case bpg1 => k_is)
    (case bpg2 => k_is)
    (case bpg3 => k_is)
    (case bpg4 => k_is)
    (case bpq4 => k_is)
    (case bpg5 => k_is)
    (case bpg6 => k_is)
    (case bpq6 => k_is)
    (case bpg7 => k_is)
    (case bpq7 => k_is)
    (case bpg_RULES => k_is)
    (case bpq_RULES => k_is)
    (case bpe_RULES => rfl)
    (case bptq0 => k_is)
    (case bptv0 => k_is)
    (case bptq1 => k_is)
    (case bptv1 => k_is)
    (case bptq2 => k_is)
    (case bptv2 => k_is)
    (case bptq3 => k_is)
    (case bptv3 => k_is)
    (case bptq4 => k_is)
    (case bptv4 => k_is)
    (case bptq5 => k_is)
    (case bptv5 => k_is)
    (case bptq6 => k_is)
    (case bptv6 => k_is)
    (case bptq7 => k_is)
    (case bptv7 => k_is)
    (case bptq8 => k_is)
    (case bptv8 => k_is)
    (case bptq9 => k_is)
    (case bptv9 => k_is)
    (case bptq10 => k_is)
    (case bptv10 => k_is)
    (case bptq11 => k_is)
    (case bptv11 => k_is)
    (case bptq12 => k_is)
    (case bptv12 => k_is)
    (case bptq13 => k_is)
    (case bptv13 => k_is)
    (case bptq14 => k_is)
    (case bptv14 => k_is)
    (case bptq15 => k_is)
    (case bptv15 => k_is)
    (case bpog_Ahead => k_is)
    (case bpoh_Ahead => k_is)
    (case bpop_Ahead => k_is)
    (case bpos_Ahead => k_is)
    (case bpom_Ahead => k_is)
    (case bpok_Ahead => k_is)
    (case bpon_Ahead_lines => k_is)
    (case bpon_Ahead_givens => k_is)
    (case bpon_Ahead_named => k_is)
    (case bpon_Ahead_first_places => k_is)
    (case bpxa0 => k_is)
    (case bpxl0 => k_is)
    (case bpxn0 => k_is)
    (case bpxy0 => rfl)
    (case bpxp0 => k_is)
    (case bpxr0 => k_is)
    (case bpxu0 => k_is)
    (case bpxv0 => k_is)
    (case bpxa1 => k_is)
    (case bpxl1 => k_is)
    (case bpxn1 => k_is)
    (case bpxy1 => rfl)
    (case bpxp1 => k_is)
    (case bpxr1 => k_is)
    (case bpxu1 => k_is)
    (case bpxv1 => k_is)
    (case bpz_all => k_is)
    (case bpz_bool => k_is)
    (case bpz_enumerate => k_is)
    (case bpz_int => k_is)
    (case bpz_isinstance => k_is)
    (case bpz_len => k_is)
    (case bpz_list => k_is)
    (case bpz_range => k_is)
    (case bpz_reversed => k_is)
    (case bpz_set => k_is)
    (case bpz_sorted => k_is)
    (case bpz_str => k_is)
    (case bpz_tuple => k_is)
    (case bpz_zip => k_is)
    case bpOK => exact fun P D base T => K31.ok_law T
#print axioms PySem.Challenge.cw_boxproof_k31_given_guess_again_holds