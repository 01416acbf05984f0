import PyProof.Rows.All
import Wide.All
import OpenK.AllK
import Wide.FinOn
import Lean
import PyProof.EqAt
import PyProof.EqKinds
import PyProof.TupleCall
import PyProof.StationsW
import PyProof.PassesOwn
import PyProof.Rows.CatchOwn
import PyProof.Rows.CatchBare
import PyProof.Rows.Own
import PyProof.ExcAttrAll.ValueError
import PyProof.ExcBaseAll.ValueError
import KE.RegKIsAll
import PyProof.FString4
import PyProof.StrLawsRepr
import PyProof.NeKinds
import PyProof.StrCalls
import PyProof.StrCalls2
import PyProof.FitsReplace
import PyProof.StrOps2
import PyProof.ConsumeWalk
import PyProof.SumWalkG
import PyProof.StrCalls6
import PyProof.ToksMono
import PyProof.StrLawsReplace
import PyProof.ListRange
import KE.KTab
import PyProof.EnumFor
import PyProof.EnumStmt
import PyProof.EnumMake
import PyProof.TupleIter
import PyProof.ZipIter
import PyProof.Rows.ZipGen
import PyProof.SliceSyntax
import PyProof.Rows.TupMore
import PySem.Challenge.RW_boxproof_k41_sides
set_option Elab.async false
set_option linter.all false
set_option maxRecDepth 100000
namespace L2
open PySem PySem.Spec PyProof.Rows
abbrev Key := Sum Int Str
def keyIs : Key → Value → Bool
  | .inl k, v => Value.isInt k v
  | .inr x, v => Value.isStrOf x v
def keyH (w : World) : Key → Int
  | .inl k => hashInt k
  | .inr x => hashStr w x
theorem keyIs_shape : ∀ {k : Key} {v : Value}, keyIs k v = true → (∃ i t, k = Sum.inl i ∧ v = Value.int i t) ∨ (∃ x t, k = Sum.inr x ∧ v = Value.str x t)
  | .inl i, v, h => by
    obtain ⟨t, e⟩ := Value.isInt_shape (k := i) (v := v) h
    exact .inl ⟨i, t, rfl, e⟩
  | .inr x, v, h => by
    obtain ⟨t, e⟩ := Value.isStrOf_shape (x := x) (v := v) h
    exact .inr ⟨x, t, rfl, e⟩
theorem key_ll (a b : Int) : decide ((Sum.inl a : Key) = Sum.inl b) = (a == b) := by
  by_cases e : a = b
  · subst e; simp
  · have h : ¬ (Sum.inl a : Key) = Sum.inl b := fun q => e (Sum.inl.inj q)
    rw [decide_eq_false h]
    exact (beq_eq_false_iff_ne.mpr e).symm
theorem key_rr (a b : Str) : decide ((Sum.inr a : Key) = Sum.inr b) = decide (a = b) := by
  by_cases e : a = b
  · subst e; simp
  · have h : ¬ (Sum.inr a : Key) = Sum.inr b := fun q => e (Sum.inr.inj q)
    rw [decide_eq_false h, decide_eq_false e]
theorem key_lr (a : Int) (b : Str) : decide ((Sum.inl a : Key) = Sum.inr b) = false := decide_eq_false (fun q => nomatch q)
theorem key_rl (a : Str) (b : Int) : decide ((Sum.inr a : Key) = Sum.inl b) = false := decide_eq_false (fun q => nomatch q)
def mixKind (prog : Program) (w : World) : PySem.KeyKind prog w Key where
  is := keyIs
  hash := keyH w
  inj := fun v a b ha hb => by
    rcases keyIs_shape ha with ⟨i, t, rfl, rfl⟩ | ⟨x, t, rfl, rfl⟩
    · rcases keyIs_shape hb with ⟨j, u, rfl, e⟩ | ⟨y, u, rfl, e⟩
      · injection e with e1 _; rw [e1]
      · exact nomatch e
    · rcases keyIs_shape hb with ⟨j, u, rfl, e⟩ | ⟨y, u, rfl, e⟩
      · exact nomatch e
      · injection e with e1 _; rw [e1]
  byValue := fun k v h => by
    rcases keyIs_shape h with ⟨i, t, rfl, rfl⟩ | ⟨x, t, rfl, rfl⟩ <;> rfl
  pyHash := fun hv h => by
    rcases keyIs_shape hv with ⟨i, t, rfl, rfl⟩ | ⟨x, t, rfl, rfl⟩
    · exact wpAny_pyHash_int h
    · exact wpAny_pyHash_str h
  eqBool := fun hu hv h => by
    rcases keyIs_shape hu with ⟨i, t, rfl, rfl⟩ | ⟨x, t, rfl, rfl⟩
    · rcases keyIs_shape hv with ⟨j, u, rfl, rfl⟩ | ⟨y, u, rfl, rfl⟩
      · rw [key_ll] at h; exact wpAny_eqBool_int h
      · rw [key_lr] at h; exact SeqAt.EqAt.int_str i t y u _ _ _ _ h
    · rcases keyIs_shape hv with ⟨j, u, rfl, rfl⟩ | ⟨y, u, rfl, rfl⟩
      · rw [key_rl] at h; exact SeqAt.EqAt.str_int x t j u _ _ _ _ h
      · rw [key_rr] at h; exact wpAny_eqBool_str h
  «strs» := fun k x t v h => by
    rcases keyIs_shape h with ⟨i, u, rfl, e⟩ | ⟨y, u, rfl, e⟩
    · exact nomatch e
    · injection e with e1 _
      subst e1
      cases v <;> rfl
end L2
namespace L2
open PySem PySem.Spec PyProof.Rows
inductive V where
  | non | bl (b : Bool) | int (i : Int) | str (x : Str) | byt (b : Array UInt8) | flt (b : UInt64) | ref (a : Addr) | ty (n : String)
  deriving DecidableEq
def RelV : V → Value → Prop
  | .non, u => u = Value.none
  | .bl b, u => u = Value.bool b
  | .int i, u => ∃ t, u = Value.int i t
  | .str x, u => ∃ t, u = Value.str x t
  | .byt b, u => ∃ t, u = Value.bytes b t
  | .flt b, u => ∃ t, u = Value.float b t
  | .ref a, u => u = Value.ref a
  | .ty n, u => u = Value.type n
abbrev Vals : List V → List Value → Prop := Paired RelV
theorem Vals.length {xs : List V} {us : List Value} (r : Vals xs us) : xs.length = us.length := Paired.length r
theorem Vals.get : ∀ {xs : List V} {us : List Value} {i : Nat} {x : V}, Vals xs us → xs[i]? = some x → ∃ u, us[i]? = some u ∧ RelV x u
  | _, _, _, _, .nil, e => by simp at e
  | _, _, 0, _, .cons r _, e => by simp at e; subst e; exact ⟨_, rfl, r⟩
  | _, _, i + 1, x, .cons _ t, e => by
    obtain ⟨u, h1, h2⟩ := Vals.get (i := i) (x := x) t (by simpa using e)
    exact ⟨u, by simpa using h1, h2⟩
theorem Vals.set {x : V} {u : Value} (r : RelV x u) : ∀ {xs : List V} {us : List Value} (i : Nat), Vals xs us → Vals (xs.set i x) (us.set i u)
  | _, _, _, .nil => .nil
  | _, _, 0, .cons _ t => .cons r t
  | _, _, i + 1, .cons q t => .cons q (Vals.set r i t)
theorem Vals.append : ∀ {xs ys : List V} {us ws : List Value}, Vals xs us → Vals ys ws → Vals (xs ++ ys) (us ++ ws)
  | _, _, _, _, .nil, s => s
  | _, _, _, _, .cons r t, s => .cons r (Vals.append t s)
theorem Vals.take : ∀ {xs : List V} {us : List Value} (n : Nat), Vals xs us → Vals (xs.take n) (us.take n)
  | _, _, 0, _ => .nil
  | _, _, _ + 1, .nil => .nil
  | _, _, n + 1, .cons r t => .cons r (Vals.take n t)
theorem Vals.drop : ∀ {xs : List V} {us : List Value} (n : Nat), Vals xs us → Vals (xs.drop n) (us.drop n)
  | _, _, 0, r => r
  | _, _, _ + 1, .nil => .nil
  | _, _, n + 1, .cons _ t => Vals.drop n t
def RelO : Option V → Option Value → Prop
  | some v, some u => RelV v u
  | none, none => True
  | _, _ => False
def KV {κ : Type} : List (κ × V) → List (κ × Value) → Prop := Paired fun (p : κ × V) (q : κ × Value) => p.1 = q.1 ∧ RelV p.2 q.2
def kV : Key → V
  | .inl i => .int i
  | .inr x => .str x
inductive HO where
  | lst (xs : List V)
  | tup (xs : List V)
  | dK (kvs : List (Key × V)) | dT (kvs : List (List Key × V))
  | set (S : Int → Bool) (n : Nat)
  | ins (C dx : Addr) (fs : List (Str × V))
  | own (x : Addr)
  | xd (fs : List (Str × V))
  | met (f x : Addr)
  | rng (lo hi : Int)
  | frz (o : Obj) (u : HO)
  | tbl (ps : Array Value)
  | ext (φ : Heap → Prop)
abbrev Hp := Addr → Option HO
def upd (H : Hp) (a : Addr) (o : HO) : Hp := fun b => if b = a then some o else H b
theorem upd_same {H : Hp} {a : Addr} {o : HO} : upd H a o a = some o := by unfold upd; rw [if_pos rfl]
theorem upd_ne {H : Hp} {a b : Addr} {o : HO} (h : b ≠ a) : upd H a o b = H b := by unfold upd; rw [if_neg h]
theorem ne_of_none {H : Hp} {a b : Addr} {o : HO} (h : H a = some o) (h' : H b = none) : a ≠ b := by
  intro e; subst e; rw [h] at h'; cases h'
section
variable (P : Program) (w : World)
def ObjOk (H : Hp) (h : Heap) (a : Addr) : HO → Prop
  | .lst xs => xs.length ≤ sizeLine ∧ ∃ (its : List Value) (n : Nat), Vals xs its ∧ h.get? a = some { cls := .type "list", data := .seq its.toArray n }
  | .tup xs => xs.length ≤ sizeLine ∧ ∃ its : List Value, Vals xs its ∧ IsTup h a its.toArray
  | .dK kvs => kvs.length ≤ sizeLine ∧ (a == sysModules) = false ∧ ∃ vs, KV kvs vs ∧ h.DictOf (mixKind P w) a vs
  | .dT kvs => kvs.length ≤ sizeLine ∧ (a == sysModules) = false ∧ ∃ xs : List (List Key × Addr × Value),
      Paired (fun (p : List Key × V) (q : List Key × Addr × Value) => p.1 = q.1 ∧ H q.2.1 = some (.tup (p.1.map kV)) ∧ RelV p.2 q.2.2) kvs xs ∧
      ∃ o es ep, h.get? a = some o ∧ o.ExactDict ∧ o.data = .dict es ep ∧ es.toList = xs.map (entryOfKey (tupleKind (mixKind P w))) ∧ (xs.map (·.1)).Nodup
  | .set S n => h.SetOf (intKind P w) a S n
  | .ins C dx fs => H dx = some (.own a) ∧ fs.length ≤ 1000 ∧ dx ≠ a ∧ h.get? a = some (PySem.W.instObj C dx) ∧
      ∃ mA, h.Ns1 dx mA ∧ (∀ f, RelO (fs.lookup f) (mA f)) ∧ PySem.Within mA (fs.map (·.1))
  | .own _ => ∃ o, h.get? a = some o
  | .xd fs => ∃ mA, h.Ns1 a mA ∧ ∀ f, RelO (fs.lookup f) (mA f)
  | .rng lo hi => ∃ t u v, h.get? a = some { cls := .type "range", data := .fields #[.int lo t, .int hi u, .int 1 v] }
  | .frz o u => h.get? a = some o ∧ ObjOk H h a u
  | .tbl ps => h.get? a = some { cls := .none, data := .fields ps }
  | .met f x => h.get? a = some (PySem.W.methodObj (.ref f) (.ref x))
  | .ext φ => φ h ∧ (∃ o, h.get? a = some o) ∧ ∀ h1 h2 : Heap, φ h1 → (∀ o, h1.get? a = some o → h2.get? a = some o) → φ h2
def HOk (H : Hp) (h : Heap) : Prop := ∀ a o, H a = some o → ObjOk P w H h a o
end
section
variable {P : Program} {w : World} {H H' : Hp} {h h' : Heap} {a : Addr} {o : HO}
theorem ObjOk.lt (x : ObjOk P w H h a o) : a < h.objs.size := by
  cases o with
  | lst xs => obtain ⟨_, _, _, _, e⟩ := x; exact Heap.lt_size e
  | tup xs => obtain ⟨_, _, _, p⟩ := x; exact p.lt
  | dK kvs => obtain ⟨_, _, _, _, o, _, _, e, _⟩ := x; exact Heap.lt_size e
  | dT kvs => obtain ⟨_, _, _, _, o, _, _, e, _⟩ := x; exact Heap.lt_size e
  | set S n => obtain ⟨o, _, _, _, e, _⟩ := x; exact Heap.lt_size e
  | ins C dx fs => obtain ⟨_, _, _, e, _⟩ := x; exact Heap.lt_size e
  | own y => obtain ⟨_, e⟩ := x; exact Heap.lt_size e
  | xd fs => obtain ⟨_, ⟨_, _, _, e, _⟩, _⟩ := x; exact Heap.lt_size e
  | rng lo hi => obtain ⟨_, _, _, e⟩ := x; exact Heap.lt_size e
  | frz ob u => obtain ⟨e, _⟩ := x; exact Heap.lt_size e
  | tbl ps => exact Heap.lt_size (show h.get? a = some _ from x)
  | met f y => exact Heap.lt_size (show h.get? a = some _ from x)
  | ext φ => obtain ⟨_, ⟨_, e⟩, _⟩ := x; exact Heap.lt_size e
theorem Paired.mapP {α β : Type} {F G : α → β → Prop} : ∀ {l₁ : List α} {l₂ : List β}, Paired F l₁ l₂ → (∀ a b, F a b → G a b) → Paired G l₁ l₂
  | _, _, .nil, _ => .nil
  | _, _, .cons r t, f => .cons (f _ _ r) (Paired.mapP t f)
theorem ObjOk.stay (x : ObjOk P w H h a o) (k : ∀ b u, (b = a ∨ H b = some (.own a)) → h.get? b = some u → h'.get? b = some u)
    (ho : ∀ b, H b = some (.own a) → H' b = some (.own a)) (ht : ∀ b xs, H b = some (.tup xs) → H' b = some (.tup xs)) : ObjOk P w H' h' a o := by
  induction o with
  | lst xs => obtain ⟨z, its, n, r, e⟩ := x; exact ⟨z, its, n, r, k _ _ (.inl rfl) e⟩
  | tup xs => obtain ⟨z, its, r, ob, e, c⟩ := x; exact ⟨z, its, r, ob, k _ _ (.inl rfl) e, c⟩
  | dK kvs => obtain ⟨z, y, vs, r, ob, es, ep, e, c⟩ := x; exact ⟨z, y, vs, r, ob, es, ep, k _ _ (.inl rfl) e, c⟩
  | dT kvs =>
    obtain ⟨z, y, xs, r, ob, es, ep, e, c⟩ := x
    exact ⟨z, y, xs, Paired.mapP r fun p q z => ⟨z.1, ht _ _ z.2.1, z.2.2⟩, ob, es, ep, k _ _ (.inl rfl) e, c⟩
  | set S n => obtain ⟨ob, es, ep, t, e, c⟩ := x; exact ⟨ob, es, ep, t, k _ _ (.inl rfl) e, c⟩
  | ins C dx fs =>
    obtain ⟨d, z, ne, e, mA, ⟨od, es, ep, e2, c⟩, r⟩ := x
    exact ⟨ho _ d, z, ne, k _ _ (.inl rfl) e, mA, ⟨od, es, ep, k _ _ (.inr d) e2, c⟩, r⟩
  | own y => obtain ⟨ob, e⟩ := x; exact ⟨ob, k _ _ (.inl rfl) e⟩
  | xd fs => obtain ⟨mA, ⟨od, es, ep, e, c⟩, r⟩ := x; exact ⟨mA, ⟨od, es, ep, k _ _ (.inl rfl) e, c⟩, r⟩
  | rng lo hi => obtain ⟨t, u, v, e⟩ := x; exact ⟨t, u, v, k _ _ (.inl rfl) e⟩
  | frz ob u ih => obtain ⟨e, q⟩ := x; exact ⟨k _ _ (.inl rfl) e, ih q⟩
  | tbl ps =>
    have e : h.get? a = some { cls := .none, data := .fields ps } := x
    show h'.get? a = some { cls := .none, data := .fields ps }
    exact k a _ (.inl rfl) e
  | met f y =>
    have e : h.get? a = some (PySem.W.methodObj (.ref f) (.ref y)) := x
    show h'.get? a = some (PySem.W.methodObj (.ref f) (.ref y))
    exact k a _ (.inl rfl) e
  | ext φ => obtain ⟨p, ⟨o, e⟩, st⟩ := x; exact ⟨st _ _ p fun o q => k _ _ (.inl rfl) q, ⟨o, k _ _ (.inl rfl) e⟩, st⟩
theorem HOk.lt (x : HOk P w H h) (e : H a = some o) : a < h.objs.size := (x a o e).lt
theorem HOk.fresh (x : HOk P w H h) (e : h.objs.size ≤ a) : H a = none := by
  cases q : H a with
  | none => rfl
  | some u => exact absurd (Nat.lt_of_lt_of_le (x.lt q) e) (Nat.lt_irrefl _)
theorem HOk.kept (x : HOk P w H h) (k : ∀ b u, h.get? b = some u → h'.get? b = some u) : HOk P w H h' := fun a o e =>
  (x a o e).stay (fun b u _ q => k b u q) (fun _ q => q) fun _ _ q => q
theorem HOk.laid (x : HOk P w H h) (k : ∀ b u, h.get? b = some u → h'.get? b = some u) (hp : h.objs.size ≤ a) (new : ObjOk P w (upd H a o) h' a o) : HOk P w (upd H a o) h' := fun b u e => by
  have hn := x.fresh hp
  by_cases hb : b = a
  · subst hb; rw [upd_same] at e; cases e; exact new
  · rw [upd_ne hb] at e
    exact (x b u e).stay (fun c v _ q => k c v q) (fun c q => by rw [upd_ne (ne_of_none q hn)]; exact q) fun c xs q => by rw [upd_ne (ne_of_none q hn)]; exact q
end
def Rd (H : Hp) (a : Addr) (u : HO) : Prop := H a = some u ∨ ∃ o, H a = some (.frz o u)
theorem Rd.of {H : Hp} {a : Addr} {u : HO} (h : H a = some u) : Rd H a u := .inl h
theorem Rd.ok {P : Program} {w : World} {H : Hp} {h : Heap} {a : Addr} {u : HO} (r : Rd H a u) (x : HOk P w H h) : ObjOk P w H h a u := by
  rcases r with r | ⟨o, r⟩
  · exact x a u r
  · obtain ⟨_, q⟩ := x a _ r
    exact q
def Mut : Option HO → Prop
  | some (.lst _) => True
  | some (.dK _) => True
  | some (.dT _) => True
  | some (.set _ _) => True
  | some (.ins _ _ _) => True
  | some (.ext _) => True
  | _ => False
section
variable {P : Program} {w : World} {H : Hp} {h h' : Heap} {x e : Addr} {o' : HO}
theorem HOk.write (ok : HOk P w H h) (mu : Mut (H x)) (he : e = x ∨ H e = some (.own x)) (k : ∀ b u, b ≠ e → h.get? b = some u → h'.get? b = some u) (heo : ∃ u, h'.get? e = some u)
    (new : ObjOk P w (upd H x o') h' x o') : HOk P w (upd H x o') h' := fun b u q => by
  have nown : ∀ c y, H c = some (.own y) → c ≠ x := fun c y r z => by subst z; rw [r] at mu; exact mu
  have ntup : ∀ c xs, H c = some (.tup xs) → c ≠ x := fun c xs r z => by subst z; rw [r] at mu; exact mu
  by_cases hb : b = x
  · subst hb; rw [upd_same] at q; cases q; exact new
  · rw [upd_ne hb] at q
    by_cases hbe : b = e
    · have q' : H b = some (.own x) := by
        rcases he with z | z
        · exact absurd (hbe.trans z) hb
        · rw [hbe]; exact z
      rw [q] at q'; cases q'
      obtain ⟨v, hv⟩ := heo
      exact ⟨v, by rw [hbe]; exact hv⟩
    · refine (ok b u q).stay (fun c v hc r => k c v ?_ r) (fun c r => by rw [upd_ne (nown c b r)]; exact r) fun c xs r => by rw [upd_ne (ntup c xs r)]; exact r
      rcases hc with rfl | hc
      · exact hbe
      · rintro rfl
        rcases he with z | z
        · exact nown c b hc z
        · rw [hc] at z; cases z; exact hb rfl
end
structure Un (fs ex : List Addr) (H H' : Hp) (h h' : Heap) : Prop where
  keep : ∀ b o, h.get? b = some o → H b = none → b ∉ fs → b ∉ ex → h'.get? b = some o
  slot : ∀ b o, h.get? b = some o → H b = none → b ∈ fs → b ∉ ex → ∃ sl, h'.get? b = some { o with slots := sl }
  free : ∀ b o, h.get? b = some o → H b = none → b ∉ ex → H' b = none
  there : ∀ b o, h.get? b = some o → b ∉ ex → ∃ o', h'.get? b = some o'
  tups : ∀ b xs, H b = some (.tup xs) → H' b = some (.tup xs)
  frzs : ∀ b o u, H b = some (.frz o u) → H' b = some (.frz o u)
  tbls : ∀ b ps, H b = some (.tbl ps) → ∃ more, H' b = some (.tbl (ps ++ more))
section
variable {fs fs' ex ex' : List Addr} {H H1 H2 : Hp} {h h1 h2 h' : Heap} {a x e : Addr} {o : HO}
theorem Un.any (u : Un fs ex H H1 h h1) {b : Addr} {ob : Obj} (q : h.get? b = some ob) (n : H b = none) (hx : b ∉ ex) : ∃ sl, h1.get? b = some { ob with slots := sl } := by
  by_cases hb : b ∈ fs
  · exact u.slot b ob q n hb hx
  · exact ⟨ob.slots, u.keep b ob q n hb hx⟩
theorem Un.trans (a : Un fs ex H H1 h h1) (b : Un fs ex H1 H2 h1 h2) : Un fs ex H H2 h h2 where
  keep := fun c ob q n hc hx => b.keep c ob (a.keep c ob q n hc hx) (a.free c ob q n hx) hc hx
  slot := fun c ob q n hc hx => by
    obtain ⟨sl, e1⟩ := a.slot c ob q n hc hx
    obtain ⟨sl', e2⟩ := b.slot c _ e1 (a.free c ob q n hx) hc hx
    exact ⟨sl', e2⟩
  free := fun c ob q n hx => by
    obtain ⟨o', e1⟩ := a.there c ob q hx
    exact b.free c o' e1 (a.free c ob q n hx) hx
  there := fun c ob q hx => by
    obtain ⟨o', e1⟩ := a.there c ob q hx
    exact b.there c o' e1 hx
  tups := fun c xs q => b.tups c xs (a.tups c xs q)
  frzs := fun c ob xs q => b.frzs c ob xs (a.frzs c ob xs q)
  tbls := fun c ps q => by
    obtain ⟨m1, e1⟩ := a.tbls c ps q
    obtain ⟨m2, e2⟩ := b.tbls c _ e1
    exact ⟨m1 ++ m2, by rw [e2, Array.append_assoc]⟩
theorem Un.kept (k : ∀ b u, h.get? b = some u → h'.get? b = some u) : Un fs ex H H h h' :=
  ⟨fun b ob q _ _ _ => k b ob q, fun b ob q _ _ _ => ⟨ob.slots, k b ob q⟩, fun _ _ _ n _ => n, fun b ob q _ => ⟨ob, k b ob q⟩, fun _ _ q => q, fun _ _ _ q => q, fun _ ps q => ⟨#[], by rw [q]; simp⟩⟩
theorem Un.refl : Un fs ex H H h h := Un.kept fun _ _ q => q
theorem Un.laid (k : ∀ b u, h.get? b = some u → h'.get? b = some u) (hp : h.objs.size ≤ a) (hn : H a = none) : Un fs ex H (upd H a o) h h' where
  keep := fun b u q _ _ _ => k b u q
  slot := fun b u q _ _ _ => ⟨u.slots, k b u q⟩
  free := fun b u q n _ => by rw [upd_ne (Nat.ne_of_lt (Nat.lt_of_lt_of_le (Heap.lt_size q) hp))]; exact n
  there := fun b u q _ => ⟨u, k b u q⟩
  tups := fun b xs q => by rw [upd_ne (ne_of_none q hn)]; exact q
  frzs := fun b u xs q => by rw [upd_ne (ne_of_none q hn)]; exact q
  tbls := fun b ps q => ⟨#[], by rw [upd_ne (ne_of_none q hn), q]; simp⟩
theorem Un.write (mu : Mut (H x)) (he : e = x ∨ H e = some (.own x)) (k : ∀ b u, b ≠ e → h.get? b = some u → h'.get? b = some u) (heo : ∃ u, h'.get? e = some u) : Un fs ex H (upd H x o) h h' := by
  have hx : ∀ b, H b = none → b ≠ x := fun b n z => by subst z; rw [n] at mu; exact mu
  have hb : ∀ b, H b = none → b ≠ e := fun b n z => by
    subst z
    rcases he with r | r
    · exact hx b n r
    · rw [n] at r; cases r
  have hm : ∀ b u, H b = some u → ¬ Mut (some u) → b ≠ x := fun b u q nm z => by subst z; rw [q] at mu; exact nm mu
  refine ⟨fun b u q n _ _ => k b u (hb b n) q, fun b u q n _ _ => ⟨u.slots, k b u (hb b n) q⟩, fun b u q n _ => by rw [upd_ne (hx b n)]; exact n, fun b u q _ => ?_,
    fun b xs q => by rw [upd_ne (hm b _ q fun z => z)]; exact q, fun b u xs q => by rw [upd_ne (hm b _ q fun z => z)]; exact q, fun b ps q => ⟨#[], by rw [upd_ne (hm b _ q fun z => z), q]; simp⟩⟩
  by_cases hbe : b = e
  · subst hbe; exact heo
  · exact ⟨u, k b u hbe q⟩
theorem Un.mono (u : Un fs ex H H1 h h1) (hs : ∀ b ∈ fs, b ∈ fs') (hx : ∀ b ∈ ex, b ∈ ex') : Un fs' ex' H H1 h h1 :=
  ⟨fun b ob q n hb he => u.keep b ob q n (fun z => hb (hs b z)) fun z => he (hx b z), fun _ _ q n _ he => u.any q n fun z => he (hx _ z), fun b ob q n he => u.free b ob q n fun z => he (hx b z), fun b ob q he => u.there b ob q fun z => he (hx b z), u.tups, u.frzs, u.tbls⟩
end
def trk (h : Heap) (H : Hp) : List Addr := (List.range h.objs.size).filter fun a => (H a).isSome
def hidT (h : Heap) (H : Hp) : Heap := PySem.W.hideAll h (trk h H)
theorem hidT_size (h : Heap) (H : Hp) : (hidT h H).objs.size = h.objs.size := PySem.W.hideAll_size _ _
theorem hidT_get {h : Heap} {H : Hp} {b : Addr} {o : Obj} (e : h.get? b = some o) (n : H b = none) : (hidT h H).get? b = some o :=
  PySem.W.hideAll_get _ e fun hm => by
    have q : (H b).isSome = true := (List.mem_filter.mp hm).2
    rw [n] at q; simp at q
theorem of_hidT {h : Heap} {H : Hp} {b : Addr} {o : Obj} (e : (hidT h H).get? b = some o) : h.get? b = some o ∧ H b = none := by
  have e' : h.get? b = some o := PySem.W.of_hideAll (trk h H) e
  refine ⟨e', ?_⟩
  cases q : H b with
  | none => rfl
  | some x =>
    have hm : b ∈ trk h H := List.mem_filter.mpr ⟨List.mem_range.mpr (Heap.lt_size e'), by simp [q]⟩
    have z : (hidT h H).get? b = none := PySem.W.hideAll_none (trk h H) hm
    rw [z] at e; cases e
def allNews (g h : Heap) (L : Addr) : List (Addr × Obj) := (List.range h.objs.size).filterMap fun a => if a = L ∨ (g.get? a).isSome = true then none else (h.get? a).map fun o => (a, o)
def rest (g h : Heap) (L d : Addr) : List (Addr × Obj) := (allNews g h L).filter fun p => decide (p.1 ≠ d)
end L2
namespace L2
open PySem PySem.Spec PyProof.Rows
structure Mod (K : PySem.W.Frag) (mg : Str → Option Value) (base : Heap) : Prop where
  kin : K.In base
  glob : base.Ns mainGlobals mg
  blt : ∃ mb, base.Ns builtinsNs mb ∧ ∀ x : Str, x ≠ "__name__" → mb x = bootBuiltins x
  nolimit : base.NoLimit
structure Cx where
  prog : Program
  w : World
  K : PySem.W.Frag
  mg : Str → Option Value
  base : Heap
  A : Around
  N : List Str
  s₀ : Shared
  H₀ : Hp
  env : Env
  outer : List Env
  stack : List Env
  ex : List Addr
  fn : Str → Bool
  calm : Bool
  pn : List (Addr × Obj)
  xe : Value → Shared → Prop
def frs (l : List Env) : List Addr := l.filterMap (·.frame)
abbrev Cx.fs (X : Cx) : List Addr := frs X.outer
def Vis (sc : Scope) (x : Str) : Prop := sc.names.lookup x = some .local ∨ sc.names.lookup x = some .cell ∨ sc.names.lookup x = some .free
def Loc (sc : Scope) (x : Str) : Prop := sc.names.lookup x = some .local ∨ sc.names.lookup x = some .cell
def Look (env : Env) (h : Heap) (m : Str → Option Value) (x : Str) (u : Value) : Prop :=
  (env.kindOf x = some .local ∧ m x = some u) ∨ ((env.kindOf x = some .cell ∨ env.kindOf x = some .free) ∧ ∃ c, env.cells.lookup x = some c ∧ h.IsCell c (some u))
structure Cx.Ok (X : Cx) : Prop where
  mod : Mod X.K X.mg X.base
  kind : X.env.scope.kind = .function
  glob : X.env.globals = mainGlobals
  blt : X.env.builtins = builtinsNs
  above : X.s₀.heap.objs.size ≤ X.env.locals
  inj : ∀ x y c, X.env.cells.lookup x = some c → X.env.cells.lookup y = some c → x = y
  has : ∀ x, (X.env.kindOf x = some .cell ∨ X.env.kindOf x = some .free) → ∃ c, X.env.cells.lookup x = some c
  cab : ∀ x c, X.fn x = true → X.env.cells.lookup x = some c → X.s₀.heap.objs.size ≤ c
  hd : X.calm = true → X.A.handled = none
  frames : X.A.frames = some X.stack
  stk : X.stack = X.outer ∨ (X.stack = X.env :: X.outer ∧ X.env.frame = some X.env.locals)
  exf : ∀ b ∈ X.ex, b ≠ X.env.locals ∧ ∀ x c, X.env.cells.lookup x = some c → c ≠ b
  bs : ∀ b o, X.base.get? b = some o → X.s₀.heap.get? b = some o ∧ X.H₀ b = none
  bsz : X.base.objs.size ≤ X.s₀.heap.objs.size
  noex : ∀ b o, X.base.get? b = some o → b ∉ X.ex
  exfs : ∀ b ∈ X.ex, b ∉ X.fs
  funs : X.s₀.heap.FunFrames X.base X.outer
  frf : ∀ b ∈ X.fs, X.H₀ b = none
structure Inv (X : Cx) (pins : List (Addr × Obj)) (σ : List (Option V)) (H : Hp) (s : Shared) : Prop where
  ok : X.Ok
  os : s.os = X.s₀.os
  bare : AllBare s.gens
  base : Un X.fs X.ex X.H₀ H X.s₀.heap s.heap
  loc : ∃ m, s.heap.Ns X.env.locals m ∧ ∀ (i : Nat) (x : Str) (v : V), X.N[i]? = some x → σ[i]? = some (some v) → Vis X.env.scope x → ∃ u, RelV v u ∧ Look X.env s.heap m x u
  cell : ∀ x c, X.env.cells.lookup x = some c → ∃ v, s.heap.IsCell c v
  free : H X.env.locals = none
  freeC : ∀ x c, X.env.cells.lookup x = some c → H c = none
  pin : ∀ p ∈ X.pn ++ pins, s.heap.get? p.1 = some p.2 ∧ H p.1 = none ∧ p.1 ≠ X.env.locals ∧ p.1 ∉ X.fs ∧ ∀ v, p.2.data ≠ .cell v
  hok : HOk X.prog X.w H s.heap
  len : σ.length = X.N.length
section
variable {X : Cx} {pins : List (Addr × Obj)} {σ : List (Option V)} {H H' : Hp} {s : Shared} {h' : Heap}
theorem Cx.Ok.nofr (ok : X.Ok) {b : Addr} {o : Obj} (e : X.base.get? b = some o) : b ∉ X.fs := fun hb => by
  have := (ok.funs.mem hb).1
  rw [e] at this; cases this
theorem Inv.bs (I : Inv X pins σ H s) : ∀ b o, X.base.get? b = some o → s.heap.get? b = some o ∧ H b = none := fun b o e =>
  ⟨I.base.keep b o (I.ok.bs b o e).1 (I.ok.bs b o e).2 (I.ok.nofr e) (I.ok.noex b o e), I.base.free b o (I.ok.bs b o e).1 (I.ok.bs b o e).2 (I.ok.noex b o e)⟩
theorem Inv.bk (I : Inv X pins σ H s) : ∀ b o, X.base.get? b = some o → s.heap.get? b = some o := fun b o e => (I.bs b o e).1
theorem Inv.mod (I : Inv X pins σ H s) : Mod X.K X.mg X.base := I.ok.mod
theorem Inv.kIn (I : Inv X pins σ H s) : X.K.In s.heap := I.ok.mod.kin.keeps I.bk
theorem Inv.nolimit (I : Inv X pins σ H s) : s.heap.NoLimit := I.ok.mod.nolimit.keeps I.bk
theorem Inv.fr (I : Inv X pins σ H s) : ∃ m, Fr X.base X.env.locals s.heap m :=
  let ⟨m, hn, _⟩ := I.loc
  ⟨m, hn, I.bk, Nat.le_trans I.ok.bsz I.ok.above⟩
theorem Inv.lt (I : Inv X pins σ H s) : X.env.locals < s.heap.objs.size := let ⟨_, hn, _⟩ := I.loc; hn.lt
theorem Inv.sz (I : Inv X pins σ H s) : X.s₀.heap.objs.size ≤ s.heap.objs.size := Nat.le_trans I.ok.above (Nat.le_of_lt I.lt)
theorem Inv.nofs (I : Inv X pins σ H s) {a : Addr} (h : s.heap.objs.size ≤ a) : a ∉ X.fs := fun hb => by
  obtain ⟨_, o, ho, _⟩ := I.ok.funs.mem hb
  exact absurd (Nat.lt_of_lt_of_le (Heap.lt_size ho) (Nat.le_trans I.sz h)) (Nat.lt_irrefl _)
theorem Inv.cne (I : Inv X pins σ H s) : ∀ x c, X.env.cells.lookup x = some c → c ≠ X.env.locals := fun x c e z => by
  obtain ⟨v, o, ho, hd⟩ := I.cell x c e
  obtain ⟨m, ⟨o', es, ep, ho', hd', _⟩, _⟩ := I.loc
  rw [z, ho'] at ho; cases ho; rw [hd'] at hd; cases hd
theorem Inv.funs (I : Inv X pins σ H s) : s.heap.FunFrames X.base X.outer := by
  have all : ∀ (l : List Env), (∀ b ∈ frs l, b ∈ X.fs) → X.s₀.heap.FunFrames X.base l → s.heap.FunFrames X.base l := by
    intro l
    induction l with
    | nil => intro _ _; trivial
    | cons env r ih =>
      intro hs hl
      obtain ⟨hk, ⟨L, o, hf, hn, ho, hd⟩, hr⟩ := hl
      have hL : L ∈ X.fs := hs L (by unfold frs; rw [List.filterMap_cons, hf]; exact List.mem_cons_self)
      obtain ⟨sl, e⟩ := I.base.slot L o ho (I.ok.frf L hL) hL fun z => I.ok.exfs L z hL
      exact ⟨hk, ⟨L, _, hf, hn, e, hd⟩, ih (fun b hb => hs b (by unfold frs; rw [List.filterMap_cons, hf]; exact List.mem_cons_of_mem _ hb)) hr⟩
  exact all X.outer (fun _ hb => hb) I.ok.funs
theorem Inv.stack (I : Inv X pins σ H s) : s.heap.FunFrames X.base X.stack := by
  rcases I.ok.stk with e | ⟨e, hf⟩
  · rw [e]; exact I.funs
  · rw [e]
    obtain ⟨m, hn, _⟩ := I.loc
    refine .cons (by rw [I.ok.kind]; decide) hf hn ?_ I.funs
    exact Heap.get?_none_of_le (Nat.le_trans I.ok.bsz I.ok.above)
theorem Inv.stkSub (I : Inv X pins σ H s) : ∀ b ∈ frs X.stack, b ∈ X.env.locals :: X.fs := fun b hb => by
  rcases I.ok.stk with e | ⟨e, hf⟩
  · rw [e] at hb; exact List.mem_cons_of_mem _ hb
  · rw [e] at hb
    unfold frs at hb
    rw [List.filterMap_cons, hf] at hb
    exact hb
theorem Inv.stkFree (I : Inv X pins σ H s) : ∀ b ∈ frs X.stack, H b = none := fun b hb => by
  rcases List.mem_cons.mp (I.stkSub b hb) with e | hb
  · rw [e]; exact I.free
  · obtain ⟨_, o, ho, _⟩ := I.ok.funs.mem hb
    exact I.base.free b o ho (I.ok.frf b hb) fun z => I.ok.exfs b z hb
theorem Inv.step {g' : Array GenState} {t' : Nat} {d' : Drawn} {ch : List Addr} (I : Inv X pins σ H s)
    (hch : ∀ b ∈ ch, (b ∈ X.ex ∨ X.s₀.heap.objs.size ≤ b) ∧ b ≠ X.env.locals ∧ (∀ x c, X.env.cells.lookup x = some c → c ≠ b) ∧ ∀ p ∈ X.pn ++ pins, p.1 ≠ b)
    (keep : ∀ b o, b ≠ X.env.locals → b ∉ X.fs → b ∉ ch → s.heap.get? b = some o → H b = none → h'.get? b = some o)
    (slot : ∀ b o, b ≠ X.env.locals → b ∈ X.fs → b ∉ ch → s.heap.get? b = some o → H b = none → ∃ sl, h'.get? b = some { o with slots := sl }) (free : ∀ b o, b ∉ ch → s.heap.get? b = some o → H b = none → H' b = none)
    (there : ∀ b o, b ∉ ch → s.heap.get? b = some o → ∃ o', h'.get? b = some o')
    (tups : ∀ b xs, H b = some (.tup xs) → H' b = some (.tup xs)) (frzs : ∀ b o u, H b = some (.frz o u) → H' b = some (.frz o u)) (tbls : ∀ b ps, H b = some (.tbl ps) → ∃ more, H' b = some (.tbl (ps ++ more)))
    (ns : ∀ m, s.heap.Ns X.env.locals m → h'.Ns X.env.locals m) (hok : HOk X.prog X.w H' h') (hg : AllBare g') :
    Inv X pins σ H' { s with heap := h', gens := g', drawn := d', toks := t' } := by
  have neL : ∀ b o, X.s₀.heap.get? b = some o → b ≠ X.env.locals := fun b o e => Nat.ne_of_lt (Nat.lt_of_lt_of_le (Heap.lt_size e) I.ok.above)
  have neC : ∀ b o, X.s₀.heap.get? b = some o → b ∉ X.ex → b ∉ ch := fun b o e hx hb => by
    rcases (hch b hb).1 with z | z
    · exact hx z
    · exact absurd (Nat.lt_of_lt_of_le (Heap.lt_size e) z) (Nat.lt_irrefl _)
  have cellK : ∀ x c, X.env.cells.lookup x = some c → ∀ v, s.heap.IsCell c v → h'.IsCell c v := fun x c e v ⟨o, ho, hd⟩ => by
    have nch : c ∉ ch := fun z => (hch c z).2.2.1 x c e rfl
    by_cases hc : c ∈ X.fs
    · obtain ⟨sl, q⟩ := slot c o (I.cne x c e) hc nch ho (I.freeC x c e)
      exact ⟨_, q, hd⟩
    · exact ⟨o, keep c o (I.cne x c e) hc nch ho (I.freeC x c e), hd⟩
  refine ⟨I.ok, I.os, hg, ⟨fun b o e n hb hx => ?_, fun b o e n hb hx => ?_, fun b o e n hx => ?_, fun b o e hx => ?_, fun b xs e => tups b xs (I.base.tups b xs e), fun b o xs e => frzs b o xs (I.base.frzs b o xs e), fun b ps e => ?_⟩, ?_, fun x c e => ?_, ?_, fun x c e => ?_, fun p hp => ?_, hok, I.len⟩
  · exact keep b o (neL b o e) hb (neC b o e hx) (I.base.keep b o e n hb hx) (I.base.free b o e n hx)
  · obtain ⟨sl, e1⟩ := I.base.slot b o e n hb hx
    obtain ⟨sl', e2⟩ := slot b _ (neL b o e) hb (neC b o e hx) e1 (I.base.free b o e n hx)
    exact ⟨sl', e2⟩
  · obtain ⟨o', e1⟩ := I.base.there b o e hx
    exact free b o' (neC b o e hx) e1 (I.base.free b o e n hx)
  · obtain ⟨o', e1⟩ := I.base.there b o e hx
    exact there b o' (neC b o e hx) e1
  · obtain ⟨m1, e1⟩ := I.base.tbls b ps e
    obtain ⟨m2, e2⟩ := tbls b _ e1
    exact ⟨m1 ++ m2, by rw [e2, Array.append_assoc]⟩
  · obtain ⟨m, hn, hl⟩ := I.loc
    refine ⟨m, ns m hn, fun i x v e1 e2 e3 => ?_⟩
    obtain ⟨u, r, l⟩ := hl i x v e1 e2 e3
    refine ⟨u, r, ?_⟩
    rcases l with l | ⟨k, c, e, z⟩
    · exact .inl l
    · exact .inr ⟨k, c, e, cellK x c e _ z⟩
  · obtain ⟨v, z⟩ := I.cell x c e
    exact ⟨v, cellK x c e v z⟩
  · obtain ⟨m, ⟨o, _, _, ho, _⟩, _⟩ := I.loc
    exact free _ o (fun z => (hch _ z).2.1 rfl) ho I.free
  · obtain ⟨v, o, ho, hd⟩ := I.cell x c e
    exact free c o (fun z => (hch c z).2.2.1 x c e rfl) ho (I.freeC x c e)
  · obtain ⟨e, n, ne, nf, d⟩ := I.pin p hp
    have nch : p.1 ∉ ch := fun z => (hch p.1 z).2.2.2 p hp rfl
    exact ⟨keep p.1 p.2 ne nf nch e n, free p.1 p.2 nch e n, ne, nf, d⟩
theorem Inv.un {t' : Nat} (I : Inv X pins σ H s) (u : Un X.fs [] H H' s.heap h') (hok : HOk X.prog X.w H' h') : Inv X pins σ H' { s with heap := h', toks := t' } := by
  obtain ⟨m, ⟨o, es, ep, ho, r⟩, _⟩ := id I.loc
  obtain ⟨sl, hL⟩ := u.any ho I.free (by simp)
  exact I.step (g' := s.gens) (d' := s.drawn) (ch := []) (fun _ z => nomatch z) (fun b o _ hb _ e n => u.keep b o e n hb (by simp)) (fun b o _ hb _ e n => u.slot b o e n hb (by simp)) (fun b o _ e n => u.free b o e n (by simp)) (fun b o _ e => u.there b o e (by simp)) u.tups u.frzs u.tbls (fun m' hm => by
    obtain ⟨o', es', ep', ho', r'⟩ := hm
    rw [ho] at ho'; cases ho'
    exact ⟨_, es', ep', hL, r'⟩) hok I.bare
theorem Inv.call {g' : Array GenState} {t' : Nat} {d' : Drawn} {ch : List Addr} (I : Inv X pins σ H s) (u : Un (frs X.stack) ch H H' s.heap h') (hok : HOk X.prog X.w H' h') (hg : AllBare g')
    (hch : ∀ b ∈ ch, (b ∈ X.ex ∨ X.s₀.heap.objs.size ≤ b) ∧ b ≠ X.env.locals ∧ (∀ x c, X.env.cells.lookup x = some c → c ≠ b) ∧ ∀ p ∈ X.pn ++ pins, p.1 ≠ b) :
    Inv X pins σ H' { s with heap := h', gens := g', drawn := d', toks := t' } := by
  obtain ⟨m, ⟨o, es, ep, ho, r⟩, _⟩ := id I.loc
  obtain ⟨sl, hL⟩ := u.any ho I.free fun z => (hch _ z).2.1 rfl
  exact I.step (ch := ch) hch (fun b o hL hb hc e n => u.keep b o e n (fun z => (List.mem_cons.mp (I.stkSub b z)).elim hL hb) hc) (fun b o _ _ hc e n => u.any e n hc) (fun b o hc e n => u.free b o e n hc) (fun b o hc e => u.there b o e hc) u.tups u.frzs u.tbls (fun m' hm => by
    obtain ⟨o', es', ep', ho', r'⟩ := hm
    rw [ho] at ho'; cases ho'
    exact ⟨_, es', ep', hL, r'⟩) hok hg
theorem Inv.turned {t' : Nat} {it : Addr} (I : Inv X pins σ H s) (k : ∀ b o, b ≠ it → s.heap.get? b = some o → h'.get? b = some o) (hn : H it = none) (hL : it ≠ X.env.locals)
    (h1 : it ∈ X.ex ∨ X.s₀.heap.objs.size ≤ it) (h2 : ∀ x c, X.env.cells.lookup x = some c → c ≠ it) (h3 : ∀ p ∈ X.pn ++ pins, p.1 ≠ it) : Inv X pins σ H { s with heap := h', toks := t' } := by
  have nit : ∀ b u, H b = some u → b ≠ it := fun b u e z => by rw [z, hn] at e; cases e
  refine I.step (g' := s.gens) (d' := s.drawn) (ch := [it]) (fun b hb => ?_) (fun b o _ _ hc e _ => k b o (fun z => hc (by simp [z])) e) (fun b o _ _ hc e _ => ⟨o.slots, k b o (fun z => hc (by simp [z])) e⟩) (fun _ _ _ _ n => n)
    (fun b o hc e => ⟨o, k b o (fun z => hc (by simp [z])) e⟩) (fun _ _ e => e) (fun _ _ _ e => e) (fun b ps e => ⟨#[], by rw [e]; simp⟩) (fun m hm => ?_) (fun b u e => ?_) I.bare
  · have e : b = it := by simpa using hb
    subst e
    exact ⟨h1, hL, h2, h3⟩
  · obtain ⟨o, es, ep, ho, r⟩ := hm
    exact ⟨o, es, ep, k _ o (Ne.symm hL) ho, r⟩
  · refine (I.hok b u e).stay (fun c v hc q => k c v ?_ q) (fun _ q => q) fun _ _ q => q
    rcases hc with z | z
    · rw [z]; exact nit b u e
    · exact nit c _ z
theorem Inv.tok (I : Inv X pins σ H s) (t : Nat) : Inv X pins σ H { s with toks := t } := I.un (h' := s.heap) (t' := t) Un.refl I.hok
theorem Inv.kept {t' : Nat} (I : Inv X pins σ H s) (k : ∀ b u, s.heap.get? b = some u → h'.get? b = some u) : Inv X pins σ H { s with heap := h', toks := t' } := I.un (Un.kept k) (I.hok.kept k)
theorem Inv.laid {a : Addr} {o : HO} {t' : Nat} (I : Inv X pins σ H s) (k : ∀ b u, s.heap.get? b = some u → h'.get? b = some u) (hp : s.heap.objs.size ≤ a) (new : ObjOk X.prog X.w (upd H a o) h' a o) :
    Inv X pins σ (upd H a o) { s with heap := h', toks := t' } := I.un (Un.laid k hp (I.hok.fresh hp)) (I.hok.laid k hp new)
theorem Inv.write {x e : Addr} {o : HO} {t' : Nat} (I : Inv X pins σ H s) (mu : Mut (H x)) (he : e = x ∨ H e = some (.own x)) (k : ∀ b u, b ≠ e → s.heap.get? b = some u → h'.get? b = some u) (heo : ∃ u, h'.get? e = some u)
    (new : ObjOk X.prog X.w (upd H x o) h' x o) : Inv X pins σ (upd H x o) { s with heap := h', toks := t' } := I.un (Un.write mu he k heo) (I.hok.write mu he k heo new)
theorem Inv.weak {σ' : List (Option V)} (I : Inv X pins σ H s) (hl : σ'.length = σ.length) (w : ∀ (i : Nat) v, σ'[i]? = some (some v) → σ[i]? = some (some v)) : Inv X pins σ' H s :=
  ⟨I.ok, I.os, I.bare, I.base, let ⟨m, hn, hl'⟩ := I.loc; ⟨m, hn, fun i x v e1 e2 e3 => hl' i x v e1 (w i v e2) e3⟩, I.cell, I.free, I.freeC, I.pin, I.hok, hl.trans I.len⟩
theorem Inv.pins_of {pins' : List (Addr × Obj)} (I : Inv X pins σ H s) (h : ∀ p ∈ pins', s.heap.get? p.1 = some p.2 ∧ H p.1 = none ∧ p.1 ≠ X.env.locals ∧ p.1 ∉ X.fs ∧ ∀ v, p.2.data ≠ .cell v) : Inv X pins' σ H s :=
  ⟨I.ok, I.os, I.bare, I.base, I.loc, I.cell, I.free, I.freeC, fun p hp => (List.mem_append.mp hp).elim (fun z => I.pin p (List.mem_append_left _ z)) (h p), I.hok, I.len⟩
theorem nodup_ix {N : List Str} (hN : N.Nodup) {i j : Nat} {x : Str} (a : N[i]? = some x) (b : N[j]? = some x) : i = j := by
  obtain ⟨h1, e1⟩ := List.getElem?_eq_some_iff.mp a
  obtain ⟨h2, e2⟩ := List.getElem?_eq_some_iff.mp b
  exact (List.getElem_inj hN).mp (e1.trans e2.symm)
theorem store_ok2 {M : Model} {A : Around} {E : Value → Shared → Prop} {i : Nat} {x : Str} {v : V} {u : Value} {Q : Unit → Shared → Prop} (I : Inv X pins σ H s) (hN : X.N.Nodup) (hi : X.N[i]? = some x) (hx : Loc X.env.scope x) (r : RelV v u)
    (h : ∀ s', Inv X pins (σ.set i (some v)) H s' → (∃ a, Heap.SameBut a s.heap s'.heap ∧ (a = X.env.locals ∨ X.env.cells.lookup x = some a)) → Q () s') (hf : X.fn x = true ∨ X.env.scope.names.lookup x = some .local := by first | exact .inl rfl | exact .inr rfl | assumption) : wpAny M A (storeName X.env x u) Q E s := by
  obtain ⟨m, hn, hl⟩ := id I.loc
  have hcls : (X.env.scope.kind == .class || (X.env.scope.kind == .module && X.env.locals != X.env.globals)) = false := by rw [I.ok.kind]; rfl
  have hiσ : i < σ.length := by rw [I.len]; exact (List.getElem?_eq_some_iff.mp hi).1
  have cne := I.cne
  have tracked : ∀ {a : Addr} {h' : Heap}, (∃ o, s.heap.get? a = some o ∧ H a = none) → Heap.SameBut a s.heap h' → HOk X.prog X.w H h' := fun {a h'} ha hs b ob e => by
    obtain ⟨_, _, hfree⟩ := ha
    refine (I.hok b ob e).stay (fun c w' hc q => (hs.2 c ?_).trans q) (fun _ q => q) fun _ _ q => q
    rintro rfl
    rcases hc with rfl | hc
    · rw [hfree] at e; cases e
    · rw [hfree] at hc; cases hc
  rcases hx with hk | hk
  · refine wpAny_storeName_local hk hn (fun h' hn' hs => ?_) hcls
    obtain ⟨oL, _, _, hoL, _⟩ := id hn
    refine h _ ⟨I.ok, I.os, I.bare, ⟨fun b o e n hb hx => ?_, fun b o e n hb hx => ?_, I.base.free, fun b o e hx => ?_, I.base.tups, I.base.frzs, I.base.tbls⟩, ⟨_, hn', fun j y v' e1 e2 e3 => ?_⟩, fun y c e => ?_, I.free, I.freeC, fun p hp => ?_, tracked ⟨oL, hoL, I.free⟩ hs, by simpa using I.len⟩ ⟨_, hs, .inl rfl⟩
    · exact (hs.2 b (Nat.ne_of_lt (Nat.lt_of_lt_of_le (Heap.lt_size e) I.ok.above))).trans (I.base.keep b o e n hb hx)
    · obtain ⟨sl, e1⟩ := I.base.slot b o e n hb hx
      exact ⟨sl, (hs.2 b (Nat.ne_of_lt (Nat.lt_of_lt_of_le (Heap.lt_size e) I.ok.above))).trans e1⟩
    · obtain ⟨o', e1⟩ := I.base.there b o e hx
      exact ⟨o', (hs.2 b (Nat.ne_of_lt (Nat.lt_of_lt_of_le (Heap.lt_size e) I.ok.above))).trans e1⟩
    · by_cases hj : j = i
      · subst hj
        rw [hi] at e1; cases e1
        rw [List.getElem?_set_self hiσ] at e2
        cases e2
        exact ⟨u, r, .inl ⟨hk, by simp⟩⟩
      · rw [List.getElem?_set_ne (Ne.symm hj)] at e2
        obtain ⟨u', r', q⟩ := hl j y v' e1 e2 e3
        refine ⟨u', r', ?_⟩
        rcases q with ⟨k, e⟩ | ⟨k, c, e, z⟩
        · refine .inl ⟨k, ?_⟩
          have : y ≠ x := fun e => hj (nodup_ix hN e1 (e ▸ hi))
          simp [this, e]
        · exact .inr ⟨k, c, e, z.sameBut hs (cne y c e)⟩
    · obtain ⟨w', z⟩ := I.cell y c e
      exact ⟨w', z.sameBut hs (cne y c e)⟩
    · obtain ⟨e, n, ne, nf, d⟩ := I.pin p hp
      exact ⟨(hs.2 p.1 ne).trans e, n, ne, nf, d⟩
  · have hfn : X.fn x = true := by
      rcases hf with z | z
      · exact z
      · rw [z] at hk; cases hk
    obtain ⟨c, hc⟩ := I.ok.has x (.inl hk)
    obtain ⟨w', z⟩ := I.cell x c hc
    refine wpAny_storeName_cell I.ok.kind hk hc z (fun h' hc' hs => ?_)
    obtain ⟨oc, hoc, hocd⟩ := id z
    refine h { s with heap := h' } ⟨I.ok, I.os, I.bare, ⟨fun b o e n hb hx => ?_, fun b o e n hb hx => ?_, I.base.free, fun b o e hx => ?_, I.base.tups, I.base.frzs, I.base.tbls⟩, ⟨m, hn.sameBut hs (Ne.symm (cne x c hc)), fun j y v' e1 e2 e3 => ?_⟩, fun y c' e => ?_, I.free, I.freeC, fun p hp => ?_, tracked ⟨oc, hoc, I.freeC x c hc⟩ hs, by simpa using I.len⟩ ⟨c, hs, .inr hc⟩
    · exact (hs.2 b (Nat.ne_of_lt (Nat.lt_of_lt_of_le (Heap.lt_size e) (I.ok.cab x c hfn hc)))).trans (I.base.keep b o e n hb hx)
    · obtain ⟨sl, e1⟩ := I.base.slot b o e n hb hx
      exact ⟨sl, (hs.2 b (Nat.ne_of_lt (Nat.lt_of_lt_of_le (Heap.lt_size e) (I.ok.cab x c hfn hc)))).trans e1⟩
    · obtain ⟨o', e1⟩ := I.base.there b o e hx
      exact ⟨o', (hs.2 b (Nat.ne_of_lt (Nat.lt_of_lt_of_le (Heap.lt_size e) (I.ok.cab x c hfn hc)))).trans e1⟩
    · by_cases hj : j = i
      · subst hj
        rw [hi] at e1; cases e1
        rw [List.getElem?_set_self hiσ] at e2
        cases e2
        exact ⟨u, r, .inr ⟨.inl hk, c, hc, hc'⟩⟩
      · rw [List.getElem?_set_ne (Ne.symm hj)] at e2
        obtain ⟨u', r', q⟩ := hl j y v' e1 e2 e3
        refine ⟨u', r', ?_⟩
        rcases q with q | ⟨k, c', e, z'⟩
        · exact .inl q
        · refine .inr ⟨k, c', e, z'.sameBut hs ?_⟩
          rintro rfl
          exact hj (nodup_ix hN e1 (I.ok.inj _ _ _ e hc ▸ hi))
    · by_cases hcc : c' = c
      · subst hcc; exact ⟨_, hc'⟩
      · obtain ⟨w2, z2⟩ := I.cell y c' e
        exact ⟨w2, z2.sameBut hs hcc⟩
    · obtain ⟨e, n, ne, nf, d⟩ := I.pin p hp
      refine ⟨(hs.2 p.1 ?_).trans e, n, ne, nf, d⟩
      intro q
      rw [q, hoc] at e
      have q' : oc = p.2 := Option.some.inj e
      exact d w' (by rw [← q']; exact hocd)
theorem store_ok {M : Model} {A : Around} {E : Value → Shared → Prop} {i : Nat} {x : Str} {v : V} {u : Value} {Q : Unit → Shared → Prop} (I : Inv X pins σ H s) (hN : X.N.Nodup) (hi : X.N[i]? = some x) (hx : Loc X.env.scope x) (r : RelV v u)
    (h : ∀ s', Inv X pins (σ.set i (some v)) H s' → Q () s') (hf : X.fn x = true ∨ X.env.scope.names.lookup x = some .local := by first | exact .inl rfl | exact .inr rfl | assumption) : wpAny M A (storeName X.env x u) Q E s :=
  store_ok2 I hN hi hx r (fun s' I' _ => h s' I') hf
theorem Inv.call' {s' : Shared} {ch : List Addr} (I : Inv X pins σ H s) (ho : s'.os = s.os) (u : Un (frs X.stack) ch H H' s.heap s'.heap) (hok : HOk X.prog X.w H' s'.heap) (hg : AllBare s'.gens)
    (hch : ∀ b ∈ ch, (b ∈ X.ex ∨ X.s₀.heap.objs.size ≤ b) ∧ b ≠ X.env.locals ∧ (∀ x c, X.env.cells.lookup x = some c → c ≠ b) ∧ ∀ p ∈ X.pn ++ pins, p.1 ≠ b) : Inv X pins σ H' s' := by
  obtain ⟨h', g', d', t', o'⟩ := s'
  have e : o' = s.os := ho
  subst e
  exact I.call (g' := g') (t' := t') (d' := d') u hok hg hch
end
abbrev XK := Value → Option Addr → Hp → Prop
abbrev St := List (Option V)
abbrev VK := V → Hp → Prop
abbrev TE := St → Hp → VK → Prop
abbrev TT := St → Hp → (Bool → Hp → Prop) → Prop
abbrev TA := St → Hp → (List V → Hp → Prop) → Prop
structure Ends where
  nx : St → Hp → Prop
  rt : VK
  bk : St → Hp → Prop := fun _ _ => False
  ct : St → Hp → Prop := fun _ _ => False
abbrev TS := Ends → St → Hp → Prop
def EP (X : Cx) (pins : List (Addr × Obj)) (σ : St) (Q : VK) (u : Value) (s' : Shared) : Prop := ∃ v H', Inv X pins σ H' s' ∧ RelV v u ∧ Q v H'
def TP (X : Cx) (pins : List (Addr × Obj)) (σ : St) (Q : Bool → Hp → Prop) (b : Bool) (s' : Shared) : Prop := ∃ H', Inv X pins σ H' s' ∧ Q b H'
def AP (X : Cx) (pins : List (Addr × Obj)) (σ : St) (Q : List V → Hp → Prop) (us : List Value) (s' : Shared) : Prop := ∃ vs H', Inv X pins σ H' s' ∧ Vals vs us ∧ Q vs H'
def SP (X : Cx) (pins : List (Addr × Obj)) (D : Ends) (f : Flow) (s' : Shared) : Prop :=
  match f with
  | .next => ∃ σ' H', Inv X pins σ' H' s' ∧ D.nx σ' H'
  | .brk => ∃ σ' H', Inv X pins σ' H' s' ∧ D.bk σ' H'
  | .cont => ∃ σ' H', Inv X pins σ' H' s' ∧ D.ct σ' H'
  | .ret u => ∃ v σ' H', Inv X pins σ' H' s' ∧ RelV v u ∧ D.rt v H'
def PE (X : Cx) (e : Expr) (t : TE) : Prop :=
  ∀ (pins : List (Addr × Obj)) (s : Shared) (σ : St) (H : Hp) (Q : VK), Inv X pins σ H s → t σ H Q → wpAny (model X.prog X.w) X.A (eval e X.env) (EP X pins σ Q) X.xe s
def PT (X : Cx) (e : Expr) (t : TT) : Prop :=
  ∀ (pins : List (Addr × Obj)) (s : Shared) (σ : St) (H : Hp) (Q : Bool → Hp → Prop), Inv X pins σ H s → t σ H Q → wpAny (model X.prog X.w) X.A (isTrue e X.env (eval e X.env)) (TP X pins σ Q) X.xe s
def PW (X : Cx) (e : Expr) (t : TT) : Prop :=
  ∀ (whole : Sem Value) (pins : List (Addr × Obj)) (s : Shared) (σ : St) (H : Hp) (Q : Bool → Hp → Prop), Inv X pins σ H s → t σ H Q → wpAny (model X.prog X.w) X.A (isTrue e X.env whole) (TP X pins σ Q) X.xe s
theorem PW.pt {X : Cx} {e : Expr} {t : TT} (h : PW X e t) : PT X e t := h _
def PA (X : Cx) (es : List Expr) (t : TA) : Prop :=
  ∀ (pos : Pos) (pins : List (Addr × Obj)) (s : Shared) (σ : St) (H : Hp) (Q : List V → Hp → Prop), Inv X pins σ H s → t σ H Q → wpAny (model X.prog X.w) X.A (spliced (backTo pos (starEach es X.env))) (AP X pins σ Q) X.xe s
def PS (X : Cx) (st : Stmt) (t : TS) : Prop :=
  ∀ (pins : List (Addr × Obj)) (s : Shared) (σ : St) (H : Hp) (D : Ends), Inv X pins σ H s → t D σ H → wpAny (model X.prog X.w) X.A (exec st X.env) (SP X pins D) X.xe s
def PSs (X : Cx) (st : List Stmt) (t : TS) : Prop :=
  ∀ (pins : List (Addr × Obj)) (s : Shared) (σ : St) (H : Hp) (D : Ends), Inv X pins σ H s → t D σ H → wpAny (model X.prog X.w) X.A (execs st X.env) (SP X pins D) X.xe s
theorem thn {α : Type} {t : Sem α} {Q Q' : α → Shared → Prop} {M : Model} {A : Around} {E : Value → Shared → Prop} {s : Shared} (h : wpAny M A t Q E s) (hQ : ∀ a s, Q a s → Q' a s) : wpAny M A t Q' E s := wpAny_mono h hQ fun _ _ x => x
end L2
namespace L2
open PySem PySem.Spec PyProof.Rows
section
variable {X : Cx}
def tVar (i : Nat) : TE := fun σ H Q => ∃ v, σ[i]? = some (some v) ∧ Q v H
def tC (v : V) : TE := fun _ H Q => Q v H
theorem pe_var {i : Nat} {x : Str} {pos : Pos} (hN : X.N[i]? = some x) (hv : Vis X.env.scope x) (hd : (x == ("__debug__" : Str)) = false := by decide) (hcd : (x == ("__classdict__" : Str)) = false := by decide) : PE X (.Name x pos) (tVar i) := by
  intro pins s σ H Q I h
  obtain ⟨v, e, h⟩ := h
  obtain ⟨m, hn, hl⟩ := I.loc
  obtain ⟨u, r, l⟩ := hl i x v hN e hv
  have fin : EP X pins σ Q u s := ⟨v, H, I, r, h⟩
  rcases l with ⟨hk, hm⟩ | ⟨hk, c, hc, hcell⟩
  · exact wpAny_Name (wpAny_loadName_local I.ok.kind hk hn hm fin) hd
  · rcases hk with hk | hk
    · exact wpAny_Name (wpAny_loadName_cell I.ok.kind hk hc hcell fin) hd
    · exact wpAny_Name (wpAny_loadName_free I.ok.kind hk hc hcell fin hcd) hd
theorem pe_int {i j pos} : PE X (.Constant (.int i) j pos) (tC (.int i)) := fun _ _ _ H _ I h => wpAny_Constant_int ⟨.int i, H, I.tok _, ⟨_, rfl⟩, h⟩
theorem pe_bl {b j pos} : PE X (.Constant (.bool b) j pos) (tC (.bl b)) := fun _ _ _ H _ I h => Constant_bool ⟨.bl b, H, I, rfl, h⟩
theorem pe_str {x j pos} : PE X (.Constant (.str x) j pos) (tC (.str x)) := fun _ _ _ H _ I h => Calls.Constant_str ⟨.str x, H, I.tok _, ⟨_, rfl⟩, h⟩
def Gl (X : Cx) (x : Str) : Prop := X.env.kindOf x = some .globalImplicit
theorem ld_glob {E : Value → Shared → Prop} {pins : List (Addr × Obj)} {s : Shared} {σ : St} {H : Hp} {x : Str} {u : Value} {pos : Pos} {Q : Value → Shared → Prop} (I : Inv X pins σ H s) (hg : Gl X x) (hm : X.mg x = some u) (h : Q u s)
    (hd : (x == ("__debug__" : Str)) = false := by decide) : wpAny (model X.prog X.w) X.A (eval (.Name x pos) X.env) Q E s :=
  Calls.Name_function_global I.ok.kind hg (Calls.loadGlobal_global (by rw [I.ok.glob]; exact I.mod.glob.keeps I.bk) hm h) hd
theorem ld_blt {E : Value → Shared → Prop} {pins : List (Addr × Obj)} {s : Shared} {σ : St} {H : Hp} {x : Str} {u : Value} {pos : Pos} {Q : Value → Shared → Prop} (I : Inv X pins σ H s) (hg : Gl X x) (hm : X.mg x = none) (hv : bootBuiltins x = some u) (h : Q u s)
    (hn : x ≠ "__name__" := by decide) (hd : (x == ("__debug__" : Str)) = false := by decide) : wpAny (model X.prog X.w) X.A (eval (.Name x pos) X.env) Q E s := by
  obtain ⟨mb, h1, h2⟩ := I.mod.blt
  exact Calls.Name_function_global I.ok.kind hg (Calls.loadGlobal_builtin (by rw [I.ok.glob]; exact I.mod.glob.keeps I.bk) hm (by rw [I.ok.blt]; exact h1.keeps I.bk) ((h2 x hn).trans hv) h) hd
theorem pe_glob {x : Str} {v : V} {u : Value} {pos : Pos} (hg : Gl X x) (hm : X.mg x = some u) (r : RelV v u) (hd : (x == ("__debug__" : Str)) = false := by decide) : PE X (.Name x pos) (tC v) :=
  fun _ _ _ H _ I h => ld_glob I hg hm ⟨v, H, I, r, h⟩ hd
theorem pe_bltn {x : Str} {v : V} {u : Value} {pos : Pos} (hg : Gl X x) (hm : X.mg x = none) (hv : bootBuiltins x = some u) (r : RelV v u) (hn : x ≠ "__name__" := by decide) (hd : (x == ("__debug__" : Str)) = false := by decide) : PE X (.Name x pos) (tC v) :=
  fun _ _ _ H _ I h => ld_blt I hg hm hv ⟨v, H, I, r, h⟩ hn hd
variable {a b : Expr} {ta tb : TE} {pos : Pos}
def tIsN (ta : TE) : TE := fun σ H Q => ta σ H fun x H1 => Q (.bl (decide (x = .non))) H1
def tNotN (ta : TE) : TE := fun σ H Q => ta σ H fun x H1 => Q (.bl (!decide (x = .non))) H1
def tB (t : TE) : TT := fun σ H Q => t σ H fun x H1 => ∃ c, x = .bl c ∧ Q c H1
theorem pt_val {e : Expr} {t : TE} (h : PE X e t) (he : ∀ whole, isTrue e X.env whole = (do let v ← whole; standAt e.pos; holding [v] (truthy v)) := by intro _; rfl) : PT X e (tB t) := by
  intro pins s σ H Q I hw
  refine isTrue_plain (thn (h pins s σ H _ I hw) fun v s1 ⟨x, H1, I1, r1, q1⟩ => ?_) (he _)
  obtain ⟨d, rfl, q⟩ := q1
  cases r1
  exact wpAny_truthy_bool ⟨H1, I1, q⟩
variable {tA tB' : TT} {rest : List Expr}
def tAnd (t u : TT) : TT := fun σ H Q => t σ H fun c H1 => if c = true then u σ H1 Q else Q false H1
def tOr (t u : TT) : TT := fun σ H Q => t σ H fun c H1 => if c = true then Q true H1 else u σ H1 Q
def tNot (t : TT) : TT := fun σ H Q => t σ H fun c H1 => Q (!c) H1
theorem pw_and1 (ha : PT X a tA) : PW X (.BoolOp .And [a] pos) tA := by
  intro wh pins s σ H Q I h
  refine isTrue_and (thn (ha pins s σ H Q I h) fun c s1 e => ?_)
  cases c with
  | true => exact isTrue_and_nil e
  | false => exact e
theorem pw_or1 (ha : PT X a tA) : PW X (.BoolOp .Or [a] pos) tA := by
  intro wh pins s σ H Q I h
  refine isTrue_or (thn (ha pins s σ H Q I h) fun c s1 e => ?_)
  cases c with
  | false => exact isTrue_or_nil e
  | true => exact e
theorem pw_and (ha : PT X a tA) (hb : PW X (.BoolOp .And (b :: rest) pos) tB') : PW X (.BoolOp .And (a :: b :: rest) pos) (tAnd tA tB') := by
  intro wh pins s σ H Q I h
  refine isTrue_and (thn (ha pins s σ H _ I h) fun c s1 ⟨H1, I1, q1⟩ => ?_)
  cases c with
  | true => exact hb wh pins s1 σ H1 Q I1 q1
  | false => exact ⟨H1, I1, q1⟩
theorem pw_or (ha : PT X a tA) (hb : PW X (.BoolOp .Or (b :: rest) pos) tB') : PW X (.BoolOp .Or (a :: b :: rest) pos) (tOr tA tB') := by
  intro wh pins s σ H Q I h
  refine isTrue_or (thn (ha pins s σ H _ I h) fun c s1 ⟨H1, I1, q1⟩ => ?_)
  cases c with
  | true => exact ⟨H1, I1, q1⟩
  | false => exact hb wh pins s1 σ H1 Q I1 q1
theorem pt_not (ha : PT X a tA) : PT X (.UnaryOp .Not a pos) (tNot tA) := by
  intro pins s σ H Q I h
  exact isTrue_not (ha pins s σ H (fun c H1 => Q (!c) H1) I h)
def tAndV (ta tb : TE) : TE := fun σ H Q => ta σ H fun x H1 => ∃ c, x = .bl c ∧ if c = true then tb σ H1 Q else Q (.bl false) H1
def tOrV (ta tb : TE) : TE := fun σ H Q => ta σ H fun x H1 => ∃ c, x = .bl c ∧ if c = true then Q (.bl true) H1 else tb σ H1 Q
def tNotV (ta : TE) : TE := fun σ H Q => ta σ H fun x H1 => ∃ c, x = .bl c ∧ Q (.bl (!c)) H1
theorem pe_one {op} {t : TE} (h : PE X a t) : PE X (.BoolOp op [a] pos) t := fun pins s σ H Q I hw => BoolOp_one (h pins s σ H Q I hw)
theorem pe_and (ha : PE X a ta) (hb : PE X (.BoolOp .And (b :: rest) pos) tb) : PE X (.BoolOp .And (a :: b :: rest) pos) (tAndV ta tb) := by
  intro pins s σ H Q I h
  refine BoolOp_and (thn (ha pins s σ H _ I h) fun v s1 ⟨x, H1, I1, r1, q1⟩ => ?_)
  obtain ⟨c, rfl, q1⟩ := q1
  cases r1
  refine wpAny_truthy_bool ?_
  cases c with
  | true => exact hb pins s1 σ H1 Q I1 q1
  | false => exact ⟨.bl false, H1, I1, rfl, q1⟩
theorem pe_or (ha : PE X a ta) (hb : PE X (.BoolOp .Or (b :: rest) pos) tb) : PE X (.BoolOp .Or (a :: b :: rest) pos) (tOrV ta tb) := by
  intro pins s σ H Q I h
  refine BoolOp_or (thn (ha pins s σ H _ I h) fun v s1 ⟨x, H1, I1, r1, q1⟩ => ?_)
  obtain ⟨c, rfl, q1⟩ := q1
  cases r1
  refine wpAny_truthy_bool ?_
  cases c with
  | false => exact hb pins s1 σ H1 Q I1 q1
  | true => exact ⟨.bl true, H1, I1, rfl, q1⟩
theorem pe_not (ha : PE X a ta) : PE X (.UnaryOp .Not a pos) (tNotV ta) := by
  intro pins s σ H Q I h
  refine UnaryOp_ (thn (ha pins s σ H _ I h) fun v s1 ⟨x, H1, I1, r1, q1⟩ => ?_)
  obtain ⟨c, rfl, q1⟩ := q1
  cases r1
  exact not_of (wpAny_truthy_bool ⟨.bl (!c), H1, I1, rfl, q1⟩)
def tIf (t : TT) (ta tb : TE) : TE := fun σ H Q => t σ H fun c H1 => if c = true then ta σ H1 Q else tb σ H1 Q
theorem pe_ifExp {c : Expr} (hc : PT X c tA) (ha : PE X a ta) (hb : PE X b tb) : PE X (.IfExp c a b pos) (tIf tA ta tb) := by
  intro pins s σ H Q I h
  refine wpAny_IfExp (thn (hc pins s σ H _ I h) fun d s1 ⟨H1, I1, q1⟩ => ?_)
  cases d with
  | true => exact ha pins s1 σ H1 Q I1 q1
  | false => exact hb pins s1 σ H1 Q I1 q1
end
end L2
namespace L2
open PySem PySem.Spec PyProof.Rows
def SqL (K : PySem.W.Frag) (H : Hp) (a : Addr) (xs : List V) : Prop :=
  Rd H a (.lst xs) ∨
    ∃ (o : Obj) (its : Array Value) (n : Nat), K.lookup a = some o ∧ o.cls = .type "list" ∧ o.dict = none ∧ o.data = .seq its n ∧ its.size ≤ sizeLine ∧ Vals xs its.toList
def SqT (K : PySem.W.Frag) (H : Hp) (a : Addr) (xs : List V) : Prop :=
  Rd H a (.tup xs) ∨
    ∃ (o : Obj) (its : Array Value) (n : Nat), K.lookup a = some o ∧ o.cls = .type "tuple" ∧ o.data = .seq its n ∧ its.size ≤ sizeLine ∧ Vals xs its.toList
def absV : Value → Option V
  | .none => some .non
  | .bool b => some (.bl b)
  | .int i _ => some (.int i)
  | .str x _ => some (.str x)
  | .bytes b _ => some (.byt b)
  | .float b _ => some (.flt b)
  | .ref a => some (.ref a)
  | .type n => some (.ty n)
  | _ => none
theorem RelV.abs {x : V} {u : Value} (r : RelV x u) : absV u = some x := by
  cases x with
  | non => cases r; rfl
  | bl _ => cases r; rfl
  | int _ => obtain ⟨t, rfl⟩ := r; rfl
  | str _ => obtain ⟨t, rfl⟩ := r; rfl
  | byt _ => obtain ⟨t, rfl⟩ := r; rfl
  | flt _ => obtain ⟨t, rfl⟩ := r; rfl
  | ref _ => cases r; rfl
  | ty _ => cases r; rfl
theorem RelV.inj {x y : V} {u : Value} (r : RelV x u) (q : RelV y u) : x = y := Option.some.inj (r.abs.symm.trans q.abs)
theorem Vals.inj : ∀ {xs ys : List V} {us : List Value}, Vals xs us → Vals ys us → xs = ys
  | _, _, _, .nil, .nil => rfl
  | _, _, _, .cons r t, .cons r' t' => by rw [r.inj r', Vals.inj t t']
section
variable {X : Cx} {pins : List (Addr × Obj)} {σ : St} {H : Hp} {s : Shared} {a : Addr} {xs ys : List V}
theorem SqL.of {K : PySem.W.Frag} (h : H a = some (.lst xs)) : SqL K H a xs := .inl (.inl h)
theorem SqT.of {K : PySem.W.Frag} (h : H a = some (.tup xs)) : SqT K H a xs := .inl (.inl h)
theorem Inv.list (I : Inv X pins σ H s) (h : SqL X.K H a xs) : ∃ its : List Value, Vals xs its ∧ PlainL s.heap a its.toArray ∧ xs.length ≤ sizeLine := by
  rcases h with h | ⟨o, its, n, hk, hc, hd, hs, hz, r⟩
  · obtain ⟨z, its, n, r, e⟩ := h.ok I.hok
    exact ⟨its, r, ⟨_, n, e, rfl, rfl, rfl⟩, z⟩
  · refine ⟨its.toList, r, ⟨o, n, I.kIn a o hk, hc, hd, by simpa using hs⟩, ?_⟩
    have e := r.length
    simp only [Array.length_toList] at e
    omega
theorem Inv.tuple (I : Inv X pins σ H s) (h : SqT X.K H a xs) : ∃ its : List Value, Vals xs its ∧ IsTup s.heap a its.toArray ∧ xs.length ≤ sizeLine := by
  rcases h with h | ⟨o, its, n, hk, hc, hs, hz, r⟩
  · obtain ⟨z, its, r, p⟩ := h.ok I.hok
    exact ⟨its, r, p, z⟩
  · refine ⟨its.toList, r, ⟨o, I.kIn a o hk, hc, n, by simpa using hs⟩, ?_⟩
    have e := r.length
    simp only [Array.length_toList] at e
    omega
theorem Inv.list_inj (I : Inv X pins σ H s) (h : SqL X.K H a xs) (h' : SqL X.K H a ys) : xs = ys := by
  obtain ⟨its, r, ⟨o, n, e, _, _, d⟩, _⟩ := I.list h
  obtain ⟨its', r', ⟨o', n', e', _, _, d'⟩, _⟩ := I.list h'
  rw [e] at e'; cases e'
  rw [d] at d'
  injection d' with d1 _
  have : its = its' := by simpa using congrArg Array.toList d1
  subst this
  exact r.inj r'
theorem Inv.tuple_inj (I : Inv X pins σ H s) (h : SqT X.K H a xs) (h' : SqT X.K H a ys) : xs = ys := by
  obtain ⟨its, r, ⟨o, e, _, n, d⟩, _⟩ := I.tuple h
  obtain ⟨its', r', ⟨o', e', _, n', d'⟩, _⟩ := I.tuple h'
  rw [e] at e'; cases e'
  rw [d] at d'
  injection d' with d1 _
  have : its = its' := by simpa using congrArg Array.toList d1
  subst this
  exact r.inj r'
end
abbrev Cx.wish (X : Cx) (E : Value → Shared → Prop) : Cx := { X with xe := E }
abbrev Cx.nox (X : Cx) : Cx := X.wish fun _ _ => False
theorem Cx.Ok.wish {X : Cx} (ok : X.Ok) (E : Value → Shared → Prop) : (X.wish E).Ok :=
  ⟨ok.mod, ok.kind, ok.glob, ok.blt, ok.above, ok.inj, ok.has, ok.cab, ok.hd, ok.frames, ok.stk, ok.exf, ok.bs, ok.bsz, ok.noex, ok.exfs, ok.funs, ok.frf⟩
theorem Cx.Ok.unwish {X : Cx} {E : Value → Shared → Prop} (ok : (X.wish E).Ok) : X.Ok :=
  ⟨ok.mod, ok.kind, ok.glob, ok.blt, ok.above, ok.inj, ok.has, ok.cab, ok.hd, ok.frames, ok.stk, ok.exf, ok.bs, ok.bsz, ok.noex, ok.exfs, ok.funs, ok.frf⟩
section
variable {X : Cx} {pins : List (Addr × Obj)} {σ : St} {H : Hp} {s : Shared} {E : Value → Shared → Prop}
theorem Inv.wish (I : Inv X pins σ H s) (E : Value → Shared → Prop) : Inv (X.wish E) pins σ H s := ⟨I.ok.wish E, I.os, I.bare, I.base, I.loc, I.cell, I.free, I.freeC, I.pin, I.hok, I.len⟩
theorem Inv.unwish (I : Inv (X.wish E) pins σ H s) : Inv X pins σ H s := ⟨I.ok.unwish, I.os, I.bare, I.base, I.loc, I.cell, I.free, I.freeC, I.pin, I.hok, I.len⟩
theorem SP.unwish {D : Ends} {f : Flow} {s' : Shared} (h : SP (X.wish E) pins D f s') : SP X pins D f s' := by
  cases f with
  | next => obtain ⟨σ', H', I, q⟩ := h; exact ⟨σ', H', I.unwish, q⟩
  | brk => obtain ⟨σ', H', I, q⟩ := h; exact ⟨σ', H', I.unwish, q⟩
  | cont => obtain ⟨σ', H', I, q⟩ := h; exact ⟨σ', H', I.unwish, q⟩
  | ret u => obtain ⟨v, σ', H', I, r, q⟩ := h; exact ⟨v, σ', H', I.unwish, r, q⟩
theorem PE.nox {e : Expr} {t : TE} (h : PE X.nox e t) : PE X e t := fun pins s σ H Q I hw =>
  wpAny_mono (h pins s σ H Q (I.wish _) hw) (fun _ _ ⟨v, H', I', r, q⟩ => ⟨v, H', I'.unwish, r, q⟩) fun _ _ z => False.elim z
theorem PT.nox {e : Expr} {t : TT} (h : PT X.nox e t) : PT X e t := fun pins s σ H Q I hw =>
  wpAny_mono (h pins s σ H Q (I.wish _) hw) (fun _ _ ⟨H', I', q⟩ => ⟨H', I'.unwish, q⟩) fun _ _ z => False.elim z
theorem PSs.nox {st : List Stmt} {t : TS} (h : PSs X.nox st t) : PSs X st t := fun pins s σ H D I hw =>
  wpAny_mono (h pins s σ H D (I.wish _) hw) (fun _ _ q => q.unwish) fun _ _ z => False.elim z
end
section
variable {X : Cx} {st : Stmt} {rest : List Stmt} {t u : TS} {e : Expr} {te : TE} {pos : Pos}
def tNext : TS := fun D σ H => D.nx σ H
def tSeq (t u : TS) : TS := fun D σ H => t { D with nx := u D } σ H
theorem pss_nil : PSs X [] tNext := fun _ _ σ H _ I h => wpAny_execs_nil ⟨σ, H, I, h⟩
theorem pss_cons (h1 : PS X st t) (h2 : PSs X rest u) : PSs X (st :: rest) (tSeq t u) := by
  intro pins s σ H D I h
  refine wpAny_execs_cons (thn (h1 pins s σ H { D with nx := u D } I h) fun f s1 q => ?_)
  cases f with
  | next =>
    obtain ⟨σ', H', I', q⟩ := q
    exact h2 pins s1 σ' H' D I' q
  | ret v => exact q
  | brk => exact q
  | cont => exact q
theorem pss_one (h1 : PS X st t) : PSs X [st] t := by
  intro pins s σ H D I h
  refine wpAny_execs_cons (thn (h1 pins s σ H D I h) fun f s1 q => ?_)
  cases f with
  | next => exact wpAny_execs_nil q
  | ret v => exact q
  | brk => exact q
  | cont => exact q
def tBreak : TS := fun D σ H => D.bk σ H
def tCont : TS := fun D σ H => D.ct σ H
theorem Inv.quiet {pins : List (Addr × Obj)} {σ : St} {H : Hp} {s : Shared} (I : Inv X pins σ H s) : interactive X.env = false := by simp [interactive, I.ok.kind]
def tDrop (te : TE) : TS := fun D σ H => te σ H fun _ H1 => D.nx σ H1
theorem ps_expr (he : PE X e te) (hs : swapsWith e none pos.line X.env = pure false := by rfl) : PS X (.Expr e pos) (tDrop te) := by
  intro pins s σ H D I h
  exact wpAny_Expr_any (thn (he pins s σ H _ I h) fun v s1 ⟨x, H1, I1, r1, q1⟩ => ⟨σ, H1, I1, q1⟩) I.quiet hs
def tRet (te : TE) : TS := fun D σ H => te σ H D.rt
theorem ps_ret (he : PE X e te) : PS X (.Return (some e) pos) (tRet te) := by
  intro pins s σ H D I h
  exact wpAny_Return_some (thn (he pins s σ H _ I h) fun v s1 ⟨x, H1, I1, r1, q1⟩ => ⟨x, σ, H1, I1, r1, q1⟩)
def tRetN : TS := fun D _ H => D.rt .non H
def tIfS (c : TT) (t u : TS) : TS := fun D σ H => c σ H fun b H1 => if b = true then t D σ H1 else u D σ H1
theorem ps_if {c : Expr} {a b : List Stmt} {tc : TT} (hc : PT X c tc) (ha : PSs X a t) (hb : PSs X b u) : PS X (.If c a b pos) (tIfS tc t u) := by
  intro pins s σ H D I h
  refine wpAny_If (thn (hc pins s σ H _ I h) fun d s1 ⟨H1, I1, q1⟩ => ?_)
  cases d with
  | true => exact ha pins s1 σ H1 D I1 q1
  | false => exact hb pins s1 σ H1 D I1 q1
end
abbrev TG := V → St → Hp → (St → Hp → Prop) → Prop
abbrev TGs := List V → St → Hp → (St → Hp → Prop) → Prop
def PG (X : Cx) (target : Expr) (t : TG) : Prop :=
  ∀ (pins : List (Addr × Obj)) (s : Shared) (σ : St) (H : Hp) (v : V) (u : Value) (Q : St → Hp → Prop), Inv X pins σ H s → RelV v u → t v σ H Q →
    wpAny (model X.prog X.w) X.A (assign target X.env u) (fun _ s' => ∃ σ' H', Inv X pins σ' H' s' ∧ Q σ' H') X.xe s
def PGs (X : Cx) (ts : List Expr) (t : TGs) : Prop :=
  ∀ (pins : List (Addr × Obj)) (s : Shared) (σ : St) (H : Hp) (vs : List V) (us : List Value) (Q : St → Hp → Prop), Inv X pins σ H s → Vals vs us → t vs σ H Q →
    wpAny (model X.prog X.w) X.A (assignInOrder ((assignEach ts X.env).map (·.2)) us) (fun _ s' => ∃ σ' H', Inv X pins σ' H' s' ∧ Q σ' H') X.xe s
abbrev TSet := V → V → V → Hp → (Hp → Prop) → Prop
def PSet (X : Cx) (t : TSet) : Prop :=
  ∀ (pins : List (Addr × Obj)) (s : Shared) (σ : St) (H : Hp) (o i v : V) (ov iv u : Value) (Q : Hp → Prop), Inv X pins σ H s → RelV o ov → RelV i iv → RelV v u → t o i v H Q →
    wpAny (model X.prog X.w) X.A (setItem ov iv u) (fun _ s' => ∃ H', Inv X pins σ H' s' ∧ Q H') X.xe s
abbrev TIp := V → V → Hp → VK → Prop
section
variable {X : Cx} {pos : Pos}
def gName (i : Nat) : TG := fun v σ H Q => Q (σ.set i (some v)) H
theorem pg_name {i : Nat} {x : Str} (hN : X.N.Nodup) (hi : X.N[i]? = some x) (hx : Loc X.env.scope x) (hf : X.fn x = true ∨ X.env.scope.names.lookup x = some .local := by first | exact .inl rfl | exact .inr rfl | assumption) : PG X (.Name x pos) (gName i) := by
  intro pins s σ H v u Q I r h
  exact wpAny_assign_Name (store_ok I hN hi hx r (fun s' I' => ⟨_, H, I', h⟩) hf)
def gNil : TGs := fun vs σ H Q => vs = [] ∧ Q σ H
def gCons (t : TG) (u : TGs) : TGs := fun vs σ H Q => ∃ v r, vs = v :: r ∧ t v σ H fun σ' H' => u r σ' H' Q
theorem pgs_nil : PGs X [] gNil := by
  intro pins s σ H vs us Q I r h
  obtain ⟨e, h⟩ := h
  subst e
  cases r
  exact assignInOrder_nil ⟨σ, H, I, h⟩
theorem pgs_cons {e : Expr} {es : List Expr} {t : TG} {u : TGs} (h1 : PG X e t) (h2 : PGs X es u)
    (hs : (assignEach (e :: es) X.env).map (·.2) = assign e X.env :: (assignEach es X.env).map (·.2) := by rfl) : PGs X (e :: es) (gCons t u) := by
  intro pins s σ H vs us Q I r h
  obtain ⟨v, vr, e1, h⟩ := h
  subst e1
  cases r with
  | cons r rr =>
    rw [hs]
    refine assignInOrder_cons (thn (h1 pins s σ H _ _ _ I r h) fun _ s1 ⟨σ1, H1, I1, q1⟩ => ?_)
    exact h2 pins s1 σ1 H1 _ _ Q I1 rr q1
def gTup (K : PySem.W.Frag) (n : Nat) (t : TGs) : TG := fun v σ H Q => ∃ a xs, v = .ref a ∧ SqT K H a xs ∧ xs.length = n ∧ t xs σ H Q
theorem pg_tup {es : List Expr} {k : Nat} {t : TGs} {n : Nat} (hc : X.calm = true) (h : PGs X es t)
    (hn : (assignEach es X.env).length = n := by rfl) (hst : (assignEach es X.env).findIdx? (·.1) = none := by rfl) : PG X (.Tuple es k pos) (gTup X.K n t) := by
  intro pins s σ H v u Q I r hw
  obtain ⟨a, xs, e1, hq, hl, hw⟩ := hw
  subst e1
  cases r
  obtain ⟨its, rv, ht, hz⟩ := I.tuple hq
  refine assign_Tuple_tuple (I.ok.hd hc) ht (by simp [hn, ← hl, rv.length]) hst fun h' hx => ?_
  have I1 : Inv X pins σ H { s with heap := h' } := I.kept (t' := s.toks) fun b o e => hx b o (Nat.ne_of_lt (Heap.lt_size e)) e
  exact h pins _ σ H xs _ Q I1 (by simpa using rv) hw
def gSub (to ti : TE) (t : TSet) : TG := fun v σ H Q => to σ H fun o H1 => ti σ H1 fun i H2 => t o i v H2 fun H3 => Q σ H3
def tAsg (te : TE) (g : TG) : TS := fun D σ H => te σ H fun x H1 => g x σ H1 D.nx
theorem ps_asg {tg e : Expr} {te : TE} {g : TG} (he : PE X e te) (hg : PG X tg g) (hs : swapsWithSole [tg] e pos.line X.env = pure false := by rfl) (hw : swappedStores [tg] e X.env = pure none := by rfl)
    (h1 : (assignEach [tg] X.env).map (·.2) = [assign tg X.env] := by rfl) : PS X (.Assign [tg] e pos) (tAsg te g) := by
  intro pins s σ H D I h
  refine wpAny_Assign_stores (thn (he pins s σ H _ I h) fun v s1 ⟨x, H1, I1, r1, q1⟩ => ?_) hs hw
  rw [h1]
  exact thn (hg pins s1 σ H1 x v _ I1 r1 q1) fun _ s2 q => q
theorem ps_set {i : Nat} {x : Str} {e : Expr} {te : TE} {pos' : Pos} (hN : X.N.Nodup) (hi : X.N[i]? = some x) (hx : Loc X.env.scope x) (he : PE X e te) (hs : swapsWith e (some (.Name x pos')) pos.line X.env = pure false := by rfl) (hf : X.fn x = true ∨ X.env.scope.names.lookup x = some .local := by first | exact .inl rfl | exact .inr rfl | assumption) :
    PS X (.Assign [.Name x pos'] e pos) (tAsg te (gName i)) := by
  intro pins s σ H D I h
  refine wpAny_Assign_Name (thn (he pins s σ H _ I h) fun v s1 ⟨y, H1, I1, r1, q1⟩ => ?_) hs
  exact store_ok I1 hN hi hx r1 (fun s2 I2 => ⟨_, H1, I2, q1⟩) hf
def tAug (i : Nat) (te : TE) (ti : TIp) : TS := fun D σ H => ∃ x, σ[i]? = some (some x) ∧ te σ H fun y H1 => ti x y H1 fun z H2 => D.nx (σ.set i (some z)) H2
def ipI (f : Int → Int → Int) : TIp := fun x y H Q => ∃ i j, x = .int i ∧ y = .int j ∧ Q (.int (f i j)) H
end
section
variable {X : Cx} {pos : Pos}
def tWhile (c : TT) (tb : TS) : TS := fun D σ H => ∃ W : Nat → St → Hp → Prop, (∃ m, W m σ H) ∧ ∀ m σ H, W m σ H →
  c σ H fun b H1 => if b = true then ∃ N : St → Hp → Prop, (∀ σ' H', N σ' H' → ∃ m', m' < m ∧ W m' σ' H') ∧ tb { D with nx := N, ct := N, bk := D.nx } σ H1 else D.nx σ H1
theorem ps_while {c : Expr} {body : List Stmt} {tc : TT} {tb : TS} (hp : PassesOwn (model X.prog X.w) X.A X.env X.xe) (hc : PT X c tc) (hb : PSs X body tb) : PS X (.While c body [] pos) (tWhile tc tb) := by
  intro pins s σ H D I h
  obtain ⟨W, ⟨m0, w0⟩, turn⟩ := h
  refine wpAny_While (codeAny_whileLoop (fun n s' => ∃ σ' H', Inv X pins σ' H' s' ∧ W n σ' H') ?_ m0 ⟨σ, H, I, w0⟩)
  rintro n s1 ⟨σ1, H1, I1, w1⟩
  refine wpAny_passesOwn hp (thn (hc pins s1 σ1 H1 _ I1 (turn n σ1 H1 w1)) fun b s2 ⟨H2, I2, q2⟩ => ?_)
  cases b with
  | true =>
    obtain ⟨N, hN, q2⟩ := q2
    rw [if_pos rfl]
    refine wpAny_passesOwn hp (thn (hb pins s2 σ1 H2 _ I2 q2) fun f s3 q3 => ?_)
    cases f with
    | next =>
      obtain ⟨σ3, H3, I3, n3⟩ := q3
      obtain ⟨m', hm, w3⟩ := hN σ3 H3 n3
      exact ⟨m', hm, σ3, H3, I3, w3⟩
    | cont =>
      obtain ⟨σ3, H3, I3, n3⟩ := q3
      obtain ⟨m', hm, w3⟩ := hN σ3 H3 n3
      exact ⟨m', hm, σ3, H3, I3, w3⟩
    | brk => exact q3
    | ret v => exact q3
  | false =>
    rw [if_neg Bool.false_ne_true]
    exact wpAny_execs_nil ⟨σ1, H2, I2, q2⟩
end
structure It where
  go : Nat → Hp → Prop
  yld : Nat → Hp → V → Hp → Prop
  stop : Nat → Hp → Prop
def FpOk (X : Cx) (pins : List (Addr × Obj)) (H : Hp) (b : Addr) : Prop :=
  H b = none ∧ b ≠ X.env.locals ∧ b ∉ X.fs ∧ (b ∈ X.ex ∨ X.s₀.heap.objs.size ≤ b) ∧ (∀ x c, X.env.cells.lookup x = some c → c ≠ b) ∧ ∀ p ∈ X.pn ++ pins, p.1 ≠ b
theorem Inv.fpOk {X : Cx} {pins : List (Addr × Obj)} {σ : St} {H H' : Hp} {s : Shared} {b : Addr} (I : Inv X pins σ H s) (hb : s.heap.objs.size ≤ b) (hn : H' b = none) : FpOk X pins H' b := by
  refine ⟨hn, Nat.ne_of_gt (Nat.lt_of_lt_of_le I.lt hb), I.nofs hb, .inr (Nat.le_trans I.sz hb), fun x c e z => ?_, fun p hp z => ?_⟩
  · obtain ⟨v, q⟩ := I.cell x c e
    exact absurd (Nat.lt_of_lt_of_le q.lt (by rw [z]; exact hb)) (Nat.lt_irrefl _)
  · exact absurd (Nat.lt_of_lt_of_le (Heap.lt_size (I.pin p hp).1) (by rw [z]; exact hb)) (Nat.lt_irrefl _)
structure Turn (P : Program) (w : World) (K : PySem.W.Frag) (tg : Expr) (J : It) (fp : List Addr) (it : Addr) (tn : Nat → Heap → Prop) : Prop where
  mem : it ∈ fp
  obj : ∀ i h, tn i h → ∀ b ∈ fp, ∃ o, h.get? b = some o ∧ ∀ v, o.data ≠ .cell v
  keep : ∀ i h h', tn i h → (∀ b ∈ fp, ∀ o, h.get? b = some o → h'.get? b = some o) → tn i h'
  item : ∀ (X : Cx), X.prog = P → X.w = w → X.K = K → X.calm = true → ∀ (i : Nat) (pins : List (Addr × Obj)) (s : Shared) (σ : St) (H : Hp) (E : Value → Shared → Prop), Inv X pins σ H s → (∀ b ∈ fp, FpOk X pins H b) → tn i s.heap → J.go i H →
    wpAny (model P w) X.A (pyNext (.ref it)) (fun r s1 => ∃ u, r = some u ∧
      wpAny (model P w) X.A (letOwnedTupleGo tg (.ref it) u) (fun _ s2 => ∃ x H', Inv X pins σ H' s2 ∧ RelV x u ∧ J.yld i H x H' ∧ tn (i + 1) s2.heap ∧ ∀ b ∈ fp, H' b = none) E s1) E s
  done : ∀ (X : Cx), X.prog = P → X.w = w → X.K = K → X.calm = true → ∀ (i : Nat) (pins : List (Addr × Obj)) (s : Shared) (σ : St) (H : Hp) (E : Value → Shared → Prop), Inv X pins σ H s → (∀ b ∈ fp, FpOk X pins H b) → tn i s.heap → J.stop i H →
    wpAny (model P w) X.A (pyNext (.ref it)) (fun r s1 => r = none ∧ Inv X pins σ H s1) E s
  self : ∀ (A : Around) (i : Nat) (s : Shared) (Q : Value → Shared → Prop) (E : Value → Shared → Prop), tn i s.heap → Q (.ref it) s → wpAny (model P w) A (pyIter (.ref it)) Q E s
abbrev TI := St → Hp → (It → Hp → Prop) → Prop
def PIE (X : Cx) (pins : List (Addr × Obj)) (σ : St) (tg : Expr) (R : It → Hp → Prop) (itv : Value) (s2 : Shared) : Prop :=
  ∃ (it : Addr) (fp : List Addr) (tn : Nat → Heap → Prop) (J : It) (H' : Hp), itv = .ref it ∧ Inv X pins σ H' s2 ∧ Turn X.prog X.w X.K tg J fp it tn ∧ tn 0 s2.heap ∧ (∀ b ∈ fp, FpOk X pins H' b) ∧ R J H'
def PI (X : Cx) (tg iter : Expr) (wi : TI) : Prop :=
  ∀ (pins : List (Addr × Obj)) (s : Shared) (σ : St) (H : Hp) (R : It → Hp → Prop), Inv X pins σ H s → wi σ H R →
    wpAny (model X.prog X.w) X.A (eval iter X.env) (fun v s1 => wpAny (model X.prog X.w) X.A (pyIter v) (PIE X pins σ tg R) X.xe s1) X.xe s
theorem go_of {M : Model} {A : Around} {E : Value → Shared → Prop} {s : Shared} {tg : Expr} {it : Addr} {u : Value} {o : Obj} {n : String} {vs : Array Value} {Q : Unit → Shared → Prop} (ho : s.heap.get? it = some o) (hc : o.cls = .type n) (hd : o.data = .fields vs)
    (hn : ["enumerate", "zip", "dict_itemiterator", "dict_reverseitemiterator", "odict_iterator", "itertools.zip_longest", "itertools.pairwise"].contains n = false) (hQ : Q () s) : wpAny M A (letOwnedTupleGo tg (.ref it) u) Q E s := by
  unfold letOwnedTupleGo
  cases tg <;> first
    | exact wpAny_pure hQ
    | (cases u <;> first
        | exact wpAny_pure hQ
        | (refine wpAny_bind (wpAny_load ho ?_)
           rw [hc, hd]
           show wpAny M A (if (["enumerate", "zip", "dict_itemiterator", "dict_reverseitemiterator", "odict_iterator", "itertools.zip_longest", "itertools.pairwise"].contains n && vs[0]? == some (rawInt _)) = true then _ else _) Q E s
           rw [if_neg (by intro h; rw [hn, Bool.false_and] at h; cases h)]
           exact wpAny_pure hQ))
def Itl (K : PySem.W.Frag) (a : Addr) : It :=
  ⟨fun i H => ∃ xs x, SqL K H a xs ∧ xs[i]? = some x, fun i H x H' => H' = H ∧ ∀ xs, SqL K H a xs → xs[i]? = some x, fun i H => ∃ xs, SqL K H a xs ∧ xs.length ≤ i⟩
def Itt (K : PySem.W.Frag) (a : Addr) : It :=
  ⟨fun i H => ∃ xs x, SqT K H a xs ∧ xs[i]? = some x, fun i H x H' => H' = H ∧ ∀ xs, SqT K H a xs → xs[i]? = some x, fun i H => ∃ xs, SqT K H a xs ∧ xs.length ≤ i⟩
def Itr (lo : Int) (n : Nat) : It := ⟨fun i _ => i < n, fun i H x H' => H' = H ∧ x = .int (lo + i), fun i _ => n ≤ i⟩
theorem turn_list {P : Program} {w : World} {K : PySem.W.Frag} {tg : Expr} (a it : Addr) : Turn P w K tg (Itl K a) [it] it (fun i h => h.IsListIter it a i) where
  mem := by simp
  obj := fun i h st b hb => by
    have e : b = it := by simpa using hb
    subst e
    obtain ⟨o, e, c, d⟩ := st
    exact ⟨o, e, fun v z => by rw [d] at z; cases z⟩
  keep := fun i h h' st k => st.at fun o e => k it (by simp) o e
  item := by
    intro X hP hw hK hc i pins s σ H E I hf st hg
    subst hP hw hK
    obtain ⟨xs, x, hq, hx⟩ := hg
    obtain ⟨its, rv, p, hz⟩ := I.list hq
    obtain ⟨u, hu, ru⟩ := rv.get hx
    obtain ⟨f0, f1, f2, f3, f4, f5⟩ := hf it (by simp)
    refine wpAny_pyNext_list_item st p.isList (x := u) (by simpa using hu) fun h' st' sb => ?_
    have I1 : Inv X pins σ H { s with heap := h' } := I.turned (t' := s.toks) (fun b o hb e => (sb.2 b hb).trans e) f0 f1 f3 f4 f5
    obtain ⟨o, e, c, d⟩ := id st'
    exact ⟨u, rfl, go_of (s := { s with heap := h' }) e c d (by decide) ⟨x, H, I1, ru, ⟨rfl, fun ys hy => by rw [I.list_inj hy hq]; exact hx⟩, st', fun b hb => (hf b hb).1⟩⟩
  done := by
    intro X hP hw hK hc i pins s σ H E I hf st hg
    subst hP hw hK
    obtain ⟨xs, hq, hx⟩ := hg
    obtain ⟨its, rv, p, hz⟩ := I.list hq
    obtain ⟨f0, f1, f2, f3, f4, f5⟩ := hf it (by simp)
    have hl := rv.length
    exact wpAny_pyNext_list_end (I.ok.hd hc) st p.isList (by simp; omega) fun h' eb => ⟨rfl, I.turned (t' := s.toks) (fun b o hb e => eb b o hb e) f0 f1 f3 f4 f5⟩
  self := fun _ _ _ _ _ st h => wpAny_pyIter_listiter st h
theorem turn_tuple {P : Program} {w : World} {K : PySem.W.Frag} {tg : Expr} (a it : Addr) : Turn P w K tg (Itt K a) [it] it (fun i h => h.IsTupleIter it a i) where
  mem := by simp
  obj := fun i h st b hb => by
    have e : b = it := by simpa using hb
    subst e
    obtain ⟨o, e, c, d⟩ := st
    exact ⟨o, e, fun v z => by rw [d] at z; cases z⟩
  keep := fun i h h' st k => st.at fun o e => k it (by simp) o e
  item := by
    intro X hP hw hK hc i pins s σ H E I hf st hg
    subst hP hw hK
    obtain ⟨xs, x, hq, hx⟩ := hg
    obtain ⟨its, rv, p, hz⟩ := I.tuple hq
    obtain ⟨u, hu, ru⟩ := rv.get hx
    obtain ⟨f0, f1, f2, f3, f4, f5⟩ := hf it (by simp)
    refine wpAny_pyNext_tuple_item st (show s.heap.IsTuple a its.toArray from p) (x := u) (by simpa using hu) fun h' st' sb => ?_
    have I1 : Inv X pins σ H { s with heap := h' } := I.turned (t' := s.toks) (fun b o hb e => (sb.2 b hb).trans e) f0 f1 f3 f4 f5
    obtain ⟨o, e, c, d⟩ := id st'
    exact ⟨u, rfl, go_of (s := { s with heap := h' }) e c d (by decide) ⟨x, H, I1, ru, ⟨rfl, fun ys hy => by rw [I.tuple_inj hy hq]; exact hx⟩, st', fun b hb => (hf b hb).1⟩⟩
  done := by
    intro X hP hw hK hc i pins s σ H E I hf st hg
    subst hP hw hK
    obtain ⟨xs, hq, hx⟩ := hg
    obtain ⟨its, rv, p, hz⟩ := I.tuple hq
    obtain ⟨f0, f1, f2, f3, f4, f5⟩ := hf it (by simp)
    have hl := rv.length
    exact wpAny_pyNext_tuple_end (I.ok.hd hc) st (show s.heap.IsTuple a its.toArray from p) (by simp; omega) fun h' eb => ⟨rfl, I.turned (t' := s.toks) (fun b o hb e => eb b o hb e) f0 f1 f3 f4 f5⟩
  self := fun _ _ _ _ _ st h => wpAny_pyIter_tupleiter st h
theorem turn_range {P : Program} {w : World} {K : PySem.W.Frag} {tg : Expr} (it : Addr) (lo : Int) (n : Nat) : Turn P w K tg (Itr lo n) [it] it (fun i h => IsRangeIter h it (lo + (i : Nat) * 1) ((n : Int) - (i : Nat)) 1) where
  mem := by simp
  obj := fun i h st b hb => by
    have e : b = it := by simpa using hb
    subst e
    exact ⟨_, st, fun v z => by
      have z' : Data.fields _ = Data.cell v := z
      cases z'⟩
  keep := fun i h h' st k => k it (by simp) _ st
  item := by
    intro X hP hw hK hc i pins s σ H E I hf st hg
    subst hP hw hK
    obtain ⟨f0, f1, f2, f3, f4, f5⟩ := hf it (by simp)
    have W := Walks.range (prog := X.prog) (w := X.w) (I.ok.hd hc) it lo 1 n
    refine W.item i s _ _ hg st fun v h' tk hv st' kk => ?_
    obtain ⟨t, rfl⟩ := hv
    have I1 : Inv X pins σ H { s with heap := h', toks := tk } := I.turned (fun b o hb e => kk b o (by simpa using hb) e) f0 f1 f3 f4 f5
    refine ⟨_, rfl, go_of (s := { s with heap := h', toks := tk }) (n := "range_iterator") st' rfl rfl (by decide) ⟨.int (lo + i), H, I1, ⟨t, ?_⟩, ⟨rfl, rfl⟩, st', fun b hb => (hf b hb).1⟩⟩
    rw [Int.mul_one]
  done := by
    intro X hP hw hK hc i pins s σ H E I hf st hg
    subst hP hw hK
    obtain ⟨f0, f1, f2, f3, f4, f5⟩ := hf it (by simp)
    exact wpAny_pyNext_range_end (I.ok.hd hc) st (by have : n ≤ i := hg; omega) fun h' eb => ⟨rfl, I.turned (t' := s.toks) (fun b o hb e => eb b o hb e) f0 f1 f3 f4 f5⟩
  self := fun _ _ _ _ _ st h => wpAny_pyIter_rangeiter st h
end L2
namespace L2
open PySem PySem.Spec PyProof.Rows
section
variable {X : Cx} {tg : Expr}
theorem range_it {pins : List (Addr × Obj)} {σ : St} {H : Hp} {s : Shared} {R : It → Hp → Prop} {E : Value → Shared → Prop} {lo hi : Int} {t u v : Tok} {tk : Nat} (I : Inv X pins σ H s) (h1 : -(2 ^ 62) ≤ lo) (h2 : lo < 2 ^ 62) (h3 : -(2 ^ 62) ≤ hi) (h4 : hi < 2 ^ 62)
    (q : R (Itr lo (hi - lo).toNat) H) : wpAny (model X.prog X.w) X.A (pyIter (.ref s.heap.objs.size)) (PIE X pins σ tg R) E { s with heap := s.heap.push { cls := .type "range", data := .fields #[.int lo t, .int hi u, .int 1 v] }, toks := tk } := by
  refine wpAny_pyIter_range (IsRange.new ..) (small_one h1 h2 h3 h4) ?_
  have I1 : Inv X pins σ H { s with heap := s.heap.push { cls := .type "range", data := .fields #[.int lo t, .int hi u, .int 1 v] }, toks := tk } := I.kept fun b o e => Heap.get?_push_of_some _ e
  refine ⟨(s.heap.push { cls := .type "range", data := .fields #[.int lo t, .int hi u, .int 1 v] }).objs.size, [(s.heap.push { cls := .type "range", data := .fields #[.int lo t, .int hi u, .int 1 v] }).objs.size], _, _, H, rfl,
    I1.kept (t' := tk) fun b o e => Heap.get?_push_of_some _ e, turn_range _ lo (hi - lo).toNat, ?_, fun b hb => ?_, q⟩
  · have e1 : lo + ((0 : Nat) : Int) * 1 = lo := by simp
    have e2 : (((hi - lo).toNat : Nat) : Int) - ((0 : Nat) : Int) = Builtin.Range.rangeSize lo hi 1 := by rw [rangeSize_one]; split <;> omega
    show IsRangeIter _ _ (lo + ((0 : Nat) : Int) * 1) ((((hi - lo).toNat : Nat) : Int) - ((0 : Nat) : Int)) 1
    rw [e1, e2]
    exact Heap.get?_push_size _ rfl
  · have e : b = (s.heap.push { cls := .type "range", data := .fields #[.int lo t, .int hi u, .int 1 v] }).objs.size := by simpa using hb
    subst e
    exact I1.fpOk (Nat.le_refl _) (I1.hok.fresh (Nat.le_refl _))
def iRng1 (ta : TA) : TI := fun σ H R => ta σ H fun vs H1 => ∃ j : Int, vs = [.int j] ∧ -(2 ^ 62) ≤ j ∧ j < 2 ^ 62 ∧ R (Itr 0 j.toNat) H1
def iRng2 (ta : TA) : TI := fun σ H R => ta σ H fun vs H1 => ∃ i j : Int, vs = [.int i, .int j] ∧ (-(2 ^ 62) ≤ i ∧ i < 2 ^ 62 ∧ -(2 ^ 62) ≤ j ∧ j < 2 ^ 62) ∧ R (Itr i (j - i).toNat) H1
theorem pi_range1 {a : Expr} {ta : TA} {p pos : Pos} (hg : Gl X "range") (hm : X.mg "range" = none) (ha : PA X [a] ta) (hs : starEach [a] X.env = [(false, eval a X.env)] := by rfl) : PI X tg (.Call (.Name "range" p) [a] [] pos) (iRng1 ta) := by
  intro pins s σ H R I h
  refine Call_ (ld_blt I hg hm boot_range (PyProof.Rows.callWith_type1 (thn (ha pos pins s σ H _ I h) fun us s1 ⟨vs, H1, I1, r1, q1⟩ => ?_) hs rfl))
  obtain ⟨j, e, q1, q2, q⟩ := q1
  subst e
  cases r1 with
  | cons r rr =>
    cases rr
    obtain ⟨t, rfl⟩ := r
    exact call_range_1 (range_it I1 (by omega) (by omega) q1 q2 (by simpa using q))
theorem pi_range2 {a b : Expr} {ta : TA} {p pos : Pos} (hg : Gl X "range") (hm : X.mg "range" = none) (ha : PA X [a, b] ta) (hs : starEach [a, b] X.env = [(false, eval a X.env), (false, eval b X.env)] := by rfl) (hs2 : starEach [b] X.env = [(false, eval b X.env)] := by rfl) :
    PI X tg (.Call (.Name "range" p) [a, b] [] pos) (iRng2 ta) := by
  intro pins s σ H R I h
  refine Call_ (ld_blt I hg hm boot_range (PyProof.Rows.callWith_type1 (thn (ha pos pins s σ H _ I h) fun us s1 ⟨vs, H1, I1, r1, q1⟩ => ?_) (by rw [hs, hs2]) (by rw [hs2]; rfl)))
  obtain ⟨i, j, e, ⟨q1, q2, q3, q4⟩, q⟩ := q1
  subst e
  cases r1 with
  | cons r rr =>
    cases rr with
    | cons r' rr =>
      cases rr
      obtain ⟨t, rfl⟩ := r
      obtain ⟨t', rfl⟩ := r'
      exact call_range_2 (range_it I1 q1 q2 q3 q4 q)
def tFor (wi : TI) (g : TG) (tb : TS) : TS := fun D σ H => wi σ H fun J H1 => ∃ W : Nat → Nat → St → Hp → Prop, (∃ m, W 0 m σ H1) ∧ ∀ i m σ H, W i m σ H →
  (J.stop i H ∧ D.nx σ H) ∨ (J.go i H ∧ ∃ N : St → Hp → Prop, (∀ σ' H', N σ' H' → ∃ m', m' < m ∧ W (i + 1) m' σ' H') ∧ ∀ x H', J.yld i H x H' → g x σ H' fun σ2 H2 => tb { D with nx := N, ct := N, bk := D.nx } σ2 H2)
def pinsAt (fp : List Addr) (h : Heap) : List (Addr × Obj) := fp.filterMap fun b => (h.get? b).map fun o => (b, o)
theorem mem_pinsAt {fp : List Addr} {h : Heap} {b : Addr} {o : Obj} (hb : b ∈ fp) (e : h.get? b = some o) : (b, o) ∈ pinsAt fp h := List.mem_filterMap.mpr ⟨b, hb, by rw [e]; rfl⟩
theorem of_pinsAt {fp : List Addr} {h : Heap} {p : Addr × Obj} (hp : p ∈ pinsAt fp h) : p.1 ∈ fp ∧ h.get? p.1 = some p.2 := by
  obtain ⟨b, hb, e⟩ := List.mem_filterMap.mp hp
  cases q : h.get? b with
  | none => rw [q] at e; cases e
  | some o =>
    rw [q] at e
    have e' : (b, o) = p := Option.some.inj e
    subst e'
    exact ⟨hb, q⟩
theorem Inv.pinned {pins : List (Addr × Obj)} {σ : St} {H : Hp} {s : Shared} {fp : List Addr} (I : Inv X pins σ H s) (hf : ∀ b ∈ fp, FpOk X pins H b) (ho : ∀ b ∈ fp, ∃ o, s.heap.get? b = some o ∧ ∀ v, o.data ≠ .cell v) : Inv X (pins ++ pinsAt fp s.heap) σ H s :=
  I.pins_of fun p hp => (List.mem_append.mp hp).elim (fun z => I.pin p (List.mem_append_right _ z)) fun z => by
    obtain ⟨hb, e⟩ := of_pinsAt z
    obtain ⟨f0, f1, f2, _⟩ := hf p.1 hb
    obtain ⟨o, e', d⟩ := ho p.1 hb
    rw [e] at e'; cases e'
    exact ⟨e, f0, f1, f2, d⟩
theorem Inv.unpinned {pins pl : List (Addr × Obj)} {σ : St} {H : Hp} {s : Shared} (I : Inv X (pins ++ pl) σ H s) : Inv X pins σ H s := I.pins_of fun p hp => I.pin p (List.mem_append_right _ (List.mem_append_left _ hp))
theorem ps_for {iter : Expr} {body : List Stmt} {wi : TI} {g : TG} {tb : TS} {pos : Pos} (hp : PassesOwn (model X.prog X.w) X.A X.env X.xe) (hc : X.calm = true) (hi : PI X tg iter wi) (hg : PG X tg g) (hb : PSs X body tb)
    (hs : ∀ x, foldedSetIterable iter X.env x = pure x := by intro _; rfl) : PS X (.For tg iter body [] pos) (tFor wi g tb) := by
  intro pins s σ H D I h
  refine wpAny_For (thn (hi pins s σ H _ I h) fun v s1 h1 => thn h1 fun itv s2 h2 => ?_) hs
  obtain ⟨it, fp, tn, J, H2, e, I2, T, st2, f2, W, ⟨m0, w0⟩, turn⟩ := h2
  subst e
  have stat : ∀ {H' : Hp}, (∀ b ∈ fp, H' b = none) → ∀ b ∈ fp, FpOk X pins H' b := fun hn b hb => ⟨hn b hb, (f2 b hb).2⟩
  refine codeAny_forLoop_any (fun n s' => ∃ i σ' H', Inv X pins σ' H' s' ∧ tn i s'.heap ∧ (∀ b ∈ fp, H' b = none) ∧ W i n σ' H') ?_ m0 ⟨0, σ, H2, I2, st2, fun b hb => (f2 b hb).1, w0⟩
  rintro n s3 ⟨i, σ3, H3, I3, st3, fr3, w3⟩
  rcases turn i n σ3 H3 w3 with ⟨stop, qn⟩ | ⟨go, N, hN, step⟩
  · refine wpAny_passesOwn hp (thn (T.done X rfl rfl rfl hc i pins s3 σ3 H3 X.xe I3 (stat fr3) st3 stop) fun r s4 ⟨hr, I4⟩ => ?_)
    subst hr
    exact wpAny_execs_nil ⟨σ3, H3, I4, qn⟩
  · refine wpAny_passesOwn hp (thn (T.item X rfl rfl rfl hc i pins s3 σ3 H3 X.xe I3 (stat fr3) st3 go) fun r s4 ⟨u, hr, h4⟩ => ?_)
    subst hr
    refine wpAny_passesOwn hp (thn h4 fun _ s5 ⟨x, H5, I5, r5, y5, st5, fr5⟩ => ?_)
    have I5' := I5.pinned (stat fr5) (T.obj _ _ st5)
    refine wpAny_passesOwn hp (thn (hg _ s5 σ3 H5 x u _ I5' r5 (step x H5 y5)) fun _ s6 ⟨σ6, H6, I6, q6⟩ => ?_)
    refine wpAny_passesOwn hp (thn (hb _ s6 σ6 H6 _ I6 q6) fun f s7 q7 => ?_)
    have again : ∀ {σ7 : St} {H7 : Hp}, Inv X (pins ++ pinsAt fp s5.heap) σ7 H7 s7 → N σ7 H7 → ∃ m, m < n ∧ ∃ i σ' H', Inv X pins σ' H' s7 ∧ tn i s7.heap ∧ (∀ b ∈ fp, H' b = none) ∧ W i m σ' H' := fun {σ7 H7} I7 n7 => by
      obtain ⟨m', hm, w7⟩ := hN σ7 H7 n7
      refine ⟨m', hm, i + 1, σ7, H7, I7.unpinned, T.keep _ _ _ st5 fun b hb o e => (I7.pin (b, o) (List.mem_append_right _ (List.mem_append_right _ (mem_pinsAt hb e)))).1, fun b hb => ?_, w7⟩
      obtain ⟨o, e, d⟩ := T.obj _ _ st5 b hb
      exact (I7.pin (b, o) (List.mem_append_right _ (List.mem_append_right _ (mem_pinsAt hb e)))).2.1
    cases f with
    | next => obtain ⟨σ7, H7, I7, n7⟩ := q7; exact again I7 n7
    | cont => obtain ⟨σ7, H7, I7, n7⟩ := q7; exact again I7 n7
    | brk => obtain ⟨σ7, H7, I7, q7⟩ := q7; exact ⟨σ7, H7, I7.unpinned, q7⟩
    | ret v => obtain ⟨x7, σ7, H7, I7, r7, q7⟩ := q7; exact ⟨x7, σ7, H7, I7.unpinned, r7, q7⟩
end
theorem for_list {K : PySem.W.Frag} {a : Addr} {xs : List V} {g : TG} {tb : TS} {D : Ends} {σ : St} {H : Hp} (Pv : Nat → St → Hp → Prop) (h0 : Pv 0 σ H) (hl : ∀ i σ H, i ≤ xs.length → Pv i σ H → SqL K H a xs)
    (hs : ∀ i x σ H, xs[i]? = some x → Pv i σ H → g x σ H fun σ2 H2 => tb { D with nx := Pv (i + 1), ct := Pv (i + 1), bk := D.nx } σ2 H2) (hd : ∀ σ H, Pv xs.length σ H → D.nx σ H) :
    ∃ W : Nat → Nat → St → Hp → Prop, (∃ m, W 0 m σ H) ∧ ∀ i m σ H, W i m σ H →
      ((Itl K a).stop i H ∧ D.nx σ H) ∨ ((Itl K a).go i H ∧ ∃ N : St → Hp → Prop, (∀ σ' H', N σ' H' → ∃ m', m' < m ∧ W (i + 1) m' σ' H') ∧ ∀ x H', (Itl K a).yld i H x H' → g x σ H' fun σ2 H2 => tb { D with nx := N, ct := N, bk := D.nx } σ2 H2) := by
  refine ⟨fun i m σ H => m = xs.length - i ∧ i ≤ xs.length ∧ Pv i σ H, ⟨xs.length, by simp, Nat.zero_le _, h0⟩, ?_⟩
  rintro i m σ H ⟨rfl, hi, p⟩
  have q := hl i σ H hi p
  by_cases hlt : i < xs.length
  · refine .inr ⟨⟨xs, xs[i], q, by simp [hlt]⟩, Pv (i + 1), fun σ' H' p' => ⟨xs.length - (i + 1), by omega, rfl, hlt, p'⟩, fun x H' y => ?_⟩
    obtain ⟨e, y⟩ := y
    subst e
    exact hs i x σ _ (y xs q) p
  · have e : i = xs.length := by omega
    subst e
    exact .inl ⟨⟨xs, q, Nat.le_refl _⟩, hd σ H p⟩
theorem for_tup {K : PySem.W.Frag} {a : Addr} {xs : List V} {g : TG} {tb : TS} {D : Ends} {σ : St} {H : Hp} (Pv : Nat → St → Hp → Prop) (h0 : Pv 0 σ H) (hl : ∀ i σ H, i ≤ xs.length → Pv i σ H → SqT K H a xs)
    (hs : ∀ i x σ H, xs[i]? = some x → Pv i σ H → g x σ H fun σ2 H2 => tb { D with nx := Pv (i + 1), ct := Pv (i + 1), bk := D.nx } σ2 H2) (hd : ∀ σ H, Pv xs.length σ H → D.nx σ H) :
    ∃ W : Nat → Nat → St → Hp → Prop, (∃ m, W 0 m σ H) ∧ ∀ i m σ H, W i m σ H →
      ((Itt K a).stop i H ∧ D.nx σ H) ∨ ((Itt K a).go i H ∧ ∃ N : St → Hp → Prop, (∀ σ' H', N σ' H' → ∃ m', m' < m ∧ W (i + 1) m' σ' H') ∧ ∀ x H', (Itt K a).yld i H x H' → g x σ H' fun σ2 H2 => tb { D with nx := N, ct := N, bk := D.nx } σ2 H2) := by
  refine ⟨fun i m σ H => m = xs.length - i ∧ i ≤ xs.length ∧ Pv i σ H, ⟨xs.length, by simp, Nat.zero_le _, h0⟩, ?_⟩
  rintro i m σ H ⟨rfl, hi, p⟩
  have q := hl i σ H hi p
  by_cases hlt : i < xs.length
  · refine .inr ⟨⟨xs, xs[i], q, by simp [hlt]⟩, Pv (i + 1), fun σ' H' p' => ⟨xs.length - (i + 1), by omega, rfl, hlt, p'⟩, fun x H' y => ?_⟩
    obtain ⟨e, y⟩ := y
    subst e
    exact hs i x σ _ (y xs q) p
  · have e : i = xs.length := by omega
    subst e
    exact .inl ⟨⟨xs, q, Nat.le_refl _⟩, hd σ H p⟩
theorem for_range {lo : Int} {n : Nat} {g : TG} {tb : TS} {D : Ends} {σ : St} {H : Hp} (Pv : Nat → St → Hp → Prop) (h0 : Pv 0 σ H)
    (hs : ∀ i σ H, i < n → Pv i σ H → g (.int (lo + i)) σ H fun σ2 H2 => tb { D with nx := Pv (i + 1), ct := Pv (i + 1), bk := D.nx } σ2 H2) (hd : ∀ σ H, Pv n σ H → D.nx σ H) :
    ∃ W : Nat → Nat → St → Hp → Prop, (∃ m, W 0 m σ H) ∧ ∀ i m σ H, W i m σ H →
      ((Itr lo n).stop i H ∧ D.nx σ H) ∨ ((Itr lo n).go i H ∧ ∃ N : St → Hp → Prop, (∀ σ' H', N σ' H' → ∃ m', m' < m ∧ W (i + 1) m' σ' H') ∧ ∀ x H', (Itr lo n).yld i H x H' → g x σ H' fun σ2 H2 => tb { D with nx := N, ct := N, bk := D.nx } σ2 H2) := by
  refine ⟨fun i m σ H => m = n - i ∧ i ≤ n ∧ Pv i σ H, ⟨n, by simp, Nat.zero_le _, h0⟩, ?_⟩
  rintro i m σ H ⟨rfl, hi, p⟩
  by_cases hlt : i < n
  · refine .inr ⟨hlt, Pv (i + 1), fun σ' H' p' => ⟨n - (i + 1), by omega, rfl, hlt, p'⟩, fun x H' y => ?_⟩
    obtain ⟨e, y⟩ := y
    subst e y
    exact hs i σ _ hlt p
  · have e : i = n := by omega
    subst e
    exact .inl ⟨Nat.le_refl _, hd σ H p⟩
end L2
namespace L2
open PySem PySem.Spec PyProof.Rows
abbrev R2 := V → V → Hp → VK → Prop
def OpR (X : Cx) (f : Value → Value → Sem Value) (r : R2) : Prop :=
  ∀ (pins : List (Addr × Obj)) (s : Shared) (σ : St) (H : Hp) (x y : V) (v u : Value) (Q : VK), Inv X pins σ H s → RelV x v → RelV y u → r x y H Q →
    wpAny (model X.prog X.w) X.A (f v u) (EP X pins σ Q) X.xe s
def UnR (X : Cx) (f : Value → Sem Value) (r : V → Hp → VK → Prop) : Prop :=
  ∀ (pins : List (Addr × Obj)) (s : Shared) (σ : St) (H : Hp) (x : V) (v : Value) (Q : VK), Inv X pins σ H s → RelV x v → r x H Q →
    wpAny (model X.prog X.w) X.A (f v) (EP X pins σ Q) X.xe s
def CallR (X : Cx) (f : Value) (r : List V → Hp → VK → Prop) : Prop :=
  ∀ (pins : List (Addr × Obj)) (s : Shared) (σ : St) (H : Hp) (xs : List V) (us : List Value) (Q : VK), Inv X pins σ H s → Vals xs us → r xs H Q →
    wpAny (model X.prog X.w) X.A (call f us) (EP X pins σ Q) X.xe s
def tOp (r : R2) (ta tb : TE) : TE := fun σ H Q => ta σ H fun x H1 => tb σ H1 fun y H2 => r x y H2 Q
def tUn (r : V → Hp → VK → Prop) (ta : TE) : TE := fun σ H Q => ta σ H fun x H1 => r x H1 Q
def rI (C : Int → Int → Prop) (g : Int → Int → V) : R2 := fun x y H Q => ∃ i j, x = .int i ∧ y = .int j ∧ C i j ∧ Q (g i j) H
def rI0 (g : Int → Int → V) : R2 := fun x y H Q => ∃ i j, x = .int i ∧ y = .int j ∧ Q (g i j) H
def rU (g : Int → V) : V → Hp → VK → Prop := fun x H Q => ∃ i, x = .int i ∧ Q (g i) H
section
variable {X : Cx} {a b c : Expr} {ta tb tc : TE} {pos : Pos}
theorem binT (ha : PE X a ta) (hb : PE X b tb) {pins : List (Addr × Obj)} {s : Shared} {σ : St} {H : Hp} {R : V → V → Hp → Prop} (I : Inv X pins σ H s)
    (h : ta σ H fun x H1 => tb σ H1 fun y H2 => R x y H2) {Q : Value → Shared → Prop} {f : Value → Value → Sem Value}
    (hf : ∀ v u s2 x y H2, Inv X pins σ H2 s2 → RelV x v → RelV y u → R x y H2 → wpAny (model X.prog X.w) X.A (f v u) Q X.xe s2) :
    wpAny (model X.prog X.w) X.A (eval a X.env) (fun v s₁ => wpAny (model X.prog X.w) X.A (eval b X.env) (fun u s₂ => wpAny (model X.prog X.w) X.A (f v u) Q X.xe s₂) X.xe s₁) X.xe s := by
  refine thn (ha pins s σ H _ I h) fun v s1 ⟨x, H1, I1, r1, q1⟩ => ?_
  refine thn (hb pins s1 σ H1 _ I1 q1) fun u s2 ⟨y, H2, I2, r2, q2⟩ => ?_
  exact hf v u s2 x y H2 I2 r1 r2 q2
theorem pe_op {op : Operator} {r : R2} (ho : OpR X (binaryOp op) r) (ha : PE X a ta) (hb : PE X b tb) : PE X (.BinOp a op b pos) (tOp r ta tb) := by
  intro pins s σ H Q I h
  exact wpAny_BinOp (binT ha hb I h fun v u s2 x y H2 I2 rx ry q => ho pins s2 σ H2 x y v u Q I2 rx ry q)
theorem pe_un {op : UnaryOp} {r : V → Hp → VK → Prop} (ho : UnR X (unaryOp op) r) (ha : PE X a ta) : PE X (.UnaryOp op a pos) (tUn r ta) := by
  intro pins s σ H Q I h
  exact UnaryOp_ (thn (ha pins s σ H _ I h) fun v s1 ⟨x, H1, I1, r1, q1⟩ => ho pins s1 σ H1 x v Q I1 r1 q1)
theorem opI {f : Value → Value → Sem Value} {C : Int → Int → Prop} {g : Int → Int → Int}
    (rule : ∀ (i j : Int) (t u : Tok) (s : Shared) (Q : Value → Shared → Prop) (E : Value → Shared → Prop), C i j → Q (.int (g i j) s.toks) { s with toks := s.toks + 1 } → wpAny (model X.prog X.w) X.A (f (.int i t) (.int j u)) Q E s) :
    OpR X f (rI C fun i j => .int (g i j)) := by
  intro pins s σ H x y v u Q I rx ry h
  obtain ⟨i, j, rfl, rfl, hc, q⟩ := h
  obtain ⟨t, rfl⟩ := rx
  obtain ⟨t', rfl⟩ := ry
  exact rule i j t t' s _ _ hc ⟨.int (g i j), H, I.tok _, ⟨_, rfl⟩, q⟩
theorem opI0 {f : Value → Value → Sem Value} {g : Int → Int → Int}
    (rule : ∀ (i j : Int) (t u : Tok) (s : Shared) (Q : Value → Shared → Prop) (E : Value → Shared → Prop), Q (.int (g i j) s.toks) { s with toks := s.toks + 1 } → wpAny (model X.prog X.w) X.A (f (.int i t) (.int j u)) Q E s) :
    OpR X f (rI0 fun i j => .int (g i j)) := by
  intro pins s σ H x y v u Q I rx ry h
  obtain ⟨i, j, rfl, rfl, q⟩ := h
  obtain ⟨t, rfl⟩ := rx
  obtain ⟨t', rfl⟩ := ry
  exact rule i j t t' s _ _ ⟨.int (g i j), H, I.tok _, ⟨_, rfl⟩, q⟩
theorem opB0 {f : Value → Value → Sem Value} {g : Int → Int → Bool}
    (rule : ∀ (i j : Int) (t u : Tok) (s : Shared) (Q : Value → Shared → Prop) (E : Value → Shared → Prop), Q (.bool (g i j)) s → wpAny (model X.prog X.w) X.A (f (.int i t) (.int j u)) Q E s) :
    OpR X f (rI0 fun i j => .bl (g i j)) := by
  intro pins s σ H x y v u Q I rx ry h
  obtain ⟨i, j, rfl, rfl, q⟩ := h
  obtain ⟨t, rfl⟩ := rx
  obtain ⟨t', rfl⟩ := ry
  exact rule i j t t' s _ _ ⟨.bl (g i j), H, I, rfl, q⟩
def CDiv (i j : Int) : Prop := 0 < j ∧ j < 1073741824
def CPow (i j : Int) : Prop := 0 ≤ j ∧ j ≤ 1000000 ∧ i.natAbs < 2 ^ 64
def CMul (i j : Int) : Prop := (-(2 ^ 64) < i ∧ i < 2 ^ 64) ∨ (-(2 ^ 64) < j ∧ j < 2 ^ 64)
theorem CMul.ok {i j : Int} (h : CMul i j) : IntMulOk i j := by
  rcases h with ⟨h1, h2⟩ | ⟨h1, h2⟩
  · exact .of_left (intBits_le_64 h1 h2)
  · exact .of_right (intBits_le_64 h1 h2)
theorem op_add : OpR X (binaryOp .Add) (rI0 fun i j => .int (i + j)) := opI0 fun _ _ _ _ _ _ _ q => add_int q
theorem op_sub : OpR X (binaryOp .Sub) (rI0 fun i j => .int (i - j)) := opI0 fun _ _ _ _ _ _ _ q => sub_int q
theorem op_mul : OpR X (binaryOp .Mult) (rI CMul fun i j => .int (i * j)) := opI fun _ _ _ _ _ _ _ hc q => mul_int q hc.ok
theorem op_fdiv : OpR X (binaryOp .FloorDiv) (rI CDiv fun i j => .int (i / j)) := opI fun i j _ _ _ _ _ hc q => by
  have h1 : (0 : Int) < j := hc.1
  have h2 : j < 1073741824 := hc.2
  exact floordiv_int (by omega) (by rw [Int.fdiv_eq_ediv_of_nonneg i (by omega)]; exact q) (.inl (PyProof.noPylong_small (by omega)))
theorem op_mod : OpR X (binaryOp .Mod) (rI (fun _ j => 0 < j) fun i j => .int (i % j)) := opI fun i j _ _ _ _ _ hc q => by
  have h1 : (0 : Int) < j := hc
  exact mod_int' (by omega) (by rw [Int.fmod_eq_emod_of_nonneg i (by omega)]; exact q)
theorem op_pow : OpR X (binaryOp .Pow) (rI CPow fun i j => .int (i ^ j.toNat)) := opI fun _ _ _ _ _ _ _ hc q => pow_int_small hc.1 hc.2.1 hc.2.2 q
theorem unI {f : Value → Sem Value} {g : Int → Int}
    (rule : ∀ (i : Int) (t : Tok) (s : Shared) (Q : Value → Shared → Prop) (E : Value → Shared → Prop), Q (.int (g i) s.toks) { s with toks := s.toks + 1 } → wpAny (model X.prog X.w) X.A (f (.int i t)) Q E s) :
    UnR X f (rU fun i => .int (g i)) := by
  intro pins s σ H x v Q I rx h
  obtain ⟨i, rfl, q⟩ := h
  obtain ⟨t, rfl⟩ := rx
  exact rule i t s _ _ ⟨.int (g i), H, I.tok _, ⟨_, rfl⟩, q⟩
theorem un_neg : UnR X (unaryOp .USub) (rU fun i => .int (-i)) := unI fun _ _ _ _ _ q => neg_int q
end
def scal : V → V → Bool
  | .non, .non => true | .non, .int _ => true | .int _, .non => true | .non, .bl _ => true | .bl _, .non => true | .non, .str _ => true | .str _, .non => true
  | .int _, .int _ => true | .bl _, .bl _ => true | .str _, .str _ => true | .byt _, .byt _ => true
  | .int _, .str _ => true | .str _, .int _ => true | .bl _, .str _ => true | .str _, .bl _ => true
  | _, _ => false
def rEq : R2 := fun x y H Q => scal x y = true ∧ Q (.bl (decide (x = y))) H
def rNe : R2 := fun x y H Q => scal x y = true ∧ Q (.bl (!decide (x = y))) H
theorem dec_int {i j : Int} : decide (V.int i = V.int j) = (i == j) := by
  rw [Bool.eq_iff_iff]
  simp
theorem dec_bl {i j : Bool} : decide (V.bl i = V.bl j) = (i == j) := by
  rw [Bool.eq_iff_iff]
  simp
theorem dec_str {i j : Str} : decide (V.str i = V.str j) = (i == j) := by
  rw [Bool.eq_iff_iff]
  simp
theorem dec_byt {i j : Array UInt8} : decide (V.byt i = V.byt j) = (i.toList == j.toList) := by
  rw [Bool.eq_iff_iff]
  cases i
  cases j
  simp
section
variable {X : Cx} {a b c : Expr} {ta tb tc : TE} {pos : Pos}
theorem fin_bl {pins : List (Addr × Obj)} {σ : St} {H : Hp} {s : Shared} {Q : VK} {k k' : Bool} (I : Inv X pins σ H s) (q : Q (.bl k) H) (e : k = k') : EP X pins σ Q (.bool k') s := by
  subst e
  exact ⟨.bl k, H, I, rfl, q⟩
theorem op_eq : OpR X (compareOp .Eq) rEq := by
  intro pins s σ H x y v u Q I rx ry h
  obtain ⟨hs, q⟩ := h
  cases x with
  | non =>
    cases rx
    cases y with
    | non => cases ry; exact PySem.EqNone.eq_none_none (fin_bl I q (by simp))
    | bl j => cases ry; exact PySem.EqNone.eq_none_bool (fin_bl I q (by simp))
    | int j => obtain ⟨t', rfl⟩ := ry; exact PySem.EqNone.eq_none_int (fin_bl I q (by simp))
    | str j => obtain ⟨t', rfl⟩ := ry; exact PySem.EqNone.eq_none_str (fin_bl I q (by simp))
    | _ => exact absurd (show false = true from hs) Bool.false_ne_true
  | bl i =>
    cases rx
    cases y with
    | non => cases ry; exact PySem.EqNone.eq_bool_none (fin_bl I q (by simp))
    | bl j => cases ry; exact eq_bool (fin_bl I q dec_bl)
    | str j => obtain ⟨t', rfl⟩ := ry; exact PySem.EqMixed.eq_bool_str (fin_bl I q (by simp))
    | _ => exact absurd (show false = true from hs) Bool.false_ne_true
  | int i =>
    obtain ⟨t, rfl⟩ := rx
    cases y with
    | non => cases ry; exact PySem.EqNone.eq_int_none (fin_bl I q (by simp))
    | int j => obtain ⟨t', rfl⟩ := ry; exact eq_int (fin_bl I q dec_int)
    | str j => obtain ⟨t', rfl⟩ := ry; exact PySem.EqMixed.eq_int_str (fin_bl I q (by simp))
    | _ => exact absurd (show false = true from hs) Bool.false_ne_true
  | str i =>
    obtain ⟨t, rfl⟩ := rx
    cases y with
    | non => cases ry; exact PySem.EqNone.eq_str_none (fin_bl I q (by simp))
    | bl j => cases ry; exact PySem.EqMixed.eq_str_bool (fin_bl I q (by simp))
    | int j => obtain ⟨t', rfl⟩ := ry; exact PySem.EqMixed.eq_str_int (fin_bl I q (by simp))
    | str j => obtain ⟨t', rfl⟩ := ry; exact eq_str (fin_bl I q dec_str)
    | _ => exact absurd (show false = true from hs) Bool.false_ne_true
  | byt i =>
    obtain ⟨t, rfl⟩ := rx
    cases y with
    | byt j => obtain ⟨t', rfl⟩ := ry; exact PySem.W.eq_bytes (fin_bl I q dec_byt)
    | _ => exact absurd (show false = true from hs) Bool.false_ne_true
  | _ => cases y <;> exact absurd (show false = true from hs) Bool.false_ne_true
theorem op_ne : OpR X (compareOp .NotEq) rNe := by
  intro pins s σ H x y v u Q I rx ry h
  obtain ⟨hs, q⟩ := h
  cases x with
  | non =>
    cases rx
    cases y with
    | non => cases ry; exact PySem.EqNone.ne_none_none (fin_bl I q (by simp))
    | bl j => cases ry; exact PySem.EqNone.ne_none_bool (fin_bl I q (by simp))
    | int j => obtain ⟨t', rfl⟩ := ry; exact PySem.EqNone.ne_none_int (fin_bl I q (by simp))
    | str j => obtain ⟨t', rfl⟩ := ry; exact PySem.EqNone.ne_none_str (fin_bl I q (by simp))
    | _ => exact absurd (show false = true from hs) Bool.false_ne_true
  | bl i =>
    cases rx
    cases y with
    | non => cases ry; exact PySem.EqNone.ne_bool_none (fin_bl I q (by simp))
    | bl j => cases ry; exact ne_bool (fin_bl I q (congrArg not dec_bl))
    | str j => obtain ⟨t', rfl⟩ := ry; exact PySem.EqMixed.ne_bool_str (fin_bl I q (by simp))
    | _ => exact absurd (show false = true from hs) Bool.false_ne_true
  | int i =>
    obtain ⟨t, rfl⟩ := rx
    cases y with
    | non => cases ry; exact PySem.EqNone.ne_int_none (fin_bl I q (by simp))
    | int j => obtain ⟨t', rfl⟩ := ry; exact ne_int (fin_bl I q (congrArg not dec_int))
    | str j => obtain ⟨t', rfl⟩ := ry; exact PySem.EqMixed.ne_int_str (fin_bl I q (by simp))
    | _ => exact absurd (show false = true from hs) Bool.false_ne_true
  | str i =>
    obtain ⟨t, rfl⟩ := rx
    cases y with
    | non => cases ry; exact PySem.EqNone.ne_str_none (fin_bl I q (by simp))
    | bl j => cases ry; exact PySem.EqMixed.ne_str_bool (fin_bl I q (by simp))
    | int j => obtain ⟨t', rfl⟩ := ry; exact PySem.EqMixed.ne_str_int (fin_bl I q (by simp))
    | str j => obtain ⟨t', rfl⟩ := ry; exact ne_str (fin_bl I q (congrArg not dec_str))
    | _ => exact absurd (show false = true from hs) Bool.false_ne_true
  | byt i =>
    obtain ⟨t, rfl⟩ := rx
    cases y with
    | byt j => obtain ⟨t', rfl⟩ := ry; exact PySem.W.ne_bytes (fin_bl I q (congrArg not dec_byt))
    | _ => exact absurd (show false = true from hs) Bool.false_ne_true
  | _ => cases y <;> exact absurd (show false = true from hs) Bool.false_ne_true
theorem op_lt : OpR X (compareOp .Lt) (rI0 fun i j => .bl (decide (i < j))) := opB0 fun _ _ _ _ _ _ _ q => lt_int q
theorem op_gt : OpR X (compareOp .Gt) (rI0 fun i j => .bl (decide (j < i))) := opB0 fun _ _ _ _ _ _ _ q => gt_int q
theorem op_lt_str : OpR X (compareOp .Lt) (fun x y H Q => ∃ i j, x = .str i ∧ y = .str j ∧ Q (.bl (decide (i.cps.toList < j.cps.toList))) H) := by
  intro pins s σ H x y v u Q I rx ry h
  obtain ⟨i, j, rfl, rfl, q⟩ := h
  obtain ⟨t, rfl⟩ := rx
  obtain ⟨t', rfl⟩ := ry
  exact lt_str (fin_bl I q rfl)
theorem op_in_str : OpR X (compareOp .In) (fun x y H Q => ∃ i j, x = .str i ∧ y = .str j ∧ Q (.bl (!(Builtin.Str.occurrences j i 0 j.length 1).isEmpty)) H) := by
  intro pins s σ H x y v u Q I rx ry h
  obtain ⟨i, j, rfl, rfl, q⟩ := h
  obtain ⟨t, rfl⟩ := rx
  obtain ⟨t', rfl⟩ := ry
  exact in_str (fin_bl I q rfl)
theorem OpR.or {f : Value → Value → Sem Value} {r r' : R2} (h : OpR X f r) (h' : OpR X f r') : OpR X f (fun x y H Q => r x y H Q ∨ r' x y H Q) := by
  intro pins s σ H x y v u Q I rx ry q
  rcases q with q | q
  · exact h pins s σ H x y v u Q I rx ry q
  · exact h' pins s σ H x y v u Q I rx ry q
theorem nomark (b : Expr) {op : CmpOp} (h : op ≠ .In := by decide) (h2 : op ≠ .NotIn := by decide) : behindInMarks op b = false := by
  have e1 : (op == CmpOp.In) = false := by cases op <;> first | rfl | exact absurd rfl h
  have e2 : (op == CmpOp.NotIn) = false := by cases op <;> first | rfl | exact absurd rfl h2
  cases b <;> simp [behindInMarks, e1, e2]
theorem pe_cmpR {op : CmpOp} {r : R2} (ho : OpR X (compareOp op) r) (ha : PE X a ta) (hb : PE X b tb) (hm : behindInMarks op b = false) : PE X (.Compare a [op] [b] pos) (tOp r ta tb) := by
  intro pins s σ H Q I h
  exact wpAny_Compare1 (binT ha hb I h fun v u s2 x y H2 I2 rx ry q => ho pins s2 σ H2 x y v u Q I2 rx ry q) hm
def tTest (t : TE) : TT := fun σ H Q => t σ H fun x H' => ∃ k, x = .bl k ∧ Q k H'
theorem pt_cmpR {op : CmpOp} {r : R2} (ho : OpR X (compareOp op) r) (ha : PE X a ta) (hb : PE X b tb) (hm : behindInMarks op b = false) : PT X (.Compare a [op] [b] pos) (tTest (tOp r ta tb)) := by
  intro pins s σ H Q I h
  refine wpAny_isTrue_Compare1 (thn (ha pins s σ H _ I h) fun v s1 ⟨x, H1, I1, r1, q1⟩ => thn (hb pins s1 σ H1 _ I1 q1) fun u s2 ⟨y, H2, I2, r2, q2⟩ =>
    thn (ho pins s2 σ H2 x y v u _ I2 r1 r2 q2) fun c s3 ⟨z, H3, I3, r3, k, e, q3⟩ => ?_) hm
  subst e
  cases r3
  exact wpAny_truthy_bool ⟨H3, I3, q3⟩
def tChain (r r' : R2) (ta tb tc : TE) : TE := fun σ H Q => ta σ H fun x H1 => tb σ H1 fun y H2 => r x y H2 fun z H3 => ∃ k, z = .bl k ∧
  (if k = true then tc σ H3 fun w' H4 => r' y w' H4 Q else Q (.bl false) H3)
theorem pt_chain {op op' : CmpOp} {r r' : R2} (ho : OpR X (compareOp op) r) (ho' : OpR X (compareOp op') r') (ha : PE X a ta) (hb : PE X b tb) (hc : PE X c tc)
    (hm : lastMarks [op, op'] [b, c] = false := by with_unfolding_all rfl) : PT X (.Compare a [op, op'] [b, c] pos) (tTest (tChain r r' ta tb tc)) := by
  intro pins s σ H Q I h
  refine isTrue_chain (thn (ha pins s σ H _ I h) fun v s1 ⟨x, H1, I1, r1, q1⟩ => test_link (thn (hb pins s1 σ H1 _ I1 q1) fun u s2 ⟨y, H2, I2, r2, q2⟩ =>
    thn (ho pins s2 σ H2 x y v u _ I2 r1 r2 q2) fun d s3 ⟨z, H3, I3, r3, k, e, q3⟩ => ?_)) hm
  subst e
  cases r3
  refine wpAny_truthy_bool ?_
  cases k with
  | false =>
    obtain ⟨k', e', q'⟩ := q3
    cases e'
    exact ite_ff ⟨H3, I3, q'⟩
  | true =>
    refine ite_tt (test_last (thn (hc pins s3 σ H3 _ I3 q3) fun w' s4 ⟨z', H4, I4, r4, q4⟩ => thn (ho' pins s4 σ H4 y z' u w' _ I4 r2 r4 q4) fun d' s5 ⟨z2, H5, I5, r5, k2, e2, q5⟩ => ?_))
    subst e2
    cases r5
    exact wpAny_truthy_bool ⟨H5, I5, q5⟩
theorem line63 : (sizeLine : Nat) < 2 ^ 63 := by rw [sizeLine_eq]; decide
theorem op_add_str : OpR X (binaryOp .Add) (fun x y H Q => ∃ i j, x = .str i ∧ y = .str j ∧ i.length + j.length ≤ sizeLine ∧ Q (.str (i ++ j)) H) := by
  intro pins s σ H x y v u Q I rx ry h
  obtain ⟨i, j, rfl, rfl, hz, q⟩ := h
  obtain ⟨t, rfl⟩ := rx
  obtain ⟨t', rfl⟩ := ry
  exact add_str (fun t' tk => ⟨.str (i ++ j), H, I.tok _, ⟨_, rfl⟩, q⟩) hz
theorem vals1 {x : V} {us : List Value} (r : Vals [x] us) : ∃ u, us = [u] ∧ RelV x u := by
  cases r with
  | cons r1 r2 => cases r2; exact ⟨_, rfl, r1⟩
theorem vals2 {x y : V} {us : List Value} (r : Vals [x, y] us) : ∃ u w', us = [u, w'] ∧ RelV x u ∧ RelV y w' := by
  cases r with
  | cons r1 r2 =>
    cases r2 with
    | cons r3 r4 => cases r4; exact ⟨_, _, rfl, r1, r3⟩
theorem call_int1 : CallR X (.type "int") (fun xs H Q => (∃ i, xs = [.int i] ∧ Q (.int i) H) ∨ ∃ k, xs = [.bl k] ∧ Q (.int (if k then 1 else 0)) H) := by
  intro pins s σ H xs us Q I r h
  rcases h with ⟨i, rfl, q⟩ | ⟨k, rfl, q⟩
  · obtain ⟨u, rfl, t, rfl⟩ := vals1 r
    exact call_int_int ⟨.int i, H, I, ⟨_, rfl⟩, q⟩
  · obtain ⟨u, rfl, r1⟩ := vals1 r
    cases r1
    exact call_int_bool ⟨.int (if k then 1 else 0), H, I.tok _, ⟨_, rfl⟩, q⟩
theorem call_str_int : CallR X (.type "str") (fun xs H Q => ∃ i, xs = [.int i] ∧ i.natAbs.log2 < 1920 ∧ Q (.str (toString i)) H) := by
  intro pins s σ H xs us Q I r h
  obtain ⟨i, rfl, hz, q⟩ := h
  obtain ⟨u, rfl, t, rfl⟩ := vals1 r
  exact PySem.P.str_of_int hz ⟨.str _, H, I.tok _, ⟨_, rfl⟩, q⟩
def LenV (K : PySem.W.Frag) (x : V) (H : Hp) (n : Nat) : Prop :=
  match x with
  | .str y => y.length ≤ sizeLine ∧ n = y.length
  | .byt y => y.size ≤ sizeLine ∧ n = y.size
  | .ref p => (∃ xs, SqL K H p xs ∧ n = xs.length) ∨ ∃ xs, SqT K H p xs ∧ n = xs.length
  | _ => False
theorem call_len : CallR X (.builtin "len") (fun xs H Q => ∃ x n, xs = [x] ∧ LenV X.K x H n ∧ Q (.int n) H) := by
  intro pins s σ H xs us Q I r h
  obtain ⟨x, n, rfl, e, q⟩ := h
  obtain ⟨u, rfl, rx⟩ := vals1 r
  have hl := line63
  have hs : sizeLine = 16777216 := sizeLine_eq
  cases x with
  | str y =>
    obtain ⟨t, rfl⟩ := rx
    obtain ⟨hy, e'⟩ : y.length ≤ sizeLine ∧ n = y.length := e
    subst e'
    exact len_str (by omega) ⟨.int _, H, I.tok _, ⟨_, rfl⟩, q⟩
  | byt y =>
    obtain ⟨t, rfl⟩ := rx
    obtain ⟨hy, e'⟩ : y.size ≤ sizeLine ∧ n = y.size := e
    subst e'
    exact PySem.W.len_bytes (by omega) ⟨.int _, H, I.tok _, ⟨_, rfl⟩, q⟩
  | ref p =>
    cases rx
    have e' : (∃ xs, SqL X.K H p xs ∧ n = xs.length) ∨ ∃ xs, SqT X.K H p xs ∧ n = xs.length := e
    rcases e' with ⟨xs, hx, e'⟩ | ⟨xs, hx, e'⟩
    · subst e'
      obtain ⟨its, r', pl, hz⟩ := I.list hx
      have hlen := r'.length
      exact Calls.call_len_list pl.isList (by simp only [List.size_toArray]; omega) ⟨.int xs.length, H, I.tok _, ⟨_, by simp only [List.size_toArray]; rw [hlen]⟩, q⟩
    · subst e'
      obtain ⟨its, r', pl, hz⟩ := I.tuple hx
      have hlen := r'.length
      exact len_tuple pl (by simp only [List.size_toArray]; omega) ⟨.int xs.length, H, I.tok _, ⟨_, by simp only [List.size_toArray]; rw [hlen]⟩, q⟩
  | _ => exact (show False from e).elim
end
end L2
namespace L2
open PySem PySem.Spec PyProof.Rows
structure ObjM (h : Heap) (x dx C : Addr) (mA : Str → Option Value) : Prop where
  obj : h.get? x = some (PySem.W.instObj C dx)
  ns : h.Ns1 dx mA
  ne : dx ≠ x
theorem lookIn_ns {h : Heap} {dx : Addr} {mA : Str → Option Value} (n : h.Ns1 dx mA) : ∃ od, h.get? dx = some od ∧ ∀ name, PySem.W.lookIn name od = some (mA name) := by
  obtain ⟨o, es, ep, ho, hd, hk, _, hm⟩ := n
  refine ⟨o, ho, fun name => ?_⟩
  have e := hm name
  unfold nsFind findBy at e
  rw [← Array.find?_toList] at e
  unfold PySem.W.lookIn
  rw [hd]
  dsimp only
  split
  · rename_i y q
    rw [q] at e
    exact congrArg some e
  · rename_i q
    rw [q] at e
    have a : es.toList.any (·.refKey) = false := by
      rw [List.any_eq_false]
      intro y hy
      obtain ⟨z, t, hkey⟩ := hk y (Array.mem_toList_iff.mp hy)
      simp [DictEntry.refKey, hkey]
    have a' : ¬ es.toList.any (·.refKey) = true := by rw [a]; exact Bool.false_ne_true
    rw [if_neg a']
    exact congrArg some e
theorem ObjM.look {h : Heap} {x dx C : Addr} {mA : Str → Option Value} (I : ObjM h x dx C mA) : ∃ od, PySem.W.InstAt h x (PySem.W.instObj C dx) C (some od) ∧ ∀ name, PySem.W.lookIn name od = some (mA name) :=
  let ⟨od, ho, hl⟩ := lookIn_ns I.ns
  ⟨od, ⟨I.obj, rfl, rfl, ho⟩, hl⟩
section
variable {prog : Program} {w : World} {A : Around} {E : Value → Shared → Prop} {s : Shared} {K : PySem.W.Frag} {x dx C f : Addr} {mA : Str → Option Value} {name : Str} {v : Value}
end
def putF (f : Str) (v : V) : List (Str × V) → List (Str × V)
  | [] => [(f, v)]
  | (g, x) :: r => if g = f then (g, v) :: r else (g, x) :: putF f v r
section
variable {P : Program} {w : World} {H H' : Hp} {h h' : Heap} {a C dx : Addr} {fs fs' : List (Str × V)}
theorem ins_get (hok : HOk P w H h) (e : H a = some (.ins C dx fs)) : ∃ mA, ObjM h a dx C mA ∧ (∀ f, RelO (fs.lookup f) (mA f)) ∧ PySem.Within mA (fs.map (·.1)) ∧ fs.length ≤ 1000 ∧ H dx = some (.own a) := by
  obtain ⟨d, z, ne, ob, mA, n, r, q⟩ := (show ObjOk P w H h a (.ins C dx fs) from hok a _ e)
  exact ⟨mA, ⟨ob, n, ne⟩, r, q, z, d⟩
end
structure Cls (K : PySem.W.Frag) (C : Addr) : Prop where
  pg : PySem.W.plainGet K C Str.empty = true
  hd : PySem.W.hasDictIn K C = true
  po : PySem.W.plainOver K C = true
  sa : PySem.W.findIn K (.ref C) "__setattr__" = some (some (.builtin "object.__setattr__"))
theorem Cls.get {K : PySem.W.Frag} {C : Addr} (c : Cls K C) (f : Str) : PySem.W.plainGet K C f = true := c.pg
def NoAttr (K : PySem.W.Frag) (C : Addr) (f : Str) : Prop := PySem.W.findIn K (.ref C) f = some none
structure Con (K : PySem.W.Frag) (C : Addr) (f : Str) (v : V) (u : Value) : Prop where
  at_ : PySem.W.findIn K (.ref C) f = some (some u)
  rel : RelV v u
  get : PySem.W.specialIn K u "__get__" = some none
  cp : PySem.W.copiedNames.contains f = false
structure Meth (K : PySem.W.Frag) (C : Addr) (m : Str) (f : Addr) : Prop where
  at_ : PySem.W.findIn K (.ref C) m = some (some (.ref f))
  fn : PySem.W.isFn K (.ref f) = true
  kp : PySem.W.keepIn K (.ref f) = true
section
variable {X : Cx} {pins : List (Addr × Obj)} {σ : St} {H : Hp} {s : Shared} {a C dx : Addr} {fs : List (Str × V)} {f : Str} {v : V} {A : Around} {E : Value → Shared → Prop}
end
def tFld (K : PySem.W.Frag) (ta : TE) (f : Str) : TE := fun σ H Q => ta σ H fun x H1 => ∃ a C dx fs v, x = .ref a ∧ H1 a = some (.ins C dx fs) ∧ Cls K C ∧ NoAttr K C f ∧ fs.lookup f = some v ∧ Q v H1
def sFld (K : PySem.W.Frag) (ta tv : TE) (f : Str) : TS := fun D σ H => tv σ H fun y H1 => ta σ H1 fun x H2 => ∃ a C dx fs, x = .ref a ∧ H2 a = some (.ins C dx fs) ∧ Cls K C ∧ NoAttr K C f ∧ fs.length < 1000 ∧
  D.nx σ (upd H2 a (.ins C dx (putF f y fs)))
section
variable {X : Cx} {o e value : Expr} {f : Str} {pos pos' tpos : Pos} {ta tv : TE}
end
section
variable {X : Cx} {pins : List (Addr × Obj)} {σ : St} {H : Hp} {s : Shared} {A : Around} {E : Value → Shared → Prop} {Q : Value → Shared → Prop} {c : Value} {b : Bool}
inductive TyOf (K : PySem.W.Frag) (H : Hp) : V → Value → Prop where
  | non : TyOf K H .non (.type "NoneType")
  | bl (x : Bool) : TyOf K H (.bl x) (.type "bool")
  | int (i : Int) : TyOf K H (.int i) (.type "int")
  | str (x : Str) : TyOf K H (.str x) (.type "str")
  | flt (x : UInt64) : TyOf K H (.flt x) (.type "float")
  | lst {a : Addr} {xs : List V} (e : H a = some (.lst xs)) : TyOf K H (.ref a) (.type "list")
  | frz {a : Addr} {o : Obj} {xs : List V} (e : H a = some (.frz o (.lst xs))) : TyOf K H (.ref a) (.type "list")
  | tup {a : Addr} {xs : List V} (e : H a = some (.tup xs)) : TyOf K H (.ref a) (.type "tuple")
  | dK {a : Addr} {kvs : List (Key × V)} (e : H a = some (.dK kvs)) : TyOf K H (.ref a) (.type "dict")
  | dT {a : Addr} {kvs : List (List Key × V)} (e : H a = some (.dT kvs)) : TyOf K H (.ref a) (.type "dict")
  | ins {a C dx : Addr} {fs : List (Str × V)} (e : H a = some (.ins C dx fs)) (cl : Cls K C) (ha : PySem.W.findIn K (.ref C) "__class__" = some (some (.builtin "object.__class__")))
      (hn : PySem.W.specialIn K (.builtin "object.__class__") "__get__" = some (some (.builtin "getset_descriptor.__get__"))) (htk : PySem.W.takesIn K (.builtin "object.__class__") = some true)
      (hm : PySem.W.mroIn K C (.type "object") = some true) : TyOf K H (.ref a) (.ref C)
theorem isinst_ok {x : V} {u t : Value} (I : Inv X pins σ H s) (rx : RelV x u) (ty : TyOf X.K H x t) (e : PySem.W.kitOne X.K t c = some b) (h : ∀ tk, Q (.bool b) { s with toks := tk }) :
    wpAny (model X.prog X.w) A (call (.builtin "isinstance") [u, c]) Q E s := by
  cases ty with
  | non => cases (show u = Value.none from rx); exact PySem.W.kia_one PySem.W.kitx_none I.kIn True.intro e (fun z => nomatch z) h
  | bl y => cases (show u = Value.bool y from rx); exact PySem.W.kia_one PySem.W.kitx_bool I.kIn True.intro e (fun z => nomatch z) h
  | int i => obtain ⟨t, q⟩ := (show ∃ t, u = Value.int i t from rx); cases q; exact PySem.W.kia_one PySem.W.kitx_int I.kIn True.intro e (fun z => nomatch z) h
  | str y => obtain ⟨t, q⟩ := (show ∃ t, u = Value.str y t from rx); cases q; exact PySem.W.kia_one PySem.W.kitx_str I.kIn True.intro e (fun z => nomatch z) h
  | flt y => obtain ⟨t, q⟩ := (show ∃ t, u = Value.float y t from rx); cases q; exact PySem.W.kia_one PySem.W.kitx_float I.kIn True.intro e (fun z => nomatch z) h
  | @lst a xs ea =>
    cases (show u = Value.ref a from rx)
    obtain ⟨_, _, n, _, h1⟩ := (show ObjOk X.prog X.w H s.heap a (.lst xs) from I.hok a _ ea)
    exact PySem.W.kia_one PySem.W.kitx_list I.kIn ⟨_, h1, rfl⟩ e (fun z => nomatch z) h
  | @frz a ob xs ea =>
    cases (show u = Value.ref a from rx)
    obtain ⟨_, _, _, n, _, h1⟩ := (show ObjOk X.prog X.w H s.heap a (.frz ob (.lst xs)) from I.hok a _ ea)
    exact PySem.W.kia_one PySem.W.kitx_list I.kIn ⟨_, h1, rfl⟩ e (fun z => nomatch z) h
  | @tup a xs ea =>
    cases (show u = Value.ref a from rx)
    obtain ⟨_, _, _, p⟩ := (show ObjOk X.prog X.w H s.heap a (.tup xs) from I.hok a _ ea)
    obtain ⟨o, h1, h2, _⟩ := p
    exact PySem.W.kia_one PySem.W.kitx_tuple I.kIn ⟨o, h1, h2⟩ e (fun z => nomatch z) h
  | @dK a kvs ea =>
    cases (show u = Value.ref a from rx)
    obtain ⟨_, _, vs, _, p⟩ := (show ObjOk X.prog X.w H s.heap a (.dK kvs) from I.hok a _ ea)
    obtain ⟨o, es, ep, h1, h2, _⟩ := p
    exact PySem.W.kia_one PySem.W.kitx_dict I.kIn ⟨o, h1, h2.1⟩ e (fun z => nomatch z) h
  | @dT a kvs ea =>
    cases (show u = Value.ref a from rx)
    obtain ⟨_, _, xs, _, o, es, ep, h1, h2, _⟩ := (show ObjOk X.prog X.w H s.heap a (.dT kvs) from I.hok a _ ea)
    exact PySem.W.kia_one PySem.W.kitx_dict I.kIn ⟨o, h1, h2.1⟩ e (fun z => nomatch z) h
  | @ins a C dx fs ea cl ha hn htk hm =>
    cases (show u = Value.ref a from rx)
    obtain ⟨mA, O, _⟩ := ins_get I.hok ea
    obtain ⟨od, J, _⟩ := O.look
    exact PySem.W.kia_one (PySem.W.kitx_own (cl.get _) cl.hd ha hn htk hm) I.kIn J e (fun z => nomatch z) h
end
end L2
namespace L2
open PySem PySem.Spec PyProof.Rows
structure Room (k : Nat) (A : Around) : Prop where
  hd : A.handled = none
  dp : A.depth + 3 * k + 5 < recursionLimit
  un : A.units + 16 * k + 200 < cLine
theorem Room.mono {j k : Nat} {A : Around} (r : Room k A) (h : j ≤ k) : Room j A := ⟨r.hd, by have := r.dp; omega, by have := r.un; omega⟩
theorem Room.deeper {k : Nat} {A : Around} (r : Room (k + 1) A) (env : Env) : Room k (A.deeper env) :=
  ⟨r.hd, by have := r.dp; show A.depth + 1 + 3 * k + 5 < _; omega, by have := r.un; show A.units + 3 + 16 * k + 200 < _; omega⟩
theorem Room.in1 {k : Nat} {A : Around} (r : Room (k + 1) A) : Room k A.in1 :=
  ⟨r.hd, by have := r.dp; show A.depth + 3 * k + 5 < _; omega, by have := r.un; show A.units + 1 + 16 * k + 200 < _; omega⟩
theorem Room.depth {k : Nat} {A : Around} (r : Room k A) : A.depth < recursionLimit := by have := r.dp; omega
theorem Room.units {k : Nat} {A : Around} (r : Room k A) : A.units + 64 < cLine := by have := r.un; omega
def tNil : TA := fun _ H Q => Q [] H
def tCons (ta : TE) (tr : TA) : TA := fun σ H Q => ta σ H fun x H1 => tr σ H1 fun xs H2 => Q (x :: xs) H2
section
variable {X : Cx} {e : Expr} {es : List Expr} {te : TE} {t : TA} {pos : Pos}
theorem pa_nil : PA X [] tNil := fun _ _ _ _ H Q I h => Calls.spliced_nil ⟨[], H, I, .nil, h⟩
theorem pa_cons (ha : PE X e te) (hr : PA X es t) (hs : starEach (e :: es) X.env = (false, eval e X.env) :: starEach es X.env := by rfl) : PA X (e :: es) (tCons te t) := by
  intro pos pins s σ H Q I h
  rw [hs]
  show wpAny _ _ (spliced ((false, eval e X.env) :: backTo pos (starEach es X.env))) _ _ s
  refine Calls.spliced_cons (thn (ha pins s σ H _ I h) fun u s1 ⟨x, H1, I1, r1, q1⟩ => ?_)
  exact thn (hr pos pins s1 σ H1 _ I1 q1) fun us s2 ⟨xs, H2, I2, r2, q2⟩ => ⟨x :: xs, H2, I2, .cons r1 r2, q2⟩
def tTup (t : TA) : TE := fun σ H Q => t σ H fun xs H1 => xs.length ≤ sizeLine ∧ ∀ p, H1 p = none → Q (.ref p) (upd H1 p (.tup xs))
def tLst (t : TA) : TE := fun σ H Q => t σ H fun xs H1 => xs.length ≤ sizeLine ∧ ∀ p, H1 p = none → Q (.ref p) (upd H1 p (.lst xs))
theorem pe_tup {x1} (h : PA X es t) : PE X (.Tuple es x1 pos) (tTup t) := by
  intro pins s σ H Q I hq
  refine wpAny_Tuple_spliced (thn (h pos pins s σ H _ I hq) fun us s1 ⟨xs, H1, I1, r, z, q⟩ => ⟨by rw [← r.length]; exact z, ?_⟩)
  have hf : H1 s1.heap.objs.size = none := I1.hok.fresh (Nat.le_refl _)
  refine ⟨.ref s1.heap.objs.size, upd H1 s1.heap.objs.size (.tup xs), I1.laid (t' := s1.toks) (fun b u e => Heap.get?_push_of_some _ e) (Nat.le_refl _) ?_, rfl, q _ hf⟩
  exact ⟨z, us, r, ⟨_, Heap.get?_push_size _ rfl, rfl, _, rfl⟩⟩
theorem pe_lst (h : PA X es t) : PE X (.List es pos) (tLst t) := by
  intro pins s σ H Q I hq
  refine wpAny_List_spliced (thn (h pos pins s σ H _ I hq) fun us s1 ⟨xs, H1, I1, r, z, q⟩ => ⟨by rw [← r.length]; exact z, ?_⟩)
  have hf : H1 s1.heap.objs.size = none := I1.hok.fresh (Nat.le_refl _)
  refine ⟨.ref s1.heap.objs.size, upd H1 s1.heap.objs.size (.lst xs), I1.laid (t' := s1.toks) (fun b u e => Heap.get?_push_of_some _ e) (Nat.le_refl _) ?_, rfl, q _ hf⟩
  exact ⟨z, us, 0, r, Heap.get?_push_size _ rfl⟩
end
abbrev Sp := List V → Hp → VK → XK → Prop
abbrev CXT := List Env → Hp → Shared → XK → Value → Shared → Prop
structure Env0 (P : Program) (w : World) (K : PySem.W.Frag) (mg : Str → Option Value) (base : Heap) (A : Around) (outer : List Env) (s : Shared) (H : Hp) : Prop where
  frames : A.frames = some outer
  mod : Mod K mg base
  bs : ∀ b o, base.get? b = some o → s.heap.get? b = some o ∧ H b = none
  bsz : base.objs.size ≤ s.heap.objs.size
  funs : s.heap.FunFrames base outer
  frf : ∀ b ∈ frs outer, H b = none
  hok : HOk P w H s.heap
  bare : AllBare s.gens
def CE (outer : List Env) (P : Program) (w : World) (H : Hp) (s : Shared) (Q : VK) (u : Value) (s' : Shared) : Prop :=
  ∃ v H', s'.os = s.os ∧ AllBare s'.gens ∧ Un (frs outer) [] H H' s.heap s'.heap ∧ HOk P w H' s'.heap ∧ RelV v u ∧ Q v H'
def CR (CX : CXT) (outer : List Env) (P : Program) (w : World) (H : Hp) (s : Shared) (Q : VK) (E : XK) (r : Result) (s' : Shared) : Prop :=
  match r with
  | .ok (.ret u) => CE outer P w H s Q u s'
  | .ok _ => False
  | .error e => CX outer H s E e s'
structure FnOk (P : Program) (w : World) (K : PySem.W.Frag) (mg : Str → Option Value) (base : Heap) (CX : CXT) (k : Nat) (f : Addr) (fd : FuncData) (ps : List Str) (sp : Sp) : Prop where
  len : ∀ vs H Q E, sp vs H Q E → vs.length = ps.length
  run : ∀ (A : Around) (outer : List Env) (s : Shared) (H : Hp) (args : Args) (us : List Value) (vs : List V) (Q : VK) (E : XK), Room k A → Env0 P w K mg base A outer s H → BindsTo s fd args (ps.zip us) → Vals vs us → sp vs H Q E →
    codeAny (model P w) A (.call (.ref f) args) (CR CX outer P w H s Q E) s
theorem FnOk.mono {P : Program} {w : World} {K : PySem.W.Frag} {mg : Str → Option Value} {base : Heap} {CX : CXT} {j k : Nat} {f : Addr} {fd : FuncData} {ps : List Str} {sp : Sp} (F : FnOk P w K mg base CX j f fd ps sp) (h : j ≤ k) :
    FnOk P w K mg base CX k f fd ps sp := ⟨F.len, fun A outer s H args us vs Q E hr => F.run A outer s H args us vs Q E (hr.mono h)⟩
theorem Env0.in1 {P : Program} {w : World} {K : PySem.W.Frag} {mg : Str → Option Value} {base : Heap} {A : Around} {outer : List Env} {s : Shared} {H : Hp} (e : Env0 P w K mg base A outer s H) :
    Env0 P w K mg base A.in1 outer s H := ⟨e.frames, e.mod, e.bs, e.bsz, e.funs, e.frf, e.hok, e.bare⟩
section
variable {X : Cx} {pins : List (Addr × Obj)} {σ : St} {H : Hp} {s s' : Shared}
theorem Inv.env0 (I : Inv X pins σ H s) : Env0 X.prog X.w X.K X.mg X.base X.A X.stack s H :=
  ⟨I.ok.frames, I.ok.mod, I.bs, Nat.le_trans I.ok.bsz I.sz, I.stack, I.stkFree, I.hok, I.bare⟩
theorem Inv.after {Q : VK} {u : Value} (I : Inv X pins σ H s) (h : CE X.stack X.prog X.w H s Q u s') : EP X pins σ Q u s' := by
  obtain ⟨v, H', os, bare, un, hok, r, q⟩ := h
  obtain ⟨hh, g, d, t, os'⟩ := s'
  obtain rfl : os' = s.os := os
  exact ⟨v, H', I.call (h' := hh) (g' := g) (d' := d) (t' := t) (ch := []) un hok bare (fun b z => absurd z (by simp)), r, q⟩
end
def tCall (sp : Sp) (dvs : List V) (E : XK) (t : TA) : TE := fun σ H Q => t σ H fun vs H1 => sp (vs ++ dvs) H1 Q E
def tMeth (C : Addr) (m : Str) (sp : Sp) (dvs : List V) (E : XK) (ta : TE) (t : TA) : TE := fun σ H Q => ta σ H fun x H1 => ∃ a dx fs, x = .ref a ∧ H1 a = some (.ins C dx fs) ∧ fs.lookup m = none ∧
  t σ H1 fun vs H2 => sp (x :: (vs ++ dvs)) H2 Q E
def tMake (C : Addr) (sp : Sp) (dvs : List V) (E : XK) (t : TA) : TE := fun σ H Q => t σ H fun vs H1 => ∀ x dx, H1 x = none → H1 dx = none → dx ≠ x →
  sp (.ref x :: (vs ++ dvs)) (upd (upd H1 dx (.own x)) x (.ins C dx [])) (fun v H2 => v = .non ∧ Q (.ref x) H2) E
def Binds (K : PySem.W.Frag) (fd : FuncData) (ps : List Str) (ds : List Value) : Prop :=
  ∀ (s : Shared) (us : List Value), K.In s.heap → (us ++ ds).length = ps.length → BindsTo s fd ⟨us, []⟩ (ps.zip (us ++ ds))
theorem Binds.all {K : PySem.W.Frag} {fd : FuncData} {ps : List Str} (h : ∀ us : List Value, us.length = ps.length → bindArgs fd ⟨us, []⟩ = pure (ps.zip us)) : Binds K fd ps [] := fun s us _ hl => by
  rw [List.append_nil] at hl ⊢
  exact .of_eq (h us hl)
def Passes (CX : CXT) (X : Cx) (E : XK) : Prop := ∀ (pins : List (Addr × Obj)) (σ : St) (H : Hp) (s : Shared) (e : Value) (s' : Shared), Inv X pins σ H s → CX X.stack H s E e s' → X.xe e s'
section
variable {X : Cx} {CX : CXT} {k : Nat} {f C : Addr} {fd : FuncData} {ps : List Str} {sp : Sp} {dvs : List V} {ds : List Value} {E : XK} {x m : Str} {p pos apos : Pos} {e o : Expr} {es : List Expr} {ta : TE} {t : TA}
theorem run_fn {pins : List (Addr × Obj)} {σ : St} {H : Hp} {s : Shared} {Q : VK} {us : List Value} {vs : List V} (F : FnOk X.prog X.w X.K X.mg X.base CX k f fd ps sp) (hr : Room k X.A) (hb : Binds X.K fd ps ds) (hd : Vals dvs ds) (hx : Passes CX X E)
    (I : Inv X pins σ H s) (r : Vals vs us) (h : sp (vs ++ dvs) H Q E) : wpAny (model X.prog X.w) X.A (call (.ref f) us) (EP X pins σ Q) X.xe s := by
  have r2 : Vals (vs ++ dvs) (us ++ ds) := r.append hd
  have hl : (us ++ ds).length = ps.length := by rw [← r2.length]; exact F.len _ _ _ _ h
  refine wpAny_call (codeAny_mono (F.run X.A X.stack s H ⟨us, []⟩ (us ++ ds) (vs ++ dvs) Q E hr I.env0 (hb s us I.kIn hl) r2 h) fun r s' hq => ?_)
  cases r with
  | error e => exact hx pins σ H s e s' I hq
  | ok fl =>
    cases fl with
    | ret u => exact I.after hq
    | next => exact False.elim hq
    | brk => exact False.elim hq
    | cont => exact False.elim hq
theorem pe_call (F : FnOk X.prog X.w X.K X.mg X.base CX k f fd ps sp) (hr : Room k X.A) (hg : Gl X x) (hm : X.mg x = some (.ref f)) (hk : PySem.W.keepIn X.K (.ref f) = true) (hb : Binds X.K fd ps ds) (hd : Vals dvs ds) (hx : Passes CX X E)
    (ha : PA X (e :: es) t) (hdb : (x == ("__debug__" : Str)) = false := by decide) (he : starEach (e :: es) X.env = (false, eval e X.env) :: starEach es X.env := by rfl) (hpl : (backTo pos (starEach es X.env)).any (·.1) = false := by rfl) :
    PE X (.Call (.Name x p) (e :: es) [] pos) (tCall sp dvs E t) := by
  intro pins s σ H Q I h
  refine wpAny_Call_Name_kw (ld_glob I hg hm ?_ hdb)
  refine PySem.W.callWith_K (h₀ := X.base) I.ok.mod.kin hk (thn (ha pos pins s σ H _ I h) fun us s1 ⟨vs, H1, I1, r, q⟩ => ⟨I1.kIn, ?_⟩) he hpl
  exact run_fn F hr hb hd hx I1 r q
structure Mk (K : PySem.W.Frag) (C f : Addr) : Prop where
  makes : PySem.W.makesIn K C = true
  init : PySem.W.findIn K (.ref C) "__init__" = some (some (.ref f))
  fn : PySem.W.isFn K (.ref f) = true
  kp : PySem.W.keepIn K (.ref C) = true
end
section
variable {X : Cx} {CX : CXT} {k : Nat} {f C : Addr} {fd : FuncData} {ps ks : List Str} {sp : Sp} {E : XK} {x m : Str} {p pos apos kpos : Pos} {e o : Expr} {es : List Expr} {kws : List Keyword} {te ta : TE} {t tk : TA} {nm : Option Str}
structure KBinds (K : PySem.W.Frag) (fd : FuncData) (ps ks : List Str) (g : List Value → List Value → List Value) (gV : List V → List V → List V) : Prop where
  to : ∀ (s : Shared) (us ws : List Value), K.In s.heap → (g us ws).length = ps.length → BindsTo s fd ⟨us, ks.zip ws⟩ (ps.zip (g us ws))
  rel : ∀ {vs : List V} {us : List Value} {zs : List V} {ws : List Value}, Vals vs us → Vals zs ws → Vals (gV vs zs) (g us ws)
variable {g : List Value → List Value → List Value} {gV : List V → List V → List V}
end
structure FnScope (N P : List Str) (sc : Scope) : Prop where
  kind : sc.kind = .function
  co : sc.isCoroutine = false
  gen : sc.isGenerator = false
  nd : N.Nodup
  pre : N.take P.length = P
  par : ∀ x ∈ P, sc.names.lookup x = some .local ∨ sc.names.lookup x = some .cell
  nofree : ∀ y ∈ sc.names, y.2 ≠ .free
theorem bindL_out {kindOf : Str → Option NameKind} {x : Str} : ∀ {binds : List (Str × Value)} {m : Str → Option Value}, (∀ v, (x, v) ∉ binds) → bindL kindOf binds m x = m x
  | [], _, _ => rfl
  | (n, v) :: r, m, h => by
    unfold bindL
    rw [bindL_out fun w hw => h w (List.mem_cons_of_mem _ hw)]
    split
    · have : x ≠ n := by rintro rfl; exact h v List.mem_cons_self
      simp [this]
    · rfl
theorem bindC_out {kindOf : Str → Option NameKind} {x : Str} : ∀ {binds : List (Str × Value)} {m : Str → Option Value}, (∀ v, (x, v) ∉ binds) → bindC kindOf binds m x = m x
  | [], _, _ => rfl
  | (n, v) :: r, m, h => by
    unfold bindC
    rw [bindC_out fun w hw => h w (List.mem_cons_of_mem _ hw)]
    split
    · rfl
    · have : x ≠ n := by rintro rfl; exact h v List.mem_cons_self
      simp [this]
theorem bindL_get {kindOf : Str → Option NameKind} {x : Str} {v : Value} : ∀ {P : List Str} {vs : List Value} {i : Nat} {m : Str → Option Value}, P.Nodup → P[i]? = some x → vs[i]? = some v → kindOf x = some .local →
    bindL kindOf (P.zip vs) m x = some v
  | [], _, _, _, _, h, _, _ => by simp at h
  | _ :: _, [], _, _, _, _, h, _ => by simp at h
  | p :: P, w :: vs, 0, m, nd, h1, h2, hk => by
    simp at h1 h2; subst h1; subst h2
    show bindL kindOf ((p, w) :: P.zip vs) m p = _
    unfold bindL
    rw [bindL_out fun v hv => (List.nodup_cons.mp nd).1 (List.of_mem_zip hv).1, if_pos hk]
    simp
  | p :: P, w :: vs, i + 1, m, nd, h1, h2, hk => by
    show bindL kindOf ((p, w) :: P.zip vs) m x = _
    unfold bindL
    exact bindL_get (i := i) (List.nodup_cons.mp nd).2 (by simpa using h1) (by simpa using h2) hk
theorem bindC_get {kindOf : Str → Option NameKind} {x : Str} {v : Value} : ∀ {P : List Str} {vs : List Value} {i : Nat} {m : Str → Option Value}, P.Nodup → P[i]? = some x → vs[i]? = some v → kindOf x ≠ some .local →
    bindC kindOf (P.zip vs) m x = some v
  | [], _, _, _, _, h, _, _ => by simp at h
  | _ :: _, [], _, _, _, _, h, _ => by simp at h
  | p :: P, w :: vs, 0, m, nd, h1, h2, hk => by
    simp at h1 h2; subst h1; subst h2
    show bindC kindOf ((p, w) :: P.zip vs) m p = _
    unfold bindC
    rw [bindC_out fun v hv => (List.nodup_cons.mp nd).1 (List.of_mem_zip hv).1, if_neg hk]
    simp
  | p :: P, w :: vs, i + 1, m, nd, h1, h2, hk => by
    show bindC kindOf ((p, w) :: P.zip vs) m x = _
    unfold bindC
    exact bindC_get (i := i) (List.nodup_cons.mp nd).2 (by simpa using h1) (by simpa using h2) hk
def start (N : List Str) (vs : List V) : St := vs.map some ++ List.replicate (N.length - vs.length) none
def cxOf (CX : CXT) (P : Program) (w : World) (K : PySem.W.Frag) (mg : Str → Option Value) (base : Heap) (N : List Str) (qual : Str) (scope : Scope) (f : Addr) (cd : Value) (A : Around) (outer : List Env) (s : Shared) (H : Hp) (E : XK) : Cx where
  prog := P
  w := w
  K := K
  mg := mg
  base := base
  A := A.deeper (envOfC qual scope s.heap.objs.size f cd)
  N := N
  s₀ := s
  H₀ := H
  env := envOfC qual scope s.heap.objs.size f cd
  outer := outer
  stack := envOfC qual scope s.heap.objs.size f cd :: outer
  ex := []
  calm := true
  fn := fun _ => true
  pn := []
  xe := fun e s' => wpAny (model P w) (A.deeper (envOfC qual scope s.heap.objs.size f cd)) (leaving (envOfC qual scope s.heap.objs.size f cd) e) (fun _ s'' => CX outer H s E e s'') (fun e' s'' => CX outer H s E e' s'') s'
theorem cell_has {sc : Scope} {n : Nat} {x : Str} (h : sc.names.lookup x = some .cell) : ∃ c, (cellsFrom n sc.names []).lookup x = some c := by
  have q := PySem.W.cellsFrom_some sc.names n [] (.inl h)
  exact Option.isSome_iff_exists.mp q
theorem inv_start {CX : CXT} {P : Program} {w : World} {K : PySem.W.Frag} {mg : Str → Option Value} {base : Heap} {N ps : List Str} {qual : Str} {scope : Scope} {f : Addr} {cd : Value} {A : Around} {outer : List Env} {s s1 : Shared} {H : Hp} {E : XK} {us : List Value} {vs : List V}
    (S : FnScope N ps scope) (hd : A.handled = none) (e0 : Env0 P w K mg base A outer s H) (hl : vs.length = ps.length) (r : Vals vs us)
    (x : InCallC s s.heap.objs.size (bindL (envOfC qual scope s.heap.objs.size f cd).kindOf (ps.zip us) fun _ => none) (cellsFrom (s.heap.objs.size + 1) scope.names []) (bindC (envOfC qual scope s.heap.objs.size f cd).kindOf (ps.zip us) fun _ => none) s1) :
    Inv (cxOf CX P w K mg base N qual scope f cd A outer s H E) [] (start N vs) H s1 := by
  have hpl : ps.length ≤ N.length := by have := congrArg List.length S.pre; rw [List.length_take] at this; omega
  obtain ⟨h1, tk, rfl, hk⟩ := x.done
  have noA : ∀ b : Addr, b ∉ (cxOf CX P w K mg base N qual scope f cd A outer s H E).ex := fun b z => absurd (show b ∈ ([] : List Addr) from z) (by simp)
  refine ⟨⟨e0.mod, S.kind, rfl, rfl, Nat.le_refl _, fun y z c h1 h2 => ?_, fun y hy => ?_, fun y c _ h => ?_, fun _ => hd, Around.frames_deeper e0.frames, .inr ⟨rfl, rfl⟩, fun b z => absurd z (noA b), e0.bs, e0.bsz, fun b _ _ => noA b, fun b z => absurd z (noA b), e0.funs, e0.frf⟩,
    rfl, e0.bare, Un.kept hk, ⟨_, x.toInCall.ns, fun i y v h1 h2 h3 => ?_⟩, fun y c h => ⟨_, x.cell y c h⟩, e0.hok.fresh (Nat.le_refl _), fun y c h => ?_, fun p hp => absurd (show p ∈ ([] : List (Addr × Obj)) from hp) (by simp), e0.hok.kept hk, ?_⟩
  · exact name_of_addr x.apart (PySem.mem_of_lookup h1) (PySem.mem_of_lookup h2)
  · have hy : scope.names.lookup y = some .cell ∨ scope.names.lookup y = some .free := hy
    rcases hy with hy | hy
    · exact cell_has hy
    · exact absurd rfl (S.nofree _ (PySem.mem_of_lookup hy))
  · exact Nat.le_of_lt (x.above y c (PySem.mem_of_lookup h))
  · have hi : i < vs.length := by
      unfold start at h2
      by_cases hi : i < vs.length
      · exact hi
      · rw [List.getElem?_append_right (by simpa using hi)] at h2
        rw [List.getElem?_replicate] at h2
        split at h2 <;> cases h2
    have ha : vs[i]? = some v := by
      unfold start at h2
      rw [List.getElem?_append_left (by simpa using hi), List.getElem?_map] at h2
      cases e : vs[i]? with
      | none => rw [e] at h2; cases h2
      | some a => rw [e] at h2; cases h2; rfl
    obtain ⟨u, hu, rv⟩ := r.get ha
    have hp : ps[i]? = some y := by
      rw [← S.pre, List.getElem?_take_of_lt (by omega)]; exact h1
    have ndP : ps.Nodup := by rw [← S.pre]; exact S.nd.sublist (List.take_sublist _ _)
    refine ⟨u, rv, ?_⟩
    rcases S.par y (List.mem_of_getElem? hp) with k | k
    · exact .inl ⟨k, bindL_get ndP hp hu k⟩
    · obtain ⟨c, e⟩ := cell_has (n := s.heap.objs.size + 1) k
      refine .inr ⟨.inl k, c, e, ?_⟩
      have q := x.cell y c e
      rw [bindC_get ndP hp hu (by show scope.names.lookup y ≠ _; rw [k]; decide)] at q
      exact q
  · exact e0.hok.fresh (Nat.le_of_lt (x.above y c (PySem.mem_of_lookup h)))
  · unfold start
    show _ = N.length
    rw [List.length_append, List.length_map, List.length_replicate]
    omega
theorem fn_of {CX : CXT} {P : Program} {w : World} {K : PySem.W.Frag} {mg : Str → Option Value} {base : Heap} {k : Nat} {f : Addr} {name qual : Str} {params : Arguments} {body : List Stmt} {scope : Scope} {dV kV doc pm cdv ct oc : Value} {an od : Option Addr}
    {osl : Array (Option Value)} {N ps : List Str} {sp : Sp} (lk : K.lookup f = some ⟨oc, od, .func (PySem.W.fnOf name qual params body scope dV kV doc pm an cdv ct), osl⟩) (hcd : PySem.W.codeIn K cdv qual = true) (S : FnScope N ps scope)
    (len : ∀ vs H Q E, sp vs H Q E → vs.length = ps.length)
    (hbody : ∀ (A : Around) (outer : List Env) (s : Shared) (H : Hp) (vs : List V) (Q : VK) (E : XK), Room k (A.deeper (envOfC qual scope s.heap.objs.size f cdv)) → sp vs H Q E →
      ∃ t, PSs (cxOf CX P w K mg base N qual scope f cdv A outer s H E) body t ∧ t { nx := fun _ H' => Q .non H', rt := Q } (start N vs) H) :
    FnOk P w K mg base CX (k + 1) f (PySem.W.fnOf name qual params body scope dV kV doc pm an cdv ct) ps sp := by
  refine ⟨len, fun A outer s H args us vs Q E hr e0 hb r hsp => ?_⟩
  have hl := len _ _ _ _ hsp
  have KX : K.In s.heap := e0.mod.kin.keeps fun b o e => (e0.bs b o e).1
  have lim : s.heap.NoLimit := e0.mod.nolimit.keeps fun b o e => (e0.bs b o e).1
  have hkind : ∀ y ∈ ps.zip us, scope.names.lookup y.1 = some .local ∨ (scope.names.lookup y.1 = some .cell ∧ ((cellsFrom (s.heap.objs.size + 1) scope.names []).lookup y.1).isSome = true) := fun ⟨n, v⟩ hy => by
    rcases S.par n (List.of_mem_zip hy).1 with q | q
    · exact .inl q
    · exact .inr ⟨q, PySem.W.cellsFrom_some _ _ _ (.inl q)⟩
  refine codeAny_call_function hr.depth (KX _ _ lk) rfl S.co S.gen rfl (PySem.W.codeRec_of KX hcd) (hb _ _ _ _ ?_)
  refine wpAny_newFunctionEnv_cells S.kind hkind fun env he s1 x => ?_
  subst he
  refine ⟨lim.keeps x.toInCall.keep, codeAny_func ?_⟩
  obtain ⟨t, ht, hq⟩ := hbody A outer s H vs Q E (hr.deeper _) hsp
  have I : Inv (cxOf CX P w K mg base N qual scope f cdv A outer s H E) [] (start N vs) H s1 := inv_start S hr.hd e0 hl r x
  refine wpAny_mono (ht [] s1 (start N vs) H _ I hq) (fun fl s' hs => ?_) fun e s' hs => hs
  have fin : ∀ {σ' : St} {H' : Hp} {v : V} {u : Value}, Inv (cxOf CX P w K mg base N qual scope f cdv A outer s H E) [] σ' H' s' → RelV v u → Q v H' → CE outer P w H s Q u s' :=
    fun {σ' H' v u} J rv q => ⟨v, H', J.os, J.bare, J.base, J.hok, rv, q⟩
  cases fl with
  | ret u =>
    obtain ⟨v, σ', H', J, rv, q⟩ := hs
    exact fin J rv q
  | next =>
    obtain ⟨σ', H', J, q⟩ := hs
    exact fin (v := V.non) (u := Value.none) J rfl q
  | brk =>
    obtain ⟨_, _, _, q⟩ := hs
    exact False.elim q
  | cont =>
    obtain ⟨_, _, _, q⟩ := hs
    exact False.elim q
end L2
namespace L2
open PySem PySem.Spec PyProof.Rows
section
variable {X : Cx} {x : Str} {p pos : Pos} {e : Expr} {es : List Expr} {t : TA} {id T : String} {r : List V → Hp → VK → Prop}
def tCB (r : List V → Hp → VK → Prop) (t : TA) : TE := fun σ H Q => t σ H fun vs H1 => r vs H1 Q
theorem pe_callB (hc : CallR X (.builtin id) r) (hg : Gl X x) (hm : X.mg x = none) (hv : bootBuiltins x = some (.builtin id)) (ha : PA X (e :: es) t) (hn : x ≠ "__name__" := by decide) (hdb : (x == ("__debug__" : Str)) = false := by decide)
    (he : starEach (e :: es) X.env = (false, eval e X.env) :: starEach es X.env := by rfl) (hpl : (backTo pos (starEach es X.env)).any (·.1) = false := by rfl) : PE X (.Call (.Name x p) (e :: es) [] pos) (tCB r t) := by
  intro pins s σ H Q I h
  refine wpAny_Call_Name_kw (ld_blt I hg hm hv ?_ hn hdb)
  exact PyProof.Rows.callWith_builtin1 (thn (ha pos pins s σ H _ I h) fun us s1 ⟨vs, H1, I1, r1, q1⟩ => hc pins s1 σ H1 vs us Q I1 r1 q1) he hpl
theorem pe_callTy (hc : CallR X (.type T) r) (hg : Gl X x) (hm : X.mg x = none) (hv : bootBuiltins x = some (.type T)) (ha : PA X (e :: es) t) (hn : x ≠ "__name__" := by decide) (hdb : (x == ("__debug__" : Str)) = false := by decide)
    (he : starEach (e :: es) X.env = (false, eval e X.env) :: starEach es X.env := by rfl) (hpl : (backTo pos (starEach es X.env)).any (·.1) = false := by rfl) : PE X (.Call (.Name x p) (e :: es) [] pos) (tCB r t) := by
  intro pins s σ H Q I h
  refine wpAny_Call_Name_kw (ld_blt I hg hm hv ?_ hn hdb)
  exact PyProof.Rows.callWith_type1 (thn (ha pos pins s σ H _ I h) fun us s1 ⟨vs, H1, I1, r1, q1⟩ => hc pins s1 σ H1 vs us Q I1 r1 q1) he hpl
end
end L2
namespace HT
open PySem PyProof.Rows
section
open PySem.SeqAt
open PySem.AutoSeq1 (wpAny_loadPart')
open PySem.MeetsSeq PySem.MeetsSeq2 PySem.MeetsSeq3
end
section
variable {prog : Program} {w : World} {A : Around} {E : Value → Shared → Prop} {s : Shared}
theorem cat_tup {t b : Addr} {vs ws : List Value} {Q : Value → Shared → Prop} (ht : IsTup s.heap t vs.toArray) (hb : IsTup s.heap b ws.toArray) (hv : vs ≠ [])
    (h1 : ws = [] → Q (.ref t) s) (h2 : ws ≠ [] → Q (.ref s.heap.objs.size) { s with heap := s.heap.push { cls := .type "tuple", data := .seq (vs ++ ws).toArray } })
    (hsz : vs.length + ws.length ≤ sizeLine) : wpAny (model prog w) A (binaryOp .Add (.ref t) (.ref b)) Q E s := by
  obtain ⟨⟨cls, dd, data, sl⟩, ho, hc, n, hd⟩ := id ht
  obtain ⟨⟨cls2, dd2, data2, sl2⟩, ho2, hc2, n2, hd2⟩ := id hb
  simp only at hc hd hc2 hd2
  subst hc hd hc2 hd2
  have e : vs.toArray ++ ws.toArray = (vs ++ ws).toArray := by simp
  by_cases hw : ws = []
  · exact concat_meets ⟨_, ho, rfl⟩ ⟨_, ho2, rfl⟩ noFill_tuple_add seq_tuple_add PySem.F.slot_tuple_add PySem.F.entry_tuple_add (PySem.F.args_tuple_add_2 _ _)
      (tuple_addW1 t b vs.toArray ws.toArray n n2 dd dd2 sl sl2 (by simpa using hv) (by simp [hw])) ⟨ho, ho2, h1 hw⟩
  · refine concat_meets ⟨_, ho, rfl⟩ ⟨_, ho2, rfl⟩ noFill_tuple_add seq_tuple_add PySem.F.slot_tuple_add PySem.F.entry_tuple_add (PySem.F.args_tuple_add_2 _ _)
      (tuple_addW2 t b vs.toArray ws.toArray n n2 dd dd2 sl sl2 (by simpa using hv) (by simpa using hw) (by rw [List.size_toArray, List.size_toArray]; exact hsz)) ⟨ho, ho2, ?_⟩
    rw [e]
    exact h2 hw
def sIx (n d : Nat) : Option Int → Nat
  | none => d
  | some v => if v < 0 then (v + (n : Int)).toNat else min v.toNat n
theorem sIx_none (n d : Nat) : sIx n d none = d := rfl
theorem sIx_nat (n d k : Nat) : sIx n d (some (k : Int)) = min k n := by
  show (if (k : Int) < 0 then ((k : Int) + (n : Int)).toNat else min (k : Int).toNat n) = min k n
  rw [if_neg (by omega), Int.toNat_natCast]
theorem sIx_le (n d : Nat) (hd : d ≤ n) (o : Option Int) : sIx n d o ≤ n := by
  cases o with
  | none => exact hd
  | some v =>
    show (if v < 0 then (v + (n : Int)).toNat else min v.toNat n) ≤ n
    by_cases hv : v < 0
    · rw [if_pos hv]; omega
    · rw [if_neg hv]; exact Nat.min_le_right _ _
theorem clip_eq (v : Int) (n d : Nat) : (if v < 0 then max (v + (n : Int)) 0 else min v (n : Int)) = ((sIx n d (some v) : Nat) : Int) := by
  show (if v < 0 then max (v + (n : Int)) 0 else min v (n : Int)) = (((if v < 0 then (v + (n : Int)).toNat else min v.toNat n) : Nat) : Int)
  by_cases hv : v < 0
  · simp only [if_pos hv]; omega
  · simp only [if_neg hv]; omega
theorem adjust_gen (lo hi : Option Int) (n : Nat) : Builtin.Slice.sliceAdjust lo hi 1 (n : Int) = (((sIx n 0 lo : Nat) : Int), ((sIx n n hi : Nat) : Int)) := by
  have h1 : ¬ ((1 : Int) < 0) := by omega
  unfold Builtin.Slice.sliceAdjust
  simp only [h1, if_false]
  refine Prod.ext ?_ ?_
  · cases lo with
    | none => rfl
    | some v => exact clip_eq v n 0
  · cases hi with
    | none => rfl
    | some v => exact clip_eq v n n
theorem places_gen (i j : Nat) : Builtin.Slice.slicePlaces (i : Int) (j : Int) 1 = j - i := by
  unfold Builtin.Slice.slicePlaces
  have h1 : (1 : Int) > 0 := by omega
  simp only [h1, if_true, Int.ediv_one]
  split <;> omega
theorem slicePart_ {v : Value} {o : Option Int} {Q : Option Int → Shared → Prop} (p : IsPart v o) (h : Q o s) : wpAny (model prog w) A (Builtin.Slice.slicePartIndex v) Q E s := by
  cases p with
  | none => exact slicePart_none h
  | int i t => exact slicePart_int h
theorem sliceApplied_gen {sl : Addr} {vl vu : Value} {lo hi : Option Int} {n : Nat} {Q : Int × Int × Nat → Shared → Prop} (hs : s.heap.IsSliceOf sl vl vu .none) (pl : IsPart vl lo) (pu : IsPart vu hi)
    (h : Q (((sIx n 0 lo : Nat) : Int), 1, sIx n n hi - sIx n 0 lo) s) : wpAny (model prog w) A (Builtin.Slice.sliceApplied (.ref sl) (pure (n : Int))) Q E s := by
  obtain ⟨os, hos, hcs, hds⟩ := id hs
  unfold Builtin.Slice.sliceApplied Builtin.Slice.sliceFields
  refine wpAny_bind (wpAny_bind (wpAny_field hos hds (x := vl) rfl (wpAny_bind (wpAny_field hos hds (x := vu) rfl (wpAny_bind (wpAny_field hos hds (x := .none) rfl (wpAny_pure ?_)))))))
  refine wpAny_bind (slicePart_none ?_)
  show wpAny _ _ (if ((1 : Int) == 0) = true then _ else _) _ _ s
  rw [if_neg (by decide)]
  refine wpAny_bind (slicePart_ pl (wpAny_bind (slicePart_ pu (wpAny_bind (wpAny_pure ?_)))))
  show wpAny _ _ (match Builtin.Slice.sliceAdjust lo hi 1 (n : Int) with | (lo, hi) => pure (lo, (1 : Int), Builtin.Slice.slicePlaces lo hi 1)) _ _ s
  rw [adjust_gen lo hi n]
  show wpAny _ _ (pure (((sIx n 0 lo : Nat) : Int), (1 : Int), Builtin.Slice.slicePlaces ((sIx n 0 lo : Nat) : Int) ((sIx n n hi : Nat) : Int) 1)) _ _ s
  rw [places_gen]
  exact wpAny_pure h
theorem pick_gen (xs : Array Value) (i k : Nat) : ((List.range k).filterMap fun (m : Nat) => xs[((i : Int) + (m : Int) * 1).toNat]?).toArray = ((xs.toList.drop i).take k).toArray := by
  have e : (fun (m : Nat) => xs[((i : Int) + (m : Int) * 1).toNat]?) = fun m => xs[i + m]? := by
    funext m
    have : ((i : Int) + (m : Int) * 1).toNat = i + m := by omega
    rw [this]
  rw [e]
  have := pick_run xs i k
  rw [List.filterMap_map] at this
  have e2 : ((fun x => xs[x]?) ∘ fun x => i + x) = fun m => xs[i + m]? := rfl
  rw [e2] at this
  rw [this]
theorem getItem_tuple_cut {t sl : Addr} {items : Array Value} {vl vu : Value} {lo hi : Option Int} {Q : Value → Shared → Prop} (ht : IsTup s.heap t items) (hs : s.heap.IsSliceOf sl vl vu .none) (pl : IsPart vl lo) (pu : IsPart vu hi)
    (hw : ¬ (sIx items.size 0 lo = 0 ∧ sIx items.size items.size hi = items.size))
    (h : Q (.ref s.heap.objs.size) { s with heap := s.heap.push { cls := .type "tuple", data := .seq ((items.toList.drop (sIx items.size 0 lo)).take (sIx items.size items.size hi - sIx items.size 0 lo)).toArray } })
    (hsz : items.size ≤ sizeLine) : wpAny (model prog w) A (getItem (.ref t) (.ref sl)) Q E s := by
  have htake : sizeOk (.seq ((items.toList.drop (sIx items.size 0 lo)).take (sIx items.size items.size hi - sIx items.size 0 lo)).toArray) := by
    show ((items.toList.drop (sIx items.size 0 lo)).take (sIx items.size items.size hi - sIx items.size 0 lo)).toArray.size ≤ sizeLine
    rw [List.size_toArray, List.length_take, List.length_drop, Array.length_toList]
    omega
  have hj : sIx items.size items.size hi ≤ items.size := sIx_le _ _ (Nat.le_refl _) hi
  obtain ⟨os, hos, hcs, hds⟩ := id hs
  have hTs : s.TypeIs (.ref sl) "slice" := ⟨os, hos, hcs⟩
  unfold getItem
  try with_reducible refine wpAny_holding ?_
  first | refine wpAny_bind (wpAny_pure ?_) | skip
  refine wpAny_bind (wpAny_sequenceKey ht.typeIs (by decide) ?_)
  refine wpAny_bind (wpAny_callSpecial?_slot (name := Str.ofString "__getitem__") ht.typeIs PyProof.Rows.slot_tuple_getitem
    (wpAny_call_entry PyProof.Rows.slot_tuple_getitem ht.typeIs entry_tuple_getitem ?_ (args_tuple_getitem _ _)))
  show wpAny _ _ (Builtin.Tuple.tupleItemsOf (.ref t) >>= _) _ _ s
  refine wpAny_bind (tupleItemsOf_ ht ?_)
  refine wpAny_bind (wpAny_typeOf hTs ?_)
  rw [if_pos (by decide)]
  refine wpAny_bind (sliceApplied_gen hs pl pu ?_)
  have hno : ¬ ((((sIx items.size 0 lo : Nat) : Int) == 0 && (1 : Int) == 1 && (sIx items.size items.size hi - sIx items.size 0 lo) == items.size) = true) := by
    intro q
    rw [Bool.and_eq_true, Bool.and_eq_true] at q
    have q1 : ((sIx items.size 0 lo : Nat) : Int) = 0 := eq_of_beq q.1.1
    have q2 : sIx items.size items.size hi - sIx items.size 0 lo = items.size := eq_of_beq q.2
    exact hw ⟨by omega, by omega⟩
  show wpAny _ _ (if (((sIx items.size 0 lo : Nat) : Int) == 0 && (1 : Int) == 1 && (sIx items.size items.size hi - sIx items.size 0 lo) == items.size) = true then _ else _) _ _ s
  rw [if_neg hno, pick_gen]
  first
    | exact wpAny_bind (m := Builtin.Tuple.tupleExact _) (wpAny_newObj_type (wpAny_pure ⟨_, rfl, wpAny_pure h⟩) htake)
    | exact wpAny_bind (m := Builtin.Tuple.tupleExact _) (wpAny_newObj_type (wpAny_bind (wpAny_pure (wpAny_pure ⟨_, rfl, wpAny_pure h⟩))) htake)
    | exact wpAny_bind (wpAny_bind (m := Builtin.Tuple.tupleExact _) (wpAny_newObj_type (wpAny_pure (wpAny_pure ⟨_, rfl, wpAny_pure h⟩)) htake))
    | exact wpAny_bind (wpAny_bind (m := Builtin.Tuple.tupleExact _) (wpAny_newObj_type (wpAny_pure ⟨_, rfl, wpAny_pure h⟩) htake))
end
end HT
namespace L2
open PySem PySem.Spec PyProof.Rows
abbrev TO := St → Hp → (Option Int → Hp → Prop) → Prop
def PO (X : Cx) (e : Option Expr) (t : TO) : Prop :=
  ∀ (pins : List (Addr × Obj)) (s : Shared) (σ : St) (H : Hp) (Q : Option Int → Hp → Prop), Inv X pins σ H s → t σ H Q →
    wpAny (model X.prog X.w) X.A (evalPart e X.env) (fun u s' => ∃ o H', Inv X pins σ H' s' ∧ IsPart u o ∧ Q o H') X.xe s
def tNoPart : TO := fun _ H Q => Q none H
def tPart (t : TE) : TO := fun σ H Q => t σ H fun x H1 => ∃ i, x = .int i ∧ Q (some i) H1
section
variable {X : Cx} {e : Expr} {te : TE} {lo hi : Option Expr} {tl th : TO} {pos p2 : Pos}
theorem po_none : PO X none tNoPart := by
  intro pins s σ H Q I h
  rw [evalPart_none]
  exact wpAny_pure ⟨none, H, I, .none, h⟩
theorem po_some (h : PE X e te) : PO X (some e) (tPart te) := by
  intro pins s σ H Q I hw
  rw [evalPart_some]
  refine thn (h pins s σ H _ I hw) fun u s1 ⟨x, H1, I1, r1, q1⟩ => ?_
  obtain ⟨i, rfl, q⟩ := q1
  obtain ⟨t, rfl⟩ := r1
  exact ⟨some i, H1, I1, .int i t, q⟩
def SlR (X : Cx) (r : V → Option Int → Option Int → Hp → VK → Prop) : Prop :=
  ∀ (pins : List (Addr × Obj)) (s : Shared) (σ : St) (H : Hp) (x : V) (v vl vu : Value) (lo hi : Option Int) (sl : Addr) (Q : VK), Inv X pins σ H s → RelV x v → s.heap.IsSliceOf sl vl vu .none → IsPart vl lo → IsPart vu hi → r x lo hi H Q →
    ∃ T id, typeLookup (.type T) "__getitem__" = pure (some (.builtin id)) ∧ s.TypeIs v T ∧ wpAny (model X.prog X.w) X.A (getItem v (.ref sl)) (EP X pins σ Q) X.xe s
theorem SlR.or {r r' : V → Option Int → Option Int → Hp → VK → Prop} (h : SlR X r) (h' : SlR X r') : SlR X (fun x lo hi H Q => r x lo hi H Q ∨ r' x lo hi H Q) := by
  intro pins s σ H x v vl vu lo hi sl Q I rx hs pl pu q
  rcases q with q | q
  · exact h pins s σ H x v vl vu lo hi sl Q I rx hs pl pu q
  · exact h' pins s σ H x v vl vu lo hi sl Q I rx hs pl pu q
def tSl (r : V → Option Int → Option Int → Hp → VK → Prop) (te : TE) (tl th : TO) : TE := fun σ H Q => te σ H fun x H1 => tl σ H1 fun l H2 => th σ H2 fun u H3 => r x l u H3 Q
theorem pe_slice {r : V → Option Int → Option Int → Hp → VK → Prop} (hr : SlR X r) (he : PE X e te) (hl : PO X lo tl) (hu : PO X hi th) : PE X (.Subscript e (.Slice lo hi none p2) pos) (tSl r te tl th) := by
  intro pins s σ H Q I h
  refine Subscript_ (thn (he pins s σ H _ I h) fun v s1 ⟨x, H1, I1, r1, q1⟩ => ?_)
  refine wpAny_Slice (thn (hl pins s1 σ H1 _ I1 q1) fun vl s2 ⟨l, H2, I2, pl, q2⟩ => thn (hu pins s2 σ H2 _ I2 q2) fun vu s3 ⟨u, H3, I3, pu, q3⟩ => ?_)
  rw [evalPart_none]
  refine wpAny_pure ?_
  have I4 : Inv X pins σ H3 { s3 with heap := s3.heap.push { cls := .type "slice", data := .fields #[vl, vu, .none] } } := I3.kept (t' := s3.toks) fun b ob q => Heap.get?_push_of_some _ q
  obtain ⟨T, id, hT, ht, hg⟩ := hr pins { s3 with heap := s3.heap.push { cls := .type "slice", data := .fields #[vl, vu, .none] } } σ H3 x v vl vu l u s3.heap.objs.size Q I4 r1 (Heap.IsSliceOf.new ..) pl pu q3
  show wpAny (model X.prog X.w) X.A (subscriptTail e (.Slice lo hi none p2) v (.ref s3.heap.objs.size)) (EP X pins σ Q) X.xe { s3 with heap := s3.heap.push { cls := .type "slice", data := .fields #[vl, vu, .none] } }
  exact tail_any (ops := [.ref s3.heap.objs.size, v]) ht hT hg (by with_unfolding_all rfl)
def cutV (xs : List V) (lo hi : Option Int) : List V := (xs.drop (HT.sIx xs.length 0 lo)).take (HT.sIx xs.length xs.length hi - HT.sIx xs.length 0 lo)
theorem cutV_length (xs : List V) (lo hi : Option Int) : (cutV xs lo hi).length ≤ xs.length := by
  unfold cutV
  rw [List.length_take, List.length_drop]
  omega
def rSlT (K : PySem.W.Frag) : V → Option Int → Option Int → Hp → VK → Prop := fun x lo hi H Q => ∃ a xs, x = .ref a ∧ SqT K H a xs ∧
  ¬ (HT.sIx xs.length 0 lo = 0 ∧ HT.sIx xs.length xs.length hi = xs.length) ∧ ∀ p, H p = none → Q (.ref p) (upd H p (.tup (cutV xs lo hi)))
theorem sl_tup : SlR X (rSlT X.K) := by
  intro pins s σ H x v vl vu lo hi sl Q I rx hs pl pu h
  obtain ⟨a, xs, rfl, hx, hw, q⟩ := h
  cases rx
  obtain ⟨its, r, ht, hz⟩ := I.tuple hx
  have hlen : its.toArray.size = xs.length := by rw [List.size_toArray]; exact r.length.symm
  refine ⟨"tuple", _, PyProof.Rows.slot_tuple_getitem.lookup, ht.typeIs, ?_⟩
  refine HT.getItem_tuple_cut ht hs pl pu (by rw [hlen]; exact hw) ?_ (by rw [hlen]; exact hz)
  rw [hlen]
  refine ⟨.ref s.heap.objs.size, _, I.laid (t' := s.toks) (o := .tup (cutV xs lo hi)) (fun b ob q => Heap.get?_push_of_some _ q) (Nat.le_refl _) ?_, rfl, q _ (I.hok.fresh (Nat.le_refl _))⟩
  exact ⟨Nat.le_trans (cutV_length xs lo hi) hz, _, (r.drop (HT.sIx xs.length 0 lo)).take (HT.sIx xs.length xs.length hi - HT.sIx xs.length 0 lo), IsTup.new _ _⟩
def rCatT (K : PySem.W.Frag) : R2 := fun x y H Q => ∃ a b xs ys, x = .ref a ∧ y = .ref b ∧ SqT K H a xs ∧ SqT K H b ys ∧ xs ≠ [] ∧ xs.length + ys.length ≤ sizeLine ∧
  (ys = [] → Q (.ref a) H) ∧ (ys ≠ [] → ∀ p, H p = none → Q (.ref p) (upd H p (.tup (xs ++ ys))))
theorem Vals.nil_iff {xs : List V} {us : List Value} (r : Vals xs us) : us = [] ↔ xs = [] := by
  cases r with
  | nil => simp
  | cons _ _ => simp
theorem op_catT : OpR X (binaryOp .Add) (rCatT X.K) := by
  intro pins s σ H x y v u Q I rx ry h
  obtain ⟨a, b, xs, ys, rfl, rfl, ha, hb, hx, hz, q1, q2⟩ := h
  cases rx
  cases ry
  obtain ⟨its, r1, p1, _⟩ := I.tuple ha
  obtain ⟨its2, r2, p2, _⟩ := I.tuple hb
  refine HT.cat_tup p1 p2 (fun z => hx (r1.nil_iff.mp z)) (fun z => ⟨.ref a, H, I, rfl, q1 (r2.nil_iff.mp z)⟩) (fun z => ?_) (by rw [← r1.length, ← r2.length]; exact hz)
  refine ⟨.ref s.heap.objs.size, _, I.laid (t' := s.toks) (o := .tup (xs ++ ys)) (fun b ob q => Heap.get?_push_of_some _ q) (Nat.le_refl _) ?_, rfl, q2 (fun w => z (r2.nil_iff.mpr w)) _ (I.hok.fresh (Nat.le_refl _))⟩
  exact ⟨by rw [List.length_append]; exact hz, _, r1.append r2, IsTup.new _ _⟩
end
end L2
namespace L2
open PySem PySem.Spec PyProof.Rows
def ixN (n : Nat) (i : Int) : Option Nat := if 0 ≤ i then (if i < n then some i.toNat else none) else if -(n : Int) ≤ i then some (i + n).toNat else none
def atI {α : Type} (xs : List α) (i : Int) : Option α := (ixN xs.length i).bind fun j => xs[j]?
theorem ixN_seq {n : Nat} {i : Int} {j : Nat} (h : ixN n i = some j) : seqIndex? i n = some j ∧ j < n ∧ -(n : Int) ≤ i ∧ i < n := by
  unfold ixN at h
  by_cases h0 : 0 ≤ i
  · rw [if_pos h0] at h
    by_cases h1 : i < n
    · rw [if_pos h1] at h
      have e : i.toNat = j := Option.some.inj h
      exact ⟨by rw [seqIndex_of h0 h1, e], by omega, by omega, h1⟩
    · rw [if_neg h1] at h; cases h
  · rw [if_neg h0] at h
    by_cases h1 : -(n : Int) ≤ i
    · rw [if_pos h1] at h
      have e : (i + n).toNat = j := Option.some.inj h
      exact ⟨by rw [seqIndex_neg (by omega) h1, e], by omega, h1, by omega⟩
    · rw [if_neg h1] at h; cases h
theorem atI_get {α : Type} {xs : List α} {i : Int} {v : α} (h : atI xs i = some v) : ∃ j, seqIndex? i xs.length = some j ∧ xs[j]? = some v ∧ j < xs.length ∧ -(xs.length : Int) ≤ i ∧ i < xs.length := by
  unfold atI at h
  cases e : ixN xs.length i with
  | none => rw [e] at h; cases h
  | some j =>
    rw [e] at h
    obtain ⟨h1, h2, h3, h4⟩ := ixN_seq e
    exact ⟨j, h1, h, h2, h3, h4⟩
theorem atI_nat {α : Type} {xs : List α} {j : Nat} {v : α} (h : xs[j]? = some v) : atI xs (j : Int) = some v := by
  have hj : j < xs.length := (List.getElem?_eq_some_iff.mp h).1
  have e : ixN xs.length (j : Int) = some j := by
    unfold ixN
    rw [if_pos (by omega), if_pos (by omega)]; simp
  unfold atI; rw [e]; exact h
theorem atI_last {α : Type} (xs : List α) (v : α) : atI (xs ++ [v]) (-1) = some v := by
  have hl : (xs ++ [v]).length = xs.length + 1 := by simp
  have e : ixN (xs ++ [v]).length (-1) = some xs.length := by
    unfold ixN
    rw [hl, if_neg (by decide), if_pos (by omega)]
    congr 1
    omega
  unfold atI
  rw [e]
  show (xs ++ [v])[xs.length]? = some v
  simp
def PlainIx (b : Expr) : Prop := ∀ o i, subscripted b false o i = operate [o, i] (getItem o i)
def IxR (X : Cx) (r : R2) : Prop :=
  ∀ (value slice : Expr) (pins : List (Addr × Obj)) (s : Shared) (σ : St) (H : Hp) (x y : V) (v u : Value) (Q : VK), Inv X pins σ H s → RelV x v → RelV y u → r x y H Q →
    subscripted slice false v u = operate [v, u] (getItem v u) → wpAny (model X.prog X.w) X.A (subscriptTail value slice v u) (EP X pins σ Q) X.xe s
def MtR (X : Cx) (id : String) (r : V → List V → Hp → VK → Prop) : Prop :=
  ∀ (pins : List (Addr × Obj)) (s : Shared) (σ : St) (H : Hp) (x : V) (xs : List V) (v : Value) (us : List Value) (Q : VK), Inv X pins σ H s → RelV x v → Vals xs us → r x xs H Q →
    wpAny (model X.prog X.w) X.A (call (.builtin id) (v :: us)) (EP X pins σ Q) X.xe s
section
variable {X : Cx} {a b : Expr} {ta tb : TE} {pos : Pos}
theorem IxR.or {r r' : R2} (h : IxR X r) (h' : IxR X r') : IxR X (fun x y H Q => r x y H Q ∨ r' x y H Q) := by
  intro value slice pins s σ H x y v u Q I rx ry q hs
  rcases q with q | q
  · exact h value slice pins s σ H x y v u Q I rx ry q hs
  · exact h' value slice pins s σ H x y v u Q I rx ry q hs
theorem MtR.or {id : String} {r r' : V → List V → Hp → VK → Prop} (h : MtR X id r) (h' : MtR X id r') : MtR X id (fun x xs H Q => r x xs H Q ∨ r' x xs H Q) := by
  intro pins s σ H x xs v us Q I rx rs q
  rcases q with q | q
  · exact h pins s σ H x xs v us Q I rx rs q
  · exact h' pins s σ H x xs v us Q I rx rs q
theorem pe_ix {r : R2} (hr : IxR X r) (ha : PE X a ta) (hb : PE X b tb) (hs : PlainIx b) : PE X (.Subscript a b pos) (tOp r ta tb) := by
  intro pins s σ H Q I h
  exact Subscript_ (binT ha hb I h fun v u s2 x y H2 I2 rx ry q => hr a b pins s2 σ H2 x y v u Q I2 rx ry q (hs _ _))
def rIxL (K : PySem.W.Frag) : R2 := fun x y H Q => ∃ p xs i v, x = .ref p ∧ y = .int i ∧ SqL K H p xs ∧ atI xs i = some v ∧ Q v H
def rIxT (K : PySem.W.Frag) : R2 := fun x y H Q => ∃ p xs i v, x = .ref p ∧ y = .int i ∧ SqT K H p xs ∧ atI xs i = some v ∧ Q v H
def rIxS : R2 := fun x y H Q => ∃ z i c, x = .str z ∧ y = .int i ∧ z.length ≤ sizeLine ∧ atI z.cps.toList i = some c ∧ Q (.str ⟨#[c]⟩) H
theorem ix_list : IxR X (rIxL X.K) := by
  intro value slice pins s σ H x y v u Q I rx ry h hs
  obtain ⟨p, xs, i, z, rfl, rfl, hq, he, q⟩ := h
  cases rx
  obtain ⟨t, rfl⟩ := ry
  obtain ⟨its, r, pl, hz⟩ := I.list hq
  obtain ⟨j, h1, h2, h3, h4, h5⟩ := atI_get he
  obtain ⟨w, ew, rw'⟩ := r.get h2
  have hl := r.length
  have hn := line63
  have fin : EP X pins σ Q w s := ⟨z, H, I, rw', q⟩
  by_cases h0 : 0 ≤ i
  · have hj : i.toNat = j := by
      rw [seqIndex_of h0 h5] at h1
      exact Option.some.inj h1
    exact item_listR pl.isList h0 (by omega) (by rw [hj]; simpa using ew) fin hs
  · have hj : (i + (its.toArray.size : Int)).toNat = j := by
      rw [seqIndex_neg (by omega) h4] at h1
      rw [List.size_toArray, ← hl]
      exact Option.some.inj h1
    exact subscriptTail_builtinR (x := w) pl.isList.typeIs slot_list_getitem.lookup
      (wpAny_getItem_list_neg (Q := fun r s' => r = w ∧ EP X pins σ Q r s') pl.isList (by omega) (by rw [List.size_toArray] <;> omega) (by omega) (by rw [hj]; simpa using ew) ⟨rfl, fin⟩) hs
theorem ix_tup : IxR X (rIxT X.K) := by
  intro value slice pins s σ H x y v u Q I rx ry h hs
  obtain ⟨p, xs, i, z, rfl, rfl, hq, he, q⟩ := h
  cases rx
  obtain ⟨t, rfl⟩ := ry
  obtain ⟨its, r, pl, hz⟩ := I.tuple hq
  obtain ⟨j, h1, h2, h3, h4, h5⟩ := atI_get he
  obtain ⟨w, ew, rw'⟩ := r.get h2
  have hl := r.length
  have hn := line63
  have fin : EP X pins σ Q w s := ⟨z, H, I, rw', q⟩
  exact subscriptTail_builtinR (x := w) pl.typeIs slot_tuple_getitem.lookup
    (getItem_tuple (j := j) (Q := fun r s' => r = w ∧ EP X pins σ Q r s') pl (by omega) (by omega) (by rw [List.size_toArray, ← hl]; exact h1) (by simpa using ew) ⟨rfl, fin⟩) hs
theorem ix_str : IxR X rIxS := by
  intro value slice pins s σ H x y v u Q I rx ry h hs
  obtain ⟨z, i, c, rfl, rfl, hz, he, q⟩ := h
  obtain ⟨t, rfl⟩ := rx
  obtain ⟨t', rfl⟩ := ry
  obtain ⟨j, h1, h2, h3, h4, h5⟩ := atI_get he
  have hl : z.cps.toList.length = z.length := by simp [Str.length]
  rw [hl] at h1 h4 h5
  have hn := line63
  exact tail_any (typeIs_str s z t) slot_str_getitem.lookup (getItem_str (c := c) (by
    have e1 : decide (i < -(2 ^ 63 : Int)) = false := decide_eq_false (by omega)
    have e2 : decide (i ≥ 2 ^ 63) = false := decide_eq_false (by omega)
    rw [e1, e2, Bool.or_false]) (by rw [h1]; simpa using h2) ⟨.str ⟨#[c]⟩, H, I.tok _, ⟨_, rfl⟩, q⟩) hs
def rIx (K : PySem.W.Frag) : R2 := fun x y H Q => rIxL K x y H Q ∨ rIxT K x y H Q ∨ rIxS x y H Q
theorem ix_seq : IxR X (rIx X.K) := ix_list.or (ix_tup.or ix_str)
theorem Inv.lst {pins : List (Addr × Obj)} {σ : St} {H : Hp} {s : Shared} {p : Addr} {xs : List V} (I : Inv X pins σ H s) (h : H p = some (.lst xs)) :
    ∃ (its : List Value) (n : Nat), Vals xs its ∧ s.heap.get? p = some { cls := .type "list", data := .seq its.toArray n } ∧ xs.length ≤ sizeLine := by
  obtain ⟨z, its, n, r, e⟩ := I.hok p _ h
  exact ⟨its, n, r, e, z⟩
def rSetL : V → V → V → Hp → (Hp → Prop) → Prop := fun o i v H Q => ∃ p xs k j, o = .ref p ∧ i = .int k ∧ H p = some (.lst xs) ∧ ixN xs.length k = some j ∧ Q (upd H p (.lst (xs.set j v)))
theorem slice_bounds (lo hi : Option Int) (n : Nat) : (sliceBounds lo hi none n).1 = ((HT.sIx n 0 lo : Nat) : Int) ∧ (sliceBounds lo hi none n).2.1 = ((HT.sIx n n hi : Nat) : Int) ∧ (sliceBounds lo hi none n).2.2 = 1 := by
  refine ⟨?_, ?_, rfl⟩
  · cases lo with
    | none => simp [sliceBounds, HT.sIx]
    | some i =>
      simp only [sliceBounds, HT.sIx, Option.getD_none, show (1 : Int) > 0 by decide, if_true]
      by_cases h : i < 0
      · simp only [h, if_true] <;> omega
      · simp only [h, if_false] <;> omega
  · cases hi with
    | none => simp [sliceBounds, HT.sIx]
    | some i =>
      simp only [sliceBounds, HT.sIx, Option.getD_none, show (1 : Int) > 0 by decide, if_true]
      by_cases h : i < 0
      · simp only [h, if_true] <;> omega
      · simp only [h, if_false] <;> omega
theorem slicePick_cut (its : List Value) (lo hi : Option Int) : slicePick its.toArray lo hi none = ((its.drop (HT.sIx its.length 0 lo)).take (HT.sIx its.length its.length hi - HT.sIx its.length 0 lo)).toArray := by
  obtain ⟨h1, h2, h3⟩ := slice_bounds lo hi its.toArray.size
  unfold slicePick
  rw [h1, h2, h3]
  simp only [sliceRange_one, pick_run, List.size_toArray] <;> rfl
def rSlL (K : PySem.W.Frag) : V → Option Int → Option Int → Hp → VK → Prop := fun x lo hi H Q => ∃ a xs, x = .ref a ∧ SqL K H a xs ∧ ∀ p, H p = none → Q (.ref p) (upd H p (.lst (cutV xs lo hi)))
theorem sl_list : SlR X (rSlL X.K) := by
  intro pins s σ H x v vl vu lo hi sl Q I rx hs pl pu h
  obtain ⟨a, xs, rfl, hx, q⟩ := h
  cases rx
  obtain ⟨its, r, ht, hz⟩ := I.list hx
  have hlen := r.length
  refine ⟨"list", _, slot_list_getitem.lookup, ht.isList.typeIs, ?_⟩
  refine wpAny_getItem_list_slice ht.isList hs pl pu .none (by simp) ?_ (by rw [List.size_toArray] <;> omega)
  rw [slicePick_cut, ← hlen]
  refine ⟨.ref s.heap.objs.size, _, I.laid (t' := s.toks) (o := .lst (cutV xs lo hi)) (fun b ob q => Heap.get?_push_of_some _ q) (Nat.le_refl _) ?_, rfl, q _ (I.hok.fresh (Nat.le_refl _))⟩
  exact ⟨Nat.le_trans (cutV_length xs lo hi) hz, _, 0, (r.drop (HT.sIx xs.length 0 lo)).take (HT.sIx xs.length xs.length hi - HT.sIx xs.length 0 lo), Heap.get?_push_size _ rfl⟩
def flatV : V → Bool
  | .non => true
  | .bl _ => true
  | .int _ => true
  | .str _ => true
  | _ => false
def eqV : V → V → Bool
  | .non, .non => true
  | .bl a, .bl b => a == b
  | .bl a, .int b => (if a then 1 else 0) == b
  | .int a, .bl b => a == (if b then 1 else 0)
  | .int a, .int b => a == b
  | .str a, .str b => a == b
  | _, _ => false
theorem eqAt_V {A : Around} {s : Shared} {y x : V} {u v : Value} (ry : RelV y u) (rx : RelV x v) (fy : flatV y = true) (fx : flatV x = true) : SeqAt.EqAt A s u v (eqV y x) := by
  cases y with
  | non =>
    cases ry
    cases x with
    | non => cases rx; exact SeqAt.EqAt.same _
    | bl b => cases rx; exact SeqAt.EqAt.none_bool b
    | int b => obtain ⟨t, rfl⟩ := rx; exact SeqAt.EqAt.none_int b t
    | str b => obtain ⟨t, rfl⟩ := rx; exact SeqAt.EqAt.none_str b t
    | _ => exact absurd (show false = true from fx) Bool.false_ne_true
  | bl a =>
    cases ry
    cases x with
    | non => cases rx; exact SeqAt.EqAt.bool_none a
    | bl b => cases rx; exact SeqAt.EqAt.bool_bool a b
    | int b => obtain ⟨t, rfl⟩ := rx; exact SeqAt.EqAt.bool_int a b t
    | str b => obtain ⟨t, rfl⟩ := rx; exact SeqAt.EqAt.bool_str a b t
    | _ => exact absurd (show false = true from fx) Bool.false_ne_true
  | int a =>
    obtain ⟨t', rfl⟩ := ry
    cases x with
    | non => cases rx; exact SeqAt.EqAt.int_none a t'
    | bl b => cases rx; exact SeqAt.EqAt.int_bool a t' b
    | int b => obtain ⟨t, rfl⟩ := rx; exact SeqAt.EqAt.int_int a t' b t
    | str b => obtain ⟨t, rfl⟩ := rx; exact SeqAt.EqAt.int_str a t' b t
    | _ => exact absurd (show false = true from fx) Bool.false_ne_true
  | str a =>
    obtain ⟨t', rfl⟩ := ry
    cases x with
    | non => cases rx; exact SeqAt.EqAt.str_none a t'
    | bl b => cases rx; exact SeqAt.EqAt.str_bool a t' b
    | int b => obtain ⟨t, rfl⟩ := rx; exact SeqAt.EqAt.str_int a t' b t
    | str b => obtain ⟨t, rfl⟩ := rx; exact SeqAt.EqAt.str_str a t' b t
    | _ => exact absurd (show false = true from fx) Bool.false_ne_true
  | _ => exact absurd (show false = true from fy) Bool.false_ne_true
def eqU (x : V) (u : Value) : Bool := match u with
  | .none => eqV .non x
  | .bool b => eqV (.bl b) x
  | .int i _ => eqV (.int i) x
  | .str z _ => eqV (.str z) x
  | _ => false
theorem eqU_of {x y : V} {u : Value} (r : RelV y u) (f : flatV y = true) : eqU x u = eqV y x := by
  cases y with
  | non => cases r; rfl
  | bl b => cases r; rfl
  | int i => obtain ⟨t, rfl⟩ := r; rfl
  | str z => obtain ⟨t, rfl⟩ := r; rfl
  | _ => exact absurd (show false = true from f) Bool.false_ne_true
theorem any_eqU {x : V} : ∀ {xs : List V} {us : List Value}, Vals xs us → xs.all flatV = true → us.any (eqU x) = xs.any fun y => eqV y x
  | _, _, .nil, _ => rfl
  | y :: xs, u :: us, .cons r t, f => by
    rw [List.all_cons, Bool.and_eq_true] at f
    rw [List.any_cons, List.any_cons, eqU_of r f.1, any_eqU t f.2]
theorem mem_eqAt {A : Around} {s : Shared} {x : V} {v : Value} (rx : RelV x v) (fx : flatV x = true) : ∀ {xs : List V} {us : List Value}, Vals xs us → xs.all flatV = true → ∀ u ∈ us, SeqAt.EqAt A s u v (eqU x u)
  | _, _, .nil, _ => fun u hu => by cases hu
  | y :: xs, u :: us, .cons r t, f => fun u' hu => by
    rw [List.all_cons, Bool.and_eq_true] at f
    rcases List.mem_cons.mp hu with rfl | hu
    · rw [eqU_of r f.1]; exact eqAt_V r rx f.1 fx
    · exact mem_eqAt rx fx t f.2 u' hu
def inV (x : V) (xs : List V) : Bool := xs.any fun y => eqV y x
def rIn (K : PySem.W.Frag) (neg : Bool) : R2 := fun x y H Q => ∃ p xs, y = .ref p ∧ (SqL K H p xs ∨ SqT K H p xs) ∧ flatV x = true ∧ xs.all flatV = true ∧ Q (.bl (if neg then !inV x xs else inV x xs)) H
theorem op_in_seq : OpR X (compareOp .In) (rIn X.K false) := by
  intro pins s σ H x y v u Q I rx ry h
  obtain ⟨p, xs, rfl, hq, fx, fs, q⟩ := h
  cases ry
  rcases hq with hq | hq
  · obtain ⟨its, r, pl, hz⟩ := I.list hq
    refine SeqAt.in_listAt (eqU x) pl.isList (fun w hw => mem_eqAt rx fx r fs w (by simpa using hw)) ⟨.bl _, H, I, rfl, ?_⟩
    rw [show its.toArray.any (eqU x) = its.any (eqU x) by simp, any_eqU r fs]
    exact q
  · obtain ⟨its, r, pl, hz⟩ := I.tuple hq
    refine SeqAt.in_tupleAt (eqU x) pl (fun w hw => mem_eqAt rx fx r fs w (by simpa using hw)) ⟨.bl _, H, I, rfl, ?_⟩
    rw [show its.toArray.any (eqU x) = its.any (eqU x) by simp, any_eqU r fs]
    exact q
theorem CallR.or {f : Value} {r r' : List V → Hp → VK → Prop} (h : CallR X f r) (h' : CallR X f r') : CallR X f (fun xs H Q => r xs H Q ∨ r' xs H Q) := by
  intro pins s σ H xs us Q I rs q
  rcases q with q | q
  · exact h pins s σ H xs us Q I rs q
  · exact h' pins s σ H xs us Q I rs q
theorem call_tuple_of : CallR X (.type "tuple") (fun xs H Q => ∃ p ys, xs = [.ref p] ∧ ((SqL X.K H p ys ∧ ∀ l, H l = none → Q (.ref l) (upd H l (.tup ys))) ∨ (SqT X.K H p ys ∧ Q (.ref p) H))) := by
  intro pins s σ H xs us Q I r h
  obtain ⟨p, ys, rfl, h⟩ := h
  obtain ⟨u, rfl, rx⟩ := vals1 r
  cases rx
  rcases h with ⟨hq, q⟩ | ⟨hq, q⟩
  · obtain ⟨its, r', pl, hz⟩ := I.list hq
    have hlen := r'.length
    refine call_tuple_list pl.isList (fun h' kp => ?_) (by simp only [List.size_toArray] <;> omega)
    have I1 : Inv X pins σ H { s with heap := h' } := I.kept (t' := s.toks) kp
    have I2 : Inv X pins σ (upd H h'.objs.size (.tup ys)) { s with heap := h'.push { cls := .type "tuple", data := .seq its.toArray } } :=
      I1.laid (t' := s.toks) (fun b o e => Heap.get?_push_of_some _ e) (Nat.le_refl _) (show ObjOk X.prog X.w _ _ _ (.tup ys) from ⟨hz, its, r', IsTup.new _ _⟩)
    exact ⟨.ref h'.objs.size, _, I2, rfl, q _ (I1.hok.fresh (Nat.le_refl _))⟩
  · obtain ⟨its, r', pl, hz⟩ := I.tuple hq
    exact call_tuple_same pl ⟨.ref p, H, I, rfl, q⟩
def tyV (K : PySem.W.Frag) (T : String) (x : V) (H : Hp) : Prop := match x with
  | .str _ => T = "str"
  | .int _ => T = "int"
  | .ref p => (T = "list" ∧ ∃ xs, SqL K H p xs) ∨ (T = "tuple" ∧ ∃ o, K.lookup p = some o ∧ o.cls = .type "tuple" ∧ o.dict = none) ∨
      (T = "dict" ∧ ((∃ kvs, H p = some (.dK kvs)) ∨ ∃ kvs, H p = some (.dT kvs))) ∨ (T = "set" ∧ ∃ S n, H p = some (.set S n))
  | _ => False
theorem tyV_is {pins : List (Addr × Obj)} {σ : St} {H : Hp} {s : Shared} {T : String} {x : V} {v : Value} (I : Inv X pins σ H s) (r : RelV x v) (ty : tyV X.K T x H) :
    s.TypeIs v T ∧ ∀ a, v = .ref a → ∃ ob, s.heap.get? a = some ob ∧ ob.dict = none := by
  cases x with
  | str z =>
    obtain ⟨t, rfl⟩ := r
    cases (show T = "str" from ty)
    exact ⟨typeIs_str s z t, fun _ e => nomatch e⟩
  | int i =>
    obtain ⟨t, rfl⟩ := r
    cases (show T = "int" from ty)
    exact ⟨typeIs_int s i t, fun _ e => nomatch e⟩
  | ref p =>
    cases r
    rcases ty with ⟨rfl, xs, hq⟩ | ⟨rfl, o, hk, hc, hd⟩ | ⟨rfl, hk⟩ | ⟨rfl, S, n, hk⟩
    · obtain ⟨its, _, pl, _⟩ := I.list hq
      refine ⟨pl.isList.typeIs, fun a e => ?_⟩
      cases e
      obtain ⟨o, n, e, c, hd, _⟩ := pl
      exact ⟨o, e, hd⟩
    · refine ⟨⟨o, I.kIn p o hk, hc⟩, fun a e => ?_⟩
      cases e
      exact ⟨o, I.kIn _ o hk, hd⟩
    · have z : ∃ o, s.heap.get? p = some o ∧ o.ExactDict := by
        rcases hk with ⟨kvs, hk⟩ | ⟨kvs, hk⟩
        · obtain ⟨_, _, _, _, o, _, _, e, ex, _⟩ := I.hok p _ hk
          exact ⟨o, e, ex⟩
        · obtain ⟨_, _, _, _, o, _, _, e, ex, _⟩ := I.hok p _ hk
          exact ⟨o, e, ex⟩
      obtain ⟨o, e, ex⟩ := z
      refine ⟨⟨o, e, ex.1⟩, fun a e2 => ?_⟩
      cases e2
      exact ⟨o, e, ex.2.1⟩
    · obtain ⟨o, _, _, _, e, ex, _⟩ := I.hok p _ hk
      refine ⟨⟨o, e, ex.1⟩, fun a e2 => ?_⟩
      cases e2
      exact ⟨o, e, ex.2.1⟩
  | _ => exact False.elim ty
def tBM0 (K : PySem.W.Frag) (T : String) (r : V → List V → Hp → VK → Prop) (to : TE) : TE := fun σ H Q => to σ H fun x H1 => tyV K T x H1 ∧ r x [] H1 Q
def tBM (K : PySem.W.Frag) (T : String) (r : V → List V → Hp → VK → Prop) (to : TE) (t : TA) : TE := fun σ H Q => to σ H fun x H1 => tyV K T x H1 ∧ t σ H1 fun xs H2 => r x xs H2 Q
variable {o e : Expr} {es : List Expr} {to : TE} {t : TA} {name : Str} {apos cpos : Pos} {T id : String} {r : V → List V → Hp → VK → Prop}
theorem pe_bm0 (pa : PlainAttrs T) (slot : Slot T name id) (hty : typeOf (.builtin id) = pure (.type "method_descriptor")) (hm : MtR X id r) (ho : PE X o to)
    (hbase : attributeBase o name X.env (eval o X.env) = eval o X.env := by rfl) (hline : (apos.endLine == cpos.line) = true := by rfl) : PE X (.Call (.Attribute o name apos) [] [] cpos) (tBM0 X.K T r to) := by
  intro pins s σ H Q I h
  refine wpAny_Call_method0_late hbase hline (thn (ho pins s σ H _ I h) fun v s1 ⟨x, H1, I1, r1, ty, q1⟩ => ?_)
  obtain ⟨h1, h2⟩ := tyV_is I1 r1 ty
  exact ⟨T, id, pa, slot, hty, h1, h2, Calls.callWith_builtin rfl (PySem.evalArgs_none (hm pins s1 σ H1 x [] v [] Q I1 r1 .nil q1))⟩
theorem pe_bm (pa : PlainAttrs T) (slot : Slot T name id) (hty : typeOf (.builtin id) = pure (.type "method_descriptor")) (hm : MtR X id r) (ho : PE X o to) (ha : PA X (e :: es) t)
    (hbase : attributeBase o name X.env (eval o X.env) = eval o X.env := by rfl)
    (hfew : ((backTo cpos (starEach (e :: es) X.env)).all (fun x => !x.1) && (backToKw cpos (keywordEach [] X.env)).all (fun x => x.1.isSome)
      && decide ((e :: es).length + ([] : List Keyword).length + (if ([] : List Keyword).isEmpty then 0 else 1) < 30)) = true := by rfl)
    (hline : (apos.endLine == cpos.line) = true := by rfl) (hs : starEach (e :: es) X.env = (false, eval e X.env) :: starEach es X.env := by rfl) (hplain : (backTo cpos (starEach es X.env)).any (·.1) = false := by rfl) :
    PE X (.Call (.Attribute o name apos) (e :: es) [] cpos) (tBM X.K T r to t) := by
  intro pins s σ H Q I h
  refine wpAny_Call_method_late hbase hfew hline rfl (thn (ho pins s σ H _ I h) fun v s1 ⟨x, H1, I1, r1, ty, q1⟩ => ?_)
  obtain ⟨h1, h2⟩ := tyV_is I1 r1 ty
  refine ⟨T, id, pa, slot, hty, h1, h2, ?_⟩
  have hA := ha cpos pins s1 σ H1 _ I1 q1
  rw [hs] at hA ⊢
  refine Calls.callWith_builtin (by show (false || (backTo cpos (starEach es X.env)).any (·.1)) = false; rw [hplain] <;> rfl) (Calls.evalArgs_plain ?_)
  exact thn hA fun us s2 ⟨vs, H2, I2, r2, q2⟩ => hm pins s2 σ H2 x vs v us Q I2 r1 r2 q2
end
end L2
namespace L2
open PySem PySem.Spec PyProof.Rows
def MtM (X : Cx) (id : String) (r : V → List V → Hp → VK → Prop) : Prop :=
  ∀ (pins : List (Addr × Obj)) (s : Shared) (σ : St) (H : Hp) (x : V) (xs : List V) (v : Value) (us : List Value) (Q : VK), Inv X pins σ H s → RelV x v → Vals xs us → r x xs H Q →
    wpAny (model X.prog X.w) X.A (call (.builtin id) (v :: us)) (EP X pins σ Q) X.xe s
theorem Vals.one : ∀ {x : V} {us : List Value}, Vals [x] us → ∃ u, us = [u] ∧ RelV x u
  | _, _, .cons r .nil => ⟨_, rfl, r⟩
theorem Vals.zero : ∀ {us : List Value}, Vals [] us → us = []
  | _, .nil => rfl
theorem Vals.dropLast {xs : List V} {us : List Value} (h : Vals xs us) : Vals xs.dropLast us.dropLast := by
  induction h with
  | nil => exact .nil
  | cons r t ih =>
    cases t with
    | nil => exact .nil
    | cons q t' => exact .cons r ih
theorem Vals.eraseIdx : ∀ {xs : List V} {us : List Value} (i : Nat), Vals xs us → Vals (xs.eraseIdx i) (us.eraseIdx i)
  | _, _, _, .nil => .nil
  | _, _, 0, .cons _ t => t
  | _, _, i + 1, .cons r t => .cons r (Vals.eraseIdx i t)
theorem Vals.reverse {xs : List V} {us : List Value} (h : Vals xs us) : Vals xs.reverse us.reverse := by
  induction h with
  | nil => exact .nil
  | cons r t ih => rw [List.reverse_cons, List.reverse_cons]; exact Vals.append ih (.cons r .nil)
theorem Vals.rep {xs : List V} {us : List Value} (h : Vals xs us) : ∀ k : Nat, Vals (List.replicate k xs).flatten (List.replicate k us).flatten
  | 0 => .nil
  | k + 1 => by
    rw [List.replicate_succ, List.replicate_succ, List.flatten_cons, List.flatten_cons]
    exact Vals.append h (Vals.rep h k)
theorem erase_last {α : Type} (l : List α) : l.eraseIdx (l.length - 1) = l.dropLast := by
  induction l with
  | nil => rfl
  | cons a r ih =>
    cases r with
    | nil => rfl
    | cons b r =>
      have e : (a :: b :: r).length - 1 = ((b :: r).length - 1) + 1 := by
        have h1 : (a :: b :: r).length = r.length + 2 := rfl
        have h2 : (b :: r).length = r.length + 1 := rfl
        omega
      rw [e, List.eraseIdx_cons_succ, ih]
      all_goals rfl
theorem foldl_rep (its : List Value) : ∀ (k : Nat) (acc : List Value),
    List.foldl (fun x1 x2 => x1 ++ x2) acc.toArray (List.replicate k its.toArray) = (acc ++ (List.replicate k its).flatten).toArray
  | 0, acc => by simp
  | k + 1, acc => by
    have e : acc.toArray ++ its.toArray = (acc ++ its).toArray := by simp
    have e2 : (acc ++ its) ++ (List.replicate k its).flatten = acc ++ (List.replicate (k + 1) its).flatten := by
      rw [List.replicate_succ, List.flatten_cons, List.append_assoc]
    rw [← e2, ← foldl_rep its k (acc ++ its), ← e, List.replicate_succ, List.foldl_cons]
section
variable {X : Cx} {pins : List (Addr × Obj)} {σ : St} {H : Hp} {s : Shared} {l b : Addr} {xs ys zs : List V}
theorem Inv.lset {its its' : List Value} {n : Nat} {f : Array Value → Array Value} {t' : Nat} (I : Inv X pins σ H s) (hH : H l = some (.lst xs))
    (e : s.heap.get? l = some { cls := .type "list", data := .seq its.toArray n }) (hf : f its.toArray = its'.toArray) (hv : Vals ys its') (hz : ys.length ≤ sizeLine) :
    Inv X pins σ (upd H l (.lst ys)) { s with heap := s.heap.update l (Obj.mapSeq f), toks := t' } := by
  have q := PySem.IsL.update e f
  rw [hf] at q
  refine I.write (x := l) (e := l) (by rw [hH]; exact trivial) (.inl rfl) (fun b' u hb hu => (Heap.get?_update_other s.heap (Obj.mapSeq f) (Ne.symm hb)).trans hu) ⟨_, q⟩ ?_
  exact ⟨hz, its', _, hv, q⟩
theorem Inv.lnew {its : List Value} {t' : Nat} (I : Inv X pins σ H s) (hv : Vals ys its) (hz : ys.length ≤ sizeLine) :
    Inv X pins σ (upd H s.heap.objs.size (.lst ys)) { s with heap := s.heap.push { cls := .type "list", data := .seq its.toArray }, toks := t' } :=
  I.laid (fun _ _ q => Heap.get?_push_of_some _ q) (Nat.le_refl _) ⟨hz, its, 0, hv, Heap.get?_push_size _ rfl⟩
theorem Inv.fresh (I : Inv X pins σ H s) : H s.heap.objs.size = none := I.hok.fresh (Nat.le_refl _)
theorem Inv.lstM (I : Inv X pins σ H s) (hH : H l = some (.lst xs)) : xs.length ≤ sizeLine ∧ ∃ (its : List Value) (n : Nat), Vals xs its ∧ xs.length = its.length ∧ s.heap.get? l = some { cls := .type "list", data := .seq its.toArray n } := by
  obtain ⟨z, its, n, r, e⟩ := I.hok l _ hH
  exact ⟨z, its, n, r, r.length, e⟩
theorem notLongL {n : Nat} (h : n ≤ sizeLine) : Builtin.List.listTooLong n = false := by
  unfold Builtin.List.listTooLong
  exact decide_eq_false (by omega)
end
section
variable {X : Cx}
def rAppend : V → List V → Hp → VK → Prop := fun x vs H Q => ∃ l xs y, x = .ref l ∧ vs = [y] ∧ H l = some (.lst xs) ∧ xs.length < sizeLine ∧ Q .non (upd H l (.lst (xs ++ [y])))
theorem mt_append : MtM X "list.append" rAppend := by
  intro pins s σ H x vs v us Q I rx rv h
  obtain ⟨l, xs, y, rfl, rfl, hH, hz, q⟩ := h
  cases rx
  obtain ⟨u, rfl, ru⟩ := rv.one
  obtain ⟨z, its, n, r, hl, e⟩ := I.lstM hH
  refine call_meets F.slot_list_append ⟨_, e, rfl⟩ F.entry_list_append (F.args_list_append_2 _ _) (PySem.list_append l its.toArray n u (by rw [List.size_toArray]; omega)) ⟨e, ?_⟩
  refine ⟨.non, _, I.lset (its' := its ++ [u]) hH e (by simp) (r.append (.cons ru .nil)) ?_, rfl, q⟩
  rw [List.length_append, List.length_singleton]
  omega
def rExtend : V → List V → Hp → VK → Prop := fun x vs H Q => ∃ l b xs zs, x = .ref l ∧ vs = [.ref b] ∧ H l = some (.lst xs) ∧ H b = some (.lst zs) ∧ xs.length + zs.length ≤ sizeLine ∧ Q .non (upd H l (.lst (xs ++ zs)))
theorem mt_extend : MtM X "list.extend" rExtend := by
  intro pins s σ H x vs v us Q I rx rv h
  obtain ⟨l, b, xs, zs, rfl, rfl, hH, hB, hz, q⟩ := h
  cases rx
  obtain ⟨u, rfl, ru⟩ := rv.one
  cases ru
  obtain ⟨z, its, n, r, hl, e⟩ := I.lstM hH
  obtain ⟨z2, its2, n2, r2, hl2, e2⟩ := I.lstM hB
  have hsz : its.toArray.size + its2.toArray.size ≤ sizeLine := by rw [List.size_toArray, List.size_toArray]; omega
  have hlong : ¬ (!its.toArray.isEmpty && Builtin.List.listTooLong (its.toArray.size + its2.toArray.size)) = true := by
    rw [notLongL hsz, Bool.and_false]
    exact Bool.false_ne_true
  refine call_meets F.slot_list_extend ⟨_, e, rfl⟩ F.entry_list_extend (F.args_list_extend_2 _ _)
    (AutoSeq1.list_extend_list_list_0 l its.toArray n b its2.toArray n2 hlong (by rw [List.size_toArray]; omega) (by omega)) ⟨e, e2, ?_⟩
  refine ⟨.non, _, I.lset (its' := its ++ its2) hH e (by simp) (r.append r2) ?_, rfl, q⟩
  rw [List.length_append]
  omega
def rPop : V → List V → Hp → VK → Prop := fun x vs H Q => ∃ l xs y, x = .ref l ∧ vs = [] ∧ H l = some (.lst xs) ∧ xs[xs.length - 1]? = some y ∧ Q y (upd H l (.lst xs.dropLast))
theorem mt_pop : MtM X "list.pop" rPop := by
  intro pins s σ H x vs v us Q I rx rv h
  obtain ⟨l, xs, y, rfl, rfl, hH, hy, q⟩ := h
  cases rx
  have hus := rv.zero
  subst hus
  obtain ⟨z, its, n, r, hl, e⟩ := I.lstM hH
  obtain ⟨u, hu, ru⟩ := r.get hy
  have hy' : its.toArray[its.toArray.size - 1]? = some u := by
    show its.toArray[its.length - 1]? = some u
    rw [← Array.getElem?_toList, ← hl]
    exact hu
  refine call_meets F.slot_list_pop ⟨_, e, rfl⟩ F.entry_list_pop (F.args_list_pop_1 _) (MeetsSeq.list_pop_last l its.toArray n u hy' (by rw [List.size_toArray]; omega)) ⟨e, ?_⟩
  refine ⟨y, _, I.lset (its' := its.dropLast) hH e ?_ r.dropLast ?_, ru, q⟩
  · show its.toArray.eraseIdxIfInBounds (its.toArray.size - 1) = its.dropLast.toArray
    rw [List.size_toArray, List.eraseIdxIfInBounds_toArray, erase_last]
  · rw [List.length_dropLast]
    omega
def rCat : R2 := fun x y H Q => ∃ l b xs zs, x = .ref l ∧ y = .ref b ∧ H l = some (.lst xs) ∧ H b = some (.lst zs) ∧ xs.length + zs.length ≤ sizeLine ∧ ∀ p, H p = none → Q (.ref p) (upd H p (.lst (xs ++ zs)))
theorem op_cat : OpR X (binaryOp .Add) rCat := by
  intro pins s σ H x y v u Q I rx ry h
  obtain ⟨l, b, xs, zs, rfl, rfl, hH, hB, hz, q⟩ := h
  cases rx
  cases ry
  obtain ⟨z, its, n, r, hl, e⟩ := I.lstM hH
  obtain ⟨z2, its2, n2, r2, hl2, e2⟩ := I.lstM hB
  refine PySem.P.add_list e e2 ?_ (by rw [List.size_toArray, List.size_toArray]; omega)
  have ea : its.toArray ++ its2.toArray = (its ++ its2).toArray := by simp
  rw [ea]
  exact ⟨.ref _, _, I.lnew (t' := s.toks) (r.append r2) (by rw [List.length_append]; omega), rfl, q _ I.fresh⟩
def rRep : R2 := fun x y H Q => ∃ l k xs, x = .ref l ∧ y = .int k ∧ H l = some (.lst xs) ∧ -(2 ^ 63) ≤ k ∧ k < 2 ^ 63 ∧ xs.length * k.toNat ≤ sizeLine ∧
  ∀ p, H p = none → Q (.ref p) (upd H p (.lst (List.replicate k.toNat xs).flatten))
theorem len_rep {α : Type} (xs : List α) (k : Nat) : (List.replicate k xs).flatten.length = k * xs.length := by
  induction k with
  | zero => simp
  | succ k ih => rw [List.replicate_succ, List.flatten_cons, List.length_append, ih, Nat.succ_mul, Nat.add_comm]
theorem op_rep : OpR X (binaryOp .Mult) rRep := by
  intro pins s σ H x y v u Q I rx ry h
  obtain ⟨l, k, xs, rfl, rfl, hH, h1, h2, hz, q⟩ := h
  cases rx
  obtain ⟨t, rfl⟩ := ry
  obtain ⟨z, its, n, r, hl, e⟩ := I.lstM hH
  have hlen : its.toArray.size * k.toNat ≤ sizeLine := by rw [List.size_toArray, ← hl]; exact hz
  have hcap : ¬ its.toArray.size * k.toNat > (2 ^ 63 - 1) / 8 := by
    have : (sizeLine : Nat) ≤ (2 ^ 63 - 1) / 8 := by decide
    omega
  have hfit : ¬ (!Builtin.List.listFitsIndex k) = true := by
    rw [fitsIndex_both h1 h2]
    exact Bool.false_ne_true
  have hlong : ¬ Builtin.List.listTooLong (its.toArray.size * k.toNat) = true := by
    rw [notLongL hlen]
    exact Bool.false_ne_true
  have hnew : List.foldl (fun x1 x2 => x1 ++ x2) #[] (List.replicate (if its.toArray.isEmpty = true then 0 else k.toNat) its.toArray) = (List.replicate k.toNat its).flatten.toArray := by
    have f0 : ∀ m : Nat, List.foldl (fun x1 x2 => x1 ++ x2) #[] (List.replicate m its.toArray) = (List.replicate m its).flatten.toArray := fun m => by
      have := foldl_rep its m []
      rw [List.nil_append] at this
      exact this
    rw [f0]
    cases its with
    | nil => simp
    | cons a r' => rw [if_neg (by simp)]
  refine wpAny_binaryOp_repeat_ref (T := "list") (U := "int") (by decide) ⟨_, e, rfl⟩ (fun s' => typeIs_int s' k t) noFill_list_mul F.fills_int_mul F.slot_int_rmul repeat_list F.slot_int_index.lookup
    (call_meets F.slot_int_rmul (typeIs_int s k t) F.entry_int_rmul (F.args_int_rmul_2 _ _) (int___rmul___int_list k t l its.toArray n)
      ⟨e, rfl, ⟨_, e, rfl⟩, call_meets F.slot_list_mul ⟨_, e, rfl⟩ F.entry_list_mul (F.args_list_mul_2 _ _) (AutoListH.list___mul___list_int_3 l its.toArray n k t hfit hcap hlong) ⟨e, ?_⟩⟩)
  rw [hnew]
  exact ⟨.ref _, _, I.lnew (t' := s.toks) (r.rep k.toNat) (by rw [len_rep, Nat.mul_comm]; exact hz), rfl, q _ I.fresh⟩
end
section
variable {prog : Program} {w : World} {A : Around} {E : Value → Shared → Prop} {s : Shared}
end
section
variable {X : Cx}
end
end L2
namespace Att
open PySem PySem.W PySem.Calls PyProof.Rows
theorem ints_of_wellAll {P : Params} {h : Heap} : ∀ (ns : List Int) (vs : List Value), WellAll P h vs (ns.map WData.int) → IntsAre vs ns := by
  intro ns
  induction ns with
  | nil =>
    intro vs w
    rw [List.map_nil] at w
    cases w
    exact .nil
  | cons n ns ih =>
    intro vs w
    rw [List.map_cons] at w
    cases w with
    | cons a b =>
      cases a
      exact .cons _ _ (ih _ b)
theorem script_of {l : OpenLaw} {n : Nat} (hn : l.most = some n) {P : Params} {h : Heap} {args : List WData} {vals : List Value}
    (hpre : l.row.toRowW.claim.pre args = true) (hwl : WellAll P h vals args) :
    ∃ a vs ns, vals = [Value.ref a] ∧ args = [WData.list (ns.map WData.int)] ∧ h.get? a = some { cls := .type "list", data := .seq vs.toArray } ∧ IntsAre vs ns ∧ ns.length ≤ n := by
  have hsh : WShape.hasAll [] args [.list .int] = true := (pre_splitW hpre).1
  have hc : l.pre.holds [] { args := args } = true := (pre_splitW hpre).2
  obtain ⟨d, r, rfl, h1, h2⟩ := hasAllW_cons hsh
  obtain rfl := hasAllW_nil h2
  obtain ⟨xs, rfl, h3⟩ := hasW_list h1
  obtain ⟨ns, rfl⟩ := items_int h3
  have hlen : ns.length ≤ n := by
    unfold OpenLaw.pre at hc
    have h4 : (WTm.not (.lt (.lit (.int (n : Int))) (.len (.arg 0)))).holds [] { args := [.list (ns.map .int)] } = true := by
      have h4 := (holds_andW hc).1
      rw [hn] at h4
      exact h4
    have h5 := condW_of h4 (w_not (w_lt w_lit (w_len_list (w_arg rfl))))
    rw [List.length_map] at h5
    refine Nat.le_of_not_lt fun q => ?_
    have q' : (n : Int) < ((ns.length : Nat) : Int) := by omega
    first
      | (rw [decide_eq_true q'] at h5; exact absurd h5 (by decide))
      | (simp at h5; omega)
  cases hwl with
  | cons w1 w2 =>
    cases w2
    cases w1 with
    | list ho hall => exact ⟨_, _, ns, rfl, rfl, ho, ints_of_wellAll ns _ hall, hlen⟩
theorem post_true (l : OpenLaw) (args : List WData) : l.row.toRowW.claim.post args (.bool true) args = true :=
  postW_of (r := l.row.toRowW) (X := (true == true))
    (show WShape.has [] (.bool true) .bool = true by first | rfl | decide | simp [WShape.has, WShape.arms, WShape.armsAll])
    (show (WTm.eq .res (.lit (.bool true))).value [] { args := args, res := some (.bool true), after := args } = some (.bool (true == true)) from w_eq_bool (w_res rfl) w_lit) rfl
theorem attach_call {l : OpenLaw} {n : Nat} {q : Program} {loose : List Str} {XP : (Str → Option Value) → Heap → Prop} {YP : World → Heap → Prop} {d : DefRec}
    (hn : l.most = some n) (hdf : d.params.defaults = [])
    (call : ∀ (w : World) (s₀ s₁ : Shared) (mg mb : Str → Option Value) (fa : Addr) (o : Obj) (pm cd doc : Value) (a : Addr) (vs : List Value) (ns : List Int),
      Ground q loose [] XP w s₀ mg mb s₁.heap → YP w s₁.heap →
      s₁.heap.get? fa = some o → o.data = .func (docDef d.name d.params d.body d.scope pm cd doc) → s₁.heap.CodeRec cd d.name → mg d.name = some (.ref fa) →
      s₁.heap.get? a = some { cls := .type "list", data := .seq vs.toArray } → IntsAre vs ns → ns.length ≤ n → s₁.gens = #[] →
      codeAny (model l.prog w) callerA (.call (.ref fa) ⟨[.ref a], []⟩) (fun r s' => r = .ok (.ret (.bool true)) ∧ OldK s₁.heap s'.heap ∧ s'.os = s₁.os ∧ AllBare s'.gens) s₁) :
    WalkO q loose XP YP l.row.toRowW d [] (fun f vs => PySem.call f vs) := by
  intro w s₀ s₁ mg mb G Y fa o pm cd doc dV kV ho hd hcd hD hmg hg args vals as hpre hlay hrd hwl hlo
  obtain rfl : dV = .none := Dflts.none hD hdf
  obtain rfl : kV = .none := Dflts.noKw hD
  obtain ⟨a, vs, ns, rfl, rfl, hobj, hints, hlen⟩ := script_of hn hpre hwl
  refine enter_call (codeAny_mono (call w s₀ s₁ mg mb fa o pm cd doc a vs ns G Y ho (fd_plain hd) hcd hmg hobj hints hlen hg) fun r s' hq => ?_)
  obtain ⟨rfl, h2, h3, h4⟩ := hq
  exact ⟨.inl ⟨.bool true, .bool true, [], rfl, fun _ => rfl, .bool true, post_true l _, fun _ => ⟨List.Pairwise.nil, fun _ hm => (nomatch hm)⟩⟩, h2, h3, h4⟩
section
variable {prog : Program} {w : World} {A : Around} {E : Value → Shared → Prop} {s : Shared} {K : Frag}
end
end Att
namespace L2
open PySem PySem.Spec PyProof.Rows
theorem vals_ints : ∀ {vs : List Value} {ns : List Int}, IntsAre vs ns → Vals (ns.map V.int) vs
  | _, _, .nil => .nil
  | _, _, .cons n t h => .cons ⟨t, rfl⟩ (vals_ints h)
def Only (H : Hp) : Prop := ∀ b, H b = none ∨ ∃ o xs, H b = some (.frz o (.lst xs))
theorem law_call {P : Program} {w : World} {K : PySem.W.Frag} {mg mb : Str → Option Value} {CX : CXT} {k : Nat} {fa a : Addr} {fd : FuncData} {x : Str} {sp : Sp} {s₁ : Shared} {vs : List Value} {ns : List Int}
    (KX : K.In s₁.heap) (hns : s₁.heap.Ns mainGlobals mg) (hb : s₁.heap.Ns builtinsNs mb) (hbb : ∀ x : Str, x ≠ "__name__" → mb x = bootBuiltins x) (hlim : s₁.heap.NoLimit) (hg : s₁.gens = #[])
    (ha : s₁.heap.get? a = some { cls := .type "list", data := .seq vs.toArray }) (hi : IntsAre vs ns) (hl : ns.length ≤ sizeLine) (hr : Room k callerA)
    (F : ∀ base : Heap, K.In base → base.Ns mainGlobals mg → FnOk P w K mg base CX k fa fd [x] sp) (hbind : ∀ (s : Shared) (u : Value), BindsTo s fd ⟨[u], []⟩ [(x, u)])
    (hsp : ∀ H : Hp, Only H → SqL K H a (ns.map V.int) → sp [.ref a] H (fun v _ => v = .bl true) fun _ _ _ => False)
    (hCX : ∀ H e s', CX [] H s₁ (fun _ _ _ => False) e s' → False) :
    codeAny (model P w) callerA (.call (.ref fa) ⟨[.ref a], []⟩) (fun r s' => r = .ok (.ret (.bool true)) ∧ OldK s₁.heap s'.heap ∧ s'.os = s₁.os ∧ AllBare s'.gens) s₁ := by
  have rv := vals_ints hi
  have lenV := hi.length
  have core : ∀ H : Hp, Only H → SqL K H a (ns.map V.int) → HOk P w H s₁.heap → (∀ b, H b ≠ none → b = a) → (H a ≠ none → K.lookup a = none) →
      codeAny (model P w) callerA (.call (.ref fa) ⟨[.ref a], []⟩) (fun r s' => r = .ok (.ret (.bool true)) ∧ OldK s₁.heap s'.heap ∧ s'.os = s₁.os ∧ AllBare s'.gens) s₁ := by
    intro H hO hS hok hA hK
    have base_of : ∀ {b : Addr} {o : Obj}, s₁.heap.get? b = some o → H b = none → (hidT s₁.heap H).get? b = some o := fun e n => hidT_get e n
    have noA : ∀ {b : Addr} {o : Obj} {es : Array DictEntry} {ep : Nat}, s₁.heap.get? b = some o → o.data = .dict es ep → H b = none := fun {b o es ep} e d => by
      cases q : H b with
      | none => rfl
      | some u =>
        have e' : b = a := hA b (by rw [q]; simp)
        subst e'
        rw [ha] at e; cases e
        have d' : Data.seq vs.toArray _ = Data.dict es ep := d
        cases d'
    have nsK : ∀ {b : Addr} {m : Str → Option Value}, s₁.heap.Ns b m → (hidT s₁.heap H).Ns b m := fun {b m} ⟨o, es, ep, e, d, r⟩ => ⟨o, es, ep, base_of e (noA e d), d, r⟩
    have hKb : K.In (hidT s₁.heap H) := fun b o e => base_of (KX b o e) (by
      cases q : H b with
      | none => rfl
      | some u =>
        have e' : b = a := hA b (by rw [q]; simp)
        subst e'
        rw [hK (by rw [q]; simp)] at e; cases e)
    have hM : Mod K mg (hidT s₁.heap H) := ⟨hKb, nsK hns, ⟨mb, nsK hb, hbb⟩, let ⟨mc, h1, h2⟩ := hlim; ⟨mc, nsK h1, h2⟩⟩
    have e0 : Env0 P w K mg (hidT s₁.heap H) callerA [] s₁ H := ⟨rfl, hM, fun b o e => of_hidT e, Nat.le_of_eq (hidT_size _ _), trivial, fun b hb => absurd (show b ∈ ([] : List Addr) from hb) (by simp), hok, .of_eq hg⟩
    refine codeAny_mono ((F _ hKb (nsK hns)).run callerA [] s₁ H ⟨[.ref a], []⟩ [.ref a] [.ref a] _ _ hr e0 (hbind s₁ (.ref a)) (.cons rfl .nil) (hsp H hO hS)) fun r s' h => ?_
    cases r with
    | error e => exact (hCX H e s' h).elim
    | ok fl =>
      cases fl with
      | next => exact False.elim h
      | brk => exact False.elim h
      | cont => exact False.elim h
      | ret u =>
        obtain ⟨v, H', os, bare, un, hok', r', q⟩ := h
        have q' : v = .bl true := q
        subst q'
        obtain rfl : u = Value.bool true := r'
        refine ⟨rfl, OldK.of_keep fun b o e => ?_, os, bare⟩
        cases q : H b with
        | none => exact un.keep b o e q (by intro z; exact absurd (show b ∈ ([] : List Addr) from z) (by simp)) (by simp)
        | some u =>
          rcases hO b with z | ⟨ob, xs, z⟩
          · rw [q] at z; cases z
          · have z2 := un.frzs b ob _ z
            obtain ⟨e1, _⟩ := hok b _ z
            obtain ⟨e2, _⟩ := hok' b _ z2
            rw [e] at e1; cases e1
            exact e2
  cases hk : K.lookup a with
  | some o =>
    have e := KX a o hk
    rw [ha] at e
    cases e
    refine core (fun _ => none) (fun _ => .inl rfl) (.inr ⟨_, vs.toArray, _, hk, rfl, rfl, rfl, by rw [List.size_toArray, lenV]; exact hl, by simpa using rv⟩) (fun b u z => by have z' : (none : Option HO) = some u := z; cases z') (fun b z => absurd rfl z) fun z => absurd rfl z
  | none =>
    refine core (fun b => if b = a then some (.frz { cls := .type "list", data := .seq vs.toArray } (.lst (ns.map V.int))) else none) (fun b => ?_) (.inl (.inr ⟨{ cls := .type "list", data := .seq vs.toArray }, if_pos rfl⟩)) (fun b u z => ?_) (fun b z => ?_) fun _ => hk
    · by_cases hb : b = a
      · exact .inr ⟨_, _, if_pos hb⟩
      · exact .inl (if_neg hb)
    · by_cases hb : b = a
      · have z' := (if_pos hb).symm.trans z
        cases z'
        subst hb
        exact ⟨ha, by rw [List.length_map]; exact hl, vs, _, rv, ha⟩
      · have z' := (if_neg hb).symm.trans z
        cases z'
    · by_cases hb : b = a
      · exact hb
      · exact absurd (if_neg hb) z
end L2
namespace L2
open PySem PySem.Spec PyProof.Rows
theorem walk_of {l : PySem.W.OpenLaw} {n k : Nat} {q : Program} {loose : List Str} {XP : (Str → Option Value) → Heap → Prop} {YP : World → Heap → Prop} {d : DefRec} {K : Params → PySem.W.Frag} {CX : World → CXT} {sp : World → Sp} {x : Str}
    (hn : l.most = some n) (hn2 : n ≤ sizeLine) (hdf : d.params.defaults = []) (hr : Room k callerA)
    (hY : ∀ (w : World) (h : Heap), YP w h → (K w.params).In h)
    (F : ∀ (w : World) (mg : Str → Option Value) (fa : Addr) (h : Heap), (K w.params).In h → h.Ns mainGlobals mg → mg d.name = some (.ref fa) →
      ∃ fd : FuncData, (∀ (s : Shared) (u : Value), BindsTo s fd ⟨[u], []⟩ [(x, u)]) ∧
        ∀ base : Heap, (K w.params).In base → base.Ns mainGlobals mg → FnOk l.prog w (K w.params) mg base (CX w) k fa fd [x] (sp w))
    (hsp : ∀ (w : World) (H : Hp) (a : Addr) (ns : List Int), ns.length ≤ n → Only H → SqL (K w.params) H a (ns.map V.int) → sp w [.ref a] H (fun v _ => v = .bl true) fun _ _ _ => False)
    (hCX : ∀ (w : World) (H : Hp) (s : Shared) (e : Value) (s' : Shared), CX w [] H s (fun _ _ _ => False) e s' → False) :
    PySem.W.WalkO q loose XP YP l.row.toRowW d [] (fun f vs => PySem.call f vs) := by
  refine Att.attach_call hn hdf fun w s₀ s₁ mg mb fa o pm cd doc a vs ns G Y ho hd hcd hmg hobj hints hlen hg => ?_
  have KX := hY w _ Y
  obtain ⟨fd, hb, hF⟩ := F w mg fa _ KX G.T.g hmg
  exact law_call KX G.T.g G.T.b G.T.builtins G.T.nolimit hg hobj hints (Nat.le_trans hlen hn2) hr hF hb (fun H hO hS => hsp w H a ns hlen hO hS) fun H e s' => hCX w H s₁ e s'
end L2
namespace L2
open PySem PySem.Spec PyProof.Rows
def defArgs (s : Stmt) : Arguments := match s with
  | .FunctionDef _ a _ _ _ _ _ _ _ _ => a
  | _ => { posonlyargs := [], args := [], vararg := none, kwonlyargs := [], kw_defaults := [], kwarg := none, defaults := [] }
def defBody (s : Stmt) : List Stmt := match s with
  | .FunctionDef _ _ b _ _ _ _ _ _ _ => b
  | _ => []
def defScope (s : Stmt) : Scope := match s with
  | .FunctionDef _ _ _ _ _ _ sc _ _ _ => sc
  | _ => { kind := .function, names := [], isGenerator := false, isCoroutine := false }
abbrev CX0 : CXT := fun _ _ _ _ _ _ => False
abbrev E0 : XK := fun _ _ _ => False
theorem pass0 {X : Cx} : Passes CX0 X E0 := fun _ _ _ _ _ _ _ h => h.elim
structure Fun (K : PySem.W.Frag) (x qual : Str) (st : Stmt) (f : Addr) (fd : FuncData) : Prop where
  ex : ∃ (oc : Value) (od : Option Addr) (kV doc pm : Value) (an : Option Addr) (cdv ct : Value) (osl : Array (Option Value)),
    fd = PySem.W.fnOf x qual (defArgs st) (defBody st) (defScope st) .none kV doc pm an cdv ct ∧ K.lookup f = some ⟨oc, od, .func fd, osl⟩ ∧ PySem.W.codeIn K cdv qual = true
  kp : PySem.W.keepIn K (.ref f) = true
section
variable {P : Program} {w : World} {K : PySem.W.Frag} {mg : Str → Option Value} {base : Heap}
theorem Fun.ok {x qual : Str} {st : Stmt} {f : Addr} {fd : FuncData} {N ps : List Str} {k : Nat} {sp : Sp} (F : Fun K x qual st f fd) (S : FnScope N ps (defScope st)) (len : ∀ vs H Q E, sp vs H Q E → vs.length = ps.length)
    (hbody : ∀ (cdv : Value) (A : Around) (outer : List Env) (s : Shared) (H : Hp) (vs : List V) (Q : VK) (E : XK), Room k (A.deeper (envOfC qual (defScope st) s.heap.objs.size f cdv)) → sp vs H Q E →
      ∃ t, PSs (cxOf CX0 P w K mg base N qual (defScope st) f cdv A outer s H E).nox (defBody st) t ∧ t { nx := fun _ H' => Q .non H', rt := Q } (start N vs) H) : FnOk P w K mg base CX0 (k + 1) f fd ps sp := by
  obtain ⟨oc, od, kV, doc, pm, an, cdv, ct, osl, rfl, lk, hcd⟩ := F.ex
  refine fn_of lk hcd S len fun A outer s H vs Q E hr hsp => ?_
  obtain ⟨t, h, q⟩ := hbody cdv A outer s H vs Q E hr hsp
  exact ⟨t, h.nox, q⟩
theorem Fun.binds {x qual : Str} {st : Stmt} {f : Addr} {fd : FuncData} {ps : List Str} (F : Fun K x qual st f fd)
    (h : ∀ (kV doc pm : Value) (an : Option Addr) (cdv ct : Value) (us : List Value), us.length = ps.length → bindArgs (PySem.W.fnOf x qual (defArgs st) (defBody st) (defScope st) .none kV doc pm an cdv ct) ⟨us, []⟩ = pure (ps.zip us)) : Binds K fd ps [] := by
  obtain ⟨oc, od, kV, doc, pm, an, cdv, ct, osl, rfl, lk, hcd⟩ := F.ex
  exact .all (h kV doc pm an cdv ct)
theorem fun_mk {x qual : Str} {st : Stmt} {f : Addr} {oc : Value} {od an : Option Addr} {osl : Array (Option Value)} {kV doc pm cdv ct : Value} (l : K.lookup f = some ⟨oc, od, .func (PySem.W.fnOf x qual (defArgs st) (defBody st) (defScope st) .none kV doc pm an cdv ct), osl⟩)
    (c : PySem.W.codeIn K cdv qual = true) (k : PySem.W.keepIn K (.ref f) = true) : Fun K x qual st f (PySem.W.fnOf x qual (defArgs st) (defBody st) (defScope st) .none kV doc pm an cdv ct) := ⟨⟨oc, od, kV, doc, pm, an, cdv, ct, osl, rfl, l, c⟩, k⟩
end
section
variable {X : Cx}
theorem pv (i : Nat) {x : Str} {pos : Pos} (hN : X.N[i]? = some x := by rfl) (hv : Vis X.env.scope x := by first | exact Or.inl rfl | exact Or.inr (Or.inl rfl) | exact Or.inr (Or.inr rfl)) (hd : (x == ("__debug__" : Str)) = false := by decide)
    (hcd : (x == ("__classdict__" : Str)) = false := by decide) : PE X (.Name x pos) (tVar i) := pe_var hN hv hd hcd
end
theorem ite2 {c A B : Prop} [Decidable c] (h1 : c → A) (h2 : ¬ c → B) : if c then A else B := by
  by_cases h : c
  · rw [if_pos h]
    exact h1 h
  · rw [if_neg h]
    exact h2 h
def Same (H H' : Hp) : Prop := ∀ b o, H b = some o → H' b = some o
theorem Same.refl (H : Hp) : Same H H := fun _ _ h => h
theorem Same.trans {H H1 H2 : Hp} (a : Same H H1) (b : Same H1 H2) : Same H H2 := fun c o h => b c o (a c o h)
theorem Same.free {H H' : Hp} (e : Same H H') {l : Addr} (h : H' l = Option.none) : H l = Option.none := by
  cases q : H l with
  | none => rfl
  | some o =>
    rw [e l o q] at h
    cases h
theorem Same.seq {K : PySem.W.Frag} {H H' : Hp} {a : Addr} {xs : List V} (e : Same H H') (h : SqL K H a xs) : SqL K H' a xs := by
  rcases h with (h | ⟨o, h⟩) | h
  · exact .inl (.inl (e _ _ h))
  · exact .inl (.inr ⟨o, e _ _ h⟩)
  · exact .inr h
end L2
set_option Elab.async false
set_option linter.all false
set_option maxRecDepth 100000
set_option maxHeartbeats 4000000
namespace L2
open PySem PySem.Spec PyProof.Rows
theorem part_of {v : Value} {o : Option Int} (p : IsPart v o) : ∃ q : Option (Int × Tok), v = partValue q ∧ q.map (·.1) = o := by
  cases p with
  | none => exact ⟨none, rfl, rfl⟩
  | int i t => exact ⟨some (i, t), rfl, rfl⟩
def rSlS : V → Option Int → Option Int → Hp → VK → Prop := fun x lo hi H Q => ∃ z, x = .str z ∧ z.length ≤ sizeLine ∧ Q (.str (Txt.slice z lo hi)) H
theorem sl_str {X : Cx} : SlR X rSlS := by
  intro pins s σ H x v vl vu lo hi sl Q I rx hs pl pu h
  obtain ⟨z, rfl, hz, q⟩ := h
  obtain ⟨t, rfl⟩ := rx
  obtain ⟨ql, rfl, rfl⟩ := part_of pl
  obtain ⟨qu, rfl, rfl⟩ := part_of pu
  refine ⟨"str", _, F.slot_str_getitem.lookup, typeIs_str _ _ _, ?_⟩
  refine wpAny_getItem_str_slice (l := ql) (u := qu) (st := none) hs rfl ?_
  exact post_val_or_str ⟨Nat.le_trans (Txt.slice_le z _ _) hz, fun t' k => ⟨.str _, H, I.tok _, ⟨t', rfl⟩, q⟩⟩
def Its (x : Str) : It := ⟨fun i _ => i < x.cps.size, fun i H v H' => H' = H ∧ ∃ c, x.cps[i]? = some c ∧ v = .str ⟨#[c]⟩, fun i _ => x.cps.size ≤ i⟩
theorem turn_str {P : Program} {w : World} {K : PySem.W.Frag} {tg : Expr} (x : Str) (t : Tok) (it : Addr) (ty : String) (hty : ty = "str_ascii_iterator" ∨ ty = "str_iterator") :
    Turn P w K tg (Its x) [it] it (fun i h => h.IsStrIter it ty x t i) where
  mem := by simp
  obj := fun i h st b hb => by
    have e : b = it := by simpa using hb
    subst e
    obtain ⟨o, e, c, d⟩ := st
    exact ⟨o, e, fun v z => by rw [d] at z; cases z⟩
  keep := fun i h h' st k => by
    obtain ⟨o, e, r⟩ := st
    exact ⟨o, k it (by simp) o e, r⟩
  item := by
    intro X hP hw hK hc i pins s σ H E I hf st hg
    subst hP hw hK
    obtain ⟨f0, f1, f2, f3, f4, f5⟩ := hf it (by simp)
    have hg' : i < x.cps.size := hg
    have hx : x.cps[i]? = some x.cps[i] := by simp [hg']
    rcases hty with rfl | rfl
    · refine wpAny_pyNext_ascii_item st hx fun h' st' sb => ?_
      have I1 : Inv X pins σ H { s with heap := h', toks := s.toks + 1 } := I.turned (fun b o hb e => (sb.2 b hb).trans e) f0 f1 f3 f4 f5
      obtain ⟨o, e, c, d⟩ := id st'
      exact ⟨_, rfl, go_of (s := { s with heap := h', toks := s.toks + 1 }) e c d (by decide) ⟨.str ⟨#[x.cps[i]]⟩, H, I1, ⟨_, rfl⟩, ⟨rfl, _, hx, rfl⟩, st', fun b hb => (hf b hb).1⟩⟩
    · refine wpAny_pyNext_wide_item st hx fun h' st' sb => ?_
      have I1 : Inv X pins σ H { s with heap := h', toks := s.toks + 1 } := I.turned (fun b o hb e => (sb.2 b hb).trans e) f0 f1 f3 f4 f5
      obtain ⟨o, e, c, d⟩ := id st'
      exact ⟨_, rfl, go_of (s := { s with heap := h', toks := s.toks + 1 }) e c d (by decide) ⟨.str ⟨#[x.cps[i]]⟩, H, I1, ⟨_, rfl⟩, ⟨rfl, _, hx, rfl⟩, st', fun b hb => (hf b hb).1⟩⟩
  done := by
    intro X hP hw hK hc i pins s σ H E I hf st hg
    subst hP hw hK
    obtain ⟨f0, f1, f2, f3, f4, f5⟩ := hf it (by simp)
    have hx : x.cps[i]? = none := by
      have : x.cps.size ≤ i := hg
      simp [this]
    rcases hty with rfl | rfl
    · exact wpAny_pyNext_ascii_end (I.ok.hd hc) st hx fun h' eb => ⟨rfl, I.turned (t' := s.toks) (fun b o hb e => eb b o hb e) f0 f1 f3 f4 f5⟩
    · exact wpAny_pyNext_wide_end (I.ok.hd hc) st hx fun h' eb => ⟨rfl, I.turned (t' := s.toks) (fun b o hb e => eb b o hb e) f0 f1 f3 f4 f5⟩
  self := fun _ _ _ _ _ st h => by
    rcases hty with rfl | rfl
    · exact wpAny_pyIter_striter_ascii st h
    · exact wpAny_pyIter_striter_wide st h
theorem pi_str_at {X : Cx} {tg : Expr} {pins : List (Addr × Obj)} {σ : St} {H1 : Hp} {s1 : Shared} {R : It → Hp → Prop} {z : Str} {v : Value} {E : Value → Shared → Prop} (I1 : Inv X pins σ H1 s1) (r1 : RelV (.str z) v) (q : R (Its z) H1) :
    wpAny (model X.prog X.w) X.A (pyIter v) (PIE X pins σ tg R) E s1 := by
  obtain ⟨t, rfl⟩ := r1
  have fp : ∀ (b : Addr), b ∈ [s1.heap.objs.size] → FpOk X pins H1 b := fun b hb => by
    have e : b = s1.heap.objs.size := by simpa using hb
    subst e
    exact I1.fpOk (Nat.le_refl _) (I1.hok.fresh (Nat.le_refl _))
  cases ha : z.cps.all (· < 128)
  · refine wpAny_pyIter_wide ha ?_
    exact ⟨s1.heap.objs.size, [s1.heap.objs.size], _, _, H1, rfl, I1.kept (t' := s1.toks) fun b o e => Heap.get?_push_of_some _ e, turn_str z t _ "str_iterator" (.inr rfl), ⟨_, Heap.get?_push_size _ rfl, rfl, rfl⟩, fp, q⟩
  · refine wpAny_pyIter_ascii ha ?_
    exact ⟨s1.heap.objs.size, [s1.heap.objs.size], _, _, H1, rfl, I1.kept (t' := s1.toks) fun b o e => Heap.get?_push_of_some _ e, turn_str z t _ "str_ascii_iterator" (.inl rfl), ⟨_, Heap.get?_push_size _ rfl, rfl, rfl⟩, fp, q⟩
def clos (cells : List (Str × Addr)) : List (Str × NameKind) → List (Str × Addr) → List (Str × Addr)
  | [], acc => acc
  | (n, k) :: r, acc => if k == .free then clos cells r ((n, (cells.lookup n).getD 0) :: acc) else clos cells r acc
theorem closureFor_clos {scope : Scope} {env : Env} (h : ∀ y ∈ scope.names, y.2 = .free → ∃ c, env.cells.lookup y.1 = some c) : closureFor scope env = pure (clos env.cells scope.names []) := by
  have go : ∀ (names : List (Str × NameKind)) (acc : List (Str × Addr)), (∀ y ∈ names, y.2 = .free → ∃ c, env.cells.lookup y.1 = some c) →
      (forIn names acc fun (x : Str × NameKind) (r : List (Str × Addr)) => (if x.2 == NameKind.free then do let a ← cellOf env x.1; pure (ForInStep.yield ((x.1, a) :: r)) else pure (ForInStep.yield r) : Sem (ForInStep (List (Str × Addr))))) = pure (clos env.cells names acc) := by
    intro names
    induction names with
    | nil => intro acc _; rfl
    | cons x r ih =>
      intro acc hx
      obtain ⟨n, k⟩ := x
      rw [List.forIn_cons]
      have hr : ∀ y ∈ r, y.2 = .free → ∃ c, env.cells.lookup y.1 = some c := fun y hy => hx y (List.mem_cons_of_mem _ hy)
      by_cases hk : k = .free
      · subst hk
        obtain ⟨c, hc⟩ := hx (n, .free) List.mem_cons_self rfl
        have hc' : env.cells.lookup n = some c := hc
        have e : cellOf env n = pure c := by unfold cellOf; rw [hc']
        simp only [beq_self_eq_true, if_true, e, pure_bind]
        rw [ih _ hr]
        simp only [clos, beq_self_eq_true, if_true, hc', Option.getD_some]
      · have hb : (k == NameKind.free) = false := by simpa using hk
        simp only [hb, Bool.false_eq_true, if_false, pure_bind]
        rw [ih _ hr]
        simp only [clos, hb, Bool.false_eq_true, if_false]
  have := go scope.names [] h
  unfold closureFor
  first
    | (rw [this]; rfl)
    | (simp only [this, pure_bind]; rfl)
    | simpa using this
theorem clos_lookup {cells : List (Str × Addr)} : ∀ (names : List (Str × NameKind)) (acc : List (Str × Addr)) (y : Str) (c : Addr),
    (∀ z ∈ names, z.2 = .free → ∃ c, cells.lookup z.1 = some c) → (∀ d, acc.lookup y = some d → cells.lookup y = some d) → (clos cells names acc).lookup y = some c → cells.lookup y = some c
  | [], acc, y, c, _, ha, h => ha c h
  | (n, k) :: r, acc, y, c, hx, ha, h => by
    have hr : ∀ z ∈ r, z.2 = .free → ∃ c, cells.lookup z.1 = some c := fun z hz => hx z (List.mem_cons_of_mem _ hz)
    by_cases hk : k = .free
    · subst hk
      simp only [clos, beq_self_eq_true, if_true] at h
      refine clos_lookup r _ y c hr (fun d hd => ?_) h
      by_cases hy : y = n
      · subst hy
        obtain ⟨e, he⟩ := hx (y, .free) List.mem_cons_self rfl
        have he' : cells.lookup y = some e := he
        simp only [List.lookup_cons, beq_self_eq_true, he', Option.getD_some] at hd
        rw [he', hd]
      · have hb : (y == n) = false := by simpa using hy
        simp only [List.lookup_cons, hb] at hd
        exact ha d hd
    · have hb : (k == NameKind.free) = false := by simpa using hk
      simp only [clos, hb, Bool.false_eq_true, if_false] at h
      exact clos_lookup r acc y c hr ha h
theorem clos_keep {cells : List (Str × Addr)} : ∀ (names : List (Str × NameKind)) (acc : List (Str × Addr)) (y : Str), (∃ c, acc.lookup y = some c) → ∃ c, (clos cells names acc).lookup y = some c
  | [], _, _, h => h
  | (n, k) :: r, acc, y, h => by
    by_cases hk : k = .free
    · subst hk
      simp only [clos, beq_self_eq_true, if_true]
      refine clos_keep r _ y ?_
      by_cases hy : y = n
      · subst hy; exact ⟨(cells.lookup y).getD 0, by simp only [List.lookup_cons, beq_self_eq_true]⟩
      · have hb : (y == n) = false := by simpa using hy
        simp only [List.lookup_cons, hb]; exact h
    · have hb : (k == NameKind.free) = false := by simpa using hk
      simp only [clos, hb, Bool.false_eq_true, if_false]
      exact clos_keep r acc y h
theorem clos_has {cells : List (Str × Addr)} : ∀ (names : List (Str × NameKind)) (acc : List (Str × Addr)) (y : Str), (y, NameKind.free) ∈ names → ∃ c, (clos cells names acc).lookup y = some c
  | [], _, _, h => by simp at h
  | (n, k) :: r, acc, y, h => by
    rcases List.mem_cons.mp h with e | h
    · injection e with e1 e2
      subst e1 e2
      simp only [clos, beq_self_eq_true, if_true]
      exact clos_keep r _ y ⟨(cells.lookup y).getD 0, by simp only [List.lookup_cons, beq_self_eq_true]⟩
    · by_cases hk : k = .free
      · rw [hk]
        simp only [clos, beq_self_eq_true, if_true]
        exact clos_has r _ y h
      · have hb : (k == NameKind.free) = false := by simpa using hk
        simp only [clos, hb, Bool.false_eq_true, if_false]
        exact clos_has r _ y h
theorem relabel_kind {env : Env} : ∀ {names : List (Str × NameKind)} {x : Str} {k : NameKind}, (names.map fun (n, k) => if (k == NameKind.free && env.scope.kind == .function && env.kindOf n == some .cell) then (n, NameKind.cell) else (n, k)).lookup x = some k →
    names.lookup x = some k ∨ (k = .cell ∧ names.lookup x = some .free)
  | [], _, _, h => by simp at h
  | (n, j) :: r, x, k, h => by
    have ih := @relabel_kind env r x k
    have h' : List.lookup x ((if (j == NameKind.free && env.scope.kind == .function && env.kindOf n == some .cell) = true then (n, NameKind.cell) else (n, j)) ::
      (r.map fun (n, k) => if (k == NameKind.free && env.scope.kind == .function && env.kindOf n == some .cell) then (n, NameKind.cell) else (n, k))) = some k := h
    cases hx : x == n with
    | true =>
      by_cases hc : (j == NameKind.free && env.scope.kind == .function && env.kindOf n == some .cell) = true
      · rw [if_pos hc] at h'
        simp only [List.lookup_cons, hx] at h' ⊢
        have hj : j = .free := by
          have : (j == NameKind.free) = true := by
            cases q : (j == NameKind.free) with
            | true => rfl
            | false => rw [q] at hc; simp at hc
          simpa using this
        subst hj
        exact .inr ⟨(Option.some.inj h').symm, rfl⟩
      · rw [if_neg hc] at h'
        simp only [List.lookup_cons, hx] at h' ⊢
        exact .inl h'
    | false =>
      have h2 : List.lookup x (r.map fun (n, k) => if (k == NameKind.free && env.scope.kind == .function && env.kindOf n == some .cell) then (n, NameKind.cell) else (n, k)) = some k := by
        by_cases hc : (j == NameKind.free && env.scope.kind == .function && env.kindOf n == some .cell) = true
        · rw [if_pos hc] at h'; simpa only [List.lookup_cons, hx] using h'
        · rw [if_neg hc] at h'; simpa only [List.lookup_cons, hx] using h'
      rcases ih h2 with q | ⟨q1, q2⟩
      · exact .inl (by simpa only [List.lookup_cons, hx] using q)
      · exact .inr ⟨q1, by simpa only [List.lookup_cons, hx] using q2⟩
abbrev cxC (X : Cx) (NC : List Str) (scope : Scope) (C : Addr) (s : Shared) (H : Hp) (ex : List Addr) : Cx :=
  { X with N := NC, s₀ := s, H₀ := H, env := compEnvC scope (clos X.env.cells scope.names []) C X.env, outer := X.stack, stack := X.stack, ex := ex, fn := fun _ => false, pn := [], xe := fun _ _ => False }
def slotsC (nt : Nat) (is : List Nat) (σ : St) : St := List.replicate nt none ++ is.map fun i => (σ[i]?).join
theorem slotsC_len (nt : Nat) (is : List Nat) (σ : St) : (slotsC nt is σ).length = nt + is.length := by simp [slotsC]
def PIf (X : Cx) (ifs : List Expr) (t : TT) : Prop :=
  ∀ (pins : List (Addr × Obj)) (s : Shared) (σ : St) (H : Hp) (Q : Bool → Hp → Prop), Inv X pins σ H s → t σ H Q →
    wpAny (model X.prog X.w) X.A (forIn ifs true fun c r => if r = true then do let ok ← isTrue c X.env (eval c X.env); pure (ForInStep.yield ok) else pure (ForInStep.yield r)) (TP X pins σ Q) X.xe s
def tTrue : TT := fun _ H Q => Q true H
theorem pif_nil {X : Cx} : PIf X [] tTrue := fun _ _ _ H _ I h => wpAny_tests_nil ⟨H, I, h⟩
theorem pif_one {X : Cx} {c : Expr} {t : TT} (h : PT X c t) : PIf X [c] t := fun pins s σ H Q I hw => wpAny_tests_one (h pins s σ H Q I hw)
section
variable {prog : Program} {w : World} {A : Around} {R : Result → Shared → Prop} {s : Shared}
theorem compLoop_any {elt target iter : Expr} {ifs : List Expr} {scope : Scope} {pos : Pos} {it acc : Value} {env : Env} (I : Nat → Shared → Prop)
    (turn : ∀ n s, I n s → wpAny (model prog w) A (pyNext it) (fun r s₁ => match r with
      | none => R (.ok .next) s₁
      | some v => wpAny (model prog w) A (letOwnedTupleGo target it v) (fun _ s₁' => wpAny (model prog w) A (assign target env v) (fun _ s₂ =>
          wpAny (model prog w) A (forIn ifs true fun c r => if r = true then do let ok ← isTrue c env (eval c env); pure (ForInStep.yield ok) else pure (ForInStep.yield r)) (fun ok s₃ =>
            if ok = true then wpAny (model prog w) A (eval elt env) (fun x s₄ =>
              wpAny (model prog w) A (call (.builtin "list.append") [acc, x]) (fun _ s₅ => ∃ m, m < n ∧ I m s₅) (fun _ _ => False) s₄) (fun _ _ => False) s₃
            else ∃ m, m < n ∧ I m s₃) (fun _ _ => False) s₂) (fun _ _ => False) s₁') (fun _ _ => False) s₁) (fun _ _ => False) s)
    (n : Nat) (h : I n s) :
    codeAny (model prog w) A (.compLoop (.ListComp elt [⟨target, iter, ifs, 0⟩] scope pos) 0 it acc env) R s := by
  refine codeAny_loop rfl I (fun n s hI => ?_) n h
  show wpAny _ A ((compTurn (.ListComp elt [⟨target, iter, ifs, 0⟩] scope pos) 0 it acc env).onRaise (fun x => do noteFrame x env; theTreesLotGoes x)) _ _ s
  refine wpAny_noted ?_
  rw [compTurn_list]
  refine wpAny_bind (wpAny_standAt (wpAny_bind (wpAny_mono (turn n s hI) (fun r s₁ h₁ => ?_) fun _ _ h' => h'.elim)))
  cases r with
  | none => exact wpAny_pure h₁
  | some v =>
    refine wpAny_bind (wpAny_mono h₁ (fun _ s₁' h₁' => ?_) fun _ _ h' => h'.elim)
    refine wpAny_bind (wpAny_mono h₁' (fun _ s₂ h₂ => wpAny_bind (wpAny_mono h₂ (fun ok s₃ h₃ => ?_) fun _ _ h' => h'.elim)) fun _ _ h' => h'.elim)
    cases ok with
    | false => exact wpAny_pure ⟨rfl, h₃⟩
    | true =>
      exact wpAny_bind (wpAny_bind (wpAny_mono h₃ (fun x s₄ h₄ => wpAny_bind (wpAny_mono h₄ (fun _ s₅ h₅ => wpAny_pure (wpAny_pure ⟨rfl, h₅⟩)) fun _ _ h' => h'.elim)) fun _ _ h' => h'.elim))
end
def tComp (wi : TI) (nt : Nat) (is : List Nat) (g : TG) (tt : TT) (te : TE) : TE := fun σ H Q => wi σ H fun J H1 => ∃ W : Nat → Nat → List V → Hp → Prop, (∃ m, W 0 m [] H1) ∧ ∀ i m acc H, W i m acc H →
  (J.stop i H ∧ ∀ p, H p = none → Q (.ref p) (upd H p (.lst acc))) ∨
  (J.go i H ∧ acc.length < sizeLine ∧ ∃ N : List V → Hp → Prop, (∀ acc' H', N acc' H' → ∃ m', m' < m ∧ W (i + 1) m' acc' H') ∧ ∀ x H', J.yld i H x H' → g x (slotsC nt is σ) H' fun σ2 H2 => tt σ2 H2 fun b H3 =>
    if b = true then te σ2 H3 fun y H4 => N (acc ++ [y]) H4 else N acc H3)
structure CompSc (X : Cx) (NC : List Str) (nt : Nat) (is : List Nat) (csc : Scope) : Prop where
  kind : csc.kind = .function
  nocell : (csc.names.all fun y => y.2 != .cell) = true
  locs : (csc.names.all fun y => y.2 != .local || csc.names.lookup y.1 == some .local) = true
  frees : (csc.names.all fun y => y.2 != .free || (X.env.kindOf y.1 == some .cell || X.env.kindOf y.1 == some .free)) = true
  len : NC.length = nt + is.length
  slots : (NC.drop nt).map some = is.map fun i => X.N[i]?
  isfree : ((NC.drop nt).all fun y => csc.names.lookup y == some .free) = true
section
variable {X : Cx} {pins : List (Addr × Obj)} {σ : St} {H : Hp} {s : Shared} {NC : List Str} {nt : Nat} {is : List Nat} {csc : Scope}
theorem CompSc.free_kind (S : CompSc X NC nt is csc) {y : Str} (h : (y, NameKind.free) ∈ csc.names) : X.env.kindOf y = some .cell ∨ X.env.kindOf y = some .free := by
  have q := List.all_eq_true.mp S.frees _ h
  simpa using q
theorem CompSc.no_cell (S : CompSc X NC nt is csc) {y : Str} (h : (y, NameKind.cell) ∈ csc.names) : False := by
  have q := List.all_eq_true.mp S.nocell _ h
  simp at q
theorem CompSc.has_cells (S : CompSc X NC nt is csc) (I : Inv X pins σ H s) : ∀ y ∈ csc.names, y.2 = .free → ∃ c, X.env.cells.lookup y.1 = some c := fun y hy e => by
  obtain ⟨n, k⟩ := y
  have e' : k = .free := e
  subst e'
  exact I.ok.has n (S.free_kind hy)
theorem fp_lt {fp : List Addr} (ho : ∀ b ∈ fp, ∃ o, s.heap.get? b = some o) : ∀ b ∈ fp, b < s.heap.objs.size := fun b hb => let ⟨_, e⟩ := ho b hb; Heap.lt_size e
theorem inv_block (S : CompSc X NC nt is csc) (I : Inv X pins σ H s) {fp : List Addr} (hf : ∀ b ∈ fp, FpOk X pins H b) (ho : ∀ b ∈ fp, ∃ o, s.heap.get? b = some o) {h' : Heap} {C : Addr} {m : Str → Option Value} {t' : Nat}
    (hC : s.heap.objs.size ≤ C) (k : ∀ b o, s.heap.get? b = some o → h'.get? b = some o) (hn : h'.Ns C m) : Inv (cxC X NC csc C s H fp) [] (slotsC nt is σ) H { s with heap := h', toks := t' } := by
  have hcells := S.has_cells I
  have hlook : ∀ y c, (clos X.env.cells csc.names []).lookup y = some c → X.env.cells.lookup y = some c := fun y c h => clos_lookup csc.names [] y c hcells (by intro d hd; simp at hd) h
  have hlt := fp_lt ho
  have hfree : ∀ y, csc.names.lookup y = some .free → ∃ c, (clos X.env.cells csc.names []).lookup y = some c := fun y h => clos_has csc.names [] y (PySem.mem_of_lookup h)
  refine ⟨⟨I.ok.mod, S.kind, I.ok.glob, I.ok.blt, hC, fun x y c h1 h2 => I.ok.inj x y c (hlook x c h1) (hlook y c h2), fun x hx => ?_, fun x c h _ => (Bool.false_ne_true h).elim, I.ok.hd, I.ok.frames, .inl rfl,
    fun b hb => ⟨Nat.ne_of_lt (Nat.lt_of_lt_of_le (hlt b hb) hC), fun x c h => (hf b hb).2.2.2.2.1 x c (hlook x c h)⟩, I.bs, Nat.le_trans I.ok.bsz I.sz, fun b o e hb => ?_, fun b hb hs => ?_, I.stack, I.stkFree⟩,
    rfl, I.bare, Un.kept k, ⟨m, hn, fun i x v e1 e2 e3 => ?_⟩, fun x c h => ?_, I.hok.fresh hC, fun x c h => I.freeC x c (hlook x c h), fun p hp => absurd (show p ∈ ([] : List (Addr × Obj)) from hp) (by simp), I.hok.kept k, ?_⟩
  · have hx' : (relabel csc X.env).names.lookup x = some .cell ∨ (relabel csc X.env).names.lookup x = some .free := hx
    rcases hx' with h | h
    · rcases relabel_kind h with q | ⟨_, q⟩
      · exact (S.no_cell (PySem.mem_of_lookup q)).elim
      · exact hfree x q
    · rcases relabel_kind h with q | ⟨q, _⟩
      · exact hfree x q
      · cases q
  · rcases (hf b hb).2.2.2.1 with z | z
    · exact I.ok.noex b o e z
    · exact absurd (Nat.lt_of_lt_of_le (Heap.lt_size e) (Nat.le_trans I.ok.bsz z)) (Nat.lt_irrefl _)
  · rcases List.mem_cons.mp (I.stkSub b hs) with e | e
    · exact (hf b hb).2.1 e
    · exact (hf b hb).2.2.1 e
  · have hi : nt ≤ i := by
      by_cases hi : nt ≤ i
      · exact hi
      · have : (slotsC nt is σ)[i]? = some none := by
          unfold slotsC
          rw [List.getElem?_append_left (by simpa using hi), List.getElem?_replicate, if_pos (by omega)]
        rw [this] at e2; cases e2
    obtain ⟨j, rfl⟩ : ∃ j, i = nt + j := ⟨i - nt, by omega⟩
    have e2' : (is.map fun i => (σ[i]?).join)[j]? = some (some v) := by
      unfold slotsC at e2
      rw [List.getElem?_append_right (by simp)] at e2
      simpa using e2
    rw [List.getElem?_map] at e2'
    cases ej : is[j]? with
    | none => rw [ej] at e2'; cases e2'
    | some i' =>
      rw [ej] at e2'
      have e3' : (σ[i']?).join = some v := Option.some.inj e2'
      have e4 : σ[i']? = some (some v) := by
        cases q : σ[i']? with
        | none => rw [q] at e3'; cases e3'
        | some o => rw [q] at e3'; exact congrArg some e3'
      have e5 : X.N[i']? = some x := by
        have q := congrArg (fun l => l[j]?) S.slots
        simp only [List.getElem?_map, ej, Option.map_some] at q
        have q2 : (NC.drop nt)[j]? = some x := by rw [List.getElem?_drop]; exact e1
        rw [q2] at q
        simpa using q.symm
      have hxfree : csc.names.lookup x = some .free := by
        have q2 : (NC.drop nt)[j]? = some x := by rw [List.getElem?_drop]; exact e1
        have q := List.all_eq_true.mp S.isfree x (List.mem_of_getElem? q2)
        simpa using q
      have hk := S.free_kind (PySem.mem_of_lookup hxfree)
      obtain ⟨m0, _, hl⟩ := I.loc
      obtain ⟨u, r, l⟩ := hl i' x v e5 e4 (hk.elim (fun z => .inr (.inl z)) fun z => .inr (.inr z))
      refine ⟨u, r, ?_⟩
      rcases l with ⟨z, _⟩ | ⟨_, c, hc, hcell⟩
      · rw [z] at hk; rcases hk with q | q <;> cases q
      · obtain ⟨c', hc'⟩ := hfree x hxfree
        have e6 := hlook x c' hc'
        rw [hc] at e6; cases e6
        refine .inr ⟨?_, c, hc', ?_⟩
        · have e3'' : (relabel csc X.env).names.lookup x = some .local ∨ (relabel csc X.env).names.lookup x = some .cell ∨ (relabel csc X.env).names.lookup x = some .free := e3
          rcases e3'' with z | z | z
          · rcases relabel_kind z with q | ⟨q, _⟩
            · rw [hxfree] at q; cases q
            · cases q
          · exact .inl z
          · exact .inr z
        · obtain ⟨o, ho, hd⟩ := hcell
          exact ⟨o, k c o ho, hd⟩
  · obtain ⟨v, o, ho, hd⟩ := I.cell x c (hlook x c h)
    exact ⟨v, o, k c o ho, hd⟩
  · rw [slotsC_len]; exact S.len.symm
theorem inv_behind (I : Inv X pins σ H s) {fp : List Addr} (hf : ∀ b ∈ fp, FpOk X pins H b) {σ' : St} {H' : Hp} {s' : Shared} {C D : Addr} {pins' : List (Addr × Obj)} {acc : List V} {its : List Value} {n : Nat}
    (J : Inv (cxC X NC csc C s H fp) pins' σ' H' s') (hC : s.heap.objs.size ≤ C) (hD : s.heap.objs.size ≤ D) (hDo : s'.heap.get? D = some { cls := .type "list", data := .seq its.toArray n }) (hDn : H' D = none) (hv : Vals acc its)
    (hz : acc.length ≤ sizeLine) : Inv X pins σ (upd H' D (.lst acc)) s' := by
  have hne : ∀ b o, s.heap.get? b = some o → b ≠ D := fun b o e z => absurd (Nat.lt_of_lt_of_le (Heap.lt_size e) (z ▸ hD)) (Nat.lt_irrefl _)
  have hu : Un (frs X.stack) fp H H' s.heap s'.heap := J.base
  refine I.call' (ch := fp) J.os ⟨hu.keep, hu.slot, fun b o e n hx => by rw [upd_ne (hne b o e)]; exact hu.free b o e n hx, hu.there, fun b xs e => ?_, fun b o u e => ?_, fun b ps e => ?_⟩ (fun b u q => ?_) J.bare fun b hb => ?_
  · have q := hu.tups b xs e
    rw [upd_ne (ne_of_none q hDn)]; exact q
  · have q := hu.frzs b o u e
    rw [upd_ne (ne_of_none q hDn)]; exact q
  · obtain ⟨more, q⟩ := hu.tbls b ps e
    exact ⟨more, by rw [upd_ne (ne_of_none q hDn)]; exact q⟩
  · by_cases hb : b = D
    · subst hb
      rw [upd_same] at q; cases q
      exact ⟨hz, its, n, hv, hDo⟩
    · rw [upd_ne hb] at q
      exact (J.hok b u q).stay (fun _ _ _ e => e) (fun c r => by rw [upd_ne (ne_of_none r hDn)]; exact r) fun c xs r => by rw [upd_ne (ne_of_none r hDn)]; exact r
  · obtain ⟨_, f1, f2, f3, f4, f5⟩ := hf b hb
    exact ⟨f3, f1, f4, f5⟩
theorem comp_run {elt tg iter : Expr} {ifs : List Expr} {pos : Pos} {wi : TI} {g : TG} {tt : TT} {te : TE} {Q : VK} {use : Option (Value → Sem Unit)} {QQ : Value → Shared → Prop} {epos : Pos}
    (S : CompSc X NC nt is csc) (hc : X.calm = true) (hi : PI X tg iter wi)
    (hg : ∀ C s H ex, PG (cxC X NC csc C s H ex) tg g) (ht : ∀ C s H ex, PIf (cxC X NC csc C s H ex) ifs tt) (he : ∀ C s H ex, PE (cxC X NC csc C s H ex) elt te)
    (hgk : ∀ x (σ : St) H Q, g x σ H Q → g x σ H fun σ2 H2 => σ2.drop nt = σ.drop nt ∧ Q σ2 H2)
    (I : Inv X pins σ H s) (h : tComp wi nt is g tt te σ H Q)
    (fin : ∀ (s' : Shared) (C D : Addr) (H' : Hp) (m : Str → Option Value), Inv X pins σ H' s' → Q (.ref D) H' → s'.heap.Ns C m → H' C = none → C ≠ X.env.locals → X.s₀.heap.objs.size ≤ C → (∀ x c, X.env.cells.lookup x = some c → c ≠ C) → (∀ p ∈ X.pn ++ pins, p.1 ≠ C) →
      compPost (model X.prog X.w) X.A X.xe use QQ (.ref D) C (.ok .next) s')
    (hs : ∀ x, foldedSetIterable iter X.env x = pure x) :
    wpAny (model X.prog X.w) X.A (comprehension (.ListComp elt [⟨tg, iter, ifs, 0⟩] csc pos) csc X.env epos (newList []) false (eval iter X.env) use) QQ X.xe s := by
  have hcells := S.has_cells I
  have hnames : ∀ x ∈ csc.names, x.2 = .local → csc.names.lookup x.1 = some .local := fun x hx hl => by
    have q := List.all_eq_true.mp S.locs x hx
    simpa [hl] using q
  have hcell : ∀ y ∈ csc.names, y.2 ≠ .cell := fun y hy e => by
    obtain ⟨n, k⟩ := y
    have e' : k = .cell := e
    subst e'
    exact S.no_cell hy
  refine wpAny_comprehension_free (g := ⟨tg, iter, ifs, 0⟩) (gs := []) (cl := clos X.env.cells csc.names []) rfl hs (closureFor_clos hcells) S.kind hnames ?_
  refine thn (hi pins s σ H _ I h) fun v s1 h1 => thn h1 fun itv s2 h2 => ?_
  obtain ⟨it, fp, tn, J, H2, rfl, I2, T, st2, f2, W, ⟨m0, w0⟩, turn⟩ := h2
  have fo : ∀ b ∈ fp, ∃ o, s2.heap.get? b = some o := fun b hb => let ⟨o, e, _⟩ := T.obj 0 _ st2 b hb; ⟨o, e⟩
  have flt := fp_lt fo
  refine wpAny_newObj_type (wpAny_newFunctionEnv hcell (by intro y hy; simp at hy) (fun h₁ hns₁ hsb₁ => ?_) S.kind)
  dsimp only at hns₁ hsb₁ ⊢
  generalize hH2 : s2.heap.push { cls := .type "list", dict := none, data := .seq ([] : List Value).toArray } = P2 at hns₁ hsb₁ ⊢
  have hCs : P2.objs.size = s2.heap.objs.size + 1 := by rw [← hH2, Heap.size_push]
  generalize hCC : P2.objs.size = C at hns₁ hsb₁ hCs ⊢
  generalize hDD : s2.heap.objs.size = D at hCs ⊢
  have hD : s2.heap.objs.size ≤ D := Nat.le_of_eq hDD
  have hC : s2.heap.objs.size ≤ C := by omega
  have hDC : D ≠ C := by omega
  have old : ∀ b o, s2.heap.get? b = some o → h₁.get? b = some o := fun b o e => hsb₁.extBut b o (Nat.ne_of_lt (Nat.lt_of_lt_of_le (Heap.lt_size e) hC)) (Heap.get?_push_of_some _ (hH2 ▸ Heap.get?_push_of_some _ e))
  have accO : h₁.get? D = some { cls := .type "list", data := .seq ([] : List Value).toArray 0 } := by
    refine hsb₁.extBut _ _ hDC (Heap.get?_push_of_some _ ?_)
    rw [← hH2, ← hDD]
    exact Heap.get?_push_size _ rfl
  have Istart : Inv (cxC X NC csc C s2 H2 fp) [] (slotsC nt is σ) H2 { s2 with heap := h₁, toks := s2.toks + ([] : List (Str × Value)).length } := inv_block S I2 f2 fo hC old hns₁
  have HD0 : H2 D = none := I2.hok.fresh hD
  have HC0 : H2 C = none := I2.hok.fresh hC
  have fpY : ∀ {H' : Hp} {pl : List (Addr × Obj)}, (∀ b ∈ fp, H' b = none) → (∀ p ∈ pl, p.1 ∉ fp) → ∀ b ∈ fp, FpOk (cxC X NC csc C s2 H2 fp) pl H' b := fun {H' pl} hn hp b hb => by
    obtain ⟨_, g1, g2, g3, g4, g5⟩ := f2 b hb
    refine ⟨hn b hb, Nat.ne_of_lt (Nat.lt_of_lt_of_le (flt b hb) hC), fun z => ?_, .inl hb, fun x c e => g4 x c (clos_lookup csc.names [] x c hcells (by intro d hd; simp at hd) e), fun p hpp z => ?_⟩
    · rcases List.mem_cons.mp (I2.stkSub b z) with e | e
      · exact g1 e
      · exact g2 e
    · exact hp p (by simpa using hpp) (z ▸ hb)
  have dne : D ∉ fp := fun hb => absurd (flt D hb) (Nat.not_lt.mpr hD)
  have cellD : ∀ {σ' : St} {H' : Hp} {s' : Shared} {pl : List (Addr × Obj)} {its : List Value} {n : Nat}, Inv (cxC X NC csc C s2 H2 fp) pl σ' H' s' → s'.heap.get? D = some { cls := .type "list", data := .seq its.toArray n } →
      ∀ x c, (cxC X NC csc C s2 H2 fp).env.cells.lookup x = some c → c ≠ D := fun {σ' H' s' pl its n} K e x c hx z => by
    obtain ⟨v, o, ho, hd⟩ := K.cell x c hx
    rw [z, e] at ho; cases ho; cases hd
  have loop : ∀ s₃ : Shared, s₃ = { s2 with heap := h₁, toks := s2.toks + ([] : List (Str × Value)).length } →
      codeAny (model X.prog X.w) X.A (.compLoop (.ListComp elt [⟨tg, iter, ifs, 0⟩] csc pos) 0 (.ref it) (.ref D) (compEnvC csc (clos X.env.cells csc.names []) C X.env)) (compPost (model X.prog X.w) X.A X.xe use QQ (.ref D) C) s₃ := by
    rintro s₃ rfl
    refine compLoop_any (fun n s' => ∃ i H' acc its k, Inv (cxC X NC csc C s2 H2 fp) [] (slotsC nt is σ) H' s' ∧ tn i s'.heap ∧ (∀ b ∈ fp, H' b = none) ∧ s'.heap.get? D = some { cls := .type "list", data := .seq its.toArray k } ∧ H' D = none ∧
      Vals acc its ∧ acc.length ≤ sizeLine ∧ W i n acc H') ?_ m0 ⟨0, H2, [], [], 0, Istart, T.keep _ _ _ st2 (fun b hb o e => old b o e), fun b hb => (f2 b hb).1, accO, HD0, .nil, Nat.zero_le _, w0⟩
    rintro n s3 ⟨i, H3, acc, its, k, I3, st3, fr3, o3, n3, v3, z3, w3⟩
    have pinD : Inv (cxC X NC csc C s2 H2 fp) [(D, { cls := .type "list", data := .seq its.toArray k })] (slotsC nt is σ) H3 s3 := I3.pins_of fun p hp => by
      have e : p = (D, { cls := .type "list", data := .seq its.toArray k }) := by simpa using hp
      subst e
      refine ⟨o3, n3, hDC, fun z => ?_, fun v z => by cases z⟩
      rcases List.mem_cons.mp (I2.stkSub D z) with e | e
      · exact absurd I2.lt (Nat.not_lt.mpr (by rw [← e]; exact hD))
      · exact I2.nofs hD e
    have fpD : ∀ p ∈ [((D, { cls := .type "list", data := .seq its.toArray k }) : Addr × Obj)], p.1 ∉ fp := fun p hp => by
      have e : p = (D, { cls := .type "list", data := .seq its.toArray k }) := by simpa using hp
      subst e; exact dne
    rcases turn i n acc H3 w3 with ⟨stop, qn⟩ | ⟨go, hlen, N, hN, step⟩
    · refine thn (T.done (cxC X NC csc C s2 H2 fp) rfl rfl rfl hc i _ s3 _ H3 (fun _ _ => False) pinD (fpY fr3 fpD) st3 stop) fun r s4 ⟨hr, I4⟩ => ?_
      subst hr
      obtain ⟨e4, n4, _⟩ := I4.pin (D, { cls := .type "list", data := .seq its.toArray k }) (List.mem_append_right _ (List.mem_singleton.mpr rfl))
      have J := inv_behind (NC := NC) (csc := csc) I2 f2 I4 hC hD e4 n4 v3 z3
      obtain ⟨m4, hm4, _⟩ := I4.loc
      have nC : H3 C = none := I4.free
      refine fin s4 C D _ m4 J (qn D n4) hm4 (by rw [upd_ne (Ne.symm hDC)]; exact nC) (fun z => absurd I2.lt (Nat.not_lt.mpr (by rw [← z]; exact hC))) (Nat.le_trans I2.sz hC) (fun x c e z => ?_) fun p hp z => ?_
      · obtain ⟨v, o, ho, _⟩ := I2.cell x c e
        exact absurd (Heap.lt_size ho) (Nat.not_lt.mpr (by rw [z]; exact hC))
      · exact absurd (Heap.lt_size (I2.pin p hp).1) (Nat.not_lt.mpr (by rw [z]; exact hC))
    · refine thn (T.item (cxC X NC csc C s2 H2 fp) rfl rfl rfl hc i _ s3 _ H3 (fun _ _ => False) pinD (fpY fr3 fpD) st3 go) fun r s4 ⟨u, hr, h4⟩ => ?_
      subst hr
      refine thn h4 fun _ s5 ⟨x, H5, I5, r5, y5, st5, fr5⟩ => ?_
      have I5' := I5.pinned (fpY fr5 fpD) (T.obj _ _ st5)
      refine thn (hg C s2 H2 fp _ s5 _ H5 x u _ I5' r5 (hgk _ _ _ _ (step x H5 y5))) fun _ s6 ⟨σ6, H6, I6, d6, q6⟩ => ?_
      refine thn (ht C s2 H2 fp _ s6 σ6 H6 _ I6 q6) fun ok s7 ⟨H7, I7, q7⟩ => ?_
      have tnk : ∀ {σ' : St} {H' : Hp} {s' : Shared}, Inv (cxC X NC csc C s2 H2 fp) ([(D, { cls := .type "list", data := .seq its.toArray k })] ++ pinsAt fp s5.heap) σ' H' s' →
          tn (i + 1) s'.heap ∧ (∀ b ∈ fp, H' b = none) ∧ s'.heap.get? D = some { cls := .type "list", data := .seq its.toArray k } ∧ H' D = none := fun {σ' H' s'} K => by
        refine ⟨T.keep _ _ _ st5 fun b hb o e => (K.pin (b, o) (List.mem_append_right _ (List.mem_append_right _ (mem_pinsAt hb e)))).1, fun b hb => ?_, ?_, ?_⟩
        · obtain ⟨o, e, d⟩ := T.obj _ _ st5 b hb
          exact (K.pin (b, o) (List.mem_append_right _ (List.mem_append_right _ (mem_pinsAt hb e)))).2.1
        · exact (K.pin (D, { cls := .type "list", data := .seq its.toArray k }) (List.mem_append_right _ (List.mem_append_left _ (List.mem_singleton.mpr rfl)))).1
        · exact (K.pin (D, { cls := .type "list", data := .seq its.toArray k }) (List.mem_append_right _ (List.mem_append_left _ (List.mem_singleton.mpr rfl)))).2.1
      have reset : ∀ {σ' : St} {H' : Hp} {s' : Shared} {pl : List (Addr × Obj)}, σ'.drop nt = (slotsC nt is σ).drop nt → Inv (cxC X NC csc C s2 H2 fp) pl σ' H' s' → Inv (cxC X NC csc C s2 H2 fp) [] (slotsC nt is σ) H' s' := fun {σ' H' s' pl} hd K => by
        have K0 : Inv (cxC X NC csc C s2 H2 fp) [] σ' H' s' := K.pins_of fun p hp => absurd hp (by simp)
        refine K0.weak ?_ fun j v hj => ?_
        · rw [slotsC_len, K.len]; exact S.len.symm
        · by_cases hjn : j < nt
          · exfalso
            unfold slotsC at hj
            rw [List.getElem?_append_left (by simpa using hjn), List.getElem?_replicate, if_pos hjn] at hj
            cases hj
          · have q := congrArg (fun l => l[j - nt]?) hd
            simp only [List.getElem?_drop] at q
            rw [show nt + (j - nt) = j by omega] at q
            rw [q]; exact hj
      cases ok with
      | false =>
        obtain ⟨m', lt, w7⟩ : ∃ m', m' < n ∧ W (i + 1) m' acc H7 := hN _ _ q7
        obtain ⟨t7, f7, e7, n7⟩ := tnk I7
        exact ⟨m', lt, i + 1, H7, acc, its, k, reset d6 I7, t7, f7, e7, n7, v3, z3, w7⟩
      | true =>
        have q7' : te σ6 H7 fun y H4 => N (acc ++ [y]) H4 := q7
        refine thn (he C s2 H2 fp _ s7 σ6 H7 _ I7 q7') fun u8 s8 ⟨y, H8, I8, r8, qN⟩ => ?_
        obtain ⟨m', lt, w8⟩ := hN _ _ qN
        obtain ⟨t8, f8, e8, n8⟩ := tnk I8
        have I8r := reset d6 I8
        have hl := v3.length
        refine call_meets F.slot_list_append ⟨_, e8, rfl⟩ F.entry_list_append (F.args_list_append_2 _ _) (PySem.list_append D its.toArray k u8 (by rw [List.size_toArray]; omega)) ⟨e8, ?_⟩
        have q := PySem.IsL.update e8 (fun a => a.push u8)
        have hq : (its.toArray.push u8) = (its ++ [u8]).toArray := by simp
        rw [hq] at q
        have kk : ∀ b o, b ≠ D → s8.heap.get? b = some o → (s8.heap.update D (Obj.mapSeq fun a => a.push u8)).get? b = some o := fun b o hb e => (Heap.get?_update_other s8.heap _ (Ne.symm hb)).trans e
        refine ⟨m', lt, i + 1, H8, acc ++ [y], its ++ [u8], _, I8r.turned (t' := s8.toks) kk n8 hDC (.inr hD) (cellD I8r e8) (fun p hp => absurd (show p ∈ ([] : List (Addr × Obj)) from hp) (by simp)), T.keep _ _ _ t8 (fun b hb o e => kk b o (fun z => dne (z ▸ hb)) e), f8, q, n8, v3.append (.cons r8 .nil), ?_, w8⟩
        rw [List.length_append, List.length_singleton]
        omega
  exact codeAny_compStart_list (loop _ rfl) (T.self X.A 0 _ _ _ (T.keep _ _ _ st2 (fun b hb o e => old b o e)) (loop _ rfl))
theorem gName_keep {i nt : Nat} (hi : i < nt) : ∀ x (σ : St) (H : Hp) Q, gName i x σ H Q → gName i x σ H fun σ2 H2 => σ2.drop nt = σ.drop nt ∧ Q σ2 H2 := fun x σ H Q h => ⟨List.drop_set_of_lt hi, h⟩
theorem pe_comp {elt tg iter : Expr} {ifs : List Expr} {pos : Pos} {wi : TI} {g : TG} {tt : TT} {te : TE} (nt : Nat) (is : List Nat) (NC : List Str)
    (S : CompSc X NC nt is csc) (hc : X.calm = true) (hi : PI X tg iter wi)
    (hg : ∀ C s H ex, PG (cxC X NC csc C s H ex) tg g) (hgk : ∀ x (σ : St) H Q, g x σ H Q → g x σ H fun σ2 H2 => σ2.drop nt = σ.drop nt ∧ Q σ2 H2)
    (ht : ∀ C s H ex, PIf (cxC X NC csc C s H ex) ifs tt) (he : ∀ C s H ex, PE (cxC X NC csc C s H ex) elt te)
    (hs : ∀ x, foldedSetIterable iter X.env x = pure x := by intro _; rfl) : PE X (.ListComp elt [⟨tg, iter, ifs, 0⟩] csc pos) (tComp wi nt is g tt te) := by
  intro pins s σ H Q I h
  rw [eval_ListComp]
  refine comp_run S hc hi hg ht he hgk I h (fun s' C D H' m J q hm hC hL hz hcl hp => ⟨m, hm, fun h' hsb => ?_⟩) hs
  exact ⟨.ref D, H', J.turned (t' := s'.toks) (fun b o hb e => hsb.extBut b o hb e) hC hL (.inr hz) hcl hp, rfl, q⟩
theorem ps_setComp {i : Nat} {y : Str} {elt tg iter : Expr} {ifs : List Expr} {pos spos py : Pos} {wi : TI} {g : TG} {tt : TT} {te : TE} (nt : Nat) (is : List Nat) (NC : List Str) (hN : X.N.Nodup) (hy : X.N[i]? = some y) (hyl : X.env.scope.names.lookup y = some .local)
    (S : CompSc X NC nt is csc) (hc : X.calm = true) (hi : PI X tg iter wi)
    (hg : ∀ C s H ex, PG (cxC X NC csc C s H ex) tg g) (hgk : ∀ x (σ : St) H Q, g x σ H Q → g x σ H fun σ2 H2 => σ2.drop nt = σ.drop nt ∧ Q σ2 H2)
    (ht : ∀ C s H ex, PIf (cxC X NC csc C s H ex) ifs tt) (he : ∀ C s H ex, PE (cxC X NC csc C s H ex) elt te)
    (hsw : swapsWith (.ListComp elt [⟨tg, iter, ifs, 0⟩] csc pos) (some (.Name y py)) spos.line X.env = pure true := by rfl)
    (hs : ∀ x, foldedSetIterable iter X.env x = pure x := by intro _; rfl) : PS X (.Assign [.Name y py] (.ListComp elt [⟨tg, iter, ifs, 0⟩] csc pos) spos) (tAsg (tComp wi nt is g tt te) (gName i)) := by
  intro pins s σ H D I h
  rw [exec_Assign_Name_used _ _ _ _ hsw]
  refine wpAny_bind (wpAny_standAt (wpAny_bind ?_))
  show wpAny _ X.A (do let _ ← comprehension (.ListComp elt [⟨tg, iter, ifs, 0⟩] csc pos) csc X.env _ (newList []) false (eval iter X.env) (some (assign (.Name y py) X.env))) _ _ s
  refine wpAny_bind (thn (comp_run (QQ := fun _ s' => SP X pins D .next s') S hc hi hg ht he hgk I h (fun s' C Da H' m J q hm hC hL hz hcl hp => ?_) hs) fun _ s' hq => wpAny_pure (wpAny_pure hq))
  show wpAny _ X.A (assign (.Name y py) X.env (.ref Da)) _ _ _
  refine wpAny_assign_Name (store_ok2 J hN hy (.inl hyl) (v := .ref Da) rfl (fun s'' J' ⟨a, hsb, ha⟩ => ⟨m, hm.sameBut hsb (fun z => ?_), fun h3 hs3 => ?_⟩) (.inr hyl))
  · rcases ha with e | e
    · exact hL (z.trans e)
    · exact hcl y a e z.symm
  · exact ⟨_, H', J'.turned (t' := s''.toks) (fun b o hb e => hs3.extBut b o hb e) hC hL (.inr hz) hcl hp, q⟩
end
section
variable {K : PySem.W.Frag} {nt : Nat} {is : List Nat} {g : TG} {tt : TT} {te : TE} {σ : St} {H : Hp} {Q : VK}
def CompW (J : It) (nt : Nat) (is : List Nat) (g : TG) (tt : TT) (te : TE) (σ : St) (H : Hp) (Q : VK) : Prop := ∃ W : Nat → Nat → List V → Hp → Prop, (∃ m, W 0 m [] H) ∧ ∀ i m acc H, W i m acc H →
  (J.stop i H ∧ ∀ p, H p = none → Q (.ref p) (upd H p (.lst acc))) ∨
  (J.go i H ∧ acc.length < sizeLine ∧ ∃ N : List V → Hp → Prop, (∀ acc' H', N acc' H' → ∃ m', m' < m ∧ W (i + 1) m' acc' H') ∧ ∀ x H', J.yld i H x H' → g x (slotsC nt is σ) H' fun σ2 H2 => tt σ2 H2 fun b H3 =>
    if b = true then te σ2 H3 fun y H4 => N (acc ++ [y]) H4 else N acc H3)
theorem tComp_eq {wi : TI} : tComp wi nt is g tt te σ H Q = wi σ H fun J H1 => CompW J nt is g tt te σ H1 Q := rfl
theorem comp_gen {J : It} {n : Nat} (Pv : Nat → List V → Hp → Prop) (h0 : Pv 0 [] H)
    (hgo : ∀ i acc H, i < n → Pv i acc H → J.go i H ∧ acc.length < sizeLine ∧ ∀ x H', J.yld i H x H' → g x (slotsC nt is σ) H' fun σ2 H2 => tt σ2 H2 fun b H3 => if b = true then te σ2 H3 fun y H4 => Pv (i + 1) (acc ++ [y]) H4 else Pv (i + 1) acc H3)
    (hst : ∀ acc H, Pv n acc H → J.stop n H ∧ ∀ p, H p = none → Q (.ref p) (upd H p (.lst acc))) : CompW J nt is g tt te σ H Q := by
  refine ⟨fun i m acc H => m = n - i ∧ i ≤ n ∧ Pv i acc H, ⟨n, by simp, Nat.zero_le _, h0⟩, ?_⟩
  rintro i m acc H ⟨rfl, hi, p⟩
  by_cases hlt : i < n
  · obtain ⟨h1, h2, h3⟩ := hgo i acc H hlt p
    exact .inr ⟨h1, h2, Pv (i + 1), fun acc' H' q => ⟨n - (i + 1), by omega, rfl, hlt, q⟩, h3⟩
  · have e : i = n := by omega
    subst e
    exact .inl (hst acc H p)
theorem comp_range {lo : Int} {n : Nat} (Pv : Nat → List V → Hp → Prop) (h0 : Pv 0 [] H)
    (hs : ∀ i acc H, i < n → Pv i acc H → acc.length < sizeLine ∧ g (.int (lo + i)) (slotsC nt is σ) H fun σ2 H2 => tt σ2 H2 fun b H3 => if b = true then te σ2 H3 fun y H4 => Pv (i + 1) (acc ++ [y]) H4 else Pv (i + 1) acc H3)
    (hd : ∀ acc H, Pv n acc H → ∀ p, H p = none → Q (.ref p) (upd H p (.lst acc))) : CompW (Itr lo n) nt is g tt te σ H Q := by
  refine comp_gen (n := n) Pv h0 (fun i acc H hi p => ?_) fun acc H p => ⟨Nat.le_refl _, hd acc H p⟩
  obtain ⟨h1, h2⟩ := hs i acc H hi p
  refine ⟨hi, h1, fun x H' y => ?_⟩
  obtain ⟨rfl, rfl⟩ := y
  exact h2
theorem comp_list {a : Addr} {xs : List V} (Pv : Nat → List V → Hp → Prop) (h0 : Pv 0 [] H) (hl : ∀ i acc H, i ≤ xs.length → Pv i acc H → SqL K H a xs)
    (hs : ∀ i x acc H, xs[i]? = some x → Pv i acc H → acc.length < sizeLine ∧ g x (slotsC nt is σ) H fun σ2 H2 => tt σ2 H2 fun b H3 => if b = true then te σ2 H3 fun y H4 => Pv (i + 1) (acc ++ [y]) H4 else Pv (i + 1) acc H3)
    (hd : ∀ acc H, Pv xs.length acc H → ∀ p, H p = none → Q (.ref p) (upd H p (.lst acc))) : CompW (Itl K a) nt is g tt te σ H Q := by
  refine comp_gen (n := xs.length) Pv h0 (fun i acc H hi p => ?_) fun acc H p => ⟨⟨xs, hl _ _ _ (Nat.le_refl _) p, Nat.le_refl _⟩, hd acc H p⟩
  have hx : xs[i]? = some xs[i] := by simp [hi]
  have q := hl i acc H (Nat.le_of_lt hi) p
  obtain ⟨h1, h2⟩ := hs i _ acc H hx p
  refine ⟨⟨xs, _, q, hx⟩, h1, fun x H' y => ?_⟩
  obtain ⟨rfl, y⟩ := y
  have e := y xs q
  rw [hx] at e
  cases e
  exact h2
theorem comp_tup {a : Addr} {xs : List V} (Pv : Nat → List V → Hp → Prop) (h0 : Pv 0 [] H) (hl : ∀ i acc H, i ≤ xs.length → Pv i acc H → SqT K H a xs)
    (hs : ∀ i x acc H, xs[i]? = some x → Pv i acc H → acc.length < sizeLine ∧ g x (slotsC nt is σ) H fun σ2 H2 => tt σ2 H2 fun b H3 => if b = true then te σ2 H3 fun y H4 => Pv (i + 1) (acc ++ [y]) H4 else Pv (i + 1) acc H3)
    (hd : ∀ acc H, Pv xs.length acc H → ∀ p, H p = none → Q (.ref p) (upd H p (.lst acc))) : CompW (Itt K a) nt is g tt te σ H Q := by
  refine comp_gen (n := xs.length) Pv h0 (fun i acc H hi p => ?_) fun acc H p => ⟨⟨xs, hl _ _ _ (Nat.le_refl _) p, Nat.le_refl _⟩, hd acc H p⟩
  have hx : xs[i]? = some xs[i] := by simp [hi]
  have q := hl i acc H (Nat.le_of_lt hi) p
  obtain ⟨h1, h2⟩ := hs i _ acc H hx p
  refine ⟨⟨xs, _, q, hx⟩, h1, fun x H' y => ?_⟩
  obtain ⟨rfl, y⟩ := y
  have e := y xs q
  rw [hx] at e
  cases e
  exact h2
end
section
variable {X : Cx}
theorem call_all (hc : X.calm = true) : CallR X (.builtin "all") (fun xs H Q => ∃ (p : Addr) (bs : List Bool), xs = [.ref p] ∧ SqL X.K H p (bs.map V.bl) ∧ Q (.bl (bs.all id)) H) := by
  intro pins s σ H xs us Q I r h
  obtain ⟨p, bs, rfl, hq, q⟩ := h
  obtain ⟨u, rfl, rx⟩ := vals1 r
  cases rx
  obtain ⟨its, rv, pl, hz⟩ := I.list hq
  have hlen : bs.length = its.length := by have := rv.length; simpa using this
  refine call_all_walk (wpAny_pyIter_list pl.isList ?_)
  have hne : p ≠ s.heap.objs.size := by
    obtain ⟨o, _, e, _⟩ := pl
    exact Nat.ne_of_lt (Heap.lt_size e)
  refine ⟨s.heap.objs.size, _, _, _, _, _, fun i => bs.getD i false, rfl, Walks.list (A := X.A.in1) (show X.A.in1.handled = none from I.ok.hd hc) _ p hne its.toArray, ⟨⟨_, Heap.get?_push_size _ rfl, rfl, rfl⟩, pl.isList.push _⟩, ?_, fun h' tk hk => ?_⟩
  · intro i v s' Q' E' hP hQ'
    have hv : its[i]? = some v := by simpa using hP
    have hi : i < bs.length := by rw [hlen]; exact (List.getElem?_eq_some_iff.mp hv).1
    obtain ⟨v', hv', rv'⟩ := rv.get (i := i) (x := V.bl bs[i]) (by simp [hi])
    rw [hv] at hv'; cases hv'
    cases (show v = Value.bool bs[i] from rv')
    have e : bs.getD i false = bs[i] := by simp [hi]
    have hQ2 : Q' (bs.getD i false) s' := hQ'
    rw [e] at hQ2
    exact wpAny_truthy_bool hQ2
  · have e : ((List.range its.toArray.size).all fun i => bs.getD i false) = bs.all id := by
      rw [List.size_toArray, ← hlen]
      rw [Bool.eq_iff_iff, List.all_eq_true, List.all_eq_true]
      constructor
      · intro h x hx
        obtain ⟨i, hi, rfl⟩ := List.mem_iff_getElem.mp hx
        have := h i (List.mem_range.mpr hi)
        simpa [hi] using this
      · intro h i hi
        have hi' := List.mem_range.mp hi
        have := h bs[i] (List.getElem_mem hi')
        simpa [hi'] using this
    rw [e]
    refine ⟨.bl (bs.all id), H, ?_, rfl, q⟩
    exact I.kept (t' := tk) fun b o e => hk b o (fun z => absurd (Heap.lt_size e) (Nat.not_lt.mpr (Nat.le_of_eq (List.mem_singleton.mp z).symm))) (Heap.get?_push_of_some _ e)
def rJoin (K : PySem.W.Frag) : V → List V → Hp → VK → Prop := fun x vs H Q => ∃ (sep : Str) (p : Addr) (ys : List Str), x = .str sep ∧ vs = [.ref p] ∧ SqL K H p (ys.map V.str) ∧ (ys.map (·.length)).sum + ys.length * sep.length ≤ 16777216 ∧ Q (.str (Txt.join sep ys)) H
def rInst (K : PySem.W.Frag) (T : String) : List V → Hp → VK → Prop := fun vs H Q => ∃ x t b, vs = [x, .ty T] ∧ TyOf K H x t ∧ PySem.W.kitOne K t (.type T) = some b ∧ Q (.bl b) H
theorem call_inst {T : String} : CallR X (.builtin "isinstance") (rInst X.K T) := by
  intro pins s σ H xs us Q I r h
  obtain ⟨x, t, b, rfl, ty, e, q⟩ := h
  obtain ⟨u, u2, rfl, rx, r2⟩ := vals2 r
  cases (show u2 = Value.type T from r2)
  exact isinst_ok I rx ty e fun tk => ⟨.bl b, H, I.tok tk, rfl, q⟩
def eqVs : List V → List V → Bool
  | [], [] => true
  | x :: xs, y :: ys => eqV x y && eqVs xs ys
  | _, _ => false
def rEqL (K : PySem.W.Frag) : R2 := fun x y H Q => ∃ p q xs ys, x = .ref p ∧ y = .ref q ∧ SqL K H p xs ∧ SqL K H q ys ∧ xs.all flatV = true ∧ ys.all flatV = true ∧ Q (.bl (eqVs xs ys)) H
end
end L2
set_option Elab.async false
set_option linter.all false
set_option maxRecDepth 100000
set_option maxHeartbeats 4000000
namespace L2
open PySem PySem.Spec PyProof.Rows
section
variable {X : Cx} {tg l : Expr} {tl : TE} {a : Expr} {pos : Pos} {tA : TT}
theorem op_modP : OpR X (binaryOp .Mod) (rI (fun _ j => 0 < j) fun i j => .int (i % j)) := op_mod
theorem op_fdivP : OpR X (binaryOp .FloorDiv) (rI CDiv fun i j => .int (i / j)) := op_fdiv
def rAddS : R2 := fun x y H Q => ∃ i j, x = .str i ∧ y = .str j ∧ i.length + j.length ≤ sizeLine ∧ Q (.str (i ++ j)) H
def rAddA (K : PySem.W.Frag) : R2 := fun x y H Q => rI0 (fun i j => .int (i + j)) x y H Q ∨ (rAddS x y H Q ∨ (rCat x y H Q ∨ rCatT K x y H Q))
def rMulA : R2 := fun x y H Q => rI CMul (fun i j => .int (i * j)) x y H Q ∨ rRep x y H Q
theorem opA_mul : OpR X (binaryOp .Mult) rMulA := OpR.or op_mul op_rep
def rEqA (K : PySem.W.Frag) : R2 := fun x y H Q => rEq x y H Q ∨ rEqL K x y H Q
theorem opA_ne (hu : X.A.units + 64 < cLine) : OpR X (compareOp .NotEq) rNe := op_ne
def rLtS : R2 := fun x y H Q => ∃ i j, x = .str i ∧ y = .str j ∧ Q (.bl (decide (i.cps.toList < j.cps.toList))) H
def rLtA : R2 := fun x y H Q => rI0 (fun i j => .bl (decide (i < j))) x y H Q ∨ rLtS x y H Q
theorem opA_lt : OpR X (compareOp .Lt) rLtA := OpR.or op_lt op_lt_str
def inS (i j : Str) : Bool := !(Builtin.Str.occurrences j i 0 j.length 1).isEmpty
def rInS (neg : Bool) : R2 := fun x y H Q => ∃ i j, x = .str i ∧ y = .str j ∧ Q (.bl (if neg then !inS i j else inS i j)) H
def rInA (K : PySem.W.Frag) (neg : Bool) : R2 := fun x y H Q => rInS neg x y H Q ∨ rIn K neg x y H Q
theorem opA_in (K : PySem.W.Frag) (hK : X.K = K := by rfl) : OpR X (compareOp .In) (rInA K false) := hK ▸ (OpR.or op_in_str op_in_seq : OpR X (compareOp .In) (rInA X.K false))
def rSlA (K : PySem.W.Frag) : V → Option Int → Option Int → Hp → VK → Prop := fun x lo hi H Q => rSlS x lo hi H Q ∨ (rSlL K x lo hi H Q ∨ rSlT K x lo hi H Q)
theorem ixA (K : PySem.W.Frag) (hK : X.K = K := by rfl) : IxR X (rIx K) := hK ▸ (ix_seq : IxR X (rIx X.K))
def iAnyV (K : PySem.W.Frag) (x : V) (H : Hp) (R : It → Hp → Prop) : Prop := (∃ z, x = .str z ∧ R (Its z) H) ∨ (∃ a, x = .ref a ∧ (∃ xs, SqL K H a xs) ∧ R (Itl K a) H) ∨ (∃ a, x = .ref a ∧ (∃ xs, SqT K H a xs) ∧ R (Itt K a) H)
def iAny (K : PySem.W.Frag) (tl : TE) : TI := fun σ H R => tl σ H fun x H1 => iAnyV K x H1 R
theorem pi_any (K : PySem.W.Frag) (hl : PE X l tl) (hK : X.K = K := by rfl) : PI X tg l (iAny K tl) := by
  subst hK
  intro pins s σ H R I h
  refine thn (hl pins s σ H _ I h) fun v s1 ⟨x, H1, I1, r1, q1⟩ => ?_
  rcases q1 with ⟨z, rfl, q⟩ | ⟨a, rfl, hq, q⟩ | ⟨a, rfl, hq, q⟩
  · exact pi_str_at I1 r1 q
  · obtain ⟨xs, hq⟩ := hq
    cases r1
    obtain ⟨its, rv, p, hz⟩ := I1.list hq
    refine wpAny_pyIter_list p.isList ?_
    refine ⟨s1.heap.objs.size, [s1.heap.objs.size], _, _, H1, rfl, I1.kept (t' := s1.toks) fun b o e => Heap.get?_push_of_some _ e, turn_list a _, ⟨_, Heap.get?_push_size _ rfl, rfl, rfl⟩, fun b hb => ?_, q⟩
    have e : b = s1.heap.objs.size := by simpa using hb
    subst e
    exact I1.fpOk (Nat.le_refl _) (I1.hok.fresh (Nat.le_refl _))
  · obtain ⟨xs, hq⟩ := hq
    cases r1
    obtain ⟨its, rv, p, hz⟩ := I1.tuple hq
    refine wpAny_pyIter_tuple (show s1.heap.IsTuple a its.toArray from p) ?_
    refine ⟨s1.heap.objs.size, [s1.heap.objs.size], _, _, H1, rfl, I1.kept (t' := s1.toks) fun b o e => Heap.get?_push_of_some _ e, turn_tuple a _, ⟨_, Heap.get?_push_size _ rfl, rfl, rfl⟩, fun b hb => ?_, q⟩
    have e : b = s1.heap.objs.size := by simpa using hb
    subst e
    exact I1.fpOk (Nat.le_refl _) (I1.hok.fresh (Nat.le_refl _))
end
section
variable {X : Cx} {o e : Expr} {es : List Expr} {to : TE} {t : TA} {name : Str} {apos cpos : Pos} {T iid : String} {r : V → List V → Hp → VK → Prop}
def rLen (K : PySem.W.Frag) : List V → Hp → VK → Prop := fun xs H Q => ∃ x n, xs = [x] ∧ LenV K x H n ∧ Q (.int n) H
theorem callA_len (K : PySem.W.Frag) (hK : X.K = K := by rfl) : CallR X (.builtin "len") (rLen K) := hK ▸ (call_len : CallR X (.builtin "len") (rLen X.K))
def rAll (K : PySem.W.Frag) : List V → Hp → VK → Prop := fun xs H Q => ∃ (p : Addr) (bs : List Bool), xs = [.ref p] ∧ SqL K H p (bs.map V.bl) ∧ Q (.bl (bs.all id)) H
theorem callA_all (K : PySem.W.Frag) (hc : X.calm = true) (hK : X.K = K := by rfl) : CallR X (.builtin "all") (rAll K) := hK ▸ (call_all hc : CallR X (.builtin "all") (rAll X.K))
def rTupleOf (K : PySem.W.Frag) : List V → Hp → VK → Prop := fun xs H Q => ∃ p ys, xs = [.ref p] ∧ ((SqL K H p ys ∧ ∀ l, H l = none → Q (.ref l) (upd H l (.tup ys))) ∨ (SqT K H p ys ∧ Q (.ref p) H))
theorem callA_tuple (K : PySem.W.Frag) (hK : X.K = K := by rfl) : CallR X (.type "tuple") (rTupleOf K) := hK ▸ (call_tuple_of : CallR X (.type "tuple") (rTupleOf X.K))
def rListOf (K : PySem.W.Frag) : List V → Hp → VK → Prop := fun xs H Q => ∃ p ys, xs = [.ref p] ∧ (SqL K H p ys ∨ SqT K H p ys) ∧ ∀ l, H l = none → Q (.ref l) (upd H l (.lst ys))
def rIntOf : List V → Hp → VK → Prop := fun xs H Q => (∃ i, xs = [.int i] ∧ Q (.int i) H) ∨ ∃ k, xs = [.bl k] ∧ Q (.int (if k then 1 else 0)) H
theorem callA_int : CallR X (.type "int") rIntOf := call_int1
theorem pe_bmA (K : PySem.W.Frag) (pa : PlainAttrs T) (slot : Slot T name iid) (hty : typeOf (.builtin iid) = pure (.type "method_descriptor")) (hm : MtR X iid r) (ho : PE X o to) (ha : PA X (e :: es) t) (hK : X.K = K := by rfl)
    (hbase : attributeBase o name X.env (eval o X.env) = eval o X.env := by rfl)
    (hfew : ((backTo cpos (starEach (e :: es) X.env)).all (fun x => !x.1) && (backToKw cpos (keywordEach [] X.env)).all (fun x => x.1.isSome)
      && decide ((e :: es).length + ([] : List Keyword).length + (if ([] : List Keyword).isEmpty then 0 else 1) < 30)) = true := by rfl)
    (hline : (apos.endLine == cpos.line) = true := by rfl) (hs : starEach (e :: es) X.env = (false, eval e X.env) :: starEach es X.env := by rfl) (hplain : (backTo cpos (starEach es X.env)).any (·.1) = false := by rfl) :
    PE X (.Call (.Attribute o name apos) (e :: es) [] cpos) (tBM K T r to t) := hK ▸ pe_bm pa slot hty hm ho ha hbase hfew hline hs hplain
end
section
variable {K : PySem.W.Frag} {g : TG} {tb : TS} {D : Ends} {σ : St} {H : Hp}
def ForW (J : It) (g : TG) (tb : TS) (D : Ends) (σ : St) (H : Hp) : Prop := ∃ W : Nat → Nat → St → Hp → Prop, (∃ m, W 0 m σ H) ∧ ∀ i m σ H, W i m σ H →
  (J.stop i H ∧ D.nx σ H) ∨ (J.go i H ∧ ∃ N : St → Hp → Prop, (∀ σ' H', N σ' H' → ∃ m', m' < m ∧ W (i + 1) m' σ' H') ∧ ∀ x H', J.yld i H x H' → g x σ H' fun σ2 H2 => tb { D with nx := N, ct := N, bk := D.nx } σ2 H2)
theorem tFor_eq {wi : TI} : tFor wi g tb D σ H = wi σ H fun J H1 => ForW J g tb D σ H1 := rfl
theorem forW_list {a : Addr} {xs : List V} (Pv : Nat → St → Hp → Prop) (h0 : Pv 0 σ H) (hl : ∀ i σ H, i ≤ xs.length → Pv i σ H → SqL K H a xs)
    (hs : ∀ i x σ H, xs[i]? = some x → Pv i σ H → g x σ H fun σ2 H2 => tb { D with nx := Pv (i + 1), ct := Pv (i + 1), bk := D.nx } σ2 H2) (hd : ∀ σ H, Pv xs.length σ H → D.nx σ H) : ForW (Itl K a) g tb D σ H := for_list Pv h0 hl hs hd
theorem forW_tup {a : Addr} {xs : List V} (Pv : Nat → St → Hp → Prop) (h0 : Pv 0 σ H) (hl : ∀ i σ H, i ≤ xs.length → Pv i σ H → SqT K H a xs)
    (hs : ∀ i x σ H, xs[i]? = some x → Pv i σ H → g x σ H fun σ2 H2 => tb { D with nx := Pv (i + 1), ct := Pv (i + 1), bk := D.nx } σ2 H2) (hd : ∀ σ H, Pv xs.length σ H → D.nx σ H) : ForW (Itt K a) g tb D σ H := for_tup Pv h0 hl hs hd
theorem forW_range {lo : Int} {n : Nat} (Pv : Nat → St → Hp → Prop) (h0 : Pv 0 σ H)
    (hs : ∀ i σ H, i < n → Pv i σ H → g (.int (lo + i)) σ H fun σ2 H2 => tb { D with nx := Pv (i + 1), ct := Pv (i + 1), bk := D.nx } σ2 H2) (hd : ∀ σ H, Pv n σ H → D.nx σ H) : ForW (Itr lo n) g tb D σ H := for_range Pv h0 hs hd
end
theorem sz1000 {n : Nat} (h : n ≤ 100000) : n ≤ sizeLine := Nat.le_trans h (by rw [sizeLine_eq]; decide)
theorem sz1000' {n : Nat} (h : n ≤ 100000) : n < sizeLine := Nat.lt_of_le_of_lt h (by rw [sizeLine_eq]; decide)
theorem same_new {H : Hp} {p : Addr} (h : H p = none) (o : HO) : Same H (upd H p o) := fun b u q => by rw [upd_ne (ne_of_none q h)]; exact q
theorem Same.seqT {K : PySem.W.Frag} {H H' : Hp} {a : Addr} {xs : List V} (e : Same H H') (h : SqT K H a xs) : SqT K H' a xs := by
  rcases h with (h | ⟨o, h⟩) | h
  · exact .inl (.inl (e _ _ h))
  · exact .inl (.inr ⟨o, e _ _ h⟩)
  · exact .inr h
theorem atI_some {α : Type} {xs : List α} {i : Int} (h0 : 0 ≤ i) (h1 : i < xs.length) : ∃ v, v ∈ xs ∧ atI xs i = some v := by
  have hk : i.toNat < xs.length := by omega
  have e : i = ((i.toNat : Nat) : Int) := by omega
  refine ⟨xs[i.toNat], List.getElem_mem hk, ?_⟩
  have q : atI xs ((i.toNat : Nat) : Int) = some xs[i.toNat] := atI_nat (by simp [hk])
  rw [← e] at q
  exact q
theorem atI_getD {α : Type} {xs : List α} {i : Int} {d : α} (h0 : 0 ≤ i) (h1 : i < xs.length) : atI xs i = some (xs.getD i.toNat d) := by
  have hk : i.toNat < xs.length := by omega
  have e : i = ((i.toNat : Nat) : Int) := by omega
  have q : atI xs ((i.toNat : Nat) : Int) = some xs[i.toNat] := atI_nat (by simp [hk])
  rw [← e] at q
  rw [q]; simp [hk]
def spLaw (K : PySem.W.Frag) : Sp := fun vs H Q _ => ∃ (a : Addr) (ns : List Int), vs = [.ref a] ∧ SqL K H a (ns.map V.int) ∧ ns.length ≤ 63 ∧ ∀ H', Q (.bl true) H'
end L2
set_option Elab.async false
set_option linter.all false
set_option maxRecDepth 100000
set_option maxHeartbeats 4000000
namespace L2
open PySem PySem.Spec PyProof.Rows
section
variable {K : PySem.W.Frag} {H : Hp} {Q : VK} {σ : St} {D : Ends} {ta tb tc te : TE} {tt tA tB' : TT} {t u : TS} {g : TG} {r : R2} {tl : TA} {v0 v1 v2 v3 v4 v5 v6 v7 v8 v9 v10 v11 : V}
  {o0 o1 o2 o3 o4 o5 o6 o7 o8 o9 o10 o11 : Option V} {rr : St}
theorem w_v0 : tVar 0 (some v0 :: rr) H Q = Q v0 H := by simp [tVar]
theorem w_v1 : tVar 1 (o0 :: some v1 :: rr) H Q = Q v1 H := by simp [tVar]
theorem w_v2 : tVar 2 (o0 :: o1 :: some v2 :: rr) H Q = Q v2 H := by simp [tVar]
theorem w_v3 : tVar 3 (o0 :: o1 :: o2 :: some v3 :: rr) H Q = Q v3 H := by simp [tVar]
theorem w_v4 : tVar 4 (o0 :: o1 :: o2 :: o3 :: some v4 :: rr) H Q = Q v4 H := by simp [tVar]
theorem w_v5 : tVar 5 (o0 :: o1 :: o2 :: o3 :: o4 :: some v5 :: rr) H Q = Q v5 H := by simp [tVar]
theorem w_v6 : tVar 6 (o0 :: o1 :: o2 :: o3 :: o4 :: o5 :: some v6 :: rr) H Q = Q v6 H := by simp [tVar]
theorem w_v7 : tVar 7 (o0 :: o1 :: o2 :: o3 :: o4 :: o5 :: o6 :: some v7 :: rr) H Q = Q v7 H := by simp [tVar]
theorem w_v8 : tVar 8 (o0 :: o1 :: o2 :: o3 :: o4 :: o5 :: o6 :: o7 :: some v8 :: rr) H Q = Q v8 H := by simp [tVar]
theorem w_v9 : tVar 9 (o0 :: o1 :: o2 :: o3 :: o4 :: o5 :: o6 :: o7 :: o8 :: some v9 :: rr) H Q = Q v9 H := by simp [tVar]
theorem w_v10 : tVar 10 (o0 :: o1 :: o2 :: o3 :: o4 :: o5 :: o6 :: o7 :: o8 :: o9 :: some v10 :: rr) H Q = Q v10 H := by simp [tVar]
theorem w_v11 : tVar 11 (o0 :: o1 :: o2 :: o3 :: o4 :: o5 :: o6 :: o7 :: o8 :: o9 :: o10 :: some v11 :: rr) H Q = Q v11 H := by simp [tVar]
theorem w_c {v : V} : tC v σ H Q = Q v H := rfl
theorem w_seq : tSeq t u D σ H = t { D with nx := u D } σ H := rfl
theorem w_ifS : tIfS tt t u D σ H = tt σ H fun b H1 => if b = true then t D σ H1 else u D σ H1 := rfl
theorem w_next : tNext D σ H = D.nx σ H := rfl
theorem w_ret : tRet te D σ H = te σ H D.rt := rfl
theorem w_retN : tRetN D σ H = D.rt .non H := rfl
theorem w_drop : tDrop te D σ H = te σ H fun _ H1 => D.nx σ H1 := rfl
theorem w_asg : tAsg te g D σ H = te σ H fun x H1 => g x σ H1 D.nx := rfl
theorem w_gName {i : Nat} {x : V} {Qs : St → Hp → Prop} : gName i x σ H Qs = Qs (σ.set i (some x)) H := rfl
theorem w_op : tOp r ta tb σ H Q = ta σ H fun x H1 => tb σ H1 fun y H2 => r x y H2 Q := rfl
theorem w_un {f : V → Hp → VK → Prop} : tUn f ta σ H Q = ta σ H fun x H1 => f x H1 Q := rfl
variable {Qb : Bool → Hp → Prop} {Qs : List V → Hp → Prop}
theorem w_test : tTest te σ H Qb = te σ H fun x H' => ∃ k, x = .bl k ∧ Qb k H' := rfl
theorem w_B : tB te σ H Qb = te σ H fun x H' => ∃ k, x = .bl k ∧ Qb k H' := rfl
theorem w_bl {b : Bool} {P : Bool → Prop} : (∃ k, V.bl b = .bl k ∧ P k) = P b := by
  refine propext ⟨fun ⟨k, e, h⟩ => ?_, fun h => ⟨b, rfl, h⟩⟩
  cases e; exact h
theorem w_and : tAnd tA tB' σ H Qb = tA σ H fun c H1 => if c = true then tB' σ H1 Qb else Qb false H1 := rfl
theorem w_or : tOr tA tB' σ H Qb = tA σ H fun c H1 => if c = true then Qb true H1 else tB' σ H1 Qb := rfl
theorem w_not : tNot tA σ H Qb = tA σ H fun c H1 => Qb (!c) H1 := rfl
theorem w_andV : tAndV ta tb σ H Q = ta σ H fun x H1 => ∃ c, x = .bl c ∧ if c = true then tb σ H1 Q else Q (.bl false) H1 := rfl
theorem w_orV : tOrV ta tb σ H Q = ta σ H fun x H1 => ∃ c, x = .bl c ∧ if c = true then Q (.bl true) H1 else tb σ H1 Q := rfl
theorem w_notV : tNotV ta σ H Q = ta σ H fun x H1 => ∃ c, x = .bl c ∧ Q (.bl (!c)) H1 := rfl
theorem w_if : tIf tt ta tb σ H Q = tt σ H fun c H1 => if c = true then ta σ H1 Q else tb σ H1 Q := rfl
theorem w_true : tTrue σ H Qb = Qb true H := rfl
theorem w_nil : tNil σ H Qs = Qs [] H := rfl
theorem w_cons : tCons ta tl σ H Qs = ta σ H fun x H1 => tl σ H1 fun xs H2 => Qs (x :: xs) H2 := rfl
theorem w_tup : tTup tl σ H Q = tl σ H fun xs H1 => xs.length ≤ sizeLine ∧ ∀ p, H1 p = none → Q (.ref p) (upd H1 p (.tup xs)) := rfl
theorem w_lst : tLst tl σ H Q = tl σ H fun xs H1 => xs.length ≤ sizeLine ∧ ∀ p, H1 p = none → Q (.ref p) (upd H1 p (.lst xs)) := rfl
theorem w_call {sp : Sp} {dvs : List V} {E : XK} : tCall sp dvs E tl σ H Q = tl σ H fun vs H1 => sp (vs ++ dvs) H1 Q E := rfl
theorem w_CB {f : List V → Hp → VK → Prop} : tCB f tl σ H Q = tl σ H fun vs H1 => f vs H1 Q := rfl
theorem w_BM {T : String} {f : V → List V → Hp → VK → Prop} : tBM K T f te tl σ H Q = te σ H fun x H1 => tyV K T x H1 ∧ tl σ H1 fun xs H2 => f x xs H2 Q := rfl
theorem w_ty_str {T : String} {x : Str} : tyV K T (.str x) H = (T = "str") := rfl
theorem w_ty_list {T : String} {p : Addr} (h : T = "list") : tyV K T (.ref p) H = ∃ xs, SqL K H p xs := by
  subst h
  refine propext ⟨fun h => ?_, fun h => .inl ⟨rfl, h⟩⟩
  rcases h with ⟨_, h⟩ | ⟨h, _⟩ | ⟨h, _⟩ | ⟨h, _⟩
  · exact h
  · exact absurd h (by decide)
  · exact absurd h (by decide)
  · exact absurd h (by decide)
variable {tlo thi : TO} {Qo : Option Int → Hp → Prop}
theorem w_sl {f : V → Option Int → Option Int → Hp → VK → Prop} : tSl f te tlo thi σ H Q = te σ H fun x H1 => tlo σ H1 fun l H2 => thi σ H2 fun u H3 => f x l u H3 Q := rfl
theorem w_noPart : tNoPart σ H Qo = Qo none H := rfl
theorem w_part : tPart te σ H Qo = te σ H fun x H1 => ∃ i, x = .int i ∧ Qo (some i) H1 := rfl
theorem w_int {i : Int} {P : Int → Prop} : (∃ k, V.int i = .int k ∧ P k) = P i := by
  refine propext ⟨fun ⟨k, e, h⟩ => ?_, fun h => ⟨i, rfl, h⟩⟩
  cases e; exact h
variable {i j : Int} {x y : Str} {b c : Bool} {p q : Addr} {gi : Int → Int → V} {C : Int → Int → Prop}
theorem w_rI0 : rI0 gi (.int i) (.int j) H Q = Q (gi i j) H := by
  refine propext ⟨fun ⟨_, _, e1, e2, h⟩ => ?_, fun h => ⟨i, j, rfl, rfl, h⟩⟩
  cases e1; cases e2; exact h
theorem w_rI : rI C gi (.int i) (.int j) H Q = (C i j ∧ Q (gi i j) H) := by
  refine propext ⟨fun ⟨_, _, e1, e2, h⟩ => ?_, fun h => ⟨i, j, rfl, rfl, h⟩⟩
  cases e1; cases e2; exact h
theorem w_addI : rAddA K (.int i) (.int j) H Q = Q (.int (i + j)) H := by
  unfold rAddA
  rw [w_rI0]
  refine propext ⟨fun h => ?_, .inl⟩
  rcases h with h | ⟨_, _, e, _⟩ | ⟨_, _, _, _, e, _⟩ | ⟨_, _, _, _, e, _⟩
  · exact h
  all_goals cases e
theorem w_addS : rAddA K (.str x) (.str y) H Q = (x.length + y.length ≤ sizeLine ∧ Q (.str (x ++ y)) H) := by
  refine propext ⟨fun h => ?_, fun h => .inr (.inl ⟨x, y, rfl, rfl, h⟩)⟩
  rcases h with ⟨_, _, e, _⟩ | ⟨_, _, e1, e2, h⟩ | ⟨_, _, _, _, e, _⟩ | ⟨_, _, _, _, e, _⟩
  · cases e
  · cases e1; cases e2; exact h
  all_goals cases e
theorem w_mulI : rMulA (.int i) (.int j) H Q = (CMul i j ∧ Q (.int (i * j)) H) := by
  unfold rMulA
  rw [w_rI]
  refine propext ⟨fun h => ?_, .inl⟩
  rcases h with h | ⟨_, _, _, e, _⟩
  · exact h
  · cases e
theorem w_eqI : rEqA K (.int i) (.int j) H Q = Q (.bl (decide (i = j))) H := by
  refine propext ⟨fun h => ?_, fun h => .inl ⟨rfl, by simpa using h⟩⟩
  rcases h with ⟨_, h⟩ | ⟨_, _, _, _, e, _⟩
  · simpa using h
  · cases e
theorem w_eqS : rEqA K (.str x) (.str y) H Q = Q (.bl (decide (x = y))) H := by
  refine propext ⟨fun h => ?_, fun h => .inl ⟨rfl, by simpa using h⟩⟩
  rcases h with ⟨_, h⟩ | ⟨_, _, _, _, e, _⟩
  · simpa using h
  · cases e
theorem w_eqR : rEqA K (.ref p) (.ref q) H Q = rEqL K (.ref p) (.ref q) H Q := by
  refine propext ⟨fun h => ?_, .inr⟩
  rcases h with ⟨e, _⟩ | h
  · cases e
  · exact h
theorem w_neI : rNe (.int i) (.int j) H Q = Q (.bl (!decide (i = j))) H := by
  refine propext ⟨fun ⟨_, h⟩ => by simpa using h, fun h => ⟨rfl, by simpa using h⟩⟩
theorem w_neS : rNe (.str x) (.str y) H Q = Q (.bl (!decide (x = y))) H := by
  refine propext ⟨fun ⟨_, h⟩ => by simpa using h, fun h => ⟨rfl, by simpa using h⟩⟩
theorem w_ltI : rLtA (.int i) (.int j) H Q = Q (.bl (decide (i < j))) H := by
  unfold rLtA
  rw [w_rI0]
  refine propext ⟨fun h => ?_, .inl⟩
  rcases h with h | ⟨_, _, e, _⟩
  · exact h
  · cases e
theorem w_inS : rInA K false (.str x) (.str y) H Q = Q (.bl (inS x y)) H := by
  refine propext ⟨fun h => ?_, fun h => .inl ⟨x, y, rfl, rfl, h⟩⟩
  rcases h with ⟨_, _, e1, e2, h⟩ | ⟨_, _, e, _⟩
  · cases e1; cases e2; exact h
  · cases e
theorem w_notinS : rInA K true (.str x) (.str y) H Q = Q (.bl (!inS x y)) H := by
  refine propext ⟨fun h => ?_, fun h => .inl ⟨x, y, rfl, rfl, h⟩⟩
  rcases h with ⟨_, _, e1, e2, h⟩ | ⟨_, _, e, _⟩
  · cases e1; cases e2; exact h
  · cases e
theorem w_inR {v : V} : rInA K false v (.ref p) H Q = ∃ xs, (SqL K H p xs ∨ SqT K H p xs) ∧ flatV v = true ∧ xs.all flatV = true ∧ Q (.bl (inV v xs)) H := by
  refine propext ⟨fun h => ?_, fun ⟨xs, h⟩ => .inr ⟨p, xs, rfl, h⟩⟩
  rcases h with ⟨_, _, _, e2, _⟩ | ⟨_, xs, e, h⟩
  · cases e2
  · cases e; exact ⟨xs, h⟩
theorem w_notinR {v : V} : rInA K true v (.ref p) H Q = ∃ xs, (SqL K H p xs ∨ SqT K H p xs) ∧ flatV v = true ∧ xs.all flatV = true ∧ Q (.bl (!inV v xs)) H := by
  refine propext ⟨fun h => ?_, fun ⟨xs, h⟩ => .inr ⟨p, xs, rfl, h⟩⟩
  rcases h with ⟨_, _, _, e2, _⟩ | ⟨_, xs, e, h⟩
  · cases e2
  · cases e; exact ⟨xs, h⟩
theorem w_ixS : rIx K (.str x) (.int i) H Q = (x.length ≤ sizeLine ∧ ∃ c, atI x.cps.toList i = some c ∧ Q (.str ⟨#[c]⟩) H) := by
  refine propext ⟨fun h => ?_, fun ⟨h1, c, h2, h3⟩ => .inr (.inr ⟨x, i, c, rfl, rfl, h1, h2, h3⟩)⟩
  rcases h with ⟨_, _, _, _, e, _⟩ | ⟨_, _, _, _, e, _⟩ | ⟨_, _, c, e1, e2, h1, h2, h3⟩
  · cases e
  · cases e
  · cases e1; cases e2; exact ⟨h1, c, h2, h3⟩
theorem w_ixR : rIx K (.ref p) (.int i) H Q = ∃ xs, (SqL K H p xs ∨ SqT K H p xs) ∧ ∃ v, atI xs i = some v ∧ Q v H := by
  refine propext ⟨fun h => ?_, fun ⟨xs, h, v, e, q⟩ => ?_⟩
  · rcases h with ⟨_, xs, _, v, e1, e2, h1, h2, h3⟩ | ⟨_, xs, _, v, e1, e2, h1, h2, h3⟩ | ⟨_, _, _, e, _⟩
    · cases e1; cases e2; exact ⟨xs, .inl h1, v, h2, h3⟩
    · cases e1; cases e2; exact ⟨xs, .inr h1, v, h2, h3⟩
    · cases e
  · rcases h with h | h
    · exact .inl ⟨p, xs, i, v, rfl, rfl, h, e, q⟩
    · exact .inr (.inl ⟨p, xs, i, v, rfl, rfl, h, e, q⟩)
theorem w_lenS : rLen K [.str x] H Q = (x.length ≤ sizeLine ∧ Q (.int x.length) H) := by
  refine propext ⟨fun ⟨_, n, e, h, q⟩ => ?_, fun ⟨h, q⟩ => ⟨_, _, rfl, ⟨h, rfl⟩, q⟩⟩
  cases e
  obtain ⟨h1, rfl⟩ := h
  exact ⟨h1, q⟩
theorem w_lenR : rLen K [.ref p] H Q = ∃ xs, (SqL K H p xs ∨ SqT K H p xs) ∧ Q (.int (xs.length : Nat)) H := by
  refine propext ⟨fun ⟨_, n, e, h, q⟩ => ?_, fun ⟨xs, h, q⟩ => ?_⟩
  · cases e
    rcases h with ⟨xs, h, rfl⟩ | ⟨xs, h, rfl⟩
    · exact ⟨xs, .inl h, q⟩
    · exact ⟨xs, .inr h, q⟩
  · rcases h with h | h
    · exact ⟨_, _, rfl, .inl ⟨xs, h, rfl⟩, q⟩
    · exact ⟨_, _, rfl, .inr ⟨xs, h, rfl⟩, q⟩
theorem w_slS {lo hi : Option Int} : rSlA K (.str x) lo hi H Q = (x.length ≤ sizeLine ∧ Q (.str (Txt.slice x lo hi)) H) := by
  refine propext ⟨fun h => ?_, fun h => .inl ⟨x, rfl, h⟩⟩
  rcases h with ⟨_, e, h⟩ | ⟨_, _, e, _⟩ | ⟨_, _, e, _⟩
  · cases e; exact h
  · cases e
  · cases e
theorem w_all : rAll K [.ref p] H Q = ∃ bs : List Bool, SqL K H p (bs.map V.bl) ∧ Q (.bl (bs.all id)) H := by
  refine propext ⟨fun ⟨_, bs, e, h⟩ => ?_, fun ⟨bs, h⟩ => ⟨p, bs, rfl, h⟩⟩
  cases e; exact ⟨bs, h⟩
theorem w_join {sep : Str} : rJoin K (.str sep) [.ref p] H Q = ∃ ys : List Str, SqL K H p (ys.map V.str) ∧ (ys.map (·.length)).sum + ys.length * sep.length ≤ 16777216 ∧ Q (.str (Txt.join sep ys)) H := by
  refine propext ⟨fun ⟨_, _, ys, e1, e2, h⟩ => ?_, fun ⟨ys, h⟩ => ⟨sep, p, ys, rfl, rfl, h⟩⟩
  cases e1; cases e2; exact ⟨ys, h⟩
theorem w_intB {b : Bool} : rIntOf [.bl b] H Q = Q (.int (if b then 1 else 0)) H := by
  refine propext ⟨fun h => ?_, fun h => .inr ⟨b, rfl, h⟩⟩
  rcases h with ⟨_, e, _⟩ | ⟨_, e, h⟩
  · cases e
  · cases e; exact h
theorem w_intI : rIntOf [.int i] H Q = Q (.int i) H := by
  refine propext ⟨fun h => ?_, fun h => .inl ⟨i, rfl, h⟩⟩
  rcases h with ⟨_, e, h⟩ | ⟨_, e, _⟩
  · cases e; exact h
  · cases e
variable {R : It → Hp → Prop}
theorem w_itS : iAnyV K (.str x) H R = R (Its x) H := by
  refine propext ⟨fun h => ?_, fun h => .inl ⟨x, rfl, h⟩⟩
  rcases h with ⟨_, e, h⟩ | ⟨_, e, _⟩ | ⟨_, e, _⟩
  · cases e; exact h
  · cases e
  · cases e
theorem w_itR : iAnyV K (.ref p) H R = (((∃ xs, SqL K H p xs) ∧ R (Itl K p) H) ∨ ((∃ xs, SqT K H p xs) ∧ R (Itt K p) H)) := by
  refine propext ⟨fun h => ?_, fun h => ?_⟩
  · rcases h with ⟨_, e, _⟩ | ⟨_, e, h⟩ | ⟨_, e, h⟩
    · cases e
    · cases e; exact .inl h
    · cases e; exact .inr h
  · rcases h with h | h
    · exact .inr (.inl ⟨p, rfl, h⟩)
    · exact .inr (.inr ⟨p, rfl, h⟩)
theorem w_iAny : iAny K te σ H R = te σ H fun x H1 => iAnyV K x H1 R := rfl
theorem w_rng1 : iRng1 tl σ H R = tl σ H fun vs H1 => ∃ j : Int, vs = [.int j] ∧ -(2 ^ 62) ≤ j ∧ j < 2 ^ 62 ∧ R (Itr 0 j.toNat) H1 := rfl
theorem w_rngI {P : Int → Prop} : (∃ j : Int, [V.int i] = [.int j] ∧ P j) = P i := by
  refine propext ⟨fun ⟨_, e, h⟩ => ?_, fun h => ⟨i, rfl, h⟩⟩
  cases e; exact h
end
end L2
set_option Elab.async false
set_option linter.all false
set_option maxRecDepth 100000
set_option maxHeartbeats 4000000
namespace L2
open PySem PySem.Spec PyProof.Rows
section
variable {K : PySem.W.Frag} {H : Hp} {Q : VK} {σ : St} {D : Ends} {ta tb tc te ti to : TE} {i j : Int} {x y : Str} {p q : Addr} {v : V} {T : String} {lo hi : Option Int}
theorem w_ints2 {P : Int → Int → Prop} : (∃ i' j', [V.int i, V.int j] = [V.int i', V.int j'] ∧ P i' j') = P i j := by
  refine propext ⟨fun ⟨_, _, e, h⟩ => ?_, fun h => ⟨i, j, rfl, h⟩⟩
  cases e; exact h
theorem w_tupleOf : rTupleOf K [.ref p] H Q = ∃ ys, (SqL K H p ys ∧ ∀ l, H l = none → Q (.ref l) (upd H l (.tup ys))) ∨ (SqT K H p ys ∧ Q (.ref p) H) := by
  refine propext ⟨fun ⟨_, ys, e, h⟩ => ?_, fun ⟨ys, h⟩ => ⟨p, ys, rfl, h⟩⟩
  cases e; exact ⟨ys, h⟩
theorem w_listOf : rListOf K [.ref p] H Q = ∃ ys, (SqL K H p ys ∨ SqT K H p ys) ∧ ∀ l, H l = none → Q (.ref l) (upd H l (.lst ys)) := by
  refine propext ⟨fun ⟨_, ys, e, h⟩ => ?_, fun ⟨ys, h⟩ => ⟨p, ys, rfl, h⟩⟩
  cases e; exact ⟨ys, h⟩
theorem w_append : rAppend (.ref p) [v] H Q = ∃ xs, H p = some (.lst xs) ∧ xs.length < sizeLine ∧ Q .non (upd H p (.lst (xs ++ [v]))) := by
  refine propext ⟨fun ⟨_, xs, _, e1, e2, h⟩ => ?_, fun ⟨xs, h⟩ => ⟨p, xs, v, rfl, rfl, h⟩⟩
  cases e1; cases e2; exact ⟨xs, h⟩
theorem w_extend : rExtend (.ref p) [.ref q] H Q = ∃ xs zs, H p = some (.lst xs) ∧ H q = some (.lst zs) ∧ xs.length + zs.length ≤ sizeLine ∧ Q .non (upd H p (.lst (xs ++ zs))) := by
  refine propext ⟨fun ⟨_, _, xs, zs, e1, e2, h⟩ => ?_, fun ⟨xs, zs, h⟩ => ⟨p, q, xs, zs, rfl, rfl, h⟩⟩
  cases e1; cases e2; exact ⟨xs, zs, h⟩
theorem w_setL {Qh : Hp → Prop} : rSetL (.ref p) (.int i) v H Qh = ∃ xs j, H p = some (.lst xs) ∧ ixN xs.length i = some j ∧ Qh (upd H p (.lst (xs.set j v))) := by
  refine propext ⟨fun ⟨_, xs, _, j, e1, e2, h⟩ => ?_, fun ⟨xs, j, h⟩ => ⟨p, xs, i, j, rfl, rfl, h⟩⟩
  cases e1; cases e2; exact ⟨xs, j, h⟩
theorem w_gSub {t : TSet} {Qs : St → Hp → Prop} : gSub to ti t v σ H Qs = to σ H fun o H1 => ti σ H1 fun i H2 => t o i v H2 fun H3 => Qs σ H3 := rfl
theorem w_instInt : rInst K T [.int i, .ty T] H Q = ∃ b, PySem.W.kitOne K (.type "int") (.type T) = some b ∧ Q (.bl b) H := by
  refine propext ⟨fun ⟨_, _, b, e, t, h⟩ => ?_, fun ⟨b, h⟩ => ⟨_, _, b, rfl, .int i, h⟩⟩
  cases e; cases t; exact ⟨b, h⟩
theorem w_instStr : rInst K T [.str x, .ty T] H Q = ∃ b, PySem.W.kitOne K (.type "str") (.type T) = some b ∧ Q (.bl b) H := by
  refine propext ⟨fun ⟨_, _, b, e, t, h⟩ => ?_, fun ⟨b, h⟩ => ⟨_, _, b, rfl, .str x, h⟩⟩
  cases e; cases t; exact ⟨b, h⟩
theorem w_slR : rSlA K (.ref p) lo hi H Q = ∃ xs, (SqL K H p xs ∧ ∀ q, H q = none → Q (.ref q) (upd H q (.lst (cutV xs lo hi)))) ∨
    (SqT K H p xs ∧ ¬ (HT.sIx xs.length 0 lo = 0 ∧ HT.sIx xs.length xs.length hi = xs.length) ∧ ∀ q, H q = none → Q (.ref q) (upd H q (.tup (cutV xs lo hi)))) := by
  refine propext ⟨fun h => ?_, fun ⟨xs, h⟩ => ?_⟩
  · rcases h with ⟨_, e, _⟩ | ⟨_, xs, e, h⟩ | ⟨_, xs, e, h⟩
    · cases e
    · cases e; exact ⟨xs, .inl h⟩
    · cases e; exact ⟨xs, .inr h⟩
  · rcases h with h | h
    · exact .inr (.inl ⟨p, xs, rfl, h⟩)
    · exact .inr (.inr ⟨p, xs, rfl, h⟩)
theorem w_catR : rAddA K (.ref p) (.ref q) H Q = ∃ xs zs, (H p = some (.lst xs) ∧ H q = some (.lst zs) ∧ xs.length + zs.length ≤ sizeLine ∧ ∀ r, H r = none → Q (.ref r) (upd H r (.lst (xs ++ zs)))) ∨
    (SqT K H p xs ∧ SqT K H q zs ∧ xs ≠ [] ∧ xs.length + zs.length ≤ sizeLine ∧ (zs = [] → Q (.ref p) H) ∧ (zs ≠ [] → ∀ r, H r = none → Q (.ref r) (upd H r (.tup (xs ++ zs))))) := by
  refine propext ⟨fun h => ?_, fun ⟨xs, zs, h⟩ => ?_⟩
  · rcases h with ⟨_, _, e, _⟩ | ⟨_, _, e, _⟩ | ⟨_, _, xs, zs, e1, e2, h⟩ | ⟨_, _, xs, zs, e1, e2, h⟩
    · cases e
    · cases e
    · cases e1; cases e2; exact ⟨xs, zs, .inl h⟩
    · cases e1; cases e2; exact ⟨xs, zs, .inr h⟩
  · rcases h with h | h
    · exact .inr (.inr (.inl ⟨p, q, xs, zs, rfl, rfl, h⟩))
    · exact .inr (.inr (.inr ⟨p, q, xs, zs, rfl, rfl, h⟩))
end
theorem mtR_append {X : Cx} : MtR X "list.append" rAppend := mt_append
theorem mtR_extend {X : Cx} : MtR X "list.extend" rExtend := mt_extend
theorem Same.upd {H0 H : Hp} {p : Addr} {o : HO} (s : Same H0 H) (h : H0 p = none) : Same H0 (upd H p o) := fun b u q => by rw [upd_ne (ne_of_none q h)]; exact s b u q
theorem keep1 {H : Hp} {p a : Addr} {o u : HO} (hn : H p = none) (h : H a = some u) : upd H p o a = some u := by rw [upd_ne (ne_of_none h hn)]; exact h
inductive Bi where | and | or | thn
  deriving DecidableEq
def Bi.txt : Bi → Str | .and => "and" | .or => "or" | .thn => "then"
def qtx : Bool → Str | true => "all" | false => "some"
inductive Stm where
  | is (w : Str) (ts : List Str) | fls | neg (A : Stm) | bi (o : Bi) (A B : Stm) | qu (q : Bool) (X : Str) (A : Stm)
  deriving DecidableEq
namespace Stm
def deep : Stm → Nat
  | .is _ _ => 1 | .fls => 1 | .neg A => A.deep + 1 | .bi _ A B => max A.deep B.deep + 1 | .qu _ _ A => A.deep + 1
def size : Stm → Nat
  | .is _ _ => 1 | .fls => 1 | .neg A => A.size + 1 | .bi _ A B => A.size + B.size + 1 | .qu _ _ A => A.size + 1
def parts : Stm → List Stm
  | .is _ _ => [] | .fls => [] | .neg A => [A] | .bi _ A B => [A, B] | .qu _ _ A => [A]
def tag : Stm → Str
  | .is _ _ => "is" | .fls => "false" | .neg _ => "not" | .bi o _ _ => o.txt | .qu q _ _ => qtx q
theorem deep_pos (S : Stm) : 1 ≤ S.deep := by cases S <;> simp [deep]
end Stm
def smallS : Str := "abcdefghijklmnopqrstuvwxyz"
def greatS : Str := "ABCDEFGHIJKLMNOPQRSTUVWXYZ"
def sofS : Str := "abcdefghijklmnopqrstuvwxyz0123456789"
def keptW : List Str := ["not", "and", "or", "then", "all", "some", "false"]
def Nm (f x : Str) : Prop := ∃ c r, x.cps.toList = c :: r ∧ c ∈ f.cps.toList ∧ (∀ d ∈ r, d ∈ sofS.cps.toList) ∧ r.length ≤ 7 ∧ x ∉ keptW
def Stm.Ok : Stm → Prop
  | .is w ts => Nm smallS w ∧ ts.length ≤ 3 ∧ ∀ t ∈ ts, Nm smallS t ∨ Nm greatS t
  | .fls => True
  | .neg A => A.Ok
  | .bi _ A B => A.Ok ∧ B.Ok
  | .qu _ X A => Nm greatS X ∧ A.Ok
theorem Nm.len {f x : Str} (h : Nm f x) : x.length ≤ 8 ∧ 1 ≤ x.length := by
  obtain ⟨c, r, e, _, _, h, _⟩ := h
  have : x.length = x.cps.toList.length := by simp [Str.length]
  rw [this, e, List.length_cons]
  omega
def RepS (K : PySem.W.Frag) (H : Hp) : Stm → V → Prop
  | .is w ts, v => ∃ a b, v = .ref a ∧ SqT K H a [.str "is", .str w, .ref b] ∧ SqT K H b (ts.map V.str)
  | .fls, v => ∃ a, v = .ref a ∧ SqT K H a [.str "false"]
  | .neg A, v => ∃ a u, v = .ref a ∧ SqT K H a [.str "not", u] ∧ RepS K H A u
  | .bi o A B, v => ∃ a u u', v = .ref a ∧ SqT K H a [.str o.txt, u, u'] ∧ RepS K H A u ∧ RepS K H B u'
  | .qu q X A, v => ∃ a u, v = .ref a ∧ SqT K H a [.str (qtx q), .str X, u] ∧ RepS K H A u
theorem RepS.same {K : PySem.W.Frag} {H H' : Hp} (e : Same H H') : ∀ {S : Stm} {v : V}, RepS K H S v → RepS K H' S v
  | .is _ _, _, ⟨a, b, h1, h2, h3⟩ => ⟨a, b, h1, e.seqT h2, e.seqT h3⟩
  | .fls, _, ⟨a, h1, h2⟩ => ⟨a, h1, e.seqT h2⟩
  | .neg _, _, ⟨a, u, h1, h2, h3⟩ => ⟨a, u, h1, e.seqT h2, RepS.same e h3⟩
  | .bi _ _ _, _, ⟨a, u, u', h1, h2, h3, h4⟩ => ⟨a, u, u', h1, e.seqT h2, RepS.same e h3, RepS.same e h4⟩
  | .qu _ _ _, _, ⟨a, u, h1, h2, h3⟩ => ⟨a, u, h1, e.seqT h2, RepS.same e h3⟩
theorem RepS.tag {K : PySem.W.Frag} {H : Hp} {S : Stm} {v : V} (h : RepS K H S v) : ∃ a xs, v = .ref a ∧ SqT K H a (.str S.tag :: xs) := by
  cases S with
  | is w ts => obtain ⟨a, b, h1, h2, _⟩ := h; exact ⟨a, _, h1, h2⟩
  | fls => obtain ⟨a, h1, h2⟩ := h; exact ⟨a, _, h1, h2⟩
  | neg A => obtain ⟨a, u, h1, h2, _⟩ := h; exact ⟨a, _, h1, h2⟩
  | bi o A B => obtain ⟨a, u, u', h1, h2, _⟩ := h; exact ⟨a, _, h1, h2⟩
  | qu q X A => obtain ⟨a, u, h1, h2, _⟩ := h; exact ⟨a, _, h1, h2⟩
abbrev RepL (K : PySem.W.Frag) (H : Hp) : List Stm → List V → Prop := Paired (RepS K H)
theorem RepL.same {K : PySem.W.Frag} {H H' : Hp} (e : Same H H') {Ss : List Stm} {vs : List V} (h : RepL K H Ss vs) : RepL K H' Ss vs := Paired.mapP h fun _ _ => RepS.same e
theorem RepL.get {K : PySem.W.Frag} {H : Hp} : ∀ {Ss : List Stm} {vs : List V} {i : Nat} {v : V}, RepL K H Ss vs → vs[i]? = some v → ∃ S, Ss[i]? = some S ∧ RepS K H S v
  | _, _, _, _, .nil, e => by simp at e
  | _, _, 0, _, .cons r _, e => by simp at e; subst e; exact ⟨_, rfl, r⟩
  | _, _, i + 1, x, .cons _ t, e => by
    obtain ⟨u, h1, h2⟩ := RepL.get (i := i) (v := x) t (by simpa using e)
    exact ⟨u, by simpa using h1, h2⟩
def cellI (ns : List Int) (k : Int) : Int := if k < (ns.length : Int) then ns.getD k.toNat 0 else 0
def spCell (K : PySem.W.Frag) : Sp := fun vs H Q _ => ∃ (a : Addr) (ns : List Int) (k : Int), vs = [.ref a, .int k] ∧ SqL K H a (ns.map V.int) ∧ 0 ≤ k ∧ Q (.int (cellI ns k)) H
theorem cps_append' (x y : Str) : (x ++ y).cps.toList = x.cps.toList ++ y.cps.toList := by
  rw [Str.cps_append]; simp
theorem len_cps (x : Str) : x.cps.toList.length = x.length := by simp [Str.length]
theorem range_ix (p q : Int) (a b : Nat) (hp : p = a) (hq : q = b) : sliceRange p q 1 = (List.range (b - a)).map fun k => a + k := by
  subst hp hq
  unfold sliceRange
  simp only [show (1 : Int) > 0 by decide, if_true]
  by_cases hab : a < b
  · rw [if_pos (by omega)]
    have e : (((b : Int) - a + 1 - 1) / 1).toNat = b - a := by omega
    rw [e]
    refine List.map_congr_left fun k _ => ?_
    omega
  · rw [if_neg (by omega), show b - a = 0 by omega]
    rfl
theorem slice_ix (lo hi : Option Int) (n : Nat) : Builtin.Str.strSliceIndices lo hi 1 n = (List.range (HT.sIx n n hi - HT.sIx n 0 lo)).map fun k => HT.sIx n 0 lo + k := by
  have cl : ∀ (v : Int) (d : Nat), max 0 (min (if v < 0 then v + (n : Int) else v) (n : Int)) = ((HT.sIx n d (some v) : Nat) : Int) := fun v d => by
    rw [← HT.clip_eq]; split <;> omega
  refine range_ix _ _ _ _ ?_ ?_
  · cases lo with
    | none => rfl
    | some v => exact cl v 0
  · cases hi with
    | none => rfl
    | some v => exact cl v n
theorem slice_cps (x : Str) (lo hi : Option Int) : (Txt.slice x lo hi).cps.toList = (x.cps.toList.drop (HT.sIx x.length 0 lo)).take (HT.sIx x.length x.length hi - HT.sIx x.length 0 lo) := by
  have hl := len_cps x
  have ha : HT.sIx x.length 0 lo ≤ x.length := HT.sIx_le _ 0 (Nat.zero_le _) lo
  have hb : HT.sIx x.length x.length hi ≤ x.length := HT.sIx_le _ _ (Nat.le_refl _) hi
  unfold Txt.slice
  rw [slice_ix]
  generalize HT.sIx x.length 0 lo = a at *
  generalize HT.sIx x.length x.length hi = b at *
  split
  · rename_i h
    simp at h
    have : a = 0 ∧ b = x.length ∨ x.length = 0 := by omega
    rcases this with ⟨rfl, rfl⟩ | h0
    · rw [List.drop_zero, Nat.sub_zero, List.take_of_length_le (by omega)]
    · have : x.cps.toList = [] := List.eq_nil_of_length_eq_zero (by omega)
      rw [this]; simp
  · by_cases hab : a ≤ b
    · have h := StrLaws.picks x.cps.toList (b - a) a (by rw [hl]; omega)
      rw [← h]
      simp only [List.toList_toArray]
      congr 1
      funext k
      simp
    · rw [show b - a = 0 by omega]; simp
theorem pickC {x : Str} {i : Int} {P : Nat → Prop} (h : 0 < x.length) (k : ∀ c ∈ x.cps.toList, P c) : ∃ c, atI x.cps.toList (i % (x.length : Int)) = some c ∧ P c := by
  have e := len_cps x
  obtain ⟨c, hc', hc⟩ := atI_some (xs := x.cps.toList) (i := i % (x.length : Int)) (Int.emod_nonneg _ (by omega)) (by rw [e]; exact Int.emod_lt_of_pos _ (by omega))
  exact ⟨c, hc, k c hc'⟩
theorem cdiv {i j : Int} (h : 0 < j := by decide) (h2 : j < 1073741824 := by decide) : CDiv i j := ⟨h, h2⟩
theorem cmulL {i j : Int} (h : -(2 ^ 64) < i ∧ i < 2 ^ 64 := by decide) : CMul i j := .inl h
theorem cmulR {i j : Int} (h : -(2 ^ 64) < j ∧ j < 2 ^ 64 := by decide) : CMul i j := .inr h
theorem atI_ints {ns : List Int} {i : Int} (h0 : 0 ≤ i) (h1 : i < (ns.length : Int)) : atI (ns.map V.int) i = some (.int (ns.getD i.toNat 0)) := by
  have hk : i.toNat < ns.length := by omega
  rw [atI_getD (d := .int 0) h0 (by simpa using h1)]
  simp [hk]
theorem pickS {ts : List Str} {i : Int} (h0 : 0 ≤ i) (h1 : i < (ts.length : Int)) : ∃ z, z ∈ ts ∧ atI (ts.map V.str) i = some (.str z) := by
  have hk : i.toNat < ts.length := by omega
  refine ⟨ts[i.toNat], List.getElem_mem hk, ?_⟩
  rw [atI_getD (d := .non) h0 (by simpa using h1)]
  simp [hk]
theorem pickI {ts : List Int} {i : Int} (h0 : 0 ≤ i) (h1 : i < (ts.length : Int)) : ∃ z, z ∈ ts ∧ atI (ts.map V.int) i = some (.int z) := by
  have hk : i.toNat < ts.length := by omega
  refine ⟨ts[i.toNat], List.getElem_mem hk, ?_⟩
  rw [atI_getD (d := .non) h0 (by simpa using h1)]
  simp [hk]
theorem part_deep {S A : Stm} {i : Nat} (h : S.parts[i]? = some A) : A.deep < S.deep := by
  have m := List.mem_of_getElem? h
  cases S with
  | is w ts => simp [Stm.parts] at m
  | fls => simp [Stm.parts] at m
  | neg B => simp [Stm.parts] at m; subst m; simp [Stm.deep]
  | bi o B C => simp [Stm.parts] at m; rcases m with rfl | rfl <;> simp only [Stm.deep] <;> omega
  | qu q X B => simp [Stm.parts] at m; subst m; simp [Stm.deep]
def spParts (K : PySem.W.Frag) : Sp := fun vs H Q _ => ∃ v S, vs = [v] ∧ RepS K H S v ∧ ∀ p us H', Same H H' → SqT K H' p us → RepL K H' S.parts us → Q (.ref p) H'
theorem bi_no_quant (o : Bi) : inV (.str o.txt) [V.str "all", V.str "some"] = false := by cases o <;> decide +kernel
theorem qu_quant (q : Bool) : inV (.str (qtx q)) [V.str "all", V.str "some"] = true := by cases q <;> decide +kernel
theorem bi_is (o : Bi) : ¬ o.txt = "is" := by cases o <;> decide +kernel
theorem bi_all (o : Bi) : ¬ o.txt = "all" := by cases o <;> decide +kernel
theorem bi_some (o : Bi) : ¬ o.txt = "some" := by cases o <;> decide +kernel
theorem qu_is (q : Bool) : ¬ qtx q = "is" := by cases q <;> decide +kernel
end L2
set_option Elab.async false
set_option linter.all false
set_option maxRecDepth 100000
set_option maxHeartbeats 4000000
namespace L2
open PySem PySem.Spec PyProof.Rows
section
variable {X : Cx} {K : PySem.W.Frag} {H : Hp} {Q : VK} {p q : Addr}
def rJoinA (K : PySem.W.Frag) : V → List V → Hp → VK → Prop := fun x vs H Q => ∃ (sep : Str) (p : Addr) (ys : List Str), x = .str sep ∧ vs = [.ref p] ∧ (SqL K H p (ys.map V.str) ∨ SqT K H p (ys.map V.str)) ∧ (ys.map (·.length)).sum + ys.length * sep.length ≤ 16777216 ∧ Q (.str (Txt.join sep ys)) H
theorem w_joinA {sep : Str} : rJoinA K (.str sep) [.ref p] H Q = ∃ ys : List Str, (SqL K H p (ys.map V.str) ∨ SqT K H p (ys.map V.str)) ∧ (ys.map (·.length)).sum + ys.length * sep.length ≤ 16777216 ∧ Q (.str (Txt.join sep ys)) H := by
  refine propext ⟨fun ⟨_, _, ys, e1, e2, h⟩ => ?_, fun ⟨ys, h⟩ => ⟨sep, p, ys, rfl, rfl, h⟩⟩
  cases e1; cases e2; exact ⟨ys, h⟩
end
inductive EqD (K : PySem.W.Frag) (H : Hp) : Nat → V → V → Bool → Prop
  | flat {n : Nat} {x y : V} (hx : flatV x = true) (hy : flatV y = true) : EqD K H n x y (eqV x y)
  | tups {n : Nat} {a b : Addr} {xs ys : List V} (e : Nat → Bool) (ha : SqT K H a xs) (hb : SqT K H b ys) (he : ∀ (j : Nat) x y, xs[j]? = some x → ys[j]? = some y → EqD K H n x y (e j)) :
      EqD K H (n + 1) (.ref a) (.ref b) ((List.range (min xs.length ys.length)).all e && xs.length == ys.length)
  | lsts {n : Nat} {a b : Addr} {xs ys : List V} (e : Nat → Bool) (ha : SqL K H a xs) (hb : SqL K H b ys) (hl : xs.length = ys.length) (he : ∀ (j : Nat) x y, xs[j]? = some x → ys[j]? = some y → EqD K H n x y (e j)) :
      EqD K H (n + 1) (.ref a) (.ref b) ((List.range xs.length).all e)
  | lstsN {n : Nat} {a b : Addr} {xs ys : List V} (ha : SqL K H a xs) (hb : SqL K H b ys) (hl : xs.length ≠ ys.length) : EqD K H (n + 1) (.ref a) (.ref b) false
  | strTup {n : Nat} {a : Addr} {x : Str} {xs : List V} (ha : SqT K H a xs) : EqD K H (n + 1) (.str x) (.ref a) false
  | tupStr {n : Nat} {a : Addr} {x : Str} {xs : List V} (ha : SqT K H a xs) : EqD K H (n + 1) (.ref a) (.str x) false
  | nonTup {n : Nat} {a : Addr} {xs : List V} (ha : SqT K H a xs) : EqD K H (n + 1) .non (.ref a) false
  | tupNon {n : Nat} {a : Addr} {xs : List V} (ha : SqT K H a xs) : EqD K H (n + 1) (.ref a) .non false
section
variable {X : Cx} {pins : List (Addr × Obj)} {σ : St} {H : Hp} {s : Shared}
theorem eqV_self {x : V} (h : flatV x = true) : eqV x x = true := by
  cases x <;> simp_all [flatV, eqV]
theorem EqD.self (I : Inv X pins σ H s) {n : Nat} {x y : V} {b : Bool} (h : EqD X.K H n x y b) : x = y → b = true := by
  induction h with
  | flat hx hy => rintro rfl; exact eqV_self hx
  | @tups n a b xs ys e ha hb he ih =>
    intro q
    cases q
    have := I.tuple_inj ha hb
    subst this
    rw [Bool.and_eq_true]
    refine ⟨List.all_eq_true.mpr fun j hj => ?_, by simp⟩
    have hj' : j < xs.length := by simpa using hj
    exact ih j xs[j] xs[j] (by simp [hj']) (by simp [hj']) rfl
  | @lsts n a b xs ys e ha hb hl he ih =>
    intro q
    cases q
    have := I.list_inj ha hb
    subst this
    refine List.all_eq_true.mpr fun j hj => ?_
    have hj' : j < xs.length := by simpa using hj
    exact ih j xs[j] xs[j] (by simp [hj']) (by simp [hj']) rfl
  | lstsN ha hb hl =>
    intro q
    cases q
    exact absurd (congrArg List.length (I.list_inj ha hb)) hl
  | strTup => intro q; cases q
  | tupStr => intro q; cases q
  | nonTup => intro q; cases q
  | tupNon => intro q; cases q
theorem getD_some {xs : List V} {its : List Value} (r : Vals xs its) {j : Nat} (h : j < its.toArray.size) : ∃ x, xs[j]? = some x ∧ RelV x its.toArray[j] := by
  have h' : j < its.length := by simpa using h
  have hx : j < xs.length := by rw [r.length]; exact h'
  obtain ⟨u, e, ru⟩ := r.get (i := j) (x := xs[j]) (by simp [hx])
  have : its[j]? = some its[j] := by simp [h']
  rw [this] at e
  cases e
  exact ⟨xs[j], by simp [hx], by simpa using ru⟩
theorem EqD.at (I : Inv X pins σ H s) {n : Nat} {x y : V} {b : Bool} (h : EqD X.K H n x y b) : ∀ {A : Around} {u v : Value}, A.units + n < cLine → RelV x u → RelV y v →
    SeqAt.EqAt A s u v b ∧ ((flatV x = false ∨ flatV y = false) → SeqAt.RcAt A s u v b) := by
  induction h with
  | flat hx hy =>
    intro A u v _ ru rv
    exact ⟨eqAt_V ru rv hx hy, fun e => by rw [hx, hy] at e; simp at e⟩
  | @tups n a b xs ys e ha hb he ih =>
    intro A u v hu ru rv
    cases ru; cases rv
    obtain ⟨its, r1, p1, _⟩ := I.tuple ha
    obtain ⟨its2, r2, p2, _⟩ := I.tuple hb
    have l1 : its.toArray.size = xs.length := by rw [List.size_toArray]; exact r1.length.symm
    have l2 : its2.toArray.size = ys.length := by rw [List.size_toArray]; exact r2.length.symm
    have rc : SeqAt.RcAt A s (.ref a) (.ref b) ((List.range (min xs.length ys.length)).all e && xs.length == ys.length) := by
      have := SeqAt.RcAt.tuples (A := A) (e := e) p1 p2 (by omega) (fun j h1 h2 => by
        obtain ⟨x, ex, rx⟩ := getD_some r1 h1
        obtain ⟨y, ey, ry⟩ := getD_some r2 h2
        exact (ih j x y ex ey (A := A.in1) (by show A.units + 1 + n < cLine; omega) rx ry).1)
      rw [l1, l2] at this
      exact this
    refine ⟨?_, fun _ => rc⟩
    by_cases hab : a = b
    · subst hab
      have := EqD.self I (.tups e ha hb he) rfl
      rw [this]
      exact SeqAt.EqAt.same _
    · exact SeqAt.EqAt.of_refs hab rc
  | @lsts n a b xs ys e ha hb hl he ih =>
    intro A u v hu ru rv
    cases ru; cases rv
    obtain ⟨its, r1, p1, _⟩ := I.list ha
    obtain ⟨its2, r2, p2, _⟩ := I.list hb
    have l1 : its.toArray.size = xs.length := by rw [List.size_toArray]; exact r1.length.symm
    have l2 : its2.toArray.size = ys.length := by rw [List.size_toArray]; exact r2.length.symm
    have rc : SeqAt.RcAt A s (.ref a) (.ref b) ((List.range xs.length).all e) := by
      have := SeqAt.RcAt.lists (A := A) (e := e) p1.isList p2.isList (by omega) (by omega) (fun j h1 h2 => by
        obtain ⟨x, ex, rx⟩ := getD_some r1 h1
        obtain ⟨y, ey, ry⟩ := getD_some r2 h2
        exact (ih j x y ex ey (A := A.in1) (by show A.units + 1 + n < cLine; omega) rx ry).1)
      rw [l1] at this
      exact this
    refine ⟨?_, fun _ => rc⟩
    by_cases hab : a = b
    · subst hab
      have := EqD.self I (.lsts e ha hb hl he) rfl
      rw [this]
      exact SeqAt.EqAt.same _
    · exact SeqAt.EqAt.of_refs hab rc
  | @lstsN n a b xs ys ha hb hl =>
    intro A u v hu ru rv
    cases ru; cases rv
    obtain ⟨its, r1, p1, _⟩ := I.list ha
    obtain ⟨its2, r2, p2, _⟩ := I.list hb
    have l1 : its.toArray.size = xs.length := by rw [List.size_toArray]; exact r1.length.symm
    have l2 : its2.toArray.size = ys.length := by rw [List.size_toArray]; exact r2.length.symm
    have rc := SeqAt.RcAt.lists_lengths (A := A) p1.isList p2.isList (by rw [l1, l2]; simpa using hl) (by omega)
    refine ⟨?_, fun _ => rc⟩
    by_cases hab : a = b
    · subst hab
      exact absurd (congrArg List.length (I.list_inj ha hb)) hl
    · exact SeqAt.EqAt.of_refs hab rc
  | strTup ha =>
    intro A u v hu ru rv
    cases rv; obtain ⟨t, rfl⟩ := ru
    obtain ⟨its, r1, p1, _⟩ := I.tuple ha
    exact ⟨SeqAt.EqAt.str_tuple _ _ p1 (by omega), fun _ => SeqAt.RcAt.str_tuple _ _ p1 (by omega)⟩
  | tupStr ha =>
    intro A u v hu ru rv
    cases ru; obtain ⟨t, rfl⟩ := rv
    obtain ⟨its, r1, p1, _⟩ := I.tuple ha
    exact ⟨SeqAt.EqAt.tuple_str _ _ p1 (by omega), fun _ => SeqAt.RcAt.tuple_str _ _ p1 (by omega)⟩
  | nonTup ha =>
    intro A u v hu ru rv
    cases rv; cases ru
    obtain ⟨its, r1, p1, _⟩ := I.tuple ha
    exact ⟨SeqAt.EqAt.none_tuple p1 (by omega), fun _ => SeqAt.RcAt.none_tuple p1 (by omega)⟩
  | tupNon ha =>
    intro A u v hu ru rv
    cases ru; cases rv
    obtain ⟨its, r1, p1, _⟩ := I.tuple ha
    exact ⟨SeqAt.EqAt.tuple_none p1 (by omega), fun _ => SeqAt.RcAt.tuple_none p1 (by omega)⟩
end
section
variable {X : Cx} {K : PySem.W.Frag} {H : Hp} {Q : VK} {p q : Addr} {i j : Int} {x y : Str}
def rEqD (K : PySem.W.Frag) : R2 := fun x y H Q => ∃ d b, d ≤ 60 ∧ (flatV x = false ∨ flatV y = false) ∧ EqD K H d x y b ∧ Q (.bl b) H
theorem op_eqD (hu : X.A.units + 64 < cLine) : OpR X (compareOp .Eq) (rEqD X.K) := by
  intro pins s σ H x y v u Q I rx ry h
  obtain ⟨d, b, hd, e, h, k⟩ := h
  exact (h.at I (A := X.A) (by omega) rx ry).2 e X.prog X.w X.xe _ ⟨.bl b, H, I, rfl, k⟩
def rEqB (K : PySem.W.Frag) : R2 := fun x y H Q => rEq x y H Q ∨ rEqD K x y H Q
theorem opB_eq (K : PySem.W.Frag) (hu : X.A.units + 64 < cLine) (hK : X.K = K := by rfl) : OpR X (compareOp .Eq) (rEqB K) := hK ▸ (OpR.or op_eq (op_eqD hu) : OpR X (compareOp .Eq) (rEqB X.K))
theorem w_eqIB : rEqB K (.int i) (.int j) H Q = Q (.bl (decide (i = j))) H := by
  refine propext ⟨fun h => ?_, fun h => .inl ⟨rfl, by simpa using h⟩⟩
  rcases h with ⟨_, h⟩ | ⟨_, _, _, e, _⟩
  · simpa using h
  · rcases e with e | e <;> cases e
theorem w_eqSB : rEqB K (.str x) (.str y) H Q = Q (.bl (decide (x = y))) H := by
  refine propext ⟨fun h => ?_, fun h => .inl ⟨rfl, by simpa using h⟩⟩
  rcases h with ⟨_, h⟩ | ⟨_, _, _, e, _⟩
  · simpa using h
  · rcases e with e | e <;> cases e
theorem w_eqR_ {u : V} : rEqB K (.ref p) u H Q = ∃ d b, d ≤ 60 ∧ EqD K H d (.ref p) u b ∧ Q (.bl b) H := by
  refine propext ⟨fun h => ?_, fun ⟨d, b, hd, h, k⟩ => .inr ⟨d, b, hd, .inl rfl, h, k⟩⟩
  rcases h with ⟨e, _⟩ | ⟨d, b, hd, _, h, k⟩
  · cases u <;> cases e
  · exact ⟨d, b, hd, h, k⟩
theorem w_eq_R {u : V} : rEqB K u (.ref p) H Q = ∃ d b, d ≤ 60 ∧ EqD K H d u (.ref p) b ∧ Q (.bl b) H := by
  refine propext ⟨fun h => ?_, fun ⟨d, b, hd, h, k⟩ => .inr ⟨d, b, hd, .inr rfl, h, k⟩⟩
  rcases h with ⟨e, _⟩ | ⟨d, b, hd, _, h, k⟩
  · cases u <;> cases e
  · exact ⟨d, b, hd, h, k⟩
inductive TyB (K : PySem.W.Frag) (H : Hp) : V → Value → Prop where
  | of {x : V} {t : Value} (h : TyOf K H x t) : TyB K H x t
  | tup {a : Addr} {xs : List V} (h : SqT K H a xs) : TyB K H (.ref a) (.type "tuple")
  | lst {a : Addr} {xs : List V} (h : SqL K H a xs) : TyB K H (.ref a) (.type "list")
def rInstB (K : PySem.W.Frag) (T : String) : List V → Hp → VK → Prop := fun vs H Q => ∃ x t b, vs = [x, .ty T] ∧ TyB K H x t ∧ PySem.W.kitOne K t (.type T) = some b ∧ Q (.bl b) H
theorem call_instB {T : String} : CallR X (.builtin "isinstance") (rInstB X.K T) := by
  intro pins s σ H xs us Q I r h
  obtain ⟨x, t, b, rfl, ty, e, q⟩ := h
  cases ty with
  | of ty => exact call_inst pins s σ H _ us Q I r ⟨x, t, b, rfl, ty, e, q⟩
  | tup hq =>
    obtain ⟨u, u2, rfl, rx, r2⟩ := vals2 r
    cases (show u2 = Value.type T from r2)
    cases rx
    obtain ⟨its, _, ⟨o, h1, h2, _⟩, _⟩ := I.tuple hq
    exact PySem.W.kia_one PySem.W.kitx_tuple I.kIn ⟨o, h1, h2⟩ e (fun z => nomatch z) fun tk => ⟨.bl b, H, I.tok tk, rfl, q⟩
  | lst hq =>
    obtain ⟨u, u2, rfl, rx, r2⟩ := vals2 r
    cases (show u2 = Value.type T from r2)
    cases rx
    obtain ⟨its, _, pl, _⟩ := I.list hq
    obtain ⟨o, h1, h2, _⟩ := pl.isList
    exact PySem.W.kia_one PySem.W.kitx_list I.kIn ⟨o, h1, h2⟩ e (fun z => nomatch z) fun tk => ⟨.bl b, H, I.tok tk, rfl, q⟩
theorem callB_inst (K : PySem.W.Frag) (T : String) (hK : X.K = K := by rfl) : CallR X (.builtin "isinstance") (rInstB K T) := hK ▸ (call_instB : CallR X (.builtin "isinstance") (rInstB X.K T))
theorem w_instIntB {T : String} : rInstB K T [.int i, .ty T] H Q = ∃ b, PySem.W.kitOne K (.type "int") (.type T) = some b ∧ Q (.bl b) H := by
  refine propext ⟨fun ⟨_, _, b, e, t, h⟩ => ?_, fun ⟨b, h⟩ => ⟨_, _, b, rfl, .of (.int i), h⟩⟩
  cases e
  rcases t with t | t | t
  cases t; exact ⟨b, h⟩
theorem w_instStrB {T : String} : rInstB K T [.str x, .ty T] H Q = ∃ b, PySem.W.kitOne K (.type "str") (.type T) = some b ∧ Q (.bl b) H := by
  refine propext ⟨fun ⟨_, _, b, e, t, h⟩ => ?_, fun ⟨b, h⟩ => ⟨_, _, b, rfl, .of (.str x), h⟩⟩
  cases e
  rcases t with t | t | t
  cases t; exact ⟨b, h⟩
theorem w_instRB {T : String} : rInstB K T [.ref p, .ty T] H Q = ∃ t b, TyB K H (.ref p) t ∧ PySem.W.kitOne K t (.type T) = some b ∧ Q (.bl b) H := by
  refine propext ⟨fun ⟨_, t, b, e, ty, h⟩ => ?_, fun ⟨t, b, ty, h⟩ => ⟨_, t, b, rfl, ty, h⟩⟩
  cases e; exact ⟨t, b, ty, h⟩
end
theorem EqD.str {K : PySem.W.Frag} {H : Hp} {n : Nat} (x : Str) : EqD K H n (.str x) (.str x) true := by
  have : eqV (V.str x) (V.str x) = true := eqV_self rfl
  have h : EqD K H n (.str x) (.str x) (eqV (V.str x) (V.str x)) := .flat rfl rfl
  rw [this] at h
  exact h
theorem EqD.more {K : PySem.W.Frag} {H : Hp} {n m : Nat} {x y : V} {b : Bool} (h : EqD K H n x y b) : n ≤ m → EqD K H m x y b := by
  induction h generalizing m with
  | flat hx hy => intro _; exact .flat hx hy
  | tups e ha hb he ih =>
    intro hm
    obtain ⟨m, rfl⟩ : ∃ k, m = k + 1 := ⟨m - 1, by omega⟩
    exact .tups e ha hb fun j x y hx hy => ih j x y hx hy (by omega)
  | lsts e ha hb hl he ih =>
    intro hm
    obtain ⟨m, rfl⟩ : ∃ k, m = k + 1 := ⟨m - 1, by omega⟩
    exact .lsts e ha hb hl fun j x y hx hy => ih j x y hx hy (by omega)
  | lstsN ha hb hl => intro hm; obtain ⟨m, rfl⟩ : ∃ k, m = k + 1 := ⟨m - 1, by omega⟩; exact .lstsN ha hb hl
  | strTup ha => intro hm; obtain ⟨m, rfl⟩ : ∃ k, m = k + 1 := ⟨m - 1, by omega⟩; exact .strTup ha
  | tupStr ha => intro hm; obtain ⟨m, rfl⟩ : ∃ k, m = k + 1 := ⟨m - 1, by omega⟩; exact .tupStr ha
  | nonTup ha => intro hm; obtain ⟨m, rfl⟩ : ∃ k, m = k + 1 := ⟨m - 1, by omega⟩; exact .nonTup ha
  | tupNon ha => intro hm; obtain ⟨m, rfl⟩ : ∃ k, m = k + 1 := ⟨m - 1, by omega⟩; exact .tupNon ha
def Stm.txt : Stm → Str
  | .is w ts => if ts.length = 0 then w else w ++ "(" ++ Txt.join ", " ts ++ ")"
  | .fls => "false"
  | .neg A => "not " ++ A.txt
  | .bi o A B => "(" ++ A.txt ++ " " ++ o.txt ++ " " ++ B.txt ++ ")"
  | .qu q X A => qtx q ++ " " ++ X ++ " " ++ A.txt
theorem l1 : ("(" : Str).length = 1 := by decide +kernel
theorem l2 : (")" : Str).length = 1 := by decide +kernel
theorem l3 : (" " : Str).length = 1 := by decide +kernel
theorem l4 : (", " : Str).length = 2 := by decide +kernel
theorem l5 : ("not " : Str).length = 4 := by decide +kernel
theorem l6 : ("false" : Str).length = 5 := by decide +kernel
def Stm.put (x n : Str) : Stm → Stm
  | .is w ts => .is w (ts.map fun t => if t = x then n else t)
  | .fls => .fls
  | .neg A => .neg (A.put x n)
  | .bi o A B => .bi o (A.put x n) (B.put x n)
  | .qu q X A => if X = x then .qu q X A else .qu q X (A.put x n)
theorem Stm.put_deep (x n : Str) : ∀ S : Stm, (S.put x n).deep = S.deep
  | .is w ts => rfl
  | .fls => rfl
  | .neg A => by simp only [Stm.put, Stm.deep, Stm.put_deep x n A]
  | .bi o A B => by simp only [Stm.put, Stm.deep, Stm.put_deep x n A, Stm.put_deep x n B]
  | .qu q X A => by
    simp only [Stm.put]
    split
    · rfl
    · simp only [Stm.deep, Stm.put_deep x n A]
end L2
set_option Elab.async false
set_option linter.all false
set_option maxRecDepth 100000
set_option maxHeartbeats 4000000
namespace L2
open PySem PySem.Spec PyProof.Rows
def Air (h : Heap) (e C : Addr) (fl : Option Value) (l : List Addr) : Prop :=
  ∃ oe vs a0, h.get? e = some oe ∧ oe.cls = .ref C ∧ oe.data = .fields vs ∧ vs[0]? = some a0 ∧
    match fl with
    | none => l = [e] ∧ vs[1]? = some .none
    | some f => ∃ T oT ts, l = [e, T] ∧ vs[1]? = some (.ref T) ∧ T ≠ e ∧ h.get? T = some oT ∧ oT.data = .fields ts ∧ ts[3]? = some f
theorem Air.first {h : Heap} {e C : Addr} {fl : Option Value} {l : List Addr} (a : Air h e C fl l) : e ∈ l := by
  obtain ⟨oe, vs, a0, h1, h2, h3, h4, h5⟩ := a
  cases fl with
  | none => obtain ⟨rfl, _⟩ := h5; exact List.mem_singleton.mpr rfl
  | some f => obtain ⟨T, oT, ts, rfl, _⟩ := h5; exact List.mem_cons_self ..
theorem ObjOk.there {P : Program} {w : World} {H : Hp} {h : Heap} {a : Addr} {o : HO} (x : ObjOk P w H h a o) : ∃ ob, h.get? a = some ob := by
  cases o with
  | lst xs => obtain ⟨_, _, _, _, e⟩ := x; exact ⟨_, e⟩
  | tup xs => obtain ⟨_, _, _, p⟩ := x; obtain ⟨o, e, _⟩ := p; exact ⟨_, e⟩
  | dK kvs => obtain ⟨_, _, _, _, o, _, _, e, _⟩ := x; exact ⟨_, e⟩
  | dT kvs => obtain ⟨_, _, _, _, o, _, _, e, _⟩ := x; exact ⟨_, e⟩
  | set S n => obtain ⟨o, _, _, _, e, _⟩ := x; exact ⟨_, e⟩
  | ins C dx fs => obtain ⟨_, _, _, e, _⟩ := x; exact ⟨_, e⟩
  | own y => obtain ⟨_, e⟩ := x; exact ⟨_, e⟩
  | xd fs => obtain ⟨_, ⟨_, _, _, e, _⟩, _⟩ := x; exact ⟨_, e⟩
  | rng lo hi => obtain ⟨_, _, _, e⟩ := x; exact ⟨_, e⟩
  | frz ob u => obtain ⟨e, _⟩ := x; exact ⟨_, e⟩
  | tbl ps => exact ⟨_, (show h.get? a = some _ from x)⟩
  | met f y => exact ⟨_, (show h.get? a = some _ from x)⟩
  | ext φ => obtain ⟨_, ⟨_, e⟩, _⟩ := x; exact ⟨_, e⟩
structure Fnc (X : Cx) : Prop where
  stk : X.stack = X.env :: X.outer
  fr : X.env.frame = some X.env.locals
  ex : X.ex = []
theorem Fnc.wish {X : Cx} (F : Fnc X) (E : Value → Shared → Prop) : Fnc (X.wish E) := ⟨F.stk, F.fr, F.ex⟩
section
variable {X : Cx} {σ : St} {H : Hp} {s : Shared} {l : List Addr} {e C : Addr} {fl : Option Value}
end
def CXX (P : Program) (w : World) : CXT := fun outer H s E u s' =>
  ∃ e C l H', u = .ref e ∧ E (.ref C) none H' ∧ s'.os = s.os ∧ AllBare s'.gens ∧ Un (frs outer) [] H H' s.heap s'.heap ∧ HOk P w H' s'.heap ∧ Air s'.heap e C (some .none) l ∧ ∀ b ∈ l, s.heap.get? b = none ∧ H' b = none
section
variable {X : Cx} {G : Addr → St → Hp → Prop} {u : Value} {s : Shared}
end
def xnames : List Str := ["__init__", "__getattribute__", "__getattr__", "__class__"]
inductive TailX (h : Heap) (bmB : List Value) : List Value → Prop
  | base : TailX h bmB bmB
  | own {A : Addr} {c0 : Value} {dd : Option Addr} {cd : ClassData} {sl : Array (Option Value)} {mA : Str → Option Value} {tl : List Value} :
      h.get? A = some { cls := c0, dict := dd, data := .cls cd, slots := sl } → h.Ns cd.ns mA → (∀ n ∈ xnames, mA n = none) → TailX h bmB tl → TailX h bmB (.ref A :: tl)
section
variable {X : Cx} {G : Addr → St → Hp → Prop}
end
def tCallX (sp : Sp) (dvs : List V) (G : Addr → St → Hp → Prop) (t : TA) : TE := fun σ H Q => t σ H fun vs H1 => sp (vs ++ dvs) H1 Q (fun c _ H' => ∃ C, c = .ref C ∧ G C σ H')
section
variable {X : Cx} {G : Addr → St → Hp → Prop} {k : Nat} {f : Addr} {fd : FuncData} {ps : List Str} {sp : Sp} {dvs : List V} {ds : List Value} {x : Str} {p pos : Pos} {e : Expr} {es : List Expr} {t : TA}
end
end L2
namespace L2
open PySem PySem.Spec PyProof.Rows
abbrev Cx.at (X : Cx) (pins : List (Addr × Obj)) (E : Value → Shared → Prop) : Cx := { X with pn := X.pn ++ pins, xe := E }
section
variable {X : Cx} {pins : List (Addr × Obj)} {σ : St} {H : Hp} {s : Shared} {E : Value → Shared → Prop} {e : Addr}
theorem Cx.Ok.at (ok : X.Ok) : (X.at pins E).Ok :=
  ⟨ok.mod, ok.kind, ok.glob, ok.blt, ok.above, ok.inj, ok.has, ok.cab, ok.hd, ok.frames, ok.stk, ok.exf, ok.bs, ok.bsz, ok.noex, ok.exfs, ok.funs, ok.frf⟩
theorem Inv.at (I : Inv X pins σ H s) (E : Value → Shared → Prop) : Inv (X.at pins E) [] σ H s := ⟨I.ok.at, I.os, I.bare, I.base, I.loc, I.cell, I.free, I.freeC, fun p hp => I.pin p (by simpa using hp), I.hok, I.len⟩
end
def Apart (X : Cx) (pins : List (Addr × Obj)) (H : Hp) (l : List Addr) : Prop := ∀ b ∈ l, X.s₀.heap.get? b = none ∧ H b = none ∧ ∀ p ∈ X.pn ++ pins, p.1 ≠ b
def PH (X : Cx) (hs : List ExceptHandler) (th : Addr → TS) : Prop :=
  ∀ (pins : List (Addr × Obj)) (s : Shared) (σ : St) (H : Hp) (D : Ends) (e C : Addr) (l : List Addr), Inv X pins σ H s → Air s.heap e C (some .none) l → Apart X pins H l → th C D σ H →
    wpAny (model X.prog X.w) X.A (handleBy (.ref e) X.env hs) (SP X pins D) X.xe s
def tTry (tb : (Addr → St → Hp → Prop) → TS) (th : Addr → TS) (te : TS) : TS := fun D σ H => ∃ G : Addr → St → Hp → Prop, tb G { D with nx := te D } σ H ∧ ∀ C σ' H', G C σ' H' → th C D σ' H'
end L2
namespace L2
open PySem PySem.Spec PyProof.Rows
section
variable {X : Cx}
end
end L2
namespace L2
open PySem PySem.Spec PyProof.Rows
section
variable {prog : Program} {w : World} {A : Around} {E : Value → Shared → Prop} {h : Heap} {g : Array GenState} {d : Drawn} {t : Nat} {os : OsState} {a : Addr} {o : Obj} {vs : Array Value}
  {nm q : Str} {C N : Addr} {bs bm bmB : List Value} {hdct : Bool} {sn : List Str} {sub : List Value} {ab : Bool} {col : Option Bool} {dd : Option Addr} {k0 k1 k2 k3 k5 : Option Value} {B newId : String} {mN : Str → Option Value}
structure XBase (B : String) (bmB : List Value) : Prop extends ExcAttrBase B bmB where
  lkC : typeLookup (.type B) "__class__" = pure (some (.builtin "object.__class__"))
  hasObj : bmB.contains (.type "object") = true
end
end L2
namespace L2
open PySem PySem.Spec PyProof.Rows
structure RoomH (k : Nat) (A : Around) : Prop where
  dp : A.depth + 3 * k + 5 < recursionLimit
  un : A.units + 16 * k + 200 < cLine
theorem Room.h {k : Nat} {A : Around} (r : Room k A) : RoomH k A := ⟨r.dp, r.un⟩
theorem RoomH.deeper {k : Nat} {A : Around} (r : RoomH (k + 1) A) (env : Env) : RoomH k (A.deeper env) :=
  ⟨by have := r.dp; show A.depth + 1 + 3 * k + 5 < _; omega, by have := r.un; show A.units + 3 + 16 * k + 200 < _; omega⟩
theorem RoomH.mono {j k : Nat} {A : Around} (r : RoomH k A) (h : j ≤ k) : RoomH j A := ⟨by have := r.dp; omega, by have := r.un; omega⟩
structure FnOkH (P : Program) (w : World) (K : PySem.W.Frag) (mg : Str → Option Value) (base : Heap) (k : Nat) (f : Addr) (fd : FuncData) (ps : List Str) (sp : Sp) : Prop where
  len : ∀ vs H Q E, sp vs H Q E → vs.length = ps.length
  run : ∀ (A : Around) (outer : List Env) (s : Shared) (H : Hp) (args : Args) (us : List Value) (vs : List V) (Q : VK), RoomH k A → Env0 P w K mg base A outer s H → BindsTo s fd args (ps.zip us) → Vals vs us → sp vs H Q E0 →
    codeAny (model P w) A (.call (.ref f) args) (CR CX0 outer P w H s Q E0) s
theorem FnOk.calm {P : Program} {w : World} {K : PySem.W.Frag} {mg : Str → Option Value} {base : Heap} {k : Nat} {f : Addr} {fd : FuncData} {ps : List Str} {sp : Sp} (F : FnOk P w K mg base (CXX P w) k f fd ps sp) (h : ∀ vs H Q E, sp vs H Q E → sp vs H Q E0) : FnOk P w K mg base CX0 k f fd ps sp :=
  ⟨F.len, fun A outer s H args us vs Q E hr he hb hv hs => codeAny_mono (F.run A outer s H args us vs Q E0 hr he hb hv (h _ _ _ _ hs)) fun r s' q => by
    cases r with
    | error e => obtain ⟨_, _, _, _, _, z, _⟩ := q; exact z.elim
    | ok fl => cases fl <;> exact q⟩
section
variable {X : Cx} {k : Nat} {f : Addr} {fd : FuncData} {ps : List Str} {sp : Sp} {dvs : List V} {ds : List Value} {x : Str} {p pos : Pos} {e : Expr} {es : List Expr} {t : TA}
end
end L2
namespace L2
open PySem PySem.Spec PyProof.Rows
structure CNs (K : PySem.W.Frag) (N : Addr) : Prop where
  ok : ∃ oc od es ep sl, K.lookup N = some ⟨oc, od, .dict (List.toArray es) ep, sl⟩ ∧ (es.all fun e => match e.key with | .str _ _ => true | _ => false) = true
  n1 : PySem.W.nsIn K N "__init__" = some none
  n2 : PySem.W.nsIn K N "__getattribute__" = some none
  n3 : PySem.W.nsIn K N "__getattr__" = some none
  n4 : PySem.W.nsIn K N "__class__" = some none
theorem CNs.quiet {K : PySem.W.Frag} {h : Heap} {N : Addr} (c : CNs K N) (X : K.In h) : h.Ns N (h.nsMap N) ∧ ∀ n ∈ xnames, h.nsMap N n = none := by
  have ok : PySem.W.nsOkIn K N = true := by
    obtain ⟨oc, od, es, ep, sl, e, q⟩ := c.ok
    unfold PySem.W.nsOkIn
    rw [e]
    exact (List.all_toArray (l := es)).trans q
  refine ⟨.of_isNs (PySem.W.isNs_of_in X ok), fun n hn => PySem.W.nsMap_none_of_in X ok ?_⟩
  simp only [xnames, List.mem_cons, List.not_mem_nil, or_false] at hn
  rcases hn with rfl | rfl | rfl | rfl
  · exact c.n1
  · exact c.n2
  · exact c.n3
  · exact c.n4
section
variable {K : PySem.W.Frag} {mg : Str → Option Value} {x nm q nm' q' : Str} {C D N N' : Addr} {bm bs bs' bm' : List Value} {hdct hdct' : Bool} {sn sn' : List Str} {sub sub' : List Value} {ab ab' : Bool} {col col' : Option Bool} {dd dd' : Option Addr} {k0 k1 k2 k3 k5 k0' k1' k2' k3' k5' : Option Value} {newId newId' : String} {b : Bool}
end
end L2
set_option Elab.async false
set_option linter.all false
set_option maxRecDepth 100000
set_option maxHeartbeats 4000000
namespace L2
open PySem PySem.Spec PyProof.Rows
abbrev TJ := Str → St → Hp → (Str → Hp → Prop) → Prop
def PJ (X : Cx) (es : List Expr) (t : TJ) : Prop :=
  ∀ (pins : List (Addr × Obj)) (s : Shared) (σ : St) (H : Hp) (acc : Str) (Q : Str → Hp → Prop), Inv X pins σ H s → t acc σ H Q → Joins (model X.prog X.w) X.A X.xe (evalEach es X.env) acc (fun out s₁ => ∃ H', Inv X pins σ H' s₁ ∧ Q out H') s
def tJn : TJ := fun acc _ H Q => Q acc H
def tJc (te : TE) (tr : TJ) : TJ := fun acc σ H Q => te σ H fun x H1 => ∃ y, x = .str y ∧ (acc ++ y).length ≤ sizeLine ∧ tr (acc ++ y) σ H1 Q
section
variable {X : Cx} {e v : Expr} {es : List Expr} {te : TE} {tr : TJ} {pos : Pos}
def tFs (tj : TJ) : TE := fun σ H Q => tj Str.empty σ H fun out H1 => out.length ≤ sizeLine ∧ Q (.str out) H1
def tFr (te : TE) : TE := fun σ H Q => te σ H fun x H1 => (∃ y, x = .str y ∧ (PySem.reprText y).length ≤ sizeLine ∧ Q (.str (PySem.reprText y)) H1) ∨ ∃ i : Int, x = .int i ∧ i.natAbs.log2 < 1920 ∧ Q (.str (toString i)) H1
def tFv (te : TE) : TE := fun σ H Q => te σ H fun x H1 => (∃ y, x = .str y ∧ y.length ≤ sizeLine ∧ Q (.str y) H1) ∨ ∃ i : Int, x = .int i ∧ i.natAbs.log2 < 1920 ∧ Q (.str (toString i)) H1
end
end L2
namespace L2
open PySem PySem.Spec PyProof.Rows
section
variable {σ : St} {H : Hp} {Q : VK} {D : Ends} {te : TE} {tr : TJ} {acc y : Str} {i : Int} {R : Str → Hp → Prop} {G : Addr → St → Hp → Prop} {sp : Sp} {dvs : List V} {t : TA}
theorem w_fs {tj : TJ} : tFs tj σ H Q = tj Str.empty σ H fun out H1 => out.length ≤ sizeLine ∧ Q (.str out) H1 := rfl
theorem w_jn : tJn acc σ H R = R acc H := rfl
theorem w_jc : tJc te tr acc σ H R = te σ H fun x H1 => ∃ y, x = .str y ∧ (acc ++ y).length ≤ sizeLine ∧ tr (acc ++ y) σ H1 R := rfl
theorem w_exStr {p : Str → Prop} : (∃ y', V.str y = V.str y' ∧ p y') = p y := propext ⟨fun ⟨_, e, h⟩ => by cases e; exact h, fun h => ⟨y, rfl, h⟩⟩
theorem w_fr : tFr te σ H Q = te σ H fun x H1 => (∃ y, x = .str y ∧ (PySem.reprText y).length ≤ sizeLine ∧ Q (.str (PySem.reprText y)) H1) ∨ ∃ i : Int, x = .int i ∧ i.natAbs.log2 < 1920 ∧ Q (.str (toString i)) H1 := rfl
theorem w_fv : tFv te σ H Q = te σ H fun x H1 => (∃ y, x = .str y ∧ y.length ≤ sizeLine ∧ Q (.str y) H1) ∨ ∃ i : Int, x = .int i ∧ i.natAbs.log2 < 1920 ∧ Q (.str (toString i)) H1 := rfl
theorem w_orStr {p : Str → Prop} {q : Int → Prop} : ((∃ y', V.str y = V.str y' ∧ p y') ∨ ∃ i, V.str y = V.int i ∧ q i) = p y := propext ⟨fun h => by rcases h with ⟨_, e, h⟩ | ⟨_, e, _⟩ <;> cases e; exact h, fun h => .inl ⟨y, rfl, h⟩⟩
theorem w_orInt {p : Str → Prop} {q : Int → Prop} : ((∃ y', V.int i = V.str y' ∧ p y') ∨ ∃ j, V.int i = V.int j ∧ q j) = q i := propext ⟨fun h => by rcases h with ⟨_, e, _⟩ | ⟨_, e, h⟩ <;> cases e; exact h, fun h => .inr ⟨i, rfl, h⟩⟩
theorem w_callX : tCallX sp dvs G t σ H Q = t σ H fun vs H1 => sp (vs ++ dvs) H1 Q (fun c _ H' => ∃ C, c = .ref C ∧ G C σ H') := rfl
theorem w_try {tb : (Addr → St → Hp → Prop) → TS} {th : Addr → TS} {te : TS} : tTry tb th te D σ H = ∃ G : Addr → St → Hp → Prop, tb G { D with nx := te D } σ H ∧ ∀ C σ' H', G C σ' H' → th C D σ' H' := rfl
end
end L2
namespace L2
open PySem PySem.Spec PyProof.Rows
abbrev TM := St → Hp → (Hp → Prop) → Prop
def PMp (X : Cx) (e : Expr) (t : TM) : Prop :=
  ∀ (pins : List (Addr × Obj)) (s : Shared) (σ : St) (H : Hp) (R : Hp → Prop), Inv X pins σ H s → t σ H R → wpAny (model X.prog X.w) X.A (eval e X.env) (fun u s' => ∃ y t H', u = .str y t ∧ y.length ≤ 1000 ∧ Inv X pins σ H' s' ∧ R H') X.xe s
def PM (X : Cx) (es : List Expr) (t : TM) : Prop :=
  ∀ (pins : List (Addr × Obj)) (s : Shared) (σ : St) (H : Hp) (acc : Str) (m : Nat) (R : Hp → Prop), Inv X pins σ H s → acc.length ≤ m → m + 1000 * es.length ≤ 100000 → t σ H R →
    Joins (model X.prog X.w) X.A X.xe (evalEach es X.env) acc (fun out s₁ => ∃ H', Inv X pins σ H' s₁ ∧ out.length ≤ 100000 ∧ R H') s
section
variable {X : Cx} {e v : Expr} {es : List Expr} {te : TE} {tp tr : TM} {pos : Pos}
def tM0 : TM := fun _ H R => R H
def tMc (tp tr : TM) : TM := fun σ H R => tp σ H fun H1 => tr σ H1 R
def tMr (te : TE) : TM := fun σ H R => te σ H fun x H1 => ((∃ y, x = .str y ∧ y.length ≤ 90 ∧ (∀ c ∈ y.cps.toList, c < 1114112)) ∨ ∃ i : Int, x = .int i ∧ i.natAbs.log2 < 900) ∧ R H1
def tMv (te : TE) : TM := fun σ H R => te σ H fun x H1 => ((∃ y, x = .str y ∧ y.length ≤ 1000) ∨ ∃ i : Int, x = .int i ∧ i.natAbs.log2 < 900) ∧ R H1
def tMsg (tm : TM) : TE := fun σ H Q => tm σ H fun H1 => ∀ out : Str, out.length ≤ 100000 → Q (.str out) H1
end
section
variable {σ : St} {H : Hp} {Q : VK} {te : TE} {tp tr tm : TM} {R : Hp → Prop} {y : Str} {i : Int}
theorem w_msg : tMsg tm σ H Q = tm σ H fun H1 => ∀ out : Str, out.length ≤ 100000 → Q (.str out) H1 := rfl
theorem w_m0 : tM0 σ H R = R H := rfl
theorem w_mc : tMc tp tr σ H R = tp σ H fun H1 => tr σ H1 R := rfl
theorem w_mr : tMr te σ H R = te σ H fun x H1 => ((∃ y, x = .str y ∧ y.length ≤ 90 ∧ (∀ c ∈ y.cps.toList, c < 1114112)) ∨ ∃ i : Int, x = .int i ∧ i.natAbs.log2 < 900) ∧ R H1 := rfl
theorem w_mv : tMv te σ H R = te σ H fun x H1 => ((∃ y, x = .str y ∧ y.length ≤ 1000) ∨ ∃ i : Int, x = .int i ∧ i.natAbs.log2 < 900) ∧ R H1 := rfl
end
end L2
set_option Elab.async false
set_option linter.all false
set_option maxRecDepth 100000
set_option maxHeartbeats 4000000
namespace L2
open PySem PySem.Spec PyProof.Rows
section
variable {X : Cx} {G : Addr → St → Hp → Prop} {k : Nat} {f C : Addr} {fd : FuncData} {ps : List Str} {sp : Sp} {dvs : List V} {ds : List Value} {x m : Str} {p pos apos : Pos} {e o : Expr} {es : List Expr} {ta : TE} {t : TA}
def tMethX (C : Addr) (m : Str) (sp : Sp) (dvs : List V) (G : Addr → St → Hp → Prop) (ta : TE) (t : TA) : TE := fun σ H Q => ta σ H fun x H1 => ∃ a dx fs, x = .ref a ∧ H1 a = some (.ins C dx fs) ∧ fs.lookup m = none ∧
  t σ H1 fun vs H2 => sp (x :: (vs ++ dvs)) H2 Q (fun c _ H' => ∃ C, c = .ref C ∧ G C σ H')
end
section
variable {K : PySem.W.Frag} {σ : St} {H : Hp} {Q : VK} {D : Ends} {ta tv : TE} {t : TA} {f m : Str} {p C : Addr} {sp : Sp} {dvs : List V} {E : XK} {G : Addr → St → Hp → Prop} {rd : V → V → Hp → VK → Prop}
theorem w_fld : tFld K ta f σ H Q = ta σ H fun x H1 => ∃ a C dx fs v, x = .ref a ∧ H1 a = some (.ins C dx fs) ∧ Cls K C ∧ NoAttr K C f ∧ fs.lookup f = some v ∧ Q v H1 := rfl
theorem w_sfld : sFld K ta tv f D σ H = tv σ H fun y H1 => ta σ H1 fun x H2 => ∃ a C dx fs, x = .ref a ∧ H2 a = some (.ins C dx fs) ∧ Cls K C ∧ NoAttr K C f ∧ fs.length < 1000 ∧ D.nx σ (upd H2 a (.ins C dx (putF f y fs))) := rfl
theorem w_meth : tMeth C m sp dvs E ta t σ H Q = ta σ H fun x H1 => ∃ a dx fs, x = .ref a ∧ H1 a = some (.ins C dx fs) ∧ fs.lookup m = none ∧ t σ H1 fun vs H2 => sp (x :: (vs ++ dvs)) H2 Q E := rfl
theorem w_methX : tMethX C m sp dvs G ta t σ H Q = ta σ H fun x H1 => ∃ a dx fs, x = .ref a ∧ H1 a = some (.ins C dx fs) ∧ fs.lookup m = none ∧ t σ H1 fun vs H2 => sp (x :: (vs ++ dvs)) H2 Q (fun c _ H' => ∃ C, c = .ref C ∧ G C σ H') := rfl
theorem w_make : tMake C sp dvs E t σ H Q = t σ H fun vs H1 => ∀ x dx, H1 x = none → H1 dx = none → dx ≠ x → sp (.ref x :: (vs ++ dvs)) (upd (upd H1 dx (.own x)) x (.ins C dx [])) (fun v H2 => v = .non ∧ Q (.ref x) H2) E := rfl
end
end L2
set_option Elab.async false
set_option linter.all false
set_option maxRecDepth 100000
set_option maxHeartbeats 4000000
namespace L2
open PySem PySem.Spec PyProof.Rows
inductive Dt where
  | int (i : Int) | str (x : Str) | non | tup (l : List Dt) | lst (l : List Dt)
mutual
def Dt.beq : Dt → Dt → Bool
  | .int i, .int j => i == j
  | .str x, .str y => decide (x = y)
  | .non, .non => true
  | .tup l, .tup m => Dt.beqs l m
  | .lst l, .lst m => Dt.beqs l m
  | _, _ => false
def Dt.beqs : List Dt → List Dt → Bool
  | [], [] => true
  | a :: l, b :: m => Dt.beq a b && Dt.beqs l m
  | _, _ => false
end
mutual
theorem Dt.beq_iff : ∀ a b : Dt, Dt.beq a b = true ↔ a = b
  | .int i, b => by cases b <;> simp [Dt.beq]
  | .str x, b => by cases b <;> simp [Dt.beq]
  | .non, b => by cases b <;> simp [Dt.beq]
  | .tup l, b => by cases b with
    | tup m => simp only [Dt.beq, Dt.tup.injEq]; exact Dt.beqs_iff l m
    | _ => simp [Dt.beq]
  | .lst l, b => by cases b with
    | lst m => simp only [Dt.beq, Dt.lst.injEq]; exact Dt.beqs_iff l m
    | _ => simp [Dt.beq]
theorem Dt.beqs_iff : ∀ l m : List Dt, Dt.beqs l m = true ↔ l = m
  | [], m => by cases m <;> simp [Dt.beqs]
  | a :: l, m => by cases m with
    | nil => simp [Dt.beqs]
    | cons b m => simp only [Dt.beqs, Bool.and_eq_true, List.cons.injEq]; rw [Dt.beq_iff a b, Dt.beqs_iff l m]
end
instance : DecidableEq Dt := fun a b => if h : Dt.beq a b = true then isTrue ((Dt.beq_iff a b).mp h) else isFalse fun e => h ((Dt.beq_iff a b).mpr e)
theorem Dt.beq_dec (a b : Dt) : Dt.beq a b = decide (a = b) := by
  by_cases h : a = b
  · rw [decide_eq_true h]; exact (Dt.beq_iff a b).mpr h
  · rw [decide_eq_false h]; exact Bool.eq_false_iff.mpr fun e => h ((Dt.beq_iff a b).mp e)
theorem Dt.beqs_all : ∀ (l m : List Dt) (e : Nat → Bool), (∀ (j : Nat) a b, l[j]? = some a → m[j]? = some b → e j = Dt.beq a b) → ((List.range (min l.length m.length)).all e && l.length == m.length) = Dt.beqs l m
  | [], [], e, _ => by simp [Dt.beqs]
  | [], b :: m, e, _ => by simp [Dt.beqs]
  | a :: l, [], e, _ => by simp [Dt.beqs]
  | a :: l, b :: m, e, h => by
    have ih := Dt.beqs_all l m (fun j => e (j + 1)) fun j x y h1 h2 => h (j + 1) x y (by simpa using h1) (by simpa using h2)
    have h0 := h 0 a b rfl rfl
    simp only [Dt.beqs]
    rw [← ih, ← h0]
    simp only [List.length_cons]
    rw [show min (l.length + 1) (m.length + 1) = min l.length m.length + 1 by omega, List.range_succ_eq_map]
    simp only [List.all_cons, List.all_map]
    have : ((l.length + 1 == m.length + 1) : Bool) = (l.length == m.length) := by simp
    rw [this, Bool.and_assoc]
    rfl
mutual
def Dt.dep : Dt → Nat
  | .tup l => Dt.deps l + 1
  | .lst l => Dt.deps l + 1
  | _ => 0
def Dt.deps : List Dt → Nat
  | [] => 0
  | a :: l => max (Dt.dep a) (Dt.deps l)
end
theorem Dt.dep_mem : ∀ {l : List Dt} {j : Nat} {a : Dt}, l[j]? = some a → Dt.dep a ≤ Dt.deps l
  | [], j, a, h => by simp at h
  | b :: l, 0, a, h => by simp at h; subst h; simp only [Dt.deps]; omega
  | b :: l, j + 1, a, h => by have := Dt.dep_mem (l := l) (j := j) (a := a) (by simpa using h); simp only [Dt.deps]; omega
inductive RepD (K : PySem.W.Frag) (H : Hp) : Dt → V → Prop
  | int (i : Int) : RepD K H (.int i) (.int i)
  | str (x : Str) : RepD K H (.str x) (.str x)
  | non : RepD K H .non .non
  | tup {a : Addr} {xs : List V} {l : List Dt} (h : SqT K H a xs) (hl : l.length = xs.length) (hr : ∀ (j : Nat) d x, l[j]? = some d → xs[j]? = some x → RepD K H d x) : RepD K H (.tup l) (.ref a)
  | lst {a : Addr} {xs : List V} {l : List Dt} (h : SqL K H a xs) (hl : l.length = xs.length) (hr : ∀ (j : Nat) d x, l[j]? = some d → xs[j]? = some x → RepD K H d x) : RepD K H (.lst l) (.ref a)
theorem isL {X : Cx} {pins : List (Addr × Obj)} {σ : St} {H : Hp} {s : Shared} {a : Addr} {xs : List V} (I : Inv X pins σ H s) (h : SqL X.K H a xs) : ∃ its : List Value, Vals xs its ∧ s.heap.IsList a its.toArray := by
  obtain ⟨its, r, p, _⟩ := I.list h
  exact ⟨its, r, p.isList⟩
theorem isT {X : Cx} {pins : List (Addr × Obj)} {σ : St} {H : Hp} {s : Shared} {a : Addr} {xs : List V} (I : Inv X pins σ H s) (h : SqT X.K H a xs) : ∃ its : List Value, Vals xs its ∧ s.heap.IsTuple a its.toArray := by
  obtain ⟨its, r, p, _⟩ := I.tuple h
  exact ⟨its, r, p⟩
section
variable {X : Cx} {pins : List (Addr × Obj)} {σ : St} {H : Hp} {s : Shared}
theorem RepD.inj (I : Inv X pins σ H s) {d : Dt} {x : V} (h : RepD X.K H d x) : ∀ {d' : Dt}, RepD X.K H d' x → d = d' := by
  induction h with
  | int i => intro d' h; cases h; rfl
  | str x => intro d' h; cases h; rfl
  | non => intro d' h; cases h; rfl
  | @tup a xs l h hl hr ih =>
    intro d' h'
    cases h' with
    | @tup _ xs' l' h' hl' hr' =>
      obtain rfl := I.tuple_inj h h'
      congr 1
      apply List.ext_getElem?
      intro j
      by_cases hj : j < l.length
      · have e1 : l[j]? = some l[j] := by simp [hj]
        have e2 : xs[j]? = some xs[j] := by simp
        have hj' : j < l'.length := by omega
        have e3 : l'[j]? = some l'[j] := by simp [hj']
        rw [e1, e3, ih j _ _ e1 e2 (hr' j _ _ e3 e2)]
      · rw [List.getElem?_eq_none (by omega), List.getElem?_eq_none (by omega)]
    | @lst _ xs' l' h' hl' hr' =>
      obtain ⟨_, _, p⟩ := isT I h
      obtain ⟨_, _, q⟩ := isL I h'
      exact absurd rfl (SeqAt.ne_of_list_tuple q p)
  | @lst a xs l h hl hr ih =>
    intro d' h'
    cases h' with
    | @lst _ xs' l' h' hl' hr' =>
      obtain rfl := I.list_inj h h'
      congr 1
      apply List.ext_getElem?
      intro j
      by_cases hj : j < l.length
      · have e1 : l[j]? = some l[j] := by simp [hj]
        have e2 : xs[j]? = some xs[j] := by simp
        have hj' : j < l'.length := by omega
        have e3 : l'[j]? = some l'[j] := by simp [hj']
        rw [e1, e3, ih j _ _ e1 e2 (hr' j _ _ e3 e2)]
      · rw [List.getElem?_eq_none (by omega), List.getElem?_eq_none (by omega)]
    | @tup _ xs' l' h' hl' hr' =>
      obtain ⟨_, _, p⟩ := isL I h
      obtain ⟨_, _, q⟩ := isT I h'
      exact absurd rfl (SeqAt.ne_of_list_tuple p q)
theorem RepD.at (I : Inv X pins σ H s) {d : Dt} {x : V} (h : RepD X.K H d x) : ∀ {d' : Dt} {y : V}, RepD X.K H d' y → ∀ {A : Around} {u v : Value}, A.units + Dt.dep d < cLine → RelV x u → RelV y v →
    SeqAt.RcAt A s u v (Dt.beq d d') ∧ SeqAt.EqAt A s u v (Dt.beq d d') := by
  induction h with
  | int i =>
    intro d' y h' A u v hu ru rv
    obtain ⟨t, rfl⟩ := ru
    cases h' with
    | int j => obtain ⟨t', rfl⟩ := rv; exact ⟨SeqAt.RcAt.int_int _ _ _ _, SeqAt.EqAt.int_int _ _ _ _⟩
    | str z => obtain ⟨t', rfl⟩ := rv; exact ⟨SeqAt.RcAt.int_str _ _ _ _, SeqAt.EqAt.int_str _ _ _ _⟩
    | non => cases rv; exact ⟨SeqAt.RcAt.int_none _ _, SeqAt.EqAt.int_none _ _⟩
    | tup h => cases rv; obtain ⟨_, _, p⟩ := isT I h; exact ⟨SeqAt.RcAt.int_tuple _ _ p (by omega), SeqAt.EqAt.int_tuple _ _ p (by omega)⟩
    | lst h => cases rv; obtain ⟨_, _, p⟩ := isL I h; exact ⟨SeqAt.RcAt.int_list _ _ p (by omega), SeqAt.EqAt.int_list _ _ p (by omega)⟩
  | str z =>
    intro d' y h' A u v hu ru rv
    obtain ⟨t, rfl⟩ := ru
    cases h' with
    | int j => obtain ⟨t', rfl⟩ := rv; exact ⟨SeqAt.RcAt.str_int _ _ _ _, SeqAt.EqAt.str_int _ _ _ _⟩
    | str z' =>
      obtain ⟨t', rfl⟩ := rv
      have e : (z == z') = Dt.beq (.str z) (.str z') := by simp only [Dt.beq]; rw [Bool.beq_eq_decide_eq]
      rw [← e]; exact ⟨SeqAt.RcAt.str_str _ _ _ _, SeqAt.EqAt.str_str _ _ _ _⟩
    | non => cases rv; exact ⟨SeqAt.RcAt.str_none _ _, SeqAt.EqAt.str_none _ _⟩
    | tup h => cases rv; obtain ⟨_, _, p⟩ := isT I h; exact ⟨SeqAt.RcAt.str_tuple _ _ p (by omega), SeqAt.EqAt.str_tuple _ _ p (by omega)⟩
    | lst h => cases rv; obtain ⟨_, _, p⟩ := isL I h; exact ⟨SeqAt.RcAt.str_list _ _ p (by omega), SeqAt.EqAt.str_list _ _ p (by omega)⟩
  | non =>
    intro d' y h' A u v hu ru rv
    cases ru
    cases h' with
    | int j => obtain ⟨t', rfl⟩ := rv; exact ⟨SeqAt.RcAt.none_int _ _, SeqAt.EqAt.none_int _ _⟩
    | str z' => obtain ⟨t', rfl⟩ := rv; exact ⟨SeqAt.RcAt.none_str _ _, SeqAt.EqAt.none_str _ _⟩
    | non => cases rv; exact ⟨SeqAt.RcAt.none_none, SeqAt.EqAt.same _⟩
    | tup h => cases rv; obtain ⟨_, _, p⟩ := isT I h; exact ⟨SeqAt.RcAt.none_tuple p (by omega), SeqAt.EqAt.none_tuple p (by omega)⟩
    | lst h => cases rv; obtain ⟨_, _, p⟩ := isL I h; exact ⟨SeqAt.RcAt.none_list p (by omega), SeqAt.EqAt.none_list p (by omega)⟩
  | @tup a xs l h hl hr ih =>
    intro d' y h' A u v hu ru rv
    have h0 := h'
    cases ru
    obtain ⟨its, r1, p1⟩ := isT I h
    cases h' with
    | int j => obtain ⟨t', rfl⟩ := rv; exact ⟨SeqAt.RcAt.tuple_int _ _ p1 (by omega), SeqAt.EqAt.tuple_int _ _ p1 (by omega)⟩
    | str z' => obtain ⟨t', rfl⟩ := rv; exact ⟨SeqAt.RcAt.tuple_str _ _ p1 (by omega), SeqAt.EqAt.tuple_str _ _ p1 (by omega)⟩
    | non => cases rv; exact ⟨SeqAt.RcAt.tuple_none p1 (by omega), SeqAt.EqAt.tuple_none p1 (by omega)⟩
    | lst h2 => cases rv; obtain ⟨_, _, p2⟩ := isL I h2; exact ⟨SeqAt.RcAt.tuple_list p1 p2 (by omega), SeqAt.EqAt.tuple_list p1 p2 (by omega)⟩
    | @tup b ys m h2 hl2 hr2 =>
      cases rv
      obtain ⟨its2, r2, p2⟩ := isT I h2
      have l1 : its.toArray.size = xs.length := by rw [List.size_toArray]; exact r1.length.symm
      have l2 : its2.toArray.size = ys.length := by rw [List.size_toArray]; exact r2.length.symm
      have rc : SeqAt.RcAt A s (.ref a) (.ref b) (Dt.beq (.tup l) (.tup m)) := by
        have hd : Dt.dep (.tup l) = Dt.deps l + 1 := by simp only [Dt.dep]
        rw [hd] at hu
        have := SeqAt.RcAt.tuples (A := A) (e := fun j => match l[j]?, m[j]? with | some x, some y => Dt.beq x y | _, _ => true) p1 p2 (by omega) (fun j h1 h2 => by
          obtain ⟨x, ex, rx⟩ := getD_some r1 h1
          obtain ⟨y, ey, ry⟩ := getD_some r2 h2
          have j1 : j < l.length := by omega
          have j2 : j < m.length := by omega
          have e1 : l[j]? = some l[j] := by simp [j1]
          have e2 : m[j]? = some m[j] := by simp [j2]
          rw [e1, e2]
          exact (ih j _ _ e1 ex (hr2 j _ _ e2 ey) (A := A.in1) (by show A.units + 1 + _ < cLine; have := Dt.dep_mem e1; omega) rx ry).2)
        rw [l1, l2, ← hl, ← hl2, Dt.beqs_all l m _ (fun j x y h1 h2 => by simp only [h1, h2])] at this
        simp only [Dt.beq]
        exact this
      refine ⟨rc, ?_⟩
      by_cases hab : a = b
      · subst hab
        rw [(Dt.beq_iff _ _).mpr ((RepD.tup h hl hr).inj I h0)]
        exact SeqAt.EqAt.same _
      · exact SeqAt.EqAt.of_refs hab rc
  | @lst a xs l h hl hr ih =>
    intro d' y h' A u v hu ru rv
    have h0 := h'
    cases ru
    obtain ⟨its, r1, p1⟩ := isL I h
    cases h' with
    | int j => obtain ⟨t', rfl⟩ := rv; exact ⟨SeqAt.RcAt.list_int _ _ p1 (by omega), SeqAt.EqAt.list_int _ _ p1 (by omega)⟩
    | str z' => obtain ⟨t', rfl⟩ := rv; exact ⟨SeqAt.RcAt.list_str _ _ p1 (by omega), SeqAt.EqAt.list_str _ _ p1 (by omega)⟩
    | non => cases rv; exact ⟨SeqAt.RcAt.list_none p1 (by omega), SeqAt.EqAt.list_none p1 (by omega)⟩
    | tup h2 => cases rv; obtain ⟨_, _, p2⟩ := isT I h2; exact ⟨SeqAt.RcAt.list_tuple p1 p2 (by omega), SeqAt.EqAt.list_tuple p1 p2 (by omega)⟩
    | @lst b ys m h2 hl2 hr2 =>
      cases rv
      obtain ⟨its2, r2, p2⟩ := isL I h2
      have l1 : its.toArray.size = xs.length := by rw [List.size_toArray]; exact r1.length.symm
      have l2 : its2.toArray.size = ys.length := by rw [List.size_toArray]; exact r2.length.symm
      have rc : SeqAt.RcAt A s (.ref a) (.ref b) (Dt.beq (.lst l) (.lst m)) := by
        have hd : Dt.dep (.lst l) = Dt.deps l + 1 := by simp only [Dt.dep]
        rw [hd] at hu
        simp only [Dt.beq]
        by_cases hlen : l.length = m.length
        · have := SeqAt.RcAt.lists (A := A) (e := fun j => match l[j]?, m[j]? with | some x, some y => Dt.beq x y | _, _ => true) p1 p2 (by omega) (by omega) (fun j h1 h2 => by
            obtain ⟨x, ex, rx⟩ := getD_some r1 h1
            obtain ⟨y, ey, ry⟩ := getD_some r2 h2
            have j1 : j < l.length := by omega
            have j2 : j < m.length := by omega
            have e1 : l[j]? = some l[j] := by simp [j1]
            have e2 : m[j]? = some m[j] := by simp [j2]
            rw [e1, e2]
            exact (ih j _ _ e1 ex (hr2 j _ _ e2 ey) (A := A.in1) (by show A.units + 1 + _ < cLine; have := Dt.dep_mem e1; omega) rx ry).2)
          have q := Dt.beqs_all l m (fun j => match l[j]?, m[j]? with | some x, some y => Dt.beq x y | _, _ => true) (fun j x y h1 h2 => by simp only [h1, h2])
          rw [← q]
          have q1 : (l.length == m.length) = true := by simpa using hlen
          have q2 : min l.length m.length = its.toArray.size := by omega
          rw [q1, Bool.and_true, q2]
          exact this
        · have q : Dt.beqs l m = false := Bool.eq_false_iff.mpr fun e => hlen (congrArg List.length ((Dt.beqs_iff l m).mp e))
          rw [q]
          exact SeqAt.RcAt.lists_lengths p1 p2 (by rw [l1, l2]; simp; omega) (by omega)
      refine ⟨rc, ?_⟩
      by_cases hab : a = b
      · subst hab
        rw [(Dt.beq_iff _ _).mpr ((RepD.lst h hl hr).inj I h0)]
        exact SeqAt.EqAt.same _
      · exact SeqAt.EqAt.of_refs hab rc
theorem RepD.ne (I : Inv X pins σ H s) {d d' : Dt} {x y : V} (h : RepD X.K H d x) (h' : RepD X.K H d' y) {A : Around} {u v : Value} (hu : A.units + Dt.dep d < cLine) (ru : RelV x u) (rv : RelV y v) :
    SeqAt.RcNeAt A s u v (!Dt.beq d d') := by
  cases h with
  | int i =>
    obtain ⟨t, rfl⟩ := ru
    cases h' with
    | int j => obtain ⟨t', rfl⟩ := rv; exact SeqAt.RcNeAt.int_int _ _ _ _
    | str z => obtain ⟨t', rfl⟩ := rv; exact SeqAt.RcNeAt.int_str _ _ _ _
    | non => cases rv; exact SeqAt.RcNeAt.int_none _ _
    | tup h => cases rv; obtain ⟨_, _, p⟩ := isT I h; exact SeqAt.RcNeAt.int_tuple _ _ p (by omega)
    | lst h => cases rv; obtain ⟨_, _, p⟩ := isL I h; exact SeqAt.RcNeAt.int_list _ _ p (by omega)
  | str z =>
    obtain ⟨t, rfl⟩ := ru
    cases h' with
    | int j => obtain ⟨t', rfl⟩ := rv; exact SeqAt.RcNeAt.str_int _ _ _ _
    | str z' =>
      obtain ⟨t', rfl⟩ := rv
      have e : (z == z') = Dt.beq (.str z) (.str z') := by simp only [Dt.beq]; rw [Bool.beq_eq_decide_eq]
      rw [← e]; exact SeqAt.RcNeAt.str_str _ _ _ _
    | non => cases rv; exact SeqAt.RcNeAt.str_none _ _
    | tup h => cases rv; obtain ⟨_, _, p⟩ := isT I h; exact SeqAt.RcNeAt.str_tuple _ _ p (by omega)
    | lst h => cases rv; obtain ⟨_, _, p⟩ := isL I h; exact SeqAt.RcNeAt.str_list _ _ p (by omega)
  | non =>
    cases ru
    cases h' with
    | int j => obtain ⟨t', rfl⟩ := rv; exact SeqAt.RcNeAt.none_int _ _
    | str z' => obtain ⟨t', rfl⟩ := rv; exact SeqAt.RcNeAt.none_str _ _
    | non => cases rv; exact SeqAt.RcNeAt.none_none
    | tup h => cases rv; obtain ⟨_, _, p⟩ := isT I h; exact SeqAt.RcNeAt.none_tuple p (by omega)
    | lst h => cases rv; obtain ⟨_, _, p⟩ := isL I h; exact SeqAt.RcNeAt.none_list p (by omega)
  | @tup a xs l h hl hr =>
    cases ru
    obtain ⟨its, r1, p1⟩ := isT I h
    cases h' with
    | int j => obtain ⟨t', rfl⟩ := rv; exact SeqAt.RcNeAt.tuple_int _ _ p1 (by omega)
    | str z' => obtain ⟨t', rfl⟩ := rv; exact SeqAt.RcNeAt.tuple_str _ _ p1 (by omega)
    | non => cases rv; exact SeqAt.RcNeAt.tuple_none p1 (by omega)
    | lst h2 => cases rv; obtain ⟨_, _, p2⟩ := isL I h2; exact SeqAt.RcNeAt.tuple_list p1 p2 (by omega)
    | @tup b ys m h2 hl2 hr2 =>
      cases rv
      obtain ⟨its2, r2, p2⟩ := isT I h2
      have l1 : its.toArray.size = xs.length := by rw [List.size_toArray]; exact r1.length.symm
      have l2 : its2.toArray.size = ys.length := by rw [List.size_toArray]; exact r2.length.symm
      have hd : Dt.dep (.tup l) = Dt.deps l + 1 := by simp only [Dt.dep]
      rw [hd] at hu
      have := SeqAt.RcNeAt.tuples (A := A) (e := fun j => match l[j]?, m[j]? with | some x, some y => Dt.beq x y | _, _ => true) p1 p2 (by omega) (fun j h1 h2 => by
        obtain ⟨x, ex, rx⟩ := getD_some r1 h1
        obtain ⟨y, ey, ry⟩ := getD_some r2 h2
        have j1 : j < l.length := by omega
        have j2 : j < m.length := by omega
        have e1 : l[j]? = some l[j] := by simp [j1]
        have e2 : m[j]? = some m[j] := by simp [j2]
        rw [e1, e2]
        exact (RepD.at I (hr j _ _ e1 ex) (hr2 j _ _ e2 ey) (A := A.in1) (by show A.units + 1 + _ < cLine; have := Dt.dep_mem e1; omega) rx ry).2)
      rw [l1, l2, ← hl, ← hl2, Dt.beqs_all l m _ (fun j x y h1 h2 => by simp only [h1, h2])] at this
      simp only [Dt.beq]
      exact this
  | @lst a xs l h hl hr =>
    cases ru
    obtain ⟨its, r1, p1⟩ := isL I h
    cases h' with
    | int j => obtain ⟨t', rfl⟩ := rv; exact SeqAt.RcNeAt.list_int _ _ p1 (by omega)
    | str z' => obtain ⟨t', rfl⟩ := rv; exact SeqAt.RcNeAt.list_str _ _ p1 (by omega)
    | non => cases rv; exact SeqAt.RcNeAt.list_none p1 (by omega)
    | tup h2 => cases rv; obtain ⟨_, _, p2⟩ := isT I h2; exact SeqAt.RcNeAt.list_tuple p1 p2 (by omega)
    | @lst b ys m h2 hl2 hr2 =>
      cases rv
      obtain ⟨its2, r2, p2⟩ := isL I h2
      have l1 : its.toArray.size = xs.length := by rw [List.size_toArray]; exact r1.length.symm
      have l2 : its2.toArray.size = ys.length := by rw [List.size_toArray]; exact r2.length.symm
      have hd : Dt.dep (.lst l) = Dt.deps l + 1 := by simp only [Dt.dep]
      rw [hd] at hu
      simp only [Dt.beq]
      by_cases hlen : l.length = m.length
      · have := SeqAt.RcNeAt.lists (A := A) (e := fun j => match l[j]?, m[j]? with | some x, some y => Dt.beq x y | _, _ => true) p1 p2 (by omega) (by omega) (fun j h1 h2 => by
          obtain ⟨x, ex, rx⟩ := getD_some r1 h1
          obtain ⟨y, ey, ry⟩ := getD_some r2 h2
          have j1 : j < l.length := by omega
          have j2 : j < m.length := by omega
          have e1 : l[j]? = some l[j] := by simp [j1]
          have e2 : m[j]? = some m[j] := by simp [j2]
          rw [e1, e2]
          exact (RepD.at I (hr j _ _ e1 ex) (hr2 j _ _ e2 ey) (A := A.in1) (by show A.units + 1 + _ < cLine; have := Dt.dep_mem e1; omega) rx ry).2)
        have q := Dt.beqs_all l m (fun j => match l[j]?, m[j]? with | some x, some y => Dt.beq x y | _, _ => true) (fun j x y h1 h2 => by simp only [h1, h2])
        rw [← q]
        have q1 : (l.length == m.length) = true := by simpa using hlen
        have q2 : min l.length m.length = its.toArray.size := by omega
        rw [q1, Bool.and_true, q2]
        exact this
      · have q : Dt.beqs l m = false := Bool.eq_false_iff.mpr fun e => hlen (congrArg List.length ((Dt.beqs_iff l m).mp e))
        rw [q]
        exact SeqAt.RcNeAt.lists_lengths p1 p2 (by rw [l1, l2]; simp; omega) (by omega)
theorem RepD.mem (I : Inv X pins σ H s) {d : Dt} {x : V} {l : List Dt} {xs : List V} {its : List Value} (hx : RepD X.K H d x) (hl : l.length = xs.length) (hr : ∀ (j : Nat) d x, l[j]? = some d → xs[j]? = some x → RepD X.K H d x)
    (r : Vals xs its) {A : Around} {v : Value} (hu : ∀ a ∈ l, A.units + Dt.dep a < cLine) (rv : RelV x v) :
    ∃ e : Value → Bool, (∀ u ∈ its, SeqAt.EqAt A s u v (e u)) ∧ its.any e = decide (d ∈ l) := by
  classical
  have item : ∀ u ∈ its, ∃ (j : Nat) (y : V) (a : Dt), its[j]? = some u ∧ xs[j]? = some y ∧ l[j]? = some a ∧ RelV y u := fun u hm => by
    obtain ⟨j, hj, e⟩ := List.getElem_of_mem hm
    have hx' : j < xs.length := by rw [r.length]; exact hj
    have hl' : j < l.length := by omega
    obtain ⟨u', e', ru⟩ := r.get (i := j) (x := xs[j]) (by simp [hx'])
    have : its[j]? = some u := by simp [hj, e]
    rw [this] at e'; cases e'
    exact ⟨j, xs[j], l[j], this, by simp [hx'], by simp [hl'], ru⟩
  refine ⟨fun u => decide (∃ y, RelV y u ∧ RepD X.K H d y), fun u hm => ?_, ?_⟩
  · obtain ⟨j, y, a, _, hy, ha, ru⟩ := item u hm
    have ry := hr j a y ha hy
    have e : decide (∃ y, RelV y u ∧ RepD X.K H d y) = Dt.beq a d := by
      rw [Dt.beq_dec]
      congr 1
      refine propext ⟨fun ⟨y', r1, r2⟩ => ?_, fun z => ⟨y, ru, z ▸ ry⟩⟩
      obtain rfl := ru.inj r1
      exact ry.inj I r2
    show SeqAt.EqAt A s u v (decide (∃ y, RelV y u ∧ RepD X.K H d y))
    rw [e]
    exact (ry.at I hx (hu a (List.mem_of_getElem? ha)) ru rv).2
  · apply Bool.eq_iff_iff.mpr
    simp only [List.any_eq_true, decide_eq_true_eq]
    constructor
    · rintro ⟨u, hm, y', r1, r2⟩
      obtain ⟨j, y, a, _, hy, ha, ru⟩ := item u hm
      obtain rfl := ru.inj r1
      have := (hr j a y ha hy).inj I r2
      subst this
      exact List.mem_of_getElem? ha
    · intro hm
      obtain ⟨j, hj, e⟩ := List.getElem_of_mem hm
      have hx' : j < xs.length := by omega
      obtain ⟨u, hu', ru⟩ := r.get (i := j) (x := xs[j]) (by simp [hx'])
      exact ⟨u, List.mem_of_getElem? hu', xs[j], ru, e ▸ hr j l[j] xs[j] (by simp [hj]) (by simp [hx'])⟩
end
section
variable {X : Cx} {K : PySem.W.Frag} {H : Hp} {Q : VK}
def rEqT (K : PySem.W.Frag) : R2 := fun x y H Q => ∃ d d', RepD K H d x ∧ RepD K H d' y ∧ Dt.dep d ≤ 60 ∧ Q (.bl (decide (d = d'))) H
def rNeT (K : PySem.W.Frag) : R2 := fun x y H Q => ∃ d d', RepD K H d x ∧ RepD K H d' y ∧ Dt.dep d ≤ 60 ∧ Q (.bl (!decide (d = d'))) H
theorem op_neT (hu : X.A.units + 64 < cLine) : OpR X (compareOp .NotEq) (rNeT X.K) := by
  intro pins s σ H x y v u Q I rx ry ⟨d, d', h, h', hd, q⟩
  exact (h.ne I h' (A := X.A) (by omega) rx ry) X.prog X.w X.xe _ ⟨.bl _, H, I, rfl, by rw [Dt.beq_dec]; exact q⟩
def rInT (K : PySem.W.Frag) (neg : Bool) : R2 := fun x y H Q => ∃ d l, RepD K H d x ∧ (RepD K H (.tup l) y ∨ RepD K H (.lst l) y) ∧ Dt.deps l ≤ 60 ∧ Q (.bl (if neg then !decide (d ∈ l) else decide (d ∈ l))) H
end
end L2
namespace L2
open PySem PySem.Spec PyProof.Rows
theorem RepD.same {K : PySem.W.Frag} {H H' : Hp} (e : Same H H') {d : Dt} {x : V} (h : RepD K H d x) : RepD K H' d x := by
  induction h with
  | int i => exact .int i
  | str x => exact .str x
  | non => exact .non
  | tup h hl hr ih => exact .tup (e.seqT h) hl ih
  | lst h hl hr ih => exact .lst (e.seq h) hl ih
theorem RepD.t1 {K : PySem.W.Frag} {H : Hp} {a : Addr} {x : V} {d : Dt} (h : SqT K H a [x]) (h1 : RepD K H d x) : RepD K H (.tup [d]) (.ref a) :=
  .tup h rfl fun j d' x' e1 e2 => match j, e1, e2 with | 0, e1, e2 => by cases e1; cases e2; exact h1
theorem RepD.t2 {K : PySem.W.Frag} {H : Hp} {a : Addr} {x y : V} {d d2 : Dt} (h : SqT K H a [x, y]) (h1 : RepD K H d x) (h2 : RepD K H d2 y) : RepD K H (.tup [d, d2]) (.ref a) :=
  .tup h rfl fun j d' x' e1 e2 => match j, e1, e2 with
    | 0, e1, e2 => by cases e1; cases e2; exact h1
    | 1, e1, e2 => by cases e1; cases e2; exact h2
namespace Stm
theorem deps_strs : ∀ ts : List Str, Dt.deps (ts.map Dt.str) = 0
  | [] => rfl
  | t :: r => by simp [Dt.deps, Dt.dep, deps_strs r]
end Stm
section
variable {X : Cx}
def rEqC (K : PySem.W.Frag) : R2 := fun x y H Q => rEq x y H Q ∨ rEqT K x y H Q
def rNeC (K : PySem.W.Frag) : R2 := fun x y H Q => rNe x y H Q ∨ rNeT K x y H Q
def rInC (K : PySem.W.Frag) (neg : Bool) : R2 := fun x y H Q => rInA K neg x y H Q ∨ rInT K neg x y H Q
theorem opC_ne (K : PySem.W.Frag) (hu : X.A.units + 64 < cLine) (hK : X.K = K := by rfl) : OpR X (compareOp .NotEq) (rNeC K) := hK ▸ (OpR.or op_ne (op_neT hu) : OpR X (compareOp .NotEq) (rNeC X.K))
end
end L2
namespace L2
open PySem PySem.Spec PyProof.Rows
section
variable {K : PySem.W.Frag} {H : Hp} {Q : VK} {i j : Int} {x y : Str} {p q : Addr} {u : V} {neg : Bool}
theorem RepD.of_int {d : Dt} (h : RepD K H d (.int i)) : d = .int i := by cases h; rfl
theorem RepD.of_str {d : Dt} (h : RepD K H d (.str x)) : d = .str x := by cases h; rfl
theorem w_eqIC : rEqC K (.int i) (.int j) H Q = Q (.bl (decide (i = j))) H := by
  refine propext ⟨fun h => ?_, fun h => .inl ⟨rfl, by simpa using h⟩⟩
  rcases h with ⟨_, h⟩ | ⟨d, d', h1, h2, _, h⟩
  · simpa using h
  · rw [h1.of_int, h2.of_int] at h; simpa using h
theorem w_eqSC : rEqC K (.str x) (.str y) H Q = Q (.bl (decide (x = y))) H := by
  refine propext ⟨fun h => ?_, fun h => .inl ⟨rfl, by simpa using h⟩⟩
  rcases h with ⟨_, h⟩ | ⟨d, d', h1, h2, _, h⟩
  · simpa using h
  · rw [h1.of_str, h2.of_str] at h; simpa using h
theorem w_neIC : rNeC K (.int i) (.int j) H Q = Q (.bl (!decide (i = j))) H := by
  refine propext ⟨fun h => ?_, fun h => .inl ⟨rfl, by simpa using h⟩⟩
  rcases h with ⟨_, h⟩ | ⟨d, d', h1, h2, _, h⟩
  · simpa using h
  · rw [h1.of_int, h2.of_int] at h; simpa using h
theorem w_neSC : rNeC K (.str x) (.str y) H Q = Q (.bl (!decide (x = y))) H := by
  refine propext ⟨fun h => ?_, fun h => .inl ⟨rfl, by simpa using h⟩⟩
  rcases h with ⟨_, h⟩ | ⟨d, d', h1, h2, _, h⟩
  · simpa using h
  · rw [h1.of_str, h2.of_str] at h; simpa using h
theorem w_eqRC : rEqC K (.ref p) u H Q = ∃ d d', RepD K H d (.ref p) ∧ RepD K H d' u ∧ Dt.dep d ≤ 60 ∧ Q (.bl (decide (d = d'))) H := by
  refine propext ⟨fun h => ?_, fun h => .inr h⟩
  rcases h with ⟨e, _⟩ | h
  · cases u <;> cases e
  · exact h
theorem w_eqCR : rEqC K u (.ref p) H Q = ∃ d d', RepD K H d u ∧ RepD K H d' (.ref p) ∧ Dt.dep d ≤ 60 ∧ Q (.bl (decide (d = d'))) H := by
  refine propext ⟨fun h => ?_, fun h => .inr h⟩
  rcases h with ⟨e, _⟩ | h
  · cases u <;> cases e
  · exact h
theorem w_neRC : rNeC K (.ref p) u H Q = ∃ d d', RepD K H d (.ref p) ∧ RepD K H d' u ∧ Dt.dep d ≤ 60 ∧ Q (.bl (!decide (d = d'))) H := by
  refine propext ⟨fun h => ?_, fun h => .inr h⟩
  rcases h with ⟨e, _⟩ | h
  · cases u <;> cases e
  · exact h
theorem w_neCR : rNeC K u (.ref p) H Q = ∃ d d', RepD K H d u ∧ RepD K H d' (.ref p) ∧ Dt.dep d ≤ 60 ∧ Q (.bl (!decide (d = d'))) H := by
  refine propext ⟨fun h => ?_, fun h => .inr h⟩
  rcases h with ⟨e, _⟩ | h
  · cases u <;> cases e
  · exact h
theorem w_inCS : rInC K false (.str x) (.str y) H Q = Q (.bl (inS x y)) H := by
  refine propext ⟨fun h => ?_, fun h => .inl (.inl ⟨x, y, rfl, rfl, h⟩)⟩
  rcases h with (⟨_, _, e1, e2, h⟩ | ⟨_, _, e, _⟩) | ⟨_, _, _, h, _⟩
  · cases e1; cases e2; exact h
  · cases e
  · rcases h with h | h <;> cases h
theorem w_notinCS : rInC K true (.str x) (.str y) H Q = Q (.bl (!inS x y)) H := by
  refine propext ⟨fun h => ?_, fun h => .inl (.inl ⟨x, y, rfl, rfl, h⟩)⟩
  rcases h with (⟨_, _, e1, e2, h⟩ | ⟨_, _, e, _⟩) | ⟨_, _, _, h, _⟩
  · cases e1; cases e2; exact h
  · cases e
  · rcases h with h | h <;> cases h
theorem w_inCR : rInC K neg u (.ref p) H Q = (rIn K neg u (.ref p) H Q ∨ rInT K neg u (.ref p) H Q) := by
  refine propext ⟨fun h => ?_, fun h => ?_⟩
  · rcases h with (⟨_, _, _, e2, _⟩ | h) | h
    · cases e2
    · exact .inl h
    · exact .inr h
  · rcases h with h | h
    · exact .inl (.inr h)
    · exact .inr h
end
end L2
set_option Elab.async false
set_option linter.all false
set_option maxRecDepth 100000
set_option maxHeartbeats 4000000
namespace L2
open PySem PySem.Spec PyProof.Rows
open PySem.Builtin PySem.Builtin.Str
section
variable {X : Cx}
def rIs (f : Str → Bool) : V → List V → Hp → VK → Prop := fun x vs H Q => ∃ z, x = .str z ∧ vs = [] ∧ Q (.bl (f z)) H
def rIs2 (f : Str → Str → Bool) : V → List V → Hp → VK → Prop := fun x vs H Q => ∃ z y, x = .str z ∧ vs = [.str y] ∧ Q (.bl (f z y)) H
def rStrip : V → List V → Hp → VK → Prop := fun x vs H Q => ∃ z, x = .str z ∧ vs = [] ∧ z.length ≤ sizeLine ∧ Q (.str (Txt.strip z)) H
def rSplit : V → List V → Hp → VK → Prop := fun x vs H Q => ∃ z y, x = .str z ∧ vs = [.str y] ∧ y ≠ Str.empty ∧ z.length ≤ 1000000 ∧ ∀ p, H p = none → Q (.ref p) (upd H p (.lst ((Txt.split z y).map V.str)))
def timesS (z : Str) (n : Nat) : Str := ⟨(List.replicate n z.cps).foldl (· ++ ·) #[]⟩
def rMulS : R2 := fun x y H Q => ∃ z n, x = .str z ∧ y = .int n ∧ n < 1000 ∧ -1000 < n ∧ z.length ≤ 1000 ∧ Q (.str (timesS z n.toNat)) H
end
section
variable {K : PySem.W.Frag} {H : Hp} {Q : VK} {x y : Str} {f : Str → Bool} {g : Str → Str → Bool}
theorem w_mulS {n : Int} : rMulS (.str x) (.int n) H Q = (n < 1000 ∧ -1000 < n ∧ x.length ≤ 1000 ∧ Q (.str (timesS x n.toNat)) H) := propext ⟨fun ⟨_, _, e, e', h⟩ => by cases e; cases e'; exact h, fun h => ⟨x, n, rfl, rfl, h⟩⟩
theorem w_is : rIs f (.str x) [] H Q = Q (.bl (f x)) H := propext ⟨fun ⟨_, e, _, h⟩ => by cases e; exact h, fun h => ⟨x, rfl, rfl, h⟩⟩
theorem w_is2 : rIs2 g (.str x) [.str y] H Q = Q (.bl (g x y)) H := propext ⟨fun ⟨_, _, e, e', h⟩ => by cases e; cases e'; exact h, fun h => ⟨x, y, rfl, rfl, h⟩⟩
theorem w_strip : rStrip (.str x) [] H Q = (x.length ≤ sizeLine ∧ Q (.str (Txt.strip x)) H) := propext ⟨fun ⟨_, e, _, h⟩ => by cases e; exact h, fun h => ⟨x, rfl, rfl, h⟩⟩
theorem w_split : rSplit (.str x) [.str y] H Q = (y ≠ Str.empty ∧ x.length ≤ 1000000 ∧ ∀ p, H p = none → Q (.ref p) (upd H p (.lst ((Txt.split x y).map V.str)))) := propext ⟨fun ⟨_, _, e, e', h⟩ => by cases e; cases e'; exact h, fun h => ⟨x, y, rfl, rfl, h⟩⟩
end
end L2
namespace L2
open PySem PySem.Spec PyProof.Rows
section
variable {X : Cx} {o : Expr} {name : Str} {to : TE} {T iid : String} {r : V → List V → Hp → VK → Prop} {apos cpos : Pos}
theorem pe_bmA0 (K : PySem.W.Frag) (pa : PlainAttrs T) (slot : Slot T name iid) (hty : typeOf (.builtin iid) = pure (.type "method_descriptor")) (hm : MtR X iid r) (ho : PE X o to) (hK : X.K = K := by rfl)
    (hbase : attributeBase o name X.env (eval o X.env) = eval o X.env := by rfl) (hline : (apos.endLine == cpos.line) = true := by rfl) : PE X (.Call (.Attribute o name apos) [] [] cpos) (tBM0 K T r to) := hK ▸ pe_bm0 pa slot hty hm ho hbase hline
theorem w_BM0 {K : PySem.W.Frag} {σ : St} {H : Hp} {Q : VK} : tBM0 K T r to σ H Q = to σ H fun x H1 => tyV K T x H1 ∧ r x [] H1 Q := rfl
end
end L2
set_option Elab.async false
set_option linter.all false
set_option maxRecDepth 100000
set_option maxHeartbeats 4000000
namespace L2
open PySem PySem.Spec PyProof.Rows
section
variable {X : Cx}
def rAny (K : PySem.W.Frag) : List V → Hp → VK → Prop := fun xs H Q => ∃ (p : Addr) (bs : List Bool), xs = [.ref p] ∧ SqL K H p (bs.map V.bl) ∧ Q (.bl (bs.any id)) H
theorem w_any {K : PySem.W.Frag} {p : Addr} {H : Hp} {Q : VK} : rAny K [.ref p] H Q = ∃ bs : List Bool, SqL K H p (bs.map V.bl) ∧ Q (.bl (bs.any id)) H := by
  refine propext ⟨fun ⟨_, bs, e, h⟩ => ?_, fun ⟨bs, h⟩ => ⟨p, bs, rfl, h⟩⟩
  cases e; exact ⟨bs, h⟩
def rSum (K : PySem.W.Frag) : List V → Hp → VK → Prop := fun xs H Q => ∃ (p : Addr) (ns : List Int), xs = [.ref p] ∧ SqL K H p (ns.map V.int) ∧ Q (.int ns.sum) H
theorem preSum_list : ∀ (ns : List Int), preSum (fun i => ns.getD i 0) ns.length = ns.sum := by
  have gen : ∀ (ns : List Int) (k : Nat), k ≤ ns.length → preSum (fun i => ns.getD i 0) k = (ns.take k).sum := by
    intro ns k
    induction k with
    | zero => intro _; rfl
    | succ k ih =>
      intro hk
      show preSum (fun i => ns.getD i 0) k + ns.getD k 0 = _
      rw [ih (by omega)]
      have e : ns[k]? = some ns[k] := by simp
      have e2 : List.take (k + 1) ns = List.take k ns ++ [ns[k]] := by rw [List.take_succ, e]; rfl
      rw [e2, List.sum_append]
      have : ns.getD k 0 = ns[k] := by rw [List.getD_eq_getElem?_getD, e]; rfl
      rw [this]
      simp
  intro ns
  rw [gen ns ns.length (Nat.le_refl _), List.take_length]
theorem call_sum (hc : X.calm = true) : CallR X (.builtin "sum") (rSum X.K) := by
  intro pins s σ H xs us Q I r h
  obtain ⟨p, ns, rfl, hq, q⟩ := h
  obtain ⟨u, rfl, rx⟩ := vals1 r
  cases rx
  obtain ⟨its, rv, pl, hz⟩ := I.list hq
  have hlen : ns.length = its.length := by have := rv.length; simpa using this
  refine call_sum_walkG (wpAny_pyIter_list pl.isList ?_)
  have hlt : p < s.heap.objs.size := by
    obtain ⟨o, _, e, _⟩ := pl
    exact Heap.lt_size e
  refine ⟨s.heap.objs.size, _, _, _, _, _, fun i => ns.getD i 0, rfl, Walks.list (A := X.A.in1) (show X.A.in1.handled = none from I.ok.hd hc) _ p (Nat.ne_of_lt hlt) its.toArray, ⟨⟨_, Heap.get?_push_size _ rfl, rfl, rfl⟩, pl.isList.push _⟩, ?_, ?_, fun h' tk t' hk => ?_⟩
  · intro b hb
    show b < (s.heap.push _).objs.size
    rw [Heap.size_push]
    simp at hb
    have hlt' : (p : Nat) < s.heap.objs.size := hlt
    rcases hb with rfl | rfl
    · first | exact Nat.lt_succ_self _ | exact Nat.lt_succ_of_lt hlt
    · first | exact Nat.lt_succ_of_lt hlt | exact Nat.lt_succ_self _
  · intro i v hP
    have hv : its[i]? = some v := by simpa using hP
    have hi : i < ns.length := by rw [hlen]; exact (List.getElem?_eq_some_iff.mp hv).1
    obtain ⟨v', hv', rv'⟩ := rv.get (i := i) (x := V.int ns[i]) (by simp [hi])
    rw [hv] at hv'; cases hv'
    obtain ⟨t, e⟩ := (show ∃ t, v = Value.int ns[i] t from rv')
    exact ⟨t, by rw [e]; simp [hi]⟩
  · have e : preSum (fun i => ns.getD i 0) its.toArray.size = ns.sum := by
      rw [List.size_toArray, ← hlen]; exact preSum_list ns
    rw [e]
    refine ⟨.int ns.sum, H, ?_, ⟨t', rfl⟩, q⟩
    exact I.kept (t' := tk) fun b o e => hk b o (fun z => absurd (Heap.lt_size e) (Nat.not_lt.mpr (Nat.le_of_eq (List.mem_singleton.mp z).symm))) (Heap.get?_push_of_some _ e)
theorem callA_sum (K : PySem.W.Frag) (hc : X.calm = true) (hK : X.K = K := by rfl) : CallR X (.builtin "sum") (rSum K) := hK ▸ call_sum hc
theorem w_sum {K : PySem.W.Frag} {p : Addr} {H : Hp} {Q : VK} : rSum K [.ref p] H Q = ∃ ns : List Int, SqL K H p (ns.map V.int) ∧ Q (.int ns.sum) H := by
  refine propext ⟨fun ⟨_, bs, e, h⟩ => ?_, fun ⟨bs, h⟩ => ⟨p, bs, rfl, h⟩⟩
  cases e; exact ⟨bs, h⟩
end
end L2
namespace L2
open PySem PySem.Spec PyProof.Rows
section
variable {K : PySem.W.Frag} {σ : St} {H : Hp} {Q : VK} {D : Ends} {ta tb tc te : TE} {r r' : R2} {i n : Nat} {ti : TIp} {g : TG} {gs : TGs} {v : V} {vs : List V} {R : St → Hp → Prop} {f : Int → Int → Int} {a b : Int}
theorem w_chain : tChain r r' ta tb tc σ H Q = ta σ H fun x H1 => tb σ H1 fun y H2 => r x y H2 fun z H3 => ∃ k, z = .bl k ∧ (if k = true then tc σ H3 fun w' H4 => r' y w' H4 Q else Q (.bl false) H3) := rfl
theorem w_aug : tAug i te ti D σ H = ∃ x, σ[i]? = some (some x) ∧ te σ H fun y H1 => ti x y H1 fun z H2 => D.nx (σ.set i (some z)) H2 := rfl
theorem w_ipI : ipI f (.int a) (.int b) H Q = Q (.int (f a b)) H := propext ⟨fun ⟨_, _, e, e', h⟩ => by cases e; cases e'; exact h, fun h => ⟨a, b, rfl, rfl, h⟩⟩
theorem w_gTup {p : Addr} : gTup K n gs (.ref p) σ H R = ∃ xs, SqT K H p xs ∧ xs.length = n ∧ gs xs σ H R := propext ⟨fun ⟨_, xs, e, h⟩ => by cases e; exact ⟨xs, h⟩, fun ⟨xs, h⟩ => ⟨p, xs, rfl, h⟩⟩
theorem w_gCons : gCons g gs (v :: vs) σ H R = g v σ H fun σ' H' => gs vs σ' H' R := propext ⟨fun ⟨_, _, e, h⟩ => by cases e; exact h, fun h => ⟨v, vs, rfl, h⟩⟩
theorem w_gNil : gNil [] σ H R = R σ H := propext ⟨fun h => h.2, fun h => ⟨rfl, h⟩⟩
end
end L2
set_option Elab.async false
set_option linter.all false
set_option maxRecDepth 100000
set_option maxHeartbeats 4000000
namespace L2
open PySem PySem.Spec PyProof.Rows
section
variable {X : Cx} {pins : List (Addr × Obj)} {σ : St} {H : Hp} {s : Shared}
end
end L2
namespace L2
open PySem PySem.Spec PyProof.Rows
def PS1 (X : Cx) (st : Stmt) (t : TS) : Prop :=
  ∀ (pins : List (Addr × Obj)) (s : Shared) (σ : St) (H : Hp) (D : Ends), 1 ≤ s.toks → Inv X pins σ H s → t D σ H → wpAny (model X.prog X.w) X.A (exec st X.env) (SP X pins D) X.xe s
section
variable {X : Cx}
end
end L2
set_option Elab.async false
set_option linter.all false
set_option maxRecDepth 100000
set_option maxHeartbeats 4000000
namespace L2
open PySem PySem.Spec PyProof.Rows
def PE1 (X : Cx) (e : Expr) (t : TE) : Prop :=
  ∀ (pins : List (Addr × Obj)) (s : Shared) (σ : St) (H : Hp) (Q : VK), 1 ≤ s.toks → Inv X pins σ H s → t σ H Q → wpAny (model X.prog X.w) X.A (eval e X.env) (EP X pins σ Q) X.xe s
def PA1 (X : Cx) (es : List Expr) (t : TA) : Prop :=
  ∀ (pos : Pos) (pins : List (Addr × Obj)) (s : Shared) (σ : St) (H : Hp) (Q : List V → Hp → Prop), 1 ≤ s.toks → Inv X pins σ H s → t σ H Q → wpAny (model X.prog X.w) X.A (spliced (backTo pos (starEach es X.env))) (AP X pins σ Q) X.xe s
def PSs1 (X : Cx) (st : List Stmt) (t : TS) : Prop :=
  ∀ (pins : List (Addr × Obj)) (s : Shared) (σ : St) (H : Hp) (D : Ends), 1 ≤ s.toks → Inv X pins σ H s → t D σ H → wpAny (model X.prog X.w) X.A (execs st X.env) (SP X pins D) X.xe s
section
variable {X : Cx} {e : Expr} {es : List Expr} {st : Stmt} {rest : List Stmt} {te : TE} {ta : TA} {t u : TS} {pos : Pos}
end
structure FnOk1 (P : Program) (w : World) (K : PySem.W.Frag) (mg : Str → Option Value) (base : Heap) (CX : CXT) (k : Nat) (f : Addr) (fd : FuncData) (ps : List Str) (sp : Sp) : Prop where
  len : ∀ vs H Q E, sp vs H Q E → vs.length = ps.length
  run : ∀ (A : Around) (outer : List Env) (s : Shared) (H : Hp) (args : Args) (us : List Value) (vs : List V) (Q : VK) (E : XK), 1 ≤ s.toks → Room k A → Env0 P w K mg base A outer s H → BindsTo s fd args (ps.zip us) → Vals vs us → sp vs H Q E →
    codeAny (model P w) A (.call (.ref f) args) (CR CX outer P w H s Q E) s
theorem PSs1.nox {X : Cx} {st : List Stmt} {t : TS} (h : PSs1 X.nox st t) : PSs1 X st t := fun pins s σ H D ht I hw =>
  wpAny_mono (h pins s σ H D ht (I.wish _) hw) (fun _ _ q => SP.unwish q) fun _ _ z => z.elim
section
variable {X : Cx} {CX : CXT} {k : Nat} {f C : Addr} {fd : FuncData} {ps : List Str} {sp : Sp} {dvs : List V} {ds : List Value} {E : XK} {x : Str} {p pos : Pos} {e : Expr} {es : List Expr} {t : TA}
end
end L2
namespace L2
open PySem PySem.Spec PyProof.Rows
section
variable {X : Cx} {CX : CXT} {k : Nat} {f C : Addr} {fd : FuncData} {ps : List Str} {sp : Sp} {dvs : List V} {ds : List Value} {E : XK} {x : Str} {p pos : Pos} {e : Expr} {es : List Expr} {te : TE} {t : TA} {tt u : TS} {st : Stmt} {rest : List Stmt}
def PAb (X : Cx) (es : List Expr) (t : TA) : Prop :=
  ∀ (pos : Pos) (pins : List (Addr × Obj)) (s : Shared) (σ : St) (H : Hp) (Q : List V → Hp → Prop), Inv X pins σ H s → t σ H Q → wpAny (model X.prog X.w) X.A (spliced (backTo pos (starEach es X.env))) (fun us s' => 1 ≤ s'.toks ∧ AP X pins σ Q us s') X.xe s
def PSb (X : Cx) (st : Stmt) (t : TS) : Prop :=
  ∀ (pins : List (Addr × Obj)) (s : Shared) (σ : St) (H : Hp) (D : Ends), Inv X pins σ H s → t D σ H → wpAny (model X.prog X.w) X.A (exec st X.env) (fun f s' => 1 ≤ s'.toks ∧ SP X pins D f s') X.xe s
def PEb (X : Cx) (e : Expr) (t : TE) : Prop :=
  ∀ (pins : List (Addr × Obj)) (s : Shared) (σ : St) (H : Hp) (Q : VK), Inv X pins σ H s → t σ H Q → wpAny (model X.prog X.w) X.A (eval e X.env) (fun u s' => 1 ≤ s'.toks ∧ EP X pins σ Q u s') X.xe s
end
end L2
set_option Elab.async false
set_option linter.all false
set_option maxRecDepth 100000
set_option maxHeartbeats 4000000
namespace L2
open PySem PySem.Spec PyProof.Rows
end L2
set_option Elab.async false
set_option linter.all false
set_option maxRecDepth 100000
set_option maxHeartbeats 4000000
namespace L2
open PySem PySem.Spec PyProof.Rows
def sgn (c : Nat) : Prop := c = 40 ∨ c = 41 ∨ c = 44
instance (c : Nat) : Decidable (sgn c) := by unfold sgn; infer_instance
end L2
set_option Elab.async false
set_option linter.all false
set_option maxRecDepth 100000
set_option maxHeartbeats 4000000
namespace HT
open PySem PyProof.Rows
section
variable {prog : Program} {w : World} {A : Around} {E : Value → Shared → Prop} {s : Shared}
theorem getItem_tuple_whole {t sl : Addr} {items : Array Value} {vl vu : Value} {lo hi : Option Int} {Q : Value → Shared → Prop} (ht : IsTup s.heap t items) (hs : s.heap.IsSliceOf sl vl vu .none) (pl : IsPart vl lo) (pu : IsPart vu hi)
    (hw : sIx items.size 0 lo = 0 ∧ sIx items.size items.size hi = items.size) (h : Q (.ref t) s) : wpAny (model prog w) A (getItem (.ref t) (.ref sl)) Q E s := by
  obtain ⟨os, hos, hcs, hds⟩ := id hs
  have hTs : s.TypeIs (.ref sl) "slice" := ⟨os, hos, hcs⟩
  unfold getItem
  try with_reducible refine wpAny_holding ?_
  first | refine wpAny_bind (wpAny_pure ?_) | skip
  refine wpAny_bind (wpAny_sequenceKey ht.typeIs (by decide) ?_)
  refine wpAny_bind (wpAny_callSpecial?_slot (name := Str.ofString "__getitem__") ht.typeIs PyProof.Rows.slot_tuple_getitem
    (wpAny_call_entry PyProof.Rows.slot_tuple_getitem ht.typeIs entry_tuple_getitem ?_ (args_tuple_getitem _ _)))
  show wpAny _ _ (Builtin.Tuple.tupleItemsOf (.ref t) >>= _) _ _ s
  refine wpAny_bind (tupleItemsOf_ ht ?_)
  refine wpAny_bind (wpAny_typeOf hTs ?_)
  rw [if_pos (by decide)]
  refine wpAny_bind (sliceApplied_gen hs pl pu ?_)
  show wpAny _ _ (if (((sIx items.size 0 lo : Nat) : Int) == 0 && (1 : Int) == 1 && (sIx items.size items.size hi - sIx items.size 0 lo) == items.size) = true then _ else _) _ _ s
  rw [hw.1, hw.2, if_pos (by simp)]
  refine wpAny_bind (m := Builtin.Tuple.tupleIsExact _) (wpAny_bind (wpAny_typeOf ht.typeIs (wpAny_pure ?_)))
  rw [if_pos (by decide)]
  exact wpAny_bind (wpAny_rule (wpAny_pure ⟨_, rfl, wpAny_pure h⟩))
theorem cat_tup0 {t b : Addr} {vs ws : List Value} {Q : Value → Shared → Prop} (ht : IsTup s.heap t vs.toArray) (hb : IsTup s.heap b ws.toArray) (hv : vs = [])
    (h1 : Q (.ref b) s) : wpAny (model prog w) A (binaryOp .Add (.ref t) (.ref b)) Q E s := by
  obtain ⟨⟨cls, dd, data, sl⟩, ho, hc, n, hd⟩ := id ht
  obtain ⟨⟨cls2, dd2, data2, sl2⟩, ho2, hc2, n2, hd2⟩ := id hb
  simp only at hc hd hc2 hd2
  subst hc hd hc2 hd2
  exact concat_meets ⟨_, ho, rfl⟩ ⟨_, ho2, rfl⟩ noFill_tuple_add seq_tuple_add PySem.F.slot_tuple_add PySem.F.entry_tuple_add (PySem.F.args_tuple_add_2 _ _)
      (tuple_addW0 t b vs.toArray ws.toArray n n2 dd dd2 sl sl2 (by simp [hv])) ⟨ho, ho2, h1⟩
end
end HT
namespace L2
open PySem PySem.Spec PyProof.Rows
section
variable {X : Cx}
def rSlT2 (K : PySem.W.Frag) : V → Option Int → Option Int → Hp → VK → Prop := fun x lo hi H Q => ∃ a xs, x = .ref a ∧ SqT K H a xs ∧ ∀ q H', Same H H' → SqT K H' q (cutV xs lo hi) → Q (.ref q) H'
theorem sl_tup2 : SlR X (rSlT2 X.K) := by
  intro pins s σ H x v vl vu lo hi sl Q I rx hs pl pu h
  obtain ⟨a, xs, rfl, hx, q⟩ := h
  by_cases hw : HT.sIx xs.length 0 lo = 0 ∧ HT.sIx xs.length xs.length hi = xs.length
  · cases rx
    obtain ⟨its, r, ht, hz⟩ := I.tuple hx
    have hlen : its.toArray.size = xs.length := by rw [List.size_toArray]; exact r.length.symm
    refine ⟨"tuple", _, PyProof.Rows.slot_tuple_getitem.lookup, ht.typeIs, ?_⟩
    refine HT.getItem_tuple_whole ht hs pl pu (by rw [hlen]; exact hw) ⟨.ref a, H, I, rfl, q a H (Same.refl H) ?_⟩
    have e : cutV xs lo hi = xs := by unfold cutV; rw [hw.1, hw.2]; simp
    rw [e]; exact hx
  · exact sl_tup pins s σ H _ v vl vu lo hi sl Q I rx hs pl pu ⟨a, xs, rfl, hx, hw, fun p hp => q p _ (same_new hp _) (SqT.of upd_same)⟩
def rSlB (K : PySem.W.Frag) : V → Option Int → Option Int → Hp → VK → Prop := fun x lo hi H Q => rSlS x lo hi H Q ∨ (rSlL K x lo hi H Q ∨ rSlT2 K x lo hi H Q)
theorem slB (K : PySem.W.Frag) (hK : X.K = K := by rfl) : SlR X (rSlB K) := hK ▸ (SlR.or sl_str (SlR.or sl_list sl_tup2) : SlR X (rSlB X.K))
def rCatT2 (K : PySem.W.Frag) : R2 := fun x y H Q => ∃ a b xs ys, x = .ref a ∧ y = .ref b ∧ SqT K H a xs ∧ SqT K H b ys ∧ xs.length + ys.length ≤ sizeLine ∧ ∀ q H', Same H H' → SqT K H' q (xs ++ ys) → Q (.ref q) H'
theorem op_catT2 : OpR X (binaryOp .Add) (rCatT2 X.K) := by
  intro pins s σ H x y v u Q I rx ry h
  obtain ⟨a, b, xs, ys, rfl, rfl, ha, hb, hz, q⟩ := h
  by_cases hx : xs = []
  · subst hx
    cases rx; cases ry
    obtain ⟨its, r1, p1, _⟩ := I.tuple ha
    obtain ⟨its2, r2, p2, _⟩ := I.tuple hb
    exact HT.cat_tup0 p1 p2 (r1.nil_iff.mpr rfl) ⟨.ref b, H, I, rfl, q b H (Same.refl H) hb⟩
  · exact op_catT pins s σ H _ _ v u Q I rx ry ⟨a, b, xs, ys, rfl, rfl, ha, hb, hx, hz, fun e => q a H (Same.refl H) (by subst e; rw [List.append_nil]; exact ha), fun _ p hp => q p _ (same_new hp _) (SqT.of upd_same)⟩
def rAddB (K : PySem.W.Frag) : R2 := fun x y H Q => rI0 (fun i j => .int (i + j)) x y H Q ∨ (rAddS x y H Q ∨ (rCat x y H Q ∨ rCatT2 K x y H Q))
theorem opB_add (K : PySem.W.Frag) (hK : X.K = K := by rfl) : OpR X (binaryOp .Add) (rAddB K) := hK ▸ (OpR.or op_add (OpR.or op_add_str (OpR.or op_cat op_catT2)) : OpR X (binaryOp .Add) (rAddB X.K))
end
section
variable {K : PySem.W.Frag} {σ : St} {H : Hp} {Q : VK} {D : Ends} {p q : Addr} {x y : Str} {i j : Int} {lo hi : Option Int} {a b : Bool} {tc : TT} {tb : TS} {ta : TA} {te : TE} {R : It → Hp → Prop}
theorem w_slSB : rSlB K (.str x) lo hi H Q = (x.length ≤ sizeLine ∧ Q (.str (Txt.slice x lo hi)) H) := by
  refine propext ⟨fun h => ?_, fun ⟨h, k⟩ => .inl ⟨x, rfl, h, k⟩⟩
  rcases h with ⟨_, e, h⟩ | ⟨_, _, e, _⟩ | ⟨_, _, e, _⟩
  · cases e; exact h
  · cases e
  · cases e
theorem w_slRB : rSlB K (.ref p) lo hi H Q = ∃ xs, (SqL K H p xs ∧ ∀ q, H q = none → Q (.ref q) (upd H q (.lst (cutV xs lo hi)))) ∨
    (SqT K H p xs ∧ ∀ q H', Same H H' → SqT K H' q (cutV xs lo hi) → Q (.ref q) H') := by
  refine propext ⟨fun h => ?_, fun ⟨xs, h⟩ => ?_⟩
  · rcases h with ⟨_, e, _⟩ | ⟨_, xs, e, h⟩ | ⟨_, xs, e, h⟩
    · cases e
    · cases e; exact ⟨xs, .inl h⟩
    · cases e; exact ⟨xs, .inr h⟩
  · rcases h with h | h
    · exact .inr (.inl ⟨p, xs, rfl, h⟩)
    · exact .inr (.inr ⟨p, xs, rfl, h⟩)
theorem w_addIB : rAddB K (.int i) (.int j) H Q = Q (.int (i + j)) H := by
  refine propext ⟨fun h => ?_, fun h => .inl ⟨i, j, rfl, rfl, h⟩⟩
  rcases h with ⟨_, _, e1, e2, h⟩ | ⟨_, _, e, _⟩ | ⟨_, _, _, _, e, _⟩ | ⟨_, _, _, _, e, _⟩
  · cases e1; cases e2; exact h
  · cases e
  · cases e
  · cases e
theorem w_addSB : rAddB K (.str x) (.str y) H Q = (x.length + y.length ≤ sizeLine ∧ Q (.str (x ++ y)) H) := by
  refine propext ⟨fun h => ?_, fun ⟨h, k⟩ => .inr (.inl ⟨x, y, rfl, rfl, h, k⟩)⟩
  rcases h with ⟨_, _, e, _⟩ | ⟨_, _, e1, e2, h⟩ | ⟨_, _, _, _, e, _⟩ | ⟨_, _, _, _, e, _⟩
  · cases e
  · cases e1; cases e2; exact h
  · cases e
  · cases e
theorem w_catRB : rAddB K (.ref p) (.ref q) H Q = ∃ xs zs, (H p = some (.lst xs) ∧ H q = some (.lst zs) ∧ xs.length + zs.length ≤ sizeLine ∧ ∀ r, H r = none → Q (.ref r) (upd H r (.lst (xs ++ zs)))) ∨
    (SqT K H p xs ∧ SqT K H q zs ∧ xs.length + zs.length ≤ sizeLine ∧ ∀ r H', Same H H' → SqT K H' r (xs ++ zs) → Q (.ref r) H') := by
  refine propext ⟨fun h => ?_, fun ⟨xs, zs, h⟩ => ?_⟩
  · rcases h with ⟨_, _, e, _⟩ | ⟨_, _, e, _⟩ | ⟨_, _, xs, zs, e1, e2, h⟩ | ⟨_, _, xs, zs, e1, e2, h⟩
    · cases e
    · cases e
    · cases e1; cases e2; exact ⟨xs, zs, .inl h⟩
    · cases e1; cases e2; exact ⟨xs, zs, .inr h⟩
  · rcases h with h | h
    · exact .inr (.inr (.inl ⟨p, q, xs, zs, rfl, rfl, h⟩))
    · exact .inr (.inr (.inr ⟨p, q, xs, zs, rfl, rfl, h⟩))
theorem w_instBlB {T : String} : rInstB K T [.bl a, .ty T] H Q = ∃ c, PySem.W.kitOne K (.type "bool") (.type T) = some c ∧ Q (.bl c) H := by
  refine propext ⟨fun ⟨_, _, b, e, t, h⟩ => ?_, fun ⟨b, h⟩ => ⟨_, _, b, rfl, .of (.bl a), h⟩⟩
  cases e
  rcases t with t | t | t
  cases t; exact ⟨b, h⟩
theorem w_eqBl : rEq (.bl a) (.bl b) H Q = Q (.bl (decide (a = b))) H := by
  refine propext ⟨fun ⟨_, h⟩ => ?_, fun h => ⟨rfl, ?_⟩⟩
  · rw [dec_bl] at h; exact h
  · rw [dec_bl]; exact h
theorem w_neBl : rNe (.bl a) (.bl b) H Q = Q (.bl (!decide (a = b))) H := by
  refine propext ⟨fun ⟨_, h⟩ => ?_, fun h => ⟨rfl, ?_⟩⟩
  · rw [dec_bl] at h; exact h
  · rw [dec_bl]; exact h
theorem w_eqBlB : rEqB K (.bl a) (.bl b) H Q = Q (.bl (decide (a = b))) H := by
  refine propext ⟨fun h => ?_, fun h => .inl (w_eqBl ▸ h)⟩
  rcases h with h | ⟨d, b, hd, h, _⟩
  · rw [w_eqBl] at h; exact h
  · rcases h with h | h <;> cases h
theorem w_eqBlC : rEqC K (.bl a) (.bl b) H Q = Q (.bl (decide (a = b))) H := by
  refine propext ⟨fun h => ?_, fun h => .inl (w_eqBl ▸ h)⟩
  rcases h with h | ⟨d, d', h, _⟩
  · rw [w_eqBl] at h; exact h
  · cases h
theorem w_neBlC : rNeC K (.bl a) (.bl b) H Q = Q (.bl (!decide (a = b))) H := by
  refine propext ⟨fun h => ?_, fun h => .inl (w_neBl ▸ h)⟩
  rcases h with h | ⟨d, d', h, _⟩
  · rw [w_neBl] at h; exact h
  · cases h
theorem w_break : tBreak D σ H = D.bk σ H := rfl
theorem w_cont : tCont D σ H = D.ct σ H := rfl
theorem w_rng2 : iRng2 ta σ H R = ta σ H fun vs H1 => ∃ i j : Int, vs = [.int i, .int j] ∧ (-(2 ^ 62) ≤ i ∧ i < 2 ^ 62 ∧ -(2 ^ 62) ≤ j ∧ j < 2 ^ 62) ∧ R (Itr i (j - i).toNat) H1 := rfl
theorem w_isN : tIsN te σ H Q = te σ H fun x H1 => Q (.bl (decide (x = .non))) H1 := rfl
theorem w_notN : tNotN te σ H Q = te σ H fun x H1 => Q (.bl (!decide (x = .non))) H1 := rfl
theorem w_while : tWhile tc tb D σ H = ∃ W : Nat → St → Hp → Prop, (∃ m, W m σ H) ∧ ∀ m σ H, W m σ H →
  tc σ H fun b H1 => if b = true then ∃ N : St → Hp → Prop, (∀ σ' H', N σ' H' → ∃ m', m' < m ∧ W m' σ' H') ∧ tb { D with nx := N, ct := N, bk := D.nx } σ H1 else D.nx σ H1 := rfl
theorem w_ltS : rLtA (.str x) (.str y) H Q = Q (.bl (decide (x.cps.toList < y.cps.toList))) H := by
  refine propext ⟨fun h => ?_, fun h => .inr ⟨x, y, rfl, rfl, h⟩⟩
  rcases h with ⟨_, _, e, _⟩ | ⟨_, _, e1, e2, h⟩
  · cases e
  · cases e1; cases e2; exact h
theorem cut_to (xs : List V) (n : Nat) : cutV xs none (some (n : Int)) = xs.take n := by
  unfold cutV
  rw [HT.sIx_none, HT.sIx_nat, List.drop_zero, Nat.sub_zero]
  by_cases h : n ≤ xs.length
  · rw [Nat.min_eq_left h]
  · rw [Nat.min_eq_right (by omega), List.take_of_length_le (Nat.le_refl _), List.take_of_length_le (by omega)]
theorem cut_but1 (xs : List V) : cutV xs none (some (-1)) = xs.take (xs.length - 1) := by
  unfold cutV
  rw [HT.sIx_none, List.drop_zero, Nat.sub_zero]
  show List.take ((-1 : Int) + (xs.length : Int)).toNat xs = _
  congr 1
  omega
theorem SqT.keepL {xs ys zs : List V} (h : SqT K H q xs) (hp : H p = some (.lst ys)) : SqT K (upd H p (.lst zs)) q xs := by
  rcases h with (h | ⟨o, h⟩) | h
  · exact .inl (.inl (by rw [upd_ne]; exact h; rintro rfl; rw [hp] at h; cases h))
  · exact .inl (.inr ⟨o, by rw [upd_ne]; exact h; rintro rfl; rw [hp] at h; cases h⟩)
  · exact .inr h
end
end L2
set_option Elab.async false
set_option linter.all false
set_option maxRecDepth 100000
set_option maxHeartbeats 4000000
namespace L2
open PySem PySem.Spec PyProof.Rows
def opn (r : Str) : Bool := inV (.str r) [V.str "guess", V.str "new", V.str "case"]
def o1 (r : Str) : Nat := if opn r = true then 1 else 0
def iv (p : List Nat) : List V := p.map fun n : Nat => V.int n
section
variable {K : PySem.W.Frag} {H H' : Hp} {a q p : Addr} {us : List V} {f : Nat → List Nat}
theorem nil_repL (h : SqL K H a []) : RepD K H (.lst []) (.ref a) := .lst h rfl fun j d x h1 _ => by simp at h1
end
end L2
set_option Elab.async false
set_option linter.all false
set_option maxRecDepth 100000
set_option maxHeartbeats 4000000
namespace L2
open PySem PySem.Spec PyProof.Rows
section
variable {X : Cx}
def nums (n : Nat) : List V := (List.range n).map fun i : Nat => V.int i
def tLR (ta : TA) : TE := fun σ H Q => ta σ H fun vs H1 => ∃ j : Int, vs = [.int j] ∧ 0 ≤ j ∧ j ≤ 100000 ∧ ∀ p, H1 p = none → Q (.ref p) (upd H1 p (.lst (nums j.toNat)))
end
end L2
namespace L2
open PySem PySem.Spec PyProof.Rows
section
variable {K : PySem.W.Frag} {σ : St} {H H' : Hp} {Q : VK} {ta : TA} {p : Addr} {k : Int}
theorem w_LR : tLR ta σ H Q = ta σ H fun vs H1 => ∃ j : Int, vs = [.int j] ∧ 0 ≤ j ∧ j ≤ 100000 ∧ ∀ p, H1 p = none → Q (.ref p) (upd H1 p (.lst (nums j.toNat))) := rfl
theorem w_mulR : rMulA (.ref p) (.int k) H Q = ∃ xs, H p = some (.lst xs) ∧ -(2 ^ 63) ≤ k ∧ k < 2 ^ 63 ∧ xs.length * k.toNat ≤ sizeLine ∧ ∀ q, H q = none → Q (.ref q) (upd H q (.lst (List.replicate k.toNat xs).flatten)) := by
  refine propext ⟨fun h => ?_, fun ⟨xs, h⟩ => .inr ⟨p, k, xs, rfl, rfl, h⟩⟩
  rcases h with ⟨_, _, e, _⟩ | ⟨_, _, xs, e1, e2, h⟩
  · cases e
  · cases e1; cases e2; exact ⟨xs, h⟩
theorem seq_ifP {c : Prop} [Decidable c] {tt : TT} {t u : TS} {D : Ends} (ht : ∀ Qb : Bool → Hp → Prop, Qb (decide c) H → tt σ H Qb) (h1 : c → t { D with nx := u D } σ H) (h2 : ¬ c → u D σ H) : tSeq (tIfS tt t tNext) u D σ H := by
  show tt σ H fun b H1 => if b = true then t { D with nx := u D } σ H1 else u D σ H1
  refine ht _ ?_
  by_cases hc : c
  · rw [decide_eq_true hc, if_pos rfl]; exact h1 hc
  · rw [decide_eq_false hc, if_neg (by decide)]; exact h2 hc
theorem RepL.snoc {A : List Stm} {U : List V} {S : Stm} {u : V} (h : RepL K H A U) (hs : RepS K H S u) : RepL K H (A ++ [S]) (U ++ [u]) := by
  induction h with
  | nil => exact .cons hs .nil
  | cons h1 _ ih => exact .cons h1 ih
theorem RepL.last {Ss : List Stm} {us : List V} (h : RepL K H Ss us) (hn : Ss ≠ []) : ∃ A S U u, Ss = A ++ [S] ∧ us = U ++ [u] ∧ RepL K H A U ∧ RepS K H S u := by
  induction h with
  | nil => exact absurd rfl hn
  | @cons a b l m h1 h2 ih =>
    by_cases z : l = []
    · subst z
      cases h2
      exact ⟨[], a, [], b, rfl, rfl, .nil, h1⟩
    · obtain ⟨A, S, U, u, rfl, rfl, h3, h4⟩ := ih z
      exact ⟨a :: A, S, b :: U, u, rfl, rfl, .cons h1 h3, h4⟩
theorem cut_last (U : List V) (u : V) : cutV (U ++ [u]) none (some (-1)) = U := by rw [cut_but1]; simp
theorem cut_last2 (U : List V) (u v : V) : cutV (U ++ [u, v]) none (some (-2)) = U := by
  unfold cutV
  rw [HT.sIx_none, List.drop_zero, Nat.sub_zero]
  show List.take ((-2 : Int) + ((U ++ [u, v]).length : Int)).toNat (U ++ [u, v]) = _
  have e : ((-2 : Int) + ((U ++ [u, v]).length : Int)).toNat = U.length := by simp; omega
  rw [e]; simp
theorem atI_last2 (U : List V) (u v : V) : atI (U ++ [u, v]) (-2) = some u := by
  have hl : (U ++ [u, v]).length = U.length + 2 := by simp
  have e : ixN (U ++ [u, v]).length (-2) = some U.length := by
    unfold ixN
    rw [hl, if_neg (by decide), if_pos (by omega)]
    congr 1
    omega
  unfold atI
  rw [e]
  simp
def tb (t : Str) : Prop := 1 ≤ t.length ∧ t.length ≤ 16
def SW : Stm → Prop
  | .is w ts => w.length ≤ 16 ∧ ts.length ≤ 3 ∧ ∀ t ∈ ts, tb t
  | .fls => True
  | .neg A => SW A
  | .bi _ A B => SW A ∧ SW B
  | .qu _ X A => tb X ∧ SW A
def spMixL (K : PySem.W.Frag) : Sp := fun vs H Q _ => ∃ (a : Addr) (ns : List Int), vs = [.ref a] ∧ SqL K H a (ns.map V.int) ∧ ns.length ≤ 100 ∧ ∀ (p : Addr) (ms : List Int) H', Same H H' → H' p = some (.lst (ms.map V.int)) → ms.length = ns.length → (∀ m ∈ ms, 0 ≤ m) → Q (.ref p) H'
def spSign : Sp := fun vs H Q _ => ∃ c, vs = [.int c] ∧ ∀ z : Str, z.length = 1 → Q (.str z) H
def spNm2 : Sp := fun vs H Q _ => ∃ sh k, vs = [.int sh, .int k] ∧ 0 ≤ sh ∧ 0 ≤ k ∧ k < 5 ∧ ∀ x H', Same H H' → tb x → Q (.str x) H'
def spLt2 : Sp := fun vs H Q _ => ∃ sh k, vs = [.int sh, .int k] ∧ 0 ≤ sh ∧ 0 ≤ k ∧ k < 3 ∧ ∀ x, tb x → Q (.str x) H
def spTm2 : Sp := fun vs H Q _ => ∃ sh c, vs = [.int sh, .int c] ∧ 0 ≤ sh ∧ ∀ x H', Same H H' → tb x → Q (.str x) H'
def spAt2 (K : PySem.W.Frag) : Sp := fun vs H Q _ => ∃ sh c, vs = [.int sh, .int c] ∧ 0 ≤ sh ∧ ∀ S v H', Same H H' → RepS K H' S v → SW S → S.deep = 1 → S.size = 1 → Q v H'
def PileOk (Ss : List Stm) (d z : Nat) : Prop := (∀ S ∈ Ss, SW S ∧ S.deep ≤ d) ∧ (Ss.map Stm.size).sum ≤ z
theorem PileOk.snoc {A : List Stm} {S : Stm} {d z d' z' : Nat} (h : PileOk A d z) (hd : d ≤ d') (h1 : SW S) (h2 : S.deep ≤ d') (h3 : z + S.size ≤ z') : PileOk (A ++ [S]) d' z' :=
  ⟨fun T hT => (List.mem_append.mp hT).elim (fun q => ⟨(h.1 T q).1, Nat.le_trans (h.1 T q).2 hd⟩) fun q => by rw [List.mem_singleton.mp q]; exact ⟨h1, h2⟩,
    by rw [List.map_append, List.sum_append]; simp only [List.map_cons, List.map_nil, List.sum_cons, List.sum_nil]; have := h.2; omega⟩
theorem PileOk.front {A : List Stm} {S : Stm} {d z : Nat} (h : PileOk (A ++ [S]) d z) : ∃ z', PileOk A d z' ∧ z' + S.size ≤ z ∧ SW S ∧ S.deep ≤ d := by
  have h2 := h.2
  rw [List.map_append, List.sum_append] at h2
  simp only [List.map_cons, List.map_nil, List.sum_cons, List.sum_nil] at h2
  exact ⟨(A.map Stm.size).sum, ⟨fun T hT => h.1 T (List.mem_append_left _ hT), Nat.le_refl _⟩, by omega, h.1 S (by simp)⟩
def spStep (K : PySem.W.Frag) : Sp := fun vs H Q _ => ∃ (p : Addr) (sh c : Int) (us : List V) (Ss : List Stm) (d z : Nat), vs = [.ref p, .int sh, .int c] ∧ H p = some (.lst us) ∧ RepL K H Ss us ∧ 0 ≤ sh ∧ PileOk Ss d z ∧ Ss.length ≤ 50 ∧ 1 ≤ d ∧
  ∀ (q : Addr) us' Ss' H', Same H H' → H' q = some (.lst us') → RepL K H' Ss' us' → PileOk Ss' (d + 1) (z + 1) → Ss'.length ≤ Ss.length + 1 → 1 ≤ Ss'.length → Q (.ref q) H'
def spPile (K : PySem.W.Frag) : Sp := fun vs H Q _ => ∃ (a : Addr) (sh : Int) (ms : List Int), vs = [.int sh, .ref a] ∧ SqL K H a (ms.map V.int) ∧ ms.length ≤ 10 ∧ 0 ≤ sh ∧
  ∀ (q : Addr) us Ss H', Same H H' → H' q = some (.lst us) → RepL K H' Ss us → PileOk Ss (ms.length + 1) (ms.length + 1) → Ss.length ≤ ms.length + 1 → 1 ≤ Ss.length → Q (.ref q) H'
def spFree (K : PySem.W.Frag) (d : Nat) : Sp := fun vs H Q _ => ∃ v S, vs = [v] ∧ RepS K H S v ∧ SW S ∧ S.deep ≤ d ∧ S.size ≤ 1000 ∧ ∀ (p : Addr) (ts : List Str) H', Same H H' → H' p = some (.lst (ts.map V.str)) → (∀ t ∈ ts, tb t) → ts.length ≤ 3 * S.size → Q (.ref p) H'
def spClosed (K : PySem.W.Frag) : Sp := fun vs H Q _ => ∃ v S c, vs = [v, .int c] ∧ RepS K H S v ∧ SW S ∧ S.deep ≤ 20 ∧ S.size ≤ 1000 ∧ ∀ S' v' H', Same H H' → RepS K H' S' v' → SW S' → S'.deep ≤ S.deep + 3 * S.size → Q v' H'
def spStat (K : PySem.W.Frag) : Sp := fun vs H Q _ => ∃ (a : Addr) (sh : Int) (ms : List Int), vs = [.int sh, .ref a] ∧ SqL K H a (ms.map V.int) ∧ ms.length ≤ 5 ∧ 0 ≤ sh ∧ ∀ S v H', Same H H' → RepS K H' S v → SW S → S.deep ≤ 45 → Q v H'
theorem RepS.parts_at {S : Stm} {v : V} (h : RepS K H S v) (h1 : S.tag ≠ "is") (h2 : ¬ (S.tag = "all" ∨ S.tag = "some")) : ∃ a xs, v = .ref a ∧ SqT K H a (.str S.tag :: xs) ∧ RepL K H S.parts xs := by
  cases S with
  | is x ts => exact absurd rfl h1
  | fls => obtain ⟨a, rfl, q⟩ := h; exact ⟨a, [], rfl, q, .nil⟩
  | neg B => obtain ⟨a, u, rfl, q, hb⟩ := h; exact ⟨a, [u], rfl, q, .cons hb .nil⟩
  | bi o B C => obtain ⟨a, u, u', rfl, q, hb, hc⟩ := h; exact ⟨a, [u, u'], rfl, q, .cons hb (.cons hc .nil)⟩
  | qu q X B => exact absurd (by cases q; exact .inr rfl; exact .inl rfl) h2
theorem SW.part {S A : Stm} (h : SW S) (hA : A ∈ S.parts) : SW A := by
  cases S with
  | is x ts => simp [Stm.parts] at hA
  | fls => simp [Stm.parts] at hA
  | neg B => have : A = B := by simpa [Stm.parts] using hA
             subst this; exact h
  | bi o B C => have : A = B ∨ A = C := by simpa [Stm.parts] using hA
                rcases this with rfl | rfl
                · exact h.1
                · exact h.2
  | qu q X B => have : A = B := by simpa [Stm.parts] using hA
                subst this; exact h.2
theorem parts_size (S : Stm) : (S.parts.map Stm.size).sum + 1 = S.size ∨ (S.parts.map Stm.size).sum + 1 ≤ S.size := by
  cases S <;> simp [Stm.parts, Stm.size] <;> omega
theorem cut_tail (x : V) (us : List V) : cutV (x :: us) (some 1) none = us := by
  unfold cutV
  rw [HT.sIx_none]
  show List.take _ (List.drop (min 1 (us.length + 1)) (x :: us)) = us
  rw [show min 1 (us.length + 1) = 1 by omega, List.drop_one, List.tail_cons]
  exact List.take_of_length_le (by show us.length ≤ (us.length + 1) - min 1 (us.length + 1); omega)
def CloInv (K : PySem.W.Frag) (H1 : Hp) (S : Stm) (n : Nat) (m : Nat) (σ : St) (H2 : Hp) : Prop := Same H1 H2 ∧ ∃ (v2 : V) (S2 : Stm) (c2 : Int) (p2 : Addr) (ts2 : List Str), σ = [some v2, some (.int c2), some (.ref p2)] ∧ RepS K H2 S2 v2 ∧ SW S2 ∧ H2 p2 = some (.lst (ts2.map V.str)) ∧ (∀ t ∈ ts2, tb t) ∧ m = ts2.length ∧ S2.deep + ts2.length ≤ S.deep + n ∧ ts2.length ≤ n
theorem strs_repL {a : Addr} {ts : List Str} (h : SqL K H a (ts.map V.str)) : RepD K H (.lst (ts.map Dt.str)) (.ref a) :=
  .lst h (by simp) fun j d x h1 h2 => by
    rw [List.getElem?_map] at h1 h2
    cases e : ts[j]? with
    | none => rw [e] at h1; cases h1
    | some t => rw [e] at h1 h2; cases h1; cases h2; exact .str t
theorem strs_depL (ts : List Str) : Dt.dep (.lst (ts.map Dt.str)) ≤ 60 := by
  show Dt.deps (ts.map Dt.str) + 1 ≤ 60
  rw [Stm.deps_strs]; omega
end
end L2
set_option Elab.async false
set_option linter.all false
set_option maxRecDepth 100000
set_option maxHeartbeats 4000000
namespace L2
open PySem PySem.Spec PyProof.Rows
section
variable {X : Cx}
def tCallV (X : Cx) (tv : TE) (t : TA) : TE := fun σ H Q => tv σ H fun z H1 => ∃ (f : Addr) (CX : CXT) (k : Nat) (fd : FuncData) (ps : List Str) (sp : Sp) (ds : List Value) (dvs : List V) (E : XK), z = .ref f ∧ FnOk X.prog X.w X.K X.mg X.base CX k f fd ps sp ∧ Room k X.A ∧
  PySem.W.keepIn X.K (.ref f) = true ∧ Binds X.K fd ps ds ∧ Vals dvs ds ∧ Passes CX X E ∧ t σ H1 fun vs H2 => sp (vs ++ dvs) H2 Q E
theorem w_callV {tv : TE} {t : TA} {σ : St} {H : Hp} {Q : VK} : tCallV X tv t σ H Q = tv σ H fun z H1 => ∃ (f : Addr) (CX : CXT) (k : Nat) (fd : FuncData) (ps : List Str) (sp : Sp) (ds : List Value) (dvs : List V) (E : XK), z = .ref f ∧ FnOk X.prog X.w X.K X.mg X.base CX k f fd ps sp ∧ Room k X.A ∧
  PySem.W.keepIn X.K (.ref f) = true ∧ Binds X.K fd ps ds ∧ Vals dvs ds ∧ Passes CX X E ∧ t σ H1 fun vs H2 => sp (vs ++ dvs) H2 Q E := rfl
end
end L2
set_option Elab.async false
set_option linter.all false
set_option maxRecDepth 100000
set_option maxHeartbeats 4000000
namespace L2
open PySem PySem.Spec PySem.Calls PyProof.V PyProof.Rows PyProof.Rows.KTD
section
variable {X : Cx}
def TabK (K : PySem.W.Frag) (a : Addr) (D : List (Str × V)) : Prop :=
  (a == sysModules) = false ∧ ∃ (o : Obj) (es : Array DictEntry) (ep : Nat), K.lookup a = some o ∧ o.ExactDict ∧ o.data = .dict es ep ∧ KTD.Rows (fun d v => RelV d v) es.toList D
def rInTab (K : PySem.W.Frag) : R2 := fun x y H Q => ∃ k p D, x = .str k ∧ y = .ref p ∧ TabK K p D ∧ Q (.bl (inKeys k D)) H
def rIxTab (K : PySem.W.Frag) : R2 := fun x y H Q => ∃ k p D z, x = .ref p ∧ y = .str k ∧ TabK K p D ∧ datumAt k D = some z ∧ Q z H
end
end L2
set_option Elab.async false
set_option linter.all false
set_option maxRecDepth 100000
set_option maxHeartbeats 4000000
namespace L2
open PySem PySem.Spec PyProof.Rows
open AutoSeq1 (wpAny_loadPart')
section
variable {prog : Program} {w : World} {A : Around} {E : Value → Shared → Prop} {s : Shared}
end
section
variable {X : Cx} {pins : List (Addr × Obj)} {σ : St} {H : Hp} {s : Shared} {h' : Heap}
end
def Ite (K : PySem.W.Frag) (a : Addr) : It :=
  ⟨fun i H => ∃ xs x, SqT K H a xs ∧ xs[i]? = some x, fun i H v H' => ∃ t y, v = .ref t ∧ H t = none ∧ H' = upd H t (.tup [.int i, y]) ∧ ∀ xs, SqT K H a xs → xs[i]? = some y, fun i H => ∃ xs, SqT K H a xs ∧ xs.length ≤ i⟩
section
variable {X : Cx}
def iEnum (K : PySem.W.Frag) (ta : TA) : TI := fun σ H R => ta σ H fun vs H1 => ∃ a, vs = [.ref a] ∧ (∃ xs, SqT K H1 a xs) ∧ R (Ite K a) H1
theorem w_enum {K : PySem.W.Frag} {σ : St} {H : Hp} {R : It → Hp → Prop} {ta : TA} : iEnum K ta σ H R = ta σ H fun vs H1 => ∃ a, vs = [.ref a] ∧ (∃ xs, SqT K H1 a xs) ∧ R (Ite K a) H1 := rfl
end
section
variable {X : Cx}
def rCount (K : PySem.W.Frag) : V → List V → Hp → VK → Prop := fun x vs H Q => ∃ p xs k, x = .ref p ∧ vs = [k] ∧ SqL K H p xs ∧ xs.all flatV = true ∧ flatV k = true ∧ Q (.int ((xs.countP fun y => eqV y k : Nat) : Int)) H
theorem w_count {K : PySem.W.Frag} {p : Addr} {k : V} {H : Hp} {Q : VK} : rCount K (.ref p) [k] H Q = ∃ xs, SqL K H p xs ∧ xs.all flatV = true ∧ flatV k = true ∧ Q (.int ((xs.countP fun y => eqV y k : Nat) : Int)) H := by
  refine propext ⟨fun ⟨_, xs, _, e1, e2, h⟩ => ?_, fun ⟨xs, h⟩ => ⟨p, xs, k, rfl, rfl, h⟩⟩
  cases e1; cases e2; exact ⟨xs, h⟩
end
end L2
set_option Elab.async false
set_option linter.all false
set_option maxRecDepth 100000
set_option maxHeartbeats 4000000
namespace L2
open PySem PySem.Spec PyProof.Rows
open AutoSeq1 (wpAny_loadPart')
section
variable {prog : Program} {w : World} {A : Around} {E : Value → Shared → Prop} {s : Shared}
end
section
variable {X : Cx} {pins : List (Addr × Obj)} {σ : St} {H : Hp} {s : Shared} {h' : Heap}
end
def Itz (K : PySem.W.Frag) (a b : Addr) : It :=
  ⟨fun i H => ∃ xs ys x y, SqT K H a xs ∧ SqT K H b ys ∧ xs[i]? = some x ∧ ys[i]? = some y,
   fun i H v H' => ∃ t x y, v = .ref t ∧ H t = none ∧ H' = upd H t (.tup [x, y]) ∧ (∀ xs, SqT K H a xs → xs[i]? = some x) ∧ ∀ ys, SqT K H b ys → ys[i]? = some y,
   fun i H => ∃ xs ys, SqT K H a xs ∧ SqT K H b ys ∧ (xs.length ≤ i ∨ ys.length ≤ i)⟩
section
variable {X : Cx}
def iZip (K : PySem.W.Frag) (ta : TA) : TI := fun σ H R => ta σ H fun vs H1 => ∃ a b, vs = [.ref a, .ref b] ∧ (∃ xs, SqT K H1 a xs) ∧ (∃ ys, SqT K H1 b ys) ∧ R (Itz K a b) H1
theorem w_zip {K : PySem.W.Frag} {σ : St} {H : Hp} {R : It → Hp → Prop} {ta : TA} : iZip K ta σ H R = ta σ H fun vs H1 => ∃ a b, vs = [.ref a, .ref b] ∧ (∃ xs, SqT K H1 a xs) ∧ (∃ ys, SqT K H1 b ys) ∧ R (Itz K a b) H1 := rfl
end
end L2
set_option Elab.async false
set_option linter.all false
set_option maxRecDepth 100000
set_option maxHeartbeats 4000000
namespace L2
open PySem PySem.Spec PyProof.Rows
section
variable {K : PySem.W.Frag} {nt : Nat} {is : List Nat} {g : TG} {tt : TT} {te : TE} {σ : St} {H : Hp} {Q : VK}
theorem gTup2_keep {n : Nat} (hn : 2 ≤ n) : ∀ x (σ : St) (H : Hp) R, gTup K 2 (gCons (gName 0) (gCons (gName 1) gNil)) x σ H R → gTup K 2 (gCons (gName 0) (gCons (gName 1) gNil)) x σ H fun σ2 H2 => σ2.drop n = σ.drop n ∧ R σ2 H2 := by
  rintro x σ H R ⟨a, xs, rfl, hq, hl, v, r, rfl, v2, r2, rfl, rfl, h⟩
  exact ⟨a, _, rfl, hq, hl, v, _, rfl, v2, _, rfl, rfl, by rw [List.drop_set_of_lt (by omega), List.drop_set_of_lt (by omega)], h⟩
end
section
variable {X : Cx}
def tDNew : TE := fun _ H Q => ∀ p, H p = none → Q (.ref p) (upd H p (.dK []))
theorem w_dnew {σ : St} {H : Hp} {Q : VK} : tDNew σ H Q = ∀ p, H p = none → Q (.ref p) (upd H p (.dK [])) := rfl
theorem w_inTab {K : PySem.W.Frag} {k : Str} {p : Addr} {H : Hp} {Q : VK} : rInTab K (.str k) (.ref p) H Q = ∃ D, TabK K p D ∧ Q (.bl (KTD.inKeys k D)) H := by
  refine propext ⟨fun ⟨_, _, D, e1, e2, h⟩ => ?_, fun ⟨D, h⟩ => ⟨k, p, D, rfl, rfl, h⟩⟩
  cases e1; cases e2; exact ⟨D, h⟩
theorem w_ixTab {K : PySem.W.Frag} {k : Str} {p : Addr} {H : Hp} {Q : VK} : rIxTab K (.ref p) (.str k) H Q = ∃ D z, TabK K p D ∧ KTD.datumAt k D = some z ∧ Q z H := by
  refine propext ⟨fun ⟨_, _, D, z, e1, e2, h⟩ => ?_, fun ⟨D, z, h⟩ => ⟨k, p, D, z, rfl, rfl, h⟩⟩
  cases e1; cases e2; exact ⟨D, z, h⟩
end
end L2
set_option Elab.async false
set_option linter.all false
set_option maxRecDepth 100000
set_option maxHeartbeats 4000000
namespace L2
open PySem PySem.Spec PyProof.Rows
section
variable {prog : Program} {w : World} {A : Around} {E : Value → Shared → Prop} {s : Shared}
theorem adjust_rev (n : Nat) : Builtin.Slice.sliceAdjust none none (-1) (n : Int) = ((n : Int) - 1, -1) := by
  unfold Builtin.Slice.sliceAdjust
  simp
theorem places_rev (n : Nat) : Builtin.Slice.slicePlaces ((n : Int) - 1) (-1) (-1) = n := by
  unfold Builtin.Slice.slicePlaces
  rw [if_neg (by decide)]
  split
  · simp
  · omega
theorem sliceApplied_rev {sl : Addr} {n : Nat} {t : Tok} {Q : Int × Int × Nat → Shared → Prop} (hs : s.heap.IsSliceOf sl .none .none (.int (-1) t))
    (h : Q ((n : Int) - 1, -1, n) s) : wpAny (model prog w) A (Builtin.Slice.sliceApplied (.ref sl) (pure (n : Int))) Q E s := by
  obtain ⟨os, hos, hcs, hds⟩ := id hs
  unfold Builtin.Slice.sliceApplied Builtin.Slice.sliceFields
  refine wpAny_bind (wpAny_bind (wpAny_field hos hds (x := .none) rfl (wpAny_bind (wpAny_field hos hds (x := .none) rfl (wpAny_bind (wpAny_field hos hds (x := .int (-1) t) rfl (wpAny_pure ?_)))))))
  refine wpAny_bind (slicePart_int ?_)
  show wpAny _ _ (if ((-1 : Int) == 0) = true then _ else _) _ _ s
  rw [if_neg (by decide)]
  refine wpAny_bind (slicePart_none (wpAny_bind (slicePart_none (wpAny_bind (wpAny_pure ?_)))))
  show wpAny _ _ (match Builtin.Slice.sliceAdjust none none (-1) (n : Int) with | (lo, hi) => pure (lo, (-1 : Int), Builtin.Slice.slicePlaces lo hi (-1))) _ _ s
  rw [adjust_rev n]
  show wpAny _ _ (pure ((n : Int) - 1, (-1 : Int), Builtin.Slice.slicePlaces ((n : Int) - 1) (-1) (-1))) _ _ s
  rw [places_rev]
  exact wpAny_pure h
theorem filterMap_some {α β : Type} {f : α → Option β} {g : α → β} : ∀ {l : List α}, (∀ m ∈ l, f m = some (g m)) → l.filterMap f = l.map g
  | [], _ => rfl
  | a :: l, h => by rw [List.filterMap_cons, h a (by simp), filterMap_some (l := l) fun m hm => h m (by simp [hm])]; rfl
theorem pick_rev (xs : Array Value) : ((List.range xs.size).filterMap fun (m : Nat) => xs[(((xs.size : Nat) : Int) - 1 + (m : Int) * (-1)).toNat]?).toArray = xs.toList.reverse.toArray := by
  congr 1
  have e : ∀ m ∈ List.range xs.size, xs[(((xs.size : Nat) : Int) - 1 + (m : Int) * (-1)).toNat]? = some (xs.toList.reverse.getD m .none) := fun m hm => by
    have hm := List.mem_range.mp hm
    have e1 : (((xs.size : Nat) : Int) - 1 + (m : Int) * (-1)).toNat = xs.size - 1 - m := by omega
    rw [e1, Array.getElem?_eq_getElem (by omega), List.getD_eq_getElem?_getD, List.getElem?_reverse (by rw [Array.length_toList]; exact hm), Array.length_toList, Array.getElem?_toList, Array.getElem?_eq_getElem (by omega)]
    rfl
  rw [filterMap_some e]
  refine List.ext_getElem? fun i => ?_
  rw [List.getElem?_map]
  by_cases hi : i < xs.size
  · rw [List.getElem?_range hi]
    show some (xs.toList.reverse.getD i .none) = _
    rw [List.getD_eq_getElem?_getD, List.getElem?_eq_getElem (by rw [List.length_reverse, Array.length_toList]; exact hi)]
    rfl
  · rw [List.getElem?_eq_none (by rw [List.length_range]; omega), List.getElem?_eq_none (by rw [List.length_reverse, Array.length_toList]; omega)]
    rfl
theorem getItem_rev {t sl : Addr} {u : Tok} {items : Array Value} {Q : Value → Shared → Prop} (ht : IsTup s.heap t items) (hs : s.heap.IsSliceOf sl .none .none (.int (-1) u))
    (h : Q (.ref s.heap.objs.size) { s with heap := s.heap.push { cls := .type "tuple", data := .seq items.toList.reverse.toArray } })
    (hsz : items.size ≤ sizeLine) : wpAny (model prog w) A (getItem (.ref t) (.ref sl)) Q E s := by
  have htake : sizeOk (.seq items.toList.reverse.toArray) := by
    show items.toList.reverse.toArray.size ≤ sizeLine
    rw [List.size_toArray, List.length_reverse, Array.length_toList]
    omega
  obtain ⟨os, hos, hcs, hds⟩ := id hs
  have hTs : s.TypeIs (.ref sl) "slice" := ⟨os, hos, hcs⟩
  unfold getItem
  try with_reducible refine wpAny_holding ?_
  first | refine wpAny_bind (wpAny_pure ?_) | skip
  refine wpAny_bind (wpAny_sequenceKey ht.typeIs (by decide) ?_)
  refine wpAny_bind (wpAny_callSpecial?_slot (name := Str.ofString "__getitem__") ht.typeIs PyProof.Rows.slot_tuple_getitem
    (wpAny_call_entry PyProof.Rows.slot_tuple_getitem ht.typeIs entry_tuple_getitem ?_ (args_tuple_getitem _ _)))
  show wpAny _ _ (Builtin.Tuple.tupleItemsOf (.ref t) >>= _) _ _ s
  refine wpAny_bind (tupleItemsOf_ ht ?_)
  refine wpAny_bind (wpAny_typeOf hTs ?_)
  rw [if_pos (by decide)]
  refine wpAny_bind (sliceApplied_rev hs ?_)
  have hno : ¬ ((((items.size : Nat) : Int) - 1 == 0 && (-1 : Int) == 1 && items.size == items.size) = true) := by
    intro q
    rw [Bool.and_eq_true, Bool.and_eq_true] at q
    exact absurd q.1.2 (by decide)
  show wpAny _ _ (if (((items.size : Nat) : Int) - 1 == 0 && (-1 : Int) == 1 && items.size == items.size) = true then _ else _) _ _ s
  rw [if_neg hno, pick_rev]
  first
    | exact wpAny_bind (m := Builtin.Tuple.tupleExact _) (wpAny_newObj_type (wpAny_pure ⟨_, rfl, wpAny_pure h⟩) htake)
    | exact wpAny_bind (m := Builtin.Tuple.tupleExact _) (wpAny_newObj_type (wpAny_bind (wpAny_pure (wpAny_pure ⟨_, rfl, wpAny_pure h⟩))) htake)
    | exact wpAny_bind (wpAny_bind (m := Builtin.Tuple.tupleExact _) (wpAny_newObj_type (wpAny_pure (wpAny_pure ⟨_, rfl, wpAny_pure h⟩)) htake))
    | exact wpAny_bind (wpAny_bind (m := Builtin.Tuple.tupleExact _) (wpAny_newObj_type (wpAny_pure ⟨_, rfl, wpAny_pure h⟩) htake))
end
theorem vals_revs {xs : List V} {us : List Value} (h : Vals xs us) : Vals xs.reverse us.reverse := by
  have key : ∀ {a : List V} {b : List Value}, Vals a b → ∀ {c : List V} {d : List Value}, Vals c d → Vals (a ++ c) (b ++ d) := by
    intro a b h
    induction h with
    | nil => intro c d h; exact h
    | cons h1 _ ih => intro c d h; exact .cons h1 (ih h)
  induction h with
  | nil => exact .nil
  | cons h1 _ ih => rw [List.reverse_cons, List.reverse_cons]; exact key ih (.cons h1 .nil)
section
variable {X : Cx} {e st : Expr} {te ts : TE} {pos p2 : Pos}
def tRv (K : PySem.W.Frag) (te ts : TE) : TE := fun σ H Q => te σ H fun x H1 => ts σ H1 fun y H2 => y = .int (-1) ∧ ∃ a xs, x = .ref a ∧ SqT K H2 a xs ∧ ∀ p, H2 p = none → Q (.ref p) (upd H2 p (.tup xs.reverse))
theorem pe_rv (he : PE X e te) (hs : PE X st ts) (ht : ∀ o r, letTemporaryGo e o r = pure () := by intro _ _; rfl) : PE X (.Subscript e (.Slice none none (some st) p2) pos) (tRv X.K te ts) := by
  intro pins s σ H Q I h
  refine wpAny_Subscript_Slice_step PyProof.Rows.slot_tuple_getitem.lookup (thn (he pins s σ H _ I h) fun v s1 ⟨x, H1, I1, r1, q1⟩ => ?_) ht
  refine wpAny_Slice ?_
  rw [evalPart_none, evalPart_some]
  refine wpAny_pure (wpAny_pure (thn (hs pins s1 σ H1 _ I1 q1) fun vs s2 ⟨y, H2, I2, r2, q2⟩ => ?_))
  obtain ⟨rfl, a, xs, rfl, hx, q⟩ := q2
  obtain ⟨t, rfl⟩ := r2
  cases r1
  have I3 : Inv X pins σ H2 { s2 with heap := s2.heap.push { cls := .type "slice", data := .fields #[.none, .none, .int (-1) t] } } := I2.kept (t' := s2.toks) fun b ob q => Heap.get?_push_of_some _ q
  obtain ⟨its, r, hT, hz⟩ := I3.tuple hx
  have hlen : its.toArray.size = xs.length := by rw [List.size_toArray]; exact r.length.symm
  refine ⟨hT.typeIs, getItem_rev hT (Heap.IsSliceOf.new ..) ?_ (by rw [hlen]; exact hz)⟩
  refine ⟨.ref _, _, I3.laid (t' := s2.toks) (o := .tup xs.reverse) (fun b o e => Heap.get?_push_of_some _ e) (Nat.le_refl _) ⟨by rw [List.length_reverse]; exact hz, its.reverse, vals_revs r, ?_⟩, rfl, q _ (I3.hok.fresh (Nat.le_refl _))⟩
  have := IsTup.new ({ s2 with heap := s2.heap.push { cls := .type "slice", data := .fields #[.none, .none, .int (-1) t] } } : Shared).heap its.reverse.toArray
  simpa using this
theorem w_rv {K : PySem.W.Frag} {σ : St} {H : Hp} {Q : VK} : tRv K te ts σ H Q = te σ H fun x H1 => ts σ H1 fun y H2 => y = .int (-1) ∧ ∃ a xs, x = .ref a ∧ SqT K H2 a xs ∧ ∀ p, H2 p = none → Q (.ref p) (upd H2 p (.tup xs.reverse)) := rfl
def rNeE (K : PySem.W.Frag) : R2 := fun x y H Q => ∃ p q xs, x = .ref p ∧ y = .ref q ∧ SqL K H p xs ∧ SqL K H q [] ∧ Q (.bl (!decide (xs = []))) H
theorem op_neE (hu : X.A.units + 64 < cLine) : OpR X (compareOp .NotEq) (rNeE X.K) := by
  intro pins s σ H x y v u Q I rx ry ⟨p, q, xs, e1, e2, hp, hq, k⟩
  subst e1 e2
  cases rx
  cases ry
  obtain ⟨its, r1, p1⟩ := isL I hp
  obtain ⟨its2, r2, p2⟩ := isL I hq
  have l1 : its.toArray.size = xs.length := by rw [List.size_toArray]; exact r1.length.symm
  have l2 : its2.toArray.size = 0 := by rw [List.size_toArray]; exact r2.length.symm
  have key : SeqAt.RcNeAt X.A s (.ref p) (.ref q) (!decide (xs = [])) := by
    by_cases z : xs = []
    · subst z
      have l1' : its.toArray.size = 0 := l1
      have := SeqAt.RcNeAt.lists (A := X.A) (e := fun _ => true) p1 p2 (by omega) (by omega) (fun j h1 h2 => by omega)
      rw [l1'] at this
      exact this
    · rw [decide_eq_false z]
      exact SeqAt.RcNeAt.lists_lengths p1 p2 (by rw [l1, l2]; simp; exact z) (by omega)
  exact key X.prog X.w X.xe _ ⟨.bl _, H, I, rfl, k⟩
theorem opE_ne (K : PySem.W.Frag) (hu : X.A.units + 64 < cLine) (hK : X.K = K := by rfl) : OpR X (compareOp .NotEq) (rNeE K) := hK ▸ op_neE hu
theorem w_neE {K : PySem.W.Frag} {p q : Addr} {H : Hp} {Q : VK} : rNeE K (.ref p) (.ref q) H Q = ∃ xs, SqL K H p xs ∧ SqL K H q [] ∧ Q (.bl (!decide (xs = []))) H :=
  propext ⟨fun ⟨_, _, xs, e1, e2, h⟩ => by cases e1; cases e2; exact ⟨xs, h⟩, fun ⟨xs, h⟩ => ⟨p, q, xs, rfl, rfl, h⟩⟩
theorem mtR_pop : MtR X "list.pop" rPop := mt_pop
theorem w_pop {p : Addr} {H : Hp} {Q : VK} : rPop (.ref p) [] H Q = ∃ xs y, H p = some (.lst xs) ∧ xs[xs.length - 1]? = some y ∧ Q y (upd H p (.lst xs.dropLast)) :=
  propext ⟨fun ⟨_, xs, y, e1, _, h⟩ => by cases e1; exact ⟨xs, y, h⟩, fun ⟨xs, y, h⟩ => ⟨p, xs, y, rfl, rfl, h⟩⟩
end
end L2
set_option Elab.async false
set_option linter.all false
set_option maxRecDepth 100000
set_option maxHeartbeats 4000000
namespace K41
open PySem L2
def top (i : Nat) : Stmt := PySem.Challenge.pw_boxproof_k41_sides.main.body.getD i (.Pass ⟨0, 0, 0, 0⟩)
abbrev s_parts : Stmt := top 2
abbrev s_flat : Stmt := top 4
abbrev s_to_open : Stmt := top 5
abbrev s_is_flat : Stmt := top 6
abbrev s_count_to_open : Stmt := top 7
abbrev s_is_to_open : Stmt := top 8
abbrev s_is_to_use : Stmt := top 9
abbrev s_parts_and_sides : Stmt := top 10
abbrev s_whole_L : Stmt := top 12
abbrev s_cell_at_L : Stmt := top 13
abbrev s_mixed_L : Stmt := top 14
abbrev s_sign_L : Stmt := top 15
abbrev s_name_by_L : Stmt := top 16
abbrev s_letter_by_L : Stmt := top 17
abbrev s_term_by_L : Stmt := top 18
abbrev s_atom_by_L : Stmt := top 19
abbrev s_step_L : Stmt := top 20
abbrev s_pile_by_L : Stmt := top 21
abbrev s_free_L : Stmt := top 22
abbrev s_closed_L : Stmt := top 23
abbrev s_statement_by_L : Stmt := top 24
abbrev s_put_L : Stmt := top 25
abbrev s_open_by_L : Stmt := top 26
abbrev s_named_L : Stmt := top 27
abbrev s_schema_L : Stmt := top 28
abbrev s_wide_L : Stmt := top 29
abbrev s_question_L : Stmt := top 30
abbrev s_below_L : Stmt := top 31
abbrev s_due_L : Stmt := top 32
abbrev s_told_L : Stmt := top 33
abbrev s_law : Stmt := top 34
structure Defs where
  (a_parts : Addr) (d_parts : FuncData)
  (a_flat : Addr) (d_flat : FuncData)
  (a_to_open : Addr) (d_to_open : FuncData)
  (a_is_flat : Addr) (d_is_flat : FuncData)
  (a_count_to_open : Addr) (d_count_to_open : FuncData)
  (a_is_to_open : Addr) (d_is_to_open : FuncData)
  (a_is_to_use : Addr) (d_is_to_use : FuncData)
  (a_parts_and_sides : Addr) (d_parts_and_sides : FuncData)
  (a_whole_L : Addr) (d_whole_L : FuncData)
  (a_cell_at_L : Addr) (d_cell_at_L : FuncData)
  (a_mixed_L : Addr) (d_mixed_L : FuncData)
  (a_sign_L : Addr) (d_sign_L : FuncData)
  (a_name_by_L : Addr) (d_name_by_L : FuncData)
  (a_letter_by_L : Addr) (d_letter_by_L : FuncData)
  (a_term_by_L : Addr) (d_term_by_L : FuncData)
  (a_atom_by_L : Addr) (d_atom_by_L : FuncData)
  (a_step_L : Addr) (d_step_L : FuncData)
  (a_pile_by_L : Addr) (d_pile_by_L : FuncData)
  (a_free_L : Addr) (d_free_L : FuncData)
  (a_closed_L : Addr) (d_closed_L : FuncData)
  (a_statement_by_L : Addr) (d_statement_by_L : FuncData)
  (a_put_L : Addr) (d_put_L : FuncData)
  (a_open_by_L : Addr) (d_open_by_L : FuncData)
  (a_named_L : Addr) (d_named_L : FuncData)
  (a_schema_L : Addr) (d_schema_L : FuncData)
  (a_wide_L : Addr) (d_wide_L : FuncData)
  (a_question_L : Addr) (d_question_L : FuncData)
  (a_below_L : Addr) (d_below_L : FuncData)
  (a_due_L : Addr) (d_due_L : FuncData)
  (a_told_L : Addr) (d_told_L : FuncData)
  (a_law : Addr) (d_law : FuncData)
  (k_QUANTIFIERS : Addr)
structure Tx (K : PySem.W.Frag) (mg : Str → Option Value) (D : Defs) : Prop where
  F_parts : Fun K "parts" "parts" s_parts D.a_parts D.d_parts
  m_parts : mg "parts" = some (.ref D.a_parts)
  b_parts : Binds K D.d_parts ["A"] []
  F_flat : Fun K "flat" "flat" s_flat D.a_flat D.d_flat
  m_flat : mg "flat" = some (.ref D.a_flat)
  b_flat : Binds K D.d_flat ["givens", "goal"] []
  F_to_open : Fun K "to_open" "to_open" s_to_open D.a_to_open D.d_to_open
  m_to_open : mg "to_open" = some (.ref D.a_to_open)
  b_to_open : Binds K D.d_to_open ["givens", "goal"] []
  F_is_flat : Fun K "is_flat" "is_flat" s_is_flat D.a_is_flat D.d_is_flat
  m_is_flat : mg "is_flat" = some (.ref D.a_is_flat)
  b_is_flat : Binds K D.d_is_flat ["A", "told", "within_used"] []
  F_count_to_open : Fun K "count_to_open" "count_to_open" s_count_to_open D.a_count_to_open D.d_count_to_open
  m_count_to_open : mg "count_to_open" = some (.ref D.a_count_to_open)
  b_count_to_open : Binds K D.d_count_to_open ["A", "told"] []
  F_is_to_open : Fun K "is_to_open" "is_to_open" s_is_to_open D.a_is_to_open D.d_is_to_open
  m_is_to_open : mg "is_to_open" = some (.ref D.a_is_to_open)
  b_is_to_open : Binds K D.d_is_to_open ["A", "told"] []
  F_is_to_use : Fun K "is_to_use" "is_to_use" s_is_to_use D.a_is_to_use D.d_is_to_use
  m_is_to_use : mg "is_to_use" = some (.ref D.a_is_to_use)
  b_is_to_use : Binds K D.d_is_to_use ["A", "told"] []
  F_parts_and_sides : Fun K "parts_and_sides" "parts_and_sides" s_parts_and_sides D.a_parts_and_sides D.d_parts_and_sides
  m_parts_and_sides : mg "parts_and_sides" = some (.ref D.a_parts_and_sides)
  b_parts_and_sides : Binds K D.d_parts_and_sides ["A", "told"] []
  F_whole_L : Fun K "_law_whole" "_law_whole" s_whole_L D.a_whole_L D.d_whole_L
  m_whole_L : mg "_law_whole" = some (.ref D.a_whole_L)
  b_whole_L : Binds K D.d_whole_L ["_law_found"] []
  F_cell_at_L : Fun K "_law_cell_at" "_law_cell_at" s_cell_at_L D.a_cell_at_L D.d_cell_at_L
  m_cell_at_L : mg "_law_cell_at" = some (.ref D.a_cell_at_L)
  b_cell_at_L : Binds K D.d_cell_at_L ["_law_script", "_law_k"] []
  F_mixed_L : Fun K "_law_mixed" "_law_mixed" s_mixed_L D.a_mixed_L D.d_mixed_L
  m_mixed_L : mg "_law_mixed" = some (.ref D.a_mixed_L)
  b_mixed_L : Binds K D.d_mixed_L ["_law_script"] []
  F_sign_L : Fun K "_law_sign" "_law_sign" s_sign_L D.a_sign_L D.d_sign_L
  m_sign_L : mg "_law_sign" = some (.ref D.a_sign_L)
  b_sign_L : Binds K D.d_sign_L ["_law_cell"] []
  F_name_by_L : Fun K "_law_name_by" "_law_name_by" s_name_by_L D.a_name_by_L D.d_name_by_L
  m_name_by_L : mg "_law_name_by" = some (.ref D.a_name_by_L)
  b_name_by_L : Binds K D.d_name_by_L ["_law_shape", "_law_k"] []
  F_letter_by_L : Fun K "_law_letter_by" "_law_letter_by" s_letter_by_L D.a_letter_by_L D.d_letter_by_L
  m_letter_by_L : mg "_law_letter_by" = some (.ref D.a_letter_by_L)
  b_letter_by_L : Binds K D.d_letter_by_L ["_law_shape", "_law_k"] []
  F_term_by_L : Fun K "_law_term_by" "_law_term_by" s_term_by_L D.a_term_by_L D.d_term_by_L
  m_term_by_L : mg "_law_term_by" = some (.ref D.a_term_by_L)
  b_term_by_L : Binds K D.d_term_by_L ["_law_shape", "_law_cell"] []
  F_atom_by_L : Fun K "_law_atom_by" "_law_atom_by" s_atom_by_L D.a_atom_by_L D.d_atom_by_L
  m_atom_by_L : mg "_law_atom_by" = some (.ref D.a_atom_by_L)
  b_atom_by_L : Binds K D.d_atom_by_L ["_law_shape", "_law_cell"] []
  F_step_L : Fun K "_law_step" "_law_step" s_step_L D.a_step_L D.d_step_L
  m_step_L : mg "_law_step" = some (.ref D.a_step_L)
  b_step_L : Binds K D.d_step_L ["_law_pile", "_law_shape", "_law_cell"] []
  F_pile_by_L : Fun K "_law_pile_by" "_law_pile_by" s_pile_by_L D.a_pile_by_L D.d_pile_by_L
  m_pile_by_L : mg "_law_pile_by" = some (.ref D.a_pile_by_L)
  b_pile_by_L : Binds K D.d_pile_by_L ["_law_shape", "_law_cells"] []
  F_free_L : Fun K "_law_free" "_law_free" s_free_L D.a_free_L D.d_free_L
  m_free_L : mg "_law_free" = some (.ref D.a_free_L)
  b_free_L : Binds K D.d_free_L ["_law_ka"] []
  F_closed_L : Fun K "_law_closed" "_law_closed" s_closed_L D.a_closed_L D.d_closed_L
  m_closed_L : mg "_law_closed" = some (.ref D.a_closed_L)
  b_closed_L : Binds K D.d_closed_L ["_law_ka", "_law_cell"] []
  F_statement_by_L : Fun K "_law_statement_by" "_law_statement_by" s_statement_by_L D.a_statement_by_L D.d_statement_by_L
  m_statement_by_L : mg "_law_statement_by" = some (.ref D.a_statement_by_L)
  b_statement_by_L : Binds K D.d_statement_by_L ["_law_shape", "_law_cells"] []
  F_put_L : Fun K "_law_put" "_law_put" s_put_L D.a_put_L D.d_put_L
  m_put_L : mg "_law_put" = some (.ref D.a_put_L)
  b_put_L : Binds K D.d_put_L ["_law_ka", "_law_letter", "_law_name"] []
  F_open_by_L : Fun K "_law_open_by" "_law_open_by" s_open_by_L D.a_open_by_L D.d_open_by_L
  m_open_by_L : mg "_law_open_by" = some (.ref D.a_open_by_L)
  b_open_by_L : Binds K D.d_open_by_L ["_law_shape", "_law_cells", "_law_kx"] []
  F_named_L : Fun K "_law_named" "_law_named" s_named_L D.a_named_L D.d_named_L
  m_named_L : mg "_law_named" = some (.ref D.a_named_L)
  b_named_L : Binds K D.d_named_L ["_law_ka", "_law_name"] []
  F_schema_L : Fun K "_law_schema" "_law_schema" s_schema_L D.a_schema_L D.d_schema_L
  m_schema_L : mg "_law_schema" = some (.ref D.a_schema_L)
  b_schema_L : Binds K D.d_schema_L ["_law_way", "_law_ka", "_law_kb", "_law_kx"] []
  F_wide_L : Fun K "_law_wide" "_law_wide" s_wide_L D.a_wide_L D.d_wide_L
  m_wide_L : mg "_law_wide" = some (.ref D.a_wide_L)
  b_wide_L : Binds K D.d_wide_L ["_law_shape", "_law_way"] []
  F_question_L : Fun K "_law_question" "_law_question" s_question_L D.a_question_L D.d_question_L
  m_question_L : mg "_law_question" = some (.ref D.a_question_L)
  b_question_L : Binds K D.d_question_L ["_law_script"] []
  F_below_L : Fun K "_law_below" "_law_below" s_below_L D.a_below_L D.d_below_L
  m_below_L : mg "_law_below" = some (.ref D.a_below_L)
  b_below_L : Binds K D.d_below_L ["_law_ka", "_law_side", "_law_used"] []
  F_due_L : Fun K "_law_due" "_law_due" s_due_L D.a_due_L D.d_due_L
  m_due_L : mg "_law_due" = some (.ref D.a_due_L)
  b_due_L : Binds K D.d_due_L ["_law_givens", "_law_goal"] []
  F_told_L : Fun K "_law_told" "_law_told" s_told_L D.a_told_L D.d_told_L
  m_told_L : mg "_law_told" = some (.ref D.a_told_L)
  b_told_L : Binds K D.d_told_L ["_law_givens", "_law_goal", "_law_due_here"] []
  F_law : Fun K "law" "law" s_law D.a_law D.d_law
  m_law : mg "law" = some (.ref D.a_law)
  b_law : Binds K D.d_law ["_law_script"] []
  c_QUANTIFIERS : mg "QUANTIFIERS" = some (.ref D.k_QUANTIFIERS)
  q_QUANTIFIERS : ∀ H, SqT K H D.k_QUANTIFIERS [V.str "all", V.str "some"]
  z_all : mg "all" = none
  z_bool : mg "bool" = none
  z_int : mg "int" = none
  z_isinstance : mg "isinstance" = none
  z_len : mg "len" = none
  z_range : mg "range" = none
  z_str : mg "str" = none
  z_sum : mg "sum" = none
  z_tuple : mg "tuple" = none
theorem Tx.g_QUANTIFIERS {K : PySem.W.Frag} {mg : Str → Option Value} {D : Defs} (T : Tx K mg D) {X : Cx} {pos : Pos} (h : Gl X "QUANTIFIERS") (hm : X.mg = mg := by rfl) : PE X (.Name "QUANTIFIERS" pos) (tC (.ref D.k_QUANTIFIERS)) := pe_glob h (hm ▸ T.c_QUANTIFIERS) rfl
theorem sc_parts : FnScope ["A"] ["A"] (defScope s_parts) := ⟨rfl, rfl, rfl, by decide +kernel, rfl, by decide +kernel, by decide +kernel⟩
theorem sc_flat : FnScope ["givens", "goal"] ["givens", "goal"] (defScope s_flat) := ⟨rfl, rfl, rfl, by decide +kernel, rfl, by decide +kernel, by decide +kernel⟩
theorem sc_to_open : FnScope ["givens", "goal"] ["givens", "goal"] (defScope s_to_open) := ⟨rfl, rfl, rfl, by decide +kernel, rfl, by decide +kernel, by decide +kernel⟩
theorem sc_is_flat : FnScope ["A", "told", "within_used", "within"] ["A", "told", "within_used"] (defScope s_is_flat) := ⟨rfl, rfl, rfl, by decide +kernel, rfl, by decide +kernel, by decide +kernel⟩
theorem sc_count_to_open : FnScope ["A", "told", "own"] ["A", "told"] (defScope s_count_to_open) := ⟨rfl, rfl, rfl, by decide +kernel, rfl, by decide +kernel, by decide +kernel⟩
theorem sc_is_to_open : FnScope ["A", "told"] ["A", "told"] (defScope s_is_to_open) := ⟨rfl, rfl, rfl, by decide +kernel, rfl, by decide +kernel, by decide +kernel⟩
theorem sc_is_to_use : FnScope ["A", "told"] ["A", "told"] (defScope s_is_to_use) := ⟨rfl, rfl, rfl, by decide +kernel, rfl, by decide +kernel, by decide +kernel⟩
theorem sc_parts_and_sides : FnScope ["A", "told"] ["A", "told"] (defScope s_parts_and_sides) := ⟨rfl, rfl, rfl, by decide +kernel, rfl, by decide +kernel, by decide +kernel⟩
theorem sc_whole_L : FnScope ["_law_found"] ["_law_found"] (defScope s_whole_L) := ⟨rfl, rfl, rfl, by decide +kernel, rfl, by decide +kernel, by decide +kernel⟩
theorem sc_cell_at_L : FnScope ["_law_script", "_law_k"] ["_law_script", "_law_k"] (defScope s_cell_at_L) := ⟨rfl, rfl, rfl, by decide +kernel, rfl, by decide +kernel, by decide +kernel⟩
theorem sc_mixed_L : FnScope ["_law_script", "_law_found", "_law_more", "_law_cell"] ["_law_script"] (defScope s_mixed_L) := ⟨rfl, rfl, rfl, by decide +kernel, rfl, by decide +kernel, by decide +kernel⟩
theorem sc_sign_L : FnScope ["_law_cell"] ["_law_cell"] (defScope s_sign_L) := ⟨rfl, rfl, rfl, by decide +kernel, rfl, by decide +kernel, by decide +kernel⟩
theorem sc_name_by_L : FnScope ["_law_shape", "_law_k", "_law_place", "_law_name", "_law_turn"] ["_law_shape", "_law_k"] (defScope s_name_by_L) := ⟨rfl, rfl, rfl, by decide +kernel, rfl, by decide +kernel, by decide +kernel⟩
theorem sc_letter_by_L : FnScope ["_law_shape", "_law_k"] ["_law_shape", "_law_k"] (defScope s_letter_by_L) := ⟨rfl, rfl, rfl, by decide +kernel, rfl, by decide +kernel, by decide +kernel⟩
theorem sc_term_by_L : FnScope ["_law_shape", "_law_cell"] ["_law_shape", "_law_cell"] (defScope s_term_by_L) := ⟨rfl, rfl, rfl, by decide +kernel, rfl, by decide +kernel, by decide +kernel⟩
theorem sc_atom_by_L : FnScope ["_law_shape", "_law_cell", "_law_many", "_law_word", "_law_more"] ["_law_shape", "_law_cell"] (defScope s_atom_by_L) := ⟨rfl, rfl, rfl, by decide +kernel, rfl, by decide +kernel, by decide +kernel⟩
theorem sc_step_L : FnScope ["_law_pile", "_law_shape", "_law_cell", "_law_kind", "_law_more"] ["_law_pile", "_law_shape", "_law_cell"] (defScope s_step_L) := ⟨rfl, rfl, rfl, by decide +kernel, rfl, by decide +kernel, by decide +kernel⟩
theorem sc_pile_by_L : FnScope ["_law_shape", "_law_cells", "_law_pile", "_law_cell"] ["_law_shape", "_law_cells"] (defScope s_pile_by_L) := ⟨rfl, rfl, rfl, by decide +kernel, rfl, by decide +kernel, by decide +kernel⟩
theorem sc_free_L : FnScope ["_law_ka", "_law_found", "_law_part"] ["_law_ka"] (defScope s_free_L) := ⟨rfl, rfl, rfl, by decide +kernel, rfl, by decide +kernel, by decide +kernel⟩
theorem sc_closed_L : FnScope ["_law_ka", "_law_cell", "_law_free_here"] ["_law_ka", "_law_cell"] (defScope s_closed_L) := ⟨rfl, rfl, rfl, by decide +kernel, rfl, by decide +kernel, by decide +kernel⟩
theorem sc_statement_by_L : FnScope ["_law_shape", "_law_cells", "_law_pile", "_law_ka", "_law_k"] ["_law_shape", "_law_cells"] (defScope s_statement_by_L) := ⟨rfl, rfl, rfl, by decide +kernel, rfl, by decide +kernel, by decide +kernel⟩
theorem sc_put_L : FnScope ["_law_ka", "_law_letter", "_law_name"] ["_law_ka", "_law_letter", "_law_name"] (defScope s_put_L) := ⟨rfl, rfl, rfl, by decide +kernel, rfl, by decide +kernel, by decide +kernel⟩
theorem sc_open_by_L : FnScope ["_law_shape", "_law_cells", "_law_kx", "_law_ka", "_law_kb", "_law_letter"] ["_law_shape", "_law_cells", "_law_kx"] (defScope s_open_by_L) := ⟨rfl, rfl, rfl, by decide +kernel, rfl, by decide +kernel, by decide +kernel⟩
theorem sc_named_L : FnScope ["_law_ka", "_law_name", "_law_letter"] ["_law_ka", "_law_name"] (defScope s_named_L) := ⟨rfl, rfl, rfl, by decide +kernel, rfl, by decide +kernel, by decide +kernel⟩
theorem sc_schema_L : FnScope ["_law_way", "_law_ka", "_law_kb", "_law_kx", "_law_some"] ["_law_way", "_law_ka", "_law_kb", "_law_kx"] (defScope s_schema_L) := ⟨rfl, rfl, rfl, by decide +kernel, rfl, by decide +kernel, by decide +kernel⟩
theorem sc_wide_L : FnScope ["_law_shape", "_law_way", "_law_many", "_law_kp", "_law_names", "_law_facts", "_law_rows", "_law_some"] ["_law_shape", "_law_way"] (defScope s_wide_L) := ⟨rfl, rfl, rfl, by decide +kernel, rfl, by decide +kernel, by decide +kernel⟩
theorem sc_question_L : FnScope ["_law_script", "_law_shape", "_law_way", "_law_cells", "_law_rows", "_law_kx", "_law_schema_here", "_law_name"] ["_law_script"] (defScope s_question_L) := ⟨rfl, rfl, rfl, by decide +kernel, rfl, by decide +kernel, by decide +kernel⟩
theorem sc_below_L : FnScope ["_law_ka", "_law_side", "_law_used"] ["_law_ka", "_law_side", "_law_used"] (defScope s_below_L) := ⟨rfl, rfl, rfl, by decide +kernel, rfl, by decide +kernel, by decide +kernel⟩
theorem sc_due_L : FnScope ["_law_givens", "_law_goal", "_law_pile", "_law_many", "_law_good", "_law_ka", "_law_side", "_law_used"] ["_law_givens", "_law_goal"] (defScope s_due_L) := ⟨rfl, rfl, rfl, by decide +kernel, rfl, by decide +kernel, by decide +kernel⟩
theorem sc_told_L : FnScope ["_law_givens", "_law_goal", "_law_due_here", "_law_many", "_law_found"] ["_law_givens", "_law_goal", "_law_due_here"] (defScope s_told_L) := ⟨rfl, rfl, rfl, by decide +kernel, rfl, by decide +kernel, by decide +kernel⟩
theorem sc_law : FnScope ["_law_script", "_law_givens", "_law_goal", "_law_k", "_law_way", "_law_due_here"] ["_law_script"] (defScope s_law) := ⟨rfl, rfl, rfl, by decide +kernel, rfl, by decide +kernel, by decide +kernel⟩
end K41
set_option Elab.async false
set_option linter.all false
set_option maxRecDepth 100000
set_option maxHeartbeats 4000000
namespace K41
open PySem L2
seal PE PS PSs PA PT PW PG PI PO PIf OpR UnR CallR IxR SlR MtR MtM PSet PJ PH PM PMp PE1 PA1 PS1 PSs1 PAb PSb PEb
local macro_rules | `(tactic| walk_at "bpW") => `(tactic| simp only [↓w_v0, ↓w_v1, ↓w_v2, ↓w_v3, ↓w_v4, ↓w_v5, ↓w_v6, ↓w_v7, ↓w_v8, ↓w_v9, ↓w_v10, ↓w_v11, ↓w_c, ↓w_seq, ↓w_ifS, ↓w_next, ↓w_ret, ↓w_retN, ↓w_drop, ↓w_asg, ↓w_gName, ↓w_op, ↓w_un, ↓w_test, ↓w_B, ↓w_bl, ↓w_and, ↓w_or, ↓w_not, ↓w_andV, ↓w_orV, ↓w_notV, ↓w_if, ↓w_true, ↓w_nil, ↓w_cons, ↓w_tup, ↓w_lst, ↓w_call, ↓w_CB, ↓w_BM, ↓w_ty_str, ↓w_ty_list, ↓w_sl, ↓w_noPart, ↓w_part, ↓w_int, ↓w_rI0, ↓w_rI, ↓w_addI, ↓w_addS, ↓w_mulI, ↓w_eqI, ↓w_eqS, ↓w_eqR, ↓w_neI, ↓w_neS, ↓w_ltI, ↓w_inS, ↓w_notinS, ↓w_inR, ↓w_notinR, ↓w_ixS, ↓w_ixR, ↓w_lenS, ↓w_lenR, ↓w_slS, ↓w_all, ↓w_join, ↓w_intB, ↓w_intI, ↓w_itS, ↓w_itR, ↓w_iAny, ↓w_rng1, ↓w_rngI, ↓w_ints2, ↓w_tupleOf, ↓w_listOf, ↓w_append, ↓w_extend, ↓w_setL, ↓w_gSub, ↓w_instInt, ↓w_instStr, ↓w_slR, ↓w_catR, ↓w_joinA, ↓w_eqIB, ↓w_eqSB, ↓w_eqR_, ↓w_eq_R, ↓w_instIntB, ↓w_instStrB, ↓w_instRB, ↓tFor_eq, ↓tComp_eq, ↓List.set_cons_zero, ↓List.set_cons_succ, ↓List.nil_append, ↓List.cons_append, ↓List.append_nil, ↓reduceIte, Bool.false_eq_true, decide_eq_true_eq, Bool.not_eq_true', decide_eq_false_iff_not, ↓w_callX, ↓w_try, ↓w_msg, ↓w_m0, ↓w_mc, ↓w_mr, ↓w_mv, ↓w_fs, ↓w_jn, ↓w_jc, ↓w_exStr, ↓w_fr, ↓w_fv, ↓w_orStr, ↓w_orInt, ↓w_eqIC, ↓w_eqSC, ↓w_eqRC, ↓w_eqCR, ↓w_neIC, ↓w_neSC, ↓w_neRC, ↓w_neCR, ↓w_inCS, ↓w_notinCS, ↓w_inCR, ↓w_is, ↓w_is2, ↓w_strip, ↓w_split, ↓w_mulS, ↓w_BM0, ↓w_fld, ↓w_sfld, ↓w_meth, ↓w_methX, ↓w_make, ↓w_any, ↓w_sum, ↓w_chain, ↓w_aug, ↓w_ipI, ↓w_gTup, ↓w_gCons, ↓w_gNil, ↓w_slSB, ↓w_slRB, ↓w_addIB, ↓w_addSB, ↓w_catRB, ↓w_instBlB, ↓w_eqBlB, ↓w_neBl, ↓w_eqBlC, ↓w_neBlC, ↓w_break, ↓w_cont, ↓w_rng2, ↓w_isN, ↓w_notN, ↓w_while, ↓w_ltS, ↓w_enum, ↓w_count, ↓w_zip, ↓w_gTup, ↓w_dnew, ↓w_callV, ↓w_inTab, ↓w_ixTab, ↓w_LR, ↓w_mulR, ↓w_rv, ↓w_neE, ↓w_pop])
local macro_rules | `(tactic| walk_at "S") => `(tactic| simp only [L2.start, List.map_cons, List.map_nil, List.length_cons, List.length_nil, Nat.reduceAdd, Nat.reduceSub, List.replicate_succ, List.replicate_zero, List.cons_append, List.nil_append, List.append_nil, Nat.zero_add, Nat.sub_self])
local macro_rules | `(tactic| walk_at "o") => `(tactic| first | exact Or.inl (by rfl) | exact Or.inr (by rfl))
local macro_rules | `(tactic| walk_at "") => `(tactic| walk_at "bpW")
section
variable {P : Program} {w : World} {K : PySem.W.Frag} {mg : Str → Option Value} {base0 : Heap} {D : Defs}
theorem ok_cell_at_L (T : Tx K mg D) : FnOk P w K mg base0 CX0 1 D.a_cell_at_L D.d_cell_at_L ["_law_script", "_law_k"] (spCell K) := by
  refine T.F_cell_at_L.ok sc_cell_at_L (fun vs H Q E h => ?_) (fun cdv A outer s H vs Q E hr h => ?_)
  · obtain ⟨a, ns, n, rfl, _⟩ := h; rfl
  obtain ⟨a, ns, n, rfl, hS, h0, k⟩ := h
  have hu := hr.units
  refine ⟨_, (pss_cons (ps_if (pt_cmpR opA_lt (pv 1) (pe_callB (callA_len K) (by rfl) T.z_len PySem.boot_len (pa_cons (pv 0) pa_nil)) (nomark _)) (pss_one (ps_ret (pe_ix (ixA K) (pv 0) (pv 1) (fun _ _ => rfl)))) pss_nil)
    (pss_one (ps_ret pe_int))), ?_⟩
  walk_at "S"
  walk_at ""
  refine ⟨_, .inl hS, ?_⟩
  unfold cellI at k
  rw [List.length_map]
  refine ite2 (fun c => ?_) fun c => ?_
  · rw [if_pos c] at k
    exact ⟨_, .inl hS, _, atI_ints h0 c, k⟩
  · rw [if_neg c] at k; exact k
theorem ok_whole_L (T : Tx K mg D) : FnOk P w K mg base0 CX0 1 D.a_whole_L D.d_whole_L ["_law_found"] (fun vs H Q _ => ∃ i, vs = [.int i] ∧ Q (.bl true) H) := by
  refine T.F_whole_L.ok sc_whole_L (fun vs H Q E h => ?_) (fun cdv A outer s H vs Q E hr h => ?_)
  · obtain ⟨i, rfl, _⟩ := h; rfl
  obtain ⟨i, rfl, k⟩ := h
  have hu := hr.units
  refine ⟨_, (pss_one (ps_ret (pe_and (pe_callB (callB_inst K "int") (by rfl) T.z_isinstance (by rfl) (pa_cons (pv 0) (pa_cons (pe_bltn (v := .ty "int") (by rfl) T.z_int (by rfl) (by rfl)) pa_nil))) (pe_one (pe_not (pe_callB (callB_inst K "bool") (by rfl) T.z_isinstance (by rfl) (pa_cons (pv 0) (pa_cons (pe_bltn (v := .ty "bool") (by rfl) T.z_bool (by rfl) (by rfl)) pa_nil)))))))), ?_⟩
  walk_at "S"
  walk_at ""
  refine ⟨true, rfl, ?_⟩
  rw [if_pos rfl]
  exact ⟨false, rfl, k⟩
theorem ok_mixed_L (T : Tx K mg D) : FnOk P w K mg base0 CX0 1 D.a_mixed_L D.d_mixed_L ["_law_script"] (spMixL K) := by
  refine T.F_mixed_L.ok sc_mixed_L (fun vs H Q E h => ?_) (fun cdv A outer s H vs Q E hr h => ?_)
  · obtain ⟨a, ns, rfl, _⟩ := h; rfl
  obtain ⟨a, ns, rfl, hA, hl, k⟩ := h
  have hu := hr.units
  refine ⟨_, (pss_cons (ps_set (i := 1) sc_mixed_L.nd (by rfl) (by walk_at "o") (pe_lst pa_nil))
    (pss_cons (ps_set (i := 2) sc_mixed_L.nd (by rfl) (by walk_at "o") pe_int)
    (pss_cons (ps_for PassesOwn.never (by rfl) (pi_any K (pv 0)) (pg_name (i := 3) sc_mixed_L.nd (by rfl) (by walk_at "o"))
      (pss_cons (ps_set (i := 2) sc_mixed_L.nd (by rfl) (by walk_at "o") (pe_op op_modP (pe_op (opB_add K) (pe_op (opB_add K) (pe_op opA_mul (pv 2) pe_int) (pv 3)) pe_int) pe_int))
    (pss_one (ps_expr (pe_bmA K PySem.F.plainAttrs_list PySem.F.slot_list_append PySem.F.type_list_append mtR_append (pv 1) (pa_cons (pv 2) pa_nil))))))
    (pss_one (ps_ret (pv 1)))))), ?_⟩
  walk_at "S"
  walk_at ""
  refine ⟨Nat.zero_le _, fun p hp => .inl ⟨⟨_, ((Same.refl H).upd hp : Same H (upd H p (.lst []))).seq hA⟩, ?_⟩⟩
  have sp : Same H (upd H p (.lst [])) := (Same.refl H).upd hp
  refine forW_list (xs := ns.map V.int) (fun i σ H2 => Same H H2 ∧ ∃ (ms : List Int) (m : Int) (u : Option V), σ = [some (.ref a), some (.ref p), some (.int m), u] ∧ H2 p = some (.lst (ms.map V.int)) ∧ ms.length = i ∧ ∀ x ∈ ms, 0 ≤ x) ⟨sp, [], 7, _, rfl, upd_same, rfl, by simp⟩ (fun i σ H2 _ hv => hv.1.seq hA) (fun i x σ H2 hx hv => ?_) fun σ H2 hv => ?_
  · obtain ⟨s2, ms, m, u, rfl, hp2, hlen, hms⟩ := hv
    rw [List.getElem?_map] at hx
    cases e : ns[i]? with
    | none => rw [e] at hx; cases hx
    | some y =>
      rw [e] at hx
      cases hx
      have hi : i < ns.length := (List.getElem?_eq_some_iff.mp e).1
      walk_at ""
      refine ⟨cmulR, by decide, ⟨_, SqL.of hp2⟩, _, hp2, sz1000' (by rw [List.length_map]; omega), s2.upd hp, ms ++ [(m * 48271 + y + 1) % 2147483647], _, _, rfl, by rw [upd_same, List.map_append]; rfl, by rw [List.length_append, hlen]; rfl, fun z hz => ?_⟩
      rcases List.mem_append.mp hz with q | q
      · exact hms z q
      · rw [List.mem_singleton.mp q]; exact Int.emod_nonneg _ (by decide)
  · obtain ⟨s2, ms, m, u, rfl, hp2, hlen, hms⟩ := hv
    walk_at ""
    exact k p ms H2 s2 hp2 (by rw [hlen, List.length_map]) hms
theorem ok_sign_L (T : Tx K mg D) : FnOk P w K mg base0 CX0 1 D.a_sign_L D.d_sign_L ["_law_cell"] spSign := by
  refine T.F_sign_L.ok sc_sign_L (fun vs H Q E h => ?_) (fun cdv A outer s H vs Q E hr h => ?_)
  · obtain ⟨c, rfl, _⟩ := h; rfl
  obtain ⟨c, rfl, k⟩ := h
  have hu := hr.units
  refine ⟨_, (pss_one (ps_ret (pe_ix (ixA K) pe_str (pe_op op_modP (pv 0) pe_int) (fun _ _ => rfl)))), ?_⟩
  walk_at "S"
  walk_at ""
  obtain ⟨z, ez, _⟩ := pickC (x := "bcdfghjklmpqrsvwxyz") (i := c) (P := fun _ => True) (by decide +kernel) (fun _ _ => trivial)
  exact ⟨by decide, sz1000 (by decide +kernel), z, ez, k _ rfl⟩
theorem ok_letter_by_L (T : Tx K mg D) : FnOk P w K mg base0 CX0 1 D.a_letter_by_L D.d_letter_by_L ["_law_shape", "_law_k"] spLt2 := by
  refine T.F_letter_by_L.ok sc_letter_by_L (fun vs H Q E h => ?_) (fun cdv A outer s H vs Q E hr h => ?_)
  · obtain ⟨sh, j, rfl, _⟩ := h; rfl
  obtain ⟨sh, j, rfl, h0, j0, j1, k⟩ := h
  have hu := hr.units
  refine ⟨_, (pss_cons (ps_if (pt_cmpR (opB_eq K hu) (pe_op op_modP (pv 0) pe_int) pe_int (nomark _)) (pss_one (ps_ret (pe_op (opB_add K) (pe_ix (ixA K) pe_str (pv 1) (fun _ _ => rfl)) (pe_slice (slB K) pe_str po_none (po_some (pe_op op_modP (pe_op op_fdivP (pv 0) pe_int) pe_int)))))) pss_nil)
    (pss_one (ps_ret (pe_op (opB_add K) (pe_op (opB_add K) pe_str (pe_slice (slB K) pe_str po_none (po_some (pe_op op_modP (pe_op op_fdivP (pv 0) pe_int) pe_int)))) (pe_ix (ixA K) pe_str (pv 1) (fun _ _ => rfl)))))), ?_⟩
  walk_at "S"
  walk_at ""
  have h1 : ∀ c : Nat, (⟨#[c]⟩ : Str).length = 1 := fun c => rfl
  have ha : ∀ x y : Str, (x ++ y).length = x.length + y.length := fun x y => by rw [← len_cps, cps_append', List.length_append, len_cps, len_cps]
  have hz : ∀ (r : Str) lo hi, (Txt.slice r lo hi).length ≤ r.length := fun r lo hi => by
    rw [← len_cps, slice_cps]
    have h1 := List.length_take_le' (HT.sIx r.length r.length hi - HT.sIx r.length 0 lo) (r.cps.toList.drop (HT.sIx r.length 0 lo))
    rw [List.length_drop, len_cps] at h1
    omega
  obtain ⟨jn, hj⟩ : ∃ jn : Nat, j = jn := ⟨j.toNat, by omega⟩
  have pk : ∀ x : Str, x.length = 3 → ∃ c, atI x.cps.toList j = some c := fun x hx => by
    have hl : jn < x.cps.toList.length := by rw [len_cps]; omega
    exact ⟨_, by rw [hj]; exact atI_nat (List.getElem?_eq_getElem hl)⟩
  have l1 : (Str.ofString "1b").length = 2 := by decide +kernel
  have l2 : (Str.ofString "b0c").length = 3 := by decide +kernel
  have l3 : (Str.ofString "X").length = 1 := by decide +kernel
  have z1 := hz "1b" none (some (sh / 2 % 3))
  have z2 := hz "b0c" none (some (sh / 2 % 4))
  obtain ⟨c1, e1⟩ := pk "XYZ" (by decide +kernel)
  obtain ⟨c2, e2⟩ := pk "pq7" (by decide +kernel)
  refine ⟨by decide, ite2 (fun _ => ⟨sz1000 (by decide +kernel), c1, e1, cdiv, by decide, sz1000 (by decide +kernel), sz1000 ?_, k _ ⟨?_, ?_⟩⟩) fun _ => ⟨cdiv, by decide, sz1000 (by decide +kernel), sz1000 ?_, sz1000 (by decide +kernel), c2, e2, sz1000 ?_, k _ ⟨?_, ?_⟩⟩⟩
  all_goals ((try simp only [ha, h1]); omega)
end
section
variable {P : Program} {w : World} {K : PySem.W.Frag} {mg : Str → Option Value} {base0 : Heap} {D : Defs}
theorem ok_name_by_L (T : Tx K mg D) : FnOk P w K mg base0 CX0 2 D.a_name_by_L D.d_name_by_L ["_law_shape", "_law_k"] spNm2 := by
  have G_sign_L := ok_sign_L (P := P) (w := w) (base0 := base0) T
  refine T.F_name_by_L.ok sc_name_by_L (fun vs H Q E h => ?_) (fun cdv A outer s H vs Q E hr h => ?_)
  · obtain ⟨sh, j, rfl, _⟩ := h; rfl
  obtain ⟨sh, j, rfl, h0, j0, j1, k⟩ := h
  have hu := hr.units
  have hr_sign_L : Room 1 _ := hr.mono (by decide)
  refine ⟨_, (pss_cons (ps_if (pt_cmpR (opB_eq K hu) (pe_op op_modP (pv 0) pe_int) pe_int (nomark _)) (pss_one (ps_ret (pe_ix (ixA K) (pe_lst (pa_cons pe_str (pa_cons pe_str (pa_cons pe_str (pa_cons pe_str (pa_cons pe_str pa_nil)))))) (pv 1) (fun _ _ => rfl)))) pss_nil)
    (pss_cons (ps_set (i := 2) sc_name_by_L.nd (by rfl) (by walk_at "o") (pe_op op_modP (pe_op op_fdivP (pv 0) pe_int) pe_int))
    (pss_cons (ps_set (i := 3) sc_name_by_L.nd (by rfl) (by walk_at "o") pe_str)
    (pss_cons (ps_for PassesOwn.never (by rfl) (pi_range1 (by rfl) T.z_range (pa_cons (pe_op (opB_add K) (pe_op (opB_add K) (pv 2) pe_int) (pe_op op_modP (pe_op op_fdivP (pv 0) pe_int) (pe_op op_sub pe_int (pv 2)))) pa_nil)) (pg_name (i := 4) sc_name_by_L.nd (by rfl) (by walk_at "o"))
      (pss_one (ps_if (pt_cmpR (opB_eq K hu) (pv 4) (pv 2) (nomark _)) (pss_one (ps_set (i := 3) sc_name_by_L.nd (by rfl) (by walk_at "o") (pe_op (opB_add K) (pv 3) (pe_ix (ixA K) pe_str (pv 1) (fun _ _ => rfl))))) (pss_one (ps_if (pt_cmpR (opB_eq K hu) (pv 4) pe_int (nomark _)) (pss_one (ps_set (i := 3) sc_name_by_L.nd (by rfl) (by walk_at "o") (pe_op (opB_add K) (pv 3) (pe_call G_sign_L hr_sign_L (by rfl) T.m_sign_L T.F_sign_L.kp T.b_sign_L .nil pass0 (pa_cons (pe_op op_fdivP (pv 0) pe_int) pa_nil))))) (pss_one (ps_set (i := 3) sc_name_by_L.nd (by rfl) (by walk_at "o") (pe_op (opB_add K) (pv 3) (pe_ix (ixA K) pe_str (pe_op op_modP (pe_op (opB_add K) (pe_op op_fdivP (pv 0) pe_int) (pv 4)) pe_int) (fun _ _ => rfl))))))))))
    (pss_one (ps_ret (pv 3))))))), ?_⟩
  walk_at "S"
  walk_at ""
  have ha : ∀ x y : Str, (x ++ y).length = x.length + y.length := fun x y => by rw [← len_cps, cps_append', List.length_append, len_cps, len_cps]
  have h1 : ∀ c : Nat, (⟨#[c]⟩ : Str).length = 1 := fun c => rfl
  refine ⟨by decide, ite2 (fun _ => ⟨sz1000 (by decide), fun p hp => ?_⟩) fun _ => ?_⟩
  · obtain ⟨z, hz, ez⟩ := pickS (ts := ["c0", "c1", "b", "c2", "c10"]) (i := j) j0 (by show j < ((5 : Nat) : Int); omega)
    refine ⟨_, .inl (SqL.of upd_same), _, ez, k z _ (same_new hp _) ?_⟩
    have : ∀ z ∈ (["c0", "c1", "b", "c2", "c10"] : List Str), 1 ≤ z.length ∧ z.length ≤ 16 := by decide +kernel
    exact this z hz
  · have p0 := Int.emod_nonneg (sh / 3) (show (6 : Int) ≠ 0 by decide)
    have p1 := Int.emod_lt_of_pos (sh / 3) (show (0 : Int) < 6 by decide)
    generalize sh / 3 % 6 = pl at p0 p1
    have r0 := Int.emod_nonneg (sh / 18) (show 8 - pl ≠ 0 by omega)
    have r1 := Int.emod_lt_of_pos (sh / 18) (show 0 < 8 - pl by omega)
    generalize sh / 18 % (8 - pl) = rr at r0 r1
    refine ⟨cdiv, by decide, cdiv, by omega, by omega, by omega, ?_⟩
    refine forW_range (fun i σ H2 => H2 = H ∧ ∃ (x : Str) (u : Option V), σ = [some (.int sh), some (.int j), some (.int pl), some (.str x), u] ∧ x.length = i) ⟨rfl, Str.ofString "", _, rfl, by decide +kernel⟩ (fun i σ H2 hi hv => ?_) fun σ H2 hv => ?_
    · obtain ⟨rfl, x, u, rfl, hx⟩ := hv
      walk_at ""
      obtain ⟨jn, hj⟩ : ∃ jn : Nat, j = jn := ⟨j.toNat, by omega⟩
      have hl : jn < (Str.ofString "bcdfg").cps.toList.length := by
        have : (Str.ofString "bcdfg").cps.toList.length = 5 := by decide +kernel
        omega
      obtain ⟨z, ez, _⟩ := pickC (x := "bdgk0123456789") (i := sh / 144 + (0 + (i : Int))) (P := fun _ => True) (by decide +kernel) (fun _ _ => trivial)
      refine ite2 (fun _ => ⟨sz1000 (by decide +kernel), _, by rw [hj]; exact atI_nat (List.getElem?_eq_getElem hl), sz1000 (by rw [h1]; omega), trivial, _, _, rfl, by rw [ha, h1]; omega⟩) fun _ => ite2 (fun _ => ⟨cdiv, _, rfl, fun z hz => by show rAddB K (V.str x) (V.str z) _ _; rw [w_addSB]; exact ⟨sz1000 (by omega), rfl, _, _, rfl, by rw [ha]; omega⟩⟩) fun _ => ⟨cdiv, by decide, sz1000 (by decide +kernel), z, ez, sz1000 (by rw [h1]; omega), trivial, _, _, rfl, by rw [ha, h1]; omega⟩
    · obtain ⟨rfl, x, u, rfl, hx⟩ := hv
      walk_at ""
      exact k x _ (Same.refl _) ⟨by omega, by omega⟩
theorem ok_term_by_L (T : Tx K mg D) : FnOk P w K mg base0 CX0 3 D.a_term_by_L D.d_term_by_L ["_law_shape", "_law_cell"] spTm2 := by
  have G_name_by_L := ok_name_by_L (P := P) (w := w) (base0 := base0) T
  have G_letter_by_L := ok_letter_by_L (P := P) (w := w) (base0 := base0) T
  refine T.F_term_by_L.ok sc_term_by_L (fun vs H Q E h => ?_) (fun cdv A outer s H vs Q E hr h => ?_)
  · obtain ⟨sh, c, rfl, _⟩ := h; rfl
  obtain ⟨sh, c, rfl, h0, k⟩ := h
  have hu := hr.units
  have hr_name_by_L : Room 2 _ := hr.mono (by decide)
  have hr_letter_by_L : Room 1 _ := hr.mono (by decide)
  refine ⟨_, (pss_cons (ps_if (pt_cmpR (opB_eq K hu) (pe_op op_modP (pv 1) pe_int) pe_int (nomark _)) (pss_one (ps_ret (pe_call G_name_by_L hr_name_by_L (by rfl) T.m_name_by_L T.F_name_by_L.kp T.b_name_by_L .nil pass0 (pa_cons (pv 0) (pa_cons (pe_op op_modP (pe_op op_fdivP (pv 1) pe_int) pe_int) pa_nil))))) pss_nil)
    (pss_one (ps_ret (pe_call G_letter_by_L hr_letter_by_L (by rfl) T.m_letter_by_L T.F_letter_by_L.kp T.b_letter_by_L .nil pass0 (pa_cons (pv 0) (pa_cons (pe_op op_modP (pe_op op_fdivP (pv 1) pe_int) pe_int) pa_nil)))))), ?_⟩
  walk_at "S"
  walk_at ""
  have a0 := Int.emod_nonneg (c / 3) (show (5 : Int) ≠ 0 by decide)
  have a1 := Int.emod_lt_of_pos (c / 3) (show (0 : Int) < 5 by decide)
  have b0 := Int.emod_nonneg (c / 3) (show (3 : Int) ≠ 0 by decide)
  have b1 := Int.emod_lt_of_pos (c / 3) (show (0 : Int) < 3 by decide)
  exact ⟨by decide, ite2 (fun _ => ⟨cdiv, by decide, _, _, rfl, h0, a0, a1, fun x H' s' hx => k x H' s' hx⟩) fun _ => ⟨cdiv, by decide, _, _, rfl, h0, b0, b1, fun x hx => k x H (Same.refl H) hx⟩⟩
end
section
variable {P : Program} {w : World} {K : PySem.W.Frag} {mg : Str → Option Value} {base0 : Heap} {D : Defs}
theorem ok_atom_by_L (T : Tx K mg D) : FnOk P w K mg base0 CX0 4 D.a_atom_by_L D.d_atom_by_L ["_law_shape", "_law_cell"] (spAt2 K) := by
  have G_name_by_L := ok_name_by_L (P := P) (w := w) (base0 := base0) T
  have G_term_by_L := ok_term_by_L (P := P) (w := w) (base0 := base0) T
  refine T.F_atom_by_L.ok sc_atom_by_L (fun vs H Q E h => ?_) (fun cdv A outer s H vs Q E hr h => ?_)
  · obtain ⟨sh, c, rfl, _⟩ := h; rfl
  obtain ⟨sh, c, rfl, h0, k⟩ := h
  have hu := hr.units
  have hr_name_by_L : Room 2 _ := hr.mono (by decide)
  have hr_term_by_L : Room 3 _ := hr.mono (by decide)
  refine ⟨_, (pss_cons (ps_set (i := 2) sc_atom_by_L.nd (by rfl) (by walk_at "o") (pe_ix (ixA K) (pe_lst (pa_cons pe_int (pa_cons pe_int (pa_cons pe_int (pa_cons pe_int (pa_cons pe_int (pa_cons pe_int pa_nil))))))) (pe_op op_modP (pv 1) pe_int) (fun _ _ => rfl)))
    (pss_cons (ps_set (i := 3) sc_atom_by_L.nd (by rfl) (by walk_at "o") (pe_call G_name_by_L hr_name_by_L (by rfl) T.m_name_by_L T.F_name_by_L.kp T.b_name_by_L .nil pass0 (pa_cons (pe_op op_fdivP (pv 0) pe_int) (pa_cons (pe_op op_modP (pe_op op_fdivP (pv 1) pe_int) pe_int) pa_nil))))
    (pss_cons (ps_if (PW.pt (pw_and (pt_cmpR (opB_eq K hu) (pv 2) pe_int (nomark _)) (pw_and1 (pt_cmpR (opB_eq K hu) (pe_op op_modP (pe_op op_fdivP (pv 1) pe_int) pe_int) pe_int (nomark _))))) (pss_one (ps_ret (pe_tup (pa_cons pe_str pa_nil)))) pss_nil)
    (pss_cons (ps_set (i := 4) sc_atom_by_L.nd (by rfl) (by walk_at "o") (pe_op op_fdivP (pv 1) pe_int))
    (pss_one (ps_ret (pe_tup (pa_cons pe_str (pa_cons (pv 3) (pa_cons (pe_callTy (callA_tuple K) (by rfl) T.z_tuple (by rfl) (pa_cons (pe_comp 1 [0, 4] ["_law_k", "_law_shape", "_law_more"] ⟨by rfl, by rfl, by rfl, by rfl, by rfl, by rfl, by rfl⟩ (by rfl) (pi_range1 (by rfl) T.z_range (pa_cons (pv 2) pa_nil)) (fun _ _ _ _ => pg_name (i := 0) (show List.Nodup (["_law_k", "_law_shape", "_law_more"] : List Str) by decide +kernel) (by rfl) (Or.inl (by rfl)) (Or.inr (by rfl))) (gName_keep (by decide)) (fun _ _ _ _ => pif_nil) (fun _ _ _ _ => (pe_call G_term_by_L hr_term_by_L (by rfl) T.m_term_by_L T.F_term_by_L.kp T.b_term_by_L .nil pass0 (pa_cons (pv 1) (pa_cons (pe_op op_fdivP (pv 2) (pe_ix (ixA K) (pe_lst (pa_cons pe_int (pa_cons pe_int (pa_cons pe_int pa_nil)))) (pv 0) (fun _ _ => rfl))) pa_nil))))) pa_nil)) pa_nil)))))))))), ?_⟩
  walk_at "S"
  walk_at ""
  refine ⟨sz1000 (by decide), fun p hp => ⟨by decide, ?_⟩⟩
  obtain ⟨z, hz, ez⟩ := pickI (ts := [0, 1, 1, 2, 1, 3]) (i := c % 6) (Int.emod_nonneg _ (by decide)) (Int.emod_lt_of_pos _ (by decide))
  have hz' : 0 ≤ z ∧ z ≤ 3 := by
    have : ∀ z ∈ ([0, 1, 1, 2, 1, 3] : List Int), 0 ≤ z ∧ z ≤ 3 := by decide
    exact this z hz
  refine ⟨_, .inl (SqL.of upd_same), _, ez, cdiv, cdiv, by decide, _, _, rfl, by omega, Int.emod_nonneg _ (by decide), by have := Int.emod_lt_of_pos (c / 6) (show (0 : Int) < 3 by decide); omega, fun x H2 s2' hx => ?_⟩
  have s2 := (same_new hp (.lst [V.int 0, V.int 1, V.int 1, V.int 2, V.int 1, V.int 3])).trans s2'
  walk_at ""
  refine ite2 (fun c1 => ⟨cdiv, by decide, ite2 (fun c2 => ⟨sz1000 (by decide), fun p7 hp7 => k .fls _ _ (s2.trans (same_new hp7 _)) ⟨p7, rfl, SqT.of upd_same⟩ trivial rfl rfl⟩) fun c2 => ?_⟩) fun c1 => ?_
  · refine ⟨cdiv, by omega, by omega, ?_⟩
    refine comp_range (fun i acc H4 => Same H2 H4 ∧ ∃ ts : List Str, acc = ts.map V.str ∧ ts.length = i ∧ ∀ t ∈ ts, tb t) ⟨Same.refl _, [], rfl, rfl, by simp⟩ (fun i acc H4 hi hv => ?_) fun acc H4 hv p5 hp5 => ?_
    · obtain ⟨s4, ts, rfl, htl, hts⟩ := hv
      refine ⟨sz1000' (by rw [List.length_map]; omega), ?_⟩
      simp only [slotsC, List.replicate_succ, List.replicate_zero, List.map_cons, List.map_nil, List.nil_append, List.cons_append, List.getElem?_cons_zero, List.getElem?_cons_succ, Option.join_some]
      walk_at ""
      obtain ⟨y, hy, ey⟩ := pickI (ts := [1, 15, 225]) (i := 0 + (i : Int)) (by omega) (by show 0 + (i : Int) < ((3 : Nat) : Int); omega)
      have hy' : 0 < y ∧ y < 1073741824 := by
        have : ∀ y ∈ ([1, 15, 225] : List Int), 0 < y ∧ y < 1073741824 := by decide
        exact this y hy
      refine ⟨sz1000 (by decide), fun p6 hp6 => ⟨_, .inl (SqL.of upd_same), _, ey, ?_⟩⟩
      (try walk_at "")
      refine ⟨⟨hy'.1, hy'.2⟩, _, _, rfl, h0, fun t H6 s6 ht => ⟨s4.trans ((same_new hp6 _).trans s6), ts ++ [t], by simp, by simp [htl], fun t' ht' => ?_⟩⟩
      rcases List.mem_append.mp ht' with q | q
      · exact hts t' q
      · rw [List.mem_singleton.mp q]; exact ht
    · obtain ⟨s4, ts, rfl, htl, hts⟩ := hv
      walk_at ""
      refine ⟨_, .inl ⟨SqL.of upd_same, fun p6 hp6 => ⟨sz1000 (show 3 ≤ 100000 by decide), fun p7 hp7 => ?_⟩⟩⟩
      have hsm := ((s4.trans (same_new hp5 _)).trans (same_new hp6 _)).trans (same_new hp7 (.tup [V.str "is", V.str x, V.ref p6]))
      refine k (.is x ts) _ _ (s2.trans hsm) ⟨p7, p6, rfl, SqT.of upd_same, (same_new hp7 _).seqT (SqT.of upd_same)⟩ ⟨hx.2, by omega, hts⟩ rfl rfl
  · refine ⟨cdiv, by omega, by omega, ?_⟩
    refine comp_range (fun i acc H4 => Same H2 H4 ∧ ∃ ts : List Str, acc = ts.map V.str ∧ ts.length = i ∧ ∀ t ∈ ts, tb t) ⟨Same.refl _, [], rfl, rfl, by simp⟩ (fun i acc H4 hi hv => ?_) fun acc H4 hv p5 hp5 => ?_
    · obtain ⟨s4, ts, rfl, htl, hts⟩ := hv
      refine ⟨sz1000' (by rw [List.length_map]; omega), ?_⟩
      simp only [slotsC, List.replicate_succ, List.replicate_zero, List.map_cons, List.map_nil, List.nil_append, List.cons_append, List.getElem?_cons_zero, List.getElem?_cons_succ, Option.join_some]
      walk_at ""
      obtain ⟨y, hy, ey⟩ := pickI (ts := [1, 15, 225]) (i := 0 + (i : Int)) (by omega) (by show 0 + (i : Int) < ((3 : Nat) : Int); omega)
      have hy' : 0 < y ∧ y < 1073741824 := by
        have : ∀ y ∈ ([1, 15, 225] : List Int), 0 < y ∧ y < 1073741824 := by decide
        exact this y hy
      refine ⟨sz1000 (by decide), fun p6 hp6 => ⟨_, .inl (SqL.of upd_same), _, ey, ?_⟩⟩
      (try walk_at "")
      refine ⟨⟨hy'.1, hy'.2⟩, _, _, rfl, h0, fun t H6 s6 ht => ⟨s4.trans ((same_new hp6 _).trans s6), ts ++ [t], by simp, by simp [htl], fun t' ht' => ?_⟩⟩
      rcases List.mem_append.mp ht' with q | q
      · exact hts t' q
      · rw [List.mem_singleton.mp q]; exact ht
    · obtain ⟨s4, ts, rfl, htl, hts⟩ := hv
      walk_at ""
      refine ⟨_, .inl ⟨SqL.of upd_same, fun p6 hp6 => ⟨sz1000 (show 3 ≤ 100000 by decide), fun p7 hp7 => ?_⟩⟩⟩
      have hsm := ((s4.trans (same_new hp5 _)).trans (same_new hp6 _)).trans (same_new hp7 (.tup [V.str "is", V.str x, V.ref p6]))
      refine k (.is x ts) _ _ (s2.trans hsm) ⟨p7, p6, rfl, SqT.of upd_same, (same_new hp7 _).seqT (SqT.of upd_same)⟩ ⟨hx.2, by omega, hts⟩ rfl rfl
end
section
variable {P : Program} {w : World} {K : PySem.W.Frag} {mg : Str → Option Value} {base0 : Heap} {D : Defs}
theorem ok_step_L (T : Tx K mg D) : FnOk P w K mg base0 CX0 5 D.a_step_L D.d_step_L ["_law_pile", "_law_shape", "_law_cell"] (spStep K) := by
  have G_atom_by_L := ok_atom_by_L (P := P) (w := w) (base0 := base0) T
  have G_letter_by_L := ok_letter_by_L (P := P) (w := w) (base0 := base0) T
  refine T.F_step_L.ok sc_step_L (fun vs H Q E h => ?_) (fun cdv A outer s H vs Q E hr h => ?_)
  · obtain ⟨p, sh, c, us, Ss, d, z, rfl, _⟩ := h; rfl
  obtain ⟨p, sh, c, us, Ss, d, z, rfl, hp, hR, h0, hO, hl, hd, k⟩ := h
  have hu := hr.units
  have hr_atom_by_L : Room 4 _ := hr.mono (by decide)
  have hr_letter_by_L : Room 1 _ := hr.mono (by decide)
  refine ⟨_, (pss_cons (ps_set (i := 3) sc_step_L.nd (by rfl) (by walk_at "o") (pe_op op_modP (pv 2) pe_int))
    (pss_cons (ps_set (i := 4) sc_step_L.nd (by rfl) (by walk_at "o") (pe_op op_fdivP (pv 2) pe_int))
    (pss_cons (ps_if (PW.pt (pw_and (pt_cmpR opA_lt (pv 3) pe_int (nomark _)) (pw_and1 (pt_cmpR op_gt (pe_callB (callA_len K) (by rfl) T.z_len PySem.boot_len (pa_cons (pv 0) pa_nil)) pe_int (nomark _))))) (pss_one (ps_ret (pe_op (opB_add K) (pe_slice (slB K) (pv 0) po_none (po_some (pe_un un_neg pe_int))) (pe_lst (pa_cons (pe_tup (pa_cons pe_str (pa_cons (pe_ix (ixA K) (pv 0) (pe_un un_neg pe_int) (fun _ _ => rfl)) pa_nil))) pa_nil))))) pss_nil)
    (pss_cons (ps_if (PW.pt (pw_and (pt_cmpR opA_lt (pv 3) pe_int (nomark _)) (pw_and1 (pt_cmpR op_gt (pe_callB (callA_len K) (by rfl) T.z_len PySem.boot_len (pa_cons (pv 0) pa_nil)) pe_int (nomark _))))) (pss_one (ps_ret (pe_op (opB_add K) (pe_slice (slB K) (pv 0) po_none (po_some (pe_un un_neg pe_int))) (pe_lst (pa_cons (pe_tup (pa_cons (pe_ix (ixA K) (pe_lst (pa_cons pe_str (pa_cons pe_str (pa_cons pe_str pa_nil)))) (pe_op op_sub (pv 3) pe_int) (fun _ _ => rfl)) (pa_cons (pe_ix (ixA K) (pv 0) (pe_un un_neg pe_int) (fun _ _ => rfl)) (pa_cons (pe_ix (ixA K) (pv 0) (pe_un un_neg pe_int) (fun _ _ => rfl)) pa_nil)))) pa_nil))))) pss_nil)
    (pss_cons (ps_if (PW.pt (pw_and (pt_chain opA_lt opA_lt pe_int (pv 3) pe_int) (pw_and1 (pt_cmpR op_gt (pe_callB (callA_len K) (by rfl) T.z_len PySem.boot_len (pa_cons (pv 0) pa_nil)) pe_int (nomark _))))) (pss_one (ps_ret (pe_op (opB_add K) (pe_slice (slB K) (pv 0) po_none (po_some (pe_un un_neg pe_int))) (pe_lst (pa_cons (pe_tup (pa_cons (pe_ix (ixA K) (pe_lst (pa_cons pe_str (pa_cons pe_str pa_nil))) (pe_op op_sub (pv 3) pe_int) (fun _ _ => rfl)) (pa_cons (pe_call G_letter_by_L hr_letter_by_L (by rfl) T.m_letter_by_L T.F_letter_by_L.kp T.b_letter_by_L .nil pass0 (pa_cons (pv 1) (pa_cons (pe_op op_modP (pv 4) pe_int) pa_nil))) (pa_cons (pe_ix (ixA K) (pv 0) (pe_un un_neg pe_int) (fun _ _ => rfl)) pa_nil)))) pa_nil))))) pss_nil)
    (pss_one (ps_ret (pe_op (opB_add K) (pv 0) (pe_lst (pa_cons (pe_call G_atom_by_L hr_atom_by_L (by rfl) T.m_atom_by_L T.F_atom_by_L.kp T.b_atom_by_L .nil pass0 (pa_cons (pv 1) (pa_cons (pv 4) pa_nil))) pa_nil)))))))))), ?_⟩
  walk_at "S"
  have hL : us.length = Ss.length := (Paired.length hR).symm
  have fin : ∀ (A : List Stm) (U : List V) (N : Stm) (x r : Addr) (H5 : Hp) (z' : Nat), Same H H5 → RepL K H A U → RepS K H5 N (.ref x) → PileOk A d z' → SW N → N.deep ≤ d + 1 → z' + N.size ≤ z + 1 → A.length ≤ Ss.length → H5 r = none → Q (.ref r) (upd H5 r (.lst (U ++ [V.ref x]))) := fun A U N x r H5 z' s5 hU hN hA h1 h2 h3 h4 hr' => by
    refine k r _ (A ++ [N]) _ (s5.trans (same_new hr' _)) upd_same ?_ (hA.snoc (by omega) h1 h2 h3) (by simp; omega) (by simp)
    exact RepL.snoc (RepL.same (s5.trans (same_new hr' _)) hU) (hN.same (same_new hr' _))
  rw [w_seq, w_asg]
  simp only [↓w_op, ↓w_v2, ↓w_c, ↓w_rI, ↓w_gName, ↓List.set_cons_zero, ↓List.set_cons_succ]
  refine ⟨by decide, ?_⟩
  rw [w_seq, w_asg]
  simp only [↓w_op, ↓w_v2, ↓w_c, ↓w_rI, ↓w_gName, ↓List.set_cons_zero, ↓List.set_cons_succ]
  refine ⟨cdiv, ?_⟩
  have k0 := Int.emod_nonneg c (show (11 : Int) ≠ 0 by decide)
  have k1 := Int.emod_lt_of_pos c (show (0 : Int) < 11 by decide)
  generalize c % 11 = kd at k0 k1
  refine seq_ifP (c := kd < 2 ∧ 0 < us.length) (fun Qb q => ?_) (fun c1 => ?_) fun c1 => seq_ifP (c := kd < 5 ∧ 1 < us.length) (fun Qb q => ?_) (fun c2 => ?_) fun c2 => seq_ifP (c := (4 < kd ∧ kd < 7) ∧ 0 < us.length) (fun Qb q => ?_) (fun c3 => ?_) fun c3 => ?_
  · walk_at ""
    refine ite2 (fun a1 => ⟨_, .inl (SqL.of hp), ?_⟩) fun a1 => ?_
    · rw [decide_eq_decide.mpr (show (0 < (us.length : Int)) ↔ (kd < 2 ∧ 0 < us.length) by omega)]; exact q
    · rw [decide_eq_false (show ¬ (kd < 2 ∧ 0 < us.length) by omega)] at q; exact q
  · obtain ⟨A, S, U, u, rfl, rfl, hRA, hRS⟩ := hR.last (by intro z; subst z; rw [List.length_nil] at hL; omega)
    obtain ⟨z', hA', hz', hS1, hS2⟩ := hO.front
    walk_at ""
    rw [List.length_append] at hl
    refine ⟨1, rfl, _, rfl, _, .inl ⟨SqL.of hp, fun q hq => ⟨1, rfl, ?_⟩⟩⟩
    (try walk_at "")
    refine ⟨_, .inl (SqL.of (keep1 hq hp)), _, atI_last U u, sz1000 (show 2 ≤ 100000 by decide), fun p2 hp2 => ⟨sz1000 (show 1 ≤ 100000 by decide), fun p3 hp3 => ⟨_, _, .inl ⟨keep1 hp3 (keep1 hp2 upd_same), upd_same, ?_, fun r hr' => ?_⟩⟩⟩⟩
    · rw [cut_last]; simp at hL hl ⊢; exact sz1000 (by omega)
    · rw [cut_last] at hp2 hp3 hr' ⊢
      have sq := ((same_new hq (.lst U)).trans (same_new hp2 (.tup [V.str "not", u]))).trans (same_new hp3 (.lst [V.ref p2]))
      exact fin A U (.neg S) p2 r _ z' sq hRA ⟨p2, u, rfl, (same_new hp3 _).seqT (SqT.of upd_same), hRS.same sq⟩ hA' hS1 (by show S.deep + 1 ≤ d + 1; omega) (by show z' + (S.size + 1) ≤ z + 1; omega) (by rw [List.length_append]; omega) hr'
  · walk_at ""
    refine ite2 (fun a1 => ⟨_, .inl (SqL.of hp), ?_⟩) fun a1 => ?_
    · rw [decide_eq_decide.mpr (show (1 < (us.length : Int)) ↔ (kd < 5 ∧ 1 < us.length) by omega)]; exact q
    · rw [decide_eq_false (show ¬ (kd < 5 ∧ 1 < us.length) by omega)] at q; exact q
  · obtain ⟨A1, S2, U1, u2, rfl, rfl, hRA1, hRS2⟩ := hR.last (by intro z; subst z; rw [List.length_nil] at hL; omega)
    obtain ⟨A, S1, U, u1, rfl, rfl, hRA, hRS1⟩ := hRA1.last (by intro z; subst z; cases hRA1; simp at c2)
    obtain ⟨z1, hA1, hz1, hS2a, hS2b⟩ := hO.front
    obtain ⟨z', hA', hz', hS1a, hS1b⟩ := hA1.front
    have eU : U ++ [u1] ++ [u2] = U ++ [u1, u2] := by simp
    rw [eU] at hp hL c2 c1
    have hl' : U.length ≤ 50 := by simp at hL hl; omega
    obtain ⟨o, eo⟩ : ∃ o : Bi, atI [V.str "and", V.str "or", V.str "then"] (kd - 2) = some (.str o.txt) := by
      have h2 : 2 ≤ kd := by
        rcases Int.lt_or_le kd 2 with h | h
        · exact absurd ⟨h, by omega⟩ c1
        · exact h
      obtain rfl | rfl | rfl : kd = 2 ∨ kd = 3 ∨ kd = 4 := by omega
      · exact ⟨.and, rfl⟩
      · exact ⟨.or, rfl⟩
      · exact ⟨.thn, rfl⟩
    walk_at ""
    refine ⟨2, rfl, _, rfl, _, .inl ⟨SqL.of hp, fun q hq => ⟨sz1000 (by decide), fun p4 hp4 => ⟨_, .inl (SqL.of upd_same), _, eo, 2, rfl, ?_⟩⟩⟩⟩
    (try walk_at "")
    refine ⟨_, .inl (SqL.of (keep1 hp4 (keep1 hq hp))), _, atI_last2 U u1 u2, 1, rfl, ?_⟩
    (try walk_at "")
    refine ⟨_, .inl (SqL.of (keep1 hp4 (keep1 hq hp))), _, by rw [← eU]; exact atI_last _ u2, sz1000 (show 3 ≤ 100000 by decide), fun p2 hp2 => ⟨sz1000 (show 1 ≤ 100000 by decide), fun p3 hp3 => ⟨_, _, .inl ⟨keep1 hp3 (keep1 hp2 (keep1 hp4 upd_same)), upd_same, ?_, fun r hr' => ?_⟩⟩⟩⟩
    · rw [cut_last2]; exact sz1000 (by simp; omega)
    · rw [cut_last2] at hp4 hp2 hp3 hr' ⊢
      have sq := (((same_new hq (.lst U)).trans (same_new hp4 (.lst [V.str "and", V.str "or", V.str "then"]))).trans (same_new hp2 (.tup [V.str o.txt, u1, u2]))).trans (same_new hp3 (.lst [V.ref p2]))
      exact fin A U (.bi o S1 S2) p2 r _ z' sq hRA ⟨p2, u1, u2, rfl, (same_new hp3 _).seqT (SqT.of upd_same), hRS1.same sq, hRS2.same sq⟩ hA' ⟨hS1a, hS2a⟩ (by show max S1.deep S2.deep + 1 ≤ d + 1; omega) (by show z' + (S1.size + S2.size + 1) ≤ z + 1; omega) (by simp only [List.length_append]; omega) hr'
  · walk_at ""
    refine ite2 (fun a1 => ite2 (fun a2 => ⟨_, .inl (SqL.of hp), ?_⟩) fun a2 => ?_) fun a1 => ?_
    · rw [decide_eq_decide.mpr (show (0 < (us.length : Int)) ↔ ((4 < kd ∧ kd < 7) ∧ 0 < us.length) by omega)]; exact q
    · rw [decide_eq_false (show ¬ ((4 < kd ∧ kd < 7) ∧ 0 < us.length) by omega)] at q; exact q
    · rw [decide_eq_false (show ¬ ((4 < kd ∧ kd < 7) ∧ 0 < us.length) by omega)] at q; exact q
  · obtain ⟨A, S, U, u, rfl, rfl, hRA, hRS⟩ := hR.last (by intro z; subst z; rw [List.length_nil] at hL; omega)
    obtain ⟨z', hA', hz', hS1, hS2⟩ := hO.front
    have hl' : U.length ≤ 50 := by simp at hL hl; omega
    obtain ⟨o, eo⟩ : ∃ o : Bool, atI [V.str "all", V.str "some"] (kd - 5) = some (.str (qtx o)) := by
      obtain rfl | rfl : kd = 5 ∨ kd = 6 := by omega
      · exact ⟨true, rfl⟩
      · exact ⟨false, rfl⟩
    walk_at ""
    refine ⟨1, rfl, _, rfl, _, .inl ⟨SqL.of hp, fun q hq => ⟨sz1000 (by decide), fun p4 hp4 => ⟨_, .inl (SqL.of upd_same), _, eo, by decide, _, _, rfl, h0, Int.emod_nonneg _ (by decide), Int.emod_lt_of_pos _ (by decide), fun X hX => ⟨1, rfl, ?_⟩⟩⟩⟩⟩
    (try walk_at "")
    refine ⟨_, .inl (SqL.of (keep1 hp4 (keep1 hq hp))), _, atI_last U u, sz1000 (show 3 ≤ 100000 by decide), fun p2 hp2 => ⟨sz1000 (show 1 ≤ 100000 by decide), fun p3 hp3 => ⟨_, _, .inl ⟨keep1 hp3 (keep1 hp2 (keep1 hp4 upd_same)), upd_same, ?_, fun r hr' => ?_⟩⟩⟩⟩
    · rw [cut_last]; exact sz1000 (by simp; omega)
    · rw [cut_last] at hp4 hp2 hp3 hr' ⊢
      have sq := (((same_new hq (.lst U)).trans (same_new hp4 (.lst [V.str "all", V.str "some"]))).trans (same_new hp2 (.tup [V.str (qtx o), V.str X, u]))).trans (same_new hp3 (.lst [V.ref p2]))
      exact fin A U (.qu o X S) p2 r _ z' sq hRA ⟨p2, u, rfl, (same_new hp3 _).seqT (SqT.of upd_same), hRS.same sq⟩ hA' ⟨hX, hS1⟩ (by show S.deep + 1 ≤ d + 1; omega) (by show z' + (S.size + 1) ≤ z + 1; omega) (by rw [List.length_append]; omega) hr'
  · walk_at ""
    refine ⟨sh, _, rfl, h0, fun S v H1 s1 rS hS hd1 hs1 => ?_⟩
    obtain ⟨x, xs, rfl, _⟩ := rS.tag
    refine ⟨sz1000 (show 1 ≤ 100000 by decide), fun p2 hp2 => ⟨_, _, .inl ⟨keep1 hp2 (s1 _ _ hp), upd_same, sz1000 (by simp; omega), fun r hr' => ?_⟩⟩⟩
    exact fin Ss us S x r _ z (s1.trans (same_new hp2 _)) hR (rS.same (same_new hp2 _)) hO hS (by omega) (by omega) (Nat.le_refl _) hr'
end
section
variable {P : Program} {w : World} {K : PySem.W.Frag} {mg : Str → Option Value} {base0 : Heap} {D : Defs}
theorem ok_pile_by_L (T : Tx K mg D) : FnOk P w K mg base0 CX0 6 D.a_pile_by_L D.d_pile_by_L ["_law_shape", "_law_cells"] (spPile K) := by
  have G_step_L := ok_step_L (P := P) (w := w) (base0 := base0) T
  refine T.F_pile_by_L.ok sc_pile_by_L (fun vs H Q E h => ?_) (fun cdv A outer s H vs Q E hr h => ?_)
  · obtain ⟨a, sh, ms, rfl, _⟩ := h; rfl
  obtain ⟨a, sh, ms, rfl, hA, hl, h0, k⟩ := h
  have hu := hr.units
  have hr_step_L : Room 5 _ := hr.mono (by decide)
  refine ⟨_, (pss_cons (ps_set (i := 2) sc_pile_by_L.nd (by rfl) (by walk_at "o") (pe_lst (pa_cons (pe_tup (pa_cons pe_str pa_nil)) pa_nil)))
    (pss_cons (ps_for PassesOwn.never (by rfl) (pi_any K (pv 1)) (pg_name (i := 3) sc_pile_by_L.nd (by rfl) (by walk_at "o"))
      (pss_cons (ps_set (i := 2) sc_pile_by_L.nd (by rfl) (by walk_at "o") (pe_call G_step_L hr_step_L (by rfl) T.m_step_L T.F_step_L.kp T.b_step_L .nil pass0 (pa_cons (pe_slice (slB K) (pv 2) (po_some pe_int) po_none) (pa_cons (pv 0) (pa_cons (pv 3) pa_nil)))))
    (pss_one (ps_set (i := 2) sc_pile_by_L.nd (by rfl) (by walk_at "o") (pe_op (opB_add K) (pe_lst (pa_cons (pe_tup (pa_cons pe_str pa_nil)) pa_nil)) (pv 2))))))
    (pss_one (ps_ret (pv 2))))), ?_⟩
  walk_at "S"
  walk_at ""
  refine ⟨sz1000 (by decide), fun p hp => ⟨sz1000 (show 1 ≤ 100000 by decide), fun p1 hp1 => .inl ⟨⟨_, ((same_new hp (.tup [V.str "false"])).trans (same_new hp1 (.lst [V.ref p]))).seq hA⟩, ?_⟩⟩⟩
  have s0 := (same_new hp (.tup [V.str "false"])).trans (same_new hp1 (.lst [V.ref p]))
  refine forW_list (xs := ms.map V.int) (fun i σ H2 => Same H H2 ∧ ∃ (q f : Addr) (us : List V) (Ss : List Stm) (u : Option V), σ = [some (.int sh), some (.ref a), some (.ref q), u] ∧ H2 q = some (.lst (.ref f :: us)) ∧ RepS K H2 .fls (.ref f) ∧ RepL K H2 Ss us ∧ PileOk Ss (i + 1) i ∧ Ss.length ≤ i)
    ⟨s0, p1, p, [], [], _, rfl, upd_same, ⟨p, rfl, (same_new hp1 _).seqT (SqT.of upd_same)⟩, .nil, ⟨by simp, Nat.le_refl _⟩, Nat.le_refl _⟩ (fun i σ H2 _ hv => hv.1.seq hA) (fun i x σ H2 hx hv => ?_) fun σ H2 hv => ?_
  · obtain ⟨s2, q, f, us, Ss, u, rfl, hq, hf, hRL, hO, hle⟩ := hv
    rw [List.getElem?_map] at hx
    cases e : ms[i]? with
    | none => rw [e] at hx; cases hx
    | some y =>
      rw [e] at hx
      cases hx
      have hi : i < ms.length := (List.getElem?_eq_some_iff.mp e).1
      walk_at ""
      refine ⟨_, .inl ⟨SqL.of hq, fun q2 hq2 => ?_⟩⟩
      have ec : cutV (V.ref f :: us) (some 1) none = us := by
        unfold cutV
        rw [HT.sIx_none]
        show List.take _ (List.drop (min 1 (us.length + 1)) (V.ref f :: us)) = us
        rw [show min 1 (us.length + 1) = 1 by omega, List.drop_one, List.tail_cons]
        exact List.take_of_length_le (by show us.length ≤ (us.length + 1) - min 1 (us.length + 1); omega)
      rw [ec]
      refine ⟨q2, sh, y, us, Ss, i + 1, i, rfl, upd_same, hRL.same (same_new hq2 _), h0, hO, by omega, by omega, fun q3 us3 Ss3 H3 s3 hq3 hR3 hO3 hl3 hn3 => ?_⟩
      refine ⟨sz1000 (by decide), fun p4 hp4 => ⟨sz1000 (show 1 ≤ 100000 by decide), fun p5 hp5 => ?_⟩⟩
      (try walk_at "")
      have hL3 := Paired.length hR3
      refine ⟨_, _, .inl ⟨upd_same, keep1 hp5 (keep1 hp4 hq3), sz1000 (by simp; omega), fun r hr' => ?_⟩⟩
      have sq := (same_new hp4 (.tup [V.str "false"])).trans ((same_new hp5 (.lst [V.ref p4])).trans (same_new hr' (.lst ([V.ref p4] ++ us3))))
      exact ⟨((s2.trans (same_new hq2 _)).trans s3).trans sq, r, p4, us3, Ss3, _, rfl, upd_same, ⟨p4, rfl, ((same_new hp5 _).trans (same_new hr' _)).seqT (SqT.of upd_same)⟩, hR3.same sq, hO3, by omega⟩
  · obtain ⟨s2, q, f, us, Ss, u, rfl, hq, hf, hRL, hO, hle⟩ := hv
    rw [List.length_map] at hO hle
    walk_at ""
    refine k q _ (.fls :: Ss) H2 s2 hq (.cons hf hRL) ⟨fun T hT => ?_, ?_⟩ (by simp; omega) (by simp)
    · rcases List.mem_cons.mp hT with rfl | hT
      · exact ⟨trivial, by show 1 ≤ _; omega⟩
      · exact hO.1 T hT
    · show Stm.size .fls + (Ss.map Stm.size).sum ≤ _
      have := hO.2
      show 1 + _ ≤ _
      omega
end
section
variable {P : Program} {w : World} {K : PySem.W.Frag} {mg : Str → Option Value} {base0 : Heap} {D : Defs}
theorem ok_free_L (T : Tx K mg D) : ∀ d : Nat, FnOk P w K mg base0 CX0 (d + 1) D.a_free_L D.d_free_L ["_law_ka"] (spFree K d)
  | 0 => by
    refine T.F_free_L.ok sc_free_L (fun vs H Q E h => ?_) (fun cdv A outer s H vs Q E hr h => ?_)
    · obtain ⟨v, S, rfl, _⟩ := h; rfl
    · obtain ⟨v, S, rfl, _, _, h, _⟩ := h
      have := S.deep_pos
      omega
  | d + 1 => by
    have G_free_L := ok_free_L T d
    refine T.F_free_L.ok sc_free_L (fun vs H Q E h => ?_) (fun cdv A outer s H vs Q E hr h => ?_)
    · obtain ⟨v, S, rfl, _⟩ := h; rfl
    obtain ⟨v, S, rfl, rS, hSW, hd, hz, k⟩ := h
    have hu := hr.units
    have hr_free_L : Room (d + 1) _ := hr
    refine ⟨_, (pss_cons (ps_if (pt_cmpR (opB_eq K hu) (pe_ix (ixA K) (pv 0) pe_int (fun _ _ => rfl)) pe_str (nomark _)) (pss_one (ps_ret (pe_comp 1 [] ["_law_term"] ⟨by rfl, by rfl, by rfl, by rfl, by rfl, by rfl, by rfl⟩ (by rfl) (pi_any K (pe_ix (ixA K) (pv 0) pe_int (fun _ _ => rfl))) (fun _ _ _ _ => pg_name (i := 0) (show List.Nodup (["_law_term"] : List Str) by decide +kernel) (by rfl) (Or.inl (by rfl)) (Or.inr (by rfl))) (gName_keep (by decide)) (fun _ _ _ _ => pif_one (pt_cmpR (opA_in K) (pe_ix (ixA K) (pv 0) pe_int (fun _ _ => rfl)) pe_str (by rfl))) (fun _ _ _ _ => (pv 0))))) pss_nil)
    (pss_cons (ps_if (PW.pt (pw_or (pt_cmpR (opB_eq K hu) (pe_ix (ixA K) (pv 0) pe_int (fun _ _ => rfl)) pe_str (nomark _)) (pw_or1 (pt_cmpR (opB_eq K hu) (pe_ix (ixA K) (pv 0) pe_int (fun _ _ => rfl)) pe_str (nomark _))))) (pss_one (ps_ret (pe_comp 1 [0] ["_law_letter", "_law_ka"] ⟨by rfl, by rfl, by rfl, by rfl, by rfl, by rfl, by rfl⟩ (by rfl) (pi_any K (pe_call G_free_L hr_free_L (by rfl) T.m_free_L T.F_free_L.kp T.b_free_L .nil pass0 (pa_cons (pe_ix (ixA K) (pv 0) pe_int (fun _ _ => rfl)) pa_nil))) (fun _ _ _ _ => pg_name (i := 0) (show List.Nodup (["_law_letter", "_law_ka"] : List Str) by decide +kernel) (by rfl) (Or.inl (by rfl)) (Or.inr (by rfl))) (gName_keep (by decide)) (fun _ _ _ _ => pif_one (pt_cmpR (opA_ne hu) (pv 0) (pe_ix (ixA K) (pv 1) pe_int (fun _ _ => rfl)) (nomark _))) (fun _ _ _ _ => (pv 0))))) pss_nil)
    (pss_cons (ps_set (i := 1) sc_free_L.nd (by rfl) (by walk_at "o") (pe_lst pa_nil))
    (pss_cons (ps_for PassesOwn.never (by rfl) (pi_any K (pe_slice (slB K) (pv 0) (po_some pe_int) po_none)) (pg_name (i := 2) sc_free_L.nd (by rfl) (by walk_at "o"))
      (pss_one (ps_set (i := 1) sc_free_L.nd (by rfl) (by walk_at "o") (pe_op (opB_add K) (pv 1) (pe_call G_free_L hr_free_L (by rfl) T.m_free_L T.F_free_L.kp T.b_free_L .nil pass0 (pa_cons (pv 2) pa_nil))))))
    (pss_one (ps_ret (pv 1))))))), ?_⟩
    walk_at "S"
    obtain ⟨a, xs0, ev, h2⟩ := rS.tag
    subst ev
    refine seq_ifP (c := S.tag = "is") (fun Qb q => ?_) (fun c1 => ?_) fun c1 => seq_ifP (c := S.tag = "all" ∨ S.tag = "some") (fun Qb q => ?_) (fun c2 => ?_) fun c2 => ?_
    · walk_at ""
      exact ⟨_, .inr h2, _, atI_nat (j := 0) rfl, by rw [w_eqSB]; exact ⟨_, rfl, q⟩⟩
    · cases S with
      | is x ts =>
        obtain ⟨a', b, e', h2', h3⟩ := rS
        cases e'
        walk_at ""
        refine ⟨_, .inr h2', _, atI_nat (j := 2) rfl, ?_⟩
        walk_at ""
        refine .inr ⟨⟨_, h3⟩, comp_tup (xs := ts.map V.str) (fun i acc H2 => H2 = H ∧ ∃ ts' : List Str, acc = ts'.map V.str ∧ ts'.length ≤ i ∧ ∀ t ∈ ts', tb t) ⟨rfl, [], rfl, Nat.le_refl _, by simp⟩ (fun i acc H2 _ hv => hv.1 ▸ h3) (fun i y acc H2 hy hv => ?_) fun acc H2 hv p2 hp2 => ?_⟩
        · obtain ⟨rfl, ts', rfl, hle, htb⟩ := hv
          rw [List.getElem?_map] at hy
          cases e : ts[i]? with
          | none => rw [e] at hy; cases hy
          | some t =>
            rw [e] at hy
            cases hy
            have htt := hSW.2.2 t (List.mem_of_getElem? e)
            have hi : i < ts.length := (List.getElem?_eq_some_iff.mp e).1
            have h3' := hSW.2.1
            refine ⟨sz1000' (by rw [List.length_map]; omega), ?_⟩
            simp only [slotsC, List.replicate_succ, List.replicate_zero, List.map_cons, List.map_nil, List.nil_append, List.cons_append, List.getElem?_cons_zero, List.getElem?_cons_succ, Option.join_some]
            walk_at ""
            have hl0 : 0 < t.cps.toList.length := by rw [len_cps]; exact htt.1
            refine ⟨sz1000 (by have := htt.2; omega), _, atI_nat (j := 0) (List.getElem?_eq_getElem hl0), ?_⟩
            (try walk_at "")
            refine ite2 (fun _ => ⟨trivial, ts' ++ [t], by simp, by simp; omega, fun t' ht' => ?_⟩) fun _ => ⟨trivial, ts', rfl, by omega, htb⟩
            rcases List.mem_append.mp ht' with q | q
            · exact htb t' q
            · rw [List.mem_singleton.mp q]; exact htt
        · obtain ⟨rfl, ts', rfl, hle, htb⟩ := hv
          rw [List.length_map] at hle
          exact k p2 ts' _ (same_new hp2 _) upd_same htb (by have := hSW.2.1; show ts'.length ≤ 3 * 1; omega)
      | fls => exact absurd c1 (by decide +kernel)
      | neg B => exact absurd (show ("not" : Str) = "is" from c1) (by decide +kernel)
      | bi o B C => exact absurd c1 (bi_is o)
      | qu q X B => exact absurd c1 (qu_is q)
    · walk_at ""
      refine ⟨_, .inr h2, _, atI_nat (j := 0) rfl, ?_⟩
      (try walk_at "")
      refine ite2 (fun b1 => ?_) fun b1 => ⟨_, .inr h2, _, atI_nat (j := 0) rfl, ?_⟩
      · rw [decide_eq_true (.inl b1)] at q; exact q
      · (try walk_at "")
        rw [decide_eq_decide.mpr (show (S.tag = "all" ∨ S.tag = "some") ↔ S.tag = "some" from ⟨fun h => h.elim (fun z => absurd z b1) id, .inr⟩)] at q
        exact q
    · cases S with
      | is x ts => exact absurd rfl c1
      | fls => exact absurd c2 (by decide +kernel)
      | neg B => exact absurd (show ("not" : Str) = "all" ∨ ("not" : Str) = "some" from c2) (by decide +kernel)
      | bi o B C => exact c2.elim (fun h => absurd h (bi_all o)) fun h => absurd h (bi_some o)
      | qu q X B =>
        obtain ⟨a', u, e', h2', h3⟩ := rS
        cases e'
        walk_at ""
        refine ⟨_, .inr h2', _, atI_nat (j := 2) rfl, u, B, rfl, h3, hSW.2, by have : B.deep + 1 ≤ d + 1 := hd; omega, by have : B.size + 1 ≤ 1000 := hz; omega, fun p2 ts H2 s2 hp2 htb hle => ?_⟩
        (try walk_at "")
        refine .inl ⟨⟨_, SqL.of hp2⟩, comp_list (xs := ts.map V.str) (fun i acc H3 => H3 = H2 ∧ ∃ ts' : List Str, acc = ts'.map V.str ∧ ts'.length ≤ i ∧ ∀ t ∈ ts', tb t) ⟨rfl, [], rfl, Nat.le_refl _, by simp⟩ (fun i acc H3 _ hv => hv.1 ▸ SqL.of hp2) (fun i y acc H3 hy hv => ?_) fun acc H3 hv p3 hp3 => ?_⟩
        · obtain ⟨rfl, ts', rfl, hle', htb'⟩ := hv
          rw [List.getElem?_map] at hy
          cases e : ts[i]? with
          | none => rw [e] at hy; cases hy
          | some t =>
            rw [e] at hy
            cases hy
            have htt := htb t (List.mem_of_getElem? e)
            have hi : i < ts.length := (List.getElem?_eq_some_iff.mp e).1
            have : B.size + 1 ≤ 1000 := hz
            refine ⟨sz1000' (by rw [List.length_map]; omega), ?_⟩
            simp only [slotsC, List.replicate_succ, List.replicate_zero, List.map_cons, List.map_nil, List.nil_append, List.cons_append, List.getElem?_cons_zero, List.getElem?_cons_succ, Option.join_some]
            walk_at ""
            refine ⟨_, .inr (s2.seqT h2'), _, atI_nat (j := 1) rfl, ?_⟩
            (try walk_at "")
            refine ite2 (fun _ => ⟨trivial, ts' ++ [t], by simp, by simp; omega, fun t' ht' => ?_⟩) fun _ => ⟨trivial, ts', rfl, by omega, htb'⟩
            rcases List.mem_append.mp ht' with q | q
            · exact htb' t' q
            · rw [List.mem_singleton.mp q]; exact htt
        · obtain ⟨rfl, ts', rfl, hle', htb'⟩ := hv
          rw [List.length_map] at hle'
          exact k p3 ts' _ (s2.trans (same_new hp3 _)) upd_same htb' (by show ts'.length ≤ 3 * (B.size + 1); omega)
    · obtain ⟨a', xs, e', h2', hRL⟩ := rS.parts_at c1 c2
      cases e'
      have hps := parts_size S
      walk_at ""
      refine ⟨Nat.zero_le _, fun p hp => ⟨_, .inr ⟨(same_new hp _).seqT h2', fun q H1 s1 hq1 => .inr ⟨⟨_, hq1⟩, ?_⟩⟩⟩⟩
      rw [cut_tail] at hq1
      have s01 := (same_new hp (.lst [])).trans s1
      refine forW_tup (xs := xs) (fun i σ H2 => Same H1 H2 ∧ ∃ (p2 : Addr) (ts : List Str) (u2 : Option V), σ = [some (.ref a), some (.ref p2), u2] ∧ H2 p2 = some (.lst (ts.map V.str)) ∧ (∀ t ∈ ts, tb t) ∧ ts.length ≤ 3 * ((S.parts.take i).map Stm.size).sum) ⟨Same.refl _, p, [], _, rfl, s1 _ _ upd_same, by simp, by simp⟩ (fun i σ H2 _ hv => hv.1.seqT hq1) (fun i x σ H2 hx hv => ?_) fun σ H2 hv => ?_
      · obtain ⟨s2, p2, ts, u2, rfl, hp2, htb, hle⟩ := hv
        obtain ⟨B, hB, rB⟩ := RepL.get hRL hx
        have hBm : B ∈ S.parts := List.mem_of_getElem? hB
        have hBd := part_deep hB
        have hsum : ((S.parts.take (i + 1)).map Stm.size).sum = ((S.parts.take i).map Stm.size).sum + B.size := by
          rw [List.take_succ, hB]; simp
        have htot : ((S.parts.take (i + 1)).map Stm.size).sum ≤ (S.parts.map Stm.size).sum := by
          have e : (S.parts.map Stm.size) = ((S.parts.take (i + 1)).map Stm.size) ++ ((S.parts.drop (i + 1)).map Stm.size) := by rw [← List.map_append, List.take_append_drop]
          rw [e, List.sum_append]; omega
        walk_at ""
        refine ⟨x, B, rfl, rB.same (s01.trans s2), hSW.part hBm, by omega, by omega, fun p3 ts3 H3 s3 hp3 htb3 hle3 => ?_⟩
        (try walk_at "")
        refine ⟨_, _, .inl ⟨s3 _ _ hp2, hp3, sz1000 (by rw [List.length_map, List.length_map]; omega), fun r hr' => ?_⟩⟩
        refine ⟨(s2.trans s3).trans (same_new hr' _), r, ts ++ ts3, _, rfl, by rw [upd_same, List.map_append], fun t ht => ?_, by rw [List.length_append]; omega⟩
        rcases List.mem_append.mp ht with h | h
        · exact htb t h
        · exact htb3 t h
      · obtain ⟨s2, p2, ts, u2, rfl, hp2, htb, hle⟩ := hv
        have hxl := Paired.length hRL
        rw [← hxl, List.take_of_length_le (Nat.le_refl _)] at hle
        walk_at ""
        exact k p2 ts H2 (s01.trans s2) hp2 htb (by omega)
end
section
variable {P : Program} {w : World} {K : PySem.W.Frag} {mg : Str → Option Value} {base0 : Heap} {D : Defs}
theorem ok_closed_L (T : Tx K mg D) : FnOk P w K mg base0 CX0 22 D.a_closed_L D.d_closed_L ["_law_ka", "_law_cell"] (spClosed K) := by
  have G_free_L := ok_free_L (P := P) (w := w) (base0 := base0) T 20
  refine T.F_closed_L.ok sc_closed_L (fun vs H Q E h => ?_) (fun cdv A outer s H vs Q E hr h => ?_)
  · obtain ⟨v, S, c, rfl, _⟩ := h; rfl
  obtain ⟨v, S, c, rfl, rS, hSW, hd, hz, k⟩ := h
  have hu := hr.units
  have hr_free_L : Room 21 _ := hr.mono (by decide)
  refine ⟨_, (pss_cons (ps_set (i := 2) sc_closed_L.nd (by rfl) (by walk_at "o") (pe_call G_free_L hr_free_L (by rfl) T.m_free_L T.F_free_L.kp T.b_free_L .nil pass0 (pa_cons (pv 0) pa_nil)))
    (pss_cons (ps_while PassesOwn.never (pt_cmpR (opC_ne K hu) (pv 2) (pe_lst pa_nil) (nomark _)) (pss_cons (ps_set (i := 0) sc_closed_L.nd (by rfl) (by walk_at "o") (pe_tup (pa_cons (pe_ix (ixA K) (pe_lst (pa_cons pe_str (pa_cons pe_str pa_nil))) (pe_op op_modP (pv 1) pe_int) (fun _ _ => rfl)) (pa_cons (pe_ix (ixA K) (pv 2) pe_int (fun _ _ => rfl)) (pa_cons (pv 0) pa_nil)))))
    (pss_cons (ps_set (i := 1) sc_closed_L.nd (by rfl) (by walk_at "o") (pe_op op_fdivP (pv 1) pe_int))
    (pss_one (ps_set (i := 2) sc_closed_L.nd (by rfl) (by walk_at "o") (pe_comp 1 [2] ["_law_letter", "_law_free_here"] ⟨by rfl, by rfl, by rfl, by rfl, by rfl, by rfl, by rfl⟩ (by rfl) (pi_any K (pv 2)) (fun _ _ _ _ => pg_name (i := 0) (show List.Nodup (["_law_letter", "_law_free_here"] : List Str) by decide +kernel) (by rfl) (Or.inl (by rfl)) (Or.inr (by rfl))) (gName_keep (by decide)) (fun _ _ _ _ => pif_one (pt_cmpR (opC_ne K hu) (pv 0) (pe_ix (ixA K) (pv 1) pe_int (fun _ _ => rfl)) (nomark _))) (fun _ _ _ _ => (pv 0))))))))
    (pss_one (ps_ret (pv 0))))), ?_⟩
  walk_at "S"
  walk_at ""
  refine ⟨v, S, rfl, rS, hSW, hd, hz, fun p ts H1 s1 hp1 htb hle => ?_⟩
  refine ⟨CloInv K H1 S ts.length, ⟨ts.length, Same.refl _, v, S, c, p, ts, rfl, rS.same s1, hSW, hp1, htb, rfl, Nat.le_refl _, Nat.le_refl _⟩, fun m σ H2 hv => ?_⟩
  obtain ⟨s2, v2, S2, c2, p2, ts2, rfl, rS2, hSW2, hp2, htb2, hm, hdd, hll⟩ := hv
  walk_at ""
  refine ⟨Nat.zero_le _, fun p3 hp3 => ⟨_, _, strs_repL (SqL.of (keep1 hp3 hp2)), nil_repL (SqL.of upd_same), strs_depL _, ite2 (fun c1 => ?_) fun c1 => ?_⟩⟩
  · obtain ⟨t, r, rfl⟩ : ∃ t r, ts2 = t :: r := by
      cases ts2 with
      | nil => exact absurd rfl c1
      | cons t r => exact ⟨t, r, rfl⟩
    have htt := htb2 t (by simp)
    obtain ⟨o, eo⟩ : ∃ o : Bool, atI [V.str "all", V.str "some"] (c2 % 2) = some (.str (qtx o)) := by
      have h0 := Int.emod_nonneg c2 (show (2 : Int) ≠ 0 by decide)
      have h1 := Int.emod_lt_of_pos c2 (show (0 : Int) < 2 by decide)
      generalize c2 % 2 = j at h0 h1
      obtain rfl | rfl : j = 0 ∨ j = 1 := by omega
      · exact ⟨true, rfl⟩
      · exact ⟨false, rfl⟩
    refine ⟨fun σ' H' => ∃ m', m' < m ∧ CloInv K H1 S ts.length m' σ' H', fun _ _ h => h, sz1000 (by decide), fun p4 hp4 => ?_⟩
    refine ⟨by decide, _, .inl (SqL.of upd_same), _, eo, ?_⟩
    have hp24 := keep1 hp4 (o := .lst [V.str "all", V.str "some"]) (keep1 hp3 (o := .lst []) hp2)
    refine ⟨_, .inl (SqL.of hp24), _, atI_nat (j := 0) rfl, sz1000 (show 3 ≤ 100000 by decide), fun p5 hp5 => ⟨cdiv, ?_⟩⟩
    have s5 := ((same_new hp3 (.lst [])).trans (same_new hp4 (.lst [V.str "all", V.str "some"]))).trans (same_new hp5 (.tup [V.str (qtx o), V.str t, v2]))
    have hp25 : upd (upd (upd H2 p3 (.lst [])) p4 (.lst [V.str "all", V.str "some"])) p5 (.tup [V.str (qtx o), V.str t, v2]) p2 = some (.lst ((t :: r).map V.str)) := keep1 hp5 hp24
    have hp55 : SqT K (upd (upd (upd H2 p3 (.lst [])) p4 (.lst [V.str "all", V.str "some"])) p5 (.tup [V.str (qtx o), V.str t, v2])) p5 [V.str (qtx o), V.str t, v2] := SqT.of upd_same
    generalize upd (upd (upd H2 p3 (.lst [])) p4 (.lst [V.str "all", V.str "some"])) p5 (.tup [V.str (qtx o), V.str t, v2]) = H5 at s5 hp25 hp55
    refine .inl ⟨⟨_, SqL.of hp25⟩, comp_list (xs := (t :: r).map V.str) (fun j acc H6 => H6 = H5 ∧ ∃ ts' : List Str, acc = ts'.map V.str ∧ ts'.length ≤ j - 1 ∧ ∀ x ∈ ts', tb x) ⟨rfl, [], rfl, Nat.le_refl _, by simp⟩ (fun j acc H6 _ hv => hv.1 ▸ SqL.of hp25) (fun j y acc H6 hy hv => ?_) fun acc H6 hv p6 hp6 => ?_⟩
    · obtain ⟨rfl, ts', rfl, hle', htb'⟩ := hv
      rw [List.getElem?_map] at hy
      cases e : (t :: r)[j]? with
      | none => rw [e] at hy; cases hy
      | some x =>
        rw [e] at hy
        cases hy
        have hxx := htb2 x (List.mem_of_getElem? e)
        have hj : j < (t :: r).length := (List.getElem?_eq_some_iff.mp e).1
        refine ⟨sz1000' (by rw [List.length_map]; omega), ?_⟩
        simp only [slotsC, List.replicate_succ, List.replicate_zero, List.map_cons, List.map_nil, List.nil_append, List.cons_append, List.getElem?_cons_zero, List.getElem?_cons_succ, Option.join_some]
        walk_at ""
        refine ⟨_, .inl (SqL.of hp25), _, atI_nat (j := 0) rfl, ?_⟩
        (try walk_at "")
        refine ite2 (fun a1 => ?_) fun _ => ⟨trivial, ts', rfl, by omega, htb'⟩
        have hj0 : j ≠ 0 := by
          rintro rfl
          have : t = x := by simpa using e
          exact a1 this.symm
        refine ⟨trivial, ts' ++ [x], by simp, by rw [List.length_append]; simp only [List.length_singleton]; omega, fun x' hx' => ?_⟩
        rcases List.mem_append.mp hx' with q | q
        · exact htb' x' q
        · rw [List.mem_singleton.mp q]; exact hxx
    · obtain ⟨rfl, ts', rfl, hle', htb'⟩ := hv
      rw [List.length_map] at hle'
      have hlr : (t :: r).length = r.length + 1 := rfl
      refine ⟨ts'.length, by omega, (s2.trans s5).trans (same_new hp6 _), .ref p5, .qu o t S2, _, p6, ts', rfl, ⟨p5, v2, rfl, (same_new hp6 _).seqT hp55, rS2.same (s5.trans (same_new hp6 _))⟩, ⟨htt, hSW2⟩, upd_same, htb', rfl, ?_, by omega⟩
      show S2.deep + 1 + ts'.length ≤ _
      omega
  · refine k S2 v2 _ ((s1.trans s2).trans (same_new hp3 _)) (rS2.same (same_new hp3 _)) hSW2 (by omega)
end
section
variable {P : Program} {w : World} {K : PySem.W.Frag} {mg : Str → Option Value} {base0 : Heap} {D : Defs}
theorem ok_statement_by_L (T : Tx K mg D) : FnOk P w K mg base0 CX0 23 D.a_statement_by_L D.d_statement_by_L ["_law_shape", "_law_cells"] (spStat K) := by
  have G_pile_by_L := ok_pile_by_L (P := P) (w := w) (base0 := base0) T
  have G_closed_L := ok_closed_L (P := P) (w := w) (base0 := base0) T
  refine T.F_statement_by_L.ok sc_statement_by_L (fun vs H Q E h => ?_) (fun cdv A outer s H vs Q E hr h => ?_)
  · obtain ⟨a, sh, ms, rfl, _⟩ := h; rfl
  obtain ⟨a, sh, ms, rfl, hA, hl, h0, k⟩ := h
  have hu := hr.units
  have hr_pile_by_L : Room 6 _ := hr.mono (by decide)
  have hr_closed_L : Room 22 _ := hr.mono (by decide)
  refine ⟨_, (pss_cons (ps_set (i := 2) sc_statement_by_L.nd (by rfl) (by walk_at "o") (pe_call G_pile_by_L hr_pile_by_L (by rfl) T.m_pile_by_L T.F_pile_by_L.kp T.b_pile_by_L .nil pass0 (pa_cons (pv 0) (pa_cons (pv 1) pa_nil))))
    (pss_cons (ps_set (i := 3) sc_statement_by_L.nd (by rfl) (by walk_at "o") (pe_ix (ixA K) (pv 2) (pe_un un_neg pe_int) (fun _ _ => rfl)))
    (pss_cons (ps_for PassesOwn.never (by rfl) (pi_range2 (by rfl) T.z_range (pa_cons pe_int (pa_cons (pe_op op_sub (pe_callB (callA_len K) (by rfl) T.z_len PySem.boot_len (pa_cons (pv 2) pa_nil)) pe_int) pa_nil))) (pg_name (i := 4) sc_statement_by_L.nd (by rfl) (by walk_at "o"))
      (pss_one (ps_set (i := 3) sc_statement_by_L.nd (by rfl) (by walk_at "o") (pe_tup (pa_cons (pe_ix (ixA K) (pe_lst (pa_cons pe_str (pa_cons pe_str (pa_cons pe_str pa_nil)))) (pe_op op_modP (pe_op (opB_add K) (pe_ix (ixA K) (pv 1) pe_int (fun _ _ => rfl)) (pv 4)) pe_int) (fun _ _ => rfl)) (pa_cons (pe_ix (ixA K) (pv 2) (pv 4) (fun _ _ => rfl)) (pa_cons (pv 3) pa_nil)))))))
    (pss_one (ps_ret (pe_call G_closed_L hr_closed_L (by rfl) T.m_closed_L T.F_closed_L.kp T.b_closed_L .nil pass0 (pa_cons (pv 3) (pa_cons (pe_callB (callA_sum K (by rfl)) (by rfl) T.z_sum (by rfl) (pa_cons (pv 1) pa_nil)) pa_nil)))))))), ?_⟩
  walk_at "S"
  walk_at ""
  refine ⟨a, sh, ms, rfl, hA, by omega, h0, fun p us Ss H1 s1 hp hRL hO hle hge => ?_⟩
  obtain ⟨A, S, U, u, rfl, rfl, hRA, hRS⟩ := hRL.last (by intro z; subst z; simp at hge)
  obtain ⟨z', hA', hz', hS1, hS2⟩ := hO.front
  have hUl := Paired.length hRA
  rw [List.length_append] at hle
  simp only [List.length_singleton] at hle
  refine ⟨1, rfl, ?_⟩
  walk_at ""
  refine ⟨_, .inl (SqL.of hp), _, atI_last U u, _, .inl (SqL.of hp), ?_⟩
  have hlen : (U ++ [u]).length = A.length + 1 := by rw [List.length_append, ← hUl]; rfl
  rw [hlen]
  refine ⟨⟨by omega, by omega, by omega, by omega⟩, ?_⟩
  refine forW_range (fun i σ H2 => Same H1 H2 ∧ ∃ (v3 : V) (S3 : Stm) (u4 : Option V), σ = [some (.int sh), some (.ref a), some (.ref p), some v3, u4] ∧ RepS K H2 S3 v3 ∧ SW S3 ∧ S3.deep ≤ ms.length + 1 + i ∧ S3.size + ((A.drop (i + 1)).map Stm.size).sum ≤ ms.length + 1 + i) ⟨Same.refl _, u, S, _, rfl, hRS, hS1, hS2, ?_⟩ (fun i σ H2 hi hv => ?_) fun σ H2 hv => ?_
  · have := hA'.2
    have e : (A.map Stm.size).sum = ((A.take (0 + 1)).map Stm.size).sum + ((A.drop (0 + 1)).map Stm.size).sum := by rw [← List.sum_append, ← List.map_append, List.take_append_drop]
    omega
  · obtain ⟨s2, v3, S3, u4, rfl, rS3, hSW3, hd3, hz3⟩ := hv
    have hi' : i + 1 < A.length := by omega
    obtain ⟨B, hB⟩ : ∃ B, A[i + 1]? = some B := ⟨_, List.getElem?_eq_getElem hi'⟩
    obtain ⟨ub, hub⟩ : ∃ ub, U[i + 1]? = some ub := ⟨_, List.getElem?_eq_getElem (by omega)⟩
    obtain ⟨B', hB', rB⟩ := RepL.get hRA hub
    rw [hB] at hB'
    cases hB'
    have hBO := hA'.1 B (List.mem_of_getElem? hB)
    have hBz : ((A.drop (i + 1)).map Stm.size).sum = B.size + ((A.drop (i + 1 + 1)).map Stm.size).sum := by
      have e := List.drop_eq_getElem_cons hi'
      have eB : A[i + 1] = B := by have := List.getElem?_eq_getElem hi'; rw [hB] at this; exact (Option.some.inj this).symm
      rw [e, eB]; rfl
    have hm2 : 0 < ms.length := by omega
    walk_at ""
    obtain ⟨o, eo⟩ : ∃ o : Bi, atI [V.str "and", V.str "or", V.str "then"] ((ms.getD 0 0 + (1 + (i : Int))) % 3) = some (.str o.txt) := by
      have h0 := Int.emod_nonneg (ms.getD 0 0 + (1 + (i : Int))) (show (3 : Int) ≠ 0 by decide)
      have h1 := Int.emod_lt_of_pos (ms.getD 0 0 + (1 + (i : Int))) (show (0 : Int) < 3 by decide)
      generalize (ms.getD 0 0 + (1 + (i : Int))) % 3 = j at h0 h1
      obtain rfl | rfl | rfl : j = 0 ∨ j = 1 ∨ j = 2 := by omega
      · exact ⟨.and, rfl⟩
      · exact ⟨.or, rfl⟩
      · exact ⟨.thn, rfl⟩
    refine ⟨sz1000 (by decide), fun p4 hp4 => ⟨_, .inl (((s1.trans s2).trans (same_new hp4 _)).seq hA), _, atI_ints (by omega) (by omega), ?_⟩⟩
    (try walk_at "")
    refine ⟨by decide, _, .inl (SqL.of upd_same), _, eo, _, .inl (SqL.of (keep1 hp4 (s2 _ _ hp))), ub, ?_, sz1000 (show 3 ≤ 100000 by decide), fun p5 hp5 => ?_⟩
    · rw [show (1 : Int) + (i : Int) = ((i + 1 : Nat) : Int) by omega]
      exact atI_nat (by rw [List.getElem?_append_left (by omega)]; exact hub)
    · have s5 := (same_new hp4 (.lst [V.str "and", V.str "or", V.str "then"])).trans (same_new hp5 (.tup [V.str o.txt, ub, v3]))
      refine ⟨s2.trans s5, _, .bi o B S3, _, rfl, ⟨p5, ub, v3, rfl, SqT.of upd_same, rB.same (s2.trans s5), rS3.same s5⟩, ⟨hBO.1, hSW3⟩, ?_, ?_⟩
      · show max B.deep S3.deep + 1 ≤ _
        have := hBO.2
        omega
      · show B.size + S3.size + 1 + _ ≤ _
        omega
  · obtain ⟨s2, v3, S3, u4, rfl, rS3, hSW3, hd3, hz3⟩ := hv
    have hn : ((A.length + 1 : Nat) : Int) - 1 - 1 = (A.length : Int) - 1 := by omega
    walk_at ""
    refine ⟨_, (s1.trans s2).seq hA, v3, S3, _, rfl, rS3, hSW3, by omega, by omega, fun S' v' H3 s3 rS' hSW' hd' => ?_⟩
    exact k S' v' H3 ((s1.trans s2).trans s3) rS' hSW' (by omega)
end
section
variable {P : Program} {w : World} {K : PySem.W.Frag} {mg : Str → Option Value} {base0 : Heap} {D : Defs}
theorem ok_parts (T : Tx K mg D) : FnOk P w K mg base0 CX0 1 D.a_parts D.d_parts ["A"] (spParts K) := by
  refine T.F_parts.ok sc_parts (fun vs H Q E h => ?_) (fun cdv A outer s H vs Q E hr h => ?_)
  · obtain ⟨v, S, rfl, _⟩ := h; rfl
  obtain ⟨v, S, rfl, rS, k⟩ := h
  have hu := hr.units
  refine ⟨_, (pss_cons (ps_if (pt_cmpR (opB_eq K hu) (pe_ix (ixA K) (pv 0) pe_int (fun _ _ => rfl)) pe_str (nomark _)) (pss_one (ps_ret (pe_tup pa_nil))) pss_nil)
    (pss_cons (ps_if (pt_cmpR (opA_in K) (pe_ix (ixA K) (pv 0) pe_int (fun _ _ => rfl)) (T.g_QUANTIFIERS (by rfl)) (by rfl)) (pss_one (ps_ret (pe_tup (pa_cons (pe_ix (ixA K) (pv 0) pe_int (fun _ _ => rfl)) pa_nil)))) pss_nil)
    (pss_one (ps_ret (pe_slice (slB K) (pv 0) (po_some pe_int) po_none))))), ?_⟩
  walk_at "S"
  cases S with
  | is x ts =>
    obtain ⟨a, b, rfl, h2, h3⟩ := rS
    walk_at ""
    refine ⟨_, .inr h2, _, atI_nat (j := 0) rfl, ?_⟩
    walk_at ""
    refine ⟨(by show 0 ≤ sizeLine; decide), fun p hp => k p [] _ (same_new hp _) (SqT.of upd_same) .nil⟩
  | fls =>
    obtain ⟨a, rfl, h2⟩ := rS
    walk_at ""
    refine ⟨_, .inr h2, _, atI_nat (j := 0) rfl, ?_⟩
    walk_at ""
    rw [if_neg (by decide +kernel)]
    refine ⟨_, .inr h2, _, atI_nat (j := 0) rfl, ?_⟩
    (try walk_at "")
    refine ⟨_, .inr (T.q_QUANTIFIERS _), rfl, by decide, ?_⟩
    rw [if_neg (by decide +kernel)]
    exact ⟨_, .inr ⟨h2, fun p H1 s1 q1 => k p _ _ s1 q1 .nil⟩⟩
  | neg B =>
    obtain ⟨a, u, rfl, h2, h3⟩ := rS
    walk_at ""
    refine ⟨_, .inr h2, _, atI_nat (j := 0) rfl, ?_⟩
    walk_at ""
    rw [if_neg (by decide +kernel)]
    refine ⟨_, .inr h2, _, atI_nat (j := 0) rfl, ?_⟩
    (try walk_at "")
    refine ⟨_, .inr (T.q_QUANTIFIERS _), rfl, by decide, ?_⟩
    rw [if_neg (by decide +kernel)]
    exact ⟨_, .inr ⟨h2, fun p H1 s1 q1 => k p _ _ s1 q1 (.cons (h3.same s1) .nil)⟩⟩
  | bi o B C =>
    obtain ⟨a, u, u', rfl, h2, h3, h4⟩ := rS
    walk_at ""
    refine ⟨_, .inr h2, _, atI_nat (j := 0) rfl, ?_⟩
    walk_at ""
    rw [if_neg (bi_is o)]
    refine ⟨_, .inr h2, _, atI_nat (j := 0) rfl, ?_⟩
    (try walk_at "")
    refine ⟨_, .inr (T.q_QUANTIFIERS _), rfl, by decide, ?_⟩
    rw [bi_no_quant, if_neg (by decide)]
    exact ⟨_, .inr ⟨h2, fun p H1 s1 q1 => k p _ _ s1 q1 (.cons (h3.same s1) (.cons (h4.same s1) .nil))⟩⟩
  | qu q X B =>
    obtain ⟨a, u, rfl, h2, h3⟩ := rS
    walk_at ""
    refine ⟨_, .inr h2, _, atI_nat (j := 0) rfl, ?_⟩
    walk_at ""
    rw [if_neg (qu_is q)]
    refine ⟨_, .inr h2, _, atI_nat (j := 0) rfl, ?_⟩
    (try walk_at "")
    refine ⟨_, .inr (T.q_QUANTIFIERS _), rfl, by decide, ?_⟩
    rw [qu_quant, if_pos rfl]
    refine ⟨_, .inr h2, _, atI_nat (j := 2) rfl, (by show 1 ≤ sizeLine; decide), fun p hp => k p _ _ (same_new hp _) (SqT.of upd_same) (.cons (h3.same (same_new hp _)) .nil)⟩
end
section
variable {P : Program} {w : World} {K : PySem.W.Frag} {mg : Str → Option Value} {base0 : Heap} {D : Defs}
theorem seq_cut {a b : TS} {Dd : Ends} {σ : St} {H : Hp} (R : St → Hp → Prop) (ha : ∀ N : St → Hp → Prop, (∀ σ' H', R σ' H' → N σ' H') → a { Dd with nx := N } σ H) (hb : ∀ σ' H', R σ' H' → b Dd σ' H') : tSeq a b Dd σ H := ha _ hb
theorem Same.fresh {H H2 : Hp} {q : Addr} (s : Same H H2) (h : H2 q = none) : H q = none := by
  cases e : H q with
  | none => rfl
  | some u => rw [s _ _ e] at h; cases h
def opnB (told : Bool) : Stm → Bool
  | .qu q _ _ => q != told
  | _ => false
def useB (told : Bool) : Stm → Bool
  | .qu q _ _ => q == told
  | _ => false
def psB (told : Bool) : Stm → List (Stm × Bool)
  | .is _ _ => []
  | .fls => []
  | .neg B => [(B, !told)]
  | .bi .thn B C => [(B, !told), (C, told)]
  | .bi _ B C => [(B, told), (C, told)]
  | .qu _ _ B => [(B, told)]
def flatB : Stm → Bool → Bool → Bool
  | .is _ _, _, _ => true
  | .fls, _, _ => true
  | .neg B, t, w => flatB B (!t) w
  | .bi .thn B C, t, w => flatB B (!t) w && flatB C t w
  | .bi _ B C, t, w => flatB B t w && flatB C t w
  | .qu q _ B, t, w => if w && (q != t) then false else flatB B t (w || (q == t))
def cntB : Stm → Bool → Nat
  | .is _ _, _ => 0
  | .fls, _ => 0
  | .neg B, t => cntB B (!t)
  | .bi .thn B C, t => cntB B (!t) + cntB C t
  | .bi _ B C, t => cntB B t + cntB C t
  | .qu q _ B, t => (if q != t then 1 else 0) + cntB B t
theorem flatB_ps (S : Stm) (t w : Bool) : flatB S t w = if w && opnB t S then false else (psB t S).all fun x => flatB x.1 x.2 (w || useB t S) := by
  cases S with
  | bi o B C => cases o <;> simp [flatB, opnB, useB, psB]
  | _ => simp [flatB, opnB, useB, psB]
theorem cntB_ps (S : Stm) (t : Bool) : cntB S t = (if opnB t S then 1 else 0) + ((psB t S).map fun x => cntB x.1 x.2).sum := by
  cases S with
  | bi o B C => cases o <;> simp [cntB, opnB, psB]
  | _ => simp [cntB, opnB, psB]
theorem psB_deep {S : Stm} {t : Bool} {x : Stm × Bool} (h : x ∈ psB t S) : x.1.deep < S.deep := by
  cases S with
  | is _ _ => cases h
  | fls => cases h
  | neg B => simp [psB] at h; subst h; simp only [Stm.deep]; omega
  | bi o B C => cases o <;> (simp [psB] at h; rcases h with rfl | rfl <;> (simp only [Stm.deep]; omega))
  | qu q X B => simp [psB] at h; subst h; simp only [Stm.deep]; omega
def RepP (K : PySem.W.Frag) (H : Hp) (l : List (Stm × Bool)) (us : List V) : Prop := Paired (fun (x : Stm × Bool) v => ∃ a u, v = .ref a ∧ SqT K H a [u, .bl x.2] ∧ RepS K H x.1 u) l us
theorem RepP.same {H H' : Hp} {l : List (Stm × Bool)} {us : List V} (e : Same H H') (h : RepP K H l us) : RepP K H' l us := Paired.mapP h fun _ _ ⟨a, u, e1, h1, h2⟩ => ⟨a, u, e1, e.seqT h1, h2.same e⟩
theorem RepP.snoc {H : Hp} {l : List (Stm × Bool)} {us : List V} {x : Stm × Bool} {v : V} (h : RepP K H l us) (hv : ∃ a u, v = .ref a ∧ SqT K H a [u, .bl x.2] ∧ RepS K H x.1 u) : RepP K H (l ++ [x]) (us ++ [v]) := by
  induction h with
  | nil => exact .cons hv .nil
  | cons h1 _ ih => exact .cons h1 ih
theorem tag_qu {S : Stm} {q : Bool} (h : S.tag = qtx q) : ∃ X B, S = .qu q X B := by
  cases S with
  | is x ts => exact absurd h ((by decide +kernel : ∀ q, ¬ (Str.ofString "is" = qtx q)) q)
  | fls => exact absurd h ((by decide +kernel : ∀ q, ¬ (Str.ofString "false" = qtx q)) q)
  | neg B => exact absurd h ((by decide +kernel : ∀ q, ¬ (Str.ofString "not" = qtx q)) q)
  | bi o B C => exact absurd h ((by intro o q; cases o <;> cases q <;> decide +kernel : ∀ (o : Bi) q, ¬ (o.txt = qtx q)) o q)
  | qu o X B =>
    have : o = q := (by decide +kernel : ∀ o q, qtx o = qtx q → o = q) o q h
    subst this
    exact ⟨X, B, rfl⟩
theorem opn_tag (S : Stm) (t : Bool) : decide (S.tag = (if t = true then Str.ofString "some" else Str.ofString "all")) = opnB t S := by
  have e : (if t = true then Str.ofString "some" else Str.ofString "all") = qtx (!t) := by cases t <;> rfl
  rw [e]
  by_cases h : S.tag = qtx (!t)
  · obtain ⟨X, B, rfl⟩ := tag_qu h
    rw [decide_eq_true h]
    cases t <;> rfl
  · rw [decide_eq_false h]
    cases S with
    | qu q X B =>
      have : ¬ q = !t := fun e => h (by rw [e]; rfl)
      show false = (q != t)
      cases q <;> cases t <;> simp_all
    | _ => rfl
def spOpn (K : PySem.W.Frag) : Sp := fun vs H Q _ => ∃ v S t, vs = [v, .bl t] ∧ RepS K H S v ∧ Q (.bl (opnB t S)) H
theorem ok_is_to_open (T : Tx K mg D) : FnOk P w K mg base0 CX0 1 D.a_is_to_open D.d_is_to_open ["A", "told"] (spOpn K) := by
  refine T.F_is_to_open.ok sc_is_to_open (fun vs H Q E h => ?_) (fun cdv A outer s H vs Q E hr h => ?_)
  · obtain ⟨v, S, t, rfl, _⟩ := h; rfl
  obtain ⟨v, S, t, rfl, rS, k⟩ := h
  have hu := hr.units
  refine ⟨_, (pss_one (ps_ret (pe_cmpR (opB_eq K hu) (pe_ix (ixA K) (pv 0) pe_int (fun _ _ => rfl)) (pe_ifExp (pt_val (pv 1)) pe_str pe_str) (nomark _)))), ?_⟩
  walk_at "S"
  obtain ⟨a, xs, rfl, h2⟩ := rS.tag
  walk_at ""
  refine ⟨_, .inr h2, _, atI_nat (j := 0) rfl, ?_⟩
  (try walk_at "")
  rw [← opn_tag] at k
  cases t <;> exact k
def spUse (K : PySem.W.Frag) : Sp := fun vs H Q _ => ∃ v S t, vs = [v, .bl t] ∧ RepS K H S v ∧ Q (.bl (useB t S)) H
theorem ok_is_to_use (T : Tx K mg D) : FnOk P w K mg base0 CX0 2 D.a_is_to_use D.d_is_to_use ["A", "told"] (spUse K) := by
  have G_is_to_open := ok_is_to_open (P := P) (w := w) (base0 := base0) T
  refine T.F_is_to_use.ok sc_is_to_use (fun vs H Q E h => ?_) (fun cdv A outer s H vs Q E hr h => ?_)
  · obtain ⟨v, S, t, rfl, _⟩ := h; rfl
  obtain ⟨v, S, t, rfl, rS, k⟩ := h
  have hu := hr.units
  have hr_is_to_open : Room 1 _ := hr.mono (by decide)
  refine ⟨_, (pss_one (ps_ret (pe_and (pe_cmpR (opA_in K) (pe_ix (ixA K) (pv 0) pe_int (fun _ _ => rfl)) (T.g_QUANTIFIERS (by rfl)) (by rfl)) (pe_one (pe_not (pe_call G_is_to_open hr_is_to_open (by rfl) T.m_is_to_open T.F_is_to_open.kp T.b_is_to_open .nil pass0 (pa_cons (pv 0) (pa_cons (pv 1) pa_nil)))))))), ?_⟩
  walk_at "S"
  obtain ⟨a, xs, rfl, h2⟩ := rS.tag
  walk_at ""
  refine ⟨_, .inr h2, _, atI_nat (j := 0) rfl, _, .inr (T.q_QUANTIFIERS _), rfl, rfl, ite2 (fun c => ⟨_, S, t, rfl, rS, _, rfl, ?_⟩) fun c => ?_⟩
  · have e : (!opnB t S) = useB t S := by
      cases S with
      | qu q X B => cases q <;> cases t <;> rfl
      | is x ts => exact absurd c (show ¬ (inV (.str "is") [.str "all", .str "some"] = true) by decide +kernel)
      | fls => exact absurd c (show ¬ (inV (.str "false") [.str "all", .str "some"] = true) by decide +kernel)
      | neg B => exact absurd c (show ¬ (inV (.str "not") [.str "all", .str "some"] = true) by decide +kernel)
      | bi o B C => exact absurd c ((by intro o; cases o <;> decide +kernel : ∀ o : Bi, ¬ (inV (.str o.txt) [.str "all", .str "some"] = true)) o)
    rw [e]; exact k
  · have e : useB t S = false := by
      cases S with
      | qu q X B => exact absurd ((by intro q; cases q <;> decide +kernel : ∀ q, inV (.str (qtx q)) [.str "all", .str "some"] = true) q) c
      | _ => rfl
    rw [e] at k; exact k
theorem psB_parts {S : Stm} {t : Bool} (h1 : ¬ S.tag = "not") (h2 : ¬ S.tag = "then") : psB t S = S.parts.map fun B => (B, t) := by
  cases S with
  | neg B => exact absurd rfl h1
  | bi o B C => cases o <;> first | exact absurd rfl h2 | rfl
  | _ => rfl
theorem tag_not {S : Stm} (h : S.tag = "not") : ∃ B, S = .neg B := by
  cases S with
  | neg B => exact ⟨B, rfl⟩
  | is x ts => exact absurd h (show ¬ (Str.ofString "is" = Str.ofString "not") by decide +kernel)
  | fls => exact absurd h (show ¬ (Str.ofString "false" = Str.ofString "not") by decide +kernel)
  | bi o B C => exact absurd h ((by intro o; cases o <;> decide +kernel : ∀ o : Bi, ¬ (o.txt = Str.ofString "not")) o)
  | qu o X B => exact absurd h ((by decide +kernel : ∀ o, ¬ (qtx o = Str.ofString "not")) o)
theorem tag_thn {S : Stm} (h : S.tag = "then") : ∃ B C, S = .bi .thn B C := by
  cases S with
  | neg B => exact absurd h (show ¬ (Str.ofString "not" = Str.ofString "then") by decide +kernel)
  | is x ts => exact absurd h (show ¬ (Str.ofString "is" = Str.ofString "then") by decide +kernel)
  | fls => exact absurd h (show ¬ (Str.ofString "false" = Str.ofString "then") by decide +kernel)
  | bi o B C =>
    have : o = .thn := (by intro o h; cases o <;> first | rfl | exact absurd h (by decide +kernel) : ∀ o : Bi, o.txt = Str.ofString "then" → o = .thn) o h
    subst this
    exact ⟨B, C, rfl⟩
  | qu o X B => exact absurd h ((by decide +kernel : ∀ o, ¬ (qtx o = Str.ofString "then")) o)
def spPS (K : PySem.W.Frag) : Sp := fun vs H Q _ => ∃ v S t, vs = [v, .bl t] ∧ RepS K H S v ∧ ∀ p us H', Same H H' → H' p = some (.lst us) → RepP K H' (psB t S) us → Q (.ref p) H'
theorem ok_parts_and_sides (T : Tx K mg D) : FnOk P w K mg base0 CX0 2 D.a_parts_and_sides D.d_parts_and_sides ["A", "told"] (spPS K) := by
  have G_parts := ok_parts (P := P) (w := w) (base0 := base0) T
  refine T.F_parts_and_sides.ok sc_parts_and_sides (fun vs H Q E h => ?_) (fun cdv A outer s H vs Q E hr h => ?_)
  · obtain ⟨v, S, t, rfl, _⟩ := h; rfl
  obtain ⟨v, S, t, rfl, rS, k⟩ := h
  have hu := hr.units
  have hr_parts : Room 1 _ := hr.mono (by decide)
  refine ⟨_, (pss_cons (ps_if (pt_cmpR (opB_eq K hu) (pe_ix (ixA K) (pv 0) pe_int (fun _ _ => rfl)) pe_str (nomark _)) (pss_one (ps_ret (pe_lst (pa_cons (pe_tup (pa_cons (pe_ix (ixA K) (pv 0) pe_int (fun _ _ => rfl)) (pa_cons (pe_not (pv 1)) pa_nil))) pa_nil)))) pss_nil)
    (pss_cons (ps_if (pt_cmpR (opB_eq K hu) (pe_ix (ixA K) (pv 0) pe_int (fun _ _ => rfl)) pe_str (nomark _)) (pss_one (ps_ret (pe_lst (pa_cons (pe_tup (pa_cons (pe_ix (ixA K) (pv 0) pe_int (fun _ _ => rfl)) (pa_cons (pe_not (pv 1)) pa_nil))) (pa_cons (pe_tup (pa_cons (pe_ix (ixA K) (pv 0) pe_int (fun _ _ => rfl)) (pa_cons (pv 1) pa_nil))) pa_nil))))) pss_nil)
    (pss_one (ps_ret (pe_comp 1 [1] ["part", "told"] ⟨by rfl, by rfl, by rfl, by rfl, by rfl, by rfl, by rfl⟩ (by rfl) (pi_any K (pe_call G_parts hr_parts (by rfl) T.m_parts T.F_parts.kp T.b_parts .nil pass0 (pa_cons (pv 0) pa_nil))) (fun _ _ _ _ => pg_name (i := 0) (show List.Nodup (["part", "told"] : List Str) by decide +kernel) (by rfl) (Or.inl (by rfl)) (Or.inr (by rfl))) (gName_keep (by decide)) (fun _ _ _ _ => pif_nil) (fun _ _ _ _ => (pe_tup (pa_cons (pv 0) (pa_cons (pv 1) pa_nil))))))))), ?_⟩
  walk_at "S"
  obtain ⟨a, xs, rfl, h2⟩ := rS.tag
  refine seq_ifP (c := S.tag = "not") (fun Qb q => ?_) (fun c1 => ?_) fun c1 => ?_
  · walk_at ""
    refine ⟨_, .inr h2, _, atI_nat (j := 0) rfl, ?_⟩
    (try walk_at "")
    exact q
  · walk_at ""
    obtain ⟨B, rfl⟩ := tag_not c1
    obtain ⟨a', u, e, h3, rB⟩ := rS
    cases e
    refine ⟨_, .inr h3, _, atI_nat (j := 1) rfl, sz1000 (show 2 ≤ 100000 by decide), fun p hp => ⟨sz1000 (show 1 ≤ 100000 by decide), fun q hq => ?_⟩⟩
    have s1 := same_new hp (.tup [u, V.bl !t])
    have s2 := same_new hq (.lst [V.ref p])
    exact k q _ _ (s1.trans s2) upd_same (.cons ⟨p, u, rfl, s2.seqT (SqT.of upd_same), rB.same (s1.trans s2)⟩ .nil)
  refine seq_ifP (c := S.tag = "then") (fun Qb q => ?_) (fun c2 => ?_) fun c2 => ?_
  · walk_at ""
    refine ⟨_, .inr h2, _, atI_nat (j := 0) rfl, ?_⟩
    (try walk_at "")
    exact q
  · walk_at ""
    obtain ⟨B, C, rfl⟩ := tag_thn c2
    obtain ⟨a', u, u', e, h3, rB, rC⟩ := rS
    cases e
    refine ⟨_, .inr h3, _, atI_nat (j := 1) rfl, sz1000 (show 2 ≤ 100000 by decide), fun p hp => ?_⟩
    have s1 := same_new hp (.tup [u, V.bl !t])
    refine ⟨_, .inr (s1.seqT h3), _, atI_nat (j := 2) rfl, sz1000 (show 2 ≤ 100000 by decide), fun p2 hp2 => ⟨sz1000 (show 2 ≤ 100000 by decide), fun q hq => ?_⟩⟩
    have s2 := same_new hp2 (.tup [u', V.bl t])
    have s3 := same_new hq (.lst [V.ref p, V.ref p2])
    have s13 := (s1.trans s2).trans s3
    exact k q _ _ s13 upd_same (.cons ⟨p, u, rfl, (s2.trans s3).seqT (SqT.of upd_same), rB.same s13⟩ (.cons ⟨p2, u', rfl, s3.seqT (SqT.of upd_same), rC.same s13⟩ .nil))
  walk_at ""
  refine ⟨_, S, rfl, rS, fun p us H1 s1 hp hR => ?_⟩
  (try walk_at "")
  refine .inr ⟨⟨_, hp⟩, ?_⟩
  refine comp_tup (xs := us) (fun i acc H2 => Same H1 H2 ∧ RepP K H2 ((S.parts.take i).map fun B => (B, t)) acc ∧ acc.length = i) ⟨Same.refl _, Paired.nil, rfl⟩ (fun i acc H2 _ hv => hv.1.seqT hp) (fun i x acc H2 hx hv => ?_) fun acc H2 hv q hq => ?_
  · obtain ⟨s2, hP, hal⟩ := hv
    have hi := (List.getElem?_eq_some_iff.mp hx).1
    have h3 : S.parts.length ≤ 3 := by
      cases S <;> simp [Stm.parts]
    have hl := Paired.length hR
    obtain ⟨B, hB, rB⟩ := hR.get hx
    refine ⟨sz1000' (by omega), ?_⟩
    simp only [slotsC, List.replicate_succ, List.replicate_zero, List.map_cons, List.map_nil, List.nil_append, List.cons_append, List.getElem?_cons_zero, List.getElem?_cons_succ, Option.join_some]
    walk_at ""
    refine ⟨sz1000 (show 2 ≤ 100000 by decide), fun r hr' => ?_⟩
    have s3 := same_new hr' (.tup [x, V.bl t])
    refine ⟨s2.trans s3, ?_, by rw [List.length_append, hal]; rfl⟩
    rw [List.take_succ, hB]
    simp only [Option.toList_some, List.map_append, List.map_cons, List.map_nil]
    exact RepP.snoc (hP.same s3) ⟨r, x, rfl, SqT.of upd_same, rB.same (s2.trans s3)⟩
  · obtain ⟨s2, hP, hal⟩ := hv
    have hl := Paired.length hR
    rw [← hl, List.take_length, ← psB_parts c1 c2] at hP
    exact k q acc _ ((s1.trans s2).trans (same_new hq _)) upd_same (hP.same (same_new hq _))
end
section
variable {P : Program} {w : World} {K : PySem.W.Frag} {mg : Str → Option Value} {base0 : Heap} {D : Defs}
def spFlat (K : PySem.W.Frag) (d : Nat) : Sp := fun vs H Q _ => ∃ v S t w, vs = [v, .bl t, .bl w] ∧ RepS K H S v ∧ S.deep ≤ d ∧ ∀ H', Same H H' → Q (.bl (flatB S t w)) H'
theorem RepP.at {H : Hp} : ∀ {l : List (Stm × Bool)} {us : List V}, RepP K H l us → ∀ {i : Nat} {v : V}, us[i]? = some v → ∃ x, l[i]? = some x ∧ ∃ a u, v = .ref a ∧ SqT K H a [u, .bl x.2] ∧ RepS K H x.1 u
  | _, _, .nil, i, v, h => by simp at h
  | _, _, .cons (a := x) h1 h2, 0, v, h => by simp at h; subst h; exact ⟨x, rfl, h1⟩
  | _, _, .cons h1 h2, i + 1, v, h => RepP.at h2 (i := i) (by simpa using h)
theorem psB_len (S : Stm) (t : Bool) : (psB t S).length ≤ 2 := by
  cases S with
  | bi o B C => cases o <;> simp [psB]
  | _ => simp [psB]
theorem ok_is_flat (T : Tx K mg D) : ∀ d : Nat, FnOk P w K mg base0 CX0 (d + 3) D.a_is_flat D.d_is_flat ["A", "told", "within_used"] (spFlat K d)
  | 0 => by
    refine T.F_is_flat.ok sc_is_flat (fun vs H Q E h => ?_) (fun cdv A outer s H vs Q E hr h => ?_)
    · obtain ⟨v, S, t, w, rfl, _⟩ := h; rfl
    obtain ⟨v, S, t, w, rfl, rS, hd, k⟩ := h
    have := Stm.deep_pos S
    omega
  | d + 1 => by
    have G_is_flat := ok_is_flat T d
    have G_is_to_open := ok_is_to_open (P := P) (w := w) (base0 := base0) T
    have G_is_to_use := ok_is_to_use (P := P) (w := w) (base0 := base0) T
    have G_parts_and_sides := ok_parts_and_sides (P := P) (w := w) (base0 := base0) T
    refine T.F_is_flat.ok sc_is_flat (fun vs H Q E h => ?_) (fun cdv A outer s H vs Q E hr h => ?_)
    · obtain ⟨v, S, t, w, rfl, _⟩ := h; rfl
    obtain ⟨v, S, t, w, rfl, rS, hd, k⟩ := h
    have hu := hr.units
    have hr_is_flat : Room (d + 3) _ := hr.mono (by omega)
    have hr_is_to_open : Room 1 _ := hr.mono (by omega)
    have hr_is_to_use : Room 2 _ := hr.mono (by omega)
    have hr_parts_and_sides : Room 2 _ := hr.mono (by omega)
    refine ⟨_, (pss_cons (ps_if (PW.pt (pw_and (pt_val (pv 2)) (pw_and1 (pt_val (pe_call G_is_to_open hr_is_to_open (by rfl) T.m_is_to_open T.F_is_to_open.kp T.b_is_to_open .nil pass0 (pa_cons (pv 0) (pa_cons (pv 1) pa_nil))))))) (pss_one (ps_ret pe_bl)) pss_nil)
    (pss_cons (ps_set (i := 3) sc_is_flat.nd (by rfl) (by walk_at "o") (pe_or (pv 2) (pe_one (pe_call G_is_to_use hr_is_to_use (by rfl) T.m_is_to_use T.F_is_to_use.kp T.b_is_to_use .nil pass0 (pa_cons (pv 0) (pa_cons (pv 1) pa_nil))))))
    (pss_one (ps_ret (pe_callB (callA_all K (by rfl)) (by rfl) T.z_all (by rfl) (pa_cons (pe_comp 2 [3] ["part", "side", "within"] ⟨by rfl, by rfl, by rfl, by rfl, by rfl, by rfl, by rfl⟩ (by rfl) (pi_any K (pe_call G_parts_and_sides hr_parts_and_sides (by rfl) T.m_parts_and_sides T.F_parts_and_sides.kp T.b_parts_and_sides .nil pass0 (pa_cons (pv 0) (pa_cons (pv 1) pa_nil)))) (fun _ _ _ _ => pg_tup (by rfl) (pgs_cons (pg_name (i := 0) (show List.Nodup (["part", "side", "within"] : List Str) by decide +kernel) (by rfl) (Or.inl (by rfl)) (Or.inr (by rfl))) (pgs_cons (pg_name (i := 1) (show List.Nodup (["part", "side", "within"] : List Str) by decide +kernel) (by rfl) (Or.inl (by rfl)) (Or.inr (by rfl))) pgs_nil))) (gTup2_keep (by decide)) (fun _ _ _ _ => pif_nil) (fun _ _ _ _ => (pe_call G_is_flat hr_is_flat (by rfl) T.m_is_flat T.F_is_flat.kp T.b_is_flat .nil pass0 (pa_cons (pv 0) (pa_cons (pv 1) (pa_cons (pv 2) pa_nil)))))) pa_nil)))))), ?_⟩
    walk_at "S"
    rw [flatB_ps] at k
    refine seq_ifP (c := (w && opnB t S) = true) (fun Qb q => ?_) (fun c1 => ?_) fun c1 => ?_
    · walk_at ""
      cases w with
      | false => exact q
      | true =>
        rw [Bool.true_and, Bool.decide_eq_true] at q
        exact ⟨v, S, t, rfl, rS, _, rfl, q⟩
    · walk_at ""
      rw [if_pos c1] at k
      exact k _ (Same.refl _)
    rw [if_neg c1] at k
    refine seq_cut (fun σ' H' => H' = H ∧ σ' = [some v, some (.bl t), some (.bl w), some (.bl (w || useB t S))]) (fun N hN => ?_) fun σ' H' hv => ?_
    · walk_at ""
      cases w with
      | true => exact hN _ _ ⟨rfl, rfl⟩
      | false => exact ⟨v, S, t, rfl, rS, hN _ _ ⟨rfl, rfl⟩⟩
    obtain ⟨rfl, rfl⟩ := hv
    generalize (w || useB t S) = ww at k
    walk_at ""
    refine ⟨v, S, t, rfl, rS, fun p us H1 s1 hp hP => ?_⟩
    (try walk_at "")
    refine .inl ⟨⟨_, SqL.of hp⟩, ?_⟩
    refine comp_list (xs := us) (fun i acc H2 => Same H1 H2 ∧ acc = ((psB t S).take i).map fun x => V.bl (flatB x.1 x.2 ww)) ⟨Same.refl _, rfl⟩ (fun i acc H2 _ hv => hv.1.seq (SqL.of hp)) (fun i x acc H2 hx hv => ?_) fun acc H2 hv q hq => ?_
    · obtain ⟨s2, rfl⟩ := hv
      have hi := (List.getElem?_eq_some_iff.mp hx).1
      have hl := Paired.length hP
      have h2 := psB_len S t
      obtain ⟨y, hy, a, u, rfl, ha, ru⟩ := hP.at hx
      have hyd := psB_deep (List.mem_of_getElem? hy)
      refine ⟨sz1000' (by rw [List.length_map, List.length_take]; omega), ?_⟩
      simp only [slotsC, List.replicate_succ, List.replicate_zero, List.map_cons, List.map_nil, List.nil_append, List.cons_append, List.getElem?_cons_zero, List.getElem?_cons_succ, Option.join_some]
      walk_at ""
      refine ⟨_, s2.seqT ha, rfl, ?_⟩
      (try walk_at "")
      refine ⟨u, y.1, y.2, ww, rfl, ru.same s2, by omega, fun H3 s3 => ⟨s2.trans s3, ?_⟩⟩
      rw [List.take_succ, hy]
      simp
    · obtain ⟨s2, rfl⟩ := hv
      (try walk_at "")
      have hl := Paired.length hP
      rw [← hl, List.take_length]
      refine ⟨(psB t S).map fun x => flatB x.1 x.2 ww, SqL.of (by rw [upd_same, List.map_map]; rfl), ?_⟩
      have e : ((psB t S).map fun x => flatB x.1 x.2 ww).all id = (psB t S).all fun x => flatB x.1 x.2 ww := by rw [List.all_map]; rfl
      rw [e]
      exact k _ ((s1.trans s2).trans (same_new hq _))
def spCnt (K : PySem.W.Frag) (d : Nat) : Sp := fun vs H Q _ => ∃ v S t, vs = [v, .bl t] ∧ RepS K H S v ∧ S.deep ≤ d ∧ ∀ H', Same H H' → Q (.int (cntB S t)) H'
theorem sum_cast {α : Type} (f : α → Nat) : ∀ l : List α, (l.map fun x => ((f x : Nat) : Int)).sum = (((l.map f).sum : Nat) : Int)
  | [] => rfl
  | x :: l => by rw [List.map_cons, List.sum_cons, sum_cast f l, List.map_cons, List.sum_cons]; omega
theorem ok_count_to_open (T : Tx K mg D) : ∀ d : Nat, FnOk P w K mg base0 CX0 (d + 3) D.a_count_to_open D.d_count_to_open ["A", "told"] (spCnt K d)
  | 0 => by
    refine T.F_count_to_open.ok sc_count_to_open (fun vs H Q E h => ?_) (fun cdv A outer s H vs Q E hr h => ?_)
    · obtain ⟨v, S, t, rfl, _⟩ := h; rfl
    obtain ⟨v, S, t, rfl, rS, hd, k⟩ := h
    have := Stm.deep_pos S
    omega
  | d + 1 => by
    have G_count_to_open := ok_count_to_open T d
    have G_is_to_open := ok_is_to_open (P := P) (w := w) (base0 := base0) T
    have G_parts_and_sides := ok_parts_and_sides (P := P) (w := w) (base0 := base0) T
    refine T.F_count_to_open.ok sc_count_to_open (fun vs H Q E h => ?_) (fun cdv A outer s H vs Q E hr h => ?_)
    · obtain ⟨v, S, t, rfl, _⟩ := h; rfl
    obtain ⟨v, S, t, rfl, rS, hd, k⟩ := h
    have hu := hr.units
    have hr_count_to_open : Room (d + 3) _ := hr.mono (by omega)
    have hr_is_to_open : Room 1 _ := hr.mono (by omega)
    have hr_parts_and_sides : Room 2 _ := hr.mono (by omega)
    refine ⟨_, (pss_cons (ps_set (i := 2) sc_count_to_open.nd (by rfl) (by walk_at "o") (pe_ifExp (pt_val (pe_call G_is_to_open hr_is_to_open (by rfl) T.m_is_to_open T.F_is_to_open.kp T.b_is_to_open .nil pass0 (pa_cons (pv 0) (pa_cons (pv 1) pa_nil)))) pe_int pe_int))
    (pss_one (ps_ret (pe_op (opB_add K) (pv 2) (pe_callB (callA_sum K (by rfl)) (by rfl) T.z_sum (by rfl) (pa_cons (pe_comp 2 [] ["part", "side"] ⟨by rfl, by rfl, by rfl, by rfl, by rfl, by rfl, by rfl⟩ (by rfl) (pi_any K (pe_call G_parts_and_sides hr_parts_and_sides (by rfl) T.m_parts_and_sides T.F_parts_and_sides.kp T.b_parts_and_sides .nil pass0 (pa_cons (pv 0) (pa_cons (pv 1) pa_nil)))) (fun _ _ _ _ => pg_tup (by rfl) (pgs_cons (pg_name (i := 0) (show List.Nodup (["part", "side"] : List Str) by decide +kernel) (by rfl) (Or.inl (by rfl)) (Or.inr (by rfl))) (pgs_cons (pg_name (i := 1) (show List.Nodup (["part", "side"] : List Str) by decide +kernel) (by rfl) (Or.inl (by rfl)) (Or.inr (by rfl))) pgs_nil))) (gTup2_keep (by decide)) (fun _ _ _ _ => pif_nil) (fun _ _ _ _ => (pe_call G_count_to_open hr_count_to_open (by rfl) T.m_count_to_open T.F_count_to_open.kp T.b_count_to_open .nil pass0 (pa_cons (pv 0) (pa_cons (pv 1) pa_nil))))) pa_nil)))))), ?_⟩
    walk_at "S"
    rw [cntB_ps] at k
    refine seq_cut (fun σ' H' => H' = H ∧ σ' = [some v, some (.bl t), some (.int (((if opnB t S = true then 1 else 0) : Nat) : Int))]) (fun N hN => ?_) fun σ' H' hv => ?_
    · walk_at ""
      refine ⟨v, S, t, rfl, rS, ?_⟩
      (try walk_at "")
      refine ite2 (fun c => hN _ _ ⟨rfl, ?_⟩) fun c => hN _ _ ⟨rfl, ?_⟩
      · rw [if_pos c]; rfl
      · rw [if_neg c]; rfl
    obtain ⟨rfl, rfl⟩ := hv
    generalize (if opnB t S = true then 1 else 0) = o at k
    walk_at ""
    refine ⟨v, S, t, rfl, rS, fun p us H1 s1 hp hP => ?_⟩
    (try walk_at "")
    refine .inl ⟨⟨_, SqL.of hp⟩, ?_⟩
    refine comp_list (xs := us) (fun i acc H2 => Same H1 H2 ∧ acc = ((psB t S).take i).map fun x => V.int (cntB x.1 x.2)) ⟨Same.refl _, rfl⟩ (fun i acc H2 _ hv => hv.1.seq (SqL.of hp)) (fun i x acc H2 hx hv => ?_) fun acc H2 hv q hq => ?_
    · obtain ⟨s2, rfl⟩ := hv
      have hi := (List.getElem?_eq_some_iff.mp hx).1
      have hl := Paired.length hP
      have h2 := psB_len S t
      obtain ⟨y, hy, a, u, rfl, ha, ru⟩ := hP.at hx
      have hyd := psB_deep (List.mem_of_getElem? hy)
      refine ⟨sz1000' (by rw [List.length_map, List.length_take]; omega), ?_⟩
      simp only [slotsC, List.replicate_succ, List.replicate_zero, List.map_cons, List.map_nil, List.nil_append, List.cons_append, List.getElem?_cons_zero, List.getElem?_cons_succ, Option.join_some]
      walk_at ""
      refine ⟨_, s2.seqT ha, rfl, ?_⟩
      (try walk_at "")
      refine ⟨u, y.1, y.2, rfl, ru.same s2, by omega, fun H3 s3 => ⟨s2.trans s3, ?_⟩⟩
      rw [List.take_succ, hy]
      simp
    · obtain ⟨s2, rfl⟩ := hv
      (try walk_at "")
      have hl := Paired.length hP
      rw [← hl, List.take_length]
      refine ⟨(psB t S).map fun x => ((cntB x.1 x.2 : Nat) : Int), SqL.of (by rw [upd_same, List.map_map]; rfl), ?_⟩
      rw [sum_cast fun x : Stm × Bool => cntB x.1 x.2]
      have kk := k _ ((s1.trans s2).trans (same_new hq (.lst ((psB t S).map fun x => V.int (cntB x.1 x.2)))))
      (try walk_at "")
      rw [← Int.natCast_add]
      exact kk
def spQ (K : PySem.W.Frag) (r : List Stm → Stm → V) : Sp := fun vs H Q _ => ∃ gp v Ss us S, vs = [.ref gp, v] ∧ SqT K H gp us ∧ RepL K H Ss us ∧ us.length ≤ 100 ∧ RepS K H S v ∧ S.deep ≤ 100 ∧ (∀ T ∈ Ss, T.deep ≤ 100) ∧ ∀ H', Same H H' → Q (r Ss S) H'
theorem ok_flat (T : Tx K mg D) : FnOk P w K mg base0 CX0 104 D.a_flat D.d_flat ["givens", "goal"] (spQ K fun Ss S => .bl (flatB S false false && Ss.all fun A => flatB A true false)) := by
  have G_is_flat := ok_is_flat (P := P) (w := w) (base0 := base0) T 100
  refine T.F_flat.ok sc_flat (fun vs H Q E h => ?_) (fun cdv A outer s H vs Q E hr h => ?_)
  · obtain ⟨gp, v, Ss, us, S, rfl, _⟩ := h; rfl
  obtain ⟨gp, v, Ss, us, S, rfl, hg, hR, hl, rS, hd, hds, k⟩ := h
  have hu := hr.units
  have hr_is_flat : Room 103 _ := hr.mono (by decide)
  refine ⟨_, (pss_one (ps_ret (pe_and (pe_call G_is_flat hr_is_flat (by rfl) T.m_is_flat T.F_is_flat.kp T.b_is_flat .nil pass0 (pa_cons (pv 1) (pa_cons pe_bl (pa_cons pe_bl pa_nil)))) (pe_one (pe_callB (callA_all K (by rfl)) (by rfl) T.z_all (by rfl) (pa_cons (pe_comp 1 [] ["A"] ⟨by rfl, by rfl, by rfl, by rfl, by rfl, by rfl, by rfl⟩ (by rfl) (pi_any K (pv 0)) (fun _ _ _ _ => pg_name (i := 0) (show List.Nodup (["A"] : List Str) by decide +kernel) (by rfl) (Or.inl (by rfl)) (Or.inr (by rfl))) (gName_keep (by decide)) (fun _ _ _ _ => pif_nil) (fun _ _ _ _ => (pe_call G_is_flat hr_is_flat (by rfl) T.m_is_flat T.F_is_flat.kp T.b_is_flat .nil pass0 (pa_cons (pv 0) (pa_cons pe_bl (pa_cons pe_bl pa_nil)))))) pa_nil)))))), ?_⟩
  walk_at "S"
  walk_at ""
  refine ⟨v, S, false, false, rfl, rS, hd, fun H1 s1 => ⟨_, rfl, ?_⟩⟩
  (try walk_at "")
  refine ite2 (fun c => ?_) fun c => ?_
  · refine .inr ⟨⟨_, s1.seqT hg⟩, ?_⟩
    refine comp_tup (xs := us) (fun i acc H2 => Same H1 H2 ∧ acc = (Ss.take i).map fun x => V.bl (flatB x true false)) ⟨Same.refl _, rfl⟩ (fun i acc H2 _ hv => (s1.trans hv.1).seqT hg) (fun i x acc H2 hx hv => ?_) fun acc H2 hv q hq => ?_
    · obtain ⟨s2, rfl⟩ := hv
      have hi := (List.getElem?_eq_some_iff.mp hx).1
      have hl2 := Paired.length hR
      obtain ⟨B, hB, rB⟩ := hR.get hx
      refine ⟨sz1000' (by rw [List.length_map, List.length_take]; omega), ?_⟩
      simp only [slotsC, List.replicate_succ, List.replicate_zero, List.map_cons, List.map_nil, List.nil_append, List.cons_append, List.getElem?_cons_zero, List.getElem?_cons_succ, Option.join_some]
      walk_at ""
      refine ⟨x, B, true, false, rfl, rB.same (s1.trans s2), hds B (List.mem_of_getElem? hB), fun H3 s3 => ⟨s2.trans s3, ?_⟩⟩
      rw [List.take_succ, hB]
      simp
    · obtain ⟨s2, rfl⟩ := hv
      (try walk_at "")
      have hl2 := Paired.length hR
      rw [← hl2, List.take_length]
      refine ⟨Ss.map fun x => flatB x true false, SqL.of (by rw [upd_same, List.map_map]; rfl), ?_⟩
      have e : (Ss.map fun x => flatB x true false).all id = (flatB S false false && Ss.all fun x => flatB x true false) := by rw [c, Bool.true_and, List.all_map]; rfl
      rw [e]
      exact k _ ((s1.trans s2).trans (same_new hq _))
  · have e : (flatB S false false && Ss.all fun A => flatB A true false) = false := by rw [Bool.eq_false_iff.mpr c, Bool.false_and]
    have kk : Q (V.bl (flatB S false false && Ss.all fun A => flatB A true false)) H1 := k _ s1
    rw [e] at kk
    exact kk
theorem ok_to_open (T : Tx K mg D) : FnOk P w K mg base0 CX0 104 D.a_to_open D.d_to_open ["givens", "goal"] (spQ K fun Ss S => .int ((cntB S false + (Ss.map fun A => cntB A true).sum : Nat))) := by
  have G_count_to_open := ok_count_to_open (P := P) (w := w) (base0 := base0) T 100
  refine T.F_to_open.ok sc_to_open (fun vs H Q E h => ?_) (fun cdv A outer s H vs Q E hr h => ?_)
  · obtain ⟨gp, v, Ss, us, S, rfl, _⟩ := h; rfl
  obtain ⟨gp, v, Ss, us, S, rfl, hg, hR, hl, rS, hd, hds, k⟩ := h
  have hu := hr.units
  have hr_count_to_open : Room 103 _ := hr.mono (by decide)
  refine ⟨_, (pss_one (ps_ret (pe_op (opB_add K) (pe_call G_count_to_open hr_count_to_open (by rfl) T.m_count_to_open T.F_count_to_open.kp T.b_count_to_open .nil pass0 (pa_cons (pv 1) (pa_cons pe_bl pa_nil))) (pe_callB (callA_sum K (by rfl)) (by rfl) T.z_sum (by rfl) (pa_cons (pe_comp 1 [] ["A"] ⟨by rfl, by rfl, by rfl, by rfl, by rfl, by rfl, by rfl⟩ (by rfl) (pi_any K (pv 0)) (fun _ _ _ _ => pg_name (i := 0) (show List.Nodup (["A"] : List Str) by decide +kernel) (by rfl) (Or.inl (by rfl)) (Or.inr (by rfl))) (gName_keep (by decide)) (fun _ _ _ _ => pif_nil) (fun _ _ _ _ => (pe_call G_count_to_open hr_count_to_open (by rfl) T.m_count_to_open T.F_count_to_open.kp T.b_count_to_open .nil pass0 (pa_cons (pv 0) (pa_cons pe_bl pa_nil))))) pa_nil))))), ?_⟩
  walk_at "S"
  walk_at ""
  refine ⟨v, S, false, rfl, rS, hd, fun H1 s1 => ?_⟩
  (try walk_at "")
  refine .inr ⟨⟨_, s1.seqT hg⟩, ?_⟩
  refine comp_tup (xs := us) (fun i acc H2 => Same H1 H2 ∧ acc = (Ss.take i).map fun x => V.int (cntB x true)) ⟨Same.refl _, rfl⟩ (fun i acc H2 _ hv => (s1.trans hv.1).seqT hg) (fun i x acc H2 hx hv => ?_) fun acc H2 hv q hq => ?_
  · obtain ⟨s2, rfl⟩ := hv
    have hi := (List.getElem?_eq_some_iff.mp hx).1
    have hl2 := Paired.length hR
    obtain ⟨B, hB, rB⟩ := hR.get hx
    refine ⟨sz1000' (by rw [List.length_map, List.length_take]; omega), ?_⟩
    simp only [slotsC, List.replicate_succ, List.replicate_zero, List.map_cons, List.map_nil, List.nil_append, List.cons_append, List.getElem?_cons_zero, List.getElem?_cons_succ, Option.join_some]
    walk_at ""
    refine ⟨x, B, true, rfl, rB.same (s1.trans s2), hds B (List.mem_of_getElem? hB), fun H3 s3 => ⟨s2.trans s3, ?_⟩⟩
    rw [List.take_succ, hB]
    simp
  · obtain ⟨s2, rfl⟩ := hv
    (try walk_at "")
    have hl2 := Paired.length hR
    rw [← hl2, List.take_length]
    refine ⟨Ss.map fun x => ((cntB x true : Nat) : Int), SqL.of (by rw [upd_same, List.map_map]; rfl), ?_⟩
    rw [sum_cast fun x : Stm => cntB x true]
    have kk := k _ ((s1.trans s2).trans (same_new hq (.lst (Ss.map fun x => V.int (cntB x true)))))
    (try walk_at "")
    rw [← Int.natCast_add]
    exact kk
end
section
variable {P : Program} {w : World} {K : PySem.W.Frag} {mg : Str → Option Value} {base0 : Heap} {D : Defs}
theorem cut_rest {x : V} {ws : List V} : cutV (x :: ws) (some 1) none = ws := by
  simp [cutV, HT.sIx]
  try omega
theorem RepS.of_parts {H : Hp} {S : Stm} {x n : Str} {r : Addr} {acc : List V} (h1 : S.tag ≠ "is") (h2 : ¬ (S.tag = "all" ∨ S.tag = "some")) (hr : SqT K H r (.str S.tag :: acc)) (hR : RepL K H (S.parts.map (·.put x n)) acc) : RepS K H (S.put x n) (.ref r) := by
  cases S with
  | is y ts => exact absurd rfl h1
  | fls => cases hR; exact ⟨r, rfl, hr⟩
  | neg B =>
    cases hR with
    | cons ra rb => cases rb; exact ⟨r, _, rfl, hr, ra⟩
  | bi o B C =>
    cases hR with
    | cons ra rb =>
      cases rb with
      | cons rb rc => cases rc; exact ⟨r, _, _, rfl, hr, ra, rb⟩
  | qu q X A => exact absurd ((by intro q; cases q; exact .inr rfl; exact .inl rfl : ∀ q, qtx q = "all" ∨ qtx q = "some") q) h2
def spPutQ (K : PySem.W.Frag) (d : Nat) : Sp := fun vs H Q _ => ∃ v S x n, vs = [v, .str x, .str n] ∧ RepS K H S v ∧ S.deep ≤ d ∧ SW S ∧ ∀ u H', Same H H' → RepS K H' (S.put x n) u → Q u H'
theorem ok_put_L (T : Tx K mg D) : ∀ d : Nat, FnOk P w K mg base0 CX0 (d + 1) D.a_put_L D.d_put_L ["_law_ka", "_law_letter", "_law_name"] (spPutQ K d)
  | 0 => by
    refine T.F_put_L.ok sc_put_L (fun vs H Q E h => ?_) (fun cdv A outer s H vs Q E hr h => ?_)
    · obtain ⟨v, S, x, n, rfl, _⟩ := h; rfl
    · obtain ⟨v, S, x, n, rfl, _, h, _⟩ := h
      have := S.deep_pos
      omega
  | d + 1 => by
    have G_put_L := ok_put_L T d
    refine T.F_put_L.ok sc_put_L (fun vs H Q E h => ?_) (fun cdv A outer s H vs Q E hr h => ?_)
    · obtain ⟨v, S, x, n, rfl, _⟩ := h; rfl
    obtain ⟨v, S, x, n, rfl, rS, hd, oS, k⟩ := h
    have hu := hr.units
    have hr_put_L : Room (d + 1) _ := hr
    refine ⟨_, (pss_cons (ps_if (pt_cmpR (opB_eq K hu) (pe_ix (ixA K) (pv 0) pe_int (fun _ _ => rfl)) pe_str (nomark _)) (pss_one (ps_ret (pe_tup (pa_cons pe_str (pa_cons (pe_ix (ixA K) (pv 0) pe_int (fun _ _ => rfl)) (pa_cons (pe_callTy (callA_tuple K) (by rfl) T.z_tuple (by rfl) (pa_cons (pe_comp 1 [1, 2] ["_law_term", "_law_letter", "_law_name"] ⟨by rfl, by rfl, by rfl, by rfl, by rfl, by rfl, by rfl⟩ (by rfl) (pi_any K (pe_ix (ixA K) (pv 0) pe_int (fun _ _ => rfl))) (fun _ _ _ _ => pg_name (i := 0) (show List.Nodup (["_law_term", "_law_letter", "_law_name"] : List Str) by decide +kernel) (by rfl) (Or.inl (by rfl)) (Or.inr (by rfl))) (gName_keep (by decide)) (fun _ _ _ _ => pif_nil) (fun _ _ _ _ => (pe_ifExp (pt_cmpR (opB_eq K hu) (pv 0) (pv 1) (nomark _)) (pv 2) (pv 0)))) pa_nil)) pa_nil)))))) pss_nil)
    (pss_cons (ps_if (PW.pt (pw_or (pt_cmpR (opB_eq K hu) (pe_ix (ixA K) (pv 0) pe_int (fun _ _ => rfl)) pe_str (nomark _)) (pw_or1 (pt_cmpR (opB_eq K hu) (pe_ix (ixA K) (pv 0) pe_int (fun _ _ => rfl)) pe_str (nomark _))))) (pss_cons (ps_if (pt_cmpR (opB_eq K hu) (pe_ix (ixA K) (pv 0) pe_int (fun _ _ => rfl)) (pv 1) (nomark _)) (pss_one (ps_ret (pv 0))) pss_nil)
    (pss_one (ps_ret (pe_tup (pa_cons (pe_ix (ixA K) (pv 0) pe_int (fun _ _ => rfl)) (pa_cons (pe_ix (ixA K) (pv 0) pe_int (fun _ _ => rfl)) (pa_cons (pe_call G_put_L hr_put_L (by rfl) T.m_put_L T.F_put_L.kp T.b_put_L .nil pass0 (pa_cons (pe_ix (ixA K) (pv 0) pe_int (fun _ _ => rfl)) (pa_cons (pv 1) (pa_cons (pv 2) pa_nil)))) pa_nil))))))) pss_nil)
    (pss_one (ps_ret (pe_op (opB_add K) (pe_tup (pa_cons (pe_ix (ixA K) (pv 0) pe_int (fun _ _ => rfl)) pa_nil)) (pe_callTy (callA_tuple K) (by rfl) T.z_tuple (by rfl) (pa_cons (pe_comp 1 [1, 2] ["_law_part", "_law_letter", "_law_name"] ⟨by rfl, by rfl, by rfl, by rfl, by rfl, by rfl, by rfl⟩ (by rfl) (pi_any K (pe_slice (slB K) (pv 0) (po_some pe_int) po_none)) (fun _ _ _ _ => pg_name (i := 0) (show List.Nodup (["_law_part", "_law_letter", "_law_name"] : List Str) by decide +kernel) (by rfl) (Or.inl (by rfl)) (Or.inr (by rfl))) (gName_keep (by decide)) (fun _ _ _ _ => pif_nil) (fun _ _ _ _ => (pe_call G_put_L hr_put_L (by rfl) T.m_put_L T.F_put_L.kp T.b_put_L .nil pass0 (pa_cons (pv 0) (pa_cons (pv 1) (pa_cons (pv 2) pa_nil)))))) pa_nil))))))), ?_⟩
    walk_at "S"
    obtain ⟨a, xs0, ev, h0⟩ := rS.tag
    subst ev
    refine seq_ifP (c := S.tag = "is") (fun Qb q => ?_) (fun c1 => ?_) fun c1 => seq_ifP (c := S.tag = "all" ∨ S.tag = "some") (fun Qb q => ?_) (fun c2 => ?_) fun c2 => ?_
    · walk_at ""
      exact ⟨_, .inr h0, _, atI_nat (j := 0) rfl, by rw [w_eqSB]; exact ⟨_, rfl, q⟩⟩
    · cases S with
      | is y ts =>
        obtain ⟨a', b, e', h2, h3⟩ := rS
        cases e'
        walk_at ""
        refine ⟨_, .inr h2, _, atI_nat (j := 1) rfl, _, .inr h2, _, atI_nat (j := 2) rfl, ?_⟩
        (try walk_at "")
        have h3' := oS.2.1
        refine .inr ⟨⟨_, h3⟩, comp_tup (xs := ts.map V.str) (fun i acc H2 => H2 = H ∧ acc = ((ts.take i).map fun t => if t = x then n else t).map V.str) ⟨rfl, by simp⟩ (fun i acc H2 _ hp => by rw [hp.1]; exact h3) (fun i t acc H2 hi hp => ?_) fun acc H2 hp p hn => ?_⟩
        · obtain ⟨rfl, rfl⟩ := hp
          rw [List.getElem?_map] at hi
          cases e : ts[i]? with
          | none => rw [e] at hi; cases hi
          | some t' =>
            rw [e] at hi
            cases hi
            have hil : i < ts.length := (List.getElem?_eq_some_iff.mp e).1
            refine ⟨sz1000' (by simp only [List.length_map, List.length_take]; omega), ?_⟩
            simp only [slotsC, List.replicate_succ, List.replicate_zero, List.map_cons, List.map_nil, List.nil_append, List.cons_append, List.getElem?_cons_zero, List.getElem?_cons_succ, Option.join_some]
            (try walk_at "")
            refine ite2 (fun c => ⟨trivial, ?_⟩) fun c => ⟨trivial, ?_⟩
            · rw [List.take_add_one, e]; simp [c]
            · rw [List.take_add_one, e]; simp [c]
        · obtain ⟨rfl, rfl⟩ := hp
          (try walk_at "")
          refine ⟨_, .inl ⟨SqL.of upd_same, fun l hl => ⟨(by show 3 ≤ sizeLine; decide), fun p2 hp2 => ?_⟩⟩⟩
          have s1 := (same_new hn (.lst (((ts.take (ts.map V.str).length).map fun t => if t = x then n else t).map V.str))).trans ((same_new hl (.tup (((ts.take (ts.map V.str).length).map fun t => if t = x then n else t).map V.str))).trans (same_new hp2 (.tup [V.str "is", V.str y, V.ref l])))
          refine k _ _ s1 ⟨p2, l, rfl, SqT.of upd_same, SqT.of (keep1 hp2 ?_)⟩
          rw [upd_same, List.length_map, List.take_of_length_le (Nat.le_refl _)]
      | fls => exact absurd c1 (by decide +kernel)
      | neg B => exact absurd (show ("not" : Str) = "is" from c1) (by decide +kernel)
      | bi o B C => exact absurd c1 (bi_is o)
      | qu q X B => exact absurd c1 (qu_is q)
    · walk_at ""
      refine ⟨_, .inr h0, _, atI_nat (j := 0) rfl, ?_⟩
      (try walk_at "")
      refine ite2 (fun b1 => ?_) fun b1 => ⟨_, .inr h0, _, atI_nat (j := 0) rfl, ?_⟩
      · rw [decide_eq_true (.inl b1)] at q; exact q
      · (try walk_at "")
        rw [decide_eq_decide.mpr (show (S.tag = "all" ∨ S.tag = "some") ↔ S.tag = "some" from ⟨fun h => h.elim (fun z => absurd z b1) id, .inr⟩)] at q
        exact q
    · cases S with
      | is x ts => exact absurd rfl c1
      | fls => exact absurd c2 (by decide +kernel)
      | neg B => exact absurd (show ("not" : Str) = "all" ∨ ("not" : Str) = "some" from c2) (by decide +kernel)
      | bi o B C => exact c2.elim (fun h => absurd h (bi_all o)) fun h => absurd h (bi_some o)
      | qu q X B =>
        have rS' := rS
        obtain ⟨a', u, e', h2, h3⟩ := rS
        cases e'
        simp only [Stm.deep] at hd
        simp only [Stm.put] at k
        walk_at ""
        refine ⟨_, .inr h2, _, atI_nat (j := 1) rfl, ?_⟩
        rw [w_eqSB]
        refine ⟨_, rfl, ?_⟩
        by_cases c : X = x
        · rw [if_pos c] at k
          rw [if_pos (decide_eq_true c)]
          exact k _ _ (Same.refl _) rS'
        · rw [if_neg c] at k
          rw [if_neg (by simpa using c)]
          refine ⟨_, .inr h2, _, atI_nat (j := 0) rfl, _, .inr h2, _, atI_nat (j := 1) rfl, _, .inr h2, _, atI_nat (j := 2) rfl, ?_⟩
          refine ⟨_, B, _, _, rfl, h3, by omega, oS.2, fun w H1 s1 r1 => ⟨(by show 3 ≤ sizeLine; decide), fun p hp => ?_⟩⟩
          exact k _ _ (s1.trans (same_new hp _)) ⟨p, w, rfl, SqT.of upd_same, r1.same (same_new hp _)⟩
    · obtain ⟨a', xs, e', h2, hR⟩ := rS.parts_at c1 c2
      cases e'
      have h3 : S.parts.length ≤ 3 := by cases S <;> simp [Stm.parts]
      have hl := Paired.length hR
      have hsub : ∀ B ∈ S.parts, SW B ∧ B.deep ≤ d := by
        cases S with
        | is y ts => exact absurd rfl c1
        | fls => intro B hB; cases hB
        | neg A => intro B hB; simp [Stm.parts] at hB; subst hB; simp only [Stm.deep] at hd; exact ⟨oS, by omega⟩
        | bi o A C => intro B hB; simp [Stm.parts] at hB; simp only [Stm.deep] at hd; rcases hB with rfl | rfl; exact ⟨oS.1, by omega⟩; exact ⟨oS.2, by omega⟩
        | qu q X A => exact absurd ((by intro q; cases q; exact .inr rfl; exact .inl rfl : ∀ q, qtx q = "all" ∨ qtx q = "some") q) c2
      walk_at ""
      refine ⟨_, .inr h2, _, atI_nat (j := 0) rfl, sz1000 (show 1 ≤ 100000 by decide), fun p hp => ?_⟩
      have s1 := same_new hp (.tup [V.str S.tag])
      refine ⟨_, .inr ⟨s1.seqT h2, fun q H1 s2 hq => .inr ⟨⟨_, hq⟩, ?_⟩⟩⟩
      have ec : cutV (V.str S.tag :: xs) (some 1) none = xs := cut_rest
      rw [ec] at hq
      refine comp_tup (xs := xs) (fun i acc H2 => Same H1 H2 ∧ RepL K H2 ((S.parts.take i).map (·.put x n)) acc ∧ acc.length = i) ⟨Same.refl _, .nil, rfl⟩ (fun i acc H2 _ hv => hv.1.seqT hq) (fun i y acc H2 hy hv => ?_) fun acc H2 hv l hl' => ?_
      · obtain ⟨s3, hA, hal⟩ := hv
        have hi := (List.getElem?_eq_some_iff.mp hy).1
        obtain ⟨B, hB, rB⟩ := hR.get hy
        obtain ⟨oB, dB⟩ := hsub B (List.mem_of_getElem? hB)
        refine ⟨sz1000' (by omega), ?_⟩
        simp only [slotsC, List.replicate_succ, List.replicate_zero, List.map_cons, List.map_nil, List.nil_append, List.cons_append, List.getElem?_cons_zero, List.getElem?_cons_succ, Option.join_some]
        walk_at ""
        refine ⟨_, B, _, _, rfl, rB.same ((s1.trans s2).trans s3), dB, oB, fun w H3 s4 r3 => ⟨s3.trans s4, ?_, by rw [List.length_append, hal]; rfl⟩⟩
        rw [List.take_succ, hB]
        simp only [Option.toList_some, List.map_append, List.map_cons, List.map_nil]
        exact RepL.snoc (hA.same s4) r3
      · obtain ⟨s3, hA, hal⟩ := hv
        rw [← hl, List.take_length] at hA
        (try walk_at "")
        refine ⟨_, .inl ⟨SqL.of upd_same, fun l2 hl2 => ?_⟩⟩
        have s4 := (same_new hl' (.lst acc)).trans (same_new hl2 (.tup acc))
        refine ⟨_, _, .inr ⟨((s2.trans s3).trans s4).seqT (SqT.of upd_same), SqT.of upd_same, sz1000 (show 1 + acc.length ≤ 100000 by omega), fun r H5 s5 hr' => ?_⟩⟩
        exact k _ _ ((((s1.trans s2).trans s3).trans s4).trans s5) (RepS.of_parts c1 c2 hr' (hA.same (s4.trans s5)))
end
section
variable {P : Program} {w : World} {K : PySem.W.Frag} {mg : Str → Option Value} {base0 : Heap} {D : Defs}
theorem atI_m1 {xs : List V} {v : V} (hn : 0 < xs.length) (h : xs[xs.length - 1]? = some v) : atI xs (-1) = some v := by
  have e : ixN xs.length (-1) = some (xs.length - 1) := by
    unfold ixN
    rw [if_neg (by decide), if_pos (by omega)]
    congr 1
    omega
  unfold atI
  rw [e]
  exact h
theorem bi_of {j : Int} (h0 : 0 ≤ j) (h1 : j < 3) : ∃ o : Bi, atI [V.str "and", V.str "or", V.str "then"] j = some (.str o.txt) := by
  obtain ⟨j, rfl⟩ : ∃ n : Nat, j = n := ⟨j.toNat, by omega⟩
  have hj : j < 3 := by omega
  match j, hj with
  | 0, _ => exact ⟨.and, atI_nat (j := 0) rfl⟩
  | 1, _ => exact ⟨.or, atI_nat (j := 1) rfl⟩
  | 2, _ => exact ⟨.thn, atI_nat (j := 2) rfl⟩
theorem SW.put {x n : Str} (hn : tb n) : ∀ {S : Stm}, SW S → SW (S.put x n)
  | .is w ts, h => ⟨h.1, by show (ts.map _).length ≤ 3; rw [List.length_map]; exact h.2.1, fun t ht => by
      obtain ⟨t', ht', rfl⟩ := List.mem_map.mp ht
      split
      · exact hn
      · exact h.2.2 t' ht'⟩
  | .fls, h => h
  | .neg A, h => SW.put (S := A) hn h
  | .bi o A B, h => ⟨SW.put (S := A) hn h.1, SW.put (S := B) hn h.2⟩
  | .qu q X A, h => by
    show SW (if X = x then _ else _)
    split
    · exact h
    · exact ⟨h.1, SW.put (S := A) hn h.2⟩
theorem put_size (x n : Str) : ∀ S : Stm, (S.put x n).size = S.size
  | .is w ts => rfl
  | .fls => rfl
  | .neg A => by simp only [Stm.put, Stm.size, put_size x n A]
  | .bi o A B => by simp only [Stm.put, Stm.size, put_size x n A, put_size x n B]
  | .qu q X A => by
    simp only [Stm.put]
    split
    · rfl
    · simp only [Stm.size, put_size x n A]
def StQ (d z : Nat) (S : Stm) : Prop := SW S ∧ S.deep ≤ d ∧ S.size ≤ z
theorem StQ.put {d z : Nat} {S : Stm} {x n : Str} (hn : tb n) (h : StQ d z S) : StQ d z (S.put x n) := ⟨SW.put hn h.1, by rw [Stm.put_deep]; exact h.2.1, by rw [put_size]; exact h.2.2⟩
def spNamed (K : PySem.W.Frag) : Sp := fun vs H Q _ => ∃ v S n, vs = [v, .str n] ∧ tb n ∧ RepS K H S v ∧ StQ 20 100 S ∧ ∀ S' v' H', Same H H' → RepS K H' S' v' → S'.deep ≤ 20 → Q v' H'
theorem ok_named_L (T : Tx K mg D) : FnOk P w K mg base0 CX0 22 D.a_named_L D.d_named_L ["_law_ka", "_law_name"] (spNamed K) := by
  have G_free_L := ok_free_L (P := P) (w := w) (base0 := base0) T 20
  have G_put_L := ok_put_L (P := P) (w := w) (base0 := base0) T 20
  refine T.F_named_L.ok sc_named_L (fun vs H Q E h => ?_) (fun cdv A outer s H vs Q E hr h => ?_)
  · obtain ⟨v, S, n, rfl, _⟩ := h; rfl
  obtain ⟨v, S, n, rfl, hn, rS, hS, k⟩ := h
  have hu := hr.units
  have hr_free_L : Room 21 _ := hr.mono (by decide)
  have hr_put_L : Room 21 _ := hr.mono (by decide)
  refine ⟨_, (pss_cons (ps_for PassesOwn.never (by rfl) (pi_any K (pe_call G_free_L hr_free_L (by rfl) T.m_free_L T.F_free_L.kp T.b_free_L .nil pass0 (pa_cons (pv 0) pa_nil))) (pg_name (i := 2) sc_named_L.nd (by rfl) (by walk_at "o"))
      (pss_one (ps_set (i := 0) sc_named_L.nd (by rfl) (by walk_at "o") (pe_call G_put_L hr_put_L (by rfl) T.m_put_L T.F_put_L.kp T.b_put_L .nil pass0 (pa_cons (pv 0) (pa_cons (pv 2) (pa_cons (pv 1) pa_nil)))))))
    (pss_one (ps_ret (pv 0)))), ?_⟩
  walk_at "S"
  walk_at ""
  refine ⟨v, S, rfl, rS, hS.1, hS.2.1, by have := hS.2.2; omega, fun p ts H1 s1 hp htb hle => ?_⟩
  (try walk_at "")
  refine .inl ⟨⟨_, SqL.of hp⟩, ?_⟩
  refine forW_list (xs := ts.map V.str) (fun i σ H2 => Same H1 H2 ∧ ∃ v' S' o, σ = [some v', some (.str n), o] ∧ RepS K H2 S' v' ∧ StQ 20 100 S') ⟨Same.refl _, v, S, _, rfl, rS.same s1, hS⟩ (fun i σ H2 _ hv => hv.1.seq (SqL.of hp)) (fun i x σ H2 hx hv => ?_) fun σ H2 hv => ?_
  · obtain ⟨s2, v', S', o, rfl, rS', hS'⟩ := hv
    rw [List.getElem?_map] at hx
    cases e : ts[i]? with
    | none => rw [e] at hx; cases hx
    | some t =>
      rw [e] at hx
      cases hx
      walk_at ""
      exact ⟨v', S', t, n, rfl, rS', hS'.2.1, hS'.1, fun u H3 s3 r3 => ⟨s2.trans s3, _, _, _, rfl, r3, hS'.put hn⟩⟩
  · obtain ⟨s2, v', S', o, rfl, rS', hS'⟩ := hv
    walk_at ""
    exact k S' v' H2 (s1.trans s2) rS' hS'.2.1
def spOpenBy (K : PySem.W.Frag) : Sp := fun vs H Q _ => ∃ (sh : Int) (a : Addr) (ms : List Int) (kx : Str), vs = [.int sh, .ref a, .str kx] ∧ 0 ≤ sh ∧ SqL K H a (ms.map V.int) ∧ ms.length ≤ 3 ∧ tb kx ∧ ∀ S v H', Same H H' → RepS K H' S v → StQ 6 12 S → Q v H'
theorem ok_open_by_L (T : Tx K mg D) : FnOk P w K mg base0 CX0 22 D.a_open_by_L D.d_open_by_L ["_law_shape", "_law_cells", "_law_kx"] (spOpenBy K) := by
  have G_free_L := ok_free_L (P := P) (w := w) (base0 := base0) T 20
  have G_put_L := ok_put_L (P := P) (w := w) (base0 := base0) T 20
  have G_name_by_L := ok_name_by_L (P := P) (w := w) (base0 := base0) T
  have G_pile_by_L := ok_pile_by_L (P := P) (w := w) (base0 := base0) T
  refine T.F_open_by_L.ok sc_open_by_L (fun vs H Q E h => ?_) (fun cdv A outer s H vs Q E hr h => ?_)
  · obtain ⟨sh, a, ms, kx, rfl, _⟩ := h; rfl
  obtain ⟨sh, a, ms, kx, rfl, h0, ha, hm, hkx, k⟩ := h
  have hu := hr.units
  have hr_free_L : Room 21 _ := hr.mono (by decide)
  have hr_put_L : Room 21 _ := hr.mono (by decide)
  have hr_name_by_L : Room 2 _ := hr.mono (by decide)
  have hr_pile_by_L : Room 6 _ := hr.mono (by decide)
  refine ⟨_, (pss_cons (ps_set (i := 3) sc_open_by_L.nd (by rfl) (by walk_at "o") (pe_tup (pa_cons pe_str (pa_cons (pe_call G_name_by_L hr_name_by_L (by rfl) T.m_name_by_L T.F_name_by_L.kp T.b_name_by_L .nil pass0 (pa_cons (pe_op op_fdivP (pv 0) pe_int) (pa_cons pe_int pa_nil))) (pa_cons (pe_tup (pa_cons (pv 2) pa_nil)) pa_nil)))))
    (pss_cons (ps_if (pt_cmpR op_gt (pe_callB (callA_len K) (by rfl) T.z_len PySem.boot_len (pa_cons (pv 1) pa_nil)) pe_int (nomark _)) (pss_cons (ps_set (i := 4) sc_open_by_L.nd (by rfl) (by walk_at "o") (pe_ix (ixA K) (pe_call G_pile_by_L hr_pile_by_L (by rfl) T.m_pile_by_L T.F_pile_by_L.kp T.b_pile_by_L .nil pass0 (pa_cons (pv 0) (pa_cons (pv 1) pa_nil))) (pe_un un_neg pe_int) (fun _ _ => rfl)))
    (pss_one (ps_set (i := 3) sc_open_by_L.nd (by rfl) (by walk_at "o") (pe_ix (ixA K) (pe_lst (pa_cons (pv 4) (pa_cons (pe_tup (pa_cons (pe_ix (ixA K) (pe_lst (pa_cons pe_str (pa_cons pe_str (pa_cons pe_str pa_nil)))) (pe_op op_modP (pe_op op_fdivP (pe_ix (ixA K) (pv 1) pe_int (fun _ _ => rfl)) pe_int) pe_int) (fun _ _ => rfl)) (pa_cons (pv 4) (pa_cons (pv 3) pa_nil)))) pa_nil))) (pe_callTy callA_int (by rfl) T.z_int (by rfl) (pa_cons (pe_cmpR op_gt (pe_op op_modP (pe_ix (ixA K) (pv 1) pe_int (fun _ _ => rfl)) pe_int) pe_int (nomark _)) pa_nil)) (fun _ _ => rfl))))) pss_nil)
    (pss_cons (ps_for PassesOwn.never (by rfl) (pi_any K (pe_call G_free_L hr_free_L (by rfl) T.m_free_L T.F_free_L.kp T.b_free_L .nil pass0 (pa_cons (pv 3) pa_nil))) (pg_name (i := 5) sc_open_by_L.nd (by rfl) (by walk_at "o"))
      (pss_one (ps_if (pt_cmpR (opA_ne hu) (pv 5) (pv 2) (nomark _)) (pss_one (ps_set (i := 3) sc_open_by_L.nd (by rfl) (by walk_at "o") (pe_call G_put_L hr_put_L (by rfl) T.m_put_L T.F_put_L.kp T.b_put_L .nil pass0 (pa_cons (pv 3) (pa_cons (pv 5) (pa_cons (pe_call G_name_by_L hr_name_by_L (by rfl) T.m_name_by_L T.F_name_by_L.kp T.b_name_by_L .nil pass0 (pa_cons (pv 0) (pa_cons (pe_op op_modP (pe_callB (callA_len K) (by rfl) T.z_len PySem.boot_len (pa_cons (pv 5) pa_nil)) pe_int) pa_nil))) pa_nil)))))) pss_nil)))
    (pss_one (ps_ret (pv 3)))))), ?_⟩
  walk_at "S"
  refine seq_cut (fun σ' H' => Same H H' ∧ ∃ v S, σ' = [some (.int sh), some (.ref a), some (.str kx), some v, none, none] ∧ RepS K H' S v ∧ StQ 1 1 S) (fun N hN => ?_) fun σ' H1 hv => ?_
  · walk_at ""
    refine ⟨cdiv, sh / 5, 3, rfl, Int.ediv_nonneg h0 (by decide), by decide, by decide, fun x H1 s1 hx => ?_⟩
    (try walk_at "")
    refine ⟨sz1000 (show 1 ≤ 100000 by decide), fun p hp => ⟨sz1000 (show 3 ≤ 100000 by decide), fun q hq => hN _ _ ⟨?_, _, .is x [kx], rfl, ⟨q, p, rfl, SqT.of upd_same, (same_new hq _).seqT (SqT.of upd_same)⟩, ⟨?_, by simp, ?_⟩, Nat.le_refl _, Nat.le_refl _⟩⟩⟩
    · exact (s1.trans (same_new hp _)).trans (same_new hq _)
    · exact hx.2
    · intro t ht; rw [List.mem_singleton.mp ht]; exact hkx
  obtain ⟨s1, v, S, rfl, rS, hS⟩ := hv
  refine seq_cut (fun σ' H' => Same H H' ∧ ∃ v S o, σ' = [some (.int sh), some (.ref a), some (.str kx), some v, o, none] ∧ RepS K H' S v ∧ StQ 6 12 S) (fun N hN => ?_) fun σ' H2 hv => ?_
  · walk_at ""
    refine ⟨_, .inl (s1.seq ha), ?_⟩
    rw [List.length_map]
    refine ite2 (fun c1 => ?_) fun c1 => hN _ _ ⟨s1, v, S, _, rfl, rS, hS.1, by have := hS.2.1; omega, by have := hS.2.2; omega⟩
    refine ⟨a, sh, ms, rfl, s1.seq ha, by omega, h0, fun q us Ss H2 s2 hq hR hP hl1 hl2 => ?_⟩
    obtain ⟨A, S1, U, u, rfl, rfl, hRA, r1⟩ := RepL.last hR (by intro z; rw [z] at hl2; simp at hl2)
    obtain ⟨z', _, hz, w1, d1⟩ := hP.front
    match ms, hm, c1, ha, d1, hz with
    | [], _, c1, _, _, _ => exact absurd c1 (by decide)
    | m0 :: ms', hm, _, ha, d1, hz =>
    simp only [List.length_cons] at hm d1 hz
    refine ⟨1, rfl, ?_⟩
    (try walk_at "")
    refine ⟨_, .inl (SqL.of hq), u, atI_m1 (by simp) (by simp), sz1000 (show 3 ≤ 100000 by decide), fun p hp => ?_⟩
    have s3 := s2.trans (same_new hp (.lst [V.str "and", V.str "or", V.str "then"]))
    refine ⟨_, .inl ((s1.trans s3).seq ha), _, atI_nat (j := 0) rfl, ?_⟩
    (try walk_at "")
    obtain ⟨o, eo⟩ := bi_of (Int.emod_nonneg (m0 / 13) (show (3 : Int) ≠ 0 by decide)) (Int.emod_lt_of_pos (m0 / 13) (show (0 : Int) < 3 by decide))
    refine ⟨cdiv, by decide, _, .inl (SqL.of upd_same), _, eo, sz1000 (show 3 ≤ 100000 by decide), fun p2 hp2 => ⟨sz1000 (show 2 ≤ 100000 by decide), fun p3 hp3 => ?_⟩⟩
    have s4 := same_new hp2 (.tup [V.str o.txt, u, v])
    have s5 := same_new hp3 (.lst [u, V.ref p2])
    have s25 := (s3.trans s4).trans s5
    refine ⟨_, .inl ((s1.trans s25).seq ha), _, atI_nat (j := 0) rfl, ?_⟩
    (try walk_at "")
    refine ⟨by decide, _, .inl (SqL.of upd_same), ?_⟩
    have q1 : StQ 6 12 S1 := ⟨w1, by omega, by omega⟩
    have q2 : StQ 6 12 (.bi o S1 S) := ⟨⟨w1, hS.1⟩, by have := hS.2.1; simp only [Stm.deep]; omega, by have := hS.2.2; simp only [Stm.size]; omega⟩
    have r1' := r1.same (((same_new hp _).trans s4).trans s5)
    by_cases c : 1 < m0 % 5
    · rw [if_pos c]
      exact ⟨_, atI_nat (j := 1) rfl, hN _ _ ⟨s1.trans s25, _, .bi o S1 S, _, rfl, ⟨p2, u, v, rfl, s5.seqT (SqT.of upd_same), r1', rS.same s25⟩, q2⟩⟩
    · rw [if_neg c]
      exact ⟨_, atI_nat (j := 0) rfl, hN _ _ ⟨s1.trans s25, _, S1, _, rfl, r1', q1⟩⟩
  clear rS hS
  obtain ⟨s2, v, S, o, rfl, rS, hS⟩ := hv
  walk_at ""
  refine ⟨v, S, rfl, rS, hS.1, by have := hS.2.1; omega, by have := hS.2.2; omega, fun p ts H3 s3 hp htb hle => ?_⟩
  (try walk_at "")
  refine .inl ⟨⟨_, SqL.of hp⟩, ?_⟩
  refine forW_list (xs := ts.map V.str) (fun i σ H4 => Same H3 H4 ∧ ∃ v' S' o', σ = [some (.int sh), some (.ref a), some (.str kx), some v', o, o'] ∧ RepS K H4 S' v' ∧ StQ 6 12 S') ⟨Same.refl _, v, S, _, rfl, rS.same s3, hS⟩ (fun i σ H4 _ hv => hv.1.seq (SqL.of hp)) (fun i x σ H4 hx hv => ?_) fun σ H4 hv => ?_
  · obtain ⟨s4, v', S', o', rfl, rS', hS'⟩ := hv
    rw [List.getElem?_map] at hx
    cases e : ts[i]? with
    | none => rw [e] at hx; cases hx
    | some t =>
      rw [e] at hx
      cases hx
      walk_at ""
      refine ite2 (fun c => ?_) fun c => ⟨s4, _, _, _, rfl, rS', hS'⟩
      have m0 := Int.emod_nonneg (t.length : Int) (show (5 : Int) ≠ 0 by decide)
      have m1 := Int.emod_lt_of_pos (t.length : Int) (show (0 : Int) < 5 by decide)
      have ht := htb t (List.mem_of_getElem? e)
      refine ⟨sz1000 (by have := ht.2; omega), by decide, sh, _, rfl, h0, m0, m1, fun x H5 s5 hx => ?_⟩
      exact ⟨v', S', t, x, rfl, rS'.same s5, by have := hS'.2.1; omega, hS'.1, fun u H6 s6 r6 => ⟨(s4.trans s5).trans s6, _, _, _, rfl, r6, hS'.put hx⟩⟩
  · obtain ⟨s4, v', S', o', rfl, rS', hS'⟩ := hv
    walk_at ""
    exact k S' v' H4 ((s2.trans s3).trans s4) rS' hS'
end
section
variable {P : Program} {w : World} {K : PySem.W.Frag} {mg : Str → Option Value} {base0 : Heap} {D : Defs}
def EvS (K : PySem.W.Frag) (σ : St) (H : Hp) (te : TE) (S : Stm) : Prop := ∀ H1, Same H H1 → ∀ Q : VK, (∀ v H2, Same H1 H2 → RepS K H2 S v → Q v H2) → te σ H1 Q
theorem ev_var {σ : St} {H : Hp} {i : Nat} {v : V} {S : Stm} (r : RepS K H S v) (h : σ[i]? = some (some v)) : EvS K σ H (tVar i) S := fun H1 s1 Q k => ⟨v, h, k v H1 (Same.refl _) (r.same s1)⟩
theorem ev_fls {σ : St} {H : Hp} : EvS K σ H (tTup (tCons (tC (.str "false")) tNil)) .fls := fun H1 s1 Q k =>
  ⟨sz1000 (show 1 ≤ 100000 by decide), fun p hp => k _ _ (same_new hp _) ⟨p, rfl, SqT.of upd_same⟩⟩
theorem ev_neg {σ : St} {H : Hp} {te : TE} {S : Stm} (h : EvS K σ H te S) : EvS K σ H (tTup (tCons (tC (.str "not")) (tCons te tNil))) (.neg S) := fun H1 s1 Q k =>
  h H1 s1 _ fun v H2 s2 r2 => ⟨sz1000 (show 2 ≤ 100000 by decide), fun p hp => k _ _ (s2.trans (same_new hp _)) ⟨p, v, rfl, SqT.of upd_same, r2.same (same_new hp _)⟩⟩
theorem ev_bi {σ : St} {H : Hp} {t1 t2 : TE} {S1 S2 : Stm} (o : Bi) (h1 : EvS K σ H t1 S1) (h2 : EvS K σ H t2 S2) : EvS K σ H (tTup (tCons (tC (.str o.txt)) (tCons t1 (tCons t2 tNil)))) (.bi o S1 S2) := fun H1 s1 Q k =>
  h1 H1 s1 _ fun v H2 s2 r2 => h2 H2 (s1.trans s2) _ fun v' H3 s3 r3 => ⟨sz1000 (show 3 ≤ 100000 by decide), fun p hp => k _ _ ((s2.trans s3).trans (same_new hp _)) ⟨p, v, v', rfl, SqT.of upd_same, r2.same (s3.trans (same_new hp _)), r3.same (same_new hp _)⟩⟩
theorem ev_and {σ : St} {H : Hp} {t1 t2 : TE} {S1 S2 : Stm} (h1 : EvS K σ H t1 S1) (h2 : EvS K σ H t2 S2) : EvS K σ H (tTup (tCons (tC (.str "and")) (tCons t1 (tCons t2 tNil)))) (.bi .and S1 S2) := ev_bi .and h1 h2
theorem ev_or {σ : St} {H : Hp} {t1 t2 : TE} {S1 S2 : Stm} (h1 : EvS K σ H t1 S1) (h2 : EvS K σ H t2 S2) : EvS K σ H (tTup (tCons (tC (.str "or")) (tCons t1 (tCons t2 tNil)))) (.bi .or S1 S2) := ev_bi .or h1 h2
theorem ev_thn {σ : St} {H : Hp} {t1 t2 : TE} {S1 S2 : Stm} (h1 : EvS K σ H t1 S1) (h2 : EvS K σ H t2 S2) : EvS K σ H (tTup (tCons (tC (.str "then")) (tCons t1 (tCons t2 tNil)))) (.bi .thn S1 S2) := ev_bi .thn h1 h2
theorem ev_all {σ : St} {H : Hp} {te : TE} {i : Nat} {X : Str} {S : Stm} (hx : σ[i]? = some (some (.str X))) (h : EvS K σ H te S) : EvS K σ H (tTup (tCons (tC (.str "all")) (tCons (tVar i) (tCons te tNil)))) (.qu true X S) := fun H1 s1 Q k =>
  ⟨_, hx, h H1 s1 _ fun v H2 s2 r2 => ⟨sz1000 (show 3 ≤ 100000 by decide), fun p hp => k _ _ (s2.trans (same_new hp _)) ⟨p, v, rfl, SqT.of upd_same, r2.same (same_new hp _)⟩⟩⟩
theorem ev_some {σ : St} {H : Hp} {te : TE} {i : Nat} {X : Str} {S : Stm} (hx : σ[i]? = some (some (.str X))) (h : EvS K σ H te S) : EvS K σ H (tTup (tCons (tC (.str "some")) (tCons (tVar i) (tCons te tNil)))) (.qu false X S) := fun H1 s1 Q k =>
  ⟨_, hx, h H1 s1 _ fun v H2 s2 r2 => ⟨sz1000 (show 3 ≤ 100000 by decide), fun p hp => k _ _ (s2.trans (same_new hp _)) ⟨p, v, rfl, SqT.of upd_same, r2.same (same_new hp _)⟩⟩⟩
def PairOk (K : PySem.W.Frag) (H : Hp) (v : V) : Prop := ∃ (p gp : Addr) (v' : V) (us : List V) (Ss : List Stm) (S : Stm), v = .ref p ∧ SqT K H p [.ref gp, v'] ∧ SqT K H gp us ∧ RepL K H Ss us ∧ Ss.length ≤ 3 ∧ RepS K H S v' ∧ (∀ T ∈ Ss, StQ 20 100 T) ∧ StQ 20 100 S
theorem PairOk.same {H H' : Hp} {v : V} (e : Same H H') (h : PairOk K H v) : PairOk K H' v := let ⟨p, gp, v', us, Ss, S, h1, h2, h3, h4, h5, h6, h7, h8⟩ := h; ⟨p, gp, v', us, Ss, S, h1, e.seqT h2, e.seqT h3, h4.same e, h5, h6.same e, h7, h8⟩
def EvP (K : PySem.W.Frag) (σ : St) (H : Hp) (te : TE) : Prop := ∀ H1, Same H H1 → ∀ Q : VK, (∀ v H2, Same H1 H2 → PairOk K H2 v → Q v H2) → te σ H1 Q
theorem ep_0 {σ : St} {H : Hp} {te : TE} {S : Stm} (h : EvS K σ H te S) (q : StQ 20 100 S) : EvP K σ H (tTup (tCons (tTup tNil) (tCons te tNil))) := fun H1 s1 Q k =>
  ⟨Nat.zero_le _, fun g hg => h _ (s1.trans (same_new hg _)) _ fun v H2 s2 r2 => ⟨sz1000 (show 2 ≤ 100000 by decide), fun p hp =>
    k _ _ (((same_new hg _).trans s2).trans (same_new hp _)) ⟨p, g, v, [], [], S, rfl, SqT.of upd_same, (s2.trans (same_new hp _)).seqT (SqT.of upd_same), .nil, by decide, r2.same (same_new hp _), by simp, q⟩⟩⟩
theorem ep_1 {σ : St} {H : Hp} {t1 te : TE} {S1 S : Stm} (h1 : EvS K σ H t1 S1) (q1 : StQ 20 100 S1) (h : EvS K σ H te S) (q : StQ 20 100 S) : EvP K σ H (tTup (tCons (tTup (tCons t1 tNil)) (tCons te tNil))) := fun H1 s1 Q k =>
  h1 H1 s1 _ fun u H2 s2 r2 => ⟨sz1000 (show 1 ≤ 100000 by decide), fun g hg => h _ ((s1.trans s2).trans (same_new hg _)) _ fun v H3 s3 r3 => ⟨sz1000 (show 2 ≤ 100000 by decide), fun p hp =>
    k _ _ (((s2.trans (same_new hg _)).trans s3).trans (same_new hp _)) ⟨p, g, v, [u], [S1], S, rfl, SqT.of upd_same, (s3.trans (same_new hp _)).seqT (SqT.of upd_same), .cons (r2.same (((same_new hg _).trans s3).trans (same_new hp _))) .nil, by simp, r3.same (same_new hp _), fun T hT => by rw [List.mem_singleton.mp hT]; exact q1, q⟩⟩⟩
theorem ep_2 {σ : St} {H : Hp} {t1 t2 te : TE} {S1 S2 S : Stm} (h1 : EvS K σ H t1 S1) (q1 : StQ 20 100 S1) (h2 : EvS K σ H t2 S2) (q2 : StQ 20 100 S2) (h : EvS K σ H te S) (q : StQ 20 100 S) : EvP K σ H (tTup (tCons (tTup (tCons t1 (tCons t2 tNil))) (tCons te tNil))) := fun H1 s1 Q k =>
  h1 H1 s1 _ fun u H2 s2 r2 => h2 H2 (s1.trans s2) _ fun u' H3 s3 r3 => ⟨sz1000 (show 2 ≤ 100000 by decide), fun g hg => h _ (((s1.trans s2).trans s3).trans (same_new hg _)) _ fun v H4 s4 r4 => ⟨sz1000 (show 2 ≤ 100000 by decide), fun p hp => by
    have sg := ((same_new hg (.tup [u, u'])).trans s4).trans (same_new hp (.tup [.ref g, v]))
    exact k _ _ ((s2.trans s3).trans sg) ⟨p, g, v, [u, u'], [S1, S2], S, rfl, SqT.of upd_same, (s4.trans (same_new hp _)).seqT (SqT.of upd_same), .cons (r2.same (s3.trans sg)) (.cons (r3.same sg) .nil), by simp, r4.same (same_new hp _), fun T hT => by
      simp at hT
      rcases hT with rfl | rfl
      · exact q1
      · exact q2, q⟩⟩⟩
def EvA (K : PySem.W.Frag) (σ : St) (H : Hp) (tl : TA) (n : Nat) : Prop := ∀ H1, Same H H1 → ∀ Q : List V → Hp → Prop, (∀ vs H2, Same H1 H2 → vs.length = n → (∀ v ∈ vs, PairOk K H2 v) → Q vs H2) → tl σ H1 Q
theorem ea_nil {σ : St} {H : Hp} : EvA K σ H tNil 0 := fun H1 s1 Q k => k [] H1 (Same.refl _) rfl (by simp)
theorem ea_cons {σ : St} {H : Hp} {te : TE} {tl : TA} {n : Nat} (h : EvP K σ H te) (hl : EvA K σ H tl n) : EvA K σ H (tCons te tl) (n + 1) := fun H1 s1 Q k =>
  h H1 s1 _ fun v H2 s2 p2 => hl H2 (s1.trans s2) _ fun vs H3 s3 l3 p3 => k _ _ (s2.trans s3) (by rw [List.length_cons, l3]) fun u hu => by
    rcases List.mem_cons.mp hu with rfl | hu
    · exact p2.same s3
    · exact p3 u hu
theorem EvA.use {σ : St} {H : Hp} {tl : TA} {n : Nat} {Q : List V → Hp → Prop} (h : EvA K σ H tl n) (k : ∀ vs H2, Same H H2 → vs.length = n → (∀ v ∈ vs, PairOk K H2 v) → Q vs H2) : tl σ H Q := h H (Same.refl _) Q k
def spSchema (K : PySem.W.Frag) : Sp := fun vs H Q _ => ∃ (c : Int) (va vb : V) (A B : Stm) (kx : Str), vs = [.int c, va, vb, .str kx] ∧ RepS K H A va ∧ RepS K H B vb ∧ StQ 6 12 A ∧ StQ 6 12 B ∧ tb kx ∧ ∀ v H', Same H H' → PairOk K H' v → Q v H'
theorem ok_schema_L (T : Tx K mg D) : FnOk P w K mg base0 CX0 1 D.a_schema_L D.d_schema_L ["_law_way", "_law_ka", "_law_kb", "_law_kx"] (spSchema K) := by
  refine T.F_schema_L.ok sc_schema_L (fun vs H Q E h => ?_) (fun cdv A outer s H vs Q E hr h => ?_)
  · obtain ⟨c, va, vb, A, B, kx, rfl, _⟩ := h; rfl
  obtain ⟨c, va, vb, A, B, kx, rfl, rA, rB, qA, qB, hx, k⟩ := h
  have hu := hr.units
  refine ⟨_, (pss_cons (ps_set (i := 4) sc_schema_L.nd (by rfl) (by walk_at "o") (pe_lst (pa_cons (pe_tup (pa_cons (pe_tup pa_nil) (pa_cons (pe_tup (pa_cons pe_str (pa_cons (pv 1) (pa_cons (pe_tup (pa_cons pe_str (pa_cons (pv 1) pa_nil))) pa_nil)))) pa_nil))) (pa_cons (pe_tup (pa_cons (pe_tup (pa_cons (pv 1) pa_nil)) (pa_cons (pe_tup (pa_cons pe_str (pa_cons (pv 2) (pa_cons (pv 1) pa_nil)))) pa_nil))) (pa_cons (pe_tup (pa_cons (pe_tup (pa_cons (pe_tup (pa_cons pe_str (pa_cons (pv 1) (pa_cons (pv 2) pa_nil)))) (pa_cons (pv 1) pa_nil))) (pa_cons (pv 2) pa_nil))) (pa_cons (pe_tup (pa_cons (pe_tup (pa_cons (pe_tup (pa_cons pe_str (pa_cons (pv 1) (pa_cons (pv 2) pa_nil)))) (pa_cons (pe_tup (pa_cons pe_str (pa_cons (pv 1) pa_nil))) pa_nil))) (pa_cons (pv 2) pa_nil))) (pa_cons (pe_tup (pa_cons (pe_tup (pa_cons (pe_tup (pa_cons pe_str (pa_cons (pe_tup (pa_cons pe_str (pa_cons (pv 1) (pa_cons (pv 2) pa_nil)))) pa_nil))) (pa_cons (pv 1) pa_nil))) (pa_cons (pe_tup (pa_cons pe_str (pa_cons (pv 2) pa_nil))) pa_nil))) (pa_cons (pe_tup (pa_cons (pe_tup (pa_cons (pe_tup (pa_cons pe_str (pa_cons (pe_tup (pa_cons pe_str (pa_cons (pv 1) (pa_cons (pv 2) pa_nil)))) pa_nil))) pa_nil)) (pa_cons (pe_tup (pa_cons pe_str (pa_cons (pe_tup (pa_cons pe_str (pa_cons (pv 2) pa_nil))) (pa_cons (pe_tup (pa_cons pe_str (pa_cons (pv 1) pa_nil))) pa_nil)))) pa_nil))) (pa_cons (pe_tup (pa_cons (pe_tup (pa_cons (pe_tup (pa_cons pe_str (pa_cons (pe_tup (pa_cons pe_str (pa_cons (pv 1) (pa_cons (pv 2) pa_nil)))) pa_nil))) pa_nil)) (pa_cons (pe_tup (pa_cons pe_str (pa_cons (pv 1) (pa_cons (pe_tup (pa_cons pe_str (pa_cons (pv 2) pa_nil))) pa_nil)))) pa_nil))) (pa_cons (pe_tup (pa_cons (pe_tup (pa_cons (pe_tup (pa_cons pe_str (pa_cons (pe_tup (pa_cons pe_str (pa_cons (pv 3) (pa_cons (pv 1) pa_nil)))) pa_nil))) pa_nil)) (pa_cons (pe_tup (pa_cons pe_str (pa_cons (pv 3) (pa_cons (pe_tup (pa_cons pe_str (pa_cons (pv 1) pa_nil))) pa_nil)))) pa_nil))) (pa_cons (pe_tup (pa_cons (pe_tup (pa_cons (pe_tup (pa_cons pe_str (pa_cons (pe_tup (pa_cons pe_str (pa_cons (pv 3) (pa_cons (pv 1) pa_nil)))) pa_nil))) pa_nil)) (pa_cons (pe_tup (pa_cons pe_str (pa_cons (pv 3) (pa_cons (pe_tup (pa_cons pe_str (pa_cons (pv 1) pa_nil))) pa_nil)))) pa_nil))) (pa_cons (pe_tup (pa_cons (pe_tup (pa_cons (pe_tup (pa_cons pe_str (pa_cons (pv 3) (pa_cons (pe_tup (pa_cons pe_str (pa_cons (pv 1) (pa_cons (pv 2) pa_nil)))) pa_nil)))) (pa_cons (pe_tup (pa_cons pe_str (pa_cons (pv 3) (pa_cons (pv 1) pa_nil)))) pa_nil))) (pa_cons (pe_tup (pa_cons pe_str (pa_cons (pv 3) (pa_cons (pv 2) pa_nil)))) pa_nil))) (pa_cons (pe_tup (pa_cons (pe_tup (pa_cons (pe_tup (pa_cons pe_str (pa_cons (pv 3) (pa_cons (pe_tup (pa_cons pe_str (pa_cons (pv 1) (pa_cons (pv 2) pa_nil)))) pa_nil)))) (pa_cons (pe_tup (pa_cons pe_str (pa_cons (pv 3) (pa_cons (pv 1) pa_nil)))) pa_nil))) (pa_cons (pe_tup (pa_cons pe_str (pa_cons (pv 3) (pa_cons (pv 2) pa_nil)))) pa_nil))) (pa_cons (pe_tup (pa_cons (pe_tup (pa_cons (pe_tup (pa_cons pe_str (pa_cons (pv 3) (pa_cons (pe_tup (pa_cons pe_str (pa_cons (pv 1) (pa_cons (pv 2) pa_nil)))) pa_nil)))) pa_nil)) (pa_cons (pe_tup (pa_cons pe_str (pa_cons (pe_tup (pa_cons pe_str (pa_cons (pv 3) (pa_cons (pv 2) pa_nil)))) (pa_cons (pe_tup (pa_cons pe_str (pa_cons (pv 3) (pa_cons (pv 1) pa_nil)))) pa_nil)))) pa_nil))) (pa_cons (pe_tup (pa_cons (pe_tup (pa_cons (pe_tup (pa_cons pe_str (pa_cons (pe_tup (pa_cons pe_str (pa_cons (pv 1) pa_nil))) pa_nil))) (pa_cons (pe_tup (pa_cons pe_str pa_nil)) pa_nil))) (pa_cons (pv 1) pa_nil))) (pa_cons (pe_tup (pa_cons (pe_tup pa_nil) (pa_cons (pe_tup (pa_cons pe_str (pa_cons (pe_tup (pa_cons pe_str (pa_cons (pv 3) (pa_cons (pv 1) pa_nil)))) (pa_cons (pe_tup (pa_cons pe_str (pa_cons (pv 3) (pa_cons (pv 1) pa_nil)))) pa_nil)))) pa_nil))) (pa_cons (pe_tup (pa_cons (pe_tup (pa_cons (pe_tup (pa_cons pe_str (pa_cons (pe_tup (pa_cons pe_str (pa_cons (pv 3) (pa_cons (pv 1) pa_nil)))) (pa_cons (pe_tup (pa_cons pe_str (pa_cons (pv 3) (pa_cons (pv 2) pa_nil)))) pa_nil)))) pa_nil)) (pa_cons (pe_tup (pa_cons pe_str (pa_cons (pv 3) (pa_cons (pe_tup (pa_cons pe_str (pa_cons (pv 1) (pa_cons (pv 2) pa_nil)))) pa_nil)))) pa_nil))) (pa_cons (pe_tup (pa_cons (pe_tup (pa_cons (pe_tup (pa_cons pe_str (pa_cons (pe_tup (pa_cons pe_str (pa_cons (pv 3) (pa_cons (pv 1) pa_nil)))) (pa_cons (pe_tup (pa_cons pe_str (pa_cons (pv 3) (pa_cons (pv 2) pa_nil)))) pa_nil)))) (pa_cons (pe_tup (pa_cons pe_str (pa_cons (pe_tup (pa_cons pe_str (pa_cons (pv 3) (pa_cons (pv 1) pa_nil)))) pa_nil))) pa_nil))) (pa_cons (pe_tup (pa_cons pe_str (pa_cons (pv 3) (pa_cons (pv 2) pa_nil)))) pa_nil))) (pa_cons (pe_tup (pa_cons (pe_tup (pa_cons (pe_tup (pa_cons pe_str (pa_cons (pe_tup (pa_cons pe_str (pa_cons (pe_tup (pa_cons pe_str (pa_cons (pv 3) (pa_cons (pv 1) pa_nil)))) (pa_cons (pe_tup (pa_cons pe_str (pa_cons (pv 3) (pa_cons (pv 2) pa_nil)))) pa_nil)))) pa_nil))) (pa_cons (pe_tup (pa_cons pe_str (pa_cons (pv 3) (pa_cons (pv 1) pa_nil)))) pa_nil))) (pa_cons (pe_tup (pa_cons pe_str (pa_cons (pe_tup (pa_cons pe_str (pa_cons (pv 3) (pa_cons (pv 2) pa_nil)))) pa_nil))) pa_nil))) (pa_cons (pe_tup (pa_cons (pe_tup (pa_cons (pe_tup (pa_cons pe_str (pa_cons (pv 3) (pa_cons (pe_tup (pa_cons pe_str (pa_cons (pv 1) (pa_cons (pv 2) pa_nil)))) pa_nil)))) pa_nil)) (pa_cons (pe_tup (pa_cons pe_str (pa_cons (pe_tup (pa_cons pe_str (pa_cons (pe_tup (pa_cons pe_str (pa_cons (pv 3) (pa_cons (pv 2) pa_nil)))) pa_nil))) (pa_cons (pe_tup (pa_cons pe_str (pa_cons (pe_tup (pa_cons pe_str (pa_cons (pv 3) (pa_cons (pv 1) pa_nil)))) pa_nil))) pa_nil)))) pa_nil))) pa_nil))))))))))))))))))))
    (pss_one (ps_ret (pe_ix (ixA K) (pv 4) (pe_op op_modP (pv 0) pe_int) (fun _ _ => rfl))))), ?_⟩
  walk_at "S"
  have hvA : EvS K [some (.int c), some va, some vb, some (.str kx), none] H (tVar 1) A := ev_var rA rfl
  have hvB : EvS K [some (.int c), some va, some vb, some (.str kx), none] H (tVar 2) B := ev_var rB rfl
  have hX : ([some (.int c), some va, some vb, some (.str kx), none] : St)[3]? = some (some (.str kx)) := rfl
  have qA20 : StQ 20 100 A := ⟨qA.1, Nat.le_trans qA.2.1 (by decide), Nat.le_trans qA.2.2 (by decide)⟩
  have qB20 : StQ 20 100 B := ⟨qB.1, Nat.le_trans qB.2.1 (by decide), Nat.le_trans qB.2.2 (by decide)⟩
  obtain ⟨wA, dA, zA⟩ := qA
  obtain ⟨wB, dB, zB⟩ := qB
  rw [w_seq, w_asg, w_lst]
  refine EvA.use (K := K) (n := 18) ?_ fun vs H2 s2 hl hP => ?_
  · repeat' first
      | exact ea_nil
      | exact hvA
      | exact hvB
      | exact hX
      | exact qA20
      | exact qB20
      | exact ev_fls
      | apply ea_cons
      | apply ep_0
      | apply ep_1
      | apply ep_2
      | apply ev_neg
      | apply ev_and
      | apply ev_or
      | apply ev_thn
      | apply ev_all
      | apply ev_some
      | (refine ⟨?_, by simp only [Stm.deep]; omega, by simp only [Stm.size]; omega⟩; simp only [SW, wA, wB, hx, and_self])
  walk_at ""
  refine ⟨sz1000 (by omega), fun p hp => ⟨by decide, _, .inl (SqL.of upd_same), ?_⟩⟩
  have m0 := Int.emod_nonneg c (show (18 : Int) ≠ 0 by decide)
  have m1 := Int.emod_lt_of_pos c (show (0 : Int) < 18 by decide)
  generalize c % 18 = j at m0 m1 ⊢
  obtain ⟨j, rfl⟩ : ∃ n : Nat, j = n := ⟨j.toNat, by omega⟩
  have hj : j < vs.length := by omega
  exact ⟨vs[j], atI_nat (List.getElem?_eq_getElem hj), k _ _ (s2.trans (same_new hp _)) ((hP _ (List.getElem_mem hj)).same (same_new hp _))⟩
def EvT (K : PySem.W.Frag) (σ : St) (H : Hp) (te : TE) (x : Str) : Prop := ∀ H1, Same H H1 → ∀ Q : VK, Q (.str x) H1 → te σ H1 Q
theorem et_c {σ : St} {H : Hp} {x : Str} : EvT K σ H (tC (.str x)) x := fun H1 s1 Q k => k
theorem et_v {σ : St} {H : Hp} {i : Nat} {x : Str} (h : σ[i]? = some (some (.str x))) : EvT K σ H (tVar i) x := fun H1 s1 Q k => ⟨_, h, k⟩
theorem ev_is0 {σ : St} {H : Hp} {tw : TE} {w : Str} (hw : EvT K σ H tw w) : EvS K σ H (tTup (tCons (tC (.str "is")) (tCons tw (tCons (tTup tNil) tNil)))) (.is w []) := fun H1 s1 Q k =>
  hw H1 s1 _ ⟨Nat.zero_le _, fun p hp => ⟨sz1000 (show 3 ≤ 100000 by decide), fun q hq => k _ _ ((same_new hp _).trans (same_new hq _)) ⟨q, p, rfl, SqT.of upd_same, (same_new hq _).seqT (SqT.of upd_same)⟩⟩⟩
theorem ev_is1 {σ : St} {H : Hp} {tw t1 : TE} {w x : Str} (hw : EvT K σ H tw w) (h1 : EvT K σ H t1 x) : EvS K σ H (tTup (tCons (tC (.str "is")) (tCons tw (tCons (tTup (tCons t1 tNil)) tNil)))) (.is w [x]) := fun H1 s1 Q k =>
  hw H1 s1 _ (h1 H1 s1 _ ⟨sz1000 (show 1 ≤ 100000 by decide), fun p hp => ⟨sz1000 (show 3 ≤ 100000 by decide), fun q hq => k _ _ ((same_new hp _).trans (same_new hq _)) ⟨q, p, rfl, SqT.of upd_same, (same_new hq _).seqT (SqT.of upd_same)⟩⟩⟩)
theorem ev_is2 {σ : St} {H : Hp} {tw t1 t2 : TE} {w x y : Str} (hw : EvT K σ H tw w) (h1 : EvT K σ H t1 x) (h2 : EvT K σ H t2 y) : EvS K σ H (tTup (tCons (tC (.str "is")) (tCons tw (tCons (tTup (tCons t1 (tCons t2 tNil))) tNil)))) (.is w [x, y]) := fun H1 s1 Q k =>
  hw H1 s1 _ (h1 H1 s1 _ (h2 H1 s1 _ ⟨sz1000 (show 2 ≤ 100000 by decide), fun p hp => ⟨sz1000 (show 3 ≤ 100000 by decide), fun q hq => k _ _ ((same_new hp _).trans (same_new hq _)) ⟨q, p, rfl, SqT.of upd_same, (same_new hq _).seqT (SqT.of upd_same)⟩⟩⟩))
theorem ev_quc {σ : St} {H : Hp} {te : TE} (q : Bool) {X : Str} {S : Stm} (h : EvS K σ H te S) : EvS K σ H (tTup (tCons (tC (.str (qtx q))) (tCons (tC (.str X)) (tCons te tNil)))) (.qu q X S) := fun H1 s1 Q k =>
  h H1 s1 _ fun v H2 s2 r2 => ⟨sz1000 (show 3 ≤ 100000 by decide), fun p hp => k _ _ (s2.trans (same_new hp _)) ⟨p, v, rfl, SqT.of upd_same, r2.same (same_new hp _)⟩⟩
def QOk (K : PySem.W.Frag) (H : Hp) (v : V) : Prop := ∃ (p gp : Addr) (v' : V) (us : List V) (Ss : List Stm) (S : Stm), v = .ref p ∧ SqT K H p [.ref gp, v'] ∧ SqT K H gp us ∧ RepL K H Ss us ∧ us.length ≤ 20 ∧ RepS K H S v' ∧ (∀ T ∈ Ss, T.deep ≤ 60) ∧ S.deep ≤ 60
theorem EvS.use {σ : St} {H : Hp} {te : TE} {S : Stm} {Q : VK} (h : EvS K σ H te S) (k : ∀ v H2, Same H H2 → RepS K H2 S v → Q v H2) : te σ H Q := h H (Same.refl _) Q k
theorem q_one {σ : St} {H : Hp} {t1 te : TE} {S1 S : Stm} {Q : VK} (h1 : EvS K σ H t1 S1) (h : EvS K σ H te S) (d1 : S1.deep ≤ 60) (d : S.deep ≤ 60) (k : ∀ v H', Same H H' → QOk K H' v → Q v H') : tTup (tCons (tTup (tCons t1 tNil)) (tCons te tNil)) σ H Q :=
  h1 H (Same.refl _) _ fun u H2 s2 r2 => ⟨sz1000 (show 1 ≤ 100000 by decide), fun g hg => h _ (s2.trans (same_new hg _)) _ fun v H3 s3 r3 => ⟨sz1000 (show 2 ≤ 100000 by decide), fun p hp =>
    k _ _ (((s2.trans (same_new hg _)).trans s3).trans (same_new hp _)) ⟨p, g, v, [u], [S1], S, rfl, SqT.of upd_same, (s3.trans (same_new hp _)).seqT (SqT.of upd_same), .cons (r2.same (((same_new hg _).trans s3).trans (same_new hp _))) .nil, by simp, r3.same (same_new hp _), fun T hT => by rw [List.mem_singleton.mp hT]; exact d1, d⟩⟩⟩
def EvL (K : PySem.W.Frag) (σ : St) (H : Hp) (tl : TE) : Prop := ∀ H1, Same H H1 → ∀ Q : VK, (∀ q us Ss H2, Same H1 H2 → SqL K H2 q us → RepL K H2 Ss us → us.length ≤ 20 → (∀ T ∈ Ss, T.deep ≤ 60) → Q (.ref q) H2) → tl σ H1 Q
theorem q_tup {σ : St} {H : Hp} {tl te : TE} {S : Stm} {Q : VK} (hl : EvL K σ H tl) (h : EvS K σ H te S) (d : S.deep ≤ 60) (k : ∀ v H', Same H H' → QOk K H' v → Q v H') : tTup (tCons (tCB (rTupleOf K) (tCons tl tNil)) (tCons te tNil)) σ H Q :=
  hl H (Same.refl _) _ fun q us Ss H2 s2 hq hR hlen hd => by
    rw [w_nil]
    show rTupleOf K [.ref q] H2 _
    rw [w_tupleOf]
    refine ⟨us, .inl ⟨hq, fun g hg => ?_⟩⟩
    have sg := same_new hg (.tup us)
    refine h _ (s2.trans sg) _ fun v H3 s3 r3 => ⟨sz1000 (show 2 ≤ 100000 by decide), fun p hp => ?_⟩
    have sp := same_new hp (.tup [.ref g, v])
    exact k _ _ (((s2.trans sg).trans s3).trans sp) ⟨p, g, v, us, Ss, S, rfl, SqT.of upd_same, (s3.trans sp).seqT (SqT.of upd_same), hR.same ((sg.trans s3).trans sp), hlen, r3.same sp, hd, d⟩
theorem el_v {σ : St} {H : Hp} {i : Nat} {q : Addr} {us : List V} {Ss : List Stm} (h : σ[i]? = some (some (.ref q))) (hq : SqL K H q us) (hR : RepL K H Ss us) (hl : us.length ≤ 20) (hd : ∀ T ∈ Ss, T.deep ≤ 60) : EvL K σ H (tVar i) := fun H1 s1 Q k => ⟨_, h, k q us Ss H1 (Same.refl _) (s1.seq hq) (hR.same s1) hl hd⟩
theorem str100 : ∀ z : Nat, z < 100 → (Str.ofString (toString (z : Int))).length ≤ 5 := by decide +kernel
def spWide (K : PySem.W.Frag) : Sp := fun vs H Q _ => ∃ (sh c : Int), vs = [.int sh, .int c] ∧ 0 ≤ sh ∧ sh < 1000000 ∧ ∀ v H', Same H H' → QOk K H' v → Q v H'
theorem ok_wide_L (T : Tx K mg D) : FnOk P w K mg base0 CX0 3 D.a_wide_L D.d_wide_L ["_law_shape", "_law_way"] (spWide K) := by
  have G_name_by_L := ok_name_by_L (P := P) (w := w) (base0 := base0) T
  refine T.F_wide_L.ok sc_wide_L (fun vs H Q E h => ?_) (fun cdv A outer s H vs Q E hr h => ?_)
  · obtain ⟨sh, c, rfl, _⟩ := h; rfl
  obtain ⟨sh, c, rfl, h0, h1, k⟩ := h
  have hu := hr.units
  have hr_name_by_L : Room 2 _ := hr.mono (by decide)
  refine ⟨_, (pss_cons (ps_set (i := 2) sc_wide_L.nd (by rfl) (by walk_at "o") (pe_op (opB_add K) pe_int (pe_op op_modP (pe_op op_fdivP (pv 1) pe_int) pe_int)))
    (pss_cons (ps_set (i := 3) sc_wide_L.nd (by rfl) (by walk_at "o") (pe_call G_name_by_L hr_name_by_L (by rfl) T.m_name_by_L T.F_name_by_L.kp T.b_name_by_L .nil pass0 (pa_cons (pe_op op_fdivP (pv 0) pe_int) (pa_cons (pe_op op_modP (pe_op op_fdivP (pv 1) pe_int) pe_int) pa_nil))))
    (pss_cons (ps_setComp (i := 4) 1 [0] ["_law_k", "_law_shape"] sc_wide_L.nd (by rfl) (by rfl) ⟨by rfl, by rfl, by rfl, by rfl, by rfl, by rfl, by rfl⟩ (by rfl) (pi_range1 (by rfl) T.z_range (pa_cons (pv 2) pa_nil)) (fun _ _ _ _ => pg_name (i := 0) (show List.Nodup (["_law_k", "_law_shape"] : List Str) by decide +kernel) (by rfl) (Or.inl (by rfl)) (Or.inr (by rfl))) (gName_keep (by decide)) (fun _ _ _ _ => pif_nil) (fun _ _ _ _ => (pe_op (opB_add K) pe_str (pe_callTy call_str_int (by rfl) T.z_str (by rfl) (pa_cons (pe_op opA_mul (pv 0) (pe_op (opB_add K) pe_int (pe_op op_modP (pv 1) pe_int))) pa_nil)))))
    (pss_cons (ps_setComp (i := 5) 1 [3] ["_law_name", "_law_kp"] sc_wide_L.nd (by rfl) (by rfl) ⟨by rfl, by rfl, by rfl, by rfl, by rfl, by rfl, by rfl⟩ (by rfl) (pi_any K (pv 4)) (fun _ _ _ _ => pg_name (i := 0) (show List.Nodup (["_law_name", "_law_kp"] : List Str) by decide +kernel) (by rfl) (Or.inl (by rfl)) (Or.inr (by rfl))) (gName_keep (by decide)) (fun _ _ _ _ => pif_nil) (fun _ _ _ _ => (pe_tup (pa_cons pe_str (pa_cons (pv 1) (pa_cons (pe_tup (pa_cons (pv 0) pa_nil)) pa_nil))))))
    (pss_cons (ps_if (pt_cmpR (opB_eq K hu) (pe_op op_modP (pv 1) pe_int) pe_int (nomark _)) (pss_one (ps_ret (pe_tup (pa_cons (pe_tup (pa_cons (pe_tup (pa_cons pe_str (pa_cons pe_str (pa_cons (pe_tup (pa_cons pe_str (pa_cons pe_str (pa_cons (pe_tup (pa_cons pe_str (pa_cons (pv 3) (pa_cons (pe_tup (pa_cons pe_str (pa_cons pe_str pa_nil))) pa_nil)))) pa_nil)))) pa_nil)))) pa_nil)) (pa_cons (pe_tup (pa_cons pe_str pa_nil)) pa_nil))))) pss_nil)
    (pss_cons (ps_if (pt_cmpR (opB_eq K hu) (pe_op op_modP (pv 1) pe_int) pe_int (nomark _)) (pss_cons (ps_setComp (i := 6) 1 [0, 3] ["_law_name", "_law_shape", "_law_kp"] sc_wide_L.nd (by rfl) (by rfl) ⟨by rfl, by rfl, by rfl, by rfl, by rfl, by rfl, by rfl⟩ (by rfl) (pi_any K (pv 4)) (fun _ _ _ _ => pg_name (i := 0) (show List.Nodup (["_law_name", "_law_shape", "_law_kp"] : List Str) by decide +kernel) (by rfl) (Or.inl (by rfl)) (Or.inr (by rfl))) (gName_keep (by decide)) (fun _ _ _ _ => pif_nil) (fun _ _ _ _ => (pe_tup (pa_cons pe_str (pa_cons (pe_tup (pa_cons pe_str (pa_cons (pv 2) (pa_cons (pe_tup (pa_cons (pv 0) pa_nil)) pa_nil)))) (pa_cons (pe_tup (pa_cons pe_str (pa_cons (pe_tup (pa_cons pe_str (pa_cons (pe_call G_name_by_L hr_name_by_L (by rfl) T.m_name_by_L T.F_name_by_L.kp T.b_name_by_L .nil pass0 (pa_cons (pe_op op_fdivP (pv 1) pe_int) (pa_cons pe_int pa_nil))) (pa_cons (pe_tup pa_nil) pa_nil)))) pa_nil))) pa_nil))))))
    (pss_one (ps_ret (pe_tup (pa_cons (pe_callTy (callA_tuple K) (by rfl) T.z_tuple (by rfl) (pa_cons (pv 6) pa_nil)) (pa_cons (pe_tup (pa_cons pe_str (pa_cons (pe_tup (pa_cons pe_str pa_nil)) (pa_cons (pe_tup (pa_cons pe_str (pa_cons (pv 3) (pa_cons (pe_tup pa_nil) pa_nil)))) pa_nil)))) pa_nil)))))) pss_nil)
    (pss_cons (ps_if (pt_cmpR (opB_eq K hu) (pe_op op_modP (pv 1) pe_int) pe_int (nomark _)) (pss_cons (ps_set (i := 7) sc_wide_L.nd (by rfl) (by walk_at "o") (pe_tup (pa_cons pe_str (pa_cons pe_str (pa_cons (pe_tup (pa_cons pe_str (pa_cons (pv 3) (pa_cons (pe_tup (pa_cons pe_str (pa_cons (pe_ix (ixA K) (pv 4) pe_int (fun _ _ => rfl)) pa_nil))) pa_nil)))) pa_nil)))))
    (pss_one (ps_ret (pe_tup (pa_cons (pe_callTy (callA_tuple K) (by rfl) T.z_tuple (by rfl) (pa_cons (pe_op (opB_add K) (pv 5) (pe_lst (pa_cons (pv 7) pa_nil))) pa_nil)) (pa_cons (pv 7) pa_nil)))))) pss_nil)
    (pss_cons (ps_set (i := 6) sc_wide_L.nd (by rfl) (by walk_at "o") (pe_lst (pa_cons (pe_tup (pa_cons pe_str (pa_cons pe_str (pa_cons (pe_tup (pa_cons pe_str (pa_cons (pe_tup (pa_cons pe_str (pa_cons (pv 3) (pa_cons (pe_tup (pa_cons pe_str pa_nil)) pa_nil)))) (pa_cons (pe_tup (pa_cons pe_str (pa_cons (pv 3) (pa_cons (pe_tup (pa_cons pe_str (pa_cons (pe_ix (ixA K) (pv 4) pe_int (fun _ _ => rfl)) pa_nil))) pa_nil)))) pa_nil)))) pa_nil)))) pa_nil)))
    (pss_one (ps_ret (pe_tup (pa_cons (pe_callTy (callA_tuple K) (by rfl) T.z_tuple (by rfl) (pa_cons (pe_op (opB_add K) (pv 5) (pv 6)) pa_nil)) (pa_cons (pe_tup (pa_cons pe_str (pa_cons (pv 3) (pa_cons (pe_tup (pa_cons (pe_ix (ixA K) (pv 4) (pe_op op_modP (pe_op op_fdivP (pv 0) pe_int) (pv 2)) (fun _ _ => rfl)) (pa_cons (pe_ix (ixA K) (pv 4) pe_int (fun _ _ => rfl)) pa_nil))) pa_nil)))) pa_nil))))))))))))), ?_⟩
  walk_at "S"
  refine seq_cut (fun σ' H' => H' = H ∧ ∃ n : Nat, 1 ≤ n ∧ n ≤ 12 ∧ σ' = [some (.int sh), some (.int c), some (.int n), none, none, none, none, none]) (fun N hN => ?_) fun σ' H' hv => ?_
  · walk_at ""
    have m0 := Int.emod_nonneg (c / 4) (show (12 : Int) ≠ 0 by decide)
    have m1 := Int.emod_lt_of_pos (c / 4) (show (0 : Int) < 12 by decide)
    obtain ⟨n, hn⟩ : ∃ n : Nat, 1 + c / 4 % 12 = n := ⟨(1 + c / 4 % 12).toNat, by omega⟩
    rw [hn]
    exact ⟨cdiv, by decide, hN _ _ ⟨rfl, n, by omega, by omega, rfl⟩⟩
  obtain ⟨rfl, n, n1, n12, rfl⟩ := hv
  refine seq_cut (fun σ' H2 => Same H' H2 ∧ ∃ kp, σ' = [some (.int sh), some (.int c), some (.int n), some (.str kp), none, none, none, none]) (fun N hN => ?_) fun σ' H2 hv => ?_
  · walk_at ""
    refine ⟨cdiv, cdiv, by decide, _, _, rfl, Int.ediv_nonneg h0 (by decide), Int.emod_nonneg _ (by decide), ?_, fun x H2 s2 _ => hN _ _ ⟨s2, x, rfl⟩⟩
    have m1 := Int.emod_lt_of_pos (c / 48) (show (0 : Int) < 3 by decide)
    omega
  obtain ⟨s2, kp, rfl⟩ := hv
  refine seq_cut (fun σ' H3 => Same H2 H3 ∧ ∃ (np : Addr) (ts : List Str), ts.length = n ∧ H3 np = some (.lst (ts.map V.str)) ∧ σ' = [some (.int sh), some (.int c), some (.int n), some (.str kp), some (.ref np), none, none, none]) (fun N hN => ?_) fun σ' H3 hv => ?_
  · walk_at ""
    refine ⟨by omega, by omega, ?_⟩
    refine comp_range (fun i acc H4 => H4 = H2 ∧ ∃ ts : List Str, acc = ts.map V.str ∧ ts.length = i) ⟨rfl, [], rfl, rfl⟩ (fun i acc H4 hi hv => ?_) fun acc H4 hv p hp => ?_
    · obtain ⟨rfl, ts, rfl, hl⟩ := hv
      have hi' : i < n := by simpa using hi
      refine ⟨sz1000' (by rw [List.length_map]; omega), ?_⟩
      simp only [slotsC, List.replicate_succ, List.replicate_zero, List.map_cons, List.map_nil, List.nil_append, List.cons_append, List.getElem?_cons_zero, List.getElem?_cons_succ, Option.join_some]
      walk_at ""
      have hz : ∃ z : Nat, z < 100 ∧ (0 + (i : Int)) * (1 + sh % 7) = z := by
        have m0 := Int.emod_nonneg sh (show (7 : Int) ≠ 0 by decide)
        have m1 := Int.emod_lt_of_pos sh (show (0 : Int) < 7 by decide)
        obtain e | e | e | e | e | e | e : sh % 7 = 0 ∨ sh % 7 = 1 ∨ sh % 7 = 2 ∨ sh % 7 = 3 ∨ sh % 7 = 4 ∨ sh % 7 = 5 ∨ sh % 7 = 6 := by omega
        all_goals (rw [e]; exact ⟨_, by omega, (Int.toNat_of_nonneg (by omega)).symm⟩)
      obtain ⟨z, z1, ez⟩ := hz
      have hz5 := str100 z z1
      rw [ez]
      refine ⟨by decide, .inl ⟨by omega, by omega⟩, Nat.lt_of_le_of_lt (Nat.log2_le_self _) (by omega), sz1000 ?_, trivial, ts ++ [_], by rw [List.map_append]; rfl, by rw [List.length_append, hl]; rfl⟩
      have : (Str.ofString "b").length = 1 := by decide +kernel
      omega
    · obtain ⟨rfl, ts, rfl, hl⟩ := hv
      exact hN _ _ ⟨same_new hp _, p, ts, by simpa using hl, upd_same, rfl⟩
  obtain ⟨s3, np, ts, hts, hnp, rfl⟩ := hv
  refine seq_cut (fun σ' H4 => Same H3 H4 ∧ ∃ (fp : Addr) (us : List V) (Ss : List Stm), us.length = n ∧ H4 fp = some (.lst us) ∧ RepL K H4 Ss us ∧ (∀ S ∈ Ss, S.deep = 1) ∧ σ' = [some (.int sh), some (.int c), some (.int n), some (.str kp), some (.ref np), some (.ref fp), none, none]) (fun N hN => ?_) fun σ' H4 hv => ?_
  · walk_at ""
    refine .inl ⟨⟨_, SqL.of hnp⟩, ?_⟩
    refine comp_list (xs := ts.map V.str) (fun i acc H4 => Same H3 H4 ∧ ∃ Ss : List Stm, RepL K H4 Ss acc ∧ acc.length = i ∧ ∀ S ∈ Ss, S.deep = 1) ⟨Same.refl _, [], .nil, rfl, by simp⟩ (fun i acc H4 _ hv => hv.1.seq (SqL.of hnp)) (fun i x acc H4 hx hv => ?_) fun acc H4 hv p hp => ?_
    · obtain ⟨s4, Ss, hR, hl, hd⟩ := hv
      rw [List.getElem?_map] at hx
      cases e : ts[i]? with
      | none => rw [e] at hx; cases hx
      | some t =>
        rw [e] at hx
        cases hx
        have hi := (List.getElem?_eq_some_iff.mp e).1
        refine ⟨sz1000' (by omega), ?_⟩
        simp only [slotsC, List.replicate_succ, List.replicate_zero, List.map_cons, List.map_nil, List.nil_append, List.cons_append, List.getElem?_cons_zero, List.getElem?_cons_succ, Option.join_some]
        rw [w_gName, w_true, if_pos rfl]
        refine EvS.use (K := K) (ev_is1 (et_v rfl) (et_v rfl)) fun v H5 s5 r5 => ⟨s4.trans s5, Ss ++ [.is kp [t]], RepL.snoc (hR.same s5) r5, by rw [List.length_append, hl]; rfl, fun S hS => ?_⟩
        rcases List.mem_append.mp hS with z | z
        · exact hd S z
        · rw [List.mem_singleton.mp z]; rfl
    · obtain ⟨s4, Ss, hR, hl, hd⟩ := hv
      exact hN _ _ ⟨s4.trans (same_new hp _), p, acc, Ss, by rw [hl, List.length_map, hts], upd_same, hR.same (same_new hp _), hd, rfl⟩
  obtain ⟨s4, fp, us, Ss, hus, hfp, hR, hd, rfl⟩ := hv
  have s04 := (s2.trans s3).trans s4
  have hnp4 := s4 _ _ hnp
  match ts, hts, hnp, hnp4 with
  | [], hts, _, _ => simp at hts; omega
  | t0 :: ts', hts, hnp, hnp4 =>
  have hx0 : ∀ {σ : St} {H6 : Hp}, Same H4 H6 → σ[4]? = some (some (.ref np)) → EvT K σ H6 (tOp (rIx K) (tVar 4) (tC (.int 0))) t0 := fun {σ H6} s6 hσ H7 s7 Q q => by
    refine ⟨_, hσ, ?_⟩
    show rIx K (.ref np) (.int 0) H7 Q
    rw [w_ixR]
    exact ⟨_, .inl (SqL.of ((s6.trans s7) _ _ hnp4)), _, atI_nat (j := 0) rfl, q⟩
  refine seq_ifP (c := c % 4 = 0) (fun Qb q => ?_) (fun c1 => ?_) fun c1 => ?_
  · walk_at ""
    exact ⟨by decide, q⟩
  · rw [w_ret]
    exact q_one (K := K) (ev_quc true (ev_quc false (ev_is2 (et_v rfl) et_c et_c))) ev_fls (by simp [Stm.deep]) (by simp [Stm.deep]) fun v H' s' h' => k v H' (s04.trans s') h'
  refine seq_ifP (c := c % 4 = 1) (fun Qb q => ?_) (fun c2 => ?_) fun c2 => ?_
  · walk_at ""
    exact ⟨by decide, q⟩
  · refine seq_cut (fun σ' H5 => Same H4 H5 ∧ ∃ (rp : Addr) (us : List V) (Ss : List Stm), us.length = n ∧ H5 rp = some (.lst us) ∧ RepL K H5 Ss us ∧ (∀ S ∈ Ss, S.deep ≤ 60) ∧ σ' = [some (.int sh), some (.int c), some (.int n), some (.str kp), some (.ref np), some (.ref fp), some (.ref rp), none]) (fun N hN => ?_) fun σ' H5 hv => ?_
    · walk_at ""
      refine .inl ⟨⟨_, SqL.of hnp4⟩, ?_⟩
      refine comp_list (xs := (t0 :: ts').map V.str) (fun i acc H5 => Same H4 H5 ∧ ∃ Ss : List Stm, RepL K H5 Ss acc ∧ acc.length = i ∧ ∀ S ∈ Ss, S.deep ≤ 60) ⟨Same.refl _, [], .nil, rfl, by simp⟩ (fun i acc H5 _ hv => hv.1.seq (SqL.of hnp4)) (fun i x acc H5 hx hv => ?_) fun acc H5 hv p hp => ?_
      · obtain ⟨s5, Ss, hR, hl, hd⟩ := hv
        rw [List.getElem?_map] at hx
        cases e : (t0 :: ts')[i]? with
        | none => rw [e] at hx; cases hx
        | some t =>
          rw [e] at hx
          cases hx
          have hi := (List.getElem?_eq_some_iff.mp e).1
          refine ⟨sz1000' (by omega), ?_⟩
          simp only [slotsC, List.replicate_succ, List.replicate_zero, List.map_cons, List.map_nil, List.nil_append, List.cons_append, List.getElem?_cons_zero, List.getElem?_cons_succ, Option.join_some]
          walk_at ""
          refine ⟨sz1000 (show 1 ≤ 100000 by decide), fun p1 hp1 => ⟨sz1000 (show 3 ≤ 100000 by decide), fun p2 hp2 => ⟨cdiv, _, _, rfl, Int.ediv_nonneg h0 (by decide), by decide, by decide, fun y H6 s6 _ => ?_⟩⟩⟩
          (try walk_at "")
          refine ⟨Nat.zero_le _, fun p3 hp3 => ⟨sz1000 (show 3 ≤ 100000 by decide), fun p4 hp4 => ⟨sz1000 (show 2 ≤ 100000 by decide), fun p5 hp5 => ⟨sz1000 (show 3 ≤ 100000 by decide), fun p6 hp6 => ?_⟩⟩⟩⟩
          have a2 := same_new hp2 (.tup [V.str "is", V.str kp, V.ref p1])
          have a3 := same_new hp3 (.tup [])
          have a4 := same_new hp4 (.tup [V.str "is", V.str y, V.ref p3])
          have a5 := same_new hp5 (.tup [V.str "not", V.ref p4])
          have a6 := same_new hp6 (.tup [V.str "or", V.ref p2, V.ref p5])
          have b3 := (((s6.trans a3).trans a4).trans a5).trans a6
          have b0 := ((same_new hp1 (.tup [V.str t])).trans a2).trans b3
          refine ⟨s5.trans b0, Ss ++ [.bi .or (.is kp [t]) (.neg (.is y []))], RepL.snoc (S := .bi .or (.is kp [t]) (.neg (.is y []))) (hR.same b0) ⟨p6, _, _, rfl, SqT.of upd_same, ⟨p2, p1, rfl, b3.seqT (SqT.of upd_same), (a2.trans b3).seqT (SqT.of upd_same)⟩, ⟨p5, _, rfl, a6.seqT (SqT.of upd_same), ⟨p4, p3, rfl, (a5.trans a6).seqT (SqT.of upd_same), ((a4.trans a5).trans a6).seqT (SqT.of upd_same)⟩⟩⟩, by rw [List.length_append, hl]; rfl, fun S hS => ?_⟩
          rcases List.mem_append.mp hS with z | z
          · exact hd S z
          · rw [List.mem_singleton.mp z]; simp [Stm.deep]
      · obtain ⟨s5, Ss, hR, hl, hd⟩ := hv
        exact hN _ _ ⟨s5.trans (same_new hp _), p, acc, Ss, by rw [hl, List.length_map, hts], upd_same, hR.same (same_new hp _), hd, rfl⟩
    obtain ⟨s5, rp, us, Ss, hus, hrp, hR, hd, rfl⟩ := hv
    rw [w_ret]
    exact q_tup (K := K) (el_v rfl (SqL.of hrp) hR (by omega) hd) (ev_and ev_fls (ev_is0 (et_v rfl))) (by simp [Stm.deep]) fun v H' s' h' => k v H' ((s04.trans s5).trans s') h'
  refine seq_ifP (c := c % 4 = 2) (fun Qb q => ?_) (fun c3 => ?_) fun c3 => ?_
  · walk_at ""
    exact ⟨by decide, q⟩
  · refine seq_cut (fun σ' H5 => Same H4 H5 ∧ ∃ v, RepS K H5 (.qu false "X" (.is kp ["X", t0])) v ∧ σ' = [some (.int sh), some (.int c), some (.int n), some (.str kp), some (.ref np), some (.ref fp), none, some v]) (fun N hN => ?_) fun σ' H5 hv => ?_
    · rw [w_asg]
      exact EvS.use (K := K) (ev_quc false (ev_is2 (et_v rfl) et_c (hx0 (Same.refl _) rfl))) fun v H5 s5 r5 => hN _ _ ⟨s5, v, r5, rfl⟩
    obtain ⟨s5, v, rv, rfl⟩ := hv
    rw [w_ret]
    refine q_tup (K := K) (S := .qu false "X" (.is kp ["X", t0])) (fun H6 s6 Q6 k6 => ?_) (ev_var rv rfl) (by simp [Stm.deep]) fun v H' s' h' => k v H' ((s04.trans s5).trans s') h'
    walk_at ""
    refine ⟨sz1000 (show 1 ≤ 100000 by decide), fun q hq => ⟨_, _, .inl ⟨(same_new hq _) _ _ ((s5.trans s6) _ _ hfp), upd_same, sz1000 (show us.length + 1 ≤ 100000 by omega), fun r hr' => ?_⟩⟩⟩
    have sr := (same_new hq (.lst [v])).trans (same_new hr' (.lst (us ++ [v])))
    refine k6 r _ (Ss ++ [.qu false "X" (.is kp ["X", t0])]) _ sr (SqL.of upd_same) (RepL.snoc (hR.same ((s5.trans s6).trans sr)) (rv.same (s6.trans sr))) (by rw [List.length_append]; simp; omega) fun S hS => ?_
    rcases List.mem_append.mp hS with z | z
    · rw [hd S z]; decide
    · rw [List.mem_singleton.mp z]; simp [Stm.deep]
  refine seq_cut (fun σ' H5 => Same H4 H5 ∧ ∃ (rp : Addr) (u : V) (S1 : Stm), H5 rp = some (.lst [u]) ∧ RepS K H5 S1 u ∧ S1.deep ≤ 60 ∧ σ' = [some (.int sh), some (.int c), some (.int n), some (.str kp), some (.ref np), some (.ref fp), some (.ref rp), none]) (fun N hN => ?_) fun σ' H5 hv => ?_
  · rw [w_asg, w_lst, w_cons]
    refine EvS.use (K := K) (ev_quc true (ev_thn (ev_is1 (et_v rfl) et_c) (ev_is2 (et_v rfl) et_c (hx0 (Same.refl _) rfl)))) fun v H5 s5 r5 => ⟨sz1000 (show 1 ≤ 100000 by decide), fun q hq => hN _ _ ⟨s5.trans (same_new hq _), q, v, _, upd_same, r5.same (same_new hq _), by simp [Stm.deep], rfl⟩⟩
  obtain ⟨s5, rp, u, S1, hrp, r1, d1, rfl⟩ := hv
  rw [w_ret]
  have m0 := Int.emod_nonneg (sh / 7) (show (n : Int) ≠ 0 by omega)
  have m1 := Int.emod_lt_of_pos (sh / 7) (show (0 : Int) < n by omega)
  obtain ⟨j, ej⟩ : ∃ j : Nat, sh / 7 % (n : Int) = j := ⟨(sh / 7 % (n : Int)).toNat, by omega⟩
  have hj : j < (t0 :: ts').length := by omega
  have hx1 : EvT K [some (.int sh), some (.int c), some (.int n), some (.str kp), some (.ref np), some (.ref fp), some (.ref rp), none] H5 (tOp (rIx K) (tVar 4) (tOp (rI (fun x j => 0 < j) fun i j => V.int (i % j)) (tOp (rI CDiv fun i j => V.int (i / j)) (tVar 0) (tC (V.int 7))) (tVar 2))) (t0 :: ts')[j] := fun H7 s7 Q q => by
    walk_at ""
    refine ⟨cdiv, by omega, _, .inl (SqL.of ((s5.trans s7) _ _ hnp4)), ?_⟩
    rw [ej]
    exact ⟨_, atI_nat (by rw [List.getElem?_map, List.getElem?_eq_getElem hj]; rfl), q⟩
  refine q_tup (K := K) (fun H6 s6 Q6 k6 => ?_) (ev_is2 (et_v rfl) hx1 (hx0 s5 rfl)) (by simp [Stm.deep]) fun v H' s' h' => k v H' ((s04.trans s5).trans s') h'
  walk_at ""
  refine ⟨_, _, .inl ⟨(s5.trans s6) _ _ hfp, s6 _ _ hrp, sz1000 (show us.length + 1 ≤ 100000 by omega), fun r hr' => ?_⟩⟩
  have sr := same_new hr' (.lst (us ++ [u]))
  refine k6 r _ (Ss ++ [S1]) _ sr (SqL.of upd_same) (RepL.snoc (hR.same ((s5.trans s6).trans sr)) (r1.same (s6.trans sr))) (by rw [List.length_append]; simp; omega) fun S hS => ?_
  rcases List.mem_append.mp hS with z | z
  · rw [hd S z]; decide
  · rw [List.mem_singleton.mp z]; exact d1
end
section
variable {P : Program} {w : World} {K : PySem.W.Frag} {mg : Str → Option Value} {base0 : Heap} {D : Defs}
theorem cut_ints (ms : List Int) (i j : Nat) : ∃ ms' : List Int, cutV (ms.map V.int) (some (i : Int)) (some (j : Int)) = ms'.map V.int ∧ ms'.length ≤ j - i := by
  refine ⟨(ms.drop (min i ms.length)).take (min j ms.length - min i ms.length), ?_, ?_⟩
  · unfold cutV
    rw [List.length_map]
    have e : ∀ d k : Nat, HT.sIx ms.length d (some (k : Int)) = min k ms.length := fun d k => by
      show (if (k : Int) < 0 then ((k : Int) + (ms.length : Int)).toNat else min (k : Int).toNat ms.length) = _
      rw [if_neg (by omega), Int.toNat_natCast]
    rw [e, e, List.map_take, List.map_drop]
  · rw [List.length_take, List.length_drop]
    omega
theorem cut_ints0 (ms : List Int) (j : Nat) : ∃ ms' : List Int, cutV (ms.map V.int) none (some (j : Int)) = ms'.map V.int ∧ ms'.length ≤ j := by
  rw [cut_to]
  exact ⟨ms.take j, by rw [List.map_take], List.length_take_le _ _⟩
theorem cut_ints3 (ms : List Int) (i : Nat) : ∃ ms' : List Int, cutV (ms.map V.int) (some (i : Int)) none = ms'.map V.int ∧ ms'.length ≤ ms.length := by
  refine ⟨(ms.drop (min i ms.length)).take (ms.length - min i ms.length), ?_, ?_⟩
  · unfold cutV
    rw [List.length_map]
    have e : HT.sIx ms.length 0 (some (i : Int)) = min i ms.length := by
      show (if (i : Int) < 0 then ((i : Int) + (ms.length : Int)).toNat else min (i : Int).toNat ms.length) = _
      rw [if_neg (by omega), Int.toNat_natCast]
    rw [e, List.map_take, List.map_drop]
    rfl
  · rw [List.length_take, List.length_drop]
    omega
theorem RepS.keepL' {H : Hp} {p : Addr} {ys zs : List V} (hp : H p = some (.lst ys)) : ∀ {S : Stm} {v : V}, RepS K H S v → RepS K (upd H p (.lst zs)) S v
  | .is _ _, _, ⟨a, b, h1, h2, h3⟩ => ⟨a, b, h1, h2.keepL hp, h3.keepL hp⟩
  | .fls, _, ⟨a, h1, h2⟩ => ⟨a, h1, h2.keepL hp⟩
  | .neg _, _, ⟨a, u, h1, h2, h3⟩ => ⟨a, u, h1, h2.keepL hp, RepS.keepL' hp h3⟩
  | .bi _ _ _, _, ⟨a, u, u', h1, h2, h3, h4⟩ => ⟨a, u, u', h1, h2.keepL hp, RepS.keepL' hp h3, RepS.keepL' hp h4⟩
  | .qu _ _ _, _, ⟨a, u, h1, h2, h3⟩ => ⟨a, u, h1, h2.keepL hp, RepS.keepL' hp h3⟩
theorem RepL.keepL' {H : Hp} {p : Addr} {ys zs : List V} {Ss : List Stm} {vs : List V} (hp : H p = some (.lst ys)) (h : RepL K H Ss vs) : RepL K (upd H p (.lst zs)) Ss vs := Paired.mapP h fun _ _ => RepS.keepL' hp
def EvE (K : PySem.W.Frag) (σ : St) (H : Hp) (te : TE) : Prop := ∀ H1, Same H H1 → ∀ Q : VK, (∀ v S H2, Same H1 H2 → RepS K H2 S v → S.deep ≤ 60 → Q v H2) → te σ H1 Q
theorem q_tupE {σ : St} {H : Hp} {tl te : TE} {Q : VK} (hl : EvL K σ H tl) (h : EvE K σ H te) (k : ∀ v H', Same H H' → QOk K H' v → Q v H') : tTup (tCons (tCB (rTupleOf K) (tCons tl tNil)) (tCons te tNil)) σ H Q :=
  hl H (Same.refl _) _ fun q us Ss H2 s2 hq hR hlen hd => by
    rw [w_nil]
    show rTupleOf K [.ref q] H2 _
    rw [w_tupleOf]
    refine ⟨us, .inl ⟨hq, fun g hg => ?_⟩⟩
    have sg := same_new hg (.tup us)
    refine h _ (s2.trans sg) _ fun v S H3 s3 r3 d => ⟨sz1000 (show 2 ≤ 100000 by decide), fun p hp => ?_⟩
    have sp := same_new hp (.tup [.ref g, v])
    exact k _ _ (((s2.trans sg).trans s3).trans sp) ⟨p, g, v, us, Ss, S, rfl, SqT.of upd_same, (s3.trans sp).seqT (SqT.of upd_same), hR.same ((sg.trans s3).trans sp), hlen, r3.same sp, hd, d⟩
def spQst (K : PySem.W.Frag) : Sp := fun vs H Q _ => ∃ (a : Addr) (ns : List Int), vs = [.ref a] ∧ SqL K H a (ns.map V.int) ∧ ns.length ≤ 63 ∧ ∀ v H', Same H H' → QOk K H' v → Q v H'
theorem ok_question_L (T : Tx K mg D) : FnOk P w K mg base0 CX0 24 D.a_question_L D.d_question_L ["_law_script"] (spQst K) := by
  have G_cell_at_L := ok_cell_at_L (P := P) (w := w) (base0 := base0) T
  have G_mixed_L := ok_mixed_L (P := P) (w := w) (base0 := base0) T
  have G_wide_L := ok_wide_L (P := P) (w := w) (base0 := base0) T
  have G_statement_by_L := ok_statement_by_L (P := P) (w := w) (base0 := base0) T
  have G_letter_by_L := ok_letter_by_L (P := P) (w := w) (base0 := base0) T
  have G_schema_L := ok_schema_L (P := P) (w := w) (base0 := base0) T
  have G_open_by_L := ok_open_by_L (P := P) (w := w) (base0 := base0) T
  have G_name_by_L := ok_name_by_L (P := P) (w := w) (base0 := base0) T
  have G_named_L := ok_named_L (P := P) (w := w) (base0 := base0) T
  refine T.F_question_L.ok sc_question_L (fun vs H Q E h => ?_) (fun cdv A outer s H vs Q E hr h => ?_)
  · obtain ⟨a, ns, rfl, _⟩ := h; rfl
  obtain ⟨a, ns, rfl, hS, hl, k⟩ := h
  have hu := hr.units
  have hr_cell_at_L : Room 1 _ := hr.mono (by decide)
  have hr_mixed_L : Room 1 _ := hr.mono (by decide)
  have hr_wide_L : Room 3 _ := hr.mono (by decide)
  have hr_statement_by_L : Room 23 _ := hr.mono (by decide)
  have hr_letter_by_L : Room 1 _ := hr.mono (by decide)
  have hr_schema_L : Room 1 _ := hr.mono (by decide)
  have hr_open_by_L : Room 22 _ := hr.mono (by decide)
  have hr_name_by_L : Room 2 _ := hr.mono (by decide)
  have hr_named_L : Room 22 _ := hr.mono (by decide)
  refine ⟨_, (pss_cons (ps_set (i := 1) sc_question_L.nd (by rfl) (by walk_at "o") (pe_op op_modP (pe_call G_cell_at_L hr_cell_at_L (by rfl) T.m_cell_at_L T.F_cell_at_L.kp T.b_cell_at_L .nil pass0 (pa_cons (pv 0) (pa_cons pe_int pa_nil))) (pe_op op_pow pe_int pe_int)))
    (pss_cons (ps_set (i := 2) sc_question_L.nd (by rfl) (by walk_at "o") (pe_call G_cell_at_L hr_cell_at_L (by rfl) T.m_cell_at_L T.F_cell_at_L.kp T.b_cell_at_L .nil pass0 (pa_cons (pv 0) (pa_cons pe_int pa_nil))))
    (pss_cons (ps_set (i := 3) sc_question_L.nd (by rfl) (by walk_at "o") (pe_call G_mixed_L hr_mixed_L (by rfl) T.m_mixed_L T.F_mixed_L.kp T.b_mixed_L .nil pass0 (pa_cons (pe_slice (slB K) (pv 0) (po_some pe_int) po_none) pa_nil)))
    (pss_cons (ps_if (pt_cmpR (opB_eq K hu) (pe_op op_modP (pv 2) pe_int) pe_int (nomark _)) (pss_one (ps_ret (pe_call G_wide_L hr_wide_L (by rfl) T.m_wide_L T.F_wide_L.kp T.b_wide_L .nil pass0 (pa_cons (pv 1) (pa_cons (pe_op op_fdivP (pv 2) pe_int) pa_nil))))) pss_nil)
    (pss_cons (ps_if (pt_cmpR (opB_eq K hu) (pe_op op_modP (pv 2) pe_int) pe_int (nomark _)) (pss_cons (ps_setComp (i := 4) 1 [1, 3] ["_law_k", "_law_shape", "_law_cells"] sc_question_L.nd (by rfl) (by rfl) ⟨by rfl, by rfl, by rfl, by rfl, by rfl, by rfl, by rfl⟩ (by rfl) (pi_range1 (by rfl) T.z_range (pa_cons (pe_op op_modP (pe_op op_fdivP (pv 2) pe_int) pe_int) pa_nil)) (fun _ _ _ _ => pg_name (i := 0) (show List.Nodup (["_law_k", "_law_shape", "_law_cells"] : List Str) by decide +kernel) (by rfl) (Or.inl (by rfl)) (Or.inr (by rfl))) (gName_keep (by decide)) (fun _ _ _ _ => pif_nil) (fun _ _ _ _ => (pe_call G_statement_by_L hr_statement_by_L (by rfl) T.m_statement_by_L T.F_statement_by_L.kp T.b_statement_by_L .nil pass0 (pa_cons (pv 1) (pa_cons (pe_slice (slB K) (pv 2) (po_some (pe_op (opB_add K) pe_int (pe_op opA_mul pe_int (pv 0)))) (po_some (pe_op (opB_add K) pe_int (pe_op opA_mul pe_int (pv 0))))) pa_nil)))))
    (pss_one (ps_ret (pe_tup (pa_cons (pe_callTy (callA_tuple K) (by rfl) T.z_tuple (by rfl) (pa_cons (pv 4) pa_nil)) (pa_cons (pe_call G_statement_by_L hr_statement_by_L (by rfl) T.m_statement_by_L T.F_statement_by_L.kp T.b_statement_by_L .nil pass0 (pa_cons (pv 1) (pa_cons (pe_slice (slB K) (pv 3) po_none (po_some pe_int)) pa_nil))) pa_nil)))))) pss_nil)
    (pss_cons (ps_set (i := 5) sc_question_L.nd (by rfl) (by walk_at "o") (pe_call G_letter_by_L hr_letter_by_L (by rfl) T.m_letter_by_L T.F_letter_by_L.kp T.b_letter_by_L .nil pass0 (pa_cons (pv 1) (pa_cons (pe_op op_modP (pe_op op_fdivP (pv 2) pe_int) pe_int) pa_nil))))
    (pss_cons (ps_set (i := 6) sc_question_L.nd (by rfl) (by walk_at "o") (pe_call G_schema_L hr_schema_L (by rfl) T.m_schema_L T.F_schema_L.kp T.b_schema_L .nil pass0 (pa_cons (pe_op op_fdivP (pv 2) pe_int) (pa_cons (pe_call G_open_by_L hr_open_by_L (by rfl) T.m_open_by_L T.F_open_by_L.kp T.b_open_by_L .nil pass0 (pa_cons (pv 1) (pa_cons (pe_slice (slB K) (pv 3) po_none (po_some pe_int)) (pa_cons (pv 5) pa_nil)))) (pa_cons (pe_call G_open_by_L hr_open_by_L (by rfl) T.m_open_by_L T.F_open_by_L.kp T.b_open_by_L .nil pass0 (pa_cons (pv 1) (pa_cons (pe_slice (slB K) (pv 3) (po_some pe_int) (po_some pe_int)) (pa_cons (pv 5) pa_nil)))) (pa_cons (pv 5) pa_nil))))))
    (pss_cons (ps_set (i := 7) sc_question_L.nd (by rfl) (by walk_at "o") (pe_call G_name_by_L hr_name_by_L (by rfl) T.m_name_by_L T.F_name_by_L.kp T.b_name_by_L .nil pass0 (pa_cons (pv 1) (pa_cons (pe_op op_modP (pe_op op_fdivP (pv 2) pe_int) pe_int) pa_nil))))
    (pss_cons (ps_setComp (i := 4) 1 [7] ["_law_one", "_law_name"] sc_question_L.nd (by rfl) (by rfl) ⟨by rfl, by rfl, by rfl, by rfl, by rfl, by rfl, by rfl⟩ (by rfl) (pi_any K (pe_ix (ixA K) (pv 6) pe_int (fun _ _ => rfl))) (fun _ _ _ _ => pg_name (i := 0) (show List.Nodup (["_law_one", "_law_name"] : List Str) by decide +kernel) (by rfl) (Or.inl (by rfl)) (Or.inr (by rfl))) (gName_keep (by decide)) (fun _ _ _ _ => pif_nil) (fun _ _ _ _ => (pe_call G_named_L hr_named_L (by rfl) T.m_named_L T.F_named_L.kp T.b_named_L .nil pass0 (pa_cons (pv 0) (pa_cons (pv 1) pa_nil)))))
    (pss_cons (ps_if (pt_cmpR (opB_eq K hu) (pe_op op_modP (pv 2) pe_int) pe_int (nomark _)) (pss_one (ps_expr (pe_bmA K PySem.F.plainAttrs_list PySem.F.slot_list_append PySem.F.type_list_append mtR_append (pv 4) (pa_cons (pe_call G_statement_by_L hr_statement_by_L (by rfl) T.m_statement_by_L T.F_statement_by_L.kp T.b_statement_by_L .nil pass0 (pa_cons (pv 1) (pa_cons (pe_slice (slB K) (pv 3) (po_some pe_int) (po_some pe_int)) pa_nil))) pa_nil)))) pss_nil)
    (pss_one (ps_ret (pe_tup (pa_cons (pe_callTy (callA_tuple K) (by rfl) T.z_tuple (by rfl) (pa_cons (pv 4) pa_nil)) (pa_cons (pe_call G_named_L hr_named_L (by rfl) T.m_named_L T.F_named_L.kp T.b_named_L .nil pass0 (pa_cons (pe_ix (ixA K) (pv 6) pe_int (fun _ _ => rfl)) (pa_cons (pv 7) pa_nil))) pa_nil))))))))))))))), ?_⟩
  walk_at "S"
  refine seq_cut (fun σ' H' => H' = H ∧ ∃ sh : Int, 0 ≤ sh ∧ sh < 1000000 ∧ σ' = [some (.ref a), some (.int sh), none, none, none, none, none, none]) (fun N hN => ?_) fun σ' H' hv => ?_
  · walk_at ""
    refine ⟨a, ns, 0, rfl, hS, by decide, ⟨by decide, by decide, by decide⟩, ?_⟩
    (try walk_at "")
    have sh0 := Int.emod_nonneg (cellI ns 0) (show ((10 : Int) ^ Int.toNat 6) ≠ 0 by decide)
    have sh1 := Int.emod_lt_of_pos (cellI ns 0) (show (0 : Int) < (10 : Int) ^ Int.toNat 6 by decide)
    exact ⟨by decide, hN _ _ ⟨rfl, _, sh0, sh1, rfl⟩⟩
  obtain ⟨rfl, sh, h0, h1, rfl⟩ := hv
  refine seq_cut (fun σ' H2 => H2 = H' ∧ ∃ wy : Int, σ' = [some (.ref a), some (.int sh), some (.int wy), none, none, none, none, none]) (fun N hN => ?_) fun σ' H2 hv => ?_
  · walk_at ""
    exact ⟨a, ns, 1, rfl, hS, by decide, hN _ _ ⟨rfl, _, rfl⟩⟩
  obtain ⟨rfl, wy, rfl⟩ := hv
  refine seq_cut (fun σ' H3 => Same H2 H3 ∧ ∃ (cp : Addr) (ms : List Int), H3 cp = some (.lst (ms.map V.int)) ∧ ms.length ≤ 63 ∧ (∀ m ∈ ms, 0 ≤ m) ∧ σ' = [some (.ref a), some (.int sh), some (.int wy), some (.ref cp), none, none, none, none]) (fun N hN => ?_) fun σ' H3 hv => ?_
  · walk_at ""
    obtain ⟨ms', e, hl'⟩ := cut_ints3 ns 3
    refine ⟨_, .inl ⟨hS, fun q hq => ?_⟩⟩
    rw [show (3 : Int) = ((3 : Nat) : Int) from rfl, e] at *
    exact ⟨q, ms', rfl, SqL.of upd_same, by omega, fun p ms H3 s3 hp hm hnn => hN _ _ ⟨(same_new hq _).trans s3, p, ms, hp, by omega, hnn, rfl⟩⟩
  obtain ⟨s3, cp, ms, hcp, hms, hnn, rfl⟩ := hv
  have md : ∀ (m : Int) (c : Int), 0 < m → 0 ≤ c % m ∧ c % m < m := fun m c hm => ⟨Int.emod_nonneg c (by omega), Int.emod_lt_of_pos c hm⟩
  have slice : ∀ (H4 : Hp) (lo hi : Nat), Same H3 H4 → ∀ Q' : V → Hp → Prop, (∀ q (ms' : List Int) H5, Same H4 H5 → SqL K H5 q (ms'.map V.int) → ms'.length ≤ hi - lo → Q' (.ref q) H5) → rSlB K (.ref cp) (some (lo : Int)) (some (hi : Int)) H4 Q' := fun H4 lo hi s4 Q' q => by
    walk_at ""
    obtain ⟨ms', e, hl'⟩ := cut_ints ms lo hi
    refine ⟨_, .inl ⟨SqL.of (s4 _ _ hcp), fun r hr' => ?_⟩⟩
    rw [e]
    exact q r ms' _ (same_new hr' _) (SqL.of upd_same) hl'
  have slice0 : ∀ (H4 : Hp) (hi : Nat), Same H3 H4 → ∀ Q' : V → Hp → Prop, (∀ q (ms' : List Int) H5, Same H4 H5 → SqL K H5 q (ms'.map V.int) → ms'.length ≤ hi → Q' (.ref q) H5) → rSlB K (.ref cp) none (some (hi : Int)) H4 Q' := fun H4 hi s4 Q' q => by
    walk_at ""
    obtain ⟨ms', e, hl'⟩ := cut_ints0 ms hi
    refine ⟨_, .inl ⟨SqL.of (s4 _ _ hcp), fun r hr' => ?_⟩⟩
    rw [e]
    exact q r ms' _ (same_new hr' _) (SqL.of upd_same) hl'
  refine seq_ifP (c := wy % 24 = 23) (fun Qb q => ?_) (fun c1 => ?_) fun c1 => ?_
  · walk_at ""
    exact ⟨by decide, q⟩
  · walk_at ""
    exact ⟨cdiv, sh, _, rfl, h0, h1, fun v H4 s4 h4 => k v H4 (s3.trans s4) h4⟩
  refine seq_ifP (c := wy % 3 = 0) (fun Qb q => ?_) (fun c2 => ?_) fun c2 => ?_
  · walk_at ""
    exact ⟨by decide, q⟩
  · refine seq_cut (fun σ' H4 => Same H3 H4 ∧ ∃ (rp : Addr) (us : List V) (Ss : List Stm), us.length ≤ 4 ∧ H4 rp = some (.lst us) ∧ RepL K H4 Ss us ∧ (∀ S ∈ Ss, S.deep ≤ 60) ∧ σ' = [some (.ref a), some (.int sh), some (.int wy), some (.ref cp), some (.ref rp), none, none, none]) (fun N hN => ?_) fun σ' H4 hv => ?_
    · walk_at ""
      obtain ⟨g0, g1⟩ := md 4 (wy / 3) (by decide)
      generalize wy / 3 % 4 = nn at g0 g1 ⊢
      refine ⟨cdiv, by decide, by omega, by omega, ?_⟩
      refine comp_range (fun i acc H4 => Same H3 H4 ∧ ∃ Ss : List Stm, RepL K H4 Ss acc ∧ acc.length = i ∧ ∀ S ∈ Ss, S.deep ≤ 60) ⟨Same.refl _, [], .nil, rfl, by simp⟩ (fun i acc H4 hi hv => ?_) fun acc H4 hv p hp => ?_
      · obtain ⟨s4, Ss, hR, hl, hd⟩ := hv
        refine ⟨sz1000' (by omega), ?_⟩
        simp only [slotsC, List.replicate_succ, List.replicate_zero, List.map_cons, List.map_nil, List.nil_append, List.cons_append, List.getElem?_cons_zero, List.getElem?_cons_succ, Option.join_some]
        walk_at ""
        obtain ⟨ms', e, hl'⟩ := cut_ints ms (5 + 4 * i) (9 + 4 * i)
        have e1 : (5 : Int) + 4 * (0 + (i : Int)) = ((5 + 4 * i : Nat) : Int) := by omega
        have e2 : (9 : Int) + 4 * (0 + (i : Int)) = ((9 + 4 * i : Nat) : Int) := by omega
        rw [e1, e2]
        refine ⟨cmulL, cmulL, _, .inl ⟨SqL.of (s4 _ _ hcp), fun q hq => ?_⟩⟩
        rw [e]
        refine ⟨q, sh, ms', rfl, SqL.of upd_same, by omega, h0, fun S v H5 s5 r5 _ d5 => ?_⟩
        have sq := (same_new hq (.lst (ms'.map V.int))).trans s5
        refine ⟨s4.trans sq, Ss ++ [S], RepL.snoc (hR.same sq) r5, by rw [List.length_append, hl]; rfl, fun S' hS' => ?_⟩
        rcases List.mem_append.mp hS' with z | z
        · exact hd S' z
        · rw [List.mem_singleton.mp z]; omega
      · obtain ⟨s4, Ss, hR, hl, hd⟩ := hv
        exact hN _ _ ⟨s4.trans (same_new hp _), p, acc, Ss, by omega, upd_same, hR.same (same_new hp _), hd, rfl⟩
    obtain ⟨s4, rp, us, Ss, hus, hrp, hR, hd, rfl⟩ := hv
    rw [w_ret]
    refine q_tupE (K := K) (el_v rfl (SqL.of hrp) hR (by omega) hd) (fun H5 s5 Q5 k5 => ?_) fun v H' s' h' => k v H' ((s3.trans s4).trans s') h'
    walk_at ""
    obtain ⟨ms', e, hl'⟩ := cut_ints0 ms 5
    refine ⟨_, .inl ⟨SqL.of ((s4.trans s5) _ _ hcp), fun q hq => ?_⟩⟩
    rw [show (5 : Int) = ((5 : Nat) : Int) from rfl, e]
    exact ⟨q, sh, ms', rfl, SqL.of upd_same, by omega, h0, fun S v H6 s6 r6 _ d6 => k5 v S H6 ((same_new hq _).trans s6) r6 (by omega)⟩
  refine seq_cut (fun σ' H4 => H4 = H3 ∧ ∃ kx, tb kx ∧ σ' = [some (.ref a), some (.int sh), some (.int wy), some (.ref cp), none, some (.str kx), none, none]) (fun N hN => ?_) fun σ' H4 hv => ?_
  · walk_at ""
    obtain ⟨g0, g1⟩ := md 3 (wy / 12) (by decide)
    exact ⟨cdiv, by decide, sh, _, rfl, h0, g0, g1, fun x hx => hN _ _ ⟨rfl, x, hx, rfl⟩⟩
  obtain ⟨rfl, kx, hkx, rfl⟩ := hv
  refine seq_cut (fun σ' H5 => Same H4 H5 ∧ ∃ v, PairOk K H5 v ∧ σ' = [some (.ref a), some (.int sh), some (.int wy), some (.ref cp), none, some (.str kx), some v, none]) (fun N hN => ?_) fun σ' H5 hv => ?_
  · walk_at ""
    obtain ⟨m1, e1, l1⟩ := cut_ints0 ms 3
    obtain ⟨m2, e2, l2⟩ := cut_ints ms 3 6
    refine ⟨cdiv, _, .inl ⟨SqL.of hcp, fun q hq => ?_⟩⟩
    rw [show (3 : Int) = ((3 : Nat) : Int) from rfl, show (6 : Int) = ((6 : Nat) : Int) from rfl, e1]
    have sq := same_new hq (.lst (m1.map V.int))
    refine ⟨sh, q, m1, kx, rfl, h0, SqL.of upd_same, l1, hkx, fun A va H5 s5 rA qA => ?_⟩
    (try walk_at "")
    have sq5 := sq.trans s5
    refine ⟨_, .inl ⟨SqL.of (sq5 _ _ hcp), fun q2 hq2 => ?_⟩⟩
    rw [e2]
    have sq6 := same_new hq2 (.lst (m2.map V.int))
    refine ⟨sh, q2, m2, kx, rfl, h0, SqL.of upd_same, l2, hkx, fun B vb H6 s6 rB qB => ?_⟩
    (try walk_at "")
    exact ⟨_, va, vb, A, B, kx, rfl, rA.same (sq6.trans s6), rB, qA, qB, hkx, fun v H7 s7 hv => hN _ _ ⟨((sq5.trans sq6).trans s6).trans s7, v, hv, rfl⟩⟩
  obtain ⟨s5, v, ⟨p, gp, v', us, Ss, S, rfl, hp, hg, hR, hlen, rS, qs, qS⟩, rfl⟩ := hv
  refine seq_cut (fun σ' H6 => Same H5 H6 ∧ ∃ nm, tb nm ∧ σ' = [some (.ref a), some (.int sh), some (.int wy), some (.ref cp), none, some (.str kx), some (.ref p), some (.str nm)]) (fun N hN => ?_) fun σ' H6 hv => ?_
  · walk_at ""
    obtain ⟨g0, g1⟩ := md 5 (wy / 504) (by decide)
    exact ⟨cdiv, by decide, sh, _, rfl, h0, g0, g1, fun x H6 s6 hx => hN _ _ ⟨s6, x, hx, rfl⟩⟩
  obtain ⟨s6, nm, hnm, rfl⟩ := hv
  have hl3 := Paired.length hR
  refine seq_cut (fun σ' H7 => Same H6 H7 ∧ ∃ (rp : Addr) (ws : List V) (Ts : List Stm), ws.length ≤ 3 ∧ H7 rp = some (.lst ws) ∧ H6 rp = none ∧ RepL K H7 Ts ws ∧ (∀ S ∈ Ts, S.deep ≤ 60) ∧ σ' = [some (.ref a), some (.int sh), some (.int wy), some (.ref cp), some (.ref rp), some (.str kx), some (.ref p), some (.str nm)]) (fun N hN => ?_) fun σ' H7 hv => ?_
  · walk_at ""
    refine ⟨_, .inr (s6.seqT hp), _, atI_nat (j := 0) rfl, ?_⟩
    (try walk_at "")
    refine .inr ⟨⟨_, s6.seqT hg⟩, ?_⟩
    refine comp_tup (xs := us) (fun i acc H7 => Same H6 H7 ∧ ∃ Ts : List Stm, RepL K H7 Ts acc ∧ acc.length = i ∧ ∀ S ∈ Ts, S.deep ≤ 60) ⟨Same.refl _, [], .nil, rfl, by simp⟩ (fun i acc H7 _ hv => (s6.trans hv.1).seqT hg) (fun i x acc H7 hx hv => ?_) fun acc H7 hv q hq => ?_
    · obtain ⟨s7, Ts, hT, hl, hd⟩ := hv
      have hi := (List.getElem?_eq_some_iff.mp hx).1
      obtain ⟨B, hB, rB⟩ := hR.get hx
      refine ⟨sz1000' (by omega), ?_⟩
      simp only [slotsC, List.replicate_succ, List.replicate_zero, List.map_cons, List.map_nil, List.nil_append, List.cons_append, List.getElem?_cons_zero, List.getElem?_cons_succ, Option.join_some]
      walk_at ""
      refine ⟨x, B, nm, rfl, hnm, rB.same (s6.trans s7), qs B (List.mem_of_getElem? hB), fun S' u H8 s8 r8 d8 => ⟨s7.trans s8, Ts ++ [S'], RepL.snoc (hT.same s8) r8, by rw [List.length_append, hl]; rfl, fun S hS => ?_⟩⟩
      rcases List.mem_append.mp hS with z | z
      · exact hd S z
      · rw [List.mem_singleton.mp z]; omega
    · obtain ⟨s7, Ts, hT, hl, hd⟩ := hv
      exact hN _ _ ⟨s7.trans (same_new hq _), q, acc, Ts, by omega, upd_same, Same.fresh s7 hq, hT.same (same_new hq _), hd, rfl⟩
  obtain ⟨s7, rp, ws, Ts, hws, hrp, hrp0, hT, hd, rfl⟩ := hv
  refine seq_cut (fun σ' H8 => Same H6 H8 ∧ ∃ (ws : List V) (Ts : List Stm), ws.length ≤ 4 ∧ H8 rp = some (.lst ws) ∧ RepL K H8 Ts ws ∧ (∀ S ∈ Ts, S.deep ≤ 60) ∧ σ' = [some (.ref a), some (.int sh), some (.int wy), some (.ref cp), some (.ref rp), some (.str kx), some (.ref p), some (.str nm)]) (fun N hN => ?_) fun σ' H8 hv => ?_
  · walk_at ""
    refine ⟨by decide, ite2 (fun c3 => ?_) fun c3 => hN _ _ ⟨s7, ws, Ts, by omega, hrp, hT, hd, rfl⟩⟩
    obtain ⟨m2, e2, l2⟩ := cut_ints ms 6 9
    refine ⟨⟨_, SqL.of hrp⟩, _, .inl ⟨SqL.of (((s5.trans s6).trans s7) _ _ hcp), fun q hq => ?_⟩⟩
    rw [show (6 : Int) = ((6 : Nat) : Int) from rfl, show (9 : Int) = ((9 : Nat) : Int) from rfl, e2]
    refine ⟨q, sh, m2, rfl, SqL.of upd_same, by omega, h0, fun S v H8 s8 r8 _ d8 => ?_⟩
    (try walk_at "")
    have sq := (same_new hq (.lst (m2.map V.int))).trans s8
    have hrp8 := sq _ _ hrp
    refine ⟨_, hrp8, sz1000' (by omega), hN _ _ ⟨(s7.trans sq).upd hrp0, ws ++ [v], Ts ++ [S], by rw [List.length_append]; simp; omega, upd_same, RepL.snoc (RepL.keepL' hrp8 (hT.same sq)) (RepS.keepL' hrp8 r8), fun S' hS' => ?_, rfl⟩⟩
    rcases List.mem_append.mp hS' with z | z
    · exact hd S' z
    · rw [List.mem_singleton.mp z]; omega
  clear hT hd hrp hws
  obtain ⟨s8, ws, Ts, hws, hrp, hT, hd, rfl⟩ := hv
  rw [w_ret]
  refine q_tupE (K := K) (el_v rfl (SqL.of hrp) hT (by omega) hd) (fun H9 s9 Q9 k9 => ?_) fun v H' s' h' => k v H' ((((s3.trans s5).trans s6).trans s8).trans s') h'
  walk_at ""
  have s69 := (s6.trans s8).trans s9
  exact ⟨_, .inr (s69.seqT hp), _, atI_nat (j := 1) rfl, v', S, nm, rfl, hnm, rS.same s69, qS, fun S' v H10 s10 r10 d10 => k9 v S' H10 s10 r10 (by omega)⟩
end
section
variable {P : Program} {w : World} {K : PySem.W.Frag} {mg : Str → Option Value} {base0 : Heap} {D : Defs}
abbrev It3 := Stm × Bool × Bool
def RepT (K : PySem.W.Frag) (H : Hp) (l : List It3) (us : List V) : Prop := Paired (fun (x : It3) v => ∃ a u, v = .ref a ∧ SqT K H a [u, .bl x.2.1, .bl x.2.2] ∧ RepS K H x.1 u) l us
theorem RepT.same {H H' : Hp} {l : List It3} {us : List V} (e : Same H H') (h : RepT K H l us) : RepT K H' l us := Paired.mapP h fun _ _ ⟨a, u, e1, h1, h2⟩ => ⟨a, u, e1, e.seqT h1, h2.same e⟩
theorem RepT.keepL {H : Hp} {p : Addr} {ys zs : List V} {l : List It3} {us : List V} (hp : H p = some (.lst ys)) (h : RepT K H l us) : RepT K (upd H p (.lst zs)) l us := Paired.mapP h fun _ _ ⟨a, u, e1, h1, h2⟩ => ⟨a, u, e1, h1.keepL hp, RepS.keepL' hp h2⟩
theorem RepT.app {H : Hp} {l m : List It3} {us ws : List V} (h : RepT K H l us) (h2 : RepT K H m ws) : RepT K H (l ++ m) (us ++ ws) := by
  induction h with
  | nil => exact h2
  | cons h1 _ ih => exact .cons h1 ih
def belB (x : It3) : List It3 := (psB x.2.1 x.1).map fun y => (y.1, y.2, x.2.2 || useB x.2.1 x.1)
theorem belB_not (B : Stm) (t w : Bool) : belB (.neg B, t, w) = [(B, !t, w)] := by simp [belB, psB, useB]
def spBelow (K : PySem.W.Frag) : Sp := fun vs H Q _ => ∃ v S t w, vs = [v, .bl t, .bl w] ∧ RepS K H S v ∧ ∀ p us H', Same H H' → H' p = some (.lst us) → RepT K H' (belB (S, t, w)) us → Q (.ref p) H'
theorem ok_below_L (T : Tx K mg D) : FnOk P w K mg base0 CX0 1 D.a_below_L D.d_below_L ["_law_ka", "_law_side", "_law_used"] (spBelow K) := by
  refine T.F_below_L.ok sc_below_L (fun vs H Q E h => ?_) (fun cdv A outer s H vs Q E hr h => ?_)
  · obtain ⟨v, S, t, w, rfl, _⟩ := h; rfl
  obtain ⟨v, S, t, w, rfl, rS, k⟩ := h
  have hu := hr.units
  refine ⟨_, (pss_cons (ps_if (pt_cmpR (opB_eq K hu) (pe_ix (ixA K) (pv 0) pe_int (fun _ _ => rfl)) pe_str (nomark _)) (pss_one (ps_ret (pe_lst (pa_cons (pe_tup (pa_cons (pe_ix (ixA K) (pv 0) pe_int (fun _ _ => rfl)) (pa_cons (pe_not (pv 1)) (pa_cons (pv 2) pa_nil)))) pa_nil)))) pss_nil)
    (pss_cons (ps_if (pt_cmpR (opB_eq K hu) (pe_ix (ixA K) (pv 0) pe_int (fun _ _ => rfl)) pe_str (nomark _)) (pss_one (ps_ret (pe_lst (pa_cons (pe_tup (pa_cons (pe_ix (ixA K) (pv 0) pe_int (fun _ _ => rfl)) (pa_cons (pe_not (pv 1)) (pa_cons (pv 2) pa_nil)))) (pa_cons (pe_tup (pa_cons (pe_ix (ixA K) (pv 0) pe_int (fun _ _ => rfl)) (pa_cons (pv 1) (pa_cons (pv 2) pa_nil)))) pa_nil))))) pss_nil)
    (pss_cons (ps_if (PW.pt (pw_or (pt_cmpR (opB_eq K hu) (pe_ix (ixA K) (pv 0) pe_int (fun _ _ => rfl)) pe_str (nomark _)) (pw_or1 (pt_cmpR (opB_eq K hu) (pe_ix (ixA K) (pv 0) pe_int (fun _ _ => rfl)) pe_str (nomark _))))) (pss_one (ps_ret (pe_lst (pa_cons (pe_tup (pa_cons (pe_ix (ixA K) (pv 0) pe_int (fun _ _ => rfl)) (pa_cons (pv 1) (pa_cons (pv 2) pa_nil)))) (pa_cons (pe_tup (pa_cons (pe_ix (ixA K) (pv 0) pe_int (fun _ _ => rfl)) (pa_cons (pv 1) (pa_cons (pv 2) pa_nil)))) pa_nil))))) pss_nil)
    (pss_cons (ps_if (PW.pt (pw_or (pt_cmpR (opB_eq K hu) (pe_ix (ixA K) (pv 0) pe_int (fun _ _ => rfl)) pe_str (nomark _)) (pw_or1 (pt_cmpR (opB_eq K hu) (pe_ix (ixA K) (pv 0) pe_int (fun _ _ => rfl)) pe_str (nomark _))))) (pss_one (ps_ret (pe_lst (pa_cons (pe_tup (pa_cons (pe_ix (ixA K) (pv 0) pe_int (fun _ _ => rfl)) (pa_cons (pv 1) (pa_cons (pe_or (pv 2) (pe_one (pe_cmpR (opB_eq K hu) (pe_cmpR (opB_eq K hu) (pe_ix (ixA K) (pv 0) pe_int (fun _ _ => rfl)) pe_str (nomark _)) (pv 1) (nomark _)))) pa_nil)))) pa_nil)))) pss_nil)
    (pss_one (ps_ret (pe_lst pa_nil))))))), ?_⟩
  walk_at "S"
  obtain ⟨a, xs, rfl, h0⟩ := rS.tag
  refine seq_ifP (c := S.tag = "not") (fun Qb q => ?_) (fun c1 => ?_) fun c1 => ?_
  · walk_at ""
    refine ⟨_, .inr h0, _, atI_nat (j := 0) rfl, ?_⟩
    (try walk_at "")
    exact q
  · obtain ⟨B, rfl⟩ := tag_not c1
    obtain ⟨a', u, e, h2, rB⟩ := rS
    cases e
    walk_at ""
    refine ⟨_, .inr h2, _, atI_nat (j := 1) rfl, sz1000 (show 3 ≤ 100000 by decide), fun p hp => ⟨sz1000 (show 1 ≤ 100000 by decide), fun q hq => ?_⟩⟩
    have s1 := same_new hp (.tup [u, V.bl !t, V.bl w])
    have s2 := same_new hq (.lst [V.ref p])
    refine k q _ _ (s1.trans s2) upd_same ?_
    rw [belB_not]
    exact .cons ⟨p, u, rfl, s2.seqT (SqT.of upd_same), rB.same (s1.trans s2)⟩ .nil
  refine seq_ifP (c := S.tag = "then") (fun Qb q => ?_) (fun c2 => ?_) fun c2 => ?_
  · walk_at ""
    refine ⟨_, .inr h0, _, atI_nat (j := 0) rfl, ?_⟩
    (try walk_at "")
    exact q
  · obtain ⟨B, C, rfl⟩ := tag_thn c2
    obtain ⟨a', u, u', e, h2, rB, rC⟩ := rS
    cases e
    walk_at ""
    refine ⟨_, .inr h2, _, atI_nat (j := 1) rfl, sz1000 (show 3 ≤ 100000 by decide), fun p hp => ?_⟩
    have s1 := same_new hp (.tup [u, V.bl !t, V.bl w])
    refine ⟨_, .inr (s1.seqT h2), _, atI_nat (j := 2) rfl, sz1000 (show 3 ≤ 100000 by decide), fun p2 hp2 => ⟨sz1000 (show 2 ≤ 100000 by decide), fun q hq => ?_⟩⟩
    have s2 := same_new hp2 (.tup [u', V.bl t, V.bl w])
    have s3 := same_new hq (.lst [V.ref p, V.ref p2])
    have s13 := (s1.trans s2).trans s3
    refine k q _ _ s13 upd_same ?_
    have e : belB (.bi .thn B C, t, w) = [(B, !t, w), (C, t, w)] := by simp [belB, psB, useB]
    rw [e]
    exact .cons ⟨p, u, rfl, (s2.trans s3).seqT (SqT.of upd_same), rB.same s13⟩ (.cons ⟨p2, u', rfl, s3.seqT (SqT.of upd_same), rC.same s13⟩ .nil)
  refine seq_ifP (c := S.tag = "and" ∨ S.tag = "or") (fun Qb q => ?_) (fun c3 => ?_) fun c3 => ?_
  · walk_at ""
    refine ⟨_, .inr h0, _, atI_nat (j := 0) rfl, ?_⟩
    (try walk_at "")
    refine ite2 (fun b1 => ?_) fun b1 => ⟨_, .inr h0, _, atI_nat (j := 0) rfl, ?_⟩
    · rw [decide_eq_true (.inl b1)] at q; exact q
    · (try walk_at "")
      rw [decide_eq_decide.mpr (show (S.tag = "and" ∨ S.tag = "or") ↔ S.tag = "or" from ⟨fun h => h.elim (fun z => absurd z b1) id, .inr⟩)] at q
      exact q
  · obtain ⟨o, B, C, ho, rfl⟩ : ∃ o B C, o ≠ Bi.thn ∧ S = .bi o B C := by
      cases S with
      | bi o B C =>
        refine ⟨o, B, C, fun z => c2 (by rw [z]; rfl), rfl⟩
      | is x ts => exact absurd c3 (show ¬ (Str.ofString "is" = Str.ofString "and" ∨ Str.ofString "is" = Str.ofString "or") by decide +kernel)
      | fls => exact absurd c3 (show ¬ (Str.ofString "false" = Str.ofString "and" ∨ Str.ofString "false" = Str.ofString "or") by decide +kernel)
      | neg B => exact absurd c3 (show ¬ (Str.ofString "not" = Str.ofString "and" ∨ Str.ofString "not" = Str.ofString "or") by decide +kernel)
      | qu q X B => exact absurd c3 ((by decide +kernel : ∀ q, ¬ (qtx q = Str.ofString "and" ∨ qtx q = Str.ofString "or")) q)
    obtain ⟨a', u, u', e, h2, rB, rC⟩ := rS
    cases e
    walk_at ""
    refine ⟨_, .inr h2, _, atI_nat (j := 1) rfl, sz1000 (show 3 ≤ 100000 by decide), fun p hp => ?_⟩
    have s1 := same_new hp (.tup [u, V.bl t, V.bl w])
    refine ⟨_, .inr (s1.seqT h2), _, atI_nat (j := 2) rfl, sz1000 (show 3 ≤ 100000 by decide), fun p2 hp2 => ⟨sz1000 (show 2 ≤ 100000 by decide), fun q hq => ?_⟩⟩
    have s2 := same_new hp2 (.tup [u', V.bl t, V.bl w])
    have s3 := same_new hq (.lst [V.ref p, V.ref p2])
    have s13 := (s1.trans s2).trans s3
    refine k q _ _ s13 upd_same ?_
    have e : belB (.bi o B C, t, w) = [(B, t, w), (C, t, w)] := by cases o <;> first | exact absurd rfl ho | simp [belB, psB, useB]
    rw [e]
    exact .cons ⟨p, u, rfl, (s2.trans s3).seqT (SqT.of upd_same), rB.same s13⟩ (.cons ⟨p2, u', rfl, s3.seqT (SqT.of upd_same), rC.same s13⟩ .nil)
  refine seq_ifP (c := S.tag = "all" ∨ S.tag = "some") (fun Qb q => ?_) (fun c4 => ?_) fun c4 => ?_
  · walk_at ""
    refine ⟨_, .inr h0, _, atI_nat (j := 0) rfl, ?_⟩
    (try walk_at "")
    refine ite2 (fun b1 => ?_) fun b1 => ⟨_, .inr h0, _, atI_nat (j := 0) rfl, ?_⟩
    · rw [decide_eq_true (.inl b1)] at q; exact q
    · (try walk_at "")
      rw [decide_eq_decide.mpr (show (S.tag = "all" ∨ S.tag = "some") ↔ S.tag = "some" from ⟨fun h => h.elim (fun z => absurd z b1) id, .inr⟩)] at q
      exact q
  · obtain ⟨qq, X, B, rfl⟩ : ∃ qq X B, S = .qu qq X B := by
      rcases c4 with h | h
      · obtain ⟨X, B, e⟩ := tag_qu (q := true) h; exact ⟨_, X, B, e⟩
      · obtain ⟨X, B, e⟩ := tag_qu (q := false) h; exact ⟨_, X, B, e⟩
    obtain ⟨a', u, e, h2, rB⟩ := rS
    cases e
    have fin : ∀ b : Bool, b = (w || (qq == t)) → [u, V.bl t, V.bl b].length ≤ sizeLine ∧ ∀ p, H p = none → [V.ref p].length ≤ sizeLine ∧ ∀ p_1, upd H p (HO.tup [u, V.bl t, V.bl b]) p_1 = none → Q (V.ref p_1) (upd (upd H p (HO.tup [u, V.bl t, V.bl b])) p_1 (HO.lst [V.ref p])) := fun b eb =>
      ⟨sz1000 (show 3 ≤ 100000 by decide), fun p hp => ⟨sz1000 (show 1 ≤ 100000 by decide), fun q hq => by
        have s1 := same_new hp (.tup [u, V.bl t, V.bl b])
        have s2 := same_new hq (.lst [V.ref p])
        refine k q _ _ (s1.trans s2) upd_same ?_
        have e : belB (.qu qq X B, t, w) = [(B, t, b)] := by rw [eb]; simp [belB, psB, useB]
        rw [e]
        exact .cons ⟨p, u, rfl, s2.seqT (SqT.of upd_same), rB.same (s1.trans s2)⟩ .nil⟩⟩
    walk_at ""
    refine ⟨_, .inr h2, _, atI_nat (j := 2) rfl, ite2 (fun c => ?_) fun c => ?_⟩
    · exact fin true (by rw [c]; rfl)
    · refine ⟨_, .inr h2, _, atI_nat (j := 0) rfl, ?_⟩
      (try walk_at "")
      have e1 : decide (qtx qq = Str.ofString "all") = qq := by cases qq <;> decide +kernel
      refine fin _ ?_
      rw [Bool.eq_false_iff.mpr c, e1]
      cases qq <;> cases t <;> rfl
  · walk_at ""
    refine ⟨Nat.zero_le _, fun q hq => k q [] _ (same_new hq _) upd_same ?_⟩
    cases S with
    | is x ts => exact .nil
    | fls => exact .nil
    | neg B => exact absurd rfl c1
    | bi o B C => cases o <;> first | exact absurd rfl c2 | exact absurd (.inl rfl) c3 | exact absurd (.inr rfl) c3
    | qu q X B => exact absurd ((by intro q; cases q; exact .inr rfl; exact .inl rfl : ∀ q, qtx q = "all" ∨ qtx q = "some") q) c4
def cntL (l : List It3) : Nat := (l.map fun x => cntB x.1 x.2.1).sum
def fltL (l : List It3) : Bool := l.all fun x => flatB x.1 x.2.1 x.2.2
def sizL (l : List It3) : Nat := (l.map fun x => x.1.size).sum
theorem cntL_app (l m : List It3) : cntL (l ++ m) = cntL l + cntL m := by simp [cntL]
theorem fltL_app (l m : List It3) : fltL (l ++ m) = (fltL l && fltL m) := by simp [fltL]
theorem sizL_app (l m : List It3) : sizL (l ++ m) = sizL l + sizL m := by simp [sizL]
theorem cntL_bel (x : It3) : cntL [x] = (if opnB x.2.1 x.1 = true then 1 else 0) + cntL (belB x) := by
  show (cntB x.1 x.2.1 + 0) = _
  rw [cntB_ps, Nat.add_zero, cntL, belB, List.map_map]
  rfl
theorem fltL_bel (x : It3) : fltL [x] = ((!(x.2.2 && opnB x.2.1 x.1)) && fltL (belB x)) := by
  show (flatB x.1 x.2.1 x.2.2 && true) = _
  rw [flatB_ps, Bool.and_true, fltL, belB, List.all_map]
  cases (x.2.2 && opnB x.2.1 x.1) <;> rfl
theorem sizL_bel (x : It3) : sizL (belB x) < sizL [x] := by
  obtain ⟨S, t, w⟩ := x
  cases S with
  | bi o B C => cases o <;> (simp [sizL, belB, psB, Stm.size]; try omega)
  | _ => simp [sizL, belB, psB, Stm.size]
theorem belB_deep {x y : It3} (h : y ∈ belB x) : y.1.deep < x.1.deep := by
  obtain ⟨z, hz, rfl⟩ := List.mem_map.mp h
  exact psB_deep hz
theorem belB_len (x : It3) : (belB x).length ≤ 2 := by rw [belB, List.length_map]; exact psB_len _ _
def StkOk (B : Nat) (l : List It3) : Prop := ∀ (j : Nat) x, l[j]? = some x → j + x.1.deep ≤ B
theorem StkOk.len {B : Nat} {l : List It3} (h : StkOk B l) : l.length ≤ B := by
  cases e : l.getLast? with
  | none => rw [List.getLast?_eq_none_iff] at e; rw [e]; exact Nat.zero_le _
  | some x =>
    rw [List.getLast?_eq_getElem?] at e
    have := h _ x e
    have := Stm.deep_pos x.1
    omega
theorem StkOk.step {B : Nat} {l : List It3} {x : It3} (h : StkOk B (l ++ [x])) : StkOk B (l ++ belB x) := fun j y hy => by
  have hx := h l.length x (by simp)
  by_cases hj : j < l.length
  · rw [List.getElem?_append_left hj] at hy
    exact h j y (by rw [List.getElem?_append_left hj]; exact hy)
  · rw [List.getElem?_append_right (by omega)] at hy
    have hd := belB_deep (List.mem_of_getElem? hy)
    have hi := (List.getElem?_eq_some_iff.mp hy).1
    have := belB_len x
    omega
def spDueS (K : PySem.W.Frag) : Sp := fun vs H Q _ => ∃ gp v Ss us S, vs = [.ref gp, v] ∧ SqT K H gp us ∧ RepL K H Ss us ∧ us.length ≤ 20 ∧ RepS K H S v ∧ S.deep ≤ 100 ∧ (∀ T ∈ Ss, T.deep ≤ 100) ∧ ∀ q H', Same H H' → H' q = some (.lst [.int ((cntB S false + (Ss.map fun A => cntB A true).sum : Nat)), .bl (flatB S false false && Ss.all fun A => flatB A true false)]) → Q (.ref q) H'
structure DS (K : PySem.W.Frag) (H H2 : Hp) (p : Addr) (us : List V) (l : List It3) : Prop where
  same : Same H H2
  new : H p = none
  at' : H2 p = some (.lst us)
  rep : RepT K H2 l us
  stk : StkOk 130 l
def DInv (K : PySem.W.Frag) (H : Hp) (gp : Addr) (v : V) (p : Addr) (l0 : List It3) (m : Nat) (σ : St) (H2 : Hp) : Prop := ∃ (us : List V) (l : List It3) (n : Nat) (b : Bool) (u5 u6 u7 : Option V), σ = [some (.ref gp), some v, some (.ref p), some (.int n), some (.bl b), u5, u6, u7] ∧ DS K H H2 p us l ∧ n + cntL l = cntL l0 ∧ (b && fltL l) = fltL l0 ∧ m = sizL l
theorem RepT.snocInv {H : Hp} {l : List It3} {us : List V} (h : RepT K H l us) (hn : us ≠ []) : ∃ l' x us' a u, l = l' ++ [x] ∧ us = us' ++ [.ref a] ∧ RepT K H l' us' ∧ SqT K H a [u, .bl x.2.1, .bl x.2.2] ∧ RepS K H x.1 u := by
  induction h with
  | nil => exact absurd rfl hn
  | @cons x v l us h1 h2 ih =>
    by_cases z : us = []
    · subst z
      cases h2
      obtain ⟨a, u, rfl, h3, h4⟩ := h1
      exact ⟨[], x, [], a, u, rfl, rfl, .nil, h3, h4⟩
    · obtain ⟨l', y, us', a, u, rfl, rfl, h3, h4, h5⟩ := ih z
      exact ⟨x :: l', y, v :: us', a, u, rfl, rfl, .cons h1 h3, h4, h5⟩
theorem ok_due_L (T : Tx K mg D) : FnOk P w K mg base0 CX0 2 D.a_due_L D.d_due_L ["_law_givens", "_law_goal"] (spDueS K) := by
  have G_below_L := ok_below_L (P := P) (w := w) (base0 := base0) T
  refine T.F_due_L.ok sc_due_L (fun vs H Q E h => ?_) (fun cdv A outer s H vs Q E hr h => ?_)
  · obtain ⟨gp, v, Ss, us, S, rfl, _⟩ := h; rfl
  obtain ⟨gp, v, Ss, us, S, rfl, hg, hR, hl, rS, hd, hds, k⟩ := h
  have hu := hr.units
  have hr_below_L : Room 1 _ := hr.mono (by decide)
  refine ⟨_, (pss_cons (ps_set (i := 2) sc_due_L.nd (by rfl) (by walk_at "o") (pe_op (opB_add K) (pe_comp 1 [] ["_law_one"] ⟨by rfl, by rfl, by rfl, by rfl, by rfl, by rfl, by rfl⟩ (by rfl) (pi_any K (pv 0)) (fun _ _ _ _ => pg_name (i := 0) (show List.Nodup (["_law_one"] : List Str) by decide +kernel) (by rfl) (Or.inl (by rfl)) (Or.inr (by rfl))) (gName_keep (by decide)) (fun _ _ _ _ => pif_nil) (fun _ _ _ _ => (pe_tup (pa_cons (pv 0) (pa_cons pe_bl (pa_cons pe_bl pa_nil)))))) (pe_lst (pa_cons (pe_tup (pa_cons (pv 1) (pa_cons pe_bl (pa_cons pe_bl pa_nil)))) pa_nil))))
    (pss_cons (ps_set (i := 3) sc_due_L.nd (by rfl) (by walk_at "o") pe_int)
    (pss_cons (ps_set (i := 4) sc_due_L.nd (by rfl) (by walk_at "o") pe_bl)
    (pss_cons (ps_while PassesOwn.never (pt_cmpR (opE_ne K hu) (pv 2) (pe_lst pa_nil) (nomark _)) (pss_cons (ps_asg (pe_bmA0 K PySem.F.plainAttrs_list PySem.F.slot_list_pop PySem.F.type_list_pop mtR_pop (pv 2)) (pg_tup (by rfl) (pgs_cons (pg_name (i := 5) sc_due_L.nd (by rfl) (by walk_at "o")) (pgs_cons (pg_name (i := 6) sc_due_L.nd (by rfl) (by walk_at "o")) (pgs_cons (pg_name (i := 7) sc_due_L.nd (by rfl) (by walk_at "o")) pgs_nil)))))
    (pss_cons (ps_if (PW.pt (pw_or (PW.pt (pw_and (pt_cmpR (opB_eq K hu) (pe_ix (ixA K) (pv 5) pe_int (fun _ _ => rfl)) pe_str (nomark _)) (pw_and1 (pt_val (pv 6))))) (pw_or1 (PW.pt (pw_and (pt_cmpR (opB_eq K hu) (pe_ix (ixA K) (pv 5) pe_int (fun _ _ => rfl)) pe_str (nomark _)) (pw_and1 (pt_not (pt_val (pv 6))))))))) (pss_cons (ps_set (i := 3) sc_due_L.nd (by rfl) (by walk_at "o") (pe_op (opB_add K) (pv 3) pe_int))
    (pss_one (ps_set (i := 4) sc_due_L.nd (by rfl) (by walk_at "o") (pe_and (pv 4) (pe_one (pe_not (pv 7))))))) pss_nil)
    (pss_one (ps_expr (pe_bmA K PySem.F.plainAttrs_list PySem.F.slot_list_extend PySem.F.type_list_extend mtR_extend (pv 2) (pa_cons (pe_call G_below_L hr_below_L (by rfl) T.m_below_L T.F_below_L.kp T.b_below_L .nil pass0 (pa_cons (pv 5) (pa_cons (pv 6) (pa_cons (pv 7) pa_nil)))) pa_nil)))))))
    (pss_one (ps_ret (pe_lst (pa_cons (pv 3) (pa_cons (pv 4) pa_nil))))))))), ?_⟩
  walk_at "S"
  have hl2 := Paired.length hR
  refine seq_cut (fun σ' H' => ∃ (p : Addr) (ws : List V), σ' = [some (.ref gp), some v, some (.ref p), none, none, none, none, none] ∧ DS K H H' p ws (Ss.map (fun A => (A, true, false)) ++ [(S, false, false)])) (fun N hN => ?_) fun σ' H1 hv => ?_
  · walk_at ""
    refine .inr ⟨⟨_, hg⟩, ?_⟩
    refine comp_tup (xs := us) (fun i acc H2 => Same H H2 ∧ RepT K H2 ((Ss.take i).map fun A => (A, true, false)) acc ∧ acc.length = i) ⟨Same.refl _, .nil, rfl⟩ (fun i acc H2 _ hv => hv.1.seqT hg) (fun i x acc H2 hx hv => ?_) fun acc H2 hv q hq => ?_
    · obtain ⟨s2, hT, hal⟩ := hv
      have hi := (List.getElem?_eq_some_iff.mp hx).1
      obtain ⟨B, hB, rB⟩ := hR.get hx
      refine ⟨sz1000' (by omega), ?_⟩
      simp only [slotsC, List.replicate_succ, List.replicate_zero, List.map_cons, List.map_nil, List.nil_append, List.cons_append, List.getElem?_cons_zero, List.getElem?_cons_succ, Option.join_some]
      walk_at ""
      refine ⟨sz1000 (show 3 ≤ 100000 by decide), fun r hr' => ?_⟩
      have s3 := same_new hr' (.tup [x, V.bl true, V.bl false])
      refine ⟨s2.trans s3, ?_, by rw [List.length_append, hal]; rfl⟩
      rw [List.take_succ, hB]
      simp only [Option.toList_some, List.map_append, List.map_cons, List.map_nil]
      exact (hT.same s3).app (.cons ⟨r, x, rfl, SqT.of upd_same, rB.same (s2.trans s3)⟩ .nil)
    · obtain ⟨s2, hT, hal⟩ := hv
      rw [← hl2, List.take_length] at hT
      (try walk_at "")
      refine ⟨sz1000 (show 3 ≤ 100000 by decide), fun r hr' => ⟨sz1000 (show 1 ≤ 100000 by decide), fun q2 hq2 => ?_⟩⟩
      have s3 := same_new hq (.lst acc)
      have s4 := same_new hr' (.tup [v, V.bl false, V.bl false])
      have s5 := same_new hq2 (.lst [V.ref r])
      refine ⟨_, _, .inl ⟨(s4.trans s5) _ _ upd_same, upd_same, sz1000 (show acc.length + 1 ≤ 100000 by omega), fun p hp => hN _ _ ⟨p, acc ++ [V.ref r], rfl, ?_⟩⟩⟩
      have s6 := same_new hp (.lst (acc ++ [V.ref r]))
      have s26 := (((s2.trans s3).trans s4).trans s5)
      refine ⟨s26.trans s6, Same.fresh s26 hp, upd_same, ?_, ?_⟩
      · exact (hT.same (((s3.trans s4).trans s5).trans s6)).app (.cons ⟨r, v, rfl, (s5.trans s6).seqT (SqT.of upd_same), rS.same (s26.trans s6)⟩ .nil)
      · intro j x hx
        have hj := (List.getElem?_eq_some_iff.mp hx).1
        have hm := List.mem_of_getElem? hx
        rw [List.length_append, List.length_map] at hj
        simp only [List.length_singleton] at hj
        have : x.1.deep ≤ 100 := by
          rcases List.mem_append.mp hm with z | z
          · obtain ⟨B, hB, rfl⟩ := List.mem_map.mp z; exact hds B hB
          · rw [List.mem_singleton.mp z]; exact hd
        omega
  obtain ⟨p, ws, rfl, g⟩ := hv
  have tc : cntL (Ss.map (fun A => (A, true, false)) ++ [(S, false, false)]) = cntB S false + (Ss.map fun A => cntB A true).sum := by
    rw [cntL_app]
    show ((Ss.map _).map _).sum + (cntB S false + 0) = _
    rw [List.map_map]
    show (Ss.map fun A => cntB A true).sum + _ = _
    omega
  have tf : fltL (Ss.map (fun A => (A, true, false)) ++ [(S, false, false)]) = (flatB S false false && Ss.all fun A => flatB A true false) := by
    rw [fltL_app]
    show ((Ss.map _).all _ && (flatB S false false && true)) = _
    rw [List.all_map, Bool.and_true, Bool.and_comm]
    rfl
  rw [← tc, ← tf] at k
  generalize Ss.map (fun A => (A, true, false)) ++ [(S, false, false)] = l0 at g k
  clear tc tf
  walk_at ""
  refine ⟨DInv K H gp v p l0, ⟨sizL l0, ws, l0, 0, true, _, _, _, rfl, g, by simp, by simp, rfl⟩, fun m σ H2 hv => ?_⟩
  obtain ⟨us, l, n, b, u5, u6, u7, rfl, g2, hc, hf, hm⟩ := hv
  walk_at ""
  refine ⟨Nat.zero_le _, fun p1 hp1 => ?_⟩
  have s1 := same_new hp1 (.lst [])
  have hat := s1 _ _ g2.at'
  refine ⟨us, SqL.of hat, SqL.of upd_same, ite2 (fun c => ?_) fun c => ?_⟩
  · obtain ⟨l', x, us', a, u, rfl, rfl, hT, ha, ru⟩ := g2.rep.snocInv c
    have hstk := g2.stk
    refine ⟨fun σ' H' => ∃ m', m' < m ∧ DInv K H gp v p l0 m' σ' H', fun _ _ h => h, ⟨_, SqL.of hat⟩, _, .ref a, hat, by simp, ?_⟩
    rw [List.dropLast_concat]
    have ha2 := (s1.seqT ha).keepL (zs := us') hat
    have ru2 := RepS.keepL' (zs := us') hat (ru.same s1)
    have hT2 := RepT.keepL (zs := us') hat (hT.same s1)
    have hS2 : Same H (upd (upd H2 p1 (.lst [])) p (.lst us')) := (g2.same.trans s1).upd g2.new
    have hat2 : upd (upd H2 p1 (.lst [])) p (.lst us') p = some (.lst us') := upd_same
    generalize upd (upd H2 p1 (.lst [])) p (.lst us') = H3 at ha2 ru2 hT2 hS2 hat2 ⊢
    show gTup K 3 (gCons (gName 5) (gCons (gName 6) (gCons (gName 7) gNil))) (.ref a) _ _ _
    walk_at ""
    refine ⟨_, ha2, rfl, ?_⟩
    (try walk_at "")
    obtain ⟨St, t, w⟩ := x
    have fin : ∀ (n' : Int) (b' : Bool), n' = ((n + (if opnB t St = true then 1 else 0) : Nat) : Int) → b' = (b && !(w && opnB t St)) → (∃ xs, SqL K H3 p xs) ∧ spBelow K [u, V.bl t, V.bl w] H3 (fun x H1 => rExtend (V.ref p) [x] H1 fun x H1 => ∃ m', m' < m ∧ DInv K H gp v p l0 m' [some (V.ref gp), some v, some (V.ref p), some (V.int n'), some (V.bl b'), some u, some (V.bl t), some (V.bl w)] H1) E0 := fun n' b' en eb => by
      refine ⟨⟨_, SqL.of hat2⟩, u, St, t, w, rfl, ru2, fun q zs H4 s4 hq hZ => ?_⟩
      show rExtend (V.ref p) [V.ref q] H4 _
      rw [w_extend]
      have hat4 := s4 _ _ hat2
      have hl1 := hstk.len
      have hl2 := Paired.length hT2
      have hl3 := Paired.length hZ
      have hl4 := belB_len (St, t, w)
      rw [List.length_append] at hl1
      refine ⟨us', zs, hat4, hq, sz1000 (by simp only [List.length_singleton] at hl1; omega), sizL (l' ++ belB (St, t, w)), ?_, us' ++ zs, l' ++ belB (St, t, w), n + (if opnB t St = true then 1 else 0), b', _, _, _, by rw [en], ⟨(hS2.trans s4).upd g2.new, g2.new, upd_same, (RepT.keepL hat4 (hT2.same s4)).app (RepT.keepL hat4 hZ), hstk.step⟩, ?_, ?_, rfl⟩
      · rw [hm, sizL_app, sizL_app]
        have := sizL_bel (St, t, w)
        omega
      · have e : cntL [(St, t, w)] = (if opnB t St = true then 1 else 0) + cntL (belB (St, t, w)) := cntL_bel _
        rw [← hc, cntL_app, cntL_app, e]
        omega
      · have e : fltL [(St, t, w)] = ((!(w && opnB t St)) && fltL (belB (St, t, w))) := fltL_bel _
        rw [← hf, fltL_app, fltL_app, e, eb]
        cases b <;> cases fltL l' <;> cases (w && opnB t St) <;> cases fltL (belB (St, t, w)) <;> rfl
    obtain ⟨a5, xs5, rfl, h5⟩ := ru2.tag
    walk_at ""
    refine ⟨_, .inr h5, _, atI_nat (j := 0) rfl, ?_⟩
    (try walk_at "")
    refine ite2 (fun c1 => ?_) fun c1 => ?_
    · obtain ⟨X, B, rfl⟩ := tag_qu (q := false) c1
      cases t with
      | true =>
        rw [if_pos rfl]
        cases b with
        | true => rw [if_pos rfl]; exact fin _ _ rfl (by cases w <;> rfl)
        | false => rw [if_neg (by decide)]; exact fin _ _ rfl (by cases w <;> rfl)
      | false =>
        rw [if_neg (by decide)]
        refine ⟨_, .inr h5, _, atI_nat (j := 0) rfl, ?_⟩
        (try walk_at "")
        rw [if_neg (show ¬ ((Stm.qu false X B).tag = Str.ofString "all") from (show ¬ (Str.ofString "some" = Str.ofString "all") by decide +kernel))]
        exact fin _ _ rfl (by cases b <;> cases w <;> rfl)
    · refine ⟨_, .inr h5, _, atI_nat (j := 0) rfl, ?_⟩
      (try walk_at "")
      refine ite2 (fun c2 => ?_) fun c2 => ?_
      · obtain ⟨X, B, rfl⟩ := tag_qu (q := true) c2
        cases t with
        | false =>
          rw [if_pos rfl]
          cases b with
          | true => rw [if_pos rfl]; exact fin _ _ rfl (by cases w <;> rfl)
          | false => rw [if_neg (by decide)]; exact fin _ _ rfl (by cases w <;> rfl)
        | true =>
          rw [if_neg (by decide)]
          exact fin _ _ rfl (by cases b <;> cases w <;> rfl)
      · have e0 : opnB t St = false := by
          cases St with
          | qu q X B => cases q; exact absurd rfl c1; exact absurd rfl c2
          | _ => rfl
        exact fin _ _ (by rw [e0]; rfl) (by rw [e0]; cases b <;> cases w <;> rfl)
  · have z : us = [] := Classical.byContradiction c
    subst z
    have hlz : l = [] := by cases g2.rep; rfl
    subst hlz
    refine ⟨sz1000 (show 2 ≤ 100000 by decide), fun q hq => k q _ ((g2.same.trans s1).trans (same_new hq _)) ?_⟩
    rw [upd_same]
    have e1 : n = cntL l0 := by rw [← hc]; rfl
    have e2 : b = fltL l0 := by rw [← hf]; simp [fltL]
    rw [e1, e2]
def spTold (K : PySem.W.Frag) : Sp := fun vs H Q _ => ∃ gp v q Ss us S n b, vs = [.ref gp, v, .ref q] ∧ SqT K H gp us ∧ RepL K H Ss us ∧ us.length ≤ 20 ∧ RepS K H S v ∧ S.deep ≤ 100 ∧ (∀ T ∈ Ss, T.deep ≤ 100) ∧ H q = some (.lst [.int n, .bl b]) ∧ n = ((cntB S false + (Ss.map fun A => cntB A true).sum : Nat) : Int) ∧ b = (flatB S false false && Ss.all fun A => flatB A true false) ∧ ∀ H', Same H H' → Q (.bl true) H'
theorem ok_told_L (T : Tx K mg D) : FnOk P w K mg base0 CX0 105 D.a_told_L D.d_told_L ["_law_givens", "_law_goal", "_law_due_here"] (spTold K) := by
  have G_to_open := ok_to_open (P := P) (w := w) (base0 := base0) T
  have G_flat := ok_flat (P := P) (w := w) (base0 := base0) T
  have G_whole_L := ok_whole_L (P := P) (w := w) (base0 := base0) T
  refine T.F_told_L.ok sc_told_L (fun vs H Q E h => ?_) (fun cdv A outer s H vs Q E hr h => ?_)
  · obtain ⟨gp, v, q, Ss, us, S, n, b, rfl, _⟩ := h; rfl
  obtain ⟨gp, v, q, Ss, us, S, n, b, rfl, hg, hR, hl, rS, hd, hds, hq, en, eb, k⟩ := h
  have hu := hr.units
  have hr_to_open : Room 104 _ := hr.mono (by decide)
  have hr_flat : Room 104 _ := hr.mono (by decide)
  have hr_whole_L : Room 1 _ := hr.mono (by decide)
  refine ⟨_, (pss_cons (ps_set (i := 3) sc_told_L.nd (by rfl) (by walk_at "o") (pe_call G_to_open hr_to_open (by rfl) T.m_to_open T.F_to_open.kp T.b_to_open .nil pass0 (pa_cons (pv 0) (pa_cons (pv 1) pa_nil))))
    (pss_cons (ps_set (i := 4) sc_told_L.nd (by rfl) (by walk_at "o") (pe_call G_flat hr_flat (by rfl) T.m_flat T.F_flat.kp T.b_flat .nil pass0 (pa_cons (pv 0) (pa_cons (pv 1) pa_nil))))
    (pss_one (ps_ret (pe_and (pe_call G_whole_L hr_whole_L (by rfl) T.m_whole_L T.F_whole_L.kp T.b_whole_L .nil pass0 (pa_cons (pv 3) pa_nil)) (pe_and (pe_cmpR (opB_eq K hu) (pv 3) (pe_ix (ixA K) (pv 2) pe_int (fun _ _ => rfl)) (nomark _)) (pe_and (pe_callB (callB_inst K "bool") (by rfl) T.z_isinstance (by rfl) (pa_cons (pv 4) (pa_cons (pe_bltn (v := .ty "bool") (by rfl) T.z_bool (by rfl) (by rfl)) pa_nil))) (pe_one (pe_cmpR (opB_eq K hu) (pv 4) (pe_ix (ixA K) (pv 2) pe_int (fun _ _ => rfl)) (nomark _)))))))))), ?_⟩
  walk_at "S"
  walk_at ""
  refine ⟨gp, v, Ss, us, S, rfl, hg, hR, by omega, rS, hd, hds, fun H1 s1 => ?_⟩
  refine ⟨gp, v, Ss, us, S, rfl, s1.seqT hg, hR.same s1, by omega, rS.same s1, hd, hds, fun H2 s2 => ?_⟩
  (try walk_at "")
  have hq2 := (s1.trans s2) _ _ hq
  refine ⟨_, .inl (SqL.of hq2), _, atI_nat (j := 0) rfl, ?_⟩
  (try walk_at "")
  rw [if_pos en.symm]
  refine ⟨true, rfl, ?_⟩
  rw [if_pos rfl]
  refine ⟨_, .inl (SqL.of hq2), _, atI_nat (j := 1) rfl, ?_⟩
  (try walk_at "")
  rw [decide_eq_true eb.symm]
  exact k _ (s1.trans s2)
end
section
variable {P : Program} {w : World} {K : PySem.W.Frag} {mg : Str → Option Value} {base0 : Heap} {D : Defs}
theorem all_rev {α : Type} (f : α → Bool) (l : List α) : l.reverse.all f = l.all f := by simp
theorem sum_rev (l : List Nat) : l.reverse.sum = l.sum := by
  induction l with
  | nil => rfl
  | cons a l ih => rw [List.reverse_cons, List.sum_append, ih]; simp; omega
theorem RepL.rev {H : Hp} {Ss : List Stm} {us : List V} (h : RepL K H Ss us) : RepL K H Ss.reverse us.reverse := by
  induction h with
  | nil => exact .nil
  | cons h1 _ ih => rw [List.reverse_cons, List.reverse_cons]; exact RepL.snoc ih h1
theorem ok_law (T : Tx K mg D) : FnOk P w K mg base0 CX0 200 D.a_law D.d_law ["_law_script"] (spLaw K) := by
  have G_cell_at_L := ok_cell_at_L (P := P) (w := w) (base0 := base0) T
  have G_question_L := ok_question_L (P := P) (w := w) (base0 := base0) T
  have G_due_L := ok_due_L (P := P) (w := w) (base0 := base0) T
  have G_told_L := ok_told_L (P := P) (w := w) (base0 := base0) T
  refine T.F_law.ok sc_law (fun vs H Q E h => ?_) (fun cdv A outer s H vs Q E hr h => ?_)
  · obtain ⟨a, ns, rfl, _⟩ := h; rfl
  obtain ⟨a, ns, rfl, hS, hl, k⟩ := h
  have hu := hr.units
  have hr_cell_at_L : Room 1 _ := hr.mono (by decide)
  have hr_question_L : Room 24 _ := hr.mono (by decide)
  have hr_due_L : Room 2 _ := hr.mono (by decide)
  have hr_told_L : Room 105 _ := hr.mono (by decide)
  refine ⟨_, (pss_cons (ps_asg (pe_call G_question_L hr_question_L (by rfl) T.m_question_L T.F_question_L.kp T.b_question_L .nil pass0 (pa_cons (pv 0) pa_nil)) (pg_tup (by rfl) (pgs_cons (pg_name (i := 1) sc_law.nd (by rfl) (by walk_at "o")) (pgs_cons (pg_name (i := 2) sc_law.nd (by rfl) (by walk_at "o")) pgs_nil))))
    (pss_cons (ps_for PassesOwn.never (by rfl) (pi_range1 (by rfl) T.z_range (pa_cons (pe_op opA_mul (pe_op op_modP (pe_call G_cell_at_L hr_cell_at_L (by rfl) T.m_cell_at_L T.F_cell_at_L.kp T.b_cell_at_L .nil pass0 (pa_cons (pv 0) (pa_cons pe_int pa_nil))) pe_int) (pe_callTy callA_int (by rfl) T.z_int (by rfl) (pa_cons (pe_cmpR (opB_eq K hu) (pe_op op_modP (pe_op op_fdivP (pe_call G_cell_at_L hr_cell_at_L (by rfl) T.m_cell_at_L T.F_cell_at_L.kp T.b_cell_at_L .nil pass0 (pa_cons (pv 0) (pa_cons pe_int pa_nil))) pe_int) pe_int) pe_int (nomark _)) pa_nil))) pa_nil)) (pg_name (i := 3) sc_law.nd (by rfl) (by walk_at "o"))
      (pss_cons (ps_set (i := 4) sc_law.nd (by rfl) (by walk_at "o") (pe_op op_modP (pe_op (opB_add K) (pe_call G_cell_at_L hr_cell_at_L (by rfl) T.m_cell_at_L T.F_cell_at_L.kp T.b_cell_at_L .nil pass0 (pa_cons (pv 0) (pa_cons pe_int pa_nil))) (pe_op opA_mul (pv 3) (pv 3))) pe_int))
    (pss_one (ps_set (i := 2) sc_law.nd (by rfl) (by walk_at "o") (pe_ix (ixA K) (pe_lst (pa_cons (pe_tup (pa_cons pe_str (pa_cons (pv 2) pa_nil))) (pa_cons (pe_tup (pa_cons pe_str (pa_cons pe_str (pa_cons (pv 2) pa_nil)))) (pa_cons (pe_tup (pa_cons pe_str (pa_cons pe_str (pa_cons (pv 2) pa_nil)))) (pa_cons (pe_tup (pa_cons pe_str (pa_cons (pv 2) (pa_cons (pe_tup (pa_cons pe_str pa_nil)) pa_nil)))) pa_nil))))) (pv 4) (fun _ _ => rfl))))))
    (pss_cons (ps_set (i := 5) sc_law.nd (by rfl) (by walk_at "o") (pe_call G_due_L hr_due_L (by rfl) T.m_due_L T.F_due_L.kp T.b_due_L .nil pass0 (pa_cons (pv 1) (pa_cons (pv 2) pa_nil))))
    (pss_cons (ps_if (PW.pt (pw_or (pt_not (pt_val (pe_call G_told_L hr_told_L (by rfl) T.m_told_L T.F_told_L.kp T.b_told_L .nil pass0 (pa_cons (pv 1) (pa_cons (pv 2) (pa_cons (pv 5) pa_nil)))))) (pw_or1 (pt_not (pt_val (pe_call G_told_L hr_told_L (by rfl) T.m_told_L T.F_told_L.kp T.b_told_L .nil pass0 (pa_cons (pe_rv (pv 1) (pe_un un_neg pe_int)) (pa_cons (pv 2) (pa_cons (pv 5) pa_nil))))))))) (pss_one (ps_ret pe_bl)) pss_nil)
    (pss_one (ps_ret (pe_and (pe_call G_told_L hr_told_L (by rfl) T.m_told_L T.F_told_L.kp T.b_told_L .nil pass0 (pa_cons (pe_tup pa_nil) (pa_cons (pv 2) (pa_cons (pe_call G_due_L hr_due_L (by rfl) T.m_due_L T.F_due_L.kp T.b_due_L .nil pass0 (pa_cons (pe_tup pa_nil) (pa_cons (pv 2) pa_nil))) pa_nil)))) (pe_one (pe_call G_told_L hr_told_L (by rfl) T.m_told_L T.F_told_L.kp T.b_told_L .nil pass0 (pa_cons (pv 1) (pa_cons (pv 2) (pa_cons (pv 5) pa_nil)))))))))))), ?_⟩
  walk_at "S"
  refine seq_cut (fun σ' H' => Same H H' ∧ ∃ (gp : Addr) (v : V) (us : List V) (Ss : List Stm) (S : Stm), SqT K H' gp us ∧ RepL K H' Ss us ∧ us.length ≤ 20 ∧ (∀ T ∈ Ss, T.deep ≤ 60) ∧ RepS K H' S v ∧ S.deep ≤ 60 ∧ σ' = [some (.ref a), some (.ref gp), some v, none, none, none]) (fun N hN => ?_) fun σ' H1 hv => ?_
  · walk_at ""
    refine ⟨a, ns, rfl, hS, hl, fun v H1 s1 hv => ?_⟩
    obtain ⟨p, gp, v', us, Ss, S, rfl, hp, hg, hR, hlen, rS, hd, hdS⟩ := hv
    show gTup K 2 (gCons (gName 1) (gCons (gName 2) gNil)) (.ref p) _ _ _
    walk_at ""
    refine ⟨_, hp, rfl, ?_⟩
    (try walk_at "")
    exact hN _ _ ⟨s1, gp, v', us, Ss, S, hg, hR, hlen, hd, rS, hdS, rfl⟩
  obtain ⟨s1, gp, v, us, Ss, S, hg, hR, hlen, hd, rS, hdS, rfl⟩ := hv
  refine seq_cut (fun σ' H2 => Same H1 H2 ∧ ∃ (v : V) (S : Stm) (u3 u4 : Option V), RepS K H2 S v ∧ S.deep ≤ 100 ∧ σ' = [some (.ref a), some (.ref gp), some v, u3, u4, none]) (fun N hN => ?_) fun σ' H2 hv => ?_
  · walk_at ""
    refine ⟨a, ns, 2, rfl, s1.seq hS, by decide, ?_⟩
    (try walk_at "")
    refine ⟨by decide, a, ns, 2, rfl, s1.seq hS, by decide, ?_⟩
    (try walk_at "")
    have m0 := Int.emod_nonneg (cellI ns 2) (show (19 : Int) ≠ 0 by decide)
    have m1 := Int.emod_lt_of_pos (cellI ns 2) (show (0 : Int) < 19 by decide)
    generalize cellI ns 2 % 19 = cm at m0 m1 ⊢
    obtain ⟨j, hj, ej⟩ : ∃ j : Nat, j ≤ 18 ∧ cm * (if cellI ns 2 / 19 % 6 = 1 then 1 else 0) = j := by
      split
      · exact ⟨cm.toNat, by omega, by omega⟩
      · exact ⟨0, by omega, by omega⟩
    refine ⟨cdiv, by decide, .inl ⟨by omega, by omega⟩, ?_⟩
    rw [ej]
    refine ⟨by omega, by omega, ?_⟩
    refine forW_range (fun i σ' H2 => Same H1 H2 ∧ ∃ (v : V) (S : Stm) (u3 u4 : Option V), RepS K H2 S v ∧ S.deep ≤ 60 + i ∧ σ' = [some (.ref a), some (.ref gp), some v, u3, u4, none]) ⟨Same.refl _, v, S, _, _, rS, hdS, rfl⟩ (fun i σ' H2 hi hv => ?_) fun σ' H2 hv => ?_
    · obtain ⟨s2, v, S, u3, u4, rS, hdS, rfl⟩ := hv
      walk_at ""
      refine ⟨a, ns, 0, rfl, (s1.trans s2).seq hS, by decide, ?_⟩
      (try walk_at "")
      rw [Int.toNat_natCast] at hi
      refine ⟨.inl ⟨by omega, by omega⟩, by decide, sz1000 (show 2 ≤ 100000 by decide), fun p1 h1 => ⟨sz1000 (show 3 ≤ 100000 by decide), fun p2 h2 => ⟨sz1000 (show 3 ≤ 100000 by decide), fun p3 h3 => ⟨sz1000 (show 1 ≤ 100000 by decide), fun p4 h4 => ⟨sz1000 (show 3 ≤ 100000 by decide), fun p5 h5 => ⟨sz1000 (show 4 ≤ 100000 by decide), fun p6 h6 => ⟨_, .inl (SqL.of upd_same), ?_⟩⟩⟩⟩⟩⟩⟩
      have a1 := same_new h1 (.tup [V.str "not", v])
      have a2 := same_new h2 (.tup [V.str "all", V.str "X1", v])
      have a3 := same_new h3 (.tup [V.str "some", V.str "X1", v])
      have a4 := same_new h4 (.tup [V.str "false"])
      have a5 := same_new h5 (.tup [V.str "then", v, V.ref p4])
      have a6 := same_new h6 (.lst [V.ref p1, V.ref p2, V.ref p3, V.ref p5])
      have b5 := a5.trans a6
      have b4 := a4.trans b5
      have b3 := a3.trans b4
      have b2 := a2.trans b3
      have b1 := a1.trans b2
      have m0 := Int.emod_nonneg (cellI ns 0 + (0 + (i : Int)) * (0 + (i : Int))) (show (4 : Int) ≠ 0 by decide)
      have m1 := Int.emod_lt_of_pos (cellI ns 0 + (0 + (i : Int)) * (0 + (i : Int))) (show (0 : Int) < 4 by decide)
      generalize (cellI ns 0 + (0 + (i : Int)) * (0 + (i : Int))) % 4 = wy at m0 m1 ⊢
      obtain rfl | rfl | rfl | rfl : wy = 0 ∨ wy = 1 ∨ wy = 2 ∨ wy = 3 := by omega
      · exact ⟨_, atI_nat (j := 0) rfl, s2.trans b1, _, .neg S, _, _, ⟨p1, v, rfl, b2.seqT (SqT.of upd_same), rS.same b1⟩, by simp only [Stm.deep]; omega, rfl⟩
      · exact ⟨_, atI_nat (j := 1) rfl, s2.trans b1, _, .qu true "X1" S, _, _, ⟨p2, v, rfl, b3.seqT (SqT.of upd_same), rS.same b1⟩, by simp only [Stm.deep]; omega, rfl⟩
      · exact ⟨_, atI_nat (j := 2) rfl, s2.trans b1, _, .qu false "X1" S, _, _, ⟨p3, v, rfl, b4.seqT (SqT.of upd_same), rS.same b1⟩, by simp only [Stm.deep]; omega, rfl⟩
      · exact ⟨_, atI_nat (j := 3) rfl, s2.trans b1, _, .bi .thn S .fls, _, _, ⟨p5, v, _, rfl, a6.seqT (SqT.of upd_same), rS.same b1, ⟨p4, rfl, b5.seqT (SqT.of upd_same)⟩⟩, by have := Stm.deep_pos S; simp only [Stm.deep]; omega, rfl⟩
    · obtain ⟨s2, v, S, u3, u4, rS, hdS, rfl⟩ := hv
      rw [Int.toNat_natCast] at hdS
      exact hN _ _ ⟨s2, v, S, u3, u4, rS, by omega, rfl⟩
  clear rS hdS
  obtain ⟨s2, v, S, u3, u4, rS, hdS, rfl⟩ := hv
  have hd1 : ∀ T ∈ Ss, T.deep ≤ 100 := fun T hT => Nat.le_trans (hd T hT) (by decide)
  refine seq_cut (fun σ' H3 => Same H2 H3 ∧ ∃ q, H3 q = some (.lst [.int ((cntB S false + (Ss.map fun A => cntB A true).sum : Nat)), .bl (flatB S false false && Ss.all fun A => flatB A true false)]) ∧ σ' = [some (.ref a), some (.ref gp), some v, u3, u4, some (.ref q)]) (fun N hN => ?_) fun σ' H3 hv => ?_
  · walk_at ""
    exact ⟨gp, v, Ss, us, S, rfl, s2.seqT hg, hR.same s2, hlen, rS, hdS, hd1, fun q H3 s3 hq => hN _ _ ⟨s3, q, hq, rfl⟩⟩
  obtain ⟨s3, q, hq, rfl⟩ := hv
  replace hg := (s2.trans s3).seqT hg
  replace hR := hR.same (s2.trans s3)
  replace rS := rS.same s3
  have told : ∀ (H4 : Hp) (Q' : VK), Same H3 H4 → (∀ H5, Same H4 H5 → Q' (.bl true) H5) → spTold K [.ref gp, v, .ref q] H4 Q' E0 := fun H4 Q' s4 kk =>
    ⟨gp, v, q, Ss, us, S, _, _, rfl, s4.seqT hg, hR.same s4, hlen, rS.same s4, hdS, hd1, s4 _ _ hq, rfl, rfl, kk⟩
  have toldR : ∀ (H4 : Hp) (Q' : VK) (gr : Addr), Same H3 H4 → SqT K H4 gr us.reverse → (∀ H5, Same H4 H5 → Q' (.bl true) H5) → spTold K [.ref gr, v, .ref q] H4 Q' E0 := fun H4 Q' gr s4 hgr kk =>
    ⟨gr, v, q, Ss.reverse, us.reverse, S, _, _, rfl, hgr, RepL.rev (hR.same s4), by rw [List.length_reverse]; exact hlen, rS.same s4, hdS, fun T hT => hd1 T (List.mem_reverse.mp hT), s4 _ _ hq, by rw [List.map_reverse, sum_rev], by rw [all_rev], kk⟩
  refine seq_cut (fun σ' H4 => Same H3 H4 ∧ σ' = [some (.ref a), some (.ref gp), some v, u3, u4, some (.ref q)]) (fun N hN => ?_) fun σ' H4 hv => ?_
  · walk_at ""
    refine told _ _ (Same.refl _) fun H4 s4 => ⟨_, rfl, ?_⟩
    rw [if_neg (by decide)]
    refine ⟨1, rfl, rfl, gp, us, rfl, s4.seqT hg, fun r hr' => ?_⟩
    have s5 := s4.trans (same_new hr' (.tup us.reverse))
    refine toldR _ _ r s5 (SqT.of upd_same) fun H5 s6 => ⟨_, rfl, ?_⟩
    rw [if_neg (by decide)]
    exact hN _ _ ⟨s5.trans s6, rfl⟩
  obtain ⟨s4, rfl⟩ := hv
  walk_at ""
  refine ⟨Nat.zero_le _, fun p hp => ⟨Nat.zero_le _, fun p1 hp1 => ?_⟩⟩
  have s5 := same_new hp (.tup [])
  have s6 := same_new hp1 (.tup [])
  have rS6 := rS.same ((s4.trans s5).trans s6)
  refine ⟨p1, v, [], [], S, rfl, SqT.of upd_same, .nil, by decide, rS6, hdS, by simp, fun q2 H7 s7 hq2 => ?_⟩
  refine ⟨p, v, q2, [], [], S, _, _, rfl, (s6.trans s7).seqT (SqT.of upd_same), .nil, by decide, rS6.same s7, hdS, by simp, hq2, rfl, rfl, fun H8 s8 => ⟨_, rfl, ?_⟩⟩
  rw [if_pos rfl]
  exact told _ _ ((((s4.trans s5).trans s6).trans s7).trans s8) fun H9 s9 => k _
end
theorem all_mk {l : PySem.W.OpenLaw} {w : World} {K : PySem.W.Frag} {h : Heap} {mg : Str → Option Value} {fa : Addr} (X : K.In h) (G : h.Ns mainGlobals mg) (hfa : mg "law" = some (.ref fa)) {f0 f1 f2 f3 f4 f5 f6 f7 f8 f9 f10 f11 f12 f13 f14 f15 f16 f17 f18 f19 f20 f21 f22 f23 f24 f25 f26 f27 f28 f29 f30 : Addr}
    {od0 an0 od1 an1 od2 an2 od3 an3 od4 an4 od5 an5 od6 an6 od7 an7 od8 an8 od9 an9 od10 an10 od11 an11 od12 an12 od13 an13 od14 an14 od15 an15 od16 an16 od17 an17 od18 an18 od19 an19 od20 an20 od21 an21 od22 an22 od23 an23 od24 an24 od25 an25 od26 an26 od27 an27 od28 an28 od29 an29 od30 an30 : Option Addr} {sl0 sl1 sl2 sl3 sl4 sl5 sl6 sl7 sl8 sl9 sl10 sl11 sl12 sl13 sl14 sl15 sl16 sl17 sl18 sl19 sl20 sl21 sl22 sl23 sl24 sl25 sl26 sl27 sl28 sl29 sl30 : Array (Option Value)} {oc0 kV0 dc0 pm0 cd0 ct0 oc1 kV1 dc1 pm1 cd1 ct1 oc2 kV2 dc2 pm2 cd2 ct2 oc3 kV3 dc3 pm3 cd3 ct3 oc4 kV4 dc4 pm4 cd4 ct4 oc5 kV5 dc5 pm5 cd5 ct5 oc6 kV6 dc6 pm6 cd6 ct6 oc7 kV7 dc7 pm7 cd7 ct7 oc8 kV8 dc8 pm8 cd8 ct8 oc9 kV9 dc9 pm9 cd9 ct9 oc10 kV10 dc10 pm10 cd10 ct10 oc11 kV11 dc11 pm11 cd11 ct11 oc12 kV12 dc12 pm12 cd12 ct12 oc13 kV13 dc13 pm13 cd13 ct13 oc14 kV14 dc14 pm14 cd14 ct14 oc15 kV15 dc15 pm15 cd15 ct15 oc16 kV16 dc16 pm16 cd16 ct16 oc17 kV17 dc17 pm17 cd17 ct17 oc18 kV18 dc18 pm18 cd18 ct18 oc19 kV19 dc19 pm19 cd19 ct19 oc20 kV20 dc20 pm20 cd20 ct20 oc21 kV21 dc21 pm21 cd21 ct21 oc22 kV22 dc22 pm22 cd22 ct22 oc23 kV23 dc23 pm23 cd23 ct23 oc24 kV24 dc24 pm24 cd24 ct24 oc25 kV25 dc25 pm25 cd25 ct25 oc26 kV26 dc26 pm26 cd26 ct26 oc27 kV27 dc27 pm27 cd27 ct27 oc28 kV28 dc28 pm28 cd28 ct28 oc29 kV29 dc29 pm29 cd29 ct29 oc30 kV30 dc30 pm30 cd30 ct30 : Value}
    (a0 : PySem.W.nsIn K mainGlobals "parts" = some (some (.ref f0))) (l0 : K.lookup f0 = some ⟨oc0, od0, .func (PySem.W.fnOf "parts" "parts" (defArgs s_parts) (defBody s_parts) (defScope s_parts) .none kV0 dc0 pm0 an0 cd0 ct0), sl0⟩) (c0 : PySem.W.codeIn K cd0 "parts" = true) (k0 : PySem.W.keepIn K (.ref f0) = true)
    (a1 : PySem.W.nsIn K mainGlobals "flat" = some (some (.ref f1))) (l1 : K.lookup f1 = some ⟨oc1, od1, .func (PySem.W.fnOf "flat" "flat" (defArgs s_flat) (defBody s_flat) (defScope s_flat) .none kV1 dc1 pm1 an1 cd1 ct1), sl1⟩) (c1 : PySem.W.codeIn K cd1 "flat" = true) (k1 : PySem.W.keepIn K (.ref f1) = true)
    (a2 : PySem.W.nsIn K mainGlobals "to_open" = some (some (.ref f2))) (l2 : K.lookup f2 = some ⟨oc2, od2, .func (PySem.W.fnOf "to_open" "to_open" (defArgs s_to_open) (defBody s_to_open) (defScope s_to_open) .none kV2 dc2 pm2 an2 cd2 ct2), sl2⟩) (c2 : PySem.W.codeIn K cd2 "to_open" = true) (k2 : PySem.W.keepIn K (.ref f2) = true)
    (a3 : PySem.W.nsIn K mainGlobals "is_flat" = some (some (.ref f3))) (l3 : K.lookup f3 = some ⟨oc3, od3, .func (PySem.W.fnOf "is_flat" "is_flat" (defArgs s_is_flat) (defBody s_is_flat) (defScope s_is_flat) .none kV3 dc3 pm3 an3 cd3 ct3), sl3⟩) (c3 : PySem.W.codeIn K cd3 "is_flat" = true) (k3 : PySem.W.keepIn K (.ref f3) = true)
    (a4 : PySem.W.nsIn K mainGlobals "count_to_open" = some (some (.ref f4))) (l4 : K.lookup f4 = some ⟨oc4, od4, .func (PySem.W.fnOf "count_to_open" "count_to_open" (defArgs s_count_to_open) (defBody s_count_to_open) (defScope s_count_to_open) .none kV4 dc4 pm4 an4 cd4 ct4), sl4⟩) (c4 : PySem.W.codeIn K cd4 "count_to_open" = true) (k4 : PySem.W.keepIn K (.ref f4) = true)
    (a5 : PySem.W.nsIn K mainGlobals "is_to_open" = some (some (.ref f5))) (l5 : K.lookup f5 = some ⟨oc5, od5, .func (PySem.W.fnOf "is_to_open" "is_to_open" (defArgs s_is_to_open) (defBody s_is_to_open) (defScope s_is_to_open) .none kV5 dc5 pm5 an5 cd5 ct5), sl5⟩) (c5 : PySem.W.codeIn K cd5 "is_to_open" = true) (k5 : PySem.W.keepIn K (.ref f5) = true)
    (a6 : PySem.W.nsIn K mainGlobals "is_to_use" = some (some (.ref f6))) (l6 : K.lookup f6 = some ⟨oc6, od6, .func (PySem.W.fnOf "is_to_use" "is_to_use" (defArgs s_is_to_use) (defBody s_is_to_use) (defScope s_is_to_use) .none kV6 dc6 pm6 an6 cd6 ct6), sl6⟩) (c6 : PySem.W.codeIn K cd6 "is_to_use" = true) (k6 : PySem.W.keepIn K (.ref f6) = true)
    (a7 : PySem.W.nsIn K mainGlobals "parts_and_sides" = some (some (.ref f7))) (l7 : K.lookup f7 = some ⟨oc7, od7, .func (PySem.W.fnOf "parts_and_sides" "parts_and_sides" (defArgs s_parts_and_sides) (defBody s_parts_and_sides) (defScope s_parts_and_sides) .none kV7 dc7 pm7 an7 cd7 ct7), sl7⟩) (c7 : PySem.W.codeIn K cd7 "parts_and_sides" = true) (k7 : PySem.W.keepIn K (.ref f7) = true)
    (a8 : PySem.W.nsIn K mainGlobals "_law_whole" = some (some (.ref f8))) (l8 : K.lookup f8 = some ⟨oc8, od8, .func (PySem.W.fnOf "_law_whole" "_law_whole" (defArgs s_whole_L) (defBody s_whole_L) (defScope s_whole_L) .none kV8 dc8 pm8 an8 cd8 ct8), sl8⟩) (c8 : PySem.W.codeIn K cd8 "_law_whole" = true) (k8 : PySem.W.keepIn K (.ref f8) = true)
    (a9 : PySem.W.nsIn K mainGlobals "_law_cell_at" = some (some (.ref f9))) (l9 : K.lookup f9 = some ⟨oc9, od9, .func (PySem.W.fnOf "_law_cell_at" "_law_cell_at" (defArgs s_cell_at_L) (defBody s_cell_at_L) (defScope s_cell_at_L) .none kV9 dc9 pm9 an9 cd9 ct9), sl9⟩) (c9 : PySem.W.codeIn K cd9 "_law_cell_at" = true) (k9 : PySem.W.keepIn K (.ref f9) = true)
    (a10 : PySem.W.nsIn K mainGlobals "_law_mixed" = some (some (.ref f10))) (l10 : K.lookup f10 = some ⟨oc10, od10, .func (PySem.W.fnOf "_law_mixed" "_law_mixed" (defArgs s_mixed_L) (defBody s_mixed_L) (defScope s_mixed_L) .none kV10 dc10 pm10 an10 cd10 ct10), sl10⟩) (c10 : PySem.W.codeIn K cd10 "_law_mixed" = true) (k10 : PySem.W.keepIn K (.ref f10) = true)
    (a11 : PySem.W.nsIn K mainGlobals "_law_sign" = some (some (.ref f11))) (l11 : K.lookup f11 = some ⟨oc11, od11, .func (PySem.W.fnOf "_law_sign" "_law_sign" (defArgs s_sign_L) (defBody s_sign_L) (defScope s_sign_L) .none kV11 dc11 pm11 an11 cd11 ct11), sl11⟩) (c11 : PySem.W.codeIn K cd11 "_law_sign" = true) (k11 : PySem.W.keepIn K (.ref f11) = true)
    (a12 : PySem.W.nsIn K mainGlobals "_law_name_by" = some (some (.ref f12))) (l12 : K.lookup f12 = some ⟨oc12, od12, .func (PySem.W.fnOf "_law_name_by" "_law_name_by" (defArgs s_name_by_L) (defBody s_name_by_L) (defScope s_name_by_L) .none kV12 dc12 pm12 an12 cd12 ct12), sl12⟩) (c12 : PySem.W.codeIn K cd12 "_law_name_by" = true) (k12 : PySem.W.keepIn K (.ref f12) = true)
    (a13 : PySem.W.nsIn K mainGlobals "_law_letter_by" = some (some (.ref f13))) (l13 : K.lookup f13 = some ⟨oc13, od13, .func (PySem.W.fnOf "_law_letter_by" "_law_letter_by" (defArgs s_letter_by_L) (defBody s_letter_by_L) (defScope s_letter_by_L) .none kV13 dc13 pm13 an13 cd13 ct13), sl13⟩) (c13 : PySem.W.codeIn K cd13 "_law_letter_by" = true) (k13 : PySem.W.keepIn K (.ref f13) = true)
    (a14 : PySem.W.nsIn K mainGlobals "_law_term_by" = some (some (.ref f14))) (l14 : K.lookup f14 = some ⟨oc14, od14, .func (PySem.W.fnOf "_law_term_by" "_law_term_by" (defArgs s_term_by_L) (defBody s_term_by_L) (defScope s_term_by_L) .none kV14 dc14 pm14 an14 cd14 ct14), sl14⟩) (c14 : PySem.W.codeIn K cd14 "_law_term_by" = true) (k14 : PySem.W.keepIn K (.ref f14) = true)
    (a15 : PySem.W.nsIn K mainGlobals "_law_atom_by" = some (some (.ref f15))) (l15 : K.lookup f15 = some ⟨oc15, od15, .func (PySem.W.fnOf "_law_atom_by" "_law_atom_by" (defArgs s_atom_by_L) (defBody s_atom_by_L) (defScope s_atom_by_L) .none kV15 dc15 pm15 an15 cd15 ct15), sl15⟩) (c15 : PySem.W.codeIn K cd15 "_law_atom_by" = true) (k15 : PySem.W.keepIn K (.ref f15) = true)
    (a16 : PySem.W.nsIn K mainGlobals "_law_step" = some (some (.ref f16))) (l16 : K.lookup f16 = some ⟨oc16, od16, .func (PySem.W.fnOf "_law_step" "_law_step" (defArgs s_step_L) (defBody s_step_L) (defScope s_step_L) .none kV16 dc16 pm16 an16 cd16 ct16), sl16⟩) (c16 : PySem.W.codeIn K cd16 "_law_step" = true) (k16 : PySem.W.keepIn K (.ref f16) = true)
    (a17 : PySem.W.nsIn K mainGlobals "_law_pile_by" = some (some (.ref f17))) (l17 : K.lookup f17 = some ⟨oc17, od17, .func (PySem.W.fnOf "_law_pile_by" "_law_pile_by" (defArgs s_pile_by_L) (defBody s_pile_by_L) (defScope s_pile_by_L) .none kV17 dc17 pm17 an17 cd17 ct17), sl17⟩) (c17 : PySem.W.codeIn K cd17 "_law_pile_by" = true) (k17 : PySem.W.keepIn K (.ref f17) = true)
    (a18 : PySem.W.nsIn K mainGlobals "_law_free" = some (some (.ref f18))) (l18 : K.lookup f18 = some ⟨oc18, od18, .func (PySem.W.fnOf "_law_free" "_law_free" (defArgs s_free_L) (defBody s_free_L) (defScope s_free_L) .none kV18 dc18 pm18 an18 cd18 ct18), sl18⟩) (c18 : PySem.W.codeIn K cd18 "_law_free" = true) (k18 : PySem.W.keepIn K (.ref f18) = true)
    (a19 : PySem.W.nsIn K mainGlobals "_law_closed" = some (some (.ref f19))) (l19 : K.lookup f19 = some ⟨oc19, od19, .func (PySem.W.fnOf "_law_closed" "_law_closed" (defArgs s_closed_L) (defBody s_closed_L) (defScope s_closed_L) .none kV19 dc19 pm19 an19 cd19 ct19), sl19⟩) (c19 : PySem.W.codeIn K cd19 "_law_closed" = true) (k19 : PySem.W.keepIn K (.ref f19) = true)
    (a20 : PySem.W.nsIn K mainGlobals "_law_statement_by" = some (some (.ref f20))) (l20 : K.lookup f20 = some ⟨oc20, od20, .func (PySem.W.fnOf "_law_statement_by" "_law_statement_by" (defArgs s_statement_by_L) (defBody s_statement_by_L) (defScope s_statement_by_L) .none kV20 dc20 pm20 an20 cd20 ct20), sl20⟩) (c20 : PySem.W.codeIn K cd20 "_law_statement_by" = true) (k20 : PySem.W.keepIn K (.ref f20) = true)
    (a21 : PySem.W.nsIn K mainGlobals "_law_put" = some (some (.ref f21))) (l21 : K.lookup f21 = some ⟨oc21, od21, .func (PySem.W.fnOf "_law_put" "_law_put" (defArgs s_put_L) (defBody s_put_L) (defScope s_put_L) .none kV21 dc21 pm21 an21 cd21 ct21), sl21⟩) (c21 : PySem.W.codeIn K cd21 "_law_put" = true) (k21 : PySem.W.keepIn K (.ref f21) = true)
    (a22 : PySem.W.nsIn K mainGlobals "_law_open_by" = some (some (.ref f22))) (l22 : K.lookup f22 = some ⟨oc22, od22, .func (PySem.W.fnOf "_law_open_by" "_law_open_by" (defArgs s_open_by_L) (defBody s_open_by_L) (defScope s_open_by_L) .none kV22 dc22 pm22 an22 cd22 ct22), sl22⟩) (c22 : PySem.W.codeIn K cd22 "_law_open_by" = true) (k22 : PySem.W.keepIn K (.ref f22) = true)
    (a23 : PySem.W.nsIn K mainGlobals "_law_named" = some (some (.ref f23))) (l23 : K.lookup f23 = some ⟨oc23, od23, .func (PySem.W.fnOf "_law_named" "_law_named" (defArgs s_named_L) (defBody s_named_L) (defScope s_named_L) .none kV23 dc23 pm23 an23 cd23 ct23), sl23⟩) (c23 : PySem.W.codeIn K cd23 "_law_named" = true) (k23 : PySem.W.keepIn K (.ref f23) = true)
    (a24 : PySem.W.nsIn K mainGlobals "_law_schema" = some (some (.ref f24))) (l24 : K.lookup f24 = some ⟨oc24, od24, .func (PySem.W.fnOf "_law_schema" "_law_schema" (defArgs s_schema_L) (defBody s_schema_L) (defScope s_schema_L) .none kV24 dc24 pm24 an24 cd24 ct24), sl24⟩) (c24 : PySem.W.codeIn K cd24 "_law_schema" = true) (k24 : PySem.W.keepIn K (.ref f24) = true)
    (a25 : PySem.W.nsIn K mainGlobals "_law_wide" = some (some (.ref f25))) (l25 : K.lookup f25 = some ⟨oc25, od25, .func (PySem.W.fnOf "_law_wide" "_law_wide" (defArgs s_wide_L) (defBody s_wide_L) (defScope s_wide_L) .none kV25 dc25 pm25 an25 cd25 ct25), sl25⟩) (c25 : PySem.W.codeIn K cd25 "_law_wide" = true) (k25 : PySem.W.keepIn K (.ref f25) = true)
    (a26 : PySem.W.nsIn K mainGlobals "_law_question" = some (some (.ref f26))) (l26 : K.lookup f26 = some ⟨oc26, od26, .func (PySem.W.fnOf "_law_question" "_law_question" (defArgs s_question_L) (defBody s_question_L) (defScope s_question_L) .none kV26 dc26 pm26 an26 cd26 ct26), sl26⟩) (c26 : PySem.W.codeIn K cd26 "_law_question" = true) (k26 : PySem.W.keepIn K (.ref f26) = true)
    (a27 : PySem.W.nsIn K mainGlobals "_law_below" = some (some (.ref f27))) (l27 : K.lookup f27 = some ⟨oc27, od27, .func (PySem.W.fnOf "_law_below" "_law_below" (defArgs s_below_L) (defBody s_below_L) (defScope s_below_L) .none kV27 dc27 pm27 an27 cd27 ct27), sl27⟩) (c27 : PySem.W.codeIn K cd27 "_law_below" = true) (k27 : PySem.W.keepIn K (.ref f27) = true)
    (a28 : PySem.W.nsIn K mainGlobals "_law_due" = some (some (.ref f28))) (l28 : K.lookup f28 = some ⟨oc28, od28, .func (PySem.W.fnOf "_law_due" "_law_due" (defArgs s_due_L) (defBody s_due_L) (defScope s_due_L) .none kV28 dc28 pm28 an28 cd28 ct28), sl28⟩) (c28 : PySem.W.codeIn K cd28 "_law_due" = true) (k28 : PySem.W.keepIn K (.ref f28) = true)
    (a29 : PySem.W.nsIn K mainGlobals "_law_told" = some (some (.ref f29))) (l29 : K.lookup f29 = some ⟨oc29, od29, .func (PySem.W.fnOf "_law_told" "_law_told" (defArgs s_told_L) (defBody s_told_L) (defScope s_told_L) .none kV29 dc29 pm29 an29 cd29 ct29), sl29⟩) (c29 : PySem.W.codeIn K cd29 "_law_told" = true) (k29 : PySem.W.keepIn K (.ref f29) = true)
    (a30 : PySem.W.nsIn K mainGlobals "law" = some (some (.ref f30))) (l30 : K.lookup f30 = some ⟨oc30, od30, .func (PySem.W.fnOf "law" "law" (defArgs s_law) (defBody s_law) (defScope s_law) .none kV30 dc30 pm30 an30 cd30 ct30), sl30⟩) (c30 : PySem.W.codeIn K cd30 "law" = true) (k30 : PySem.W.keepIn K (.ref f30) = true)
    {p0 : Addr} {dd0 : Option Addr} {nn0 : Nat} {ss0 : Array (Option Value)} {u0_0 u0_1 : Tok} (g0 : PySem.W.nsIn K mainGlobals "QUANTIFIERS" = some (some (.ref p0))) (q0 : K.lookup p0 = some ⟨.type "tuple", dd0, .seq #[Value.str "all" u0_0, Value.str "some" u0_1] nn0, ss0⟩)
    (z_all : PySem.W.nsIn K mainGlobals "all" = some none)
    (z_bool : PySem.W.nsIn K mainGlobals "bool" = some none)
    (z_int : PySem.W.nsIn K mainGlobals "int" = some none)
    (z_isinstance : PySem.W.nsIn K mainGlobals "isinstance" = some none)
    (z_len : PySem.W.nsIn K mainGlobals "len" = some none)
    (z_range : PySem.W.nsIn K mainGlobals "range" = some none)
    (z_str : PySem.W.nsIn K mainGlobals "str" = some none)
    (z_sum : PySem.W.nsIn K mainGlobals "sum" = some none)
    (z_tuple : PySem.W.nsIn K mainGlobals "tuple" = some none)
    (OK : ∀ (P : Program) (D : Defs) (base : Heap), Tx K mg D → FnOk P w K mg base CX0 200 D.a_law D.d_law ["_law_script"] (spLaw K)) :
    ∃ fd : FuncData, (∀ (s : Shared) (v : Value), BindsTo s fd ⟨[v], []⟩ [("_law_script", v)]) ∧ ∀ base : Heap, K.In base → base.Ns mainGlobals mg → FnOk l.prog w K mg base CX0 200 fa fd ["_law_script"] (spLaw K) := by
  have e := hfa.symm.trans (PySem.W.mg_of X G a30)
  cases e
  have F0 := fun_mk (st := s_parts) l0 c0 k0
  have b0 := F0.binds (ps := ["A"]) fun _ _ _ _ _ _ us hl => match us, hl with | [_], _ => rfl
  have F1 := fun_mk (st := s_flat) l1 c1 k1
  have b1 := F1.binds (ps := ["givens", "goal"]) fun _ _ _ _ _ _ us hl => match us, hl with | [_, _], _ => rfl
  have F2 := fun_mk (st := s_to_open) l2 c2 k2
  have b2 := F2.binds (ps := ["givens", "goal"]) fun _ _ _ _ _ _ us hl => match us, hl with | [_, _], _ => rfl
  have F3 := fun_mk (st := s_is_flat) l3 c3 k3
  have b3 := F3.binds (ps := ["A", "told", "within_used"]) fun _ _ _ _ _ _ us hl => match us, hl with | [_, _, _], _ => rfl
  have F4 := fun_mk (st := s_count_to_open) l4 c4 k4
  have b4 := F4.binds (ps := ["A", "told"]) fun _ _ _ _ _ _ us hl => match us, hl with | [_, _], _ => rfl
  have F5 := fun_mk (st := s_is_to_open) l5 c5 k5
  have b5 := F5.binds (ps := ["A", "told"]) fun _ _ _ _ _ _ us hl => match us, hl with | [_, _], _ => rfl
  have F6 := fun_mk (st := s_is_to_use) l6 c6 k6
  have b6 := F6.binds (ps := ["A", "told"]) fun _ _ _ _ _ _ us hl => match us, hl with | [_, _], _ => rfl
  have F7 := fun_mk (st := s_parts_and_sides) l7 c7 k7
  have b7 := F7.binds (ps := ["A", "told"]) fun _ _ _ _ _ _ us hl => match us, hl with | [_, _], _ => rfl
  have F8 := fun_mk (st := s_whole_L) l8 c8 k8
  have b8 := F8.binds (ps := ["_law_found"]) fun _ _ _ _ _ _ us hl => match us, hl with | [_], _ => rfl
  have F9 := fun_mk (st := s_cell_at_L) l9 c9 k9
  have b9 := F9.binds (ps := ["_law_script", "_law_k"]) fun _ _ _ _ _ _ us hl => match us, hl with | [_, _], _ => rfl
  have F10 := fun_mk (st := s_mixed_L) l10 c10 k10
  have b10 := F10.binds (ps := ["_law_script"]) fun _ _ _ _ _ _ us hl => match us, hl with | [_], _ => rfl
  have F11 := fun_mk (st := s_sign_L) l11 c11 k11
  have b11 := F11.binds (ps := ["_law_cell"]) fun _ _ _ _ _ _ us hl => match us, hl with | [_], _ => rfl
  have F12 := fun_mk (st := s_name_by_L) l12 c12 k12
  have b12 := F12.binds (ps := ["_law_shape", "_law_k"]) fun _ _ _ _ _ _ us hl => match us, hl with | [_, _], _ => rfl
  have F13 := fun_mk (st := s_letter_by_L) l13 c13 k13
  have b13 := F13.binds (ps := ["_law_shape", "_law_k"]) fun _ _ _ _ _ _ us hl => match us, hl with | [_, _], _ => rfl
  have F14 := fun_mk (st := s_term_by_L) l14 c14 k14
  have b14 := F14.binds (ps := ["_law_shape", "_law_cell"]) fun _ _ _ _ _ _ us hl => match us, hl with | [_, _], _ => rfl
  have F15 := fun_mk (st := s_atom_by_L) l15 c15 k15
  have b15 := F15.binds (ps := ["_law_shape", "_law_cell"]) fun _ _ _ _ _ _ us hl => match us, hl with | [_, _], _ => rfl
  have F16 := fun_mk (st := s_step_L) l16 c16 k16
  have b16 := F16.binds (ps := ["_law_pile", "_law_shape", "_law_cell"]) fun _ _ _ _ _ _ us hl => match us, hl with | [_, _, _], _ => rfl
  have F17 := fun_mk (st := s_pile_by_L) l17 c17 k17
  have b17 := F17.binds (ps := ["_law_shape", "_law_cells"]) fun _ _ _ _ _ _ us hl => match us, hl with | [_, _], _ => rfl
  have F18 := fun_mk (st := s_free_L) l18 c18 k18
  have b18 := F18.binds (ps := ["_law_ka"]) fun _ _ _ _ _ _ us hl => match us, hl with | [_], _ => rfl
  have F19 := fun_mk (st := s_closed_L) l19 c19 k19
  have b19 := F19.binds (ps := ["_law_ka", "_law_cell"]) fun _ _ _ _ _ _ us hl => match us, hl with | [_, _], _ => rfl
  have F20 := fun_mk (st := s_statement_by_L) l20 c20 k20
  have b20 := F20.binds (ps := ["_law_shape", "_law_cells"]) fun _ _ _ _ _ _ us hl => match us, hl with | [_, _], _ => rfl
  have F21 := fun_mk (st := s_put_L) l21 c21 k21
  have b21 := F21.binds (ps := ["_law_ka", "_law_letter", "_law_name"]) fun _ _ _ _ _ _ us hl => match us, hl with | [_, _, _], _ => rfl
  have F22 := fun_mk (st := s_open_by_L) l22 c22 k22
  have b22 := F22.binds (ps := ["_law_shape", "_law_cells", "_law_kx"]) fun _ _ _ _ _ _ us hl => match us, hl with | [_, _, _], _ => rfl
  have F23 := fun_mk (st := s_named_L) l23 c23 k23
  have b23 := F23.binds (ps := ["_law_ka", "_law_name"]) fun _ _ _ _ _ _ us hl => match us, hl with | [_, _], _ => rfl
  have F24 := fun_mk (st := s_schema_L) l24 c24 k24
  have b24 := F24.binds (ps := ["_law_way", "_law_ka", "_law_kb", "_law_kx"]) fun _ _ _ _ _ _ us hl => match us, hl with | [_, _, _, _], _ => rfl
  have F25 := fun_mk (st := s_wide_L) l25 c25 k25
  have b25 := F25.binds (ps := ["_law_shape", "_law_way"]) fun _ _ _ _ _ _ us hl => match us, hl with | [_, _], _ => rfl
  have F26 := fun_mk (st := s_question_L) l26 c26 k26
  have b26 := F26.binds (ps := ["_law_script"]) fun _ _ _ _ _ _ us hl => match us, hl with | [_], _ => rfl
  have F27 := fun_mk (st := s_below_L) l27 c27 k27
  have b27 := F27.binds (ps := ["_law_ka", "_law_side", "_law_used"]) fun _ _ _ _ _ _ us hl => match us, hl with | [_, _, _], _ => rfl
  have F28 := fun_mk (st := s_due_L) l28 c28 k28
  have b28 := F28.binds (ps := ["_law_givens", "_law_goal"]) fun _ _ _ _ _ _ us hl => match us, hl with | [_, _], _ => rfl
  have F29 := fun_mk (st := s_told_L) l29 c29 k29
  have b29 := F29.binds (ps := ["_law_givens", "_law_goal", "_law_due_here"]) fun _ _ _ _ _ _ us hl => match us, hl with | [_, _, _], _ => rfl
  have F30 := fun_mk (st := s_law) l30 c30 k30
  have b30 := F30.binds (ps := ["_law_script"]) fun _ _ _ _ _ _ us hl => match us, hl with | [_], _ => rfl
  let D : Defs := ⟨f0, PySem.W.fnOf "parts" "parts" (defArgs s_parts) (defBody s_parts) (defScope s_parts) .none kV0 dc0 pm0 an0 cd0 ct0, f1, PySem.W.fnOf "flat" "flat" (defArgs s_flat) (defBody s_flat) (defScope s_flat) .none kV1 dc1 pm1 an1 cd1 ct1, f2, PySem.W.fnOf "to_open" "to_open" (defArgs s_to_open) (defBody s_to_open) (defScope s_to_open) .none kV2 dc2 pm2 an2 cd2 ct2, f3, PySem.W.fnOf "is_flat" "is_flat" (defArgs s_is_flat) (defBody s_is_flat) (defScope s_is_flat) .none kV3 dc3 pm3 an3 cd3 ct3, f4, PySem.W.fnOf "count_to_open" "count_to_open" (defArgs s_count_to_open) (defBody s_count_to_open) (defScope s_count_to_open) .none kV4 dc4 pm4 an4 cd4 ct4, f5, PySem.W.fnOf "is_to_open" "is_to_open" (defArgs s_is_to_open) (defBody s_is_to_open) (defScope s_is_to_open) .none kV5 dc5 pm5 an5 cd5 ct5, f6, PySem.W.fnOf "is_to_use" "is_to_use" (defArgs s_is_to_use) (defBody s_is_to_use) (defScope s_is_to_use) .none kV6 dc6 pm6 an6 cd6 ct6, f7, PySem.W.fnOf "parts_and_sides" "parts_and_sides" (defArgs s_parts_and_sides) (defBody s_parts_and_sides) (defScope s_parts_and_sides) .none kV7 dc7 pm7 an7 cd7 ct7, f8, PySem.W.fnOf "_law_whole" "_law_whole" (defArgs s_whole_L) (defBody s_whole_L) (defScope s_whole_L) .none kV8 dc8 pm8 an8 cd8 ct8, f9, PySem.W.fnOf "_law_cell_at" "_law_cell_at" (defArgs s_cell_at_L) (defBody s_cell_at_L) (defScope s_cell_at_L) .none kV9 dc9 pm9 an9 cd9 ct9, f10, PySem.W.fnOf "_law_mixed" "_law_mixed" (defArgs s_mixed_L) (defBody s_mixed_L) (defScope s_mixed_L) .none kV10 dc10 pm10 an10 cd10 ct10, f11, PySem.W.fnOf "_law_sign" "_law_sign" (defArgs s_sign_L) (defBody s_sign_L) (defScope s_sign_L) .none kV11 dc11 pm11 an11 cd11 ct11, f12, PySem.W.fnOf "_law_name_by" "_law_name_by" (defArgs s_name_by_L) (defBody s_name_by_L) (defScope s_name_by_L) .none kV12 dc12 pm12 an12 cd12 ct12, f13, PySem.W.fnOf "_law_letter_by" "_law_letter_by" (defArgs s_letter_by_L) (defBody s_letter_by_L) (defScope s_letter_by_L) .none kV13 dc13 pm13 an13 cd13 ct13, f14, PySem.W.fnOf "_law_term_by" "_law_term_by" (defArgs s_term_by_L) (defBody s_term_by_L) (defScope s_term_by_L) .none kV14 dc14 pm14 an14 cd14 ct14, f15, PySem.W.fnOf "_law_atom_by" "_law_atom_by" (defArgs s_atom_by_L) (defBody s_atom_by_L) (defScope s_atom_by_L) .none kV15 dc15 pm15 an15 cd15 ct15, f16, PySem.W.fnOf "_law_step" "_law_step" (defArgs s_step_L) (defBody s_step_L) (defScope s_step_L) .none kV16 dc16 pm16 an16 cd16 ct16, f17, PySem.W.fnOf "_law_pile_by" "_law_pile_by" (defArgs s_pile_by_L) (defBody s_pile_by_L) (defScope s_pile_by_L) .none kV17 dc17 pm17 an17 cd17 ct17, f18, PySem.W.fnOf "_law_free" "_law_free" (defArgs s_free_L) (defBody s_free_L) (defScope s_free_L) .none kV18 dc18 pm18 an18 cd18 ct18, f19, PySem.W.fnOf "_law_closed" "_law_closed" (defArgs s_closed_L) (defBody s_closed_L) (defScope s_closed_L) .none kV19 dc19 pm19 an19 cd19 ct19, f20, PySem.W.fnOf "_law_statement_by" "_law_statement_by" (defArgs s_statement_by_L) (defBody s_statement_by_L) (defScope s_statement_by_L) .none kV20 dc20 pm20 an20 cd20 ct20, f21, PySem.W.fnOf "_law_put" "_law_put" (defArgs s_put_L) (defBody s_put_L) (defScope s_put_L) .none kV21 dc21 pm21 an21 cd21 ct21, f22, PySem.W.fnOf "_law_open_by" "_law_open_by" (defArgs s_open_by_L) (defBody s_open_by_L) (defScope s_open_by_L) .none kV22 dc22 pm22 an22 cd22 ct22, f23, PySem.W.fnOf "_law_named" "_law_named" (defArgs s_named_L) (defBody s_named_L) (defScope s_named_L) .none kV23 dc23 pm23 an23 cd23 ct23, f24, PySem.W.fnOf "_law_schema" "_law_schema" (defArgs s_schema_L) (defBody s_schema_L) (defScope s_schema_L) .none kV24 dc24 pm24 an24 cd24 ct24, f25, PySem.W.fnOf "_law_wide" "_law_wide" (defArgs s_wide_L) (defBody s_wide_L) (defScope s_wide_L) .none kV25 dc25 pm25 an25 cd25 ct25, f26, PySem.W.fnOf "_law_question" "_law_question" (defArgs s_question_L) (defBody s_question_L) (defScope s_question_L) .none kV26 dc26 pm26 an26 cd26 ct26, f27, PySem.W.fnOf "_law_below" "_law_below" (defArgs s_below_L) (defBody s_below_L) (defScope s_below_L) .none kV27 dc27 pm27 an27 cd27 ct27, f28, PySem.W.fnOf "_law_due" "_law_due" (defArgs s_due_L) (defBody s_due_L) (defScope s_due_L) .none kV28 dc28 pm28 an28 cd28 ct28, f29, PySem.W.fnOf "_law_told" "_law_told" (defArgs s_told_L) (defBody s_told_L) (defScope s_told_L) .none kV29 dc29 pm29 an29 cd29 ct29, fa, PySem.W.fnOf "law" "law" (defArgs s_law) (defBody s_law) (defScope s_law) .none kV30 dc30 pm30 an30 cd30 ct30, p0⟩
  have T : Tx K mg D := ⟨F0, PySem.W.mg_of X G a0, b0, F1, PySem.W.mg_of X G a1, b1, F2, PySem.W.mg_of X G a2, b2, F3, PySem.W.mg_of X G a3, b3, F4, PySem.W.mg_of X G a4, b4, F5, PySem.W.mg_of X G a5, b5, F6, PySem.W.mg_of X G a6, b6, F7, PySem.W.mg_of X G a7, b7, F8, PySem.W.mg_of X G a8, b8, F9, PySem.W.mg_of X G a9, b9, F10, PySem.W.mg_of X G a10, b10, F11, PySem.W.mg_of X G a11, b11, F12, PySem.W.mg_of X G a12, b12, F13, PySem.W.mg_of X G a13, b13, F14, PySem.W.mg_of X G a14, b14, F15, PySem.W.mg_of X G a15, b15, F16, PySem.W.mg_of X G a16, b16, F17, PySem.W.mg_of X G a17, b17, F18, PySem.W.mg_of X G a18, b18, F19, PySem.W.mg_of X G a19, b19, F20, PySem.W.mg_of X G a20, b20, F21, PySem.W.mg_of X G a21, b21, F22, PySem.W.mg_of X G a22, b22, F23, PySem.W.mg_of X G a23, b23, F24, PySem.W.mg_of X G a24, b24, F25, PySem.W.mg_of X G a25, b25, F26, PySem.W.mg_of X G a26, b26, F27, PySem.W.mg_of X G a27, b27, F28, PySem.W.mg_of X G a28, b28, F29, PySem.W.mg_of X G a29, b29, F30, PySem.W.mg_of X G a30, b30, PySem.W.mg_of X G g0, fun H => .inr ⟨_, _, _, q0, rfl, rfl, (by show 2 ≤ sizeLine; decide), (.cons ⟨_, rfl⟩ (.cons ⟨_, rfl⟩ .nil))⟩, PySem.W.mg_none_of X G z_all, PySem.W.mg_none_of X G z_bool, PySem.W.mg_none_of X G z_int, PySem.W.mg_none_of X G z_isinstance, PySem.W.mg_none_of X G z_len, PySem.W.mg_none_of X G z_range, PySem.W.mg_none_of X G z_str, PySem.W.mg_none_of X G z_sum, PySem.W.mg_none_of X G z_tuple⟩
  exact ⟨_, fun s v => .of_eq rfl, fun base _ _ => OK l.prog D base T⟩
theorem walk {l : PySem.W.OpenLaw} {q : Program} {loose : List Str} {XP : (Str → Option Value) → Heap → Prop} {YP : World → Heap → Prop} {d : DefRec} {K : Params → PySem.W.Frag} (hn : l.most = some 63) (hdf : d.params.defaults = [])
    (hY : ∀ (w : World) (h : Heap), YP w h → (K w.params).In h)
    (F : ∀ (w : World) (mg : Str → Option Value) (fa : Addr) (h : Heap), (K w.params).In h → h.Ns mainGlobals mg → mg d.name = some (.ref fa) →
      ∃ fd : FuncData, (∀ (s : Shared) (u : Value), BindsTo s fd ⟨[u], []⟩ [("_law_script", u)]) ∧ ∀ base : Heap, (K w.params).In base → base.Ns mainGlobals mg → FnOk l.prog w (K w.params) mg base CX0 200 fa fd ["_law_script"] (spLaw (K w.params))) :
    PySem.W.WalkO q loose XP YP l.row.toRowW d [] (fun f vs => PySem.call f vs) :=
  L2.walk_of (n := 63) (k := 200) (x := "_law_script") (CX := fun _ => CX0) (sp := fun w => spLaw (K w.params)) hn (by decide) hdf ⟨rfl, by decide, by decide⟩ hY F (fun _ _ a ns hl _ hS => ⟨a, ns, rfl, hS, hl, fun _ => rfl⟩) fun _ _ _ _ _ z => z
end K41
open PySem PySem.W PyProof.Rows
set_option maxRecDepth 100000 in
set_option maxHeartbeats 0 in
theorem PySem.Challenge.cw_boxproof_k41_sides_holds : PySem.Challenge.rw_boxproof_k41_sides.Holds := by
  w_on; o_law; k_head; (case hw => w_witness2)
  k_fill
  refine K41.walk (l := PySem.Challenge.rw_boxproof_k41_sides) rfl rfl (fun w h Y => PySem.W.kIn_of Y) ?F
  case F =>
    intro w mg fa h KX G hmg
    refine' K41.all_mk KX G hmg ?bpa0 ?bpl0 ?bpc0 ?bpk0 ?bpa1 ?bpl1 ?bpc1 ?bpk1 ?bpa2 ?bpl2 ?bpc2 ?bpk2 ?bpa3 ?bpl3 ?bpc3 ?bpk3 ?bpa4 ?bpl4 ?bpc4 ?bpk4 ?bpa5 ?bpl5 ?bpc5 ?bpk5 ?bpa6 ?bpl6 ?bpc6 ?bpk6 ?bpa7 ?bpl7 ?bpc7 ?bpk7 ?bpa8 ?bpl8 ?bpc8 ?bpk8 ?bpa9 ?bpl9 ?bpc9 ?bpk9 ?bpa10 ?bpl10 ?bpc10 ?bpk10 ?bpa11 ?bpl11 ?bpc11 ?bpk11 ?bpa12 ?bpl12 ?bpc12 ?bpk12 ?bpa13 ?bpl13 ?bpc13 ?bpk13 ?bpa14 ?bpl14 ?bpc14 ?bpk14 ?bpa15 ?bpl15 ?bpc15 ?bpk15 ?bpa16 ?bpl16 ?bpc16 ?bpk16 ?bpa17 ?bpl17 ?bpc17 ?bpk17 ?bpa18 ?bpl18 ?bpc18 ?bpk18 ?bpa19 ?bpl19 ?bpc19 ?bpk19 ?bpa20 ?bpl20 ?bpc20 ?bpk20 ?bpa21 ?bpl21 ?bpc21 ?bpk21 ?bpa22 ?bpl22 ?bpc22 ?bpk22 ?bpa23 ?bpl23 ?bpc23 ?bpk23 ?bpa24 ?bpl24 ?bpc24 ?bpk24 ?bpa25 ?bpl25 ?bpc25 ?bpk25 ?bpa26 ?bpl26 ?bpc26 ?bpk26 ?bpa27 ?bpl27 ?bpc27 ?bpk27 ?bpa28 ?bpl28 ?bpc28 ?bpk28 ?bpa29 ?bpl29 ?bpc29 ?bpk29 ?bpa30 ?bpl30 ?bpc30 ?bpk30 ?bpg0 ?bpq0 ?bpz_all ?bpz_bool ?bpz_int ?bpz_isinstance ?bpz_len ?bpz_range ?bpz_str ?bpz_sum ?bpz_tuple ?bpOK
    (case bpa0 => k_is)
    (case bpl0 => k_is)
    (case bpc0 => k_is)
    (case bpk0 => k_is)
    (case bpa1 => k_is)
    (case bpl1 => k_is)
    (case bpc1 => k_is)
    (case bpk1 => k_is)
    (case bpa2 => k_is)
    (case bpl2 => k_is)
    (case bpc2 => k_is)
    (case bpk2 => k_is)
    (case bpa3 => k_is)
    (case bpl3 => k_is)
    (case bpc3 => k_is)
    (case bpk3 => k_is)
    (case bpa4 => k_is)
    (case bpl4 => k_is)
    (case bpc4 => k_is)
    (case bpk4 => k_is)
    (case bpa5 => k_is)
    (case bpl5 => k_is)
    (case bpc5 => k_is)
    (case bpk5 => k_is)
    (case bpa6 => k_is)
    (case bpl6 => k_is)
    (case bpc6 => k_is)
    (case bpk6 => k_is)
    (case bpa7 => k_is)
    (case bpl7 => k_is)
    (case bpc7 => k_is)
    (case bpk7 => k_is)
    (case bpa8 => k_is)
    (case bpl8 => k_is)
    (case bpc8 => k_is)
    (case bpk8 => k_is)
    (case bpa9 => k_is)
    (case bpl9 => k_is)
    (case bpc9 => k_is)
    (case bpk9 => k_is)
    (case bpa10 => k_is)
    (case bpl10 => k_is)
    (case bpc10 => k_is)
    (case bpk10 => k_is)
    (case bpa11 => k_is)
    (case bpl11 => k_is)
    (case bpc11 => k_is)
    (case bpk11 => k_is)
    (case bpa12 => k_is)
    (case bpl12 => k_is)
    (case bpc12 => k_is)
    (case bpk12 => k_is)
    (case bpa13 => k_is)
    (case bpl13 => k_is)
    (case bpc13 => k_is)
    (case bpk13 => k_is)
    (case bpa14 => k_is)
    (case bpl14 => k_is)
    (case bpc14 => k_is)
    (case bpk14 => k_is)
    (case bpa15 => k_is)
    (case bpl15 => k_is)
    (case bpc15 => k_is)
    (case bpk15 => k_is)
    (case bpa16 => k_is)
    (case bpl16 => k_is)
    (case bpc16 => k_is)
    (case bpk16 => k_is)
    (case bpa17 => k_is)
    (case bpl17 => k_is)
    (case bpc17 => k_is)
    (case bpk17 => k_is)
    (case bpa18 => k_is)
    (case bpl18 => k_is)
    (case bpc18 => k_is)
    (case bpk18 => k_is)
    (case bpa19 => k_is)
    (case bpl19 => k_is)
    (case bpc19 => k_is)
    (case bpk19 => k_is)
    (case bpa20 => k_is)
    (case bpl20 => k_is)
    (case bpc20 => k_is)
    (case bpk20 => k_is)
    (case bpa21 => k_is)
    (case bpl21 => k_is)
    (case bpc21 => k_is)
    (case bpk21 => k_is)
    (case bpa22 => k_is)
    (case bpl22 => k_is)
    (case bpc22 => k_is)
    (case bpk22 => k_is)
    (case bpa23 => k_is)
    (case bpl23 => k_is)
    (case bpc23 => k_is)
    (case bpk23 => k_is)
    (case bpa24 => k_is)
    (case bpl24 => k_is)
    (case bpc24 => k_is)
    (case bpk24 => k_is)
    (case bpa25 => k_is)
    (case bpl25 => k_is)
    (case bpc25 => k_is)
    (case bpk25 => k_is)
    (case bpa26 => k_is)
    (case bpl26 => k_is)
    (case bpc26 => k_is)
    (case bpk26 => k_is)
    (case bpa27 => k_is)
    (case bpl27 => k_is)
    (case bpc27 => k_is)
    (case bpk27 => k_is)
    (case bpa28 => k_is)
    (case bpl28 => k_is)
    (case bpc28 => k_is)
    (case bpk28 => k_is)
    (case bpa29 => k_is)
    (case bpl29 => k_is)
    (case bpc29 => k_is)
    (case bpk29 => k_is)
    (case bpa30 => k_is)
    (case bpl30 => k_is)
    (case bpc30 => k_is)
    (case bpk30 => k_is)
    (case bpg0 => k_is)
    (case bpq0 => k_is)
    (case bpz_all => k_is)
    (case bpz_bool => k_is)
    (case bpz_int => k_is)
    (case bpz_isinstance => k_is)
    (case bpz_len => k_is)
    (case bpz_range => k_is)
    (case bpz_str => k_is)
    (case bpz_sum => k_is)
    (case bpz_tuple => k_is)
    case bpOK => exact fun P D base T => K41.ok_law T
#print axioms PySem.Challenge.cw_boxproof_k41_sides_holds