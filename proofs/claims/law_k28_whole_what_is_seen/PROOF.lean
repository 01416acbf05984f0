import PyProof.Rows.All
import Wide.All
import OpenK.AllK
import Wide.FinOn
import Lean
import PyProof.EqAt
import PyProof.EqKinds
import PyProof.TupleCall
import PyProof.StrCalls
import PyProof.StrCalls2
import PyProof.FitsReplace
import PyProof.StrOps2
import PyProof.StrCalls6
import PyProof.ToksMono
import PyProof.StationsW
import PyProof.PassesOwn
import PyProof.Rows.CatchOwn
import PyProof.Rows.CatchBare
import PyProof.Rows.Own
import PyProof.ExcAttrAll.ValueError
import PyProof.ExcBaseAll.ValueError
import KE.RegKIsAll
import PyProof.FString4
import PyProof.StrLawsRepr
import PyProof.StrLawsReplace
import PyProof.NeKinds
import PyProof.ConsumeWalk
import PyProof.SumWalkG
import PyProof.EnumFor
import PyProof.EnumStmt
import PyProof.EnumMake
import PyProof.TupleIter
import PyProof.ListRange
import KE.KTab
import PyProof.ZipIter
import PyProof.Rows.ZipGen
import PyProof.MeetsDict
import PyProof.DictList
import PyProof.FactsAll.dict
import PyProof.DictIter
import PyProof.DictWalks
import PyProof.MeetsDictList
import PyProof.Rows.SortShellK
import PyProof.Rows.SortStr
import PyProof.FactsAll.tuple_2
import PyProof.DictRoadsH
import PyProof.AutoListH
import PyProof.Conv_int_bool
import PyProof.Rows.StrCut
import KE.KIntText
import PyProof.SliceSyntax
import PyProof.Rows.TupMore
import PyProof.SeqI3
import PySem.Challenge.RW_boxproof_k28_whole_what_is_seen
set_option compiler.extract_closed false
set_option Elab.async false
set_option linter.all false
set_option maxRecDepth 100000
namespace L2
open PySem PySem.Spec PyProof.Rows
abbrev Key := Sum Int Str
def keyIs : Key → Value → Bool
  | .inl k, v => Value.isInt k v
  | .inr x, v => Value.isStrOf x v
def keyH (w : World) : Key → Int
  | .inl k => hashInt k
  | .inr x => hashStr w x
theorem keyIs_shape : ∀ {k : Key} {v : Value}, keyIs k v = true → (∃ i t, k = Sum.inl i ∧ v = Value.int i t) ∨ (∃ x t, k = Sum.inr x ∧ v = Value.str x t)
  | .inl i, v, h => by
    obtain ⟨t, e⟩ := Value.isInt_shape (k := i) (v := v) h
    exact .inl ⟨i, t, rfl, e⟩
  | .inr x, v, h => by
    obtain ⟨t, e⟩ := Value.isStrOf_shape (x := x) (v := v) h
    exact .inr ⟨x, t, rfl, e⟩
theorem keyIs_int (i : Int) (t : Tok) : keyIs (.inl i) (.int i t) = true := by simp [keyIs, Value.isInt]
theorem key_ll (a b : Int) : decide ((Sum.inl a : Key) = Sum.inl b) = (a == b) := by
  by_cases e : a = b
  · subst e; simp
  · have h : ¬ (Sum.inl a : Key) = Sum.inl b := fun q => e (Sum.inl.inj q)
    rw [decide_eq_false h]
    exact (beq_eq_false_iff_ne.mpr e).symm
theorem key_rr (a b : Str) : decide ((Sum.inr a : Key) = Sum.inr b) = decide (a = b) := by
  by_cases e : a = b
  · subst e; simp
  · have h : ¬ (Sum.inr a : Key) = Sum.inr b := fun q => e (Sum.inr.inj q)
    rw [decide_eq_false h, decide_eq_false e]
theorem key_lr (a : Int) (b : Str) : decide ((Sum.inl a : Key) = Sum.inr b) = false := decide_eq_false (fun q => nomatch q)
theorem key_rl (a : Str) (b : Int) : decide ((Sum.inr a : Key) = Sum.inl b) = false := decide_eq_false (fun q => nomatch q)
def mixKind (prog : Program) (w : World) : PySem.KeyKind prog w Key where
  is := keyIs
  hash := keyH w
  inj := fun v a b ha hb => by
    rcases keyIs_shape ha with ⟨i, t, rfl, rfl⟩ | ⟨x, t, rfl, rfl⟩
    · rcases keyIs_shape hb with ⟨j, u, rfl, e⟩ | ⟨y, u, rfl, e⟩
      · injection e with e1 _; rw [e1]
      · exact nomatch e
    · rcases keyIs_shape hb with ⟨j, u, rfl, e⟩ | ⟨y, u, rfl, e⟩
      · exact nomatch e
      · injection e with e1 _; rw [e1]
  byValue := fun k v h => by
    rcases keyIs_shape h with ⟨i, t, rfl, rfl⟩ | ⟨x, t, rfl, rfl⟩ <;> rfl
  pyHash := fun hv h => by
    rcases keyIs_shape hv with ⟨i, t, rfl, rfl⟩ | ⟨x, t, rfl, rfl⟩
    · exact wpAny_pyHash_int h
    · exact wpAny_pyHash_str h
  eqBool := fun hu hv h => by
    rcases keyIs_shape hu with ⟨i, t, rfl, rfl⟩ | ⟨x, t, rfl, rfl⟩
    · rcases keyIs_shape hv with ⟨j, u, rfl, rfl⟩ | ⟨y, u, rfl, rfl⟩
      · rw [key_ll] at h; exact wpAny_eqBool_int h
      · rw [key_lr] at h; exact SeqAt.EqAt.int_str i t y u _ _ _ _ h
    · rcases keyIs_shape hv with ⟨j, u, rfl, rfl⟩ | ⟨y, u, rfl, rfl⟩
      · rw [key_rl] at h; exact SeqAt.EqAt.str_int x t j u _ _ _ _ h
      · rw [key_rr] at h; exact wpAny_eqBool_str h
  «strs» := fun k x t v h => by
    rcases keyIs_shape h with ⟨i, u, rfl, e⟩ | ⟨y, u, rfl, e⟩
    · exact nomatch e
    · injection e with e1 _
      subst e1
      cases v <;> rfl
theorem mixKind_int (prog : Program) (w : World) (i : Int) (t : Tok) : (mixKind prog w).is (.inl i) (.int i t) = true := keyIs_int i t
end L2
namespace L2
open PySem PySem.Spec PyProof.Rows
inductive V where
  | non | bl (b : Bool) | int (i : Int) | str (x : Str) | byt (b : Array UInt8) | flt (b : UInt64) | ref (a : Addr) | ty (n : String)
  deriving DecidableEq
def RelV : V → Value → Prop
  | .non, u => u = Value.none
  | .bl b, u => u = Value.bool b
  | .int i, u => ∃ t, u = Value.int i t
  | .str x, u => ∃ t, u = Value.str x t
  | .byt b, u => ∃ t, u = Value.bytes b t
  | .flt b, u => ∃ t, u = Value.float b t
  | .ref a, u => u = Value.ref a
  | .ty n, u => u = Value.type n
abbrev Vals : List V → List Value → Prop := Paired RelV
theorem Vals.length {xs : List V} {us : List Value} (r : Vals xs us) : xs.length = us.length := Paired.length r
theorem Vals.get : ∀ {xs : List V} {us : List Value} {i : Nat} {x : V}, Vals xs us → xs[i]? = some x → ∃ u, us[i]? = some u ∧ RelV x u
  | _, _, _, _, .nil, e => by simp at e
  | _, _, 0, _, .cons r _, e => by simp at e; subst e; exact ⟨_, rfl, r⟩
  | _, _, i + 1, x, .cons _ t, e => by
    obtain ⟨u, h1, h2⟩ := Vals.get (i := i) (x := x) t (by simpa using e)
    exact ⟨u, by simpa using h1, h2⟩
theorem Vals.append : ∀ {xs ys : List V} {us ws : List Value}, Vals xs us → Vals ys ws → Vals (xs ++ ys) (us ++ ws)
  | _, _, _, _, .nil, s => s
  | _, _, _, _, .cons r t, s => .cons r (Vals.append t s)
theorem Vals.take : ∀ {xs : List V} {us : List Value} (n : Nat), Vals xs us → Vals (xs.take n) (us.take n)
  | _, _, 0, _ => .nil
  | _, _, _ + 1, .nil => .nil
  | _, _, n + 1, .cons r t => .cons r (Vals.take n t)
theorem Vals.drop : ∀ {xs : List V} {us : List Value} (n : Nat), Vals xs us → Vals (xs.drop n) (us.drop n)
  | _, _, 0, r => r
  | _, _, _ + 1, .nil => .nil
  | _, _, n + 1, .cons _ t => Vals.drop n t
def RelO : Option V → Option Value → Prop
  | some v, some u => RelV v u
  | none, none => True
  | _, _ => False
def KV {κ : Type} : List (κ × V) → List (κ × Value) → Prop := Paired fun (p : κ × V) (q : κ × Value) => p.1 = q.1 ∧ RelV p.2 q.2
def kV : Key → V
  | .inl i => .int i
  | .inr x => .str x
inductive HO where
  | lst (xs : List V)
  | tup (xs : List V)
  | dK (kvs : List (Key × V)) | dT (kvs : List (List Key × V))
  | set (S : Int → Bool) (n : Nat)
  | ins (C dx : Addr) (fs : List (Str × V))
  | own (x : Addr)
  | xd (fs : List (Str × V))
  | met (f x : Addr)
  | rng (lo hi : Int)
  | frz (o : Obj) (u : HO)
  | tbl (ps : Array Value)
  | ext (φ : Heap → Prop)
abbrev Hp := Addr → Option HO
def upd (H : Hp) (a : Addr) (o : HO) : Hp := fun b => if b = a then some o else H b
theorem upd_same {H : Hp} {a : Addr} {o : HO} : upd H a o a = some o := by unfold upd; rw [if_pos rfl]
theorem upd_ne {H : Hp} {a b : Addr} {o : HO} (h : b ≠ a) : upd H a o b = H b := by unfold upd; rw [if_neg h]
theorem ne_of {H : Hp} {a b : Addr} {o u : HO} (h : H a = some o) (h' : H b = some u) (d : o ≠ u) : a ≠ b := by
  intro e; subst e; rw [h] at h'; exact d (Option.some.inj h')
theorem ne_of_none {H : Hp} {a b : Addr} {o : HO} (h : H a = some o) (h' : H b = none) : a ≠ b := by
  intro e; subst e; rw [h] at h'; cases h'
section
variable (P : Program) (w : World)
def ObjOk (H : Hp) (h : Heap) (a : Addr) : HO → Prop
  | .lst xs => xs.length ≤ sizeLine ∧ ∃ (its : List Value) (n : Nat), Vals xs its ∧ h.get? a = some { cls := .type "list", data := .seq its.toArray n }
  | .tup xs => xs.length ≤ sizeLine ∧ ∃ its : List Value, Vals xs its ∧ IsTup h a its.toArray
  | .dK kvs => kvs.length ≤ sizeLine ∧ (a == sysModules) = false ∧ ∃ vs, KV kvs vs ∧ h.DictOf (mixKind P w) a vs
  | .dT kvs => kvs.length ≤ sizeLine ∧ (a == sysModules) = false ∧ ∃ xs : List (List Key × Addr × Value),
      Paired (fun (p : List Key × V) (q : List Key × Addr × Value) => p.1 = q.1 ∧ H q.2.1 = some (.tup (p.1.map kV)) ∧ RelV p.2 q.2.2) kvs xs ∧
      ∃ o es ep, h.get? a = some o ∧ o.ExactDict ∧ o.data = .dict es ep ∧ es.toList = xs.map (entryOfKey (tupleKind (mixKind P w))) ∧ (xs.map (·.1)).Nodup
  | .set S n => h.SetOf (intKind P w) a S n
  | .ins C dx fs => H dx = some (.own a) ∧ fs.length ≤ 1000 ∧ dx ≠ a ∧ h.get? a = some (PySem.W.instObj C dx) ∧
      ∃ mA, h.Ns1 dx mA ∧ (∀ f, RelO (fs.lookup f) (mA f)) ∧ PySem.Within mA (fs.map (·.1))
  | .own _ => ∃ o, h.get? a = some o
  | .xd fs => ∃ mA, h.Ns1 a mA ∧ ∀ f, RelO (fs.lookup f) (mA f)
  | .rng lo hi => ∃ t u v, h.get? a = some { cls := .type "range", data := .fields #[.int lo t, .int hi u, .int 1 v] }
  | .frz o u => h.get? a = some o ∧ ObjOk H h a u
  | .tbl ps => h.get? a = some { cls := .none, data := .fields ps }
  | .met f x => h.get? a = some (PySem.W.methodObj (.ref f) (.ref x))
  | .ext φ => φ h ∧ (∃ o, h.get? a = some o) ∧ ∀ h1 h2 : Heap, φ h1 → (∀ o, h1.get? a = some o → h2.get? a = some o) → φ h2
def HOk (H : Hp) (h : Heap) : Prop := ∀ a o, H a = some o → ObjOk P w H h a o
end
section
variable {P : Program} {w : World} {H H' : Hp} {h h' : Heap} {a : Addr} {o : HO}
theorem ObjOk.lt (x : ObjOk P w H h a o) : a < h.objs.size := by
  cases o with
  | lst xs => obtain ⟨_, _, _, _, e⟩ := x; exact Heap.lt_size e
  | tup xs => obtain ⟨_, _, _, p⟩ := x; exact p.lt
  | dK kvs => obtain ⟨_, _, _, _, o, _, _, e, _⟩ := x; exact Heap.lt_size e
  | dT kvs => obtain ⟨_, _, _, _, o, _, _, e, _⟩ := x; exact Heap.lt_size e
  | set S n => obtain ⟨o, _, _, _, e, _⟩ := x; exact Heap.lt_size e
  | ins C dx fs => obtain ⟨_, _, _, e, _⟩ := x; exact Heap.lt_size e
  | own y => obtain ⟨_, e⟩ := x; exact Heap.lt_size e
  | xd fs => obtain ⟨_, ⟨_, _, _, e, _⟩, _⟩ := x; exact Heap.lt_size e
  | rng lo hi => obtain ⟨_, _, _, e⟩ := x; exact Heap.lt_size e
  | frz ob u => obtain ⟨e, _⟩ := x; exact Heap.lt_size e
  | tbl ps => exact Heap.lt_size (show h.get? a = some _ from x)
  | met f y => exact Heap.lt_size (show h.get? a = some _ from x)
  | ext φ => obtain ⟨_, ⟨_, e⟩, _⟩ := x; exact Heap.lt_size e
theorem Paired.mapP {α β : Type} {F G : α → β → Prop} : ∀ {l₁ : List α} {l₂ : List β}, Paired F l₁ l₂ → (∀ a b, F a b → G a b) → Paired G l₁ l₂
  | _, _, .nil, _ => .nil
  | _, _, .cons r t, f => .cons (f _ _ r) (Paired.mapP t f)
theorem ObjOk.stay (x : ObjOk P w H h a o) (k : ∀ b u, (b = a ∨ H b = some (.own a)) → h.get? b = some u → h'.get? b = some u)
    (ho : ∀ b, H b = some (.own a) → H' b = some (.own a)) (ht : ∀ b xs, H b = some (.tup xs) → H' b = some (.tup xs)) : ObjOk P w H' h' a o := by
  induction o with
  | lst xs => obtain ⟨z, its, n, r, e⟩ := x; exact ⟨z, its, n, r, k _ _ (.inl rfl) e⟩
  | tup xs => obtain ⟨z, its, r, ob, e, c⟩ := x; exact ⟨z, its, r, ob, k _ _ (.inl rfl) e, c⟩
  | dK kvs => obtain ⟨z, y, vs, r, ob, es, ep, e, c⟩ := x; exact ⟨z, y, vs, r, ob, es, ep, k _ _ (.inl rfl) e, c⟩
  | dT kvs =>
    obtain ⟨z, y, xs, r, ob, es, ep, e, c⟩ := x
    exact ⟨z, y, xs, Paired.mapP r fun p q z => ⟨z.1, ht _ _ z.2.1, z.2.2⟩, ob, es, ep, k _ _ (.inl rfl) e, c⟩
  | set S n => obtain ⟨ob, es, ep, t, e, c⟩ := x; exact ⟨ob, es, ep, t, k _ _ (.inl rfl) e, c⟩
  | ins C dx fs =>
    obtain ⟨d, z, ne, e, mA, ⟨od, es, ep, e2, c⟩, r⟩ := x
    exact ⟨ho _ d, z, ne, k _ _ (.inl rfl) e, mA, ⟨od, es, ep, k _ _ (.inr d) e2, c⟩, r⟩
  | own y => obtain ⟨ob, e⟩ := x; exact ⟨ob, k _ _ (.inl rfl) e⟩
  | xd fs => obtain ⟨mA, ⟨od, es, ep, e, c⟩, r⟩ := x; exact ⟨mA, ⟨od, es, ep, k _ _ (.inl rfl) e, c⟩, r⟩
  | rng lo hi => obtain ⟨t, u, v, e⟩ := x; exact ⟨t, u, v, k _ _ (.inl rfl) e⟩
  | frz ob u ih => obtain ⟨e, q⟩ := x; exact ⟨k _ _ (.inl rfl) e, ih q⟩
  | tbl ps =>
    have e : h.get? a = some { cls := .none, data := .fields ps } := x
    show h'.get? a = some { cls := .none, data := .fields ps }
    exact k a _ (.inl rfl) e
  | met f y =>
    have e : h.get? a = some (PySem.W.methodObj (.ref f) (.ref y)) := x
    show h'.get? a = some (PySem.W.methodObj (.ref f) (.ref y))
    exact k a _ (.inl rfl) e
  | ext φ => obtain ⟨p, ⟨o, e⟩, st⟩ := x; exact ⟨st _ _ p fun o q => k _ _ (.inl rfl) q, ⟨o, k _ _ (.inl rfl) e⟩, st⟩
theorem HOk.lt (x : HOk P w H h) (e : H a = some o) : a < h.objs.size := (x a o e).lt
theorem HOk.fresh (x : HOk P w H h) (e : h.objs.size ≤ a) : H a = none := by
  cases q : H a with
  | none => rfl
  | some u => exact absurd (Nat.lt_of_lt_of_le (x.lt q) e) (Nat.lt_irrefl _)
theorem HOk.kept (x : HOk P w H h) (k : ∀ b u, h.get? b = some u → h'.get? b = some u) : HOk P w H h' := fun a o e =>
  (x a o e).stay (fun b u _ q => k b u q) (fun _ q => q) fun _ _ q => q
theorem HOk.laid (x : HOk P w H h) (k : ∀ b u, h.get? b = some u → h'.get? b = some u) (hp : h.objs.size ≤ a) (new : ObjOk P w (upd H a o) h' a o) : HOk P w (upd H a o) h' := fun b u e => by
  have hn := x.fresh hp
  by_cases hb : b = a
  · subst hb; rw [upd_same] at e; cases e; exact new
  · rw [upd_ne hb] at e
    exact (x b u e).stay (fun c v _ q => k c v q) (fun c q => by rw [upd_ne (ne_of_none q hn)]; exact q) fun c xs q => by rw [upd_ne (ne_of_none q hn)]; exact q
end
def Rd (H : Hp) (a : Addr) (u : HO) : Prop := H a = some u ∨ ∃ o, H a = some (.frz o u)
theorem Rd.ok {P : Program} {w : World} {H : Hp} {h : Heap} {a : Addr} {u : HO} (r : Rd H a u) (x : HOk P w H h) : ObjOk P w H h a u := by
  rcases r with r | ⟨o, r⟩
  · exact x a u r
  · obtain ⟨_, q⟩ := x a _ r
    exact q
def Mut : Option HO → Prop
  | some (.lst _) => True
  | some (.dK _) => True
  | some (.dT _) => True
  | some (.set _ _) => True
  | some (.ins _ _ _) => True
  | some (.ext _) => True
  | _ => False
section
variable {P : Program} {w : World} {H : Hp} {h h' : Heap} {x e : Addr} {o' : HO}
theorem HOk.write (ok : HOk P w H h) (mu : Mut (H x)) (he : e = x ∨ H e = some (.own x)) (k : ∀ b u, b ≠ e → h.get? b = some u → h'.get? b = some u) (heo : ∃ u, h'.get? e = some u)
    (new : ObjOk P w (upd H x o') h' x o') : HOk P w (upd H x o') h' := fun b u q => by
  have nown : ∀ c y, H c = some (.own y) → c ≠ x := fun c y r z => by subst z; rw [r] at mu; exact mu
  have ntup : ∀ c xs, H c = some (.tup xs) → c ≠ x := fun c xs r z => by subst z; rw [r] at mu; exact mu
  by_cases hb : b = x
  · subst hb; rw [upd_same] at q; cases q; exact new
  · rw [upd_ne hb] at q
    by_cases hbe : b = e
    · have q' : H b = some (.own x) := by
        rcases he with z | z
        · exact absurd (hbe.trans z) hb
        · rw [hbe]; exact z
      rw [q] at q'; cases q'
      obtain ⟨v, hv⟩ := heo
      exact ⟨v, by rw [hbe]; exact hv⟩
    · refine (ok b u q).stay (fun c v hc r => k c v ?_ r) (fun c r => by rw [upd_ne (nown c b r)]; exact r) fun c xs r => by rw [upd_ne (ntup c xs r)]; exact r
      rcases hc with rfl | hc
      · exact hbe
      · rintro rfl
        rcases he with z | z
        · exact nown c b hc z
        · rw [hc] at z; cases z; exact hb rfl
end
structure Un (fs ex : List Addr) (H H' : Hp) (h h' : Heap) : Prop where
  keep : ∀ b o, h.get? b = some o → H b = none → b ∉ fs → b ∉ ex → h'.get? b = some o
  slot : ∀ b o, h.get? b = some o → H b = none → b ∈ fs → b ∉ ex → ∃ sl, h'.get? b = some { o with slots := sl }
  free : ∀ b o, h.get? b = some o → H b = none → b ∉ ex → H' b = none
  there : ∀ b o, h.get? b = some o → b ∉ ex → ∃ o', h'.get? b = some o'
  tups : ∀ b xs, H b = some (.tup xs) → H' b = some (.tup xs)
  frzs : ∀ b o u, H b = some (.frz o u) → H' b = some (.frz o u)
  tbls : ∀ b ps, H b = some (.tbl ps) → ∃ more, H' b = some (.tbl (ps ++ more))
section
variable {fs fs' ex ex' : List Addr} {H H1 H2 : Hp} {h h1 h2 h' : Heap} {a x e : Addr} {o : HO}
theorem Un.any (u : Un fs ex H H1 h h1) {b : Addr} {ob : Obj} (q : h.get? b = some ob) (n : H b = none) (hx : b ∉ ex) : ∃ sl, h1.get? b = some { ob with slots := sl } := by
  by_cases hb : b ∈ fs
  · exact u.slot b ob q n hb hx
  · exact ⟨ob.slots, u.keep b ob q n hb hx⟩
theorem Un.kept (k : ∀ b u, h.get? b = some u → h'.get? b = some u) : Un fs ex H H h h' :=
  ⟨fun b ob q _ _ _ => k b ob q, fun b ob q _ _ _ => ⟨ob.slots, k b ob q⟩, fun _ _ _ n _ => n, fun b ob q _ => ⟨ob, k b ob q⟩, fun _ _ q => q, fun _ _ _ q => q, fun _ ps q => ⟨#[], by rw [q]; simp⟩⟩
theorem Un.refl : Un fs ex H H h h := Un.kept fun _ _ q => q
theorem Un.laid (k : ∀ b u, h.get? b = some u → h'.get? b = some u) (hp : h.objs.size ≤ a) (hn : H a = none) : Un fs ex H (upd H a o) h h' where
  keep := fun b u q _ _ _ => k b u q
  slot := fun b u q _ _ _ => ⟨u.slots, k b u q⟩
  free := fun b u q n _ => by rw [upd_ne (Nat.ne_of_lt (Nat.lt_of_lt_of_le (Heap.lt_size q) hp))]; exact n
  there := fun b u q _ => ⟨u, k b u q⟩
  tups := fun b xs q => by rw [upd_ne (ne_of_none q hn)]; exact q
  frzs := fun b u xs q => by rw [upd_ne (ne_of_none q hn)]; exact q
  tbls := fun b ps q => ⟨#[], by rw [upd_ne (ne_of_none q hn), q]; simp⟩
theorem Un.write (mu : Mut (H x)) (he : e = x ∨ H e = some (.own x)) (k : ∀ b u, b ≠ e → h.get? b = some u → h'.get? b = some u) (heo : ∃ u, h'.get? e = some u) : Un fs ex H (upd H x o) h h' := by
  have hx : ∀ b, H b = none → b ≠ x := fun b n z => by subst z; rw [n] at mu; exact mu
  have hb : ∀ b, H b = none → b ≠ e := fun b n z => by
    subst z
    rcases he with r | r
    · exact hx b n r
    · rw [n] at r; cases r
  have hm : ∀ b u, H b = some u → ¬ Mut (some u) → b ≠ x := fun b u q nm z => by subst z; rw [q] at mu; exact nm mu
  refine ⟨fun b u q n _ _ => k b u (hb b n) q, fun b u q n _ _ => ⟨u.slots, k b u (hb b n) q⟩, fun b u q n _ => by rw [upd_ne (hx b n)]; exact n, fun b u q _ => ?_,
    fun b xs q => by rw [upd_ne (hm b _ q fun z => z)]; exact q, fun b u xs q => by rw [upd_ne (hm b _ q fun z => z)]; exact q, fun b ps q => ⟨#[], by rw [upd_ne (hm b _ q fun z => z), q]; simp⟩⟩
  by_cases hbe : b = e
  · subst hbe; exact heo
  · exact ⟨u, k b u hbe q⟩
end
def trk (h : Heap) (H : Hp) : List Addr := (List.range h.objs.size).filter fun a => (H a).isSome
def hidT (h : Heap) (H : Hp) : Heap := PySem.W.hideAll h (trk h H)
theorem hidT_size (h : Heap) (H : Hp) : (hidT h H).objs.size = h.objs.size := PySem.W.hideAll_size _ _
theorem hidT_get {h : Heap} {H : Hp} {b : Addr} {o : Obj} (e : h.get? b = some o) (n : H b = none) : (hidT h H).get? b = some o :=
  PySem.W.hideAll_get _ e fun hm => by
    have q : (H b).isSome = true := (List.mem_filter.mp hm).2
    rw [n] at q; simp at q
theorem of_hidT {h : Heap} {H : Hp} {b : Addr} {o : Obj} (e : (hidT h H).get? b = some o) : h.get? b = some o ∧ H b = none := by
  have e' : h.get? b = some o := PySem.W.of_hideAll (trk h H) e
  refine ⟨e', ?_⟩
  cases q : H b with
  | none => rfl
  | some x =>
    have hm : b ∈ trk h H := List.mem_filter.mpr ⟨List.mem_range.mpr (Heap.lt_size e'), by simp [q]⟩
    have z : (hidT h H).get? b = none := PySem.W.hideAll_none (trk h H) hm
    rw [z] at e; cases e
end L2
namespace L2
open PySem PySem.Spec PyProof.Rows
structure Mod (K : PySem.W.Frag) (mg : Str → Option Value) (base : Heap) : Prop where
  kin : K.In base
  glob : base.Ns mainGlobals mg
  blt : ∃ mb, base.Ns builtinsNs mb ∧ ∀ x : Str, x ≠ "__name__" → mb x = bootBuiltins x
  nolimit : base.NoLimit
structure Cx where
  prog : Program
  w : World
  K : PySem.W.Frag
  mg : Str → Option Value
  base : Heap
  A : Around
  N : List Str
  s₀ : Shared
  H₀ : Hp
  env : Env
  outer : List Env
  stack : List Env
  ex : List Addr
  fn : Str → Bool
  calm : Bool
  pn : List (Addr × Obj)
  xe : Value → Shared → Prop
def frs (l : List Env) : List Addr := l.filterMap (·.frame)
abbrev Cx.fs (X : Cx) : List Addr := frs X.outer
def Vis (sc : Scope) (x : Str) : Prop := sc.names.lookup x = some .local ∨ sc.names.lookup x = some .cell ∨ sc.names.lookup x = some .free
def Loc (sc : Scope) (x : Str) : Prop := sc.names.lookup x = some .local ∨ sc.names.lookup x = some .cell
def Look (env : Env) (h : Heap) (m : Str → Option Value) (x : Str) (u : Value) : Prop :=
  (env.kindOf x = some .local ∧ m x = some u) ∨ ((env.kindOf x = some .cell ∨ env.kindOf x = some .free) ∧ ∃ c, env.cells.lookup x = some c ∧ h.IsCell c (some u))
structure Cx.Ok (X : Cx) : Prop where
  mod : Mod X.K X.mg X.base
  kind : X.env.scope.kind = .function
  glob : X.env.globals = mainGlobals
  blt : X.env.builtins = builtinsNs
  above : X.s₀.heap.objs.size ≤ X.env.locals
  inj : ∀ x y c, X.env.cells.lookup x = some c → X.env.cells.lookup y = some c → x = y
  has : ∀ x, (X.env.kindOf x = some .cell ∨ X.env.kindOf x = some .free) → ∃ c, X.env.cells.lookup x = some c
  cab : ∀ x c, X.fn x = true → X.env.cells.lookup x = some c → X.s₀.heap.objs.size ≤ c
  hd : X.calm = true → X.A.handled = none
  frames : X.A.frames = some X.stack
  stk : X.stack = X.outer ∨ (X.stack = X.env :: X.outer ∧ X.env.frame = some X.env.locals)
  exf : ∀ b ∈ X.ex, b ≠ X.env.locals ∧ ∀ x c, X.env.cells.lookup x = some c → c ≠ b
  bs : ∀ b o, X.base.get? b = some o → X.s₀.heap.get? b = some o ∧ X.H₀ b = none
  bsz : X.base.objs.size ≤ X.s₀.heap.objs.size
  noex : ∀ b o, X.base.get? b = some o → b ∉ X.ex
  exfs : ∀ b ∈ X.ex, b ∉ X.fs
  funs : X.s₀.heap.FunFrames X.base X.outer
  frf : ∀ b ∈ X.fs, X.H₀ b = none
structure Inv (X : Cx) (pins : List (Addr × Obj)) (σ : List (Option V)) (H : Hp) (s : Shared) : Prop where
  ok : X.Ok
  os : s.os = X.s₀.os
  bare : AllBare s.gens
  base : Un X.fs X.ex X.H₀ H X.s₀.heap s.heap
  loc : ∃ m, s.heap.Ns X.env.locals m ∧ ∀ (i : Nat) (x : Str) (v : V), X.N[i]? = some x → σ[i]? = some (some v) → Vis X.env.scope x → ∃ u, RelV v u ∧ Look X.env s.heap m x u
  cell : ∀ x c, X.env.cells.lookup x = some c → ∃ v, s.heap.IsCell c v
  free : H X.env.locals = none
  freeC : ∀ x c, X.env.cells.lookup x = some c → H c = none
  pin : ∀ p ∈ X.pn ++ pins, s.heap.get? p.1 = some p.2 ∧ H p.1 = none ∧ p.1 ≠ X.env.locals ∧ p.1 ∉ X.fs ∧ ∀ v, p.2.data ≠ .cell v
  hok : HOk X.prog X.w H s.heap
  len : σ.length = X.N.length
section
variable {X : Cx} {pins : List (Addr × Obj)} {σ : List (Option V)} {H H' : Hp} {s : Shared} {h' : Heap}
theorem Cx.Ok.nofr (ok : X.Ok) {b : Addr} {o : Obj} (e : X.base.get? b = some o) : b ∉ X.fs := fun hb => by
  have := (ok.funs.mem hb).1
  rw [e] at this; cases this
theorem Inv.bs (I : Inv X pins σ H s) : ∀ b o, X.base.get? b = some o → s.heap.get? b = some o ∧ H b = none := fun b o e =>
  ⟨I.base.keep b o (I.ok.bs b o e).1 (I.ok.bs b o e).2 (I.ok.nofr e) (I.ok.noex b o e), I.base.free b o (I.ok.bs b o e).1 (I.ok.bs b o e).2 (I.ok.noex b o e)⟩
theorem Inv.bk (I : Inv X pins σ H s) : ∀ b o, X.base.get? b = some o → s.heap.get? b = some o := fun b o e => (I.bs b o e).1
theorem Inv.mod (I : Inv X pins σ H s) : Mod X.K X.mg X.base := I.ok.mod
theorem Inv.kIn (I : Inv X pins σ H s) : X.K.In s.heap := I.ok.mod.kin.keeps I.bk
theorem Inv.fr (I : Inv X pins σ H s) : ∃ m, Fr X.base X.env.locals s.heap m :=
  let ⟨m, hn, _⟩ := I.loc
  ⟨m, hn, I.bk, Nat.le_trans I.ok.bsz I.ok.above⟩
theorem Inv.lt (I : Inv X pins σ H s) : X.env.locals < s.heap.objs.size := let ⟨_, hn, _⟩ := I.loc; hn.lt
theorem Inv.sz (I : Inv X pins σ H s) : X.s₀.heap.objs.size ≤ s.heap.objs.size := Nat.le_trans I.ok.above (Nat.le_of_lt I.lt)
theorem Inv.nofs (I : Inv X pins σ H s) {a : Addr} (h : s.heap.objs.size ≤ a) : a ∉ X.fs := fun hb => by
  obtain ⟨_, o, ho, _⟩ := I.ok.funs.mem hb
  exact absurd (Nat.lt_of_lt_of_le (Heap.lt_size ho) (Nat.le_trans I.sz h)) (Nat.lt_irrefl _)
theorem Inv.cne (I : Inv X pins σ H s) : ∀ x c, X.env.cells.lookup x = some c → c ≠ X.env.locals := fun x c e z => by
  obtain ⟨v, o, ho, hd⟩ := I.cell x c e
  obtain ⟨m, ⟨o', es, ep, ho', hd', _⟩, _⟩ := I.loc
  rw [z, ho'] at ho; cases ho; rw [hd'] at hd; cases hd
theorem Inv.funs (I : Inv X pins σ H s) : s.heap.FunFrames X.base X.outer := by
  have all : ∀ (l : List Env), (∀ b ∈ frs l, b ∈ X.fs) → X.s₀.heap.FunFrames X.base l → s.heap.FunFrames X.base l := by
    intro l
    induction l with
    | nil => intro _ _; trivial
    | cons env r ih =>
      intro hs hl
      obtain ⟨hk, ⟨L, o, hf, hn, ho, hd⟩, hr⟩ := hl
      have hL : L ∈ X.fs := hs L (by unfold frs; rw [List.filterMap_cons, hf]; exact List.mem_cons_self)
      obtain ⟨sl, e⟩ := I.base.slot L o ho (I.ok.frf L hL) hL fun z => I.ok.exfs L z hL
      exact ⟨hk, ⟨L, _, hf, hn, e, hd⟩, ih (fun b hb => hs b (by unfold frs; rw [List.filterMap_cons, hf]; exact List.mem_cons_of_mem _ hb)) hr⟩
  exact all X.outer (fun _ hb => hb) I.ok.funs
theorem Inv.stack (I : Inv X pins σ H s) : s.heap.FunFrames X.base X.stack := by
  rcases I.ok.stk with e | ⟨e, hf⟩
  · rw [e]; exact I.funs
  · rw [e]
    obtain ⟨m, hn, _⟩ := I.loc
    refine .cons (by rw [I.ok.kind]; decide) hf hn ?_ I.funs
    exact Heap.get?_none_of_le (Nat.le_trans I.ok.bsz I.ok.above)
theorem Inv.stkSub (I : Inv X pins σ H s) : ∀ b ∈ frs X.stack, b ∈ X.env.locals :: X.fs := fun b hb => by
  rcases I.ok.stk with e | ⟨e, hf⟩
  · rw [e] at hb; exact List.mem_cons_of_mem _ hb
  · rw [e] at hb
    unfold frs at hb
    rw [List.filterMap_cons, hf] at hb
    exact hb
theorem Inv.stkFree (I : Inv X pins σ H s) : ∀ b ∈ frs X.stack, H b = none := fun b hb => by
  rcases List.mem_cons.mp (I.stkSub b hb) with e | hb
  · rw [e]; exact I.free
  · obtain ⟨_, o, ho, _⟩ := I.ok.funs.mem hb
    exact I.base.free b o ho (I.ok.frf b hb) fun z => I.ok.exfs b z hb
theorem Inv.step {g' : Array GenState} {t' : Nat} {d' : Drawn} {ch : List Addr} (I : Inv X pins σ H s)
    (hch : ∀ b ∈ ch, (b ∈ X.ex ∨ X.s₀.heap.objs.size ≤ b) ∧ b ≠ X.env.locals ∧ (∀ x c, X.env.cells.lookup x = some c → c ≠ b) ∧ ∀ p ∈ X.pn ++ pins, p.1 ≠ b)
    (keep : ∀ b o, b ≠ X.env.locals → b ∉ X.fs → b ∉ ch → s.heap.get? b = some o → H b = none → h'.get? b = some o)
    (slot : ∀ b o, b ≠ X.env.locals → b ∈ X.fs → b ∉ ch → s.heap.get? b = some o → H b = none → ∃ sl, h'.get? b = some { o with slots := sl }) (free : ∀ b o, b ∉ ch → s.heap.get? b = some o → H b = none → H' b = none)
    (there : ∀ b o, b ∉ ch → s.heap.get? b = some o → ∃ o', h'.get? b = some o')
    (tups : ∀ b xs, H b = some (.tup xs) → H' b = some (.tup xs)) (frzs : ∀ b o u, H b = some (.frz o u) → H' b = some (.frz o u)) (tbls : ∀ b ps, H b = some (.tbl ps) → ∃ more, H' b = some (.tbl (ps ++ more)))
    (ns : ∀ m, s.heap.Ns X.env.locals m → h'.Ns X.env.locals m) (hok : HOk X.prog X.w H' h') (hg : AllBare g') :
    Inv X pins σ H' { s with heap := h', gens := g', drawn := d', toks := t' } := by
  have neL : ∀ b o, X.s₀.heap.get? b = some o → b ≠ X.env.locals := fun b o e => Nat.ne_of_lt (Nat.lt_of_lt_of_le (Heap.lt_size e) I.ok.above)
  have neC : ∀ b o, X.s₀.heap.get? b = some o → b ∉ X.ex → b ∉ ch := fun b o e hx hb => by
    rcases (hch b hb).1 with z | z
    · exact hx z
    · exact absurd (Nat.lt_of_lt_of_le (Heap.lt_size e) z) (Nat.lt_irrefl _)
  have cellK : ∀ x c, X.env.cells.lookup x = some c → ∀ v, s.heap.IsCell c v → h'.IsCell c v := fun x c e v ⟨o, ho, hd⟩ => by
    have nch : c ∉ ch := fun z => (hch c z).2.2.1 x c e rfl
    by_cases hc : c ∈ X.fs
    · obtain ⟨sl, q⟩ := slot c o (I.cne x c e) hc nch ho (I.freeC x c e)
      exact ⟨_, q, hd⟩
    · exact ⟨o, keep c o (I.cne x c e) hc nch ho (I.freeC x c e), hd⟩
  refine ⟨I.ok, I.os, hg, ⟨fun b o e n hb hx => ?_, fun b o e n hb hx => ?_, fun b o e n hx => ?_, fun b o e hx => ?_, fun b xs e => tups b xs (I.base.tups b xs e), fun b o xs e => frzs b o xs (I.base.frzs b o xs e), fun b ps e => ?_⟩, ?_, fun x c e => ?_, ?_, fun x c e => ?_, fun p hp => ?_, hok, I.len⟩
  · exact keep b o (neL b o e) hb (neC b o e hx) (I.base.keep b o e n hb hx) (I.base.free b o e n hx)
  · obtain ⟨sl, e1⟩ := I.base.slot b o e n hb hx
    obtain ⟨sl', e2⟩ := slot b _ (neL b o e) hb (neC b o e hx) e1 (I.base.free b o e n hx)
    exact ⟨sl', e2⟩
  · obtain ⟨o', e1⟩ := I.base.there b o e hx
    exact free b o' (neC b o e hx) e1 (I.base.free b o e n hx)
  · obtain ⟨o', e1⟩ := I.base.there b o e hx
    exact there b o' (neC b o e hx) e1
  · obtain ⟨m1, e1⟩ := I.base.tbls b ps e
    obtain ⟨m2, e2⟩ := tbls b _ e1
    exact ⟨m1 ++ m2, by rw [e2, Array.append_assoc]⟩
  · obtain ⟨m, hn, hl⟩ := I.loc
    refine ⟨m, ns m hn, fun i x v e1 e2 e3 => ?_⟩
    obtain ⟨u, r, l⟩ := hl i x v e1 e2 e3
    refine ⟨u, r, ?_⟩
    rcases l with l | ⟨k, c, e, z⟩
    · exact .inl l
    · exact .inr ⟨k, c, e, cellK x c e _ z⟩
  · obtain ⟨v, z⟩ := I.cell x c e
    exact ⟨v, cellK x c e v z⟩
  · obtain ⟨m, ⟨o, _, _, ho, _⟩, _⟩ := I.loc
    exact free _ o (fun z => (hch _ z).2.1 rfl) ho I.free
  · obtain ⟨v, o, ho, hd⟩ := I.cell x c e
    exact free c o (fun z => (hch c z).2.2.1 x c e rfl) ho (I.freeC x c e)
  · obtain ⟨e, n, ne, nf, d⟩ := I.pin p hp
    have nch : p.1 ∉ ch := fun z => (hch p.1 z).2.2.2 p hp rfl
    exact ⟨keep p.1 p.2 ne nf nch e n, free p.1 p.2 nch e n, ne, nf, d⟩
theorem Inv.un {t' : Nat} (I : Inv X pins σ H s) (u : Un X.fs [] H H' s.heap h') (hok : HOk X.prog X.w H' h') : Inv X pins σ H' { s with heap := h', toks := t' } := by
  obtain ⟨m, ⟨o, es, ep, ho, r⟩, _⟩ := id I.loc
  obtain ⟨sl, hL⟩ := u.any ho I.free (by simp)
  exact I.step (g' := s.gens) (d' := s.drawn) (ch := []) (fun _ z => nomatch z) (fun b o _ hb _ e n => u.keep b o e n hb (by simp)) (fun b o _ hb _ e n => u.slot b o e n hb (by simp)) (fun b o _ e n => u.free b o e n (by simp)) (fun b o _ e => u.there b o e (by simp)) u.tups u.frzs u.tbls (fun m' hm => by
    obtain ⟨o', es', ep', ho', r'⟩ := hm
    rw [ho] at ho'; cases ho'
    exact ⟨_, es', ep', hL, r'⟩) hok I.bare
theorem Inv.call {g' : Array GenState} {t' : Nat} {d' : Drawn} {ch : List Addr} (I : Inv X pins σ H s) (u : Un (frs X.stack) ch H H' s.heap h') (hok : HOk X.prog X.w H' h') (hg : AllBare g')
    (hch : ∀ b ∈ ch, (b ∈ X.ex ∨ X.s₀.heap.objs.size ≤ b) ∧ b ≠ X.env.locals ∧ (∀ x c, X.env.cells.lookup x = some c → c ≠ b) ∧ ∀ p ∈ X.pn ++ pins, p.1 ≠ b) :
    Inv X pins σ H' { s with heap := h', gens := g', drawn := d', toks := t' } := by
  obtain ⟨m, ⟨o, es, ep, ho, r⟩, _⟩ := id I.loc
  obtain ⟨sl, hL⟩ := u.any ho I.free fun z => (hch _ z).2.1 rfl
  exact I.step (ch := ch) hch (fun b o hL hb hc e n => u.keep b o e n (fun z => (List.mem_cons.mp (I.stkSub b z)).elim hL hb) hc) (fun b o _ _ hc e n => u.any e n hc) (fun b o hc e n => u.free b o e n hc) (fun b o hc e => u.there b o e hc) u.tups u.frzs u.tbls (fun m' hm => by
    obtain ⟨o', es', ep', ho', r'⟩ := hm
    rw [ho] at ho'; cases ho'
    exact ⟨_, es', ep', hL, r'⟩) hok hg
theorem Inv.turned {t' : Nat} {it : Addr} (I : Inv X pins σ H s) (k : ∀ b o, b ≠ it → s.heap.get? b = some o → h'.get? b = some o) (hn : H it = none) (hL : it ≠ X.env.locals)
    (h1 : it ∈ X.ex ∨ X.s₀.heap.objs.size ≤ it) (h2 : ∀ x c, X.env.cells.lookup x = some c → c ≠ it) (h3 : ∀ p ∈ X.pn ++ pins, p.1 ≠ it) : Inv X pins σ H { s with heap := h', toks := t' } := by
  have nit : ∀ b u, H b = some u → b ≠ it := fun b u e z => by rw [z, hn] at e; cases e
  refine I.step (g' := s.gens) (d' := s.drawn) (ch := [it]) (fun b hb => ?_) (fun b o _ _ hc e _ => k b o (fun z => hc (by simp [z])) e) (fun b o _ _ hc e _ => ⟨o.slots, k b o (fun z => hc (by simp [z])) e⟩) (fun _ _ _ _ n => n)
    (fun b o hc e => ⟨o, k b o (fun z => hc (by simp [z])) e⟩) (fun _ _ e => e) (fun _ _ _ e => e) (fun b ps e => ⟨#[], by rw [e]; simp⟩) (fun m hm => ?_) (fun b u e => ?_) I.bare
  · have e : b = it := by simpa using hb
    subst e
    exact ⟨h1, hL, h2, h3⟩
  · obtain ⟨o, es, ep, ho, r⟩ := hm
    exact ⟨o, es, ep, k _ o (Ne.symm hL) ho, r⟩
  · refine (I.hok b u e).stay (fun c v hc q => k c v ?_ q) (fun _ q => q) fun _ _ q => q
    rcases hc with z | z
    · rw [z]; exact nit b u e
    · exact nit c _ z
theorem Inv.tok (I : Inv X pins σ H s) (t : Nat) : Inv X pins σ H { s with toks := t } := I.un (h' := s.heap) (t' := t) Un.refl I.hok
theorem Inv.kept {t' : Nat} (I : Inv X pins σ H s) (k : ∀ b u, s.heap.get? b = some u → h'.get? b = some u) : Inv X pins σ H { s with heap := h', toks := t' } := I.un (Un.kept k) (I.hok.kept k)
theorem Inv.laid {a : Addr} {o : HO} {t' : Nat} (I : Inv X pins σ H s) (k : ∀ b u, s.heap.get? b = some u → h'.get? b = some u) (hp : s.heap.objs.size ≤ a) (new : ObjOk X.prog X.w (upd H a o) h' a o) :
    Inv X pins σ (upd H a o) { s with heap := h', toks := t' } := I.un (Un.laid k hp (I.hok.fresh hp)) (I.hok.laid k hp new)
theorem Inv.write {x e : Addr} {o : HO} {t' : Nat} (I : Inv X pins σ H s) (mu : Mut (H x)) (he : e = x ∨ H e = some (.own x)) (k : ∀ b u, b ≠ e → s.heap.get? b = some u → h'.get? b = some u) (heo : ∃ u, h'.get? e = some u)
    (new : ObjOk X.prog X.w (upd H x o) h' x o) : Inv X pins σ (upd H x o) { s with heap := h', toks := t' } := I.un (Un.write mu he k heo) (I.hok.write mu he k heo new)
theorem Inv.weak {σ' : List (Option V)} (I : Inv X pins σ H s) (hl : σ'.length = σ.length) (w : ∀ (i : Nat) v, σ'[i]? = some (some v) → σ[i]? = some (some v)) : Inv X pins σ' H s :=
  ⟨I.ok, I.os, I.bare, I.base, let ⟨m, hn, hl'⟩ := I.loc; ⟨m, hn, fun i x v e1 e2 e3 => hl' i x v e1 (w i v e2) e3⟩, I.cell, I.free, I.freeC, I.pin, I.hok, hl.trans I.len⟩
theorem Inv.pins_of {pins' : List (Addr × Obj)} (I : Inv X pins σ H s) (h : ∀ p ∈ pins', s.heap.get? p.1 = some p.2 ∧ H p.1 = none ∧ p.1 ≠ X.env.locals ∧ p.1 ∉ X.fs ∧ ∀ v, p.2.data ≠ .cell v) : Inv X pins' σ H s :=
  ⟨I.ok, I.os, I.bare, I.base, I.loc, I.cell, I.free, I.freeC, fun p hp => (List.mem_append.mp hp).elim (fun z => I.pin p (List.mem_append_left _ z)) (h p), I.hok, I.len⟩
theorem nodup_ix {N : List Str} (hN : N.Nodup) {i j : Nat} {x : Str} (a : N[i]? = some x) (b : N[j]? = some x) : i = j := by
  obtain ⟨h1, e1⟩ := List.getElem?_eq_some_iff.mp a
  obtain ⟨h2, e2⟩ := List.getElem?_eq_some_iff.mp b
  exact (List.getElem_inj hN).mp (e1.trans e2.symm)
theorem store_ok2 {M : Model} {A : Around} {E : Value → Shared → Prop} {i : Nat} {x : Str} {v : V} {u : Value} {Q : Unit → Shared → Prop} (I : Inv X pins σ H s) (hN : X.N.Nodup) (hi : X.N[i]? = some x) (hx : Loc X.env.scope x) (r : RelV v u)
    (h : ∀ s', Inv X pins (σ.set i (some v)) H s' → (∃ a, Heap.SameBut a s.heap s'.heap ∧ (a = X.env.locals ∨ X.env.cells.lookup x = some a)) → Q () s') (hf : X.fn x = true ∨ X.env.scope.names.lookup x = some .local := by first | exact .inl rfl | exact .inr rfl | assumption) : wpAny M A (storeName X.env x u) Q E s := by
  obtain ⟨m, hn, hl⟩ := id I.loc
  have hcls : (X.env.scope.kind == .class || (X.env.scope.kind == .module && X.env.locals != X.env.globals)) = false := by rw [I.ok.kind]; rfl
  have hiσ : i < σ.length := by rw [I.len]; exact (List.getElem?_eq_some_iff.mp hi).1
  have cne := I.cne
  have tracked : ∀ {a : Addr} {h' : Heap}, (∃ o, s.heap.get? a = some o ∧ H a = none) → Heap.SameBut a s.heap h' → HOk X.prog X.w H h' := fun {a h'} ha hs b ob e => by
    obtain ⟨_, _, hfree⟩ := ha
    refine (I.hok b ob e).stay (fun c w' hc q => (hs.2 c ?_).trans q) (fun _ q => q) fun _ _ q => q
    rintro rfl
    rcases hc with rfl | hc
    · rw [hfree] at e; cases e
    · rw [hfree] at hc; cases hc
  rcases hx with hk | hk
  · refine wpAny_storeName_local hk hn (fun h' hn' hs => ?_) hcls
    obtain ⟨oL, _, _, hoL, _⟩ := id hn
    refine h _ ⟨I.ok, I.os, I.bare, ⟨fun b o e n hb hx => ?_, fun b o e n hb hx => ?_, I.base.free, fun b o e hx => ?_, I.base.tups, I.base.frzs, I.base.tbls⟩, ⟨_, hn', fun j y v' e1 e2 e3 => ?_⟩, fun y c e => ?_, I.free, I.freeC, fun p hp => ?_, tracked ⟨oL, hoL, I.free⟩ hs, by simpa using I.len⟩ ⟨_, hs, .inl rfl⟩
    · exact (hs.2 b (Nat.ne_of_lt (Nat.lt_of_lt_of_le (Heap.lt_size e) I.ok.above))).trans (I.base.keep b o e n hb hx)
    · obtain ⟨sl, e1⟩ := I.base.slot b o e n hb hx
      exact ⟨sl, (hs.2 b (Nat.ne_of_lt (Nat.lt_of_lt_of_le (Heap.lt_size e) I.ok.above))).trans e1⟩
    · obtain ⟨o', e1⟩ := I.base.there b o e hx
      exact ⟨o', (hs.2 b (Nat.ne_of_lt (Nat.lt_of_lt_of_le (Heap.lt_size e) I.ok.above))).trans e1⟩
    · by_cases hj : j = i
      · subst hj
        rw [hi] at e1; cases e1
        rw [List.getElem?_set_self hiσ] at e2
        cases e2
        exact ⟨u, r, .inl ⟨hk, by simp⟩⟩
      · rw [List.getElem?_set_ne (Ne.symm hj)] at e2
        obtain ⟨u', r', q⟩ := hl j y v' e1 e2 e3
        refine ⟨u', r', ?_⟩
        rcases q with ⟨k, e⟩ | ⟨k, c, e, z⟩
        · refine .inl ⟨k, ?_⟩
          have : y ≠ x := fun e => hj (nodup_ix hN e1 (e ▸ hi))
          simp [this, e]
        · exact .inr ⟨k, c, e, z.sameBut hs (cne y c e)⟩
    · obtain ⟨w', z⟩ := I.cell y c e
      exact ⟨w', z.sameBut hs (cne y c e)⟩
    · obtain ⟨e, n, ne, nf, d⟩ := I.pin p hp
      exact ⟨(hs.2 p.1 ne).trans e, n, ne, nf, d⟩
  · have hfn : X.fn x = true := by
      rcases hf with z | z
      · exact z
      · rw [z] at hk; cases hk
    obtain ⟨c, hc⟩ := I.ok.has x (.inl hk)
    obtain ⟨w', z⟩ := I.cell x c hc
    refine wpAny_storeName_cell I.ok.kind hk hc z (fun h' hc' hs => ?_)
    obtain ⟨oc, hoc, hocd⟩ := id z
    refine h { s with heap := h' } ⟨I.ok, I.os, I.bare, ⟨fun b o e n hb hx => ?_, fun b o e n hb hx => ?_, I.base.free, fun b o e hx => ?_, I.base.tups, I.base.frzs, I.base.tbls⟩, ⟨m, hn.sameBut hs (Ne.symm (cne x c hc)), fun j y v' e1 e2 e3 => ?_⟩, fun y c' e => ?_, I.free, I.freeC, fun p hp => ?_, tracked ⟨oc, hoc, I.freeC x c hc⟩ hs, by simpa using I.len⟩ ⟨c, hs, .inr hc⟩
    · exact (hs.2 b (Nat.ne_of_lt (Nat.lt_of_lt_of_le (Heap.lt_size e) (I.ok.cab x c hfn hc)))).trans (I.base.keep b o e n hb hx)
    · obtain ⟨sl, e1⟩ := I.base.slot b o e n hb hx
      exact ⟨sl, (hs.2 b (Nat.ne_of_lt (Nat.lt_of_lt_of_le (Heap.lt_size e) (I.ok.cab x c hfn hc)))).trans e1⟩
    · obtain ⟨o', e1⟩ := I.base.there b o e hx
      exact ⟨o', (hs.2 b (Nat.ne_of_lt (Nat.lt_of_lt_of_le (Heap.lt_size e) (I.ok.cab x c hfn hc)))).trans e1⟩
    · by_cases hj : j = i
      · subst hj
        rw [hi] at e1; cases e1
        rw [List.getElem?_set_self hiσ] at e2
        cases e2
        exact ⟨u, r, .inr ⟨.inl hk, c, hc, hc'⟩⟩
      · rw [List.getElem?_set_ne (Ne.symm hj)] at e2
        obtain ⟨u', r', q⟩ := hl j y v' e1 e2 e3
        refine ⟨u', r', ?_⟩
        rcases q with q | ⟨k, c', e, z'⟩
        · exact .inl q
        · refine .inr ⟨k, c', e, z'.sameBut hs ?_⟩
          rintro rfl
          exact hj (nodup_ix hN e1 (I.ok.inj _ _ _ e hc ▸ hi))
    · by_cases hcc : c' = c
      · subst hcc; exact ⟨_, hc'⟩
      · obtain ⟨w2, z2⟩ := I.cell y c' e
        exact ⟨w2, z2.sameBut hs hcc⟩
    · obtain ⟨e, n, ne, nf, d⟩ := I.pin p hp
      refine ⟨(hs.2 p.1 ?_).trans e, n, ne, nf, d⟩
      intro q
      rw [q, hoc] at e
      have q' : oc = p.2 := Option.some.inj e
      exact d w' (by rw [← q']; exact hocd)
theorem store_ok {M : Model} {A : Around} {E : Value → Shared → Prop} {i : Nat} {x : Str} {v : V} {u : Value} {Q : Unit → Shared → Prop} (I : Inv X pins σ H s) (hN : X.N.Nodup) (hi : X.N[i]? = some x) (hx : Loc X.env.scope x) (r : RelV v u)
    (h : ∀ s', Inv X pins (σ.set i (some v)) H s' → Q () s') (hf : X.fn x = true ∨ X.env.scope.names.lookup x = some .local := by first | exact .inl rfl | exact .inr rfl | assumption) : wpAny M A (storeName X.env x u) Q E s :=
  store_ok2 I hN hi hx r (fun s' I' _ => h s' I') hf
theorem Inv.call' {s' : Shared} {ch : List Addr} (I : Inv X pins σ H s) (ho : s'.os = s.os) (u : Un (frs X.stack) ch H H' s.heap s'.heap) (hok : HOk X.prog X.w H' s'.heap) (hg : AllBare s'.gens)
    (hch : ∀ b ∈ ch, (b ∈ X.ex ∨ X.s₀.heap.objs.size ≤ b) ∧ b ≠ X.env.locals ∧ (∀ x c, X.env.cells.lookup x = some c → c ≠ b) ∧ ∀ p ∈ X.pn ++ pins, p.1 ≠ b) : Inv X pins σ H' s' := by
  obtain ⟨h', g', d', t', o'⟩ := s'
  have e : o' = s.os := ho
  subst e
  exact I.call (g' := g') (t' := t') (d' := d') u hok hg hch
end
abbrev XK := Value → Option Addr → Hp → Prop
abbrev St := List (Option V)
abbrev VK := V → Hp → Prop
abbrev TE := St → Hp → VK → Prop
abbrev TT := St → Hp → (Bool → Hp → Prop) → Prop
abbrev TA := St → Hp → (List V → Hp → Prop) → Prop
structure Ends where
  nx : St → Hp → Prop
  rt : VK
  bk : St → Hp → Prop := fun _ _ => False
  ct : St → Hp → Prop := fun _ _ => False
abbrev TS := Ends → St → Hp → Prop
def EP (X : Cx) (pins : List (Addr × Obj)) (σ : St) (Q : VK) (u : Value) (s' : Shared) : Prop := ∃ v H', Inv X pins σ H' s' ∧ RelV v u ∧ Q v H'
def TP (X : Cx) (pins : List (Addr × Obj)) (σ : St) (Q : Bool → Hp → Prop) (b : Bool) (s' : Shared) : Prop := ∃ H', Inv X pins σ H' s' ∧ Q b H'
def AP (X : Cx) (pins : List (Addr × Obj)) (σ : St) (Q : List V → Hp → Prop) (us : List Value) (s' : Shared) : Prop := ∃ vs H', Inv X pins σ H' s' ∧ Vals vs us ∧ Q vs H'
def SP (X : Cx) (pins : List (Addr × Obj)) (D : Ends) (f : Flow) (s' : Shared) : Prop :=
  match f with
  | .next => ∃ σ' H', Inv X pins σ' H' s' ∧ D.nx σ' H'
  | .brk => ∃ σ' H', Inv X pins σ' H' s' ∧ D.bk σ' H'
  | .cont => ∃ σ' H', Inv X pins σ' H' s' ∧ D.ct σ' H'
  | .ret u => ∃ v σ' H', Inv X pins σ' H' s' ∧ RelV v u ∧ D.rt v H'
def PE (X : Cx) (e : Expr) (t : TE) : Prop :=
  ∀ (pins : List (Addr × Obj)) (s : Shared) (σ : St) (H : Hp) (Q : VK), Inv X pins σ H s → t σ H Q → wpAny (model X.prog X.w) X.A (eval e X.env) (EP X pins σ Q) X.xe s
def PT (X : Cx) (e : Expr) (t : TT) : Prop :=
  ∀ (pins : List (Addr × Obj)) (s : Shared) (σ : St) (H : Hp) (Q : Bool → Hp → Prop), Inv X pins σ H s → t σ H Q → wpAny (model X.prog X.w) X.A (isTrue e X.env (eval e X.env)) (TP X pins σ Q) X.xe s
def PW (X : Cx) (e : Expr) (t : TT) : Prop :=
  ∀ (whole : Sem Value) (pins : List (Addr × Obj)) (s : Shared) (σ : St) (H : Hp) (Q : Bool → Hp → Prop), Inv X pins σ H s → t σ H Q → wpAny (model X.prog X.w) X.A (isTrue e X.env whole) (TP X pins σ Q) X.xe s
theorem PW.pt {X : Cx} {e : Expr} {t : TT} (h : PW X e t) : PT X e t := h _
def PA (X : Cx) (es : List Expr) (t : TA) : Prop :=
  ∀ (pos : Pos) (pins : List (Addr × Obj)) (s : Shared) (σ : St) (H : Hp) (Q : List V → Hp → Prop), Inv X pins σ H s → t σ H Q → wpAny (model X.prog X.w) X.A (spliced (backTo pos (starEach es X.env))) (AP X pins σ Q) X.xe s
def PS (X : Cx) (st : Stmt) (t : TS) : Prop :=
  ∀ (pins : List (Addr × Obj)) (s : Shared) (σ : St) (H : Hp) (D : Ends), Inv X pins σ H s → t D σ H → wpAny (model X.prog X.w) X.A (exec st X.env) (SP X pins D) X.xe s
def PSs (X : Cx) (st : List Stmt) (t : TS) : Prop :=
  ∀ (pins : List (Addr × Obj)) (s : Shared) (σ : St) (H : Hp) (D : Ends), Inv X pins σ H s → t D σ H → wpAny (model X.prog X.w) X.A (execs st X.env) (SP X pins D) X.xe s
theorem thn {α : Type} {t : Sem α} {Q Q' : α → Shared → Prop} {M : Model} {A : Around} {E : Value → Shared → Prop} {s : Shared} (h : wpAny M A t Q E s) (hQ : ∀ a s, Q a s → Q' a s) : wpAny M A t Q' E s := wpAny_mono h hQ fun _ _ x => x
end L2
namespace L2
open PySem PySem.Spec PyProof.Rows
section
variable {X : Cx}
theorem bin {a b : Expr} {ta tb : TE} (ha : PE X a ta) (hb : PE X b tb) {pins : List (Addr × Obj)} {s : Shared} {σ : St} {H : Hp} {R : V → V → Hp → Prop} (I : Inv X pins σ H s) (h : ta σ H fun x H1 => tb σ H1 fun y H2 => R x y H2)
    {α : Type} {Q : α → Shared → Prop} {f : Value → Value → Sem α}
    (hf : ∀ v u s2 x y H2, Inv X pins σ H2 s2 → RelV x v → RelV y u → R x y H2 → wpAny (model X.prog X.w) X.A (f v u) Q X.xe s2) :
    wpAny (model X.prog X.w) X.A (eval a X.env) (fun v s₁ => wpAny (model X.prog X.w) X.A (eval b X.env) (fun u s₂ => wpAny (model X.prog X.w) X.A (f v u) Q X.xe s₂) X.xe s₁) X.xe s := by
  refine thn (ha pins s σ H _ I h) fun v s1 ⟨x, H1, I1, r1, q1⟩ => ?_
  refine thn (hb pins s1 σ H1 _ I1 q1) fun u s2 ⟨y, H2, I2, r2, q2⟩ => ?_
  exact hf v u s2 x y H2 I2 r1 r2 q2
def tVar (i : Nat) : TE := fun σ H Q => ∃ v, σ[i]? = some (some v) ∧ Q v H
def tC (v : V) : TE := fun _ H Q => Q v H
theorem pe_var {i : Nat} {x : Str} {pos : Pos} (hN : X.N[i]? = some x) (hv : Vis X.env.scope x) (hd : (x == ("__debug__" : Str)) = false := by decide) (hcd : (x == ("__classdict__" : Str)) = false := by decide) : PE X (.Name x pos) (tVar i) := by
  intro pins s σ H Q I h
  obtain ⟨v, e, h⟩ := h
  obtain ⟨m, hn, hl⟩ := I.loc
  obtain ⟨u, r, l⟩ := hl i x v hN e hv
  have fin : EP X pins σ Q u s := ⟨v, H, I, r, h⟩
  rcases l with ⟨hk, hm⟩ | ⟨hk, c, hc, hcell⟩
  · exact wpAny_Name (wpAny_loadName_local I.ok.kind hk hn hm fin) hd
  · rcases hk with hk | hk
    · exact wpAny_Name (wpAny_loadName_cell I.ok.kind hk hc hcell fin) hd
    · exact wpAny_Name (wpAny_loadName_free I.ok.kind hk hc hcell fin hcd) hd
theorem pe_int {i j pos} : PE X (.Constant (.int i) j pos) (tC (.int i)) := fun _ _ _ H _ I h => wpAny_Constant_int ⟨.int i, H, I.tok _, ⟨_, rfl⟩, h⟩
theorem pe_bl {b j pos} : PE X (.Constant (.bool b) j pos) (tC (.bl b)) := fun _ _ _ H _ I h => Constant_bool ⟨.bl b, H, I, rfl, h⟩
theorem pe_non {j pos} : PE X (.Constant .none j pos) (tC .non) := fun _ _ _ H _ I h => Constant_none ⟨.non, H, I, rfl, h⟩
theorem pe_str {x j pos} : PE X (.Constant (.str x) j pos) (tC (.str x)) := fun _ _ _ H _ I h => Calls.Constant_str ⟨.str x, H, I.tok _, ⟨_, rfl⟩, h⟩
def Gl (X : Cx) (x : Str) : Prop := X.env.kindOf x = some .globalImplicit
theorem ld_glob {E : Value → Shared → Prop} {pins : List (Addr × Obj)} {s : Shared} {σ : St} {H : Hp} {x : Str} {u : Value} {pos : Pos} {Q : Value → Shared → Prop} (I : Inv X pins σ H s) (hg : Gl X x) (hm : X.mg x = some u) (h : Q u s)
    (hd : (x == ("__debug__" : Str)) = false := by decide) : wpAny (model X.prog X.w) X.A (eval (.Name x pos) X.env) Q E s :=
  Calls.Name_function_global I.ok.kind hg (Calls.loadGlobal_global (by rw [I.ok.glob]; exact I.mod.glob.keeps I.bk) hm h) hd
theorem ld_blt {E : Value → Shared → Prop} {pins : List (Addr × Obj)} {s : Shared} {σ : St} {H : Hp} {x : Str} {u : Value} {pos : Pos} {Q : Value → Shared → Prop} (I : Inv X pins σ H s) (hg : Gl X x) (hm : X.mg x = none) (hv : bootBuiltins x = some u) (h : Q u s)
    (hn : x ≠ "__name__" := by decide) (hd : (x == ("__debug__" : Str)) = false := by decide) : wpAny (model X.prog X.w) X.A (eval (.Name x pos) X.env) Q E s := by
  obtain ⟨mb, h1, h2⟩ := I.mod.blt
  exact Calls.Name_function_global I.ok.kind hg (Calls.loadGlobal_builtin (by rw [I.ok.glob]; exact I.mod.glob.keeps I.bk) hm (by rw [I.ok.blt]; exact h1.keeps I.bk) ((h2 x hn).trans hv) h) hd
theorem pe_glob {x : Str} {v : V} {u : Value} {pos : Pos} (hg : Gl X x) (hm : X.mg x = some u) (r : RelV v u) (hd : (x == ("__debug__" : Str)) = false := by decide) : PE X (.Name x pos) (tC v) :=
  fun _ _ _ H _ I h => ld_glob I hg hm ⟨v, H, I, r, h⟩ hd
theorem pe_bltn {x : Str} {v : V} {u : Value} {pos : Pos} (hg : Gl X x) (hm : X.mg x = none) (hv : bootBuiltins x = some u) (r : RelV v u) (hn : x ≠ "__name__" := by decide) (hd : (x == ("__debug__" : Str)) = false := by decide) : PE X (.Name x pos) (tC v) :=
  fun _ _ _ H _ I h => ld_blt I hg hm hv ⟨v, H, I, r, h⟩ hn hd
variable {a b : Expr} {ta tb : TE} {pos : Pos}
def PC (X : Cx) (op : CmpOp) (a b : Expr) (t : TE) : Prop :=
  ∀ (pins : List (Addr × Obj)) (s : Shared) (σ : St) (H : Hp) (Q : VK), Inv X pins σ H s → t σ H Q →
    wpAny (model X.prog X.w) X.A (eval a X.env) (fun v s₁ => wpAny (model X.prog X.w) X.A (eval b X.env) (fun u s₂ => wpAny (model X.prog X.w) X.A (compareOp op v u) (EP X pins σ Q) X.xe s₂) X.xe s₁) X.xe s
theorem nobehind (b : Expr) {op : CmpOp} (h : op ≠ .In) (h2 : op ≠ .NotIn) : behindInMarks op b = false := by
  have e1 : (op == CmpOp.In) = false := by cases op <;> first | rfl | exact absurd rfl h
  have e2 : (op == CmpOp.NotIn) = false := by cases op <;> first | rfl | exact absurd rfl h2
  cases b <;> simp [behindInMarks, e1, e2]
def tIsN (ta : TE) : TE := fun σ H Q => ta σ H fun x H1 => Q (.bl (decide (x = .non))) H1
theorem RelV.none_iff {x : V} {v : Value} (r : RelV x v) : (v == Value.none) = decide (x = .non) := by
  cases x with
  | non => cases r; rfl
  | bl _ => cases r; rfl
  | int _ => obtain ⟨t, rfl⟩ := r; rfl
  | str _ => obtain ⟨t, rfl⟩ := r; rfl
  | byt _ => obtain ⟨t, rfl⟩ := r; rfl
  | flt _ => obtain ⟨t, rfl⟩ := r; rfl
  | ref _ => cases r; rfl
  | ty _ => cases r; rfl
theorem pc_isN {j pos'} (ha : PE X a ta) : PC X .Is a (.Constant .none j pos') (tIsN ta) := by
  intro pins s σ H Q I h
  refine thn (ha pins s σ H _ I h) fun v s1 ⟨x, H1, I1, r1, q1⟩ => ?_
  exact Constant_none (is_none_gen ⟨.bl _, H1, I1, by rw [r1.none_iff]; rfl, q1⟩)
def tB (t : TE) : TT := fun σ H Q => t σ H fun x H1 => ∃ c, x = .bl c ∧ Q c H1
theorem pt_cmp {op : CmpOp} {t : TE} (h : PC X op a b t) (h1 : behindInMarks op b = false := by first | exact nobehind _ (by decide) (by decide) | rfl) : PT X (.Compare a [op] [b] pos) (tB t) := by
  intro pins s σ H Q I hw
  refine wpAny_isTrue_Compare1 (thn (h pins s σ H _ I hw) fun v s1 h1 => thn h1 fun u s2 h2 => thn h2 fun c s3 ⟨x, H1, I1, r1, q1⟩ => ?_) h1
  obtain ⟨d, rfl, q⟩ := q1
  cases r1
  exact wpAny_truthy_bool ⟨H1, I1, q⟩
theorem pt_val {e : Expr} {t : TE} (h : PE X e t) (he : ∀ whole, isTrue e X.env whole = (do let v ← whole; standAt e.pos; holding [v] (truthy v)) := by intro _; rfl) : PT X e (tB t) := by
  intro pins s σ H Q I hw
  refine isTrue_plain (thn (h pins s σ H _ I hw) fun v s1 ⟨x, H1, I1, r1, q1⟩ => ?_) (he _)
  obtain ⟨d, rfl, q⟩ := q1
  cases r1
  exact wpAny_truthy_bool ⟨H1, I1, q⟩
variable {tA tB' : TT} {rest : List Expr}
def tAnd (t u : TT) : TT := fun σ H Q => t σ H fun c H1 => if c = true then u σ H1 Q else Q false H1
def tOr (t u : TT) : TT := fun σ H Q => t σ H fun c H1 => if c = true then Q true H1 else u σ H1 Q
def tNot (t : TT) : TT := fun σ H Q => t σ H fun c H1 => Q (!c) H1
theorem pw_and1 (ha : PT X a tA) : PW X (.BoolOp .And [a] pos) tA := by
  intro wh pins s σ H Q I h
  refine isTrue_and (thn (ha pins s σ H Q I h) fun c s1 e => ?_)
  cases c with
  | true => exact isTrue_and_nil e
  | false => exact e
theorem pw_or1 (ha : PT X a tA) : PW X (.BoolOp .Or [a] pos) tA := by
  intro wh pins s σ H Q I h
  refine isTrue_or (thn (ha pins s σ H Q I h) fun c s1 e => ?_)
  cases c with
  | false => exact isTrue_or_nil e
  | true => exact e
theorem pw_and (ha : PT X a tA) (hb : PW X (.BoolOp .And (b :: rest) pos) tB') : PW X (.BoolOp .And (a :: b :: rest) pos) (tAnd tA tB') := by
  intro wh pins s σ H Q I h
  refine isTrue_and (thn (ha pins s σ H _ I h) fun c s1 ⟨H1, I1, q1⟩ => ?_)
  cases c with
  | true => exact hb wh pins s1 σ H1 Q I1 q1
  | false => exact ⟨H1, I1, q1⟩
theorem pw_or (ha : PT X a tA) (hb : PW X (.BoolOp .Or (b :: rest) pos) tB') : PW X (.BoolOp .Or (a :: b :: rest) pos) (tOr tA tB') := by
  intro wh pins s σ H Q I h
  refine isTrue_or (thn (ha pins s σ H _ I h) fun c s1 ⟨H1, I1, q1⟩ => ?_)
  cases c with
  | true => exact ⟨H1, I1, q1⟩
  | false => exact hb wh pins s1 σ H1 Q I1 q1
theorem pt_not (ha : PT X a tA) : PT X (.UnaryOp .Not a pos) (tNot tA) := by
  intro pins s σ H Q I h
  exact isTrue_not (ha pins s σ H (fun c H1 => Q (!c) H1) I h)
def tAndV (ta tb : TE) : TE := fun σ H Q => ta σ H fun x H1 => ∃ c, x = .bl c ∧ if c = true then tb σ H1 Q else Q (.bl false) H1
theorem pe_one {op} {t : TE} (h : PE X a t) : PE X (.BoolOp op [a] pos) t := fun pins s σ H Q I hw => BoolOp_one (h pins s σ H Q I hw)
theorem pe_and (ha : PE X a ta) (hb : PE X (.BoolOp .And (b :: rest) pos) tb) : PE X (.BoolOp .And (a :: b :: rest) pos) (tAndV ta tb) := by
  intro pins s σ H Q I h
  refine BoolOp_and (thn (ha pins s σ H _ I h) fun v s1 ⟨x, H1, I1, r1, q1⟩ => ?_)
  obtain ⟨c, rfl, q1⟩ := q1
  cases r1
  refine wpAny_truthy_bool ?_
  cases c with
  | true => exact hb pins s1 σ H1 Q I1 q1
  | false => exact ⟨.bl false, H1, I1, rfl, q1⟩
def tIf (t : TT) (ta tb : TE) : TE := fun σ H Q => t σ H fun c H1 => if c = true then ta σ H1 Q else tb σ H1 Q
theorem pe_ifExp {c : Expr} (hc : PT X c tA) (ha : PE X a ta) (hb : PE X b tb) : PE X (.IfExp c a b pos) (tIf tA ta tb) := by
  intro pins s σ H Q I h
  refine wpAny_IfExp (thn (hc pins s σ H _ I h) fun d s1 ⟨H1, I1, q1⟩ => ?_)
  cases d with
  | true => exact ha pins s1 σ H1 Q I1 q1
  | false => exact hb pins s1 σ H1 Q I1 q1
end
end L2
namespace L2
open PySem PySem.Spec PyProof.Rows
def SqL (K : PySem.W.Frag) (H : Hp) (a : Addr) (xs : List V) : Prop :=
  Rd H a (.lst xs) ∨
    ∃ (o : Obj) (its : Array Value) (n : Nat), K.lookup a = some o ∧ o.cls = .type "list" ∧ o.dict = none ∧ o.data = .seq its n ∧ its.size ≤ sizeLine ∧ Vals xs its.toList
def SqT (K : PySem.W.Frag) (H : Hp) (a : Addr) (xs : List V) : Prop :=
  Rd H a (.tup xs) ∨
    ∃ (o : Obj) (its : Array Value) (n : Nat), K.lookup a = some o ∧ o.cls = .type "tuple" ∧ o.data = .seq its n ∧ its.size ≤ sizeLine ∧ Vals xs its.toList
def absV : Value → Option V
  | .none => some .non
  | .bool b => some (.bl b)
  | .int i _ => some (.int i)
  | .str x _ => some (.str x)
  | .bytes b _ => some (.byt b)
  | .float b _ => some (.flt b)
  | .ref a => some (.ref a)
  | .type n => some (.ty n)
  | _ => none
theorem RelV.abs {x : V} {u : Value} (r : RelV x u) : absV u = some x := by
  cases x with
  | non => cases r; rfl
  | bl _ => cases r; rfl
  | int _ => obtain ⟨t, rfl⟩ := r; rfl
  | str _ => obtain ⟨t, rfl⟩ := r; rfl
  | byt _ => obtain ⟨t, rfl⟩ := r; rfl
  | flt _ => obtain ⟨t, rfl⟩ := r; rfl
  | ref _ => cases r; rfl
  | ty _ => cases r; rfl
theorem RelV.inj {x y : V} {u : Value} (r : RelV x u) (q : RelV y u) : x = y := Option.some.inj (r.abs.symm.trans q.abs)
theorem Vals.inj : ∀ {xs ys : List V} {us : List Value}, Vals xs us → Vals ys us → xs = ys
  | _, _, _, .nil, .nil => rfl
  | _, _, _, .cons r t, .cons r' t' => by rw [r.inj r', Vals.inj t t']
section
variable {X : Cx} {pins : List (Addr × Obj)} {σ : St} {H : Hp} {s : Shared} {a : Addr} {xs ys : List V}
theorem SqL.of {K : PySem.W.Frag} (h : H a = some (.lst xs)) : SqL K H a xs := .inl (.inl h)
theorem SqT.of {K : PySem.W.Frag} (h : H a = some (.tup xs)) : SqT K H a xs := .inl (.inl h)
theorem Inv.list (I : Inv X pins σ H s) (h : SqL X.K H a xs) : ∃ its : List Value, Vals xs its ∧ PlainL s.heap a its.toArray ∧ xs.length ≤ sizeLine := by
  rcases h with h | ⟨o, its, n, hk, hc, hd, hs, hz, r⟩
  · obtain ⟨z, its, n, r, e⟩ := h.ok I.hok
    exact ⟨its, r, ⟨_, n, e, rfl, rfl, rfl⟩, z⟩
  · refine ⟨its.toList, r, ⟨o, n, I.kIn a o hk, hc, hd, by simpa using hs⟩, ?_⟩
    have e := r.length
    simp only [Array.length_toList] at e
    omega
theorem Inv.tuple (I : Inv X pins σ H s) (h : SqT X.K H a xs) : ∃ its : List Value, Vals xs its ∧ IsTup s.heap a its.toArray ∧ xs.length ≤ sizeLine := by
  rcases h with h | ⟨o, its, n, hk, hc, hs, hz, r⟩
  · obtain ⟨z, its, r, p⟩ := h.ok I.hok
    exact ⟨its, r, p, z⟩
  · refine ⟨its.toList, r, ⟨o, I.kIn a o hk, hc, n, by simpa using hs⟩, ?_⟩
    have e := r.length
    simp only [Array.length_toList] at e
    omega
theorem Inv.list_inj (I : Inv X pins σ H s) (h : SqL X.K H a xs) (h' : SqL X.K H a ys) : xs = ys := by
  obtain ⟨its, r, ⟨o, n, e, _, _, d⟩, _⟩ := I.list h
  obtain ⟨its', r', ⟨o', n', e', _, _, d'⟩, _⟩ := I.list h'
  rw [e] at e'; cases e'
  rw [d] at d'
  injection d' with d1 _
  have : its = its' := by simpa using congrArg Array.toList d1
  subst this
  exact r.inj r'
theorem Inv.tuple_inj (I : Inv X pins σ H s) (h : SqT X.K H a xs) (h' : SqT X.K H a ys) : xs = ys := by
  obtain ⟨its, r, ⟨o, e, _, n, d⟩, _⟩ := I.tuple h
  obtain ⟨its', r', ⟨o', e', _, n', d'⟩, _⟩ := I.tuple h'
  rw [e] at e'; cases e'
  rw [d] at d'
  injection d' with d1 _
  have : its = its' := by simpa using congrArg Array.toList d1
  subst this
  exact r.inj r'
end
abbrev Cx.wish (X : Cx) (E : Value → Shared → Prop) : Cx := { X with xe := E }
abbrev Cx.nox (X : Cx) : Cx := X.wish fun _ _ => False
theorem Cx.Ok.wish {X : Cx} (ok : X.Ok) (E : Value → Shared → Prop) : (X.wish E).Ok :=
  ⟨ok.mod, ok.kind, ok.glob, ok.blt, ok.above, ok.inj, ok.has, ok.cab, ok.hd, ok.frames, ok.stk, ok.exf, ok.bs, ok.bsz, ok.noex, ok.exfs, ok.funs, ok.frf⟩
theorem Cx.Ok.unwish {X : Cx} {E : Value → Shared → Prop} (ok : (X.wish E).Ok) : X.Ok :=
  ⟨ok.mod, ok.kind, ok.glob, ok.blt, ok.above, ok.inj, ok.has, ok.cab, ok.hd, ok.frames, ok.stk, ok.exf, ok.bs, ok.bsz, ok.noex, ok.exfs, ok.funs, ok.frf⟩
section
variable {X : Cx} {pins : List (Addr × Obj)} {σ : St} {H : Hp} {s : Shared} {E : Value → Shared → Prop}
theorem Inv.wish (I : Inv X pins σ H s) (E : Value → Shared → Prop) : Inv (X.wish E) pins σ H s := ⟨I.ok.wish E, I.os, I.bare, I.base, I.loc, I.cell, I.free, I.freeC, I.pin, I.hok, I.len⟩
theorem Inv.unwish (I : Inv (X.wish E) pins σ H s) : Inv X pins σ H s := ⟨I.ok.unwish, I.os, I.bare, I.base, I.loc, I.cell, I.free, I.freeC, I.pin, I.hok, I.len⟩
theorem SP.unwish {D : Ends} {f : Flow} {s' : Shared} (h : SP (X.wish E) pins D f s') : SP X pins D f s' := by
  cases f with
  | next => obtain ⟨σ', H', I, q⟩ := h; exact ⟨σ', H', I.unwish, q⟩
  | brk => obtain ⟨σ', H', I, q⟩ := h; exact ⟨σ', H', I.unwish, q⟩
  | cont => obtain ⟨σ', H', I, q⟩ := h; exact ⟨σ', H', I.unwish, q⟩
  | ret u => obtain ⟨v, σ', H', I, r, q⟩ := h; exact ⟨v, σ', H', I.unwish, r, q⟩
theorem PSs.nox {st : List Stmt} {t : TS} (h : PSs X.nox st t) : PSs X st t := fun pins s σ H D I hw =>
  wpAny_mono (h pins s σ H D (I.wish _) hw) (fun _ _ q => q.unwish) fun _ _ z => False.elim z
end
section
variable {X : Cx} {st : Stmt} {rest : List Stmt} {t u : TS} {e : Expr} {te : TE} {pos : Pos}
def tNext : TS := fun D σ H => D.nx σ H
def tSeq (t u : TS) : TS := fun D σ H => t { D with nx := u D } σ H
theorem pss_nil : PSs X [] tNext := fun _ _ σ H _ I h => wpAny_execs_nil ⟨σ, H, I, h⟩
theorem pss_cons (h1 : PS X st t) (h2 : PSs X rest u) : PSs X (st :: rest) (tSeq t u) := by
  intro pins s σ H D I h
  refine wpAny_execs_cons (thn (h1 pins s σ H { D with nx := u D } I h) fun f s1 q => ?_)
  cases f with
  | next =>
    obtain ⟨σ', H', I', q⟩ := q
    exact h2 pins s1 σ' H' D I' q
  | ret v => exact q
  | brk => exact q
  | cont => exact q
theorem pss_one (h1 : PS X st t) : PSs X [st] t := by
  intro pins s σ H D I h
  refine wpAny_execs_cons (thn (h1 pins s σ H D I h) fun f s1 q => ?_)
  cases f with
  | next => exact wpAny_execs_nil q
  | ret v => exact q
  | brk => exact q
  | cont => exact q
def tBreak : TS := fun D σ H => D.bk σ H
theorem ps_break : PS X (.Break pos) tBreak := fun _ _ σ H _ I h => wpAny_Break ⟨σ, H, I, h⟩
theorem Inv.quiet {pins : List (Addr × Obj)} {σ : St} {H : Hp} {s : Shared} (I : Inv X pins σ H s) : interactive X.env = false := by simp [interactive, I.ok.kind]
def tDrop (te : TE) : TS := fun D σ H => te σ H fun _ H1 => D.nx σ H1
theorem ps_expr (he : PE X e te) (hs : swapsWith e none pos.line X.env = pure false := by rfl) : PS X (.Expr e pos) (tDrop te) := by
  intro pins s σ H D I h
  exact wpAny_Expr_any (thn (he pins s σ H _ I h) fun v s1 ⟨x, H1, I1, r1, q1⟩ => ⟨σ, H1, I1, q1⟩) I.quiet hs
def tRet (te : TE) : TS := fun D σ H => te σ H D.rt
theorem ps_ret (he : PE X e te) : PS X (.Return (some e) pos) (tRet te) := by
  intro pins s σ H D I h
  exact wpAny_Return_some (thn (he pins s σ H _ I h) fun v s1 ⟨x, H1, I1, r1, q1⟩ => ⟨x, σ, H1, I1, r1, q1⟩)
def tIfS (c : TT) (t u : TS) : TS := fun D σ H => c σ H fun b H1 => if b = true then t D σ H1 else u D σ H1
theorem ps_if {c : Expr} {a b : List Stmt} {tc : TT} (hc : PT X c tc) (ha : PSs X a t) (hb : PSs X b u) : PS X (.If c a b pos) (tIfS tc t u) := by
  intro pins s σ H D I h
  refine wpAny_If (thn (hc pins s σ H _ I h) fun d s1 ⟨H1, I1, q1⟩ => ?_)
  cases d with
  | true => exact ha pins s1 σ H1 D I1 q1
  | false => exact hb pins s1 σ H1 D I1 q1
def tNever : TS := fun _ _ _ => False
theorem ps_never : PS X st tNever := fun _ _ _ _ _ _ h => h.elim
end
abbrev TG := V → St → Hp → (St → Hp → Prop) → Prop
abbrev TGs := List V → St → Hp → (St → Hp → Prop) → Prop
def PG (X : Cx) (target : Expr) (t : TG) : Prop :=
  ∀ (pins : List (Addr × Obj)) (s : Shared) (σ : St) (H : Hp) (v : V) (u : Value) (Q : St → Hp → Prop), Inv X pins σ H s → RelV v u → t v σ H Q →
    wpAny (model X.prog X.w) X.A (assign target X.env u) (fun _ s' => ∃ σ' H', Inv X pins σ' H' s' ∧ Q σ' H') X.xe s
def PGs (X : Cx) (ts : List Expr) (t : TGs) : Prop :=
  ∀ (pins : List (Addr × Obj)) (s : Shared) (σ : St) (H : Hp) (vs : List V) (us : List Value) (Q : St → Hp → Prop), Inv X pins σ H s → Vals vs us → t vs σ H Q →
    wpAny (model X.prog X.w) X.A (assignInOrder ((assignEach ts X.env).map (·.2)) us) (fun _ s' => ∃ σ' H', Inv X pins σ' H' s' ∧ Q σ' H') X.xe s
abbrev TSet := V → V → V → Hp → (Hp → Prop) → Prop
def PSet (X : Cx) (t : TSet) : Prop :=
  ∀ (pins : List (Addr × Obj)) (s : Shared) (σ : St) (H : Hp) (o i v : V) (ov iv u : Value) (Q : Hp → Prop), Inv X pins σ H s → RelV o ov → RelV i iv → RelV v u → t o i v H Q →
    wpAny (model X.prog X.w) X.A (setItem ov iv u) (fun _ s' => ∃ H', Inv X pins σ H' s' ∧ Q H') X.xe s
abbrev TIp := V → V → Hp → VK → Prop
section
variable {X : Cx} {pos : Pos}
def gName (i : Nat) : TG := fun v σ H Q => Q (σ.set i (some v)) H
theorem pg_name {i : Nat} {x : Str} (hN : X.N.Nodup) (hi : X.N[i]? = some x) (hx : Loc X.env.scope x) (hf : X.fn x = true ∨ X.env.scope.names.lookup x = some .local := by first | exact .inl rfl | exact .inr rfl | assumption) : PG X (.Name x pos) (gName i) := by
  intro pins s σ H v u Q I r h
  exact wpAny_assign_Name (store_ok I hN hi hx r (fun s' I' => ⟨_, H, I', h⟩) hf)
def gNil : TGs := fun vs σ H Q => vs = [] ∧ Q σ H
def gCons (t : TG) (u : TGs) : TGs := fun vs σ H Q => ∃ v r, vs = v :: r ∧ t v σ H fun σ' H' => u r σ' H' Q
theorem pgs_nil : PGs X [] gNil := by
  intro pins s σ H vs us Q I r h
  obtain ⟨e, h⟩ := h
  subst e
  cases r
  exact assignInOrder_nil ⟨σ, H, I, h⟩
theorem pgs_cons {e : Expr} {es : List Expr} {t : TG} {u : TGs} (h1 : PG X e t) (h2 : PGs X es u)
    (hs : (assignEach (e :: es) X.env).map (·.2) = assign e X.env :: (assignEach es X.env).map (·.2) := by rfl) : PGs X (e :: es) (gCons t u) := by
  intro pins s σ H vs us Q I r h
  obtain ⟨v, vr, e1, h⟩ := h
  subst e1
  cases r with
  | cons r rr =>
    rw [hs]
    refine assignInOrder_cons (thn (h1 pins s σ H _ _ _ I r h) fun _ s1 ⟨σ1, H1, I1, q1⟩ => ?_)
    exact h2 pins s1 σ1 H1 _ _ Q I1 rr q1
def gTup (K : PySem.W.Frag) (n : Nat) (t : TGs) : TG := fun v σ H Q => ∃ a xs, v = .ref a ∧ SqT K H a xs ∧ xs.length = n ∧ t xs σ H Q
theorem pg_tup {es : List Expr} {k : Nat} {t : TGs} {n : Nat} (hc : X.calm = true) (h : PGs X es t)
    (hn : (assignEach es X.env).length = n := by rfl) (hst : (assignEach es X.env).findIdx? (·.1) = none := by rfl) : PG X (.Tuple es k pos) (gTup X.K n t) := by
  intro pins s σ H v u Q I r hw
  obtain ⟨a, xs, e1, hq, hl, hw⟩ := hw
  subst e1
  cases r
  obtain ⟨its, rv, ht, hz⟩ := I.tuple hq
  refine assign_Tuple_tuple (I.ok.hd hc) ht (by simp [hn, ← hl, rv.length]) hst fun h' hx => ?_
  have I1 : Inv X pins σ H { s with heap := h' } := I.kept (t' := s.toks) fun b o e => hx b o (Nat.ne_of_lt (Heap.lt_size e)) e
  exact h pins _ σ H xs _ Q I1 (by simpa using rv) hw
def gSub (to ti : TE) (t : TSet) : TG := fun v σ H Q => to σ H fun o H1 => ti σ H1 fun i H2 => t o i v H2 fun H3 => Q σ H3
theorem pg_sub {o i : Expr} {to ti : TE} {t : TSet} (ho : PE X o to) (hi : PE X i ti) (hs : PSet X t)
    (ha : ∀ v, assign (.Subscript o i pos) X.env v = (do
      let ov ← holding [v] (eval o X.env)
      let iv ← holding [v, ov] (eval i X.env)
      standAt pos
      holding [v, ov, iv] (setItem ov iv v)
      release [v, ov, iv] []) := by intro _; rfl) : PG X (.Subscript o i pos) (gSub to ti t) := by
  intro pins s σ H v u Q I r h
  rw [ha]
  refine wpAny_bind (wpAny_holding (thn (ho pins s σ H _ I h) fun ov s1 ⟨x, H1, I1, r1, q1⟩ => ?_))
  refine wpAny_bind (wpAny_holding (thn (hi pins s1 σ H1 _ I1 q1) fun iv s2 ⟨y, H2, I2, r2, q2⟩ => ?_))
  refine wpAny_bind (wpAny_standAt (wpAny_bind (wpAny_holding (thn (hs pins s2 σ H2 x y v ov iv u _ I2 r1 r2 r q2) fun _ s3 ⟨H3, I3, q3⟩ => ?_))))
  exact wpAny_release ⟨σ, H3, I3, q3⟩
def tAsg (te : TE) (g : TG) : TS := fun D σ H => te σ H fun x H1 => g x σ H1 D.nx
theorem ps_asg {tg e : Expr} {te : TE} {g : TG} (he : PE X e te) (hg : PG X tg g) (hs : swapsWithSole [tg] e pos.line X.env = pure false := by rfl) (hw : swappedStores [tg] e X.env = pure none := by rfl)
    (h1 : (assignEach [tg] X.env).map (·.2) = [assign tg X.env] := by rfl) : PS X (.Assign [tg] e pos) (tAsg te g) := by
  intro pins s σ H D I h
  refine wpAny_Assign_stores (thn (he pins s σ H _ I h) fun v s1 ⟨x, H1, I1, r1, q1⟩ => ?_) hs hw
  rw [h1]
  exact thn (hg pins s1 σ H1 x v _ I1 r1 q1) fun _ s2 q => q
theorem ps_set {i : Nat} {x : Str} {e : Expr} {te : TE} {pos' : Pos} (hN : X.N.Nodup) (hi : X.N[i]? = some x) (hx : Loc X.env.scope x) (he : PE X e te) (hs : swapsWith e (some (.Name x pos')) pos.line X.env = pure false := by rfl) (hf : X.fn x = true ∨ X.env.scope.names.lookup x = some .local := by first | exact .inl rfl | exact .inr rfl | assumption) :
    PS X (.Assign [.Name x pos'] e pos) (tAsg te (gName i)) := by
  intro pins s σ H D I h
  refine wpAny_Assign_Name (thn (he pins s σ H _ I h) fun v s1 ⟨y, H1, I1, r1, q1⟩ => ?_) hs
  exact store_ok I1 hN hi hx r1 (fun s2 I2 => ⟨_, H1, I2, q1⟩) hf
def ipI (f : Int → Int → Int) : TIp := fun x y H Q => ∃ i j, x = .int i ∧ y = .int j ∧ Q (.int (f i j)) H
end
section
variable {X : Cx} {pos : Pos}
def tWhile (c : TT) (tb : TS) : TS := fun D σ H => ∃ W : Nat → St → Hp → Prop, (∃ m, W m σ H) ∧ ∀ m σ H, W m σ H →
  c σ H fun b H1 => if b = true then ∃ N : St → Hp → Prop, (∀ σ' H', N σ' H' → ∃ m', m' < m ∧ W m' σ' H') ∧ tb { D with nx := N, ct := N, bk := D.nx } σ H1 else D.nx σ H1
theorem ps_while {c : Expr} {body : List Stmt} {tc : TT} {tb : TS} (hp : PassesOwn (model X.prog X.w) X.A X.env X.xe) (hc : PT X c tc) (hb : PSs X body tb) : PS X (.While c body [] pos) (tWhile tc tb) := by
  intro pins s σ H D I h
  obtain ⟨W, ⟨m0, w0⟩, turn⟩ := h
  refine wpAny_While (codeAny_whileLoop (fun n s' => ∃ σ' H', Inv X pins σ' H' s' ∧ W n σ' H') ?_ m0 ⟨σ, H, I, w0⟩)
  rintro n s1 ⟨σ1, H1, I1, w1⟩
  refine wpAny_passesOwn hp (thn (hc pins s1 σ1 H1 _ I1 (turn n σ1 H1 w1)) fun b s2 ⟨H2, I2, q2⟩ => ?_)
  cases b with
  | true =>
    obtain ⟨N, hN, q2⟩ := q2
    rw [if_pos rfl]
    refine wpAny_passesOwn hp (thn (hb pins s2 σ1 H2 _ I2 q2) fun f s3 q3 => ?_)
    cases f with
    | next =>
      obtain ⟨σ3, H3, I3, n3⟩ := q3
      obtain ⟨m', hm, w3⟩ := hN σ3 H3 n3
      exact ⟨m', hm, σ3, H3, I3, w3⟩
    | cont =>
      obtain ⟨σ3, H3, I3, n3⟩ := q3
      obtain ⟨m', hm, w3⟩ := hN σ3 H3 n3
      exact ⟨m', hm, σ3, H3, I3, w3⟩
    | brk => exact q3
    | ret v => exact q3
  | false =>
    rw [if_neg Bool.false_ne_true]
    exact wpAny_execs_nil ⟨σ1, H2, I2, q2⟩
end
structure It where
  go : Nat → Hp → Prop
  yld : Nat → Hp → V → Hp → Prop
  stop : Nat → Hp → Prop
def FpOk (X : Cx) (pins : List (Addr × Obj)) (H : Hp) (b : Addr) : Prop :=
  H b = none ∧ b ≠ X.env.locals ∧ b ∉ X.fs ∧ (b ∈ X.ex ∨ X.s₀.heap.objs.size ≤ b) ∧ (∀ x c, X.env.cells.lookup x = some c → c ≠ b) ∧ ∀ p ∈ X.pn ++ pins, p.1 ≠ b
theorem Inv.fpOk {X : Cx} {pins : List (Addr × Obj)} {σ : St} {H H' : Hp} {s : Shared} {b : Addr} (I : Inv X pins σ H s) (hb : s.heap.objs.size ≤ b) (hn : H' b = none) : FpOk X pins H' b := by
  refine ⟨hn, Nat.ne_of_gt (Nat.lt_of_lt_of_le I.lt hb), I.nofs hb, .inr (Nat.le_trans I.sz hb), fun x c e z => ?_, fun p hp z => ?_⟩
  · obtain ⟨v, q⟩ := I.cell x c e
    exact absurd (Nat.lt_of_lt_of_le q.lt (by rw [z]; exact hb)) (Nat.lt_irrefl _)
  · exact absurd (Nat.lt_of_lt_of_le (Heap.lt_size (I.pin p hp).1) (by rw [z]; exact hb)) (Nat.lt_irrefl _)
structure Turn (P : Program) (w : World) (K : PySem.W.Frag) (tg : Expr) (J : It) (fp : List Addr) (it : Addr) (tn : Nat → Heap → Prop) : Prop where
  mem : it ∈ fp
  obj : ∀ i h, tn i h → ∀ b ∈ fp, ∃ o, h.get? b = some o ∧ ∀ v, o.data ≠ .cell v
  keep : ∀ i h h', tn i h → (∀ b ∈ fp, ∀ o, h.get? b = some o → h'.get? b = some o) → tn i h'
  item : ∀ (X : Cx), X.prog = P → X.w = w → X.K = K → X.calm = true → ∀ (i : Nat) (pins : List (Addr × Obj)) (s : Shared) (σ : St) (H : Hp) (E : Value → Shared → Prop), Inv X pins σ H s → (∀ b ∈ fp, FpOk X pins H b) → tn i s.heap → J.go i H →
    wpAny (model P w) X.A (pyNext (.ref it)) (fun r s1 => ∃ u, r = some u ∧
      wpAny (model P w) X.A (letOwnedTupleGo tg (.ref it) u) (fun _ s2 => ∃ x H', Inv X pins σ H' s2 ∧ RelV x u ∧ J.yld i H x H' ∧ tn (i + 1) s2.heap ∧ ∀ b ∈ fp, H' b = none) E s1) E s
  done : ∀ (X : Cx), X.prog = P → X.w = w → X.K = K → X.calm = true → ∀ (i : Nat) (pins : List (Addr × Obj)) (s : Shared) (σ : St) (H : Hp) (E : Value → Shared → Prop), Inv X pins σ H s → (∀ b ∈ fp, FpOk X pins H b) → tn i s.heap → J.stop i H →
    wpAny (model P w) X.A (pyNext (.ref it)) (fun r s1 => r = none ∧ Inv X pins σ H s1) E s
  self : ∀ (A : Around) (i : Nat) (s : Shared) (Q : Value → Shared → Prop) (E : Value → Shared → Prop), tn i s.heap → Q (.ref it) s → wpAny (model P w) A (pyIter (.ref it)) Q E s
abbrev TI := St → Hp → (It → Hp → Prop) → Prop
def PIE (X : Cx) (pins : List (Addr × Obj)) (σ : St) (tg : Expr) (R : It → Hp → Prop) (itv : Value) (s2 : Shared) : Prop :=
  ∃ (it : Addr) (fp : List Addr) (tn : Nat → Heap → Prop) (J : It) (H' : Hp), itv = .ref it ∧ Inv X pins σ H' s2 ∧ Turn X.prog X.w X.K tg J fp it tn ∧ tn 0 s2.heap ∧ (∀ b ∈ fp, FpOk X pins H' b) ∧ R J H'
def PI (X : Cx) (tg iter : Expr) (wi : TI) : Prop :=
  ∀ (pins : List (Addr × Obj)) (s : Shared) (σ : St) (H : Hp) (R : It → Hp → Prop), Inv X pins σ H s → wi σ H R →
    wpAny (model X.prog X.w) X.A (eval iter X.env) (fun v s1 => wpAny (model X.prog X.w) X.A (pyIter v) (PIE X pins σ tg R) X.xe s1) X.xe s
theorem go_of {M : Model} {A : Around} {E : Value → Shared → Prop} {s : Shared} {tg : Expr} {it : Addr} {u : Value} {o : Obj} {n : String} {vs : Array Value} {Q : Unit → Shared → Prop} (ho : s.heap.get? it = some o) (hc : o.cls = .type n) (hd : o.data = .fields vs)
    (hn : ["enumerate", "zip", "dict_itemiterator", "dict_reverseitemiterator", "odict_iterator", "itertools.zip_longest", "itertools.pairwise"].contains n = false) (hQ : Q () s) : wpAny M A (letOwnedTupleGo tg (.ref it) u) Q E s := by
  unfold letOwnedTupleGo
  cases tg <;> first
    | exact wpAny_pure hQ
    | (cases u <;> first
        | exact wpAny_pure hQ
        | (refine wpAny_bind (wpAny_load ho ?_)
           rw [hc, hd]
           show wpAny M A (if (["enumerate", "zip", "dict_itemiterator", "dict_reverseitemiterator", "odict_iterator", "itertools.zip_longest", "itertools.pairwise"].contains n && vs[0]? == some (rawInt _)) = true then _ else _) Q E s
           rw [if_neg (by intro h; rw [hn, Bool.false_and] at h; cases h)]
           exact wpAny_pure hQ))
def Itl (K : PySem.W.Frag) (a : Addr) : It :=
  ⟨fun i H => ∃ xs x, SqL K H a xs ∧ xs[i]? = some x, fun i H x H' => H' = H ∧ ∀ xs, SqL K H a xs → xs[i]? = some x, fun i H => ∃ xs, SqL K H a xs ∧ xs.length ≤ i⟩
def Itt (K : PySem.W.Frag) (a : Addr) : It :=
  ⟨fun i H => ∃ xs x, SqT K H a xs ∧ xs[i]? = some x, fun i H x H' => H' = H ∧ ∀ xs, SqT K H a xs → xs[i]? = some x, fun i H => ∃ xs, SqT K H a xs ∧ xs.length ≤ i⟩
def Itr (lo : Int) (n : Nat) : It := ⟨fun i _ => i < n, fun i H x H' => H' = H ∧ x = .int (lo + i), fun i _ => n ≤ i⟩
theorem turn_list {P : Program} {w : World} {K : PySem.W.Frag} {tg : Expr} (a it : Addr) : Turn P w K tg (Itl K a) [it] it (fun i h => h.IsListIter it a i) where
  mem := by simp
  obj := fun i h st b hb => by
    have e : b = it := by simpa using hb
    subst e
    obtain ⟨o, e, c, d⟩ := st
    exact ⟨o, e, fun v z => by rw [d] at z; cases z⟩
  keep := fun i h h' st k => st.at fun o e => k it (by simp) o e
  item := by
    intro X hP hw hK hc i pins s σ H E I hf st hg
    subst hP hw hK
    obtain ⟨xs, x, hq, hx⟩ := hg
    obtain ⟨its, rv, p, hz⟩ := I.list hq
    obtain ⟨u, hu, ru⟩ := rv.get hx
    obtain ⟨f0, f1, f2, f3, f4, f5⟩ := hf it (by simp)
    refine wpAny_pyNext_list_item st p.isList (x := u) (by simpa using hu) fun h' st' sb => ?_
    have I1 : Inv X pins σ H { s with heap := h' } := I.turned (t' := s.toks) (fun b o hb e => (sb.2 b hb).trans e) f0 f1 f3 f4 f5
    obtain ⟨o, e, c, d⟩ := id st'
    exact ⟨u, rfl, go_of (s := { s with heap := h' }) e c d (by decide) ⟨x, H, I1, ru, ⟨rfl, fun ys hy => by rw [I.list_inj hy hq]; exact hx⟩, st', fun b hb => (hf b hb).1⟩⟩
  done := by
    intro X hP hw hK hc i pins s σ H E I hf st hg
    subst hP hw hK
    obtain ⟨xs, hq, hx⟩ := hg
    obtain ⟨its, rv, p, hz⟩ := I.list hq
    obtain ⟨f0, f1, f2, f3, f4, f5⟩ := hf it (by simp)
    have hl := rv.length
    exact wpAny_pyNext_list_end (I.ok.hd hc) st p.isList (by simp; omega) fun h' eb => ⟨rfl, I.turned (t' := s.toks) (fun b o hb e => eb b o hb e) f0 f1 f3 f4 f5⟩
  self := fun _ _ _ _ _ st h => wpAny_pyIter_listiter st h
theorem turn_tuple {P : Program} {w : World} {K : PySem.W.Frag} {tg : Expr} (a it : Addr) : Turn P w K tg (Itt K a) [it] it (fun i h => h.IsTupleIter it a i) where
  mem := by simp
  obj := fun i h st b hb => by
    have e : b = it := by simpa using hb
    subst e
    obtain ⟨o, e, c, d⟩ := st
    exact ⟨o, e, fun v z => by rw [d] at z; cases z⟩
  keep := fun i h h' st k => st.at fun o e => k it (by simp) o e
  item := by
    intro X hP hw hK hc i pins s σ H E I hf st hg
    subst hP hw hK
    obtain ⟨xs, x, hq, hx⟩ := hg
    obtain ⟨its, rv, p, hz⟩ := I.tuple hq
    obtain ⟨u, hu, ru⟩ := rv.get hx
    obtain ⟨f0, f1, f2, f3, f4, f5⟩ := hf it (by simp)
    refine wpAny_pyNext_tuple_item st (show s.heap.IsTuple a its.toArray from p) (x := u) (by simpa using hu) fun h' st' sb => ?_
    have I1 : Inv X pins σ H { s with heap := h' } := I.turned (t' := s.toks) (fun b o hb e => (sb.2 b hb).trans e) f0 f1 f3 f4 f5
    obtain ⟨o, e, c, d⟩ := id st'
    exact ⟨u, rfl, go_of (s := { s with heap := h' }) e c d (by decide) ⟨x, H, I1, ru, ⟨rfl, fun ys hy => by rw [I.tuple_inj hy hq]; exact hx⟩, st', fun b hb => (hf b hb).1⟩⟩
  done := by
    intro X hP hw hK hc i pins s σ H E I hf st hg
    subst hP hw hK
    obtain ⟨xs, hq, hx⟩ := hg
    obtain ⟨its, rv, p, hz⟩ := I.tuple hq
    obtain ⟨f0, f1, f2, f3, f4, f5⟩ := hf it (by simp)
    have hl := rv.length
    exact wpAny_pyNext_tuple_end (I.ok.hd hc) st (show s.heap.IsTuple a its.toArray from p) (by simp; omega) fun h' eb => ⟨rfl, I.turned (t' := s.toks) (fun b o hb e => eb b o hb e) f0 f1 f3 f4 f5⟩
  self := fun _ _ _ _ _ st h => wpAny_pyIter_tupleiter st h
theorem turn_range {P : Program} {w : World} {K : PySem.W.Frag} {tg : Expr} (it : Addr) (lo : Int) (n : Nat) : Turn P w K tg (Itr lo n) [it] it (fun i h => IsRangeIter h it (lo + (i : Nat) * 1) ((n : Int) - (i : Nat)) 1) where
  mem := by simp
  obj := fun i h st b hb => by
    have e : b = it := by simpa using hb
    subst e
    exact ⟨_, st, fun v z => by
      have z' : Data.fields _ = Data.cell v := z
      cases z'⟩
  keep := fun i h h' st k => k it (by simp) _ st
  item := by
    intro X hP hw hK hc i pins s σ H E I hf st hg
    subst hP hw hK
    obtain ⟨f0, f1, f2, f3, f4, f5⟩ := hf it (by simp)
    have W := Walks.range (prog := X.prog) (w := X.w) (I.ok.hd hc) it lo 1 n
    refine W.item i s _ _ hg st fun v h' tk hv st' kk => ?_
    obtain ⟨t, rfl⟩ := hv
    have I1 : Inv X pins σ H { s with heap := h', toks := tk } := I.turned (fun b o hb e => kk b o (by simpa using hb) e) f0 f1 f3 f4 f5
    refine ⟨_, rfl, go_of (s := { s with heap := h', toks := tk }) (n := "range_iterator") st' rfl rfl (by decide) ⟨.int (lo + i), H, I1, ⟨t, ?_⟩, ⟨rfl, rfl⟩, st', fun b hb => (hf b hb).1⟩⟩
    rw [Int.mul_one]
  done := by
    intro X hP hw hK hc i pins s σ H E I hf st hg
    subst hP hw hK
    obtain ⟨f0, f1, f2, f3, f4, f5⟩ := hf it (by simp)
    exact wpAny_pyNext_range_end (I.ok.hd hc) st (by have : n ≤ i := hg; omega) fun h' eb => ⟨rfl, I.turned (t' := s.toks) (fun b o hb e => eb b o hb e) f0 f1 f3 f4 f5⟩
  self := fun _ _ _ _ _ st h => wpAny_pyIter_rangeiter st h
end L2
namespace L2
open PySem PySem.Spec PyProof.Rows
section
variable {X : Cx} {tg : Expr}
theorem range_it {pins : List (Addr × Obj)} {σ : St} {H : Hp} {s : Shared} {R : It → Hp → Prop} {E : Value → Shared → Prop} {lo hi : Int} {t u v : Tok} {tk : Nat} (I : Inv X pins σ H s) (h1 : -(2 ^ 62) ≤ lo) (h2 : lo < 2 ^ 62) (h3 : -(2 ^ 62) ≤ hi) (h4 : hi < 2 ^ 62)
    (q : R (Itr lo (hi - lo).toNat) H) : wpAny (model X.prog X.w) X.A (pyIter (.ref s.heap.objs.size)) (PIE X pins σ tg R) E { s with heap := s.heap.push { cls := .type "range", data := .fields #[.int lo t, .int hi u, .int 1 v] }, toks := tk } := by
  refine wpAny_pyIter_range (IsRange.new ..) (small_one h1 h2 h3 h4) ?_
  have I1 : Inv X pins σ H { s with heap := s.heap.push { cls := .type "range", data := .fields #[.int lo t, .int hi u, .int 1 v] }, toks := tk } := I.kept fun b o e => Heap.get?_push_of_some _ e
  refine ⟨(s.heap.push { cls := .type "range", data := .fields #[.int lo t, .int hi u, .int 1 v] }).objs.size, [(s.heap.push { cls := .type "range", data := .fields #[.int lo t, .int hi u, .int 1 v] }).objs.size], _, _, H, rfl,
    I1.kept (t' := tk) fun b o e => Heap.get?_push_of_some _ e, turn_range _ lo (hi - lo).toNat, ?_, fun b hb => ?_, q⟩
  · have e1 : lo + ((0 : Nat) : Int) * 1 = lo := by simp
    have e2 : (((hi - lo).toNat : Nat) : Int) - ((0 : Nat) : Int) = Builtin.Range.rangeSize lo hi 1 := by rw [rangeSize_one]; split <;> omega
    show IsRangeIter _ _ (lo + ((0 : Nat) : Int) * 1) ((((hi - lo).toNat : Nat) : Int) - ((0 : Nat) : Int)) 1
    rw [e1, e2]
    exact Heap.get?_push_size _ rfl
  · have e : b = (s.heap.push { cls := .type "range", data := .fields #[.int lo t, .int hi u, .int 1 v] }).objs.size := by simpa using hb
    subst e
    exact I1.fpOk (Nat.le_refl _) (I1.hok.fresh (Nat.le_refl _))
def iRng1 (ta : TA) : TI := fun σ H R => ta σ H fun vs H1 => ∃ j : Int, vs = [.int j] ∧ -(2 ^ 62) ≤ j ∧ j < 2 ^ 62 ∧ R (Itr 0 j.toNat) H1
def iRng2 (ta : TA) : TI := fun σ H R => ta σ H fun vs H1 => ∃ i j : Int, vs = [.int i, .int j] ∧ (-(2 ^ 62) ≤ i ∧ i < 2 ^ 62 ∧ -(2 ^ 62) ≤ j ∧ j < 2 ^ 62) ∧ R (Itr i (j - i).toNat) H1
theorem pi_range1 {a : Expr} {ta : TA} {p pos : Pos} (hg : Gl X "range") (hm : X.mg "range" = none) (ha : PA X [a] ta) (hs : starEach [a] X.env = [(false, eval a X.env)] := by rfl) : PI X tg (.Call (.Name "range" p) [a] [] pos) (iRng1 ta) := by
  intro pins s σ H R I h
  refine Call_ (ld_blt I hg hm boot_range (PyProof.Rows.callWith_type1 (thn (ha pos pins s σ H _ I h) fun us s1 ⟨vs, H1, I1, r1, q1⟩ => ?_) hs rfl))
  obtain ⟨j, e, q1, q2, q⟩ := q1
  subst e
  cases r1 with
  | cons r rr =>
    cases rr
    obtain ⟨t, rfl⟩ := r
    exact call_range_1 (range_it I1 (by omega) (by omega) q1 q2 (by simpa using q))
theorem pi_range2 {a b : Expr} {ta : TA} {p pos : Pos} (hg : Gl X "range") (hm : X.mg "range" = none) (ha : PA X [a, b] ta) (hs : starEach [a, b] X.env = [(false, eval a X.env), (false, eval b X.env)] := by rfl) (hs2 : starEach [b] X.env = [(false, eval b X.env)] := by rfl) :
    PI X tg (.Call (.Name "range" p) [a, b] [] pos) (iRng2 ta) := by
  intro pins s σ H R I h
  refine Call_ (ld_blt I hg hm boot_range (PyProof.Rows.callWith_type1 (thn (ha pos pins s σ H _ I h) fun us s1 ⟨vs, H1, I1, r1, q1⟩ => ?_) (by rw [hs, hs2]) (by rw [hs2]; rfl)))
  obtain ⟨i, j, e, ⟨q1, q2, q3, q4⟩, q⟩ := q1
  subst e
  cases r1 with
  | cons r rr =>
    cases rr with
    | cons r' rr =>
      cases rr
      obtain ⟨t, rfl⟩ := r
      obtain ⟨t', rfl⟩ := r'
      exact call_range_2 (range_it I1 q1 q2 q3 q4 q)
def tFor (wi : TI) (g : TG) (tb : TS) : TS := fun D σ H => wi σ H fun J H1 => ∃ W : Nat → Nat → St → Hp → Prop, (∃ m, W 0 m σ H1) ∧ ∀ i m σ H, W i m σ H →
  (J.stop i H ∧ D.nx σ H) ∨ (J.go i H ∧ ∃ N : St → Hp → Prop, (∀ σ' H', N σ' H' → ∃ m', m' < m ∧ W (i + 1) m' σ' H') ∧ ∀ x H', J.yld i H x H' → g x σ H' fun σ2 H2 => tb { D with nx := N, ct := N, bk := D.nx } σ2 H2)
def pinsAt (fp : List Addr) (h : Heap) : List (Addr × Obj) := fp.filterMap fun b => (h.get? b).map fun o => (b, o)
theorem mem_pinsAt {fp : List Addr} {h : Heap} {b : Addr} {o : Obj} (hb : b ∈ fp) (e : h.get? b = some o) : (b, o) ∈ pinsAt fp h := List.mem_filterMap.mpr ⟨b, hb, by rw [e]; rfl⟩
theorem of_pinsAt {fp : List Addr} {h : Heap} {p : Addr × Obj} (hp : p ∈ pinsAt fp h) : p.1 ∈ fp ∧ h.get? p.1 = some p.2 := by
  obtain ⟨b, hb, e⟩ := List.mem_filterMap.mp hp
  cases q : h.get? b with
  | none => rw [q] at e; cases e
  | some o =>
    rw [q] at e
    have e' : (b, o) = p := Option.some.inj e
    subst e'
    exact ⟨hb, q⟩
theorem Inv.pinned {pins : List (Addr × Obj)} {σ : St} {H : Hp} {s : Shared} {fp : List Addr} (I : Inv X pins σ H s) (hf : ∀ b ∈ fp, FpOk X pins H b) (ho : ∀ b ∈ fp, ∃ o, s.heap.get? b = some o ∧ ∀ v, o.data ≠ .cell v) : Inv X (pins ++ pinsAt fp s.heap) σ H s :=
  I.pins_of fun p hp => (List.mem_append.mp hp).elim (fun z => I.pin p (List.mem_append_right _ z)) fun z => by
    obtain ⟨hb, e⟩ := of_pinsAt z
    obtain ⟨f0, f1, f2, _⟩ := hf p.1 hb
    obtain ⟨o, e', d⟩ := ho p.1 hb
    rw [e] at e'; cases e'
    exact ⟨e, f0, f1, f2, d⟩
theorem Inv.unpinned {pins pl : List (Addr × Obj)} {σ : St} {H : Hp} {s : Shared} (I : Inv X (pins ++ pl) σ H s) : Inv X pins σ H s := I.pins_of fun p hp => I.pin p (List.mem_append_right _ (List.mem_append_left _ hp))
theorem ps_for {iter : Expr} {body : List Stmt} {wi : TI} {g : TG} {tb : TS} {pos : Pos} (hp : PassesOwn (model X.prog X.w) X.A X.env X.xe) (hc : X.calm = true) (hi : PI X tg iter wi) (hg : PG X tg g) (hb : PSs X body tb)
    (hs : ∀ x, foldedSetIterable iter X.env x = pure x := by intro _; rfl) : PS X (.For tg iter body [] pos) (tFor wi g tb) := by
  intro pins s σ H D I h
  refine wpAny_For (thn (hi pins s σ H _ I h) fun v s1 h1 => thn h1 fun itv s2 h2 => ?_) hs
  obtain ⟨it, fp, tn, J, H2, e, I2, T, st2, f2, W, ⟨m0, w0⟩, turn⟩ := h2
  subst e
  have stat : ∀ {H' : Hp}, (∀ b ∈ fp, H' b = none) → ∀ b ∈ fp, FpOk X pins H' b := fun hn b hb => ⟨hn b hb, (f2 b hb).2⟩
  refine codeAny_forLoop_any (fun n s' => ∃ i σ' H', Inv X pins σ' H' s' ∧ tn i s'.heap ∧ (∀ b ∈ fp, H' b = none) ∧ W i n σ' H') ?_ m0 ⟨0, σ, H2, I2, st2, fun b hb => (f2 b hb).1, w0⟩
  rintro n s3 ⟨i, σ3, H3, I3, st3, fr3, w3⟩
  rcases turn i n σ3 H3 w3 with ⟨stop, qn⟩ | ⟨go, N, hN, step⟩
  · refine wpAny_passesOwn hp (thn (T.done X rfl rfl rfl hc i pins s3 σ3 H3 X.xe I3 (stat fr3) st3 stop) fun r s4 ⟨hr, I4⟩ => ?_)
    subst hr
    exact wpAny_execs_nil ⟨σ3, H3, I4, qn⟩
  · refine wpAny_passesOwn hp (thn (T.item X rfl rfl rfl hc i pins s3 σ3 H3 X.xe I3 (stat fr3) st3 go) fun r s4 ⟨u, hr, h4⟩ => ?_)
    subst hr
    refine wpAny_passesOwn hp (thn h4 fun _ s5 ⟨x, H5, I5, r5, y5, st5, fr5⟩ => ?_)
    have I5' := I5.pinned (stat fr5) (T.obj _ _ st5)
    refine wpAny_passesOwn hp (thn (hg _ s5 σ3 H5 x u _ I5' r5 (step x H5 y5)) fun _ s6 ⟨σ6, H6, I6, q6⟩ => ?_)
    refine wpAny_passesOwn hp (thn (hb _ s6 σ6 H6 _ I6 q6) fun f s7 q7 => ?_)
    have again : ∀ {σ7 : St} {H7 : Hp}, Inv X (pins ++ pinsAt fp s5.heap) σ7 H7 s7 → N σ7 H7 → ∃ m, m < n ∧ ∃ i σ' H', Inv X pins σ' H' s7 ∧ tn i s7.heap ∧ (∀ b ∈ fp, H' b = none) ∧ W i m σ' H' := fun {σ7 H7} I7 n7 => by
      obtain ⟨m', hm, w7⟩ := hN σ7 H7 n7
      refine ⟨m', hm, i + 1, σ7, H7, I7.unpinned, T.keep _ _ _ st5 fun b hb o e => (I7.pin (b, o) (List.mem_append_right _ (List.mem_append_right _ (mem_pinsAt hb e)))).1, fun b hb => ?_, w7⟩
      obtain ⟨o, e, d⟩ := T.obj _ _ st5 b hb
      exact (I7.pin (b, o) (List.mem_append_right _ (List.mem_append_right _ (mem_pinsAt hb e)))).2.1
    cases f with
    | next => obtain ⟨σ7, H7, I7, n7⟩ := q7; exact again I7 n7
    | cont => obtain ⟨σ7, H7, I7, n7⟩ := q7; exact again I7 n7
    | brk => obtain ⟨σ7, H7, I7, q7⟩ := q7; exact ⟨σ7, H7, I7.unpinned, q7⟩
    | ret v => obtain ⟨x7, σ7, H7, I7, r7, q7⟩ := q7; exact ⟨x7, σ7, H7, I7.unpinned, r7, q7⟩
end
theorem for_list {K : PySem.W.Frag} {a : Addr} {xs : List V} {g : TG} {tb : TS} {D : Ends} {σ : St} {H : Hp} (Pv : Nat → St → Hp → Prop) (h0 : Pv 0 σ H) (hl : ∀ i σ H, i ≤ xs.length → Pv i σ H → SqL K H a xs)
    (hs : ∀ i x σ H, xs[i]? = some x → Pv i σ H → g x σ H fun σ2 H2 => tb { D with nx := Pv (i + 1), ct := Pv (i + 1), bk := D.nx } σ2 H2) (hd : ∀ σ H, Pv xs.length σ H → D.nx σ H) :
    ∃ W : Nat → Nat → St → Hp → Prop, (∃ m, W 0 m σ H) ∧ ∀ i m σ H, W i m σ H →
      ((Itl K a).stop i H ∧ D.nx σ H) ∨ ((Itl K a).go i H ∧ ∃ N : St → Hp → Prop, (∀ σ' H', N σ' H' → ∃ m', m' < m ∧ W (i + 1) m' σ' H') ∧ ∀ x H', (Itl K a).yld i H x H' → g x σ H' fun σ2 H2 => tb { D with nx := N, ct := N, bk := D.nx } σ2 H2) := by
  refine ⟨fun i m σ H => m = xs.length - i ∧ i ≤ xs.length ∧ Pv i σ H, ⟨xs.length, by simp, Nat.zero_le _, h0⟩, ?_⟩
  rintro i m σ H ⟨rfl, hi, p⟩
  have q := hl i σ H hi p
  by_cases hlt : i < xs.length
  · refine .inr ⟨⟨xs, xs[i], q, by simp [hlt]⟩, Pv (i + 1), fun σ' H' p' => ⟨xs.length - (i + 1), by omega, rfl, hlt, p'⟩, fun x H' y => ?_⟩
    obtain ⟨e, y⟩ := y
    subst e
    exact hs i x σ _ (y xs q) p
  · have e : i = xs.length := by omega
    subst e
    exact .inl ⟨⟨xs, q, Nat.le_refl _⟩, hd σ H p⟩
theorem for_range {lo : Int} {n : Nat} {g : TG} {tb : TS} {D : Ends} {σ : St} {H : Hp} (Pv : Nat → St → Hp → Prop) (h0 : Pv 0 σ H)
    (hs : ∀ i σ H, i < n → Pv i σ H → g (.int (lo + i)) σ H fun σ2 H2 => tb { D with nx := Pv (i + 1), ct := Pv (i + 1), bk := D.nx } σ2 H2) (hd : ∀ σ H, Pv n σ H → D.nx σ H) :
    ∃ W : Nat → Nat → St → Hp → Prop, (∃ m, W 0 m σ H) ∧ ∀ i m σ H, W i m σ H →
      ((Itr lo n).stop i H ∧ D.nx σ H) ∨ ((Itr lo n).go i H ∧ ∃ N : St → Hp → Prop, (∀ σ' H', N σ' H' → ∃ m', m' < m ∧ W (i + 1) m' σ' H') ∧ ∀ x H', (Itr lo n).yld i H x H' → g x σ H' fun σ2 H2 => tb { D with nx := N, ct := N, bk := D.nx } σ2 H2) := by
  refine ⟨fun i m σ H => m = n - i ∧ i ≤ n ∧ Pv i σ H, ⟨n, by simp, Nat.zero_le _, h0⟩, ?_⟩
  rintro i m σ H ⟨rfl, hi, p⟩
  by_cases hlt : i < n
  · refine .inr ⟨hlt, Pv (i + 1), fun σ' H' p' => ⟨n - (i + 1), by omega, rfl, hlt, p'⟩, fun x H' y => ?_⟩
    obtain ⟨e, y⟩ := y
    subst e y
    exact hs i σ _ hlt p
  · have e : i = n := by omega
    subst e
    exact .inl ⟨Nat.le_refl _, hd σ H p⟩
end L2
namespace L2
open PySem PySem.Spec PyProof.Rows
abbrev R2 := V → V → Hp → VK → Prop
def OpR (X : Cx) (f : Value → Value → Sem Value) (r : R2) : Prop :=
  ∀ (pins : List (Addr × Obj)) (s : Shared) (σ : St) (H : Hp) (x y : V) (v u : Value) (Q : VK), Inv X pins σ H s → RelV x v → RelV y u → r x y H Q →
    wpAny (model X.prog X.w) X.A (f v u) (EP X pins σ Q) X.xe s
def UnR (X : Cx) (f : Value → Sem Value) (r : V → Hp → VK → Prop) : Prop :=
  ∀ (pins : List (Addr × Obj)) (s : Shared) (σ : St) (H : Hp) (x : V) (v : Value) (Q : VK), Inv X pins σ H s → RelV x v → r x H Q →
    wpAny (model X.prog X.w) X.A (f v) (EP X pins σ Q) X.xe s
def CallR (X : Cx) (f : Value) (r : List V → Hp → VK → Prop) : Prop :=
  ∀ (pins : List (Addr × Obj)) (s : Shared) (σ : St) (H : Hp) (xs : List V) (us : List Value) (Q : VK), Inv X pins σ H s → Vals xs us → r xs H Q →
    wpAny (model X.prog X.w) X.A (call f us) (EP X pins σ Q) X.xe s
def TruR (X : Cx) (r : V → Hp → (Bool → Hp → Prop) → Prop) : Prop :=
  ∀ (pins : List (Addr × Obj)) (s : Shared) (σ : St) (H : Hp) (x : V) (v : Value) (Q : Bool → Hp → Prop), Inv X pins σ H s → RelV x v → r x H Q →
    wpAny (model X.prog X.w) X.A (truthy v) (TP X pins σ Q) X.xe s
def tOp (r : R2) (ta tb : TE) : TE := fun σ H Q => ta σ H fun x H1 => tb σ H1 fun y H2 => r x y H2 Q
def tUn (r : V → Hp → VK → Prop) (ta : TE) : TE := fun σ H Q => ta σ H fun x H1 => r x H1 Q
def rI (C : Int → Int → Prop) (g : Int → Int → V) : R2 := fun x y H Q => ∃ i j, x = .int i ∧ y = .int j ∧ C i j ∧ Q (g i j) H
def rI0 (g : Int → Int → V) : R2 := fun x y H Q => ∃ i j, x = .int i ∧ y = .int j ∧ Q (g i j) H
def rU (g : Int → V) : V → Hp → VK → Prop := fun x H Q => ∃ i, x = .int i ∧ Q (g i) H
section
variable {X : Cx} {a b c : Expr} {ta tb tc : TE} {pos : Pos}
theorem binT (ha : PE X a ta) (hb : PE X b tb) {pins : List (Addr × Obj)} {s : Shared} {σ : St} {H : Hp} {R : V → V → Hp → Prop} (I : Inv X pins σ H s)
    (h : ta σ H fun x H1 => tb σ H1 fun y H2 => R x y H2) {Q : Value → Shared → Prop} {f : Value → Value → Sem Value}
    (hf : ∀ v u s2 x y H2, Inv X pins σ H2 s2 → RelV x v → RelV y u → R x y H2 → wpAny (model X.prog X.w) X.A (f v u) Q X.xe s2) :
    wpAny (model X.prog X.w) X.A (eval a X.env) (fun v s₁ => wpAny (model X.prog X.w) X.A (eval b X.env) (fun u s₂ => wpAny (model X.prog X.w) X.A (f v u) Q X.xe s₂) X.xe s₁) X.xe s := by
  refine thn (ha pins s σ H _ I h) fun v s1 ⟨x, H1, I1, r1, q1⟩ => ?_
  refine thn (hb pins s1 σ H1 _ I1 q1) fun u s2 ⟨y, H2, I2, r2, q2⟩ => ?_
  exact hf v u s2 x y H2 I2 r1 r2 q2
theorem pe_op {op : Operator} {r : R2} (ho : OpR X (binaryOp op) r) (ha : PE X a ta) (hb : PE X b tb) : PE X (.BinOp a op b pos) (tOp r ta tb) := by
  intro pins s σ H Q I h
  exact wpAny_BinOp (binT ha hb I h fun v u s2 x y H2 I2 rx ry q => ho pins s2 σ H2 x y v u Q I2 rx ry q)
theorem pe_un {op : UnaryOp} {r : V → Hp → VK → Prop} (ho : UnR X (unaryOp op) r) (ha : PE X a ta) : PE X (.UnaryOp op a pos) (tUn r ta) := by
  intro pins s σ H Q I h
  exact UnaryOp_ (thn (ha pins s σ H _ I h) fun v s1 ⟨x, H1, I1, r1, q1⟩ => ho pins s1 σ H1 x v Q I1 r1 q1)
theorem opI {f : Value → Value → Sem Value} {C : Int → Int → Prop} {g : Int → Int → Int}
    (rule : ∀ (i j : Int) (t u : Tok) (s : Shared) (Q : Value → Shared → Prop) (E : Value → Shared → Prop), C i j → Q (.int (g i j) s.toks) { s with toks := s.toks + 1 } → wpAny (model X.prog X.w) X.A (f (.int i t) (.int j u)) Q E s) :
    OpR X f (rI C fun i j => .int (g i j)) := by
  intro pins s σ H x y v u Q I rx ry h
  obtain ⟨i, j, rfl, rfl, hc, q⟩ := h
  obtain ⟨t, rfl⟩ := rx
  obtain ⟨t', rfl⟩ := ry
  exact rule i j t t' s _ _ hc ⟨.int (g i j), H, I.tok _, ⟨_, rfl⟩, q⟩
theorem opI0 {f : Value → Value → Sem Value} {g : Int → Int → Int}
    (rule : ∀ (i j : Int) (t u : Tok) (s : Shared) (Q : Value → Shared → Prop) (E : Value → Shared → Prop), Q (.int (g i j) s.toks) { s with toks := s.toks + 1 } → wpAny (model X.prog X.w) X.A (f (.int i t) (.int j u)) Q E s) :
    OpR X f (rI0 fun i j => .int (g i j)) := by
  intro pins s σ H x y v u Q I rx ry h
  obtain ⟨i, j, rfl, rfl, q⟩ := h
  obtain ⟨t, rfl⟩ := rx
  obtain ⟨t', rfl⟩ := ry
  exact rule i j t t' s _ _ ⟨.int (g i j), H, I.tok _, ⟨_, rfl⟩, q⟩
theorem opB0 {f : Value → Value → Sem Value} {g : Int → Int → Bool}
    (rule : ∀ (i j : Int) (t u : Tok) (s : Shared) (Q : Value → Shared → Prop) (E : Value → Shared → Prop), Q (.bool (g i j)) s → wpAny (model X.prog X.w) X.A (f (.int i t) (.int j u)) Q E s) :
    OpR X f (rI0 fun i j => .bl (g i j)) := by
  intro pins s σ H x y v u Q I rx ry h
  obtain ⟨i, j, rfl, rfl, q⟩ := h
  obtain ⟨t, rfl⟩ := rx
  obtain ⟨t', rfl⟩ := ry
  exact rule i j t t' s _ _ ⟨.bl (g i j), H, I, rfl, q⟩
def CDiv (i j : Int) : Prop := 0 < j ∧ j < 1073741824
def CMul (i j : Int) : Prop := (-(2 ^ 64) < i ∧ i < 2 ^ 64) ∨ (-(2 ^ 64) < j ∧ j < 2 ^ 64)
theorem CMul.ok {i j : Int} (h : CMul i j) : IntMulOk i j := by
  rcases h with ⟨h1, h2⟩ | ⟨h1, h2⟩
  · exact .of_left (intBits_le_64 h1 h2)
  · exact .of_right (intBits_le_64 h1 h2)
theorem op_add : OpR X (binaryOp .Add) (rI0 fun i j => .int (i + j)) := opI0 fun _ _ _ _ _ _ _ q => add_int q
theorem op_sub : OpR X (binaryOp .Sub) (rI0 fun i j => .int (i - j)) := opI0 fun _ _ _ _ _ _ _ q => sub_int q
theorem op_mul : OpR X (binaryOp .Mult) (rI CMul fun i j => .int (i * j)) := opI fun _ _ _ _ _ _ _ hc q => mul_int q hc.ok
theorem op_fdiv : OpR X (binaryOp .FloorDiv) (rI CDiv fun i j => .int (i / j)) := opI fun i j _ _ _ _ _ hc q => by
  have h1 : (0 : Int) < j := hc.1
  have h2 : j < 1073741824 := hc.2
  exact floordiv_int (by omega) (by rw [Int.fdiv_eq_ediv_of_nonneg i (by omega)]; exact q) (.inl (PyProof.noPylong_small (by omega)))
theorem op_mod : OpR X (binaryOp .Mod) (rI (fun _ j => 0 < j) fun i j => .int (i % j)) := opI fun i j _ _ _ _ _ hc q => by
  have h1 : (0 : Int) < j := hc
  exact mod_int' (by omega) (by rw [Int.fmod_eq_emod_of_nonneg i (by omega)]; exact q)
theorem unI {f : Value → Sem Value} {g : Int → Int}
    (rule : ∀ (i : Int) (t : Tok) (s : Shared) (Q : Value → Shared → Prop) (E : Value → Shared → Prop), Q (.int (g i) s.toks) { s with toks := s.toks + 1 } → wpAny (model X.prog X.w) X.A (f (.int i t)) Q E s) :
    UnR X f (rU fun i => .int (g i)) := by
  intro pins s σ H x v Q I rx h
  obtain ⟨i, rfl, q⟩ := h
  obtain ⟨t, rfl⟩ := rx
  exact rule i t s _ _ ⟨.int (g i), H, I.tok _, ⟨_, rfl⟩, q⟩
theorem un_neg : UnR X (unaryOp .USub) (rU fun i => .int (-i)) := unI fun _ _ _ _ _ q => neg_int q
end
def scal : V → V → Bool
  | .non, .non => true | .non, .int _ => true | .int _, .non => true | .non, .bl _ => true | .bl _, .non => true | .non, .str _ => true | .str _, .non => true
  | .int _, .int _ => true | .bl _, .bl _ => true | .str _, .str _ => true | .byt _, .byt _ => true
  | .int _, .str _ => true | .str _, .int _ => true | .bl _, .str _ => true | .str _, .bl _ => true
  | _, _ => false
def rEq : R2 := fun x y H Q => scal x y = true ∧ Q (.bl (decide (x = y))) H
def rNe : R2 := fun x y H Q => scal x y = true ∧ Q (.bl (!decide (x = y))) H
theorem dec_int {i j : Int} : decide (V.int i = V.int j) = (i == j) := by
  rw [Bool.eq_iff_iff]
  simp
theorem dec_bl {i j : Bool} : decide (V.bl i = V.bl j) = (i == j) := by
  rw [Bool.eq_iff_iff]
  simp
theorem dec_str {i j : Str} : decide (V.str i = V.str j) = (i == j) := by
  rw [Bool.eq_iff_iff]
  simp
theorem dec_byt {i j : Array UInt8} : decide (V.byt i = V.byt j) = (i.toList == j.toList) := by
  rw [Bool.eq_iff_iff]
  cases i
  cases j
  simp
section
variable {X : Cx} {a b c : Expr} {ta tb tc : TE} {pos : Pos}
theorem fin_bl {pins : List (Addr × Obj)} {σ : St} {H : Hp} {s : Shared} {Q : VK} {k k' : Bool} (I : Inv X pins σ H s) (q : Q (.bl k) H) (e : k = k') : EP X pins σ Q (.bool k') s := by
  subst e
  exact ⟨.bl k, H, I, rfl, q⟩
theorem op_eq : OpR X (compareOp .Eq) rEq := by
  intro pins s σ H x y v u Q I rx ry h
  obtain ⟨hs, q⟩ := h
  cases x with
  | non =>
    cases rx
    cases y with
    | non => cases ry; exact PySem.EqNone.eq_none_none (fin_bl I q (by simp))
    | bl j => cases ry; exact PySem.EqNone.eq_none_bool (fin_bl I q (by simp))
    | int j => obtain ⟨t', rfl⟩ := ry; exact PySem.EqNone.eq_none_int (fin_bl I q (by simp))
    | str j => obtain ⟨t', rfl⟩ := ry; exact PySem.EqNone.eq_none_str (fin_bl I q (by simp))
    | _ => exact absurd (show false = true from hs) Bool.false_ne_true
  | bl i =>
    cases rx
    cases y with
    | non => cases ry; exact PySem.EqNone.eq_bool_none (fin_bl I q (by simp))
    | bl j => cases ry; exact eq_bool (fin_bl I q dec_bl)
    | str j => obtain ⟨t', rfl⟩ := ry; exact PySem.EqMixed.eq_bool_str (fin_bl I q (by simp))
    | _ => exact absurd (show false = true from hs) Bool.false_ne_true
  | int i =>
    obtain ⟨t, rfl⟩ := rx
    cases y with
    | non => cases ry; exact PySem.EqNone.eq_int_none (fin_bl I q (by simp))
    | int j => obtain ⟨t', rfl⟩ := ry; exact eq_int (fin_bl I q dec_int)
    | str j => obtain ⟨t', rfl⟩ := ry; exact PySem.EqMixed.eq_int_str (fin_bl I q (by simp))
    | _ => exact absurd (show false = true from hs) Bool.false_ne_true
  | str i =>
    obtain ⟨t, rfl⟩ := rx
    cases y with
    | non => cases ry; exact PySem.EqNone.eq_str_none (fin_bl I q (by simp))
    | bl j => cases ry; exact PySem.EqMixed.eq_str_bool (fin_bl I q (by simp))
    | int j => obtain ⟨t', rfl⟩ := ry; exact PySem.EqMixed.eq_str_int (fin_bl I q (by simp))
    | str j => obtain ⟨t', rfl⟩ := ry; exact eq_str (fin_bl I q dec_str)
    | _ => exact absurd (show false = true from hs) Bool.false_ne_true
  | byt i =>
    obtain ⟨t, rfl⟩ := rx
    cases y with
    | byt j => obtain ⟨t', rfl⟩ := ry; exact PySem.W.eq_bytes (fin_bl I q dec_byt)
    | _ => exact absurd (show false = true from hs) Bool.false_ne_true
  | _ => cases y <;> exact absurd (show false = true from hs) Bool.false_ne_true
theorem op_ne : OpR X (compareOp .NotEq) rNe := by
  intro pins s σ H x y v u Q I rx ry h
  obtain ⟨hs, q⟩ := h
  cases x with
  | non =>
    cases rx
    cases y with
    | non => cases ry; exact PySem.EqNone.ne_none_none (fin_bl I q (by simp))
    | bl j => cases ry; exact PySem.EqNone.ne_none_bool (fin_bl I q (by simp))
    | int j => obtain ⟨t', rfl⟩ := ry; exact PySem.EqNone.ne_none_int (fin_bl I q (by simp))
    | str j => obtain ⟨t', rfl⟩ := ry; exact PySem.EqNone.ne_none_str (fin_bl I q (by simp))
    | _ => exact absurd (show false = true from hs) Bool.false_ne_true
  | bl i =>
    cases rx
    cases y with
    | non => cases ry; exact PySem.EqNone.ne_bool_none (fin_bl I q (by simp))
    | bl j => cases ry; exact ne_bool (fin_bl I q (congrArg not dec_bl))
    | str j => obtain ⟨t', rfl⟩ := ry; exact PySem.EqMixed.ne_bool_str (fin_bl I q (by simp))
    | _ => exact absurd (show false = true from hs) Bool.false_ne_true
  | int i =>
    obtain ⟨t, rfl⟩ := rx
    cases y with
    | non => cases ry; exact PySem.EqNone.ne_int_none (fin_bl I q (by simp))
    | int j => obtain ⟨t', rfl⟩ := ry; exact ne_int (fin_bl I q (congrArg not dec_int))
    | str j => obtain ⟨t', rfl⟩ := ry; exact PySem.EqMixed.ne_int_str (fin_bl I q (by simp))
    | _ => exact absurd (show false = true from hs) Bool.false_ne_true
  | str i =>
    obtain ⟨t, rfl⟩ := rx
    cases y with
    | non => cases ry; exact PySem.EqNone.ne_str_none (fin_bl I q (by simp))
    | bl j => cases ry; exact PySem.EqMixed.ne_str_bool (fin_bl I q (by simp))
    | int j => obtain ⟨t', rfl⟩ := ry; exact PySem.EqMixed.ne_str_int (fin_bl I q (by simp))
    | str j => obtain ⟨t', rfl⟩ := ry; exact ne_str (fin_bl I q (congrArg not dec_str))
    | _ => exact absurd (show false = true from hs) Bool.false_ne_true
  | byt i =>
    obtain ⟨t, rfl⟩ := rx
    cases y with
    | byt j => obtain ⟨t', rfl⟩ := ry; exact PySem.W.ne_bytes (fin_bl I q (congrArg not dec_byt))
    | _ => exact absurd (show false = true from hs) Bool.false_ne_true
  | _ => cases y <;> exact absurd (show false = true from hs) Bool.false_ne_true
theorem op_lt : OpR X (compareOp .Lt) (rI0 fun i j => .bl (decide (i < j))) := opB0 fun _ _ _ _ _ _ _ q => lt_int q
theorem op_le : OpR X (compareOp .LtE) (rI0 fun i j => .bl (decide (i ≤ j))) := opB0 fun _ _ _ _ _ _ _ q => le_int q
theorem op_gt : OpR X (compareOp .Gt) (rI0 fun i j => .bl (decide (j < i))) := opB0 fun _ _ _ _ _ _ _ q => gt_int q
theorem op_lt_str : OpR X (compareOp .Lt) (fun x y H Q => ∃ i j, x = .str i ∧ y = .str j ∧ Q (.bl (decide (i.cps.toList < j.cps.toList))) H) := by
  intro pins s σ H x y v u Q I rx ry h
  obtain ⟨i, j, rfl, rfl, q⟩ := h
  obtain ⟨t, rfl⟩ := rx
  obtain ⟨t', rfl⟩ := ry
  exact lt_str (fin_bl I q rfl)
theorem op_in_str : OpR X (compareOp .In) (fun x y H Q => ∃ i j, x = .str i ∧ y = .str j ∧ Q (.bl (!(Builtin.Str.occurrences j i 0 j.length 1).isEmpty)) H) := by
  intro pins s σ H x y v u Q I rx ry h
  obtain ⟨i, j, rfl, rfl, q⟩ := h
  obtain ⟨t, rfl⟩ := rx
  obtain ⟨t', rfl⟩ := ry
  exact in_str (fin_bl I q rfl)
theorem OpR.or {f : Value → Value → Sem Value} {r r' : R2} (h : OpR X f r) (h' : OpR X f r') : OpR X f (fun x y H Q => r x y H Q ∨ r' x y H Q) := by
  intro pins s σ H x y v u Q I rx ry q
  rcases q with q | q
  · exact h pins s σ H x y v u Q I rx ry q
  · exact h' pins s σ H x y v u Q I rx ry q
theorem nomark (b : Expr) {op : CmpOp} (h : op ≠ .In := by decide) (h2 : op ≠ .NotIn := by decide) : behindInMarks op b = false := by
  have e1 : (op == CmpOp.In) = false := by cases op <;> first | rfl | exact absurd rfl h
  have e2 : (op == CmpOp.NotIn) = false := by cases op <;> first | rfl | exact absurd rfl h2
  cases b <;> simp [behindInMarks, e1, e2]
theorem pe_cmpR {op : CmpOp} {r : R2} (ho : OpR X (compareOp op) r) (ha : PE X a ta) (hb : PE X b tb) (hm : behindInMarks op b = false) : PE X (.Compare a [op] [b] pos) (tOp r ta tb) := by
  intro pins s σ H Q I h
  exact wpAny_Compare1 (binT ha hb I h fun v u s2 x y H2 I2 rx ry q => ho pins s2 σ H2 x y v u Q I2 rx ry q) hm
def tTest (t : TE) : TT := fun σ H Q => t σ H fun x H' => ∃ k, x = .bl k ∧ Q k H'
theorem pt_cmpR {op : CmpOp} {r : R2} (ho : OpR X (compareOp op) r) (ha : PE X a ta) (hb : PE X b tb) (hm : behindInMarks op b = false) : PT X (.Compare a [op] [b] pos) (tTest (tOp r ta tb)) := by
  intro pins s σ H Q I h
  refine wpAny_isTrue_Compare1 (thn (ha pins s σ H _ I h) fun v s1 ⟨x, H1, I1, r1, q1⟩ => thn (hb pins s1 σ H1 _ I1 q1) fun u s2 ⟨y, H2, I2, r2, q2⟩ =>
    thn (ho pins s2 σ H2 x y v u _ I2 r1 r2 q2) fun c s3 ⟨z, H3, I3, r3, k, e, q3⟩ => ?_) hm
  subst e
  cases r3
  exact wpAny_truthy_bool ⟨H3, I3, q3⟩
def TruV (K : PySem.W.Frag) (x : V) (H : Hp) (k : Bool) : Prop :=
  match x with
  | .non => k = false
  | .bl b => k = b
  | .int i => k = (i != 0)
  | .str y => y.length ≤ sizeLine ∧ k = ((y.length : Int) != 0)
  | .byt y => y.size ≤ sizeLine ∧ k = ((y.size : Int) != 0)
  | .ref p => (∃ xs, SqL K H p xs ∧ k = !xs.isEmpty) ∨ (∃ xs, SqT K H p xs ∧ k = !xs.isEmpty) ∨ ∃ kvs, H p = some (.dK kvs) ∧ k = !kvs.isEmpty
  | _ => False
theorem isEmpty_kv {κ : Type} {kvs : List (κ × V)} {vs : List (κ × Value)} (r : KV kvs vs) : (!vs.isEmpty) = !kvs.isEmpty := by
  cases r <;> rfl
theorem isEmpty_of {xs : List V} {its : List Value} (r : Vals xs its) : (!its.toArray.isEmpty) = !xs.isEmpty := by
  cases r <;> simp
theorem line63 : (sizeLine : Nat) < 2 ^ 63 := by rw [sizeLine_eq]; decide
theorem tru_ok : TruR X (fun x H Q => ∃ k, TruV X.K x H k ∧ Q k H) := by
  intro pins s σ H x v Q I rx h
  obtain ⟨k, e, q⟩ := h
  have hl := line63
  have hs : sizeLine = 16777216 := sizeLine_eq
  cases x with
  | non =>
    cases rx
    have e' : k = false := e
    subst e'
    exact truthy_none ⟨H, I, q⟩
  | bl b =>
    cases rx
    have e' : k = b := e
    subst e'
    exact wpAny_truthy_bool ⟨H, I, q⟩
  | int i =>
    obtain ⟨t, rfl⟩ := rx
    have e' : k = (i != 0) := e
    subst e'
    exact PySem.P.truthy_int ⟨H, I, q⟩
  | str y =>
    obtain ⟨t, rfl⟩ := rx
    obtain ⟨hy, e'⟩ : y.length ≤ sizeLine ∧ k = ((y.length : Int) != 0) := e
    subst e'
    exact PySem.P.truthy_str (by omega) ⟨H, I.tok _, q⟩
  | byt y =>
    obtain ⟨t, rfl⟩ := rx
    obtain ⟨hy, e'⟩ : y.size ≤ sizeLine ∧ k = ((y.size : Int) != 0) := e
    subst e'
    exact PySem.W.truthy_bytes (by omega) ⟨H, I.tok _, q⟩
  | ref p =>
    cases rx
    have e' : (∃ xs, SqL X.K H p xs ∧ k = !xs.isEmpty) ∨ (∃ xs, SqT X.K H p xs ∧ k = !xs.isEmpty) ∨ ∃ kvs, H p = some (.dK kvs) ∧ k = !kvs.isEmpty := e
    rcases e' with ⟨xs, hx, e'⟩ | ⟨xs, hx, e'⟩ | ⟨kvs, hx, e'⟩
    · subst e'
      obtain ⟨its, r, pl, hz⟩ := I.list hx
      have hlen := r.length
      exact wpAny_truthy_list pl.isList (by simp only [List.size_toArray]; omega) ⟨H, I.tok _, by rw [isEmpty_of r]; exact q⟩
    · subst e'
      obtain ⟨its, r, pl, hz⟩ := I.tuple hx
      have hlen := r.length
      exact truthy_tuple pl (by simp only [List.size_toArray]; omega) ⟨H, I.tok _, by rw [isEmpty_of r]; exact q⟩
    · subst e'
      obtain ⟨hz, hS, vs, r, m⟩ : kvs.length ≤ sizeLine ∧ (p == sysModules) = false ∧ ∃ vs, KV kvs vs ∧ s.heap.DictOf (mixKind X.prog X.w) p vs := I.hok p _ hx
      have hlen : kvs.length = vs.length := Paired.length r
      exact wpAny_truthy_dict hS m (by omega) ⟨H, I.tok _, by rw [isEmpty_kv r]; exact q⟩
  | _ => exact (show False from e).elim
theorem op_add_str : OpR X (binaryOp .Add) (fun x y H Q => ∃ i j, x = .str i ∧ y = .str j ∧ i.length + j.length ≤ sizeLine ∧ Q (.str (i ++ j)) H) := by
  intro pins s σ H x y v u Q I rx ry h
  obtain ⟨i, j, rfl, rfl, hz, q⟩ := h
  obtain ⟨t, rfl⟩ := rx
  obtain ⟨t', rfl⟩ := ry
  exact add_str (fun t' tk => ⟨.str (i ++ j), H, I.tok _, ⟨_, rfl⟩, q⟩) hz
theorem vals1 {x : V} {us : List Value} (r : Vals [x] us) : ∃ u, us = [u] ∧ RelV x u := by
  cases r with
  | cons r1 r2 => cases r2; exact ⟨_, rfl, r1⟩
theorem vals2 {x y : V} {us : List Value} (r : Vals [x, y] us) : ∃ u w', us = [u, w'] ∧ RelV x u ∧ RelV y w' := by
  cases r with
  | cons r1 r2 =>
    cases r2 with
    | cons r3 r4 => cases r4; exact ⟨_, _, rfl, r1, r3⟩
theorem call_max2 (hc : X.calm = true) : CallR X (.builtin "max") (fun xs H Q => ∃ i j, xs = [.int i, .int j] ∧ Q (.int (if j > i then j else i)) H) := by
  intro pins s σ H xs us Q I r h
  obtain ⟨i, j, rfl, q⟩ := h
  obtain ⟨u, w', rfl, ⟨t, rfl⟩, ⟨t', rfl⟩⟩ := vals2 r
  refine max_two_ints (I.ok.hd hc) fun h' tk k => ⟨_, H, I.kept k, ?_, q⟩
  by_cases hj : j > i
  · rw [if_pos hj, if_pos hj]; exact ⟨_, rfl⟩
  · rw [if_neg hj, if_neg hj]; exact ⟨_, rfl⟩
theorem call_min2 (hc : X.calm = true) : CallR X (.builtin "min") (fun xs H Q => ∃ i j, xs = [.int i, .int j] ∧ Q (.int (if j < i then j else i)) H) := by
  intro pins s σ H xs us Q I r h
  obtain ⟨i, j, rfl, q⟩ := h
  obtain ⟨u, w', rfl, ⟨t, rfl⟩, ⟨t', rfl⟩⟩ := vals2 r
  refine min_two_ints (I.ok.hd hc) fun h' tk k => ⟨_, H, I.kept k, ?_, q⟩
  by_cases hj : j < i
  · rw [if_pos hj, if_pos hj]; exact ⟨_, rfl⟩
  · rw [if_neg hj, if_neg hj]; exact ⟨_, rfl⟩
theorem call_int1 : CallR X (.type "int") (fun xs H Q => (∃ i, xs = [.int i] ∧ Q (.int i) H) ∨ ∃ k, xs = [.bl k] ∧ Q (.int (if k then 1 else 0)) H) := by
  intro pins s σ H xs us Q I r h
  rcases h with ⟨i, rfl, q⟩ | ⟨k, rfl, q⟩
  · obtain ⟨u, rfl, t, rfl⟩ := vals1 r
    exact call_int_int ⟨.int i, H, I, ⟨_, rfl⟩, q⟩
  · obtain ⟨u, rfl, r1⟩ := vals1 r
    cases r1
    exact call_int_bool ⟨.int (if k then 1 else 0), H, I.tok _, ⟨_, rfl⟩, q⟩
def LenV (K : PySem.W.Frag) (x : V) (H : Hp) (n : Nat) : Prop :=
  match x with
  | .str y => y.length ≤ sizeLine ∧ n = y.length
  | .byt y => y.size ≤ sizeLine ∧ n = y.size
  | .ref p => (∃ xs, SqL K H p xs ∧ n = xs.length) ∨ ∃ xs, SqT K H p xs ∧ n = xs.length
  | _ => False
theorem call_len : CallR X (.builtin "len") (fun xs H Q => ∃ x n, xs = [x] ∧ LenV X.K x H n ∧ Q (.int n) H) := by
  intro pins s σ H xs us Q I r h
  obtain ⟨x, n, rfl, e, q⟩ := h
  obtain ⟨u, rfl, rx⟩ := vals1 r
  have hl := line63
  have hs : sizeLine = 16777216 := sizeLine_eq
  cases x with
  | str y =>
    obtain ⟨t, rfl⟩ := rx
    obtain ⟨hy, e'⟩ : y.length ≤ sizeLine ∧ n = y.length := e
    subst e'
    exact len_str (by omega) ⟨.int _, H, I.tok _, ⟨_, rfl⟩, q⟩
  | byt y =>
    obtain ⟨t, rfl⟩ := rx
    obtain ⟨hy, e'⟩ : y.size ≤ sizeLine ∧ n = y.size := e
    subst e'
    exact PySem.W.len_bytes (by omega) ⟨.int _, H, I.tok _, ⟨_, rfl⟩, q⟩
  | ref p =>
    cases rx
    have e' : (∃ xs, SqL X.K H p xs ∧ n = xs.length) ∨ ∃ xs, SqT X.K H p xs ∧ n = xs.length := e
    rcases e' with ⟨xs, hx, e'⟩ | ⟨xs, hx, e'⟩
    · subst e'
      obtain ⟨its, r', pl, hz⟩ := I.list hx
      have hlen := r'.length
      exact Calls.call_len_list pl.isList (by simp only [List.size_toArray]; omega) ⟨.int xs.length, H, I.tok _, ⟨_, by simp only [List.size_toArray]; rw [hlen]⟩, q⟩
    · subst e'
      obtain ⟨its, r', pl, hz⟩ := I.tuple hx
      have hlen := r'.length
      exact len_tuple pl (by simp only [List.size_toArray]; omega) ⟨.int xs.length, H, I.tok _, ⟨_, by simp only [List.size_toArray]; rw [hlen]⟩, q⟩
  | _ => exact (show False from e).elim
end
end L2
namespace L2
open PySem PySem.Spec PyProof.Rows
structure ObjM (h : Heap) (x dx C : Addr) (mA : Str → Option Value) : Prop where
  obj : h.get? x = some (PySem.W.instObj C dx)
  ns : h.Ns1 dx mA
  ne : dx ≠ x
theorem lookIn_ns {h : Heap} {dx : Addr} {mA : Str → Option Value} (n : h.Ns1 dx mA) : ∃ od, h.get? dx = some od ∧ ∀ name, PySem.W.lookIn name od = some (mA name) := by
  obtain ⟨o, es, ep, ho, hd, hk, _, hm⟩ := n
  refine ⟨o, ho, fun name => ?_⟩
  have e := hm name
  unfold nsFind findBy at e
  rw [← Array.find?_toList] at e
  unfold PySem.W.lookIn
  rw [hd]
  dsimp only
  split
  · rename_i y q
    rw [q] at e
    exact congrArg some e
  · rename_i q
    rw [q] at e
    have a : es.toList.any (·.refKey) = false := by
      rw [List.any_eq_false]
      intro y hy
      obtain ⟨z, t, hkey⟩ := hk y (Array.mem_toList_iff.mp hy)
      simp [DictEntry.refKey, hkey]
    have a' : ¬ es.toList.any (·.refKey) = true := by rw [a]; exact Bool.false_ne_true
    rw [if_neg a']
    exact congrArg some e
theorem ObjM.look {h : Heap} {x dx C : Addr} {mA : Str → Option Value} (I : ObjM h x dx C mA) : ∃ od, PySem.W.InstAt h x (PySem.W.instObj C dx) C (some od) ∧ ∀ name, PySem.W.lookIn name od = some (mA name) :=
  let ⟨od, ho, hl⟩ := lookIn_ns I.ns
  ⟨od, ⟨I.obj, rfl, rfl, ho⟩, hl⟩
section
variable {prog : Program} {w : World} {A : Around} {E : Value → Shared → Prop} {s : Shared} {K : PySem.W.Frag} {x dx C f : Addr} {mA : Str → Option Value} {name : Str} {v : Value}
theorem get_map {expr : Bool} {Q : Value → Shared → Prop} (X : K.In s.heap) (I : ObjM s.heap x dx C mA) (hg : PySem.W.plainGet K C name = true) (hh : PySem.W.hasDictIn K C = true)
    (ha : PySem.W.findIn K (.ref C) name = some none) (hv : mA name = some v) (hv' : PySem.W.handedIn v = true) (h : Q v { s with toks := s.toks + 1 }) :
    wpAny (model prog w) A (getAttr (.ref x) name expr) Q E s := by
  obtain ⟨od, J, hl⟩ := I.look
  exact PySem.W.get_value X J (PySem.W.plainGet_of hg).1 (PySem.W.findObj_own hh ha rfl (by rw [hl, hv])) hv' h
theorem get_meth {pl : Sem Bool} {Q : Value × List Value → Shared → Prop} (X : K.In s.heap) (I : ObjM s.heap x dx C mA) (hg : PySem.W.plainGet K C name = true)
    (hf : PySem.W.findIn K (.ref C) name = some (some (.ref f))) (ht : PySem.W.isFn K (.ref f) = true) (hv : mA name = none) (h : Q (.ref f, [.ref x]) s) :
    wpAny (model prog w) A (getMethod (.ref x) name pl) Q E s := by
  obtain ⟨od, J, hl⟩ := I.look
  exact PySem.W.method_fn X J (PySem.W.plainGet_of hg).1 (PySem.W.plainGet_of hg).2 hf (beq_iff_eq.mp ht) (by show (PySem.W.lookIn name od).map (·.isSome) = some false; rw [hl, hv]; rfl) h
theorem set_map {ns : List Str} {Q : Unit → Shared → Prop} (X : K.In s.heap) (I : ObjM s.heap x dx C mA)
    (hs : PySem.W.findIn K (.ref C) "__setattr__" = some (some (.builtin "object.__setattr__"))) (hp : PySem.W.plainOver K C = true) (ht : PySem.W.takerIn K C name = some none) (hh : PySem.W.hasDictIn K C = true)
    (hw : PySem.Within mA ns) (hsz : ns.length ≤ sizeLine)
    (h : ∀ h', ObjM h' x dx C (fun y => if y = name then some v else mA y) → Heap.SameBut dx s.heap h' → Q () { s with heap := h', toks := s.toks + 2 }) :
    wpAny (model prog w) A (setAttr (.ref x) name v) Q E s := by
  obtain ⟨od, J, hl⟩ := I.look
  refine PySem.W.set_plain X J hs (PySem.W.osa_open (s := { s with toks := s.toks + 1 }) (r := none) X J hp ht fun b => ?_)
  obtain ⟨cd, hc, hd'⟩ := PySem.W.any_some hh
  have hx : s.heap.get? x = some ⟨.ref C, some dx, .plain, #[]⟩ := I.obj
  refine wpAny_bind (wpAny_pure (wpAny_bind (wpAny_bind (wpAny_loadPart hx (wpAny_bind (PySem.W.Looks.here (s := { s with toks := s.toks + 1 }) (PySem.W.looks_clsIn X hc) ?_))))))
  rw [hd']
  refine wpAny_pure (a := some dx) (wpAny_bind (wpAny_pure (wpAny_bind ?_)))
  refine wpAny_nsSet1 (s := { s with toks := s.toks + 1 }) I.ns fun h' hn2 hs2 => ?_
  obtain ⟨oD, esD, epD, hoD, hdD, hcD⟩ := hn2.count (PySem.Within.cons name v hw)
  refine wpAny_bind (wpAny_lookBehind hoD (by rw [hdD]; exact pastItsLine_dict (Nat.le_trans hcD (by rw [List.length_cons]; omega))) ?_)
  exact wpAny_pure (h _ ⟨(hs2.2 _ (Ne.symm I.ne)).trans I.obj, hn2, I.ne⟩ hs2)
theorem make_map {R : Result → Shared → Prop} {vs : List Value} {kw : List (Str × Value)} (X : K.In s.heap) (hm : PySem.W.makesIn K C = true)
    (hi : PySem.W.findIn K (.ref C) "__init__" = some (some (.ref f))) (hf : PySem.W.typeIn K (.ref f) = some (.type "function"))
    (h : codeAny (model prog w) (A.under (.builtin "type.__call__" ⟨.ref C :: vs, kw⟩)) (.call (.ref f) ⟨.ref (s.heap.objs.size + 1) :: vs, kw⟩) (PySem.W.InitBack (s.heap.objs.size + 1) R)
      { s with heap := (s.heap.push PySem.W.emptyDict).push (PySem.W.instObj C s.heap.objs.size) }) :
    codeAny (model prog w) A (.call (.ref C) ⟨vs, kw⟩) R s := by
  obtain ⟨hh, g, d, t, os⟩ := s
  exact PySem.W.make_core (PySem.W.makes_of X hm) (PySem.W.looks_findIn X hi) (fun self => PySem.W.bind_fn X self hf) (.inl rfl) h
end
def putF (f : Str) (v : V) : List (Str × V) → List (Str × V)
  | [] => [(f, v)]
  | (g, x) :: r => if g = f then (g, v) :: r else (g, x) :: putF f v r
theorem lookup_putF (f g : Str) (v : V) : ∀ fs : List (Str × V), (putF f v fs).lookup g = if g = f then some v else fs.lookup g
  | [] => by
    show List.lookup g [(f, v)] = _
    by_cases h : g = f
    · have hb : (g == f) = true := beq_iff_eq.mpr h
      simp only [List.lookup, hb, if_pos h]
    · have hb : (g == f) = false := beq_eq_false_iff_ne.mpr h
      simp only [List.lookup, hb, if_neg h]
  | (k, x) :: r => by
    have ih := lookup_putF f g v r
    rw [show putF f v ((k, x) :: r) = (if k = f then (k, v) :: r else (k, x) :: putF f v r) from rfl]
    by_cases hk : k = f
    · rw [if_pos hk]
      by_cases h : g = k
      · have hb : (g == k) = true := beq_iff_eq.mpr h
        simp only [List.lookup, hb, if_pos (h.trans hk)]
      · have hb : (g == k) = false := beq_eq_false_iff_ne.mpr h
        simp only [List.lookup, hb, if_neg (fun e : g = f => h (e.trans hk.symm))]
    · rw [if_neg hk]
      by_cases h : g = k
      · have hb : (g == k) = true := beq_iff_eq.mpr h
        simp only [List.lookup, hb, if_neg (fun e : g = f => hk (h.symm.trans e))]
      · have hb : (g == k) = false := beq_eq_false_iff_ne.mpr h
        simp only [List.lookup, hb]
        exact ih
theorem keys_putF (f : Str) (v : V) : ∀ fs : List (Str × V), f ∈ (putF f v fs).map (·.1) ∧ ∀ g, g ∈ fs.map (·.1) → g ∈ (putF f v fs).map (·.1)
  | [] => ⟨by simp [putF], fun g h => by simp at h⟩
  | (k, x) :: r => by
    obtain ⟨i1, i2⟩ := keys_putF f v r
    rw [show putF f v ((k, x) :: r) = (if k = f then (k, v) :: r else (k, x) :: putF f v r) from rfl]
    by_cases hk : k = f
    · rw [if_pos hk]
      subst hk
      exact ⟨by simp, fun g h => by simpa using h⟩
    · rw [if_neg hk]
      refine ⟨?_, fun g h => ?_⟩
      · rw [List.map_cons]
        exact List.mem_cons_of_mem _ i1
      · rw [List.map_cons] at h ⊢
        rcases List.mem_cons.mp h with e | e
        · exact List.mem_cons.mpr (.inl e)
        · exact List.mem_cons_of_mem _ (i2 g e)
theorem length_putF (f : Str) (v : V) : ∀ fs : List (Str × V), (putF f v fs).length ≤ fs.length + 1
  | [] => by simp [putF]
  | (k, x) :: r => by
    have ih := length_putF f v r
    rw [show putF f v ((k, x) :: r) = (if k = f then (k, v) :: r else (k, x) :: putF f v r) from rfl]
    by_cases hk : k = f
    · rw [if_pos hk, List.length_cons, List.length_cons]; omega
    · rw [if_neg hk, List.length_cons, List.length_cons]; omega
theorem RelO.some_of {v : V} {o : Option Value} (r : RelO (some v) o) : ∃ u, o = some u ∧ RelV v u := by
  cases o with
  | none => exact (show False from r).elim
  | some u => exact ⟨u, rfl, r⟩
theorem RelO.none_of {o : Option Value} (r : RelO none o) : o = none := by
  cases o with
  | none => rfl
  | some u => exact (show False from r).elim
theorem handed_of {v : V} {u : Value} (r : RelV v u) : PySem.W.handedIn u = true := by
  cases v with
  | non => cases (show u = Value.none from r); rfl
  | bl b => cases (show u = Value.bool b from r); rfl
  | int i => obtain ⟨t, e⟩ := (show ∃ t, u = Value.int i t from r); cases e; rfl
  | str x => obtain ⟨t, e⟩ := (show ∃ t, u = Value.str x t from r); cases e; rfl
  | byt b => obtain ⟨t, e⟩ := (show ∃ t, u = Value.bytes b t from r); cases e; rfl
  | flt b => obtain ⟨t, e⟩ := (show ∃ t, u = Value.float b t from r); cases e; rfl
  | ref a => cases (show u = Value.ref a from r); rfl
  | ty n => cases (show u = Value.type n from r); rfl
section
variable {P : Program} {w : World} {H H' : Hp} {h h' : Heap} {a C dx : Addr} {fs fs' : List (Str × V)}
theorem ins_get (hok : HOk P w H h) (e : H a = some (.ins C dx fs)) : ∃ mA, ObjM h a dx C mA ∧ (∀ f, RelO (fs.lookup f) (mA f)) ∧ PySem.Within mA (fs.map (·.1)) ∧ fs.length ≤ 1000 ∧ H dx = some (.own a) := by
  obtain ⟨d, z, ne, ob, mA, n, r, q⟩ := (show ObjOk P w H h a (.ins C dx fs) from hok a _ e)
  exact ⟨mA, ⟨ob, n, ne⟩, r, q, z, d⟩
end
structure Cls (K : PySem.W.Frag) (C : Addr) : Prop where
  pg : PySem.W.plainGet K C Str.empty = true
  hd : PySem.W.hasDictIn K C = true
  po : PySem.W.plainOver K C = true
  sa : PySem.W.findIn K (.ref C) "__setattr__" = some (some (.builtin "object.__setattr__"))
theorem Cls.get {K : PySem.W.Frag} {C : Addr} (c : Cls K C) (f : Str) : PySem.W.plainGet K C f = true := c.pg
def NoAttr (K : PySem.W.Frag) (C : Addr) (f : Str) : Prop := PySem.W.findIn K (.ref C) f = some none
theorem NoAttr.taker {K : PySem.W.Frag} {C : Addr} {f : Str} (n : NoAttr K C f) : PySem.W.takerIn K C f = some none := by
  unfold PySem.W.takerIn
  rw [show PySem.W.findIn K (.ref C) f = some none from n]
  rfl
structure Con (K : PySem.W.Frag) (C : Addr) (f : Str) (v : V) (u : Value) : Prop where
  at_ : PySem.W.findIn K (.ref C) f = some (some u)
  rel : RelV v u
  get : PySem.W.specialIn K u "__get__" = some none
  cp : PySem.W.copiedNames.contains f = false
structure Meth (K : PySem.W.Frag) (C : Addr) (m : Str) (f : Addr) : Prop where
  at_ : PySem.W.findIn K (.ref C) m = some (some (.ref f))
  fn : PySem.W.isFn K (.ref f) = true
  kp : PySem.W.keepIn K (.ref f) = true
section
variable {X : Cx} {pins : List (Addr × Obj)} {σ : St} {H : Hp} {s : Shared} {a C dx : Addr} {fs : List (Str × V)} {f : Str} {v : V} {A : Around} {E : Value → Shared → Prop}
theorem getattr_ok {b : Bool} {Q : Value → Shared → Prop} (I : Inv X pins σ H s) (e : H a = some (.ins C dx fs)) (c : Cls X.K C) (n : NoAttr X.K C f) (l : fs.lookup f = some v)
    (h : ∀ u s', Inv X pins σ H s' → RelV v u → Q u s') : wpAny (model X.prog X.w) A (getAttr (.ref a) f b) Q E s := by
  obtain ⟨mA, O, r, _, _, _⟩ := ins_get I.hok e
  obtain ⟨u, hu, ru⟩ := RelO.some_of (v := v) (o := mA f) (by rw [← l]; exact r f)
  exact get_map I.kIn O (c.get f) c.hd n hu (handed_of ru) (h u _ (I.tok _) ru)
theorem getmeth_ok {m : Str} {g : Addr} {pl : Sem Bool} {Q : Value × List Value → Shared → Prop} (I : Inv X pins σ H s) (e : H a = some (.ins C dx fs)) (c : Cls X.K C) (k : Meth X.K C m g) (l : fs.lookup m = none)
    (h : Q (.ref g, [.ref a]) s) : wpAny (model X.prog X.w) A (getMethod (.ref a) m pl) Q E s := by
  obtain ⟨mA, O, r, _, _, _⟩ := ins_get I.hok e
  have hn : mA m = none := RelO.none_of (by rw [← l]; exact r m)
  exact get_meth I.kIn O (c.get m) k.at_ k.fn hn h
theorem setattr_ok {y : V} {u : Value} {Q : Unit → Shared → Prop} (I : Inv X pins σ H s) (e : H a = some (.ins C dx fs)) (c : Cls X.K C) (n : NoAttr X.K C f) (hl : fs.length < 1000) (ry : RelV y u)
    (h : ∀ s', Inv X pins σ (upd H a (.ins C dx (putF f y fs))) s' → Q () s') : wpAny (model X.prog X.w) A (setAttr (.ref a) f u) Q E s := by
  obtain ⟨mA, O, r, wi, _, ho⟩ := ins_get I.hok e
  have hz : (fs.map (·.1)).length ≤ sizeLine := by rw [List.length_map, sizeLine_eq]; omega
  refine set_map I.kIn O c.sa c.po n.taker c.hd wi hz fun h' O' sb => h _ ?_
  have hd : ∃ o, h'.get? dx = some o := let ⟨o, _, _, e', _⟩ := O'.ns; ⟨o, e'⟩
  refine I.write (x := a) (e := dx) (by rw [e]; exact True.intro) (.inr ho) (fun b q hb z => (sb.2 b hb).trans z) hd ?_
  refine ⟨by rw [upd_ne O.ne]; exact ho, ?_, O.ne, O'.obj, _, O'.ns, fun g => ?_, fun g hg => ?_⟩
  · have := length_putF f y fs; omega
  · show RelO ((putF f y fs).lookup g) (if g = f then some u else mA g)
    rw [lookup_putF]
    by_cases q : g = f
    · rw [if_pos q, if_pos q]; exact ry
    · rw [if_neg q, if_neg q]; exact r g
  · by_cases q : g = f
    · rw [q]; exact (keys_putF f y fs).1
    · refine (keys_putF f y fs).2 g (wi g fun z => hg ?_)
      show (if g = f then some u else mA g) = none
      rw [if_neg q]; exact z
theorem Inv.made (I : Inv X pins σ H s) : Inv X pins σ (upd (upd H s.heap.objs.size (.own (s.heap.objs.size + 1))) (s.heap.objs.size + 1) (.ins C s.heap.objs.size []))
    { s with heap := (s.heap.push PySem.W.emptyDict).push (PySem.W.instObj C s.heap.objs.size) } := by
  have e1 : (s.heap.push PySem.W.emptyDict).get? s.heap.objs.size = some PySem.W.emptyDict := Heap.get?_push_size s.heap rfl
  have e2 : ((s.heap.push PySem.W.emptyDict).push (PySem.W.instObj C s.heap.objs.size)).get? (s.heap.objs.size + 1) = some (PySem.W.instObj C s.heap.objs.size) := by
    have := Heap.get?_push_size (s.heap.push PySem.W.emptyDict) (o := PySem.W.instObj C s.heap.objs.size) rfl
    rwa [Heap.size_push] at this
  have e3 : (s.heap.push PySem.W.emptyDict).Ns s.heap.objs.size (fun _ => none) := ⟨PySem.W.emptyDict, #[], _, e1, rfl, (fun e he => absurd he (by simp)), fun _ => rfl⟩
  have I1 := I.laid (a := s.heap.objs.size) (o := .own (s.heap.objs.size + 1)) (h' := s.heap.push PySem.W.emptyDict) (t' := s.toks) (fun b u q => Heap.get?_push_of_some _ q) (Nat.le_refl _) ⟨_, e1⟩
  refine I1.laid (a := s.heap.objs.size + 1) (o := .ins C s.heap.objs.size []) (t' := s.toks) (fun b u q => Heap.get?_push_of_some _ q) (Nat.le_of_eq (Heap.size_push _ _)) ?_
  have ne : s.heap.objs.size ≠ s.heap.objs.size + 1 := Nat.ne_of_lt (Nat.lt_succ_self _)
  refine ⟨by rw [upd_ne ne, upd_same], Nat.zero_le _, ne, e2, fun _ => none, (Heap.Ns1.of_empty e3).at fun o q => Heap.get?_push_of_some _ q, fun _ => True.intro, fun y hy => absurd rfl hy⟩
theorem attr_of {prog : Program} {w : World} {env : Env} {e : Expr} {f : Str} {pos : Pos} {s : Shared} {Q : Value → Shared → Prop} (hb : attributeBase e f env (eval e env) = eval e env)
    (h : wpAny (model prog w) A (eval e env) (fun o s₁ => wpAny (model prog w) A (getAttr o f true) Q E s₁) E s) : wpAny (model prog w) A (eval (.Attribute e f pos) env) Q E s :=
  Attribute_any_ h (by rw [arm_eval_Attribute, hb])
end
def tFld (K : PySem.W.Frag) (ta : TE) (f : Str) : TE := fun σ H Q => ta σ H fun x H1 => ∃ a C dx fs v, x = .ref a ∧ H1 a = some (.ins C dx fs) ∧ Cls K C ∧ NoAttr K C f ∧ fs.lookup f = some v ∧ Q v H1
def sFld (K : PySem.W.Frag) (ta tv : TE) (f : Str) : TS := fun D σ H => tv σ H fun y H1 => ta σ H1 fun x H2 => ∃ a C dx fs, x = .ref a ∧ H2 a = some (.ins C dx fs) ∧ Cls K C ∧ NoAttr K C f ∧ fs.length < 1000 ∧
  D.nx σ (upd H2 a (.ins C dx (putF f y fs)))
def InOp (X : Cx) (op : Operator) (rd : V → V → Hp → VK → Prop) : Prop :=
  ∀ (pins : List (Addr × Obj)) (s : Shared) (σ : St) (H : Hp) (x y : V) (u v : Value) (Q : VK), Inv X pins σ H s → RelV x u → RelV y v → rd x y H Q → wpAny (model X.prog X.w) X.A (inplaceOp op u v) (EP X pins σ Q) X.xe s
def sFldAug (K : PySem.W.Frag) (ta tv : TE) (rd : V → V → Hp → VK → Prop) (f : Str) : TS := fun D σ H => ta σ H fun x H1 => ∃ a C dx fs v, x = .ref a ∧ H1 a = some (.ins C dx fs) ∧ Cls K C ∧ NoAttr K C f ∧ fs.lookup f = some v ∧
  tv σ H1 fun y H2 => rd v y H2 fun z H3 => ∃ dx' fs', H3 a = some (.ins C dx' fs') ∧ fs'.length < 1000 ∧ D.nx σ (upd H3 a (.ins C dx' (putF f z fs')))
section
variable {X : Cx} {o e value : Expr} {f : Str} {pos pos' tpos : Pos} {ta tv : TE}
theorem pe_fld (he : PE X e ta) (hb : attributeBase e f X.env (eval e X.env) = eval e X.env) : PE X (.Attribute e f pos) (tFld X.K ta f) := by
  intro pins s σ H Q I h
  refine attr_of hb (thn (he pins s σ H _ I h) fun u s1 ⟨x, H1, I1, rx, a, C, dx, fs, v, ex, ea, c, n, l, q⟩ => ?_)
  subst ex
  obtain rfl : u = Value.ref a := rx
  exact getattr_ok I1 ea c n l fun u' s2 I2 ru => ⟨v, H1, I2, ru, q⟩
theorem ps_fld (ha : PE X o ta) (hv : PE X value tv) (hs : swapsWith value (some (.Attribute o f pos')) pos.line X.env = pure false) : PS X (.Assign [.Attribute o f pos'] value pos) (sFld X.K ta tv f) := by
  intro pins s σ H D I h
  refine plainObj_wpAny_Assign_Attribute (thn (hv pins s σ H _ I h) fun u s1 ⟨y, H1, I1, ry, q⟩ => thn (ha pins s1 σ H1 _ I1 q) fun ov s2 ⟨x, H2, I2, rx, a, C, dx, fs, ex, ea, c, n, l, q2⟩ => ?_) hs
  subst ex
  obtain rfl : ov = Value.ref a := rx
  exact setattr_ok I2 ea c n l ry fun s3 I3 => ⟨σ, _, I3, q2⟩
theorem ps_fldaug {op : Operator} {rd : V → V → Hp → VK → Prop} (ha : PE X o ta) (hv : PE X value tv) (hop : InOp X op rd) : PS X (.AugAssign (.Attribute o f tpos) op value pos) (sFldAug X.K ta tv rd f) := by
  intro pins s σ H D I h
  refine wpAny_AugAssign_AttributeAny (thn (ha pins s σ H _ I h) fun ov s1 ⟨x, H1, I1, rx, a, C, dx, fs, v, ex, ea, c, n, l, q⟩ => ?_)
  subst ex
  obtain rfl : ov = Value.ref a := rx
  refine getattr_ok I1 ea c n l fun u s2 I2 ru => thn (hv pins s2 σ H1 _ I2 q) fun w3 s3 ⟨y, H2, I3, ry, q3⟩ => thn (hop pins s3 σ H2 v y u w3 _ I3 ru ry q3) fun w4 s4 ⟨z, H3, I4, rz, dx', fs', ea', l', q4⟩ => ?_
  exact setattr_ok I4 ea' c n l' rz fun s5 I5 => ⟨σ, _, I5, q4⟩
def rAdd : V → V → Hp → VK → Prop := fun x y H Q => ∃ i j, x = .int i ∧ y = .int j ∧ Q (.int (i + j)) H
theorem in_add : InOp X .Add rAdd := by
  rintro pins s σ H x y u v Q I rx ry ⟨i, j, rfl, rfl, q⟩
  obtain ⟨t, rfl⟩ := (show ∃ t, u = Value.int i t from rx)
  obtain ⟨t', rfl⟩ := (show ∃ t', v = Value.int j t' from ry)
  exact PyProof.Rows.iadd_int ⟨.int (i + j), H, I.tok _, ⟨_, rfl⟩, q⟩
theorem methcall_of {pl : Sem Bool} {m : Str} {apos : Pos} {args : List Expr} {pins : List (Addr × Obj)} {s : Shared} {σ : St} {H : Hp} {Q : Value → Shared → Prop} {te : TE} (he : PE X e te) (I : Inv X pins σ H s)
    (h : te σ H fun x H1 => ∃ a C dx fs g, x = .ref a ∧ H1 a = some (.ins C dx fs) ∧ Cls X.K C ∧ Meth X.K C m g ∧ fs.lookup m = none ∧
      ∀ s1, Inv X pins σ H1 s1 → wpAny (model X.prog X.w) X.A (callWith pos (.ref g) [.ref a] (backTo pos (starEach args X.env)) (backToKw pos (keywordEach [] X.env))) Q X.xe s1)
    (ht : eval (.Call (.Attribute e m apos) args [] pos) X.env = (do
      let ov ← eval e X.env
      standAt apos.atName
      let (f, first) ← holding [ov] (getMethod ov m pl)
      callWith pos f first (backTo pos (starEach args X.env)) (backToKw pos (keywordEach [] X.env)))) :
    wpAny (model X.prog X.w) X.A (eval (.Call (.Attribute e m apos) args [] pos) X.env) Q X.xe s := by
  refine PySem.W.methodCall_KW (pl := pl) (thn (he pins s σ H _ I h) fun u s1 ⟨x, H1, I1, rx, a, C, dx, fs, g, ex, ea, c, k, l, q⟩ => ?_) ht
  subst ex
  obtain rfl : u = Value.ref a := rx
  exact getmeth_ok I1 ea c k l (q s1 I1)
end
section
variable {X : Cx} {pins : List (Addr × Obj)} {σ : St} {H : Hp} {s : Shared} {A : Around} {E : Value → Shared → Prop} {Q : Value → Shared → Prop} {c : Value} {b : Bool}
inductive TyOf (K : PySem.W.Frag) (H : Hp) : V → Value → Prop where
  | non : TyOf K H .non (.type "NoneType")
  | bl (x : Bool) : TyOf K H (.bl x) (.type "bool")
  | int (i : Int) : TyOf K H (.int i) (.type "int")
  | str (x : Str) : TyOf K H (.str x) (.type "str")
  | flt (x : UInt64) : TyOf K H (.flt x) (.type "float")
  | lst {a : Addr} {xs : List V} (e : H a = some (.lst xs)) : TyOf K H (.ref a) (.type "list")
  | frz {a : Addr} {o : Obj} {xs : List V} (e : H a = some (.frz o (.lst xs))) : TyOf K H (.ref a) (.type "list")
  | tup {a : Addr} {xs : List V} (e : H a = some (.tup xs)) : TyOf K H (.ref a) (.type "tuple")
  | dK {a : Addr} {kvs : List (Key × V)} (e : H a = some (.dK kvs)) : TyOf K H (.ref a) (.type "dict")
  | dT {a : Addr} {kvs : List (List Key × V)} (e : H a = some (.dT kvs)) : TyOf K H (.ref a) (.type "dict")
  | ins {a C dx : Addr} {fs : List (Str × V)} (e : H a = some (.ins C dx fs)) (cl : Cls K C) (ha : PySem.W.findIn K (.ref C) "__class__" = some (some (.builtin "object.__class__")))
      (hn : PySem.W.specialIn K (.builtin "object.__class__") "__get__" = some (some (.builtin "getset_descriptor.__get__"))) (htk : PySem.W.takesIn K (.builtin "object.__class__") = some true)
      (hm : PySem.W.mroIn K C (.type "object") = some true) : TyOf K H (.ref a) (.ref C)
theorem isinst_ok {x : V} {u t : Value} (I : Inv X pins σ H s) (rx : RelV x u) (ty : TyOf X.K H x t) (e : PySem.W.kitOne X.K t c = some b) (h : ∀ tk, Q (.bool b) { s with toks := tk }) :
    wpAny (model X.prog X.w) A (call (.builtin "isinstance") [u, c]) Q E s := by
  cases ty with
  | non => cases (show u = Value.none from rx); exact PySem.W.kia_one PySem.W.kitx_none I.kIn True.intro e (fun z => nomatch z) h
  | bl y => cases (show u = Value.bool y from rx); exact PySem.W.kia_one PySem.W.kitx_bool I.kIn True.intro e (fun z => nomatch z) h
  | int i => obtain ⟨t, q⟩ := (show ∃ t, u = Value.int i t from rx); cases q; exact PySem.W.kia_one PySem.W.kitx_int I.kIn True.intro e (fun z => nomatch z) h
  | str y => obtain ⟨t, q⟩ := (show ∃ t, u = Value.str y t from rx); cases q; exact PySem.W.kia_one PySem.W.kitx_str I.kIn True.intro e (fun z => nomatch z) h
  | flt y => obtain ⟨t, q⟩ := (show ∃ t, u = Value.float y t from rx); cases q; exact PySem.W.kia_one PySem.W.kitx_float I.kIn True.intro e (fun z => nomatch z) h
  | @lst a xs ea =>
    cases (show u = Value.ref a from rx)
    obtain ⟨_, _, n, _, h1⟩ := (show ObjOk X.prog X.w H s.heap a (.lst xs) from I.hok a _ ea)
    exact PySem.W.kia_one PySem.W.kitx_list I.kIn ⟨_, h1, rfl⟩ e (fun z => nomatch z) h
  | @frz a ob xs ea =>
    cases (show u = Value.ref a from rx)
    obtain ⟨_, _, _, n, _, h1⟩ := (show ObjOk X.prog X.w H s.heap a (.frz ob (.lst xs)) from I.hok a _ ea)
    exact PySem.W.kia_one PySem.W.kitx_list I.kIn ⟨_, h1, rfl⟩ e (fun z => nomatch z) h
  | @tup a xs ea =>
    cases (show u = Value.ref a from rx)
    obtain ⟨_, _, _, p⟩ := (show ObjOk X.prog X.w H s.heap a (.tup xs) from I.hok a _ ea)
    obtain ⟨o, h1, h2, _⟩ := p
    exact PySem.W.kia_one PySem.W.kitx_tuple I.kIn ⟨o, h1, h2⟩ e (fun z => nomatch z) h
  | @dK a kvs ea =>
    cases (show u = Value.ref a from rx)
    obtain ⟨_, _, vs, _, p⟩ := (show ObjOk X.prog X.w H s.heap a (.dK kvs) from I.hok a _ ea)
    obtain ⟨o, es, ep, h1, h2, _⟩ := p
    exact PySem.W.kia_one PySem.W.kitx_dict I.kIn ⟨o, h1, h2.1⟩ e (fun z => nomatch z) h
  | @dT a kvs ea =>
    cases (show u = Value.ref a from rx)
    obtain ⟨_, _, xs, _, o, es, ep, h1, h2, _⟩ := (show ObjOk X.prog X.w H s.heap a (.dT kvs) from I.hok a _ ea)
    exact PySem.W.kia_one PySem.W.kitx_dict I.kIn ⟨o, h1, h2.1⟩ e (fun z => nomatch z) h
  | @ins a C dx fs ea cl ha hn htk hm =>
    cases (show u = Value.ref a from rx)
    obtain ⟨mA, O, _⟩ := ins_get I.hok ea
    obtain ⟨od, J, _⟩ := O.look
    exact PySem.W.kia_one (PySem.W.kitx_own (cl.get _) cl.hd ha hn htk hm) I.kIn J e (fun z => nomatch z) h
end
end L2
namespace L2
open PySem PySem.Spec PyProof.Rows
structure Room (k : Nat) (A : Around) : Prop where
  hd : A.handled = none
  dp : A.depth + 3 * k + 5 < recursionLimit
  un : A.units + 16 * k + 200 < cLine
  gd : A.guards = some []
theorem Room.mono {j k : Nat} {A : Around} (r : Room k A) (h : j ≤ k) : Room j A := ⟨r.hd, by have := r.dp; omega, by have := r.un; omega, r.gd⟩
theorem Room.deeper {k : Nat} {A : Around} (r : Room (k + 1) A) (env : Env) : Room k (A.deeper env) :=
  ⟨r.hd, by have := r.dp; show A.depth + 1 + 3 * k + 5 < _; omega, by have := r.un; show A.units + 3 + 16 * k + 200 < _; omega, r.gd⟩
theorem make_depth {A : Around} {C : Addr} {us : List Value} {kw : List (Str × Value)} : (A.under (.builtin "type.__call__" ⟨.ref C :: us, kw⟩)).depth = A.depth + 1 := by
  first | rfl | simp [Around.under, Code.weight, Code.isCreation, Code.isGuard, Code.isCaller, Code.frames, Code.isFrame, guardIds]
theorem make_units {A : Around} {C : Addr} {us : List Value} {kw : List (Str × Value)} : (A.under (.builtin "type.__call__" ⟨.ref C :: us, kw⟩)).units = A.units + 1 := by
  first | rfl | simp [Around.under, Code.cUnits, Code.frames, Code.isFrame]
theorem make_guards {A : Around} {C : Addr} {us : List Value} {kw : List (Str × Value)} : (A.under (.builtin "type.__call__" ⟨.ref C :: us, kw⟩)).guards = A.guards := by
  first | rfl | simp [Around.under, Code.isGuard, guardIds] | (simp [Around.under, Code.isGuard, guardIds]; decide)
theorem Room.make {k : Nat} {A : Around} (r : Room (k + 1) A) (C : Addr) (us : List Value) (kw : List (Str × Value)) : Room k (A.under (.builtin "type.__call__" ⟨.ref C :: us, kw⟩)) :=
  ⟨r.hd, by have := r.dp; rw [make_depth]; omega, by have := r.un; rw [make_units]; omega, by rw [make_guards]; exact r.gd⟩
theorem Room.depth {k : Nat} {A : Around} (r : Room k A) : A.depth < recursionLimit := by have := r.dp; omega
theorem Room.units {k : Nat} {A : Around} (r : Room k A) : A.units + 64 < cLine := by have := r.un; omega
def tNil : TA := fun _ H Q => Q [] H
def tCons (ta : TE) (tr : TA) : TA := fun σ H Q => ta σ H fun x H1 => tr σ H1 fun xs H2 => Q (x :: xs) H2
section
variable {X : Cx} {e : Expr} {es : List Expr} {te : TE} {t : TA} {pos : Pos}
theorem pa_nil : PA X [] tNil := fun _ _ _ _ H Q I h => Calls.spliced_nil ⟨[], H, I, .nil, h⟩
theorem pa_cons (ha : PE X e te) (hr : PA X es t) (hs : starEach (e :: es) X.env = (false, eval e X.env) :: starEach es X.env := by rfl) : PA X (e :: es) (tCons te t) := by
  intro pos pins s σ H Q I h
  rw [hs]
  show wpAny _ _ (spliced ((false, eval e X.env) :: backTo pos (starEach es X.env))) _ _ s
  refine Calls.spliced_cons (thn (ha pins s σ H _ I h) fun u s1 ⟨x, H1, I1, r1, q1⟩ => ?_)
  exact thn (hr pos pins s1 σ H1 _ I1 q1) fun us s2 ⟨xs, H2, I2, r2, q2⟩ => ⟨x :: xs, H2, I2, .cons r1 r2, q2⟩
def tTup (t : TA) : TE := fun σ H Q => t σ H fun xs H1 => xs.length ≤ sizeLine ∧ ∀ p, H1 p = none → Q (.ref p) (upd H1 p (.tup xs))
def tLst (t : TA) : TE := fun σ H Q => t σ H fun xs H1 => xs.length ≤ sizeLine ∧ ∀ p, H1 p = none → Q (.ref p) (upd H1 p (.lst xs))
theorem pe_tup {x1} (h : PA X es t) : PE X (.Tuple es x1 pos) (tTup t) := by
  intro pins s σ H Q I hq
  refine wpAny_Tuple_spliced (thn (h pos pins s σ H _ I hq) fun us s1 ⟨xs, H1, I1, r, z, q⟩ => ⟨by rw [← r.length]; exact z, ?_⟩)
  have hf : H1 s1.heap.objs.size = none := I1.hok.fresh (Nat.le_refl _)
  refine ⟨.ref s1.heap.objs.size, upd H1 s1.heap.objs.size (.tup xs), I1.laid (t' := s1.toks) (fun b u e => Heap.get?_push_of_some _ e) (Nat.le_refl _) ?_, rfl, q _ hf⟩
  exact ⟨z, us, r, ⟨_, Heap.get?_push_size _ rfl, rfl, _, rfl⟩⟩
theorem pe_lst (h : PA X es t) : PE X (.List es pos) (tLst t) := by
  intro pins s σ H Q I hq
  refine wpAny_List_spliced (thn (h pos pins s σ H _ I hq) fun us s1 ⟨xs, H1, I1, r, z, q⟩ => ⟨by rw [← r.length]; exact z, ?_⟩)
  have hf : H1 s1.heap.objs.size = none := I1.hok.fresh (Nat.le_refl _)
  refine ⟨.ref s1.heap.objs.size, upd H1 s1.heap.objs.size (.lst xs), I1.laid (t' := s1.toks) (fun b u e => Heap.get?_push_of_some _ e) (Nat.le_refl _) ?_, rfl, q _ hf⟩
  exact ⟨z, us, 0, r, Heap.get?_push_size _ rfl⟩
end
abbrev Sp := List V → Hp → VK → XK → Prop
abbrev CXT := List Env → Hp → Shared → XK → Value → Shared → Prop
structure Env0 (P : Program) (w : World) (K : PySem.W.Frag) (mg : Str → Option Value) (base : Heap) (A : Around) (outer : List Env) (s : Shared) (H : Hp) : Prop where
  frames : A.frames = some outer
  mod : Mod K mg base
  bs : ∀ b o, base.get? b = some o → s.heap.get? b = some o ∧ H b = none
  bsz : base.objs.size ≤ s.heap.objs.size
  funs : s.heap.FunFrames base outer
  frf : ∀ b ∈ frs outer, H b = none
  hok : HOk P w H s.heap
  bare : AllBare s.gens
def CE (outer : List Env) (P : Program) (w : World) (H : Hp) (s : Shared) (Q : VK) (u : Value) (s' : Shared) : Prop :=
  ∃ v H', s'.os = s.os ∧ AllBare s'.gens ∧ Un (frs outer) [] H H' s.heap s'.heap ∧ HOk P w H' s'.heap ∧ RelV v u ∧ Q v H'
def CR (CX : CXT) (outer : List Env) (P : Program) (w : World) (H : Hp) (s : Shared) (Q : VK) (E : XK) (r : Result) (s' : Shared) : Prop :=
  match r with
  | .ok (.ret u) => CE outer P w H s Q u s'
  | .ok _ => False
  | .error e => CX outer H s E e s'
structure FnOk (P : Program) (w : World) (K : PySem.W.Frag) (mg : Str → Option Value) (base : Heap) (CX : CXT) (k : Nat) (f : Addr) (fd : FuncData) (ps : List Str) (sp : Sp) : Prop where
  len : ∀ vs H Q E, sp vs H Q E → vs.length = ps.length
  run : ∀ (A : Around) (outer : List Env) (s : Shared) (H : Hp) (args : Args) (us : List Value) (vs : List V) (Q : VK) (E : XK), Room k A → Env0 P w K mg base A outer s H → BindsTo s fd args (ps.zip us) → Vals vs us → sp vs H Q E →
    codeAny (model P w) A (.call (.ref f) args) (CR CX outer P w H s Q E) s
theorem Env0.make {P : Program} {w : World} {K : PySem.W.Frag} {mg : Str → Option Value} {base : Heap} {A : Around} {outer : List Env} {s : Shared} {H : Hp} (e : Env0 P w K mg base A outer s H) (C : Addr) (us : List Value) (kw : List (Str × Value)) :
    Env0 P w K mg base (A.under (.builtin "type.__call__" ⟨.ref C :: us, kw⟩)) outer s H := ⟨by first | exact e.frames | (simpa [Around.under, Code.envs, Code.isFrame, pushEnvs] using e.frames), e.mod, e.bs, e.bsz, e.funs, e.frf, e.hok, e.bare⟩
section
variable {X : Cx} {pins : List (Addr × Obj)} {σ : St} {H : Hp} {s s' : Shared}
theorem Inv.env0 (I : Inv X pins σ H s) : Env0 X.prog X.w X.K X.mg X.base X.A X.stack s H :=
  ⟨I.ok.frames, I.ok.mod, I.bs, Nat.le_trans I.ok.bsz I.sz, I.stack, I.stkFree, I.hok, I.bare⟩
theorem Inv.after {Q : VK} {u : Value} (I : Inv X pins σ H s) (h : CE X.stack X.prog X.w H s Q u s') : EP X pins σ Q u s' := by
  obtain ⟨v, H', os, bare, un, hok, r, q⟩ := h
  obtain ⟨hh, g, d, t, os'⟩ := s'
  obtain rfl : os' = s.os := os
  exact ⟨v, H', I.call (h' := hh) (g' := g) (d' := d) (t' := t) (ch := []) un hok bare (fun b z => absurd z (by simp)), r, q⟩
end
def tCall (sp : Sp) (dvs : List V) (E : XK) (t : TA) : TE := fun σ H Q => t σ H fun vs H1 => sp (vs ++ dvs) H1 Q E
def tMeth (C : Addr) (m : Str) (sp : Sp) (dvs : List V) (E : XK) (ta : TE) (t : TA) : TE := fun σ H Q => ta σ H fun x H1 => ∃ a dx fs, x = .ref a ∧ H1 a = some (.ins C dx fs) ∧ fs.lookup m = none ∧
  t σ H1 fun vs H2 => sp (x :: (vs ++ dvs)) H2 Q E
def tMake (C : Addr) (sp : Sp) (dvs : List V) (E : XK) (t : TA) : TE := fun σ H Q => t σ H fun vs H1 => ∀ x dx, H1 x = none → H1 dx = none → dx ≠ x →
  sp (.ref x :: (vs ++ dvs)) (upd (upd H1 dx (.own x)) x (.ins C dx [])) (fun v H2 => v = .non ∧ Q (.ref x) H2) E
def Binds (K : PySem.W.Frag) (fd : FuncData) (ps : List Str) (ds : List Value) : Prop :=
  ∀ (s : Shared) (us : List Value), K.In s.heap → (us ++ ds).length = ps.length → BindsTo s fd ⟨us, []⟩ (ps.zip (us ++ ds))
theorem Binds.all {K : PySem.W.Frag} {fd : FuncData} {ps : List Str} (h : ∀ us : List Value, us.length = ps.length → bindArgs fd ⟨us, []⟩ = pure (ps.zip us)) : Binds K fd ps [] := fun s us _ hl => by
  rw [List.append_nil] at hl ⊢
  exact .of_eq (h us hl)
def Passes (CX : CXT) (X : Cx) (E : XK) : Prop := ∀ (pins : List (Addr × Obj)) (σ : St) (H : Hp) (s : Shared) (e : Value) (s' : Shared), Inv X pins σ H s → CX X.stack H s E e s' → X.xe e s'
section
variable {X : Cx} {CX : CXT} {k : Nat} {f C : Addr} {fd : FuncData} {ps : List Str} {sp : Sp} {dvs : List V} {ds : List Value} {E : XK} {x m : Str} {p pos apos : Pos} {e o : Expr} {es : List Expr} {ta : TE} {t : TA}
theorem run_fn {pins : List (Addr × Obj)} {σ : St} {H : Hp} {s : Shared} {Q : VK} {us : List Value} {vs : List V} (F : FnOk X.prog X.w X.K X.mg X.base CX k f fd ps sp) (hr : Room k X.A) (hb : Binds X.K fd ps ds) (hd : Vals dvs ds) (hx : Passes CX X E)
    (I : Inv X pins σ H s) (r : Vals vs us) (h : sp (vs ++ dvs) H Q E) : wpAny (model X.prog X.w) X.A (call (.ref f) us) (EP X pins σ Q) X.xe s := by
  have r2 : Vals (vs ++ dvs) (us ++ ds) := r.append hd
  have hl : (us ++ ds).length = ps.length := by rw [← r2.length]; exact F.len _ _ _ _ h
  refine wpAny_call (codeAny_mono (F.run X.A X.stack s H ⟨us, []⟩ (us ++ ds) (vs ++ dvs) Q E hr I.env0 (hb s us I.kIn hl) r2 h) fun r s' hq => ?_)
  cases r with
  | error e => exact hx pins σ H s e s' I hq
  | ok fl =>
    cases fl with
    | ret u => exact I.after hq
    | next => exact False.elim hq
    | brk => exact False.elim hq
    | cont => exact False.elim hq
theorem pe_call (F : FnOk X.prog X.w X.K X.mg X.base CX k f fd ps sp) (hr : Room k X.A) (hg : Gl X x) (hm : X.mg x = some (.ref f)) (hk : PySem.W.keepIn X.K (.ref f) = true) (hb : Binds X.K fd ps ds) (hd : Vals dvs ds) (hx : Passes CX X E)
    (ha : PA X (e :: es) t) (hdb : (x == ("__debug__" : Str)) = false := by decide) (he : starEach (e :: es) X.env = (false, eval e X.env) :: starEach es X.env := by rfl) (hpl : (backTo pos (starEach es X.env)).any (·.1) = false := by rfl) :
    PE X (.Call (.Name x p) (e :: es) [] pos) (tCall sp dvs E t) := by
  intro pins s σ H Q I h
  refine wpAny_Call_Name_kw (ld_glob I hg hm ?_ hdb)
  refine PySem.W.callWith_K (h₀ := X.base) I.ok.mod.kin hk (thn (ha pos pins s σ H _ I h) fun us s1 ⟨vs, H1, I1, r, q⟩ => ⟨I1.kIn, ?_⟩) he hpl
  exact run_fn F hr hb hd hx I1 r q
theorem pe_meth {pl : Sem Bool} (he : PE X o ta) (c : Cls X.K C) (hm : Meth X.K C m f) (F : FnOk X.prog X.w X.K X.mg X.base CX k f fd ps sp) (hr : Room k X.A) (hb : Binds X.K fd ps ds) (hd : Vals dvs ds) (hx : Passes CX X E) (ha : PA X (e :: es) t)
    (hst : starEach (e :: es) X.env = (false, eval e X.env) :: starEach es X.env := by rfl) (hpl : (backTo pos (starEach es X.env)).any (·.1) = false := by rfl)
    (ht : eval (.Call (.Attribute o m apos) (e :: es) [] pos) X.env = (do
      let ov ← eval o X.env
      standAt apos.atName
      let (f, first) ← holding [ov] (getMethod ov m pl)
      callWith pos f first (backTo pos (starEach (e :: es) X.env)) (backToKw pos (keywordEach [] X.env))) := by rfl) :
    PE X (.Call (.Attribute o m apos) (e :: es) [] pos) (tMeth C m sp dvs E ta t) := by
  intro pins s σ H Q I h
  refine PySem.W.methodCall_KW (pl := pl) (thn (he pins s σ H _ I h) fun u s1 ⟨x, H1, I1, rx, a, dx, fs, ex, ea, l, q⟩ => ?_) ht
  subst ex
  obtain rfl : u = Value.ref a := rx
  refine getmeth_ok I1 ea c hm l ?_
  refine PySem.W.callWith_K (first := [.ref a]) (h₀ := X.base) I.ok.mod.kin hm.kp (thn (ha pos pins s1 σ H1 _ I1 q) fun us s2 ⟨vs, H2, I2, r, q2⟩ => ⟨I2.kIn, ?_⟩) hst hpl
  exact run_fn (us := .ref a :: us) (vs := .ref a :: vs) F hr hb hd hx I2 (.cons rfl r) q2
theorem pe_meth0 {pl : Sem Bool} (he : PE X o ta) (c : Cls X.K C) (hm : Meth X.K C m f) (F : FnOk X.prog X.w X.K X.mg X.base CX k f fd ps sp) (hr : Room k X.A) (hb : Binds X.K fd ps ds) (hd : Vals dvs ds) (hx : Passes CX X E)
    (ht : eval (.Call (.Attribute o m apos) [] [] pos) X.env = (do
      let ov ← eval o X.env
      standAt apos.atName
      let (f, first) ← holding [ov] (getMethod ov m pl)
      callWith pos f first (backTo pos (starEach [] X.env)) (backToKw pos (keywordEach [] X.env))) := by rfl) :
    PE X (.Call (.Attribute o m apos) [] [] pos) (tMeth C m sp dvs E ta tNil) := by
  intro pins s σ H Q I h
  refine PySem.W.methodCall_KW (pl := pl) (thn (he pins s σ H _ I h) fun u s1 ⟨x, H1, I1, rx, a, dx, fs, ex, ea, l, q⟩ => ?_) ht
  subst ex
  obtain rfl : u = Value.ref a := rx
  refine getmeth_ok I1 ea c hm l ?_
  exact PySem.W.callWith_K0 (first := [.ref a]) I1.kIn hm.kp (run_fn (us := [.ref a]) (vs := [.ref a]) F hr hb hd hx I1 (.cons rfl .nil) q)
structure Mk (K : PySem.W.Frag) (C f : Addr) : Prop where
  makes : PySem.W.makesIn K C = true
  init : PySem.W.findIn K (.ref C) "__init__" = some (some (.ref f))
  fn : PySem.W.isFn K (.ref f) = true
  kp : PySem.W.keepIn K (.ref C) = true
theorem run_make {pins : List (Addr × Obj)} {σ : St} {H : Hp} {s : Shared} {Q : VK} {us : List Value} {vs : List V} (M : Mk X.K C f) (F : FnOk X.prog X.w X.K X.mg X.base CX k f fd ps sp) (hr : Room (k + 1) X.A) (hb : Binds X.K fd ps ds) (hd : Vals dvs ds)
    (hx : Passes CX X E) (I : Inv X pins σ H s) (r : Vals vs us)
    (h : ∀ x dx, H x = none → H dx = none → dx ≠ x → sp (.ref x :: (vs ++ dvs)) (upd (upd H dx (.own x)) x (.ins C dx [])) (fun v H2 => v = .non ∧ Q (.ref x) H2) E) :
    wpAny (model X.prog X.w) X.A (call (.ref C) us) (EP X pins σ Q) X.xe s := by
  have hq := h (s.heap.objs.size + 1) s.heap.objs.size (I.hok.fresh (Nat.le_succ _)) (I.hok.fresh (Nat.le_refl _)) (Nat.ne_of_lt (Nat.lt_succ_self _))
  have I2 := Inv.made (C := C) I
  have r2 : Vals (V.ref (s.heap.objs.size + 1) :: (vs ++ dvs)) (Value.ref (s.heap.objs.size + 1) :: (us ++ ds)) := .cons rfl (r.append hd)
  have hl : (Value.ref (s.heap.objs.size + 1) :: us ++ ds).length = ps.length := by
    have e := r2.length
    rw [F.len _ _ _ _ hq] at e
    exact e.symm
  refine wpAny_call (make_map (f := f) I.kIn M.makes M.init (beq_iff_eq.mp M.fn) (codeAny_mono (F.run _ X.stack _ _ ⟨Value.ref (s.heap.objs.size + 1) :: us, []⟩ (Value.ref (s.heap.objs.size + 1) :: (us ++ ds)) _ _ E (hr.make C us [])
    (I2.env0.make C us []) (hb _ (Value.ref (s.heap.objs.size + 1) :: us) I2.kIn hl) r2 hq) fun r s' hq' => ?_))
  cases r with
  | error e => exact hx pins σ _ _ e s' I2 hq'
  | ok fl =>
    cases fl with
    | ret u =>
      obtain ⟨v, H', I3, rv, ev, q3⟩ := I2.after hq'
      subst ev
      exact ⟨rv, ⟨V.ref (s.heap.objs.size + 1), H', I3, rfl, q3⟩⟩
    | next => exact False.elim hq'
    | brk => exact False.elim hq'
    | cont => exact False.elim hq'
theorem pe_make (M : Mk X.K C f) (F : FnOk X.prog X.w X.K X.mg X.base CX k f fd ps sp) (hr : Room (k + 1) X.A) (hg : Gl X x) (hm : X.mg x = some (.ref C)) (hb : Binds X.K fd ps ds) (hd : Vals dvs ds) (hx : Passes CX X E)
    (ha : PA X (e :: es) t) (hdb : (x == ("__debug__" : Str)) = false := by decide) (he : starEach (e :: es) X.env = (false, eval e X.env) :: starEach es X.env := by rfl) (hpl : (backTo pos (starEach es X.env)).any (·.1) = false := by rfl) :
    PE X (.Call (.Name x p) (e :: es) [] pos) (tMake C sp dvs E t) := by
  intro pins s σ H Q I h
  refine wpAny_Call_Name_kw (ld_glob I hg hm ?_ hdb)
  refine PySem.W.callWith_K (h₀ := X.base) I.ok.mod.kin M.kp (thn (ha pos pins s σ H _ I h) fun us s1 ⟨vs, H1, I1, r, q⟩ => ⟨I1.kIn, ?_⟩) he hpl
  exact run_make M F hr hb hd hx I1 r q
end
section
variable {X : Cx} {CX : CXT} {k : Nat} {f C : Addr} {fd : FuncData} {ps ks : List Str} {sp : Sp} {E : XK} {x m : Str} {p pos apos kpos : Pos} {e o : Expr} {es : List Expr} {kws : List Keyword} {te ta : TE} {t tk : TA} {nm : Option Str}
structure KBinds (K : PySem.W.Frag) (fd : FuncData) (ps ks : List Str) (g : List Value → List Value → List Value) (gV : List V → List V → List V) : Prop where
  to : ∀ (s : Shared) (us ws : List Value), K.In s.heap → (g us ws).length = ps.length → BindsTo s fd ⟨us, ks.zip ws⟩ (ps.zip (g us ws))
  rel : ∀ {vs : List V} {us : List Value} {zs : List V} {ws : List Value}, Vals vs us → Vals zs ws → Vals (gV vs zs) (g us ws)
variable {g : List Value → List Value → List Value} {gV : List V → List V → List V}
end
structure FnScope (N P : List Str) (sc : Scope) : Prop where
  kind : sc.kind = .function
  co : sc.isCoroutine = false
  gen : sc.isGenerator = false
  nd : N.Nodup
  pre : N.take P.length = P
  par : ∀ x ∈ P, sc.names.lookup x = some .local ∨ sc.names.lookup x = some .cell
  nofree : ∀ y ∈ sc.names, y.2 ≠ .free
theorem bindL_out {kindOf : Str → Option NameKind} {x : Str} : ∀ {binds : List (Str × Value)} {m : Str → Option Value}, (∀ v, (x, v) ∉ binds) → bindL kindOf binds m x = m x
  | [], _, _ => rfl
  | (n, v) :: r, m, h => by
    unfold bindL
    rw [bindL_out fun w hw => h w (List.mem_cons_of_mem _ hw)]
    split
    · have : x ≠ n := by rintro rfl; exact h v List.mem_cons_self
      simp [this]
    · rfl
theorem bindC_out {kindOf : Str → Option NameKind} {x : Str} : ∀ {binds : List (Str × Value)} {m : Str → Option Value}, (∀ v, (x, v) ∉ binds) → bindC kindOf binds m x = m x
  | [], _, _ => rfl
  | (n, v) :: r, m, h => by
    unfold bindC
    rw [bindC_out fun w hw => h w (List.mem_cons_of_mem _ hw)]
    split
    · rfl
    · have : x ≠ n := by rintro rfl; exact h v List.mem_cons_self
      simp [this]
theorem bindL_get {kindOf : Str → Option NameKind} {x : Str} {v : Value} : ∀ {P : List Str} {vs : List Value} {i : Nat} {m : Str → Option Value}, P.Nodup → P[i]? = some x → vs[i]? = some v → kindOf x = some .local →
    bindL kindOf (P.zip vs) m x = some v
  | [], _, _, _, _, h, _, _ => by simp at h
  | _ :: _, [], _, _, _, _, h, _ => by simp at h
  | p :: P, w :: vs, 0, m, nd, h1, h2, hk => by
    simp at h1 h2; subst h1; subst h2
    show bindL kindOf ((p, w) :: P.zip vs) m p = _
    unfold bindL
    rw [bindL_out fun v hv => (List.nodup_cons.mp nd).1 (List.of_mem_zip hv).1, if_pos hk]
    simp
  | p :: P, w :: vs, i + 1, m, nd, h1, h2, hk => by
    show bindL kindOf ((p, w) :: P.zip vs) m x = _
    unfold bindL
    exact bindL_get (i := i) (List.nodup_cons.mp nd).2 (by simpa using h1) (by simpa using h2) hk
theorem bindC_get {kindOf : Str → Option NameKind} {x : Str} {v : Value} : ∀ {P : List Str} {vs : List Value} {i : Nat} {m : Str → Option Value}, P.Nodup → P[i]? = some x → vs[i]? = some v → kindOf x ≠ some .local →
    bindC kindOf (P.zip vs) m x = some v
  | [], _, _, _, _, h, _, _ => by simp at h
  | _ :: _, [], _, _, _, _, h, _ => by simp at h
  | p :: P, w :: vs, 0, m, nd, h1, h2, hk => by
    simp at h1 h2; subst h1; subst h2
    show bindC kindOf ((p, w) :: P.zip vs) m p = _
    unfold bindC
    rw [bindC_out fun v hv => (List.nodup_cons.mp nd).1 (List.of_mem_zip hv).1, if_neg hk]
    simp
  | p :: P, w :: vs, i + 1, m, nd, h1, h2, hk => by
    show bindC kindOf ((p, w) :: P.zip vs) m x = _
    unfold bindC
    exact bindC_get (i := i) (List.nodup_cons.mp nd).2 (by simpa using h1) (by simpa using h2) hk
def start (N : List Str) (vs : List V) : St := vs.map some ++ List.replicate (N.length - vs.length) none
def cxOf (CX : CXT) (P : Program) (w : World) (K : PySem.W.Frag) (mg : Str → Option Value) (base : Heap) (N : List Str) (qual : Str) (scope : Scope) (f : Addr) (cd : Value) (A : Around) (outer : List Env) (s : Shared) (H : Hp) (E : XK) : Cx where
  prog := P
  w := w
  K := K
  mg := mg
  base := base
  A := A.deeper (envOfC qual scope s.heap.objs.size f cd)
  N := N
  s₀ := s
  H₀ := H
  env := envOfC qual scope s.heap.objs.size f cd
  outer := outer
  stack := envOfC qual scope s.heap.objs.size f cd :: outer
  ex := []
  calm := true
  fn := fun _ => true
  pn := []
  xe := fun e s' => wpAny (model P w) (A.deeper (envOfC qual scope s.heap.objs.size f cd)) (leaving (envOfC qual scope s.heap.objs.size f cd) e) (fun _ s'' => CX outer H s E e s'') (fun e' s'' => CX outer H s E e' s'') s'
theorem cell_has {sc : Scope} {n : Nat} {x : Str} (h : sc.names.lookup x = some .cell) : ∃ c, (cellsFrom n sc.names []).lookup x = some c := by
  have q := PySem.W.cellsFrom_some sc.names n [] (.inl h)
  exact Option.isSome_iff_exists.mp q
theorem inv_start {CX : CXT} {P : Program} {w : World} {K : PySem.W.Frag} {mg : Str → Option Value} {base : Heap} {N ps : List Str} {qual : Str} {scope : Scope} {f : Addr} {cd : Value} {A : Around} {outer : List Env} {s s1 : Shared} {H : Hp} {E : XK} {us : List Value} {vs : List V}
    (S : FnScope N ps scope) (hd : A.handled = none) (e0 : Env0 P w K mg base A outer s H) (hl : vs.length = ps.length) (r : Vals vs us)
    (x : InCallC s s.heap.objs.size (bindL (envOfC qual scope s.heap.objs.size f cd).kindOf (ps.zip us) fun _ => none) (cellsFrom (s.heap.objs.size + 1) scope.names []) (bindC (envOfC qual scope s.heap.objs.size f cd).kindOf (ps.zip us) fun _ => none) s1) :
    Inv (cxOf CX P w K mg base N qual scope f cd A outer s H E) [] (start N vs) H s1 := by
  have hpl : ps.length ≤ N.length := by have := congrArg List.length S.pre; rw [List.length_take] at this; omega
  obtain ⟨h1, tk, rfl, hk⟩ := x.done
  have noA : ∀ b : Addr, b ∉ (cxOf CX P w K mg base N qual scope f cd A outer s H E).ex := fun b z => absurd (show b ∈ ([] : List Addr) from z) (by simp)
  refine ⟨⟨e0.mod, S.kind, rfl, rfl, Nat.le_refl _, fun y z c h1 h2 => ?_, fun y hy => ?_, fun y c _ h => ?_, fun _ => hd, Around.frames_deeper e0.frames, .inr ⟨rfl, rfl⟩, fun b z => absurd z (noA b), e0.bs, e0.bsz, fun b _ _ => noA b, fun b z => absurd z (noA b), e0.funs, e0.frf⟩,
    rfl, e0.bare, Un.kept hk, ⟨_, x.toInCall.ns, fun i y v h1 h2 h3 => ?_⟩, fun y c h => ⟨_, x.cell y c h⟩, e0.hok.fresh (Nat.le_refl _), fun y c h => ?_, fun p hp => absurd (show p ∈ ([] : List (Addr × Obj)) from hp) (by simp), e0.hok.kept hk, ?_⟩
  · exact name_of_addr x.apart (PySem.mem_of_lookup h1) (PySem.mem_of_lookup h2)
  · have hy : scope.names.lookup y = some .cell ∨ scope.names.lookup y = some .free := hy
    rcases hy with hy | hy
    · exact cell_has hy
    · exact absurd rfl (S.nofree _ (PySem.mem_of_lookup hy))
  · exact Nat.le_of_lt (x.above y c (PySem.mem_of_lookup h))
  · have hi : i < vs.length := by
      unfold start at h2
      by_cases hi : i < vs.length
      · exact hi
      · rw [List.getElem?_append_right (by simpa using hi)] at h2
        rw [List.getElem?_replicate] at h2
        split at h2 <;> cases h2
    have ha : vs[i]? = some v := by
      unfold start at h2
      rw [List.getElem?_append_left (by simpa using hi), List.getElem?_map] at h2
      cases e : vs[i]? with
      | none => rw [e] at h2; cases h2
      | some a => rw [e] at h2; cases h2; rfl
    obtain ⟨u, hu, rv⟩ := r.get ha
    have hp : ps[i]? = some y := by
      rw [← S.pre, List.getElem?_take_of_lt (by omega)]; exact h1
    have ndP : ps.Nodup := by rw [← S.pre]; exact S.nd.sublist (List.take_sublist _ _)
    refine ⟨u, rv, ?_⟩
    rcases S.par y (List.mem_of_getElem? hp) with k | k
    · exact .inl ⟨k, bindL_get ndP hp hu k⟩
    · obtain ⟨c, e⟩ := cell_has (n := s.heap.objs.size + 1) k
      refine .inr ⟨.inl k, c, e, ?_⟩
      have q := x.cell y c e
      rw [bindC_get ndP hp hu (by show scope.names.lookup y ≠ _; rw [k]; decide)] at q
      exact q
  · exact e0.hok.fresh (Nat.le_of_lt (x.above y c (PySem.mem_of_lookup h)))
  · unfold start
    show _ = N.length
    rw [List.length_append, List.length_map, List.length_replicate]
    omega
theorem fn_of {CX : CXT} {P : Program} {w : World} {K : PySem.W.Frag} {mg : Str → Option Value} {base : Heap} {k : Nat} {f : Addr} {name qual : Str} {params : Arguments} {body : List Stmt} {scope : Scope} {dV kV doc pm cdv ct oc : Value} {an od : Option Addr}
    {osl : Array (Option Value)} {N ps : List Str} {sp : Sp} (lk : K.lookup f = some ⟨oc, od, .func (PySem.W.fnOf name qual params body scope dV kV doc pm an cdv ct), osl⟩) (hcd : PySem.W.codeIn K cdv qual = true) (S : FnScope N ps scope)
    (len : ∀ vs H Q E, sp vs H Q E → vs.length = ps.length)
    (hbody : ∀ (A : Around) (outer : List Env) (s : Shared) (H : Hp) (vs : List V) (Q : VK) (E : XK), Room k (A.deeper (envOfC qual scope s.heap.objs.size f cdv)) → sp vs H Q E →
      ∃ t, PSs (cxOf CX P w K mg base N qual scope f cdv A outer s H E) body t ∧ t { nx := fun _ H' => Q .non H', rt := Q } (start N vs) H) :
    FnOk P w K mg base CX (k + 1) f (PySem.W.fnOf name qual params body scope dV kV doc pm an cdv ct) ps sp := by
  refine ⟨len, fun A outer s H args us vs Q E hr e0 hb r hsp => ?_⟩
  have hl := len _ _ _ _ hsp
  have KX : K.In s.heap := e0.mod.kin.keeps fun b o e => (e0.bs b o e).1
  have lim : s.heap.NoLimit := e0.mod.nolimit.keeps fun b o e => (e0.bs b o e).1
  have hkind : ∀ y ∈ ps.zip us, scope.names.lookup y.1 = some .local ∨ (scope.names.lookup y.1 = some .cell ∧ ((cellsFrom (s.heap.objs.size + 1) scope.names []).lookup y.1).isSome = true) := fun ⟨n, v⟩ hy => by
    rcases S.par n (List.of_mem_zip hy).1 with q | q
    · exact .inl q
    · exact .inr ⟨q, PySem.W.cellsFrom_some _ _ _ (.inl q)⟩
  refine codeAny_call_function hr.depth (KX _ _ lk) rfl S.co S.gen rfl (PySem.W.codeRec_of KX hcd) (hb _ _ _ _ ?_)
  refine wpAny_newFunctionEnv_cells S.kind hkind fun env he s1 x => ?_
  subst he
  refine ⟨lim.keeps x.toInCall.keep, codeAny_func ?_⟩
  obtain ⟨t, ht, hq⟩ := hbody A outer s H vs Q E (hr.deeper _) hsp
  have I : Inv (cxOf CX P w K mg base N qual scope f cdv A outer s H E) [] (start N vs) H s1 := inv_start S hr.hd e0 hl r x
  refine wpAny_mono (ht [] s1 (start N vs) H _ I hq) (fun fl s' hs => ?_) fun e s' hs => hs
  have fin : ∀ {σ' : St} {H' : Hp} {v : V} {u : Value}, Inv (cxOf CX P w K mg base N qual scope f cdv A outer s H E) [] σ' H' s' → RelV v u → Q v H' → CE outer P w H s Q u s' :=
    fun {σ' H' v u} J rv q => ⟨v, H', J.os, J.bare, J.base, J.hok, rv, q⟩
  cases fl with
  | ret u =>
    obtain ⟨v, σ', H', J, rv, q⟩ := hs
    exact fin J rv q
  | next =>
    obtain ⟨σ', H', J, q⟩ := hs
    exact fin (v := V.non) (u := Value.none) J rfl q
  | brk =>
    obtain ⟨_, _, _, q⟩ := hs
    exact False.elim q
  | cont =>
    obtain ⟨_, _, _, q⟩ := hs
    exact False.elim q
end L2
namespace L2
open PySem PySem.Spec PyProof.Rows
section
variable {X : Cx} {x : Str} {p pos : Pos} {e : Expr} {es : List Expr} {t : TA} {id T : String} {r : List V → Hp → VK → Prop}
def tCB (r : List V → Hp → VK → Prop) (t : TA) : TE := fun σ H Q => t σ H fun vs H1 => r vs H1 Q
theorem pe_callB (hc : CallR X (.builtin id) r) (hg : Gl X x) (hm : X.mg x = none) (hv : bootBuiltins x = some (.builtin id)) (ha : PA X (e :: es) t) (hn : x ≠ "__name__" := by decide) (hdb : (x == ("__debug__" : Str)) = false := by decide)
    (he : starEach (e :: es) X.env = (false, eval e X.env) :: starEach es X.env := by rfl) (hpl : (backTo pos (starEach es X.env)).any (·.1) = false := by rfl) : PE X (.Call (.Name x p) (e :: es) [] pos) (tCB r t) := by
  intro pins s σ H Q I h
  refine wpAny_Call_Name_kw (ld_blt I hg hm hv ?_ hn hdb)
  exact PyProof.Rows.callWith_builtin1 (thn (ha pos pins s σ H _ I h) fun us s1 ⟨vs, H1, I1, r1, q1⟩ => hc pins s1 σ H1 vs us Q I1 r1 q1) he hpl
theorem pe_callTy (hc : CallR X (.type T) r) (hg : Gl X x) (hm : X.mg x = none) (hv : bootBuiltins x = some (.type T)) (ha : PA X (e :: es) t) (hn : x ≠ "__name__" := by decide) (hdb : (x == ("__debug__" : Str)) = false := by decide)
    (he : starEach (e :: es) X.env = (false, eval e X.env) :: starEach es X.env := by rfl) (hpl : (backTo pos (starEach es X.env)).any (·.1) = false := by rfl) : PE X (.Call (.Name x p) (e :: es) [] pos) (tCB r t) := by
  intro pins s σ H Q I h
  refine wpAny_Call_Name_kw (ld_blt I hg hm hv ?_ hn hdb)
  exact PyProof.Rows.callWith_type1 (thn (ha pos pins s σ H _ I h) fun us s1 ⟨vs, H1, I1, r1, q1⟩ => hc pins s1 σ H1 vs us Q I1 r1 q1) he hpl
end
end L2
namespace HT
open PySem PyProof.Rows
section
open PySem.SeqAt
open PySem.AutoSeq1 (wpAny_loadPart')
open PySem.MeetsSeq PySem.MeetsSeq2 PySem.MeetsSeq3
end
section
variable {prog : Program} {w : World} {A : Around} {E : Value → Shared → Prop} {s : Shared}
theorem cat_tup {t b : Addr} {vs ws : List Value} {Q : Value → Shared → Prop} (ht : IsTup s.heap t vs.toArray) (hb : IsTup s.heap b ws.toArray) (hv : vs ≠ [])
    (h1 : ws = [] → Q (.ref t) s) (h2 : ws ≠ [] → Q (.ref s.heap.objs.size) { s with heap := s.heap.push { cls := .type "tuple", data := .seq (vs ++ ws).toArray } })
    (hsz : vs.length + ws.length ≤ sizeLine) : wpAny (model prog w) A (binaryOp .Add (.ref t) (.ref b)) Q E s := by
  obtain ⟨⟨cls, dd, data, sl⟩, ho, hc, n, hd⟩ := id ht
  obtain ⟨⟨cls2, dd2, data2, sl2⟩, ho2, hc2, n2, hd2⟩ := id hb
  simp only at hc hd hc2 hd2
  subst hc hd hc2 hd2
  have e : vs.toArray ++ ws.toArray = (vs ++ ws).toArray := by simp
  by_cases hw : ws = []
  · exact concat_meets ⟨_, ho, rfl⟩ ⟨_, ho2, rfl⟩ noFill_tuple_add seq_tuple_add PySem.F.slot_tuple_add PySem.F.entry_tuple_add (PySem.F.args_tuple_add_2 _ _)
      (tuple_addW1 t b vs.toArray ws.toArray n n2 dd dd2 sl sl2 (by simpa using hv) (by simp [hw])) ⟨ho, ho2, h1 hw⟩
  · refine concat_meets ⟨_, ho, rfl⟩ ⟨_, ho2, rfl⟩ noFill_tuple_add seq_tuple_add PySem.F.slot_tuple_add PySem.F.entry_tuple_add (PySem.F.args_tuple_add_2 _ _)
      (tuple_addW2 t b vs.toArray ws.toArray n n2 dd dd2 sl sl2 (by simpa using hv) (by simpa using hw) (by rw [List.size_toArray, List.size_toArray]; exact hsz)) ⟨ho, ho2, ?_⟩
    rw [e]
    exact h2 hw
def sIx (n d : Nat) : Option Int → Nat
  | none => d
  | some v => if v < 0 then (v + (n : Int)).toNat else min v.toNat n
theorem sIx_none (n d : Nat) : sIx n d none = d := rfl
theorem sIx_nat (n d k : Nat) : sIx n d (some (k : Int)) = min k n := by
  show (if (k : Int) < 0 then ((k : Int) + (n : Int)).toNat else min (k : Int).toNat n) = min k n
  rw [if_neg (by omega), Int.toNat_natCast]
theorem sIx_le (n d : Nat) (hd : d ≤ n) (o : Option Int) : sIx n d o ≤ n := by
  cases o with
  | none => exact hd
  | some v =>
    show (if v < 0 then (v + (n : Int)).toNat else min v.toNat n) ≤ n
    by_cases hv : v < 0
    · rw [if_pos hv]; omega
    · rw [if_neg hv]; exact Nat.min_le_right _ _
theorem clip_eq (v : Int) (n d : Nat) : (if v < 0 then max (v + (n : Int)) 0 else min v (n : Int)) = ((sIx n d (some v) : Nat) : Int) := by
  show (if v < 0 then max (v + (n : Int)) 0 else min v (n : Int)) = (((if v < 0 then (v + (n : Int)).toNat else min v.toNat n) : Nat) : Int)
  by_cases hv : v < 0
  · simp only [if_pos hv]; omega
  · simp only [if_neg hv]; omega
theorem adjust_gen (lo hi : Option Int) (n : Nat) : Builtin.Slice.sliceAdjust lo hi 1 (n : Int) = (((sIx n 0 lo : Nat) : Int), ((sIx n n hi : Nat) : Int)) := by
  have h1 : ¬ ((1 : Int) < 0) := by omega
  unfold Builtin.Slice.sliceAdjust
  simp only [h1, if_false]
  refine Prod.ext ?_ ?_
  · cases lo with
    | none => rfl
    | some v => exact clip_eq v n 0
  · cases hi with
    | none => rfl
    | some v => exact clip_eq v n n
theorem places_gen (i j : Nat) : Builtin.Slice.slicePlaces (i : Int) (j : Int) 1 = j - i := by
  unfold Builtin.Slice.slicePlaces
  have h1 : (1 : Int) > 0 := by omega
  simp only [h1, if_true, Int.ediv_one]
  split <;> omega
theorem slicePart_ {v : Value} {o : Option Int} {Q : Option Int → Shared → Prop} (p : IsPart v o) (h : Q o s) : wpAny (model prog w) A (Builtin.Slice.slicePartIndex v) Q E s := by
  cases p with
  | none => exact slicePart_none h
  | int i t => exact slicePart_int h
theorem sliceApplied_gen {sl : Addr} {vl vu : Value} {lo hi : Option Int} {n : Nat} {Q : Int × Int × Nat → Shared → Prop} (hs : s.heap.IsSliceOf sl vl vu .none) (pl : IsPart vl lo) (pu : IsPart vu hi)
    (h : Q (((sIx n 0 lo : Nat) : Int), 1, sIx n n hi - sIx n 0 lo) s) : wpAny (model prog w) A (Builtin.Slice.sliceApplied (.ref sl) (pure (n : Int))) Q E s := by
  obtain ⟨os, hos, hcs, hds⟩ := id hs
  unfold Builtin.Slice.sliceApplied Builtin.Slice.sliceFields
  refine wpAny_bind (wpAny_bind (wpAny_field hos hds (x := vl) rfl (wpAny_bind (wpAny_field hos hds (x := vu) rfl (wpAny_bind (wpAny_field hos hds (x := .none) rfl (wpAny_pure ?_)))))))
  refine wpAny_bind (slicePart_none ?_)
  show wpAny _ _ (if ((1 : Int) == 0) = true then _ else _) _ _ s
  rw [if_neg (by decide)]
  refine wpAny_bind (slicePart_ pl (wpAny_bind (slicePart_ pu (wpAny_bind (wpAny_pure ?_)))))
  show wpAny _ _ (match Builtin.Slice.sliceAdjust lo hi 1 (n : Int) with | (lo, hi) => pure (lo, (1 : Int), Builtin.Slice.slicePlaces lo hi 1)) _ _ s
  rw [adjust_gen lo hi n]
  show wpAny _ _ (pure (((sIx n 0 lo : Nat) : Int), (1 : Int), Builtin.Slice.slicePlaces ((sIx n 0 lo : Nat) : Int) ((sIx n n hi : Nat) : Int) 1)) _ _ s
  rw [places_gen]
  exact wpAny_pure h
theorem pick_gen (xs : Array Value) (i k : Nat) : ((List.range k).filterMap fun (m : Nat) => xs[((i : Int) + (m : Int) * 1).toNat]?).toArray = ((xs.toList.drop i).take k).toArray := by
  have e : (fun (m : Nat) => xs[((i : Int) + (m : Int) * 1).toNat]?) = fun m => xs[i + m]? := by
    funext m
    have : ((i : Int) + (m : Int) * 1).toNat = i + m := by omega
    rw [this]
  rw [e]
  have := pick_run xs i k
  rw [List.filterMap_map] at this
  have e2 : ((fun x => xs[x]?) ∘ fun x => i + x) = fun m => xs[i + m]? := rfl
  rw [e2] at this
  rw [this]
theorem getItem_tuple_cut {t sl : Addr} {items : Array Value} {vl vu : Value} {lo hi : Option Int} {Q : Value → Shared → Prop} (ht : IsTup s.heap t items) (hs : s.heap.IsSliceOf sl vl vu .none) (pl : IsPart vl lo) (pu : IsPart vu hi)
    (hw : ¬ (sIx items.size 0 lo = 0 ∧ sIx items.size items.size hi = items.size))
    (h : Q (.ref s.heap.objs.size) { s with heap := s.heap.push { cls := .type "tuple", data := .seq ((items.toList.drop (sIx items.size 0 lo)).take (sIx items.size items.size hi - sIx items.size 0 lo)).toArray } })
    (hsz : items.size ≤ sizeLine) : wpAny (model prog w) A (getItem (.ref t) (.ref sl)) Q E s := by
  have htake : sizeOk (.seq ((items.toList.drop (sIx items.size 0 lo)).take (sIx items.size items.size hi - sIx items.size 0 lo)).toArray) := by
    show ((items.toList.drop (sIx items.size 0 lo)).take (sIx items.size items.size hi - sIx items.size 0 lo)).toArray.size ≤ sizeLine
    rw [List.size_toArray, List.length_take, List.length_drop, Array.length_toList]
    omega
  have hj : sIx items.size items.size hi ≤ items.size := sIx_le _ _ (Nat.le_refl _) hi
  obtain ⟨os, hos, hcs, hds⟩ := id hs
  have hTs : s.TypeIs (.ref sl) "slice" := ⟨os, hos, hcs⟩
  unfold getItem
  try with_reducible refine wpAny_holding ?_
  first | refine wpAny_bind (wpAny_pure ?_) | skip
  refine wpAny_bind (wpAny_sequenceKey ht.typeIs (by decide) ?_)
  refine wpAny_bind (wpAny_callSpecial?_slot (name := Str.ofString "__getitem__") ht.typeIs PyProof.Rows.slot_tuple_getitem
    (wpAny_call_entry PyProof.Rows.slot_tuple_getitem ht.typeIs entry_tuple_getitem ?_ (args_tuple_getitem _ _)))
  show wpAny _ _ (Builtin.Tuple.tupleItemsOf (.ref t) >>= _) _ _ s
  refine wpAny_bind (tupleItemsOf_ ht ?_)
  refine wpAny_bind (wpAny_typeOf hTs ?_)
  rw [if_pos (by decide)]
  refine wpAny_bind (sliceApplied_gen hs pl pu ?_)
  have hno : ¬ ((((sIx items.size 0 lo : Nat) : Int) == 0 && (1 : Int) == 1 && (sIx items.size items.size hi - sIx items.size 0 lo) == items.size) = true) := by
    intro q
    rw [Bool.and_eq_true, Bool.and_eq_true] at q
    have q1 : ((sIx items.size 0 lo : Nat) : Int) = 0 := eq_of_beq q.1.1
    have q2 : sIx items.size items.size hi - sIx items.size 0 lo = items.size := eq_of_beq q.2
    exact hw ⟨by omega, by omega⟩
  show wpAny _ _ (if (((sIx items.size 0 lo : Nat) : Int) == 0 && (1 : Int) == 1 && (sIx items.size items.size hi - sIx items.size 0 lo) == items.size) = true then _ else _) _ _ s
  rw [if_neg hno, pick_gen]
  first
    | exact wpAny_bind (m := Builtin.Tuple.tupleExact _) (wpAny_newObj_type (wpAny_pure ⟨_, rfl, wpAny_pure h⟩) htake)
    | exact wpAny_bind (m := Builtin.Tuple.tupleExact _) (wpAny_newObj_type (wpAny_bind (wpAny_pure (wpAny_pure ⟨_, rfl, wpAny_pure h⟩))) htake)
    | exact wpAny_bind (wpAny_bind (m := Builtin.Tuple.tupleExact _) (wpAny_newObj_type (wpAny_pure (wpAny_pure ⟨_, rfl, wpAny_pure h⟩)) htake))
    | exact wpAny_bind (wpAny_bind (m := Builtin.Tuple.tupleExact _) (wpAny_newObj_type (wpAny_pure ⟨_, rfl, wpAny_pure h⟩) htake))
end
end HT
namespace L2
open PySem PySem.Spec PyProof.Rows
abbrev TO := St → Hp → (Option Int → Hp → Prop) → Prop
def PO (X : Cx) (e : Option Expr) (t : TO) : Prop :=
  ∀ (pins : List (Addr × Obj)) (s : Shared) (σ : St) (H : Hp) (Q : Option Int → Hp → Prop), Inv X pins σ H s → t σ H Q →
    wpAny (model X.prog X.w) X.A (evalPart e X.env) (fun u s' => ∃ o H', Inv X pins σ H' s' ∧ IsPart u o ∧ Q o H') X.xe s
def tNoPart : TO := fun _ H Q => Q none H
def tPart (t : TE) : TO := fun σ H Q => t σ H fun x H1 => ∃ i, x = .int i ∧ Q (some i) H1
section
variable {X : Cx} {e : Expr} {te : TE} {lo hi : Option Expr} {tl th : TO} {pos p2 : Pos}
theorem po_none : PO X none tNoPart := by
  intro pins s σ H Q I h
  rw [evalPart_none]
  exact wpAny_pure ⟨none, H, I, .none, h⟩
theorem po_some (h : PE X e te) : PO X (some e) (tPart te) := by
  intro pins s σ H Q I hw
  rw [evalPart_some]
  refine thn (h pins s σ H _ I hw) fun u s1 ⟨x, H1, I1, r1, q1⟩ => ?_
  obtain ⟨i, rfl, q⟩ := q1
  obtain ⟨t, rfl⟩ := r1
  exact ⟨some i, H1, I1, .int i t, q⟩
def SlR (X : Cx) (r : V → Option Int → Option Int → Hp → VK → Prop) : Prop :=
  ∀ (pins : List (Addr × Obj)) (s : Shared) (σ : St) (H : Hp) (x : V) (v vl vu : Value) (lo hi : Option Int) (sl : Addr) (Q : VK), Inv X pins σ H s → RelV x v → s.heap.IsSliceOf sl vl vu .none → IsPart vl lo → IsPart vu hi → r x lo hi H Q →
    ∃ T id, typeLookup (.type T) "__getitem__" = pure (some (.builtin id)) ∧ s.TypeIs v T ∧ wpAny (model X.prog X.w) X.A (getItem v (.ref sl)) (EP X pins σ Q) X.xe s
theorem SlR.or {r r' : V → Option Int → Option Int → Hp → VK → Prop} (h : SlR X r) (h' : SlR X r') : SlR X (fun x lo hi H Q => r x lo hi H Q ∨ r' x lo hi H Q) := by
  intro pins s σ H x v vl vu lo hi sl Q I rx hs pl pu q
  rcases q with q | q
  · exact h pins s σ H x v vl vu lo hi sl Q I rx hs pl pu q
  · exact h' pins s σ H x v vl vu lo hi sl Q I rx hs pl pu q
def tSl (r : V → Option Int → Option Int → Hp → VK → Prop) (te : TE) (tl th : TO) : TE := fun σ H Q => te σ H fun x H1 => tl σ H1 fun l H2 => th σ H2 fun u H3 => r x l u H3 Q
theorem pe_slice {r : V → Option Int → Option Int → Hp → VK → Prop} (hr : SlR X r) (he : PE X e te) (hl : PO X lo tl) (hu : PO X hi th) : PE X (.Subscript e (.Slice lo hi none p2) pos) (tSl r te tl th) := by
  intro pins s σ H Q I h
  refine Subscript_ (thn (he pins s σ H _ I h) fun v s1 ⟨x, H1, I1, r1, q1⟩ => ?_)
  refine wpAny_Slice (thn (hl pins s1 σ H1 _ I1 q1) fun vl s2 ⟨l, H2, I2, pl, q2⟩ => thn (hu pins s2 σ H2 _ I2 q2) fun vu s3 ⟨u, H3, I3, pu, q3⟩ => ?_)
  rw [evalPart_none]
  refine wpAny_pure ?_
  have I4 : Inv X pins σ H3 { s3 with heap := s3.heap.push { cls := .type "slice", data := .fields #[vl, vu, .none] } } := I3.kept (t' := s3.toks) fun b ob q => Heap.get?_push_of_some _ q
  obtain ⟨T, id, hT, ht, hg⟩ := hr pins { s3 with heap := s3.heap.push { cls := .type "slice", data := .fields #[vl, vu, .none] } } σ H3 x v vl vu l u s3.heap.objs.size Q I4 r1 (Heap.IsSliceOf.new ..) pl pu q3
  show wpAny (model X.prog X.w) X.A (subscriptTail e (.Slice lo hi none p2) v (.ref s3.heap.objs.size)) (EP X pins σ Q) X.xe { s3 with heap := s3.heap.push { cls := .type "slice", data := .fields #[vl, vu, .none] } }
  exact tail_any (ops := [.ref s3.heap.objs.size, v]) ht hT hg (by with_unfolding_all rfl)
def cutV (xs : List V) (lo hi : Option Int) : List V := (xs.drop (HT.sIx xs.length 0 lo)).take (HT.sIx xs.length xs.length hi - HT.sIx xs.length 0 lo)
theorem cutV_length (xs : List V) (lo hi : Option Int) : (cutV xs lo hi).length ≤ xs.length := by
  unfold cutV
  rw [List.length_take, List.length_drop]
  omega
def rSlT (K : PySem.W.Frag) : V → Option Int → Option Int → Hp → VK → Prop := fun x lo hi H Q => ∃ a xs, x = .ref a ∧ SqT K H a xs ∧
  ¬ (HT.sIx xs.length 0 lo = 0 ∧ HT.sIx xs.length xs.length hi = xs.length) ∧ ∀ p, H p = none → Q (.ref p) (upd H p (.tup (cutV xs lo hi)))
theorem sl_tup : SlR X (rSlT X.K) := by
  intro pins s σ H x v vl vu lo hi sl Q I rx hs pl pu h
  obtain ⟨a, xs, rfl, hx, hw, q⟩ := h
  cases rx
  obtain ⟨its, r, ht, hz⟩ := I.tuple hx
  have hlen : its.toArray.size = xs.length := by rw [List.size_toArray]; exact r.length.symm
  refine ⟨"tuple", _, PyProof.Rows.slot_tuple_getitem.lookup, ht.typeIs, ?_⟩
  refine HT.getItem_tuple_cut ht hs pl pu (by rw [hlen]; exact hw) ?_ (by rw [hlen]; exact hz)
  rw [hlen]
  refine ⟨.ref s.heap.objs.size, _, I.laid (t' := s.toks) (o := .tup (cutV xs lo hi)) (fun b ob q => Heap.get?_push_of_some _ q) (Nat.le_refl _) ?_, rfl, q _ (I.hok.fresh (Nat.le_refl _))⟩
  exact ⟨Nat.le_trans (cutV_length xs lo hi) hz, _, (r.drop (HT.sIx xs.length 0 lo)).take (HT.sIx xs.length xs.length hi - HT.sIx xs.length 0 lo), IsTup.new _ _⟩
def rCatT (K : PySem.W.Frag) : R2 := fun x y H Q => ∃ a b xs ys, x = .ref a ∧ y = .ref b ∧ SqT K H a xs ∧ SqT K H b ys ∧ xs ≠ [] ∧ xs.length + ys.length ≤ sizeLine ∧
  (ys = [] → Q (.ref a) H) ∧ (ys ≠ [] → ∀ p, H p = none → Q (.ref p) (upd H p (.tup (xs ++ ys))))
theorem Vals.nil_iff {xs : List V} {us : List Value} (r : Vals xs us) : us = [] ↔ xs = [] := by
  cases r with
  | nil => simp
  | cons _ _ => simp
theorem op_catT : OpR X (binaryOp .Add) (rCatT X.K) := by
  intro pins s σ H x y v u Q I rx ry h
  obtain ⟨a, b, xs, ys, rfl, rfl, ha, hb, hx, hz, q1, q2⟩ := h
  cases rx
  cases ry
  obtain ⟨its, r1, p1, _⟩ := I.tuple ha
  obtain ⟨its2, r2, p2, _⟩ := I.tuple hb
  refine HT.cat_tup p1 p2 (fun z => hx (r1.nil_iff.mp z)) (fun z => ⟨.ref a, H, I, rfl, q1 (r2.nil_iff.mp z)⟩) (fun z => ?_) (by rw [← r1.length, ← r2.length]; exact hz)
  refine ⟨.ref s.heap.objs.size, _, I.laid (t' := s.toks) (o := .tup (xs ++ ys)) (fun b ob q => Heap.get?_push_of_some _ q) (Nat.le_refl _) ?_, rfl, q2 (fun w => z (r2.nil_iff.mpr w)) _ (I.hok.fresh (Nat.le_refl _))⟩
  exact ⟨by rw [List.length_append]; exact hz, _, r1.append r2, IsTup.new _ _⟩
end
end L2
namespace L2
open PySem PySem.Spec PyProof.Rows
def ixN (n : Nat) (i : Int) : Option Nat := if 0 ≤ i then (if i < n then some i.toNat else none) else if -(n : Int) ≤ i then some (i + n).toNat else none
def atI {α : Type} (xs : List α) (i : Int) : Option α := (ixN xs.length i).bind fun j => xs[j]?
theorem ixN_seq {n : Nat} {i : Int} {j : Nat} (h : ixN n i = some j) : seqIndex? i n = some j ∧ j < n ∧ -(n : Int) ≤ i ∧ i < n := by
  unfold ixN at h
  by_cases h0 : 0 ≤ i
  · rw [if_pos h0] at h
    by_cases h1 : i < n
    · rw [if_pos h1] at h
      have e : i.toNat = j := Option.some.inj h
      exact ⟨by rw [seqIndex_of h0 h1, e], by omega, by omega, h1⟩
    · rw [if_neg h1] at h; cases h
  · rw [if_neg h0] at h
    by_cases h1 : -(n : Int) ≤ i
    · rw [if_pos h1] at h
      have e : (i + n).toNat = j := Option.some.inj h
      exact ⟨by rw [seqIndex_neg (by omega) h1, e], by omega, h1, by omega⟩
    · rw [if_neg h1] at h; cases h
theorem atI_get {α : Type} {xs : List α} {i : Int} {v : α} (h : atI xs i = some v) : ∃ j, seqIndex? i xs.length = some j ∧ xs[j]? = some v ∧ j < xs.length ∧ -(xs.length : Int) ≤ i ∧ i < xs.length := by
  unfold atI at h
  cases e : ixN xs.length i with
  | none => rw [e] at h; cases h
  | some j =>
    rw [e] at h
    obtain ⟨h1, h2, h3, h4⟩ := ixN_seq e
    exact ⟨j, h1, h, h2, h3, h4⟩
theorem atI_nat {α : Type} {xs : List α} {j : Nat} {v : α} (h : xs[j]? = some v) : atI xs (j : Int) = some v := by
  have hj : j < xs.length := (List.getElem?_eq_some_iff.mp h).1
  have e : ixN xs.length (j : Int) = some j := by
    unfold ixN
    rw [if_pos (by omega), if_pos (by omega)]; simp
  unfold atI; rw [e]; exact h
def PlainIx (b : Expr) : Prop := ∀ o i, subscripted b false o i = operate [o, i] (getItem o i)
def IxR (X : Cx) (r : R2) : Prop :=
  ∀ (value slice : Expr) (pins : List (Addr × Obj)) (s : Shared) (σ : St) (H : Hp) (x y : V) (v u : Value) (Q : VK), Inv X pins σ H s → RelV x v → RelV y u → r x y H Q →
    subscripted slice false v u = operate [v, u] (getItem v u) → wpAny (model X.prog X.w) X.A (subscriptTail value slice v u) (EP X pins σ Q) X.xe s
def MtR (X : Cx) (id : String) (r : V → List V → Hp → VK → Prop) : Prop :=
  ∀ (pins : List (Addr × Obj)) (s : Shared) (σ : St) (H : Hp) (x : V) (xs : List V) (v : Value) (us : List Value) (Q : VK), Inv X pins σ H s → RelV x v → Vals xs us → r x xs H Q →
    wpAny (model X.prog X.w) X.A (call (.builtin id) (v :: us)) (EP X pins σ Q) X.xe s
section
variable {X : Cx} {a b : Expr} {ta tb : TE} {pos : Pos}
theorem IxR.or {r r' : R2} (h : IxR X r) (h' : IxR X r') : IxR X (fun x y H Q => r x y H Q ∨ r' x y H Q) := by
  intro value slice pins s σ H x y v u Q I rx ry q hs
  rcases q with q | q
  · exact h value slice pins s σ H x y v u Q I rx ry q hs
  · exact h' value slice pins s σ H x y v u Q I rx ry q hs
theorem pe_ix {r : R2} (hr : IxR X r) (ha : PE X a ta) (hb : PE X b tb) (hs : PlainIx b) : PE X (.Subscript a b pos) (tOp r ta tb) := by
  intro pins s σ H Q I h
  exact Subscript_ (binT ha hb I h fun v u s2 x y H2 I2 rx ry q => hr a b pins s2 σ H2 x y v u Q I2 rx ry q (hs _ _))
def rIxL (K : PySem.W.Frag) : R2 := fun x y H Q => ∃ p xs i v, x = .ref p ∧ y = .int i ∧ SqL K H p xs ∧ atI xs i = some v ∧ Q v H
def rIxT (K : PySem.W.Frag) : R2 := fun x y H Q => ∃ p xs i v, x = .ref p ∧ y = .int i ∧ SqT K H p xs ∧ atI xs i = some v ∧ Q v H
def rIxS : R2 := fun x y H Q => ∃ z i c, x = .str z ∧ y = .int i ∧ z.length ≤ sizeLine ∧ atI z.cps.toList i = some c ∧ Q (.str ⟨#[c]⟩) H
theorem ix_list : IxR X (rIxL X.K) := by
  intro value slice pins s σ H x y v u Q I rx ry h hs
  obtain ⟨p, xs, i, z, rfl, rfl, hq, he, q⟩ := h
  cases rx
  obtain ⟨t, rfl⟩ := ry
  obtain ⟨its, r, pl, hz⟩ := I.list hq
  obtain ⟨j, h1, h2, h3, h4, h5⟩ := atI_get he
  obtain ⟨w, ew, rw'⟩ := r.get h2
  have hl := r.length
  have hn := line63
  have fin : EP X pins σ Q w s := ⟨z, H, I, rw', q⟩
  by_cases h0 : 0 ≤ i
  · have hj : i.toNat = j := by
      rw [seqIndex_of h0 h5] at h1
      exact Option.some.inj h1
    exact item_listR pl.isList h0 (by omega) (by rw [hj]; simpa using ew) fin hs
  · have hj : (i + (its.toArray.size : Int)).toNat = j := by
      rw [seqIndex_neg (by omega) h4] at h1
      rw [List.size_toArray, ← hl]
      exact Option.some.inj h1
    exact subscriptTail_builtinR (x := w) pl.isList.typeIs slot_list_getitem.lookup
      (wpAny_getItem_list_neg (Q := fun r s' => r = w ∧ EP X pins σ Q r s') pl.isList (by omega) (by rw [List.size_toArray] <;> omega) (by omega) (by rw [hj]; simpa using ew) ⟨rfl, fin⟩) hs
theorem ix_tup : IxR X (rIxT X.K) := by
  intro value slice pins s σ H x y v u Q I rx ry h hs
  obtain ⟨p, xs, i, z, rfl, rfl, hq, he, q⟩ := h
  cases rx
  obtain ⟨t, rfl⟩ := ry
  obtain ⟨its, r, pl, hz⟩ := I.tuple hq
  obtain ⟨j, h1, h2, h3, h4, h5⟩ := atI_get he
  obtain ⟨w, ew, rw'⟩ := r.get h2
  have hl := r.length
  have hn := line63
  have fin : EP X pins σ Q w s := ⟨z, H, I, rw', q⟩
  exact subscriptTail_builtinR (x := w) pl.typeIs slot_tuple_getitem.lookup
    (getItem_tuple (j := j) (Q := fun r s' => r = w ∧ EP X pins σ Q r s') pl (by omega) (by omega) (by rw [List.size_toArray, ← hl]; exact h1) (by simpa using ew) ⟨rfl, fin⟩) hs
theorem ix_str : IxR X rIxS := by
  intro value slice pins s σ H x y v u Q I rx ry h hs
  obtain ⟨z, i, c, rfl, rfl, hz, he, q⟩ := h
  obtain ⟨t, rfl⟩ := rx
  obtain ⟨t', rfl⟩ := ry
  obtain ⟨j, h1, h2, h3, h4, h5⟩ := atI_get he
  have hl : z.cps.toList.length = z.length := by simp [Str.length]
  rw [hl] at h1 h4 h5
  have hn := line63
  exact tail_any (typeIs_str s z t) slot_str_getitem.lookup (getItem_str (c := c) (by
    have e1 : decide (i < -(2 ^ 63 : Int)) = false := decide_eq_false (by omega)
    have e2 : decide (i ≥ 2 ^ 63) = false := decide_eq_false (by omega)
    rw [e1, e2, Bool.or_false]) (by rw [h1]; simpa using h2) ⟨.str ⟨#[c]⟩, H, I.tok _, ⟨_, rfl⟩, q⟩) hs
def rIx (K : PySem.W.Frag) : R2 := fun x y H Q => rIxL K x y H Q ∨ rIxT K x y H Q ∨ rIxS x y H Q
theorem ix_seq : IxR X (rIx X.K) := ix_list.or (ix_tup.or ix_str)
def rSetL : V → V → V → Hp → (Hp → Prop) → Prop := fun o i v H Q => ∃ p xs k j, o = .ref p ∧ i = .int k ∧ H p = some (.lst xs) ∧ ixN xs.length k = some j ∧ Q (upd H p (.lst (xs.set j v)))
theorem slice_bounds (lo hi : Option Int) (n : Nat) : (sliceBounds lo hi none n).1 = ((HT.sIx n 0 lo : Nat) : Int) ∧ (sliceBounds lo hi none n).2.1 = ((HT.sIx n n hi : Nat) : Int) ∧ (sliceBounds lo hi none n).2.2 = 1 := by
  refine ⟨?_, ?_, rfl⟩
  · cases lo with
    | none => simp [sliceBounds, HT.sIx]
    | some i =>
      simp only [sliceBounds, HT.sIx, Option.getD_none, show (1 : Int) > 0 by decide, if_true]
      by_cases h : i < 0
      · simp only [h, if_true] <;> omega
      · simp only [h, if_false] <;> omega
  · cases hi with
    | none => simp [sliceBounds, HT.sIx]
    | some i =>
      simp only [sliceBounds, HT.sIx, Option.getD_none, show (1 : Int) > 0 by decide, if_true]
      by_cases h : i < 0
      · simp only [h, if_true] <;> omega
      · simp only [h, if_false] <;> omega
theorem slicePick_cut (its : List Value) (lo hi : Option Int) : slicePick its.toArray lo hi none = ((its.drop (HT.sIx its.length 0 lo)).take (HT.sIx its.length its.length hi - HT.sIx its.length 0 lo)).toArray := by
  obtain ⟨h1, h2, h3⟩ := slice_bounds lo hi its.toArray.size
  unfold slicePick
  rw [h1, h2, h3]
  simp only [sliceRange_one, pick_run, List.size_toArray] <;> rfl
def rSlL (K : PySem.W.Frag) : V → Option Int → Option Int → Hp → VK → Prop := fun x lo hi H Q => ∃ a xs, x = .ref a ∧ SqL K H a xs ∧ ∀ p, H p = none → Q (.ref p) (upd H p (.lst (cutV xs lo hi)))
theorem sl_list : SlR X (rSlL X.K) := by
  intro pins s σ H x v vl vu lo hi sl Q I rx hs pl pu h
  obtain ⟨a, xs, rfl, hx, q⟩ := h
  cases rx
  obtain ⟨its, r, ht, hz⟩ := I.list hx
  have hlen := r.length
  refine ⟨"list", _, slot_list_getitem.lookup, ht.isList.typeIs, ?_⟩
  refine wpAny_getItem_list_slice ht.isList hs pl pu .none (by simp) ?_ (by rw [List.size_toArray] <;> omega)
  rw [slicePick_cut, ← hlen]
  refine ⟨.ref s.heap.objs.size, _, I.laid (t' := s.toks) (o := .lst (cutV xs lo hi)) (fun b ob q => Heap.get?_push_of_some _ q) (Nat.le_refl _) ?_, rfl, q _ (I.hok.fresh (Nat.le_refl _))⟩
  exact ⟨Nat.le_trans (cutV_length xs lo hi) hz, _, 0, (r.drop (HT.sIx xs.length 0 lo)).take (HT.sIx xs.length xs.length hi - HT.sIx xs.length 0 lo), Heap.get?_push_size _ rfl⟩
def flatV : V → Bool
  | .non => true
  | .bl _ => true
  | .int _ => true
  | .str _ => true
  | _ => false
def eqV : V → V → Bool
  | .non, .non => true
  | .bl a, .bl b => a == b
  | .bl a, .int b => (if a then 1 else 0) == b
  | .int a, .bl b => a == (if b then 1 else 0)
  | .int a, .int b => a == b
  | .str a, .str b => a == b
  | _, _ => false
theorem eqAt_V {A : Around} {s : Shared} {y x : V} {u v : Value} (ry : RelV y u) (rx : RelV x v) (fy : flatV y = true) (fx : flatV x = true) : SeqAt.EqAt A s u v (eqV y x) := by
  cases y with
  | non =>
    cases ry
    cases x with
    | non => cases rx; exact SeqAt.EqAt.same _
    | bl b => cases rx; exact SeqAt.EqAt.none_bool b
    | int b => obtain ⟨t, rfl⟩ := rx; exact SeqAt.EqAt.none_int b t
    | str b => obtain ⟨t, rfl⟩ := rx; exact SeqAt.EqAt.none_str b t
    | _ => exact absurd (show false = true from fx) Bool.false_ne_true
  | bl a =>
    cases ry
    cases x with
    | non => cases rx; exact SeqAt.EqAt.bool_none a
    | bl b => cases rx; exact SeqAt.EqAt.bool_bool a b
    | int b => obtain ⟨t, rfl⟩ := rx; exact SeqAt.EqAt.bool_int a b t
    | str b => obtain ⟨t, rfl⟩ := rx; exact SeqAt.EqAt.bool_str a b t
    | _ => exact absurd (show false = true from fx) Bool.false_ne_true
  | int a =>
    obtain ⟨t', rfl⟩ := ry
    cases x with
    | non => cases rx; exact SeqAt.EqAt.int_none a t'
    | bl b => cases rx; exact SeqAt.EqAt.int_bool a t' b
    | int b => obtain ⟨t, rfl⟩ := rx; exact SeqAt.EqAt.int_int a t' b t
    | str b => obtain ⟨t, rfl⟩ := rx; exact SeqAt.EqAt.int_str a t' b t
    | _ => exact absurd (show false = true from fx) Bool.false_ne_true
  | str a =>
    obtain ⟨t', rfl⟩ := ry
    cases x with
    | non => cases rx; exact SeqAt.EqAt.str_none a t'
    | bl b => cases rx; exact SeqAt.EqAt.str_bool a t' b
    | int b => obtain ⟨t, rfl⟩ := rx; exact SeqAt.EqAt.str_int a t' b t
    | str b => obtain ⟨t, rfl⟩ := rx; exact SeqAt.EqAt.str_str a t' b t
    | _ => exact absurd (show false = true from fx) Bool.false_ne_true
  | _ => exact absurd (show false = true from fy) Bool.false_ne_true
def eqU (x : V) (u : Value) : Bool := match u with
  | .none => eqV .non x
  | .bool b => eqV (.bl b) x
  | .int i _ => eqV (.int i) x
  | .str z _ => eqV (.str z) x
  | _ => false
theorem eqU_of {x y : V} {u : Value} (r : RelV y u) (f : flatV y = true) : eqU x u = eqV y x := by
  cases y with
  | non => cases r; rfl
  | bl b => cases r; rfl
  | int i => obtain ⟨t, rfl⟩ := r; rfl
  | str z => obtain ⟨t, rfl⟩ := r; rfl
  | _ => exact absurd (show false = true from f) Bool.false_ne_true
theorem any_eqU {x : V} : ∀ {xs : List V} {us : List Value}, Vals xs us → xs.all flatV = true → us.any (eqU x) = xs.any fun y => eqV y x
  | _, _, .nil, _ => rfl
  | y :: xs, u :: us, .cons r t, f => by
    rw [List.all_cons, Bool.and_eq_true] at f
    rw [List.any_cons, List.any_cons, eqU_of r f.1, any_eqU t f.2]
theorem mem_eqAt {A : Around} {s : Shared} {x : V} {v : Value} (rx : RelV x v) (fx : flatV x = true) : ∀ {xs : List V} {us : List Value}, Vals xs us → xs.all flatV = true → ∀ u ∈ us, SeqAt.EqAt A s u v (eqU x u)
  | _, _, .nil, _ => fun u hu => by cases hu
  | y :: xs, u :: us, .cons r t, f => fun u' hu => by
    rw [List.all_cons, Bool.and_eq_true] at f
    rcases List.mem_cons.mp hu with rfl | hu
    · rw [eqU_of r f.1]; exact eqAt_V r rx f.1 fx
    · exact mem_eqAt rx fx t f.2 u' hu
def inV (x : V) (xs : List V) : Bool := xs.any fun y => eqV y x
def rIn (K : PySem.W.Frag) (neg : Bool) : R2 := fun x y H Q => ∃ p xs, y = .ref p ∧ (SqL K H p xs ∨ SqT K H p xs) ∧ flatV x = true ∧ xs.all flatV = true ∧ Q (.bl (if neg then !inV x xs else inV x xs)) H
theorem op_in_seq : OpR X (compareOp .In) (rIn X.K false) := by
  intro pins s σ H x y v u Q I rx ry h
  obtain ⟨p, xs, rfl, hq, fx, fs, q⟩ := h
  cases ry
  rcases hq with hq | hq
  · obtain ⟨its, r, pl, hz⟩ := I.list hq
    refine SeqAt.in_listAt (eqU x) pl.isList (fun w hw => mem_eqAt rx fx r fs w (by simpa using hw)) ⟨.bl _, H, I, rfl, ?_⟩
    rw [show its.toArray.any (eqU x) = its.any (eqU x) by simp, any_eqU r fs]
    exact q
  · obtain ⟨its, r, pl, hz⟩ := I.tuple hq
    refine SeqAt.in_tupleAt (eqU x) pl (fun w hw => mem_eqAt rx fx r fs w (by simpa using hw)) ⟨.bl _, H, I, rfl, ?_⟩
    rw [show its.toArray.any (eqU x) = its.any (eqU x) by simp, any_eqU r fs]
    exact q
theorem op_notIn_seq : OpR X (compareOp .NotIn) (rIn X.K true) := by
  intro pins s σ H x y v u Q I rx ry h
  obtain ⟨p, xs, rfl, hq, fx, fs, q⟩ := h
  cases ry
  rcases hq with hq | hq
  · obtain ⟨its, r, pl, hz⟩ := I.list hq
    refine SeqAt.notIn_listAt (eqU x) pl.isList (fun w hw => mem_eqAt rx fx r fs w (by simpa using hw)) ⟨.bl _, H, I, rfl, ?_⟩
    rw [show its.toArray.any (eqU x) = its.any (eqU x) by simp, any_eqU r fs]
    exact q
  · obtain ⟨its, r, pl, hz⟩ := I.tuple hq
    refine SeqAt.notIn_tupleAt (eqU x) pl (fun w hw => mem_eqAt rx fx r fs w (by simpa using hw)) ⟨.bl _, H, I, rfl, ?_⟩
    rw [show its.toArray.any (eqU x) = its.any (eqU x) by simp, any_eqU r fs]
    exact q
theorem op_notIn_str : OpR X (compareOp .NotIn) (fun x y H Q => ∃ i j, x = .str i ∧ y = .str j ∧ Q (.bl (!(!(Builtin.Str.occurrences j i 0 j.length 1).isEmpty))) H) := by
  intro pins s σ H x y v u Q I rx ry h
  obtain ⟨i, j, rfl, rfl, q⟩ := h
  obtain ⟨t, rfl⟩ := rx
  obtain ⟨t', rfl⟩ := ry
  exact notIn_str ⟨.bl _, H, I, rfl, q⟩
theorem call_tuple_of : CallR X (.type "tuple") (fun xs H Q => ∃ p ys, xs = [.ref p] ∧ ((SqL X.K H p ys ∧ ∀ l, H l = none → Q (.ref l) (upd H l (.tup ys))) ∨ (SqT X.K H p ys ∧ Q (.ref p) H))) := by
  intro pins s σ H xs us Q I r h
  obtain ⟨p, ys, rfl, h⟩ := h
  obtain ⟨u, rfl, rx⟩ := vals1 r
  cases rx
  rcases h with ⟨hq, q⟩ | ⟨hq, q⟩
  · obtain ⟨its, r', pl, hz⟩ := I.list hq
    have hlen := r'.length
    refine call_tuple_list pl.isList (fun h' kp => ?_) (by simp only [List.size_toArray] <;> omega)
    have I1 : Inv X pins σ H { s with heap := h' } := I.kept (t' := s.toks) kp
    have I2 : Inv X pins σ (upd H h'.objs.size (.tup ys)) { s with heap := h'.push { cls := .type "tuple", data := .seq its.toArray } } :=
      I1.laid (t' := s.toks) (fun b o e => Heap.get?_push_of_some _ e) (Nat.le_refl _) (show ObjOk X.prog X.w _ _ _ (.tup ys) from ⟨hz, its, r', IsTup.new _ _⟩)
    exact ⟨.ref h'.objs.size, _, I2, rfl, q _ (I1.hok.fresh (Nat.le_refl _))⟩
  · obtain ⟨its, r', pl, hz⟩ := I.tuple hq
    exact call_tuple_same pl ⟨.ref p, H, I, rfl, q⟩
def tyV (K : PySem.W.Frag) (T : String) (x : V) (H : Hp) : Prop := match x with
  | .str _ => T = "str"
  | .int _ => T = "int"
  | .ref p => (T = "list" ∧ ∃ xs, SqL K H p xs) ∨ (T = "tuple" ∧ ∃ o, K.lookup p = some o ∧ o.cls = .type "tuple" ∧ o.dict = none) ∨
      (T = "dict" ∧ ((∃ kvs, H p = some (.dK kvs)) ∨ ∃ kvs, H p = some (.dT kvs))) ∨ (T = "set" ∧ ∃ S n, H p = some (.set S n))
  | _ => False
theorem tyV_is {pins : List (Addr × Obj)} {σ : St} {H : Hp} {s : Shared} {T : String} {x : V} {v : Value} (I : Inv X pins σ H s) (r : RelV x v) (ty : tyV X.K T x H) :
    s.TypeIs v T ∧ ∀ a, v = .ref a → ∃ ob, s.heap.get? a = some ob ∧ ob.dict = none := by
  cases x with
  | str z =>
    obtain ⟨t, rfl⟩ := r
    cases (show T = "str" from ty)
    exact ⟨typeIs_str s z t, fun _ e => nomatch e⟩
  | int i =>
    obtain ⟨t, rfl⟩ := r
    cases (show T = "int" from ty)
    exact ⟨typeIs_int s i t, fun _ e => nomatch e⟩
  | ref p =>
    cases r
    rcases ty with ⟨rfl, xs, hq⟩ | ⟨rfl, o, hk, hc, hd⟩ | ⟨rfl, hk⟩ | ⟨rfl, S, n, hk⟩
    · obtain ⟨its, _, pl, _⟩ := I.list hq
      refine ⟨pl.isList.typeIs, fun a e => ?_⟩
      cases e
      obtain ⟨o, n, e, c, hd, _⟩ := pl
      exact ⟨o, e, hd⟩
    · refine ⟨⟨o, I.kIn p o hk, hc⟩, fun a e => ?_⟩
      cases e
      exact ⟨o, I.kIn _ o hk, hd⟩
    · have z : ∃ o, s.heap.get? p = some o ∧ o.ExactDict := by
        rcases hk with ⟨kvs, hk⟩ | ⟨kvs, hk⟩
        · obtain ⟨_, _, _, _, o, _, _, e, ex, _⟩ := I.hok p _ hk
          exact ⟨o, e, ex⟩
        · obtain ⟨_, _, _, _, o, _, _, e, ex, _⟩ := I.hok p _ hk
          exact ⟨o, e, ex⟩
      obtain ⟨o, e, ex⟩ := z
      refine ⟨⟨o, e, ex.1⟩, fun a e2 => ?_⟩
      cases e2
      exact ⟨o, e, ex.2.1⟩
    · obtain ⟨o, _, _, _, e, ex, _⟩ := I.hok p _ hk
      refine ⟨⟨o, e, ex.1⟩, fun a e2 => ?_⟩
      cases e2
      exact ⟨o, e, ex.2.1⟩
  | _ => exact False.elim ty
def tBM0 (K : PySem.W.Frag) (T : String) (r : V → List V → Hp → VK → Prop) (to : TE) : TE := fun σ H Q => to σ H fun x H1 => tyV K T x H1 ∧ r x [] H1 Q
def tBM (K : PySem.W.Frag) (T : String) (r : V → List V → Hp → VK → Prop) (to : TE) (t : TA) : TE := fun σ H Q => to σ H fun x H1 => tyV K T x H1 ∧ t σ H1 fun xs H2 => r x xs H2 Q
variable {o e : Expr} {es : List Expr} {to : TE} {t : TA} {name : Str} {apos cpos : Pos} {T id : String} {r : V → List V → Hp → VK → Prop}
theorem pe_bm0 (pa : PlainAttrs T) (slot : Slot T name id) (hty : typeOf (.builtin id) = pure (.type "method_descriptor")) (hm : MtR X id r) (ho : PE X o to)
    (hbase : attributeBase o name X.env (eval o X.env) = eval o X.env := by rfl) (hline : (apos.endLine == cpos.line) = true := by rfl) : PE X (.Call (.Attribute o name apos) [] [] cpos) (tBM0 X.K T r to) := by
  intro pins s σ H Q I h
  refine wpAny_Call_method0_late hbase hline (thn (ho pins s σ H _ I h) fun v s1 ⟨x, H1, I1, r1, ty, q1⟩ => ?_)
  obtain ⟨h1, h2⟩ := tyV_is I1 r1 ty
  exact ⟨T, id, pa, slot, hty, h1, h2, Calls.callWith_builtin rfl (PySem.evalArgs_none (hm pins s1 σ H1 x [] v [] Q I1 r1 .nil q1))⟩
theorem pe_bm (pa : PlainAttrs T) (slot : Slot T name id) (hty : typeOf (.builtin id) = pure (.type "method_descriptor")) (hm : MtR X id r) (ho : PE X o to) (ha : PA X (e :: es) t)
    (hbase : attributeBase o name X.env (eval o X.env) = eval o X.env := by rfl)
    (hfew : ((backTo cpos (starEach (e :: es) X.env)).all (fun x => !x.1) && (backToKw cpos (keywordEach [] X.env)).all (fun x => x.1.isSome)
      && decide ((e :: es).length + ([] : List Keyword).length + (if ([] : List Keyword).isEmpty then 0 else 1) < 30)) = true := by rfl)
    (hline : (apos.endLine == cpos.line) = true := by rfl) (hs : starEach (e :: es) X.env = (false, eval e X.env) :: starEach es X.env := by rfl) (hplain : (backTo cpos (starEach es X.env)).any (·.1) = false := by rfl) :
    PE X (.Call (.Attribute o name apos) (e :: es) [] cpos) (tBM X.K T r to t) := by
  intro pins s σ H Q I h
  refine wpAny_Call_method_late hbase hfew hline rfl (thn (ho pins s σ H _ I h) fun v s1 ⟨x, H1, I1, r1, ty, q1⟩ => ?_)
  obtain ⟨h1, h2⟩ := tyV_is I1 r1 ty
  refine ⟨T, id, pa, slot, hty, h1, h2, ?_⟩
  have hA := ha cpos pins s1 σ H1 _ I1 q1
  rw [hs] at hA ⊢
  refine Calls.callWith_builtin (by show (false || (backTo cpos (starEach es X.env)).any (·.1)) = false; rw [hplain] <;> rfl) (Calls.evalArgs_plain ?_)
  exact thn hA fun us s2 ⟨vs, H2, I2, r2, q2⟩ => hm pins s2 σ H2 x vs v us Q I2 r1 r2 q2
end
end L2
namespace L2
open PySem PySem.Spec PyProof.Rows
def MtM (X : Cx) (id : String) (r : V → List V → Hp → VK → Prop) : Prop :=
  ∀ (pins : List (Addr × Obj)) (s : Shared) (σ : St) (H : Hp) (x : V) (xs : List V) (v : Value) (us : List Value) (Q : VK), Inv X pins σ H s → RelV x v → Vals xs us → r x xs H Q →
    wpAny (model X.prog X.w) X.A (call (.builtin id) (v :: us)) (EP X pins σ Q) X.xe s
theorem Vals.one : ∀ {x : V} {us : List Value}, Vals [x] us → ∃ u, us = [u] ∧ RelV x u
  | _, _, .cons r .nil => ⟨_, rfl, r⟩
theorem Vals.zero : ∀ {us : List Value}, Vals [] us → us = []
  | _, .nil => rfl
theorem Vals.dropLast {xs : List V} {us : List Value} (h : Vals xs us) : Vals xs.dropLast us.dropLast := by
  induction h with
  | nil => exact .nil
  | cons r t ih =>
    cases t with
    | nil => exact .nil
    | cons q t' => exact .cons r ih
theorem Vals.rep {xs : List V} {us : List Value} (h : Vals xs us) : ∀ k : Nat, Vals (List.replicate k xs).flatten (List.replicate k us).flatten
  | 0 => .nil
  | k + 1 => by
    rw [List.replicate_succ, List.replicate_succ, List.flatten_cons, List.flatten_cons]
    exact Vals.append h (Vals.rep h k)
theorem erase_last {α : Type} (l : List α) : l.eraseIdx (l.length - 1) = l.dropLast := by
  induction l with
  | nil => rfl
  | cons a r ih =>
    cases r with
    | nil => rfl
    | cons b r =>
      have e : (a :: b :: r).length - 1 = ((b :: r).length - 1) + 1 := by
        have h1 : (a :: b :: r).length = r.length + 2 := rfl
        have h2 : (b :: r).length = r.length + 1 := rfl
        omega
      rw [e, List.eraseIdx_cons_succ, ih]
      all_goals rfl
theorem foldl_rep (its : List Value) : ∀ (k : Nat) (acc : List Value),
    List.foldl (fun x1 x2 => x1 ++ x2) acc.toArray (List.replicate k its.toArray) = (acc ++ (List.replicate k its).flatten).toArray
  | 0, acc => by simp
  | k + 1, acc => by
    have e : acc.toArray ++ its.toArray = (acc ++ its).toArray := by simp
    have e2 : (acc ++ its) ++ (List.replicate k its).flatten = acc ++ (List.replicate (k + 1) its).flatten := by
      rw [List.replicate_succ, List.flatten_cons, List.append_assoc]
    rw [← e2, ← foldl_rep its k (acc ++ its), ← e, List.replicate_succ, List.foldl_cons]
section
variable {X : Cx} {pins : List (Addr × Obj)} {σ : St} {H : Hp} {s : Shared} {l b : Addr} {xs ys zs : List V}
theorem Inv.lset {its its' : List Value} {n : Nat} {f : Array Value → Array Value} {t' : Nat} (I : Inv X pins σ H s) (hH : H l = some (.lst xs))
    (e : s.heap.get? l = some { cls := .type "list", data := .seq its.toArray n }) (hf : f its.toArray = its'.toArray) (hv : Vals ys its') (hz : ys.length ≤ sizeLine) :
    Inv X pins σ (upd H l (.lst ys)) { s with heap := s.heap.update l (Obj.mapSeq f), toks := t' } := by
  have q := PySem.IsL.update e f
  rw [hf] at q
  refine I.write (x := l) (e := l) (by rw [hH]; exact trivial) (.inl rfl) (fun b' u hb hu => (Heap.get?_update_other s.heap (Obj.mapSeq f) (Ne.symm hb)).trans hu) ⟨_, q⟩ ?_
  exact ⟨hz, its', _, hv, q⟩
theorem Inv.lnew {its : List Value} {t' : Nat} (I : Inv X pins σ H s) (hv : Vals ys its) (hz : ys.length ≤ sizeLine) :
    Inv X pins σ (upd H s.heap.objs.size (.lst ys)) { s with heap := s.heap.push { cls := .type "list", data := .seq its.toArray }, toks := t' } :=
  I.laid (fun _ _ q => Heap.get?_push_of_some _ q) (Nat.le_refl _) ⟨hz, its, 0, hv, Heap.get?_push_size _ rfl⟩
theorem Inv.fresh (I : Inv X pins σ H s) : H s.heap.objs.size = none := I.hok.fresh (Nat.le_refl _)
theorem Inv.lstM (I : Inv X pins σ H s) (hH : H l = some (.lst xs)) : xs.length ≤ sizeLine ∧ ∃ (its : List Value) (n : Nat), Vals xs its ∧ xs.length = its.length ∧ s.heap.get? l = some { cls := .type "list", data := .seq its.toArray n } := by
  obtain ⟨z, its, n, r, e⟩ := I.hok l _ hH
  exact ⟨z, its, n, r, r.length, e⟩
theorem notLongL {n : Nat} (h : n ≤ sizeLine) : Builtin.List.listTooLong n = false := by
  unfold Builtin.List.listTooLong
  exact decide_eq_false (by omega)
end
section
variable {X : Cx}
def rAppend : V → List V → Hp → VK → Prop := fun x vs H Q => ∃ l xs y, x = .ref l ∧ vs = [y] ∧ H l = some (.lst xs) ∧ xs.length < sizeLine ∧ Q .non (upd H l (.lst (xs ++ [y])))
theorem mt_append : MtM X "list.append" rAppend := by
  intro pins s σ H x vs v us Q I rx rv h
  obtain ⟨l, xs, y, rfl, rfl, hH, hz, q⟩ := h
  cases rx
  obtain ⟨u, rfl, ru⟩ := rv.one
  obtain ⟨z, its, n, r, hl, e⟩ := I.lstM hH
  refine call_meets F.slot_list_append ⟨_, e, rfl⟩ F.entry_list_append (F.args_list_append_2 _ _) (PySem.list_append l its.toArray n u (by rw [List.size_toArray]; omega)) ⟨e, ?_⟩
  refine ⟨.non, _, I.lset (its' := its ++ [u]) hH e (by simp) (r.append (.cons ru .nil)) ?_, rfl, q⟩
  rw [List.length_append, List.length_singleton]
  omega
def rExtend : V → List V → Hp → VK → Prop := fun x vs H Q => ∃ l b xs zs, x = .ref l ∧ vs = [.ref b] ∧ H l = some (.lst xs) ∧ H b = some (.lst zs) ∧ xs.length + zs.length ≤ sizeLine ∧ Q .non (upd H l (.lst (xs ++ zs)))
theorem mt_extend : MtM X "list.extend" rExtend := by
  intro pins s σ H x vs v us Q I rx rv h
  obtain ⟨l, b, xs, zs, rfl, rfl, hH, hB, hz, q⟩ := h
  cases rx
  obtain ⟨u, rfl, ru⟩ := rv.one
  cases ru
  obtain ⟨z, its, n, r, hl, e⟩ := I.lstM hH
  obtain ⟨z2, its2, n2, r2, hl2, e2⟩ := I.lstM hB
  have hsz : its.toArray.size + its2.toArray.size ≤ sizeLine := by rw [List.size_toArray, List.size_toArray]; omega
  have hlong : ¬ (!its.toArray.isEmpty && Builtin.List.listTooLong (its.toArray.size + its2.toArray.size)) = true := by
    rw [notLongL hsz, Bool.and_false]
    exact Bool.false_ne_true
  refine call_meets F.slot_list_extend ⟨_, e, rfl⟩ F.entry_list_extend (F.args_list_extend_2 _ _)
    (AutoSeq1.list_extend_list_list_0 l its.toArray n b its2.toArray n2 hlong (by rw [List.size_toArray]; omega) (by omega)) ⟨e, e2, ?_⟩
  refine ⟨.non, _, I.lset (its' := its ++ its2) hH e (by simp) (r.append r2) ?_, rfl, q⟩
  rw [List.length_append]
  omega
def rPop : V → List V → Hp → VK → Prop := fun x vs H Q => ∃ l xs y, x = .ref l ∧ vs = [] ∧ H l = some (.lst xs) ∧ xs[xs.length - 1]? = some y ∧ Q y (upd H l (.lst xs.dropLast))
theorem mt_pop : MtM X "list.pop" rPop := by
  intro pins s σ H x vs v us Q I rx rv h
  obtain ⟨l, xs, y, rfl, rfl, hH, hy, q⟩ := h
  cases rx
  have hus := rv.zero
  subst hus
  obtain ⟨z, its, n, r, hl, e⟩ := I.lstM hH
  obtain ⟨u, hu, ru⟩ := r.get hy
  have hy' : its.toArray[its.toArray.size - 1]? = some u := by
    show its.toArray[its.length - 1]? = some u
    rw [← Array.getElem?_toList, ← hl]
    exact hu
  refine call_meets F.slot_list_pop ⟨_, e, rfl⟩ F.entry_list_pop (F.args_list_pop_1 _) (MeetsSeq.list_pop_last l its.toArray n u hy' (by rw [List.size_toArray]; omega)) ⟨e, ?_⟩
  refine ⟨y, _, I.lset (its' := its.dropLast) hH e ?_ r.dropLast ?_, ru, q⟩
  · show its.toArray.eraseIdxIfInBounds (its.toArray.size - 1) = its.dropLast.toArray
    rw [List.size_toArray, List.eraseIdxIfInBounds_toArray, erase_last]
  · rw [List.length_dropLast]
    omega
def rCat : R2 := fun x y H Q => ∃ l b xs zs, x = .ref l ∧ y = .ref b ∧ H l = some (.lst xs) ∧ H b = some (.lst zs) ∧ xs.length + zs.length ≤ sizeLine ∧ ∀ p, H p = none → Q (.ref p) (upd H p (.lst (xs ++ zs)))
theorem op_cat : OpR X (binaryOp .Add) rCat := by
  intro pins s σ H x y v u Q I rx ry h
  obtain ⟨l, b, xs, zs, rfl, rfl, hH, hB, hz, q⟩ := h
  cases rx
  cases ry
  obtain ⟨z, its, n, r, hl, e⟩ := I.lstM hH
  obtain ⟨z2, its2, n2, r2, hl2, e2⟩ := I.lstM hB
  refine PySem.P.add_list e e2 ?_ (by rw [List.size_toArray, List.size_toArray]; omega)
  have ea : its.toArray ++ its2.toArray = (its ++ its2).toArray := by simp
  rw [ea]
  exact ⟨.ref _, _, I.lnew (t' := s.toks) (r.append r2) (by rw [List.length_append]; omega), rfl, q _ I.fresh⟩
def rRep : R2 := fun x y H Q => ∃ l k xs, x = .ref l ∧ y = .int k ∧ H l = some (.lst xs) ∧ -(2 ^ 63) ≤ k ∧ k < 2 ^ 63 ∧ xs.length * k.toNat ≤ sizeLine ∧
  ∀ p, H p = none → Q (.ref p) (upd H p (.lst (List.replicate k.toNat xs).flatten))
theorem len_rep {α : Type} (xs : List α) (k : Nat) : (List.replicate k xs).flatten.length = k * xs.length := by
  induction k with
  | zero => simp
  | succ k ih => rw [List.replicate_succ, List.flatten_cons, List.length_append, ih, Nat.succ_mul, Nat.add_comm]
theorem op_rep : OpR X (binaryOp .Mult) rRep := by
  intro pins s σ H x y v u Q I rx ry h
  obtain ⟨l, k, xs, rfl, rfl, hH, h1, h2, hz, q⟩ := h
  cases rx
  obtain ⟨t, rfl⟩ := ry
  obtain ⟨z, its, n, r, hl, e⟩ := I.lstM hH
  have hlen : its.toArray.size * k.toNat ≤ sizeLine := by rw [List.size_toArray, ← hl]; exact hz
  have hcap : ¬ its.toArray.size * k.toNat > (2 ^ 63 - 1) / 8 := by
    have : (sizeLine : Nat) ≤ (2 ^ 63 - 1) / 8 := by decide
    omega
  have hfit : ¬ (!Builtin.List.listFitsIndex k) = true := by
    rw [fitsIndex_both h1 h2]
    exact Bool.false_ne_true
  have hlong : ¬ Builtin.List.listTooLong (its.toArray.size * k.toNat) = true := by
    rw [notLongL hlen]
    exact Bool.false_ne_true
  have hnew : List.foldl (fun x1 x2 => x1 ++ x2) #[] (List.replicate (if its.toArray.isEmpty = true then 0 else k.toNat) its.toArray) = (List.replicate k.toNat its).flatten.toArray := by
    have f0 : ∀ m : Nat, List.foldl (fun x1 x2 => x1 ++ x2) #[] (List.replicate m its.toArray) = (List.replicate m its).flatten.toArray := fun m => by
      have := foldl_rep its m []
      rw [List.nil_append] at this
      exact this
    rw [f0]
    cases its with
    | nil => simp
    | cons a r' => rw [if_neg (by simp)]
  refine wpAny_binaryOp_repeat_ref (T := "list") (U := "int") (by decide) ⟨_, e, rfl⟩ (fun s' => typeIs_int s' k t) noFill_list_mul F.fills_int_mul F.slot_int_rmul repeat_list F.slot_int_index.lookup
    (call_meets F.slot_int_rmul (typeIs_int s k t) F.entry_int_rmul (F.args_int_rmul_2 _ _) (int___rmul___int_list k t l its.toArray n)
      ⟨e, rfl, ⟨_, e, rfl⟩, call_meets F.slot_list_mul ⟨_, e, rfl⟩ F.entry_list_mul (F.args_list_mul_2 _ _) (AutoListH.list___mul___list_int_3 l its.toArray n k t hfit hcap hlong) ⟨e, ?_⟩⟩)
  rw [hnew]
  exact ⟨.ref _, _, I.lnew (t' := s.toks) (r.rep k.toNat) (by rw [len_rep, Nat.mul_comm]; exact hz), rfl, q _ I.fresh⟩
end
section
variable {prog : Program} {w : World} {A : Around} {E : Value → Shared → Prop} {s : Shared}
end
section
variable {X : Cx}
end
end L2
namespace Att
open PySem PySem.W PySem.Calls PyProof.Rows
theorem ints_of_wellAll {P : Params} {h : Heap} : ∀ (ns : List Int) (vs : List Value), WellAll P h vs (ns.map WData.int) → IntsAre vs ns := by
  intro ns
  induction ns with
  | nil =>
    intro vs w
    rw [List.map_nil] at w
    cases w
    exact .nil
  | cons n ns ih =>
    intro vs w
    rw [List.map_cons] at w
    cases w with
    | cons a b =>
      cases a
      exact .cons _ _ (ih _ b)
theorem script_of {l : OpenLaw} {n : Nat} (hn : l.most = some n) {P : Params} {h : Heap} {args : List WData} {vals : List Value}
    (hpre : l.row.toRowW.claim.pre args = true) (hwl : WellAll P h vals args) :
    ∃ a vs ns, vals = [Value.ref a] ∧ args = [WData.list (ns.map WData.int)] ∧ h.get? a = some { cls := .type "list", data := .seq vs.toArray } ∧ IntsAre vs ns ∧ ns.length ≤ n := by
  have hsh : WShape.hasAll [] args [.list .int] = true := (pre_splitW hpre).1
  have hc : l.pre.holds [] { args := args } = true := (pre_splitW hpre).2
  obtain ⟨d, r, rfl, h1, h2⟩ := hasAllW_cons hsh
  obtain rfl := hasAllW_nil h2
  obtain ⟨xs, rfl, h3⟩ := hasW_list h1
  obtain ⟨ns, rfl⟩ := items_int h3
  have hlen : ns.length ≤ n := by
    unfold OpenLaw.pre at hc
    have h4 : (WTm.not (.lt (.lit (.int (n : Int))) (.len (.arg 0)))).holds [] { args := [.list (ns.map .int)] } = true := by
      have h4 := (holds_andW hc).1
      rw [hn] at h4
      exact h4
    have h5 := condW_of h4 (w_not (w_lt w_lit (w_len_list (w_arg rfl))))
    rw [List.length_map] at h5
    refine Nat.le_of_not_lt fun q => ?_
    have q' : (n : Int) < ((ns.length : Nat) : Int) := by omega
    first
      | (rw [decide_eq_true q'] at h5; exact absurd h5 (by decide))
      | (simp at h5; omega)
  cases hwl with
  | cons w1 w2 =>
    cases w2
    cases w1 with
    | list ho hall => exact ⟨_, _, ns, rfl, rfl, ho, ints_of_wellAll ns _ hall, hlen⟩
theorem post_true (l : OpenLaw) (args : List WData) : l.row.toRowW.claim.post args (.bool true) args = true :=
  postW_of (r := l.row.toRowW) (X := (true == true))
    (show WShape.has [] (.bool true) .bool = true by first | rfl | decide | simp [WShape.has, WShape.arms, WShape.armsAll])
    (show (WTm.eq .res (.lit (.bool true))).value [] { args := args, res := some (.bool true), after := args } = some (.bool (true == true)) from w_eq_bool (w_res rfl) w_lit) rfl
theorem attach_call {l : OpenLaw} {n : Nat} {q : Program} {loose : List Str} {XP : (Str → Option Value) → Heap → Prop} {YP : World → Heap → Prop} {d : DefRec}
    (hn : l.most = some n) (hdf : d.params.defaults = [])
    (call : ∀ (w : World) (s₀ s₁ : Shared) (mg mb : Str → Option Value) (fa : Addr) (o : Obj) (pm cd doc : Value) (a : Addr) (vs : List Value) (ns : List Int),
      Ground q loose [] XP w s₀ mg mb s₁.heap → YP w s₁.heap →
      s₁.heap.get? fa = some o → o.data = .func (docDef d.name d.params d.body d.scope pm cd doc) → s₁.heap.CodeRec cd d.name → mg d.name = some (.ref fa) →
      s₁.heap.get? a = some { cls := .type "list", data := .seq vs.toArray } → IntsAre vs ns → ns.length ≤ n → s₁.gens = #[] →
      codeAny (model l.prog w) callerA (.call (.ref fa) ⟨[.ref a], []⟩) (fun r s' => r = .ok (.ret (.bool true)) ∧ OldK s₁.heap s'.heap ∧ s'.os = s₁.os ∧ AllBare s'.gens) s₁) :
    WalkO q loose XP YP l.row.toRowW d [] (fun f vs => PySem.call f vs) := by
  intro w s₀ s₁ mg mb G Y fa o pm cd doc dV kV ho hd hcd hD hmg hg args vals as hpre hlay hrd hwl hlo
  obtain rfl : dV = .none := Dflts.none hD hdf
  obtain rfl : kV = .none := Dflts.noKw hD
  obtain ⟨a, vs, ns, rfl, rfl, hobj, hints, hlen⟩ := script_of hn hpre hwl
  refine enter_call (codeAny_mono (call w s₀ s₁ mg mb fa o pm cd doc a vs ns G Y ho (fd_plain hd) hcd hmg hobj hints hlen hg) fun r s' hq => ?_)
  obtain ⟨rfl, h2, h3, h4⟩ := hq
  exact ⟨.inl ⟨.bool true, .bool true, [], rfl, fun _ => rfl, .bool true, post_true l _, fun _ => ⟨List.Pairwise.nil, fun _ hm => (nomatch hm)⟩⟩, h2, h3, h4⟩
section
variable {prog : Program} {w : World} {A : Around} {E : Value → Shared → Prop} {s : Shared} {K : Frag}
end
end Att
namespace L2
open PySem PySem.Spec PyProof.Rows
theorem vals_ints : ∀ {vs : List Value} {ns : List Int}, IntsAre vs ns → Vals (ns.map V.int) vs
  | _, _, .nil => .nil
  | _, _, .cons n t h => .cons ⟨t, rfl⟩ (vals_ints h)
def Only (H : Hp) : Prop := ∀ b, H b = none ∨ ∃ o xs, H b = some (.frz o (.lst xs))
theorem law_call {P : Program} {w : World} {K : PySem.W.Frag} {mg mb : Str → Option Value} {CX : CXT} {k : Nat} {fa a : Addr} {fd : FuncData} {x : Str} {sp : Sp} {s₁ : Shared} {vs : List Value} {ns : List Int}
    (KX : K.In s₁.heap) (hns : s₁.heap.Ns mainGlobals mg) (hb : s₁.heap.Ns builtinsNs mb) (hbb : ∀ x : Str, x ≠ "__name__" → mb x = bootBuiltins x) (hlim : s₁.heap.NoLimit) (hg : s₁.gens = #[])
    (ha : s₁.heap.get? a = some { cls := .type "list", data := .seq vs.toArray }) (hi : IntsAre vs ns) (hl : ns.length ≤ sizeLine) (hr : Room k callerA)
    (F : ∀ base : Heap, K.In base → base.Ns mainGlobals mg → FnOk P w K mg base CX k fa fd [x] sp) (hbind : ∀ (s : Shared) (u : Value), BindsTo s fd ⟨[u], []⟩ [(x, u)])
    (hsp : ∀ H : Hp, Only H → SqL K H a (ns.map V.int) → sp [.ref a] H (fun v _ => v = .bl true) fun _ _ _ => False)
    (hCX : ∀ H e s', CX [] H s₁ (fun _ _ _ => False) e s' → False) :
    codeAny (model P w) callerA (.call (.ref fa) ⟨[.ref a], []⟩) (fun r s' => r = .ok (.ret (.bool true)) ∧ OldK s₁.heap s'.heap ∧ s'.os = s₁.os ∧ AllBare s'.gens) s₁ := by
  have rv := vals_ints hi
  have lenV := hi.length
  have core : ∀ H : Hp, Only H → SqL K H a (ns.map V.int) → HOk P w H s₁.heap → (∀ b, H b ≠ none → b = a) → (H a ≠ none → K.lookup a = none) →
      codeAny (model P w) callerA (.call (.ref fa) ⟨[.ref a], []⟩) (fun r s' => r = .ok (.ret (.bool true)) ∧ OldK s₁.heap s'.heap ∧ s'.os = s₁.os ∧ AllBare s'.gens) s₁ := by
    intro H hO hS hok hA hK
    have base_of : ∀ {b : Addr} {o : Obj}, s₁.heap.get? b = some o → H b = none → (hidT s₁.heap H).get? b = some o := fun e n => hidT_get e n
    have noA : ∀ {b : Addr} {o : Obj} {es : Array DictEntry} {ep : Nat}, s₁.heap.get? b = some o → o.data = .dict es ep → H b = none := fun {b o es ep} e d => by
      cases q : H b with
      | none => rfl
      | some u =>
        have e' : b = a := hA b (by rw [q]; simp)
        subst e'
        rw [ha] at e; cases e
        have d' : Data.seq vs.toArray _ = Data.dict es ep := d
        cases d'
    have nsK : ∀ {b : Addr} {m : Str → Option Value}, s₁.heap.Ns b m → (hidT s₁.heap H).Ns b m := fun {b m} ⟨o, es, ep, e, d, r⟩ => ⟨o, es, ep, base_of e (noA e d), d, r⟩
    have hKb : K.In (hidT s₁.heap H) := fun b o e => base_of (KX b o e) (by
      cases q : H b with
      | none => rfl
      | some u =>
        have e' : b = a := hA b (by rw [q]; simp)
        subst e'
        rw [hK (by rw [q]; simp)] at e; cases e)
    have hM : Mod K mg (hidT s₁.heap H) := ⟨hKb, nsK hns, ⟨mb, nsK hb, hbb⟩, let ⟨mc, h1, h2⟩ := hlim; ⟨mc, nsK h1, h2⟩⟩
    have e0 : Env0 P w K mg (hidT s₁.heap H) callerA [] s₁ H := ⟨rfl, hM, fun b o e => of_hidT e, Nat.le_of_eq (hidT_size _ _), trivial, fun b hb => absurd (show b ∈ ([] : List Addr) from hb) (by simp), hok, .of_eq hg⟩
    refine codeAny_mono ((F _ hKb (nsK hns)).run callerA [] s₁ H ⟨[.ref a], []⟩ [.ref a] [.ref a] _ _ hr e0 (hbind s₁ (.ref a)) (.cons rfl .nil) (hsp H hO hS)) fun r s' h => ?_
    cases r with
    | error e => exact (hCX H e s' h).elim
    | ok fl =>
      cases fl with
      | next => exact False.elim h
      | brk => exact False.elim h
      | cont => exact False.elim h
      | ret u =>
        obtain ⟨v, H', os, bare, un, hok', r', q⟩ := h
        have q' : v = .bl true := q
        subst q'
        obtain rfl : u = Value.bool true := r'
        refine ⟨rfl, OldK.of_keep fun b o e => ?_, os, bare⟩
        cases q : H b with
        | none => exact un.keep b o e q (by intro z; exact absurd (show b ∈ ([] : List Addr) from z) (by simp)) (by simp)
        | some u =>
          rcases hO b with z | ⟨ob, xs, z⟩
          · rw [q] at z; cases z
          · have z2 := un.frzs b ob _ z
            obtain ⟨e1, _⟩ := hok b _ z
            obtain ⟨e2, _⟩ := hok' b _ z2
            rw [e] at e1; cases e1
            exact e2
  cases hk : K.lookup a with
  | some o =>
    have e := KX a o hk
    rw [ha] at e
    cases e
    refine core (fun _ => none) (fun _ => .inl rfl) (.inr ⟨_, vs.toArray, _, hk, rfl, rfl, rfl, by rw [List.size_toArray, lenV]; exact hl, by simpa using rv⟩) (fun b u z => by have z' : (none : Option HO) = some u := z; cases z') (fun b z => absurd rfl z) fun z => absurd rfl z
  | none =>
    refine core (fun b => if b = a then some (.frz { cls := .type "list", data := .seq vs.toArray } (.lst (ns.map V.int))) else none) (fun b => ?_) (.inl (.inr ⟨{ cls := .type "list", data := .seq vs.toArray }, if_pos rfl⟩)) (fun b u z => ?_) (fun b z => ?_) fun _ => hk
    · by_cases hb : b = a
      · exact .inr ⟨_, _, if_pos hb⟩
      · exact .inl (if_neg hb)
    · by_cases hb : b = a
      · have z' := (if_pos hb).symm.trans z
        cases z'
        subst hb
        exact ⟨ha, by rw [List.length_map]; exact hl, vs, _, rv, ha⟩
      · have z' := (if_neg hb).symm.trans z
        cases z'
    · by_cases hb : b = a
      · exact hb
      · exact absurd (if_neg hb) z
end L2
namespace L2
open PySem PySem.Spec PyProof.Rows
theorem walk_of {l : PySem.W.OpenLaw} {n k : Nat} {q : Program} {loose : List Str} {XP : (Str → Option Value) → Heap → Prop} {YP : World → Heap → Prop} {d : DefRec} {K : Params → PySem.W.Frag} {CX : World → CXT} {sp : World → Sp} {x : Str}
    (hn : l.most = some n) (hn2 : n ≤ sizeLine) (hdf : d.params.defaults = []) (hr : Room k callerA)
    (hY : ∀ (w : World) (h : Heap), YP w h → (K w.params).In h)
    (F : ∀ (w : World) (mg : Str → Option Value) (fa : Addr) (h : Heap), (K w.params).In h → h.Ns mainGlobals mg → mg d.name = some (.ref fa) →
      ∃ fd : FuncData, (∀ (s : Shared) (u : Value), BindsTo s fd ⟨[u], []⟩ [(x, u)]) ∧
        ∀ base : Heap, (K w.params).In base → base.Ns mainGlobals mg → FnOk l.prog w (K w.params) mg base (CX w) k fa fd [x] (sp w))
    (hsp : ∀ (w : World) (H : Hp) (a : Addr) (ns : List Int), ns.length ≤ n → Only H → SqL (K w.params) H a (ns.map V.int) → sp w [.ref a] H (fun v _ => v = .bl true) fun _ _ _ => False)
    (hCX : ∀ (w : World) (H : Hp) (s : Shared) (e : Value) (s' : Shared), CX w [] H s (fun _ _ _ => False) e s' → False) :
    PySem.W.WalkO q loose XP YP l.row.toRowW d [] (fun f vs => PySem.call f vs) := by
  refine Att.attach_call hn hdf fun w s₀ s₁ mg mb fa o pm cd doc a vs ns G Y ho hd hcd hmg hobj hints hlen hg => ?_
  have KX := hY w _ Y
  obtain ⟨fd, hb, hF⟩ := F w mg fa _ KX G.T.g hmg
  exact law_call KX G.T.g G.T.b G.T.builtins G.T.nolimit hg hobj hints (Nat.le_trans hlen hn2) hr hF hb (fun H hO hS => hsp w H a ns hlen hO hS) fun H e s' => hCX w H s₁ e s'
end L2
namespace L2
open PySem PySem.Spec PyProof.Rows
def inClass (s : Stmt) (j : Nat) : Stmt := match s with
  | .ClassDef _ _ _ body _ _ _ _ _ _ _ => body.getD j (.Pass ⟨0, 0, 0, 0⟩)
  | _ => .Pass ⟨0, 0, 0, 0⟩
def defArgs (s : Stmt) : Arguments := match s with
  | .FunctionDef _ a _ _ _ _ _ _ _ _ => a
  | _ => { posonlyargs := [], args := [], vararg := none, kwonlyargs := [], kw_defaults := [], kwarg := none, defaults := [] }
def defBody (s : Stmt) : List Stmt := match s with
  | .FunctionDef _ _ b _ _ _ _ _ _ _ => b
  | _ => []
def defScope (s : Stmt) : Scope := match s with
  | .FunctionDef _ _ _ _ _ _ sc _ _ _ => sc
  | _ => { kind := .function, names := [], isGenerator := false, isCoroutine := false }
abbrev CX0 : CXT := fun _ _ _ _ _ _ => False
abbrev E0 : XK := fun _ _ _ => False
theorem pass0 {X : Cx} : Passes CX0 X E0 := fun _ _ _ _ _ _ _ h => h.elim
structure Fun (K : PySem.W.Frag) (x qual : Str) (st : Stmt) (f : Addr) (fd : FuncData) : Prop where
  ex : ∃ (oc : Value) (od : Option Addr) (kV doc pm : Value) (an : Option Addr) (cdv ct : Value) (osl : Array (Option Value)),
    fd = PySem.W.fnOf x qual (defArgs st) (defBody st) (defScope st) .none kV doc pm an cdv ct ∧ K.lookup f = some ⟨oc, od, .func fd, osl⟩ ∧ PySem.W.codeIn K cdv qual = true
  kp : PySem.W.keepIn K (.ref f) = true
section
variable {P : Program} {w : World} {K : PySem.W.Frag} {mg : Str → Option Value} {base : Heap}
theorem Fun.ok {x qual : Str} {st : Stmt} {f : Addr} {fd : FuncData} {N ps : List Str} {k : Nat} {sp : Sp} (F : Fun K x qual st f fd) (S : FnScope N ps (defScope st)) (len : ∀ vs H Q E, sp vs H Q E → vs.length = ps.length)
    (hbody : ∀ (cdv : Value) (A : Around) (outer : List Env) (s : Shared) (H : Hp) (vs : List V) (Q : VK) (E : XK), Room k (A.deeper (envOfC qual (defScope st) s.heap.objs.size f cdv)) → sp vs H Q E →
      ∃ t, PSs (cxOf CX0 P w K mg base N qual (defScope st) f cdv A outer s H E).nox (defBody st) t ∧ t { nx := fun _ H' => Q .non H', rt := Q } (start N vs) H) : FnOk P w K mg base CX0 (k + 1) f fd ps sp := by
  obtain ⟨oc, od, kV, doc, pm, an, cdv, ct, osl, rfl, lk, hcd⟩ := F.ex
  refine fn_of lk hcd S len fun A outer s H vs Q E hr hsp => ?_
  obtain ⟨t, h, q⟩ := hbody cdv A outer s H vs Q E hr hsp
  exact ⟨t, h.nox, q⟩
theorem Fun.binds {x qual : Str} {st : Stmt} {f : Addr} {fd : FuncData} {ps : List Str} (F : Fun K x qual st f fd)
    (h : ∀ (kV doc pm : Value) (an : Option Addr) (cdv ct : Value) (us : List Value), us.length = ps.length → bindArgs (PySem.W.fnOf x qual (defArgs st) (defBody st) (defScope st) .none kV doc pm an cdv ct) ⟨us, []⟩ = pure (ps.zip us)) : Binds K fd ps [] := by
  obtain ⟨oc, od, kV, doc, pm, an, cdv, ct, osl, rfl, lk, hcd⟩ := F.ex
  exact .all (h kV doc pm an cdv ct)
theorem fun_mk {x qual : Str} {st : Stmt} {f : Addr} {oc : Value} {od an : Option Addr} {osl : Array (Option Value)} {kV doc pm cdv ct : Value} (l : K.lookup f = some ⟨oc, od, .func (PySem.W.fnOf x qual (defArgs st) (defBody st) (defScope st) .none kV doc pm an cdv ct), osl⟩)
    (c : PySem.W.codeIn K cdv qual = true) (k : PySem.W.keepIn K (.ref f) = true) : Fun K x qual st f (PySem.W.fnOf x qual (defArgs st) (defBody st) (defScope st) .none kV doc pm an cdv ct) := ⟨⟨oc, od, kV, doc, pm, an, cdv, ct, osl, rfl, l, c⟩, k⟩
end
section
variable {X : Cx}
theorem pv (i : Nat) {x : Str} {pos : Pos} (hN : X.N[i]? = some x := by rfl) (hv : Vis X.env.scope x := by first | exact Or.inl rfl | exact Or.inr (Or.inl rfl) | exact Or.inr (Or.inr rfl)) (hd : (x == ("__debug__" : Str)) = false := by decide)
    (hcd : (x == ("__classdict__" : Str)) = false := by decide) : PE X (.Name x pos) (tVar i) := pe_var hN hv hd hcd
end
theorem ite2 {c A B : Prop} [Decidable c] (h1 : c → A) (h2 : ¬ c → B) : if c then A else B := by
  by_cases h : c
  · rw [if_pos h]
    exact h1 h
  · rw [if_neg h]
    exact h2 h
def Same (H H' : Hp) : Prop := ∀ b o, H b = some o → H' b = some o
theorem Same.refl (H : Hp) : Same H H := fun _ _ h => h
theorem Same.trans {H H1 H2 : Hp} (a : Same H H1) (b : Same H1 H2) : Same H H2 := fun c o h => b c o (a c o h)
theorem Same.free {H H' : Hp} (e : Same H H') {l : Addr} (h : H' l = Option.none) : H l = Option.none := by
  cases q : H l with
  | none => rfl
  | some o =>
    rw [e l o q] at h
    cases h
theorem Same.seq {K : PySem.W.Frag} {H H' : Hp} {a : Addr} {xs : List V} (e : Same H H') (h : SqL K H a xs) : SqL K H' a xs := by
  rcases h with (h | ⟨o, h⟩) | h
  · exact .inl (.inl (e _ _ h))
  · exact .inl (.inr ⟨o, e _ _ h⟩)
  · exact .inr h
end L2
set_option Elab.async false
set_option linter.all false
set_option maxRecDepth 100000
set_option maxHeartbeats 4000000
namespace L2
open PySem PySem.Spec PyProof.Rows
theorem part_of {v : Value} {o : Option Int} (p : IsPart v o) : ∃ q : Option (Int × Tok), v = partValue q ∧ q.map (·.1) = o := by
  cases p with
  | none => exact ⟨none, rfl, rfl⟩
  | int i t => exact ⟨some (i, t), rfl, rfl⟩
def rSlS : V → Option Int → Option Int → Hp → VK → Prop := fun x lo hi H Q => ∃ z, x = .str z ∧ z.length ≤ sizeLine ∧ Q (.str (Txt.slice z lo hi)) H
theorem sl_str {X : Cx} : SlR X rSlS := by
  intro pins s σ H x v vl vu lo hi sl Q I rx hs pl pu h
  obtain ⟨z, rfl, hz, q⟩ := h
  obtain ⟨t, rfl⟩ := rx
  obtain ⟨ql, rfl, rfl⟩ := part_of pl
  obtain ⟨qu, rfl, rfl⟩ := part_of pu
  refine ⟨"str", _, F.slot_str_getitem.lookup, typeIs_str _ _ _, ?_⟩
  refine wpAny_getItem_str_slice (l := ql) (u := qu) (st := none) hs rfl ?_
  exact post_val_or_str ⟨Nat.le_trans (Txt.slice_le z _ _) hz, fun t' k => ⟨.str _, H, I.tok _, ⟨t', rfl⟩, q⟩⟩
def Its (x : Str) : It := ⟨fun i _ => i < x.cps.size, fun i H v H' => H' = H ∧ ∃ c, x.cps[i]? = some c ∧ v = .str ⟨#[c]⟩, fun i _ => x.cps.size ≤ i⟩
theorem turn_str {P : Program} {w : World} {K : PySem.W.Frag} {tg : Expr} (x : Str) (t : Tok) (it : Addr) (ty : String) (hty : ty = "str_ascii_iterator" ∨ ty = "str_iterator") :
    Turn P w K tg (Its x) [it] it (fun i h => h.IsStrIter it ty x t i) where
  mem := by simp
  obj := fun i h st b hb => by
    have e : b = it := by simpa using hb
    subst e
    obtain ⟨o, e, c, d⟩ := st
    exact ⟨o, e, fun v z => by rw [d] at z; cases z⟩
  keep := fun i h h' st k => by
    obtain ⟨o, e, r⟩ := st
    exact ⟨o, k it (by simp) o e, r⟩
  item := by
    intro X hP hw hK hc i pins s σ H E I hf st hg
    subst hP hw hK
    obtain ⟨f0, f1, f2, f3, f4, f5⟩ := hf it (by simp)
    have hg' : i < x.cps.size := hg
    have hx : x.cps[i]? = some x.cps[i] := by simp [hg']
    rcases hty with rfl | rfl
    · refine wpAny_pyNext_ascii_item st hx fun h' st' sb => ?_
      have I1 : Inv X pins σ H { s with heap := h', toks := s.toks + 1 } := I.turned (fun b o hb e => (sb.2 b hb).trans e) f0 f1 f3 f4 f5
      obtain ⟨o, e, c, d⟩ := id st'
      exact ⟨_, rfl, go_of (s := { s with heap := h', toks := s.toks + 1 }) e c d (by decide) ⟨.str ⟨#[x.cps[i]]⟩, H, I1, ⟨_, rfl⟩, ⟨rfl, _, hx, rfl⟩, st', fun b hb => (hf b hb).1⟩⟩
    · refine wpAny_pyNext_wide_item st hx fun h' st' sb => ?_
      have I1 : Inv X pins σ H { s with heap := h', toks := s.toks + 1 } := I.turned (fun b o hb e => (sb.2 b hb).trans e) f0 f1 f3 f4 f5
      obtain ⟨o, e, c, d⟩ := id st'
      exact ⟨_, rfl, go_of (s := { s with heap := h', toks := s.toks + 1 }) e c d (by decide) ⟨.str ⟨#[x.cps[i]]⟩, H, I1, ⟨_, rfl⟩, ⟨rfl, _, hx, rfl⟩, st', fun b hb => (hf b hb).1⟩⟩
  done := by
    intro X hP hw hK hc i pins s σ H E I hf st hg
    subst hP hw hK
    obtain ⟨f0, f1, f2, f3, f4, f5⟩ := hf it (by simp)
    have hx : x.cps[i]? = none := by
      have : x.cps.size ≤ i := hg
      simp [this]
    rcases hty with rfl | rfl
    · exact wpAny_pyNext_ascii_end (I.ok.hd hc) st hx fun h' eb => ⟨rfl, I.turned (t' := s.toks) (fun b o hb e => eb b o hb e) f0 f1 f3 f4 f5⟩
    · exact wpAny_pyNext_wide_end (I.ok.hd hc) st hx fun h' eb => ⟨rfl, I.turned (t' := s.toks) (fun b o hb e => eb b o hb e) f0 f1 f3 f4 f5⟩
  self := fun _ _ _ _ _ st h => by
    rcases hty with rfl | rfl
    · exact wpAny_pyIter_striter_ascii st h
    · exact wpAny_pyIter_striter_wide st h
theorem pi_str_at {X : Cx} {tg : Expr} {pins : List (Addr × Obj)} {σ : St} {H1 : Hp} {s1 : Shared} {R : It → Hp → Prop} {z : Str} {v : Value} {E : Value → Shared → Prop} (I1 : Inv X pins σ H1 s1) (r1 : RelV (.str z) v) (q : R (Its z) H1) :
    wpAny (model X.prog X.w) X.A (pyIter v) (PIE X pins σ tg R) E s1 := by
  obtain ⟨t, rfl⟩ := r1
  have fp : ∀ (b : Addr), b ∈ [s1.heap.objs.size] → FpOk X pins H1 b := fun b hb => by
    have e : b = s1.heap.objs.size := by simpa using hb
    subst e
    exact I1.fpOk (Nat.le_refl _) (I1.hok.fresh (Nat.le_refl _))
  cases ha : z.cps.all (· < 128)
  · refine wpAny_pyIter_wide ha ?_
    exact ⟨s1.heap.objs.size, [s1.heap.objs.size], _, _, H1, rfl, I1.kept (t' := s1.toks) fun b o e => Heap.get?_push_of_some _ e, turn_str z t _ "str_iterator" (.inr rfl), ⟨_, Heap.get?_push_size _ rfl, rfl, rfl⟩, fp, q⟩
  · refine wpAny_pyIter_ascii ha ?_
    exact ⟨s1.heap.objs.size, [s1.heap.objs.size], _, _, H1, rfl, I1.kept (t' := s1.toks) fun b o e => Heap.get?_push_of_some _ e, turn_str z t _ "str_ascii_iterator" (.inl rfl), ⟨_, Heap.get?_push_size _ rfl, rfl, rfl⟩, fp, q⟩
theorem for_str {x : Str} {g : TG} {tb : TS} {D : Ends} {σ : St} {H : Hp} (Pv : Nat → St → Hp → Prop) (h0 : Pv 0 σ H)
    (hs : ∀ i c σ H, x.cps.toList[i]? = some c → Pv i σ H → g (.str ⟨#[c]⟩) σ H fun σ2 H2 => tb { D with nx := Pv (i + 1), ct := Pv (i + 1), bk := D.nx } σ2 H2) (hd : ∀ σ H, Pv x.cps.toList.length σ H → D.nx σ H) :
    ∃ W : Nat → Nat → St → Hp → Prop, (∃ m, W 0 m σ H) ∧ ∀ i m σ H, W i m σ H →
      ((Its x).stop i H ∧ D.nx σ H) ∨ ((Its x).go i H ∧ ∃ N : St → Hp → Prop, (∀ σ' H', N σ' H' → ∃ m', m' < m ∧ W (i + 1) m' σ' H') ∧ ∀ v H', (Its x).yld i H v H' → g v σ H' fun σ2 H2 => tb { D with nx := N, ct := N, bk := D.nx } σ2 H2) := by
  have hl : x.cps.toList.length = x.cps.size := by simp
  refine ⟨fun i m σ H => m = x.cps.size - i ∧ i ≤ x.cps.size ∧ Pv i σ H, ⟨x.cps.size, by simp, Nat.zero_le _, h0⟩, ?_⟩
  rintro i m σ H ⟨rfl, hi, p⟩
  by_cases hlt : i < x.cps.size
  · refine .inr ⟨hlt, Pv (i + 1), fun σ' H' p' => ⟨x.cps.size - (i + 1), by omega, rfl, hlt, p'⟩, fun v H' y => ?_⟩
    obtain ⟨e, c, hc, rfl⟩ := y
    subst e
    exact hs i c σ _ (by rw [Array.getElem?_toList]; exact hc) p
  · have e : i = x.cps.size := by omega
    subst e
    exact .inl ⟨Nat.le_refl _, hd σ H (by rw [hl]; exact p)⟩
def clos (cells : List (Str × Addr)) : List (Str × NameKind) → List (Str × Addr) → List (Str × Addr)
  | [], acc => acc
  | (n, k) :: r, acc => if k == .free then clos cells r ((n, (cells.lookup n).getD 0) :: acc) else clos cells r acc
theorem closureFor_clos {scope : Scope} {env : Env} (h : ∀ y ∈ scope.names, y.2 = .free → ∃ c, env.cells.lookup y.1 = some c) : closureFor scope env = pure (clos env.cells scope.names []) := by
  have go : ∀ (names : List (Str × NameKind)) (acc : List (Str × Addr)), (∀ y ∈ names, y.2 = .free → ∃ c, env.cells.lookup y.1 = some c) →
      (forIn names acc fun (x : Str × NameKind) (r : List (Str × Addr)) => (if x.2 == NameKind.free then do let a ← cellOf env x.1; pure (ForInStep.yield ((x.1, a) :: r)) else pure (ForInStep.yield r) : Sem (ForInStep (List (Str × Addr))))) = pure (clos env.cells names acc) := by
    intro names
    induction names with
    | nil => intro acc _; rfl
    | cons x r ih =>
      intro acc hx
      obtain ⟨n, k⟩ := x
      rw [List.forIn_cons]
      have hr : ∀ y ∈ r, y.2 = .free → ∃ c, env.cells.lookup y.1 = some c := fun y hy => hx y (List.mem_cons_of_mem _ hy)
      by_cases hk : k = .free
      · subst hk
        obtain ⟨c, hc⟩ := hx (n, .free) List.mem_cons_self rfl
        have hc' : env.cells.lookup n = some c := hc
        have e : cellOf env n = pure c := by unfold cellOf; rw [hc']
        simp only [beq_self_eq_true, if_true, e, pure_bind]
        rw [ih _ hr]
        simp only [clos, beq_self_eq_true, if_true, hc', Option.getD_some]
      · have hb : (k == NameKind.free) = false := by simpa using hk
        simp only [hb, Bool.false_eq_true, if_false, pure_bind]
        rw [ih _ hr]
        simp only [clos, hb, Bool.false_eq_true, if_false]
  have := go scope.names [] h
  unfold closureFor
  first
    | (rw [this]; rfl)
    | (simp only [this, pure_bind]; rfl)
    | simpa using this
theorem clos_lookup {cells : List (Str × Addr)} : ∀ (names : List (Str × NameKind)) (acc : List (Str × Addr)) (y : Str) (c : Addr),
    (∀ z ∈ names, z.2 = .free → ∃ c, cells.lookup z.1 = some c) → (∀ d, acc.lookup y = some d → cells.lookup y = some d) → (clos cells names acc).lookup y = some c → cells.lookup y = some c
  | [], acc, y, c, _, ha, h => ha c h
  | (n, k) :: r, acc, y, c, hx, ha, h => by
    have hr : ∀ z ∈ r, z.2 = .free → ∃ c, cells.lookup z.1 = some c := fun z hz => hx z (List.mem_cons_of_mem _ hz)
    by_cases hk : k = .free
    · subst hk
      simp only [clos, beq_self_eq_true, if_true] at h
      refine clos_lookup r _ y c hr (fun d hd => ?_) h
      by_cases hy : y = n
      · subst hy
        obtain ⟨e, he⟩ := hx (y, .free) List.mem_cons_self rfl
        have he' : cells.lookup y = some e := he
        simp only [List.lookup_cons, beq_self_eq_true, he', Option.getD_some] at hd
        rw [he', hd]
      · have hb : (y == n) = false := by simpa using hy
        simp only [List.lookup_cons, hb] at hd
        exact ha d hd
    · have hb : (k == NameKind.free) = false := by simpa using hk
      simp only [clos, hb, Bool.false_eq_true, if_false] at h
      exact clos_lookup r acc y c hr ha h
theorem clos_keep {cells : List (Str × Addr)} : ∀ (names : List (Str × NameKind)) (acc : List (Str × Addr)) (y : Str), (∃ c, acc.lookup y = some c) → ∃ c, (clos cells names acc).lookup y = some c
  | [], _, _, h => h
  | (n, k) :: r, acc, y, h => by
    by_cases hk : k = .free
    · subst hk
      simp only [clos, beq_self_eq_true, if_true]
      refine clos_keep r _ y ?_
      by_cases hy : y = n
      · subst hy; exact ⟨(cells.lookup y).getD 0, by simp only [List.lookup_cons, beq_self_eq_true]⟩
      · have hb : (y == n) = false := by simpa using hy
        simp only [List.lookup_cons, hb]; exact h
    · have hb : (k == NameKind.free) = false := by simpa using hk
      simp only [clos, hb, Bool.false_eq_true, if_false]
      exact clos_keep r acc y h
theorem clos_has {cells : List (Str × Addr)} : ∀ (names : List (Str × NameKind)) (acc : List (Str × Addr)) (y : Str), (y, NameKind.free) ∈ names → ∃ c, (clos cells names acc).lookup y = some c
  | [], _, _, h => by simp at h
  | (n, k) :: r, acc, y, h => by
    rcases List.mem_cons.mp h with e | h
    · injection e with e1 e2
      subst e1 e2
      simp only [clos, beq_self_eq_true, if_true]
      exact clos_keep r _ y ⟨(cells.lookup y).getD 0, by simp only [List.lookup_cons, beq_self_eq_true]⟩
    · by_cases hk : k = .free
      · rw [hk]
        simp only [clos, beq_self_eq_true, if_true]
        exact clos_has r _ y h
      · have hb : (k == NameKind.free) = false := by simpa using hk
        simp only [clos, hb, Bool.false_eq_true, if_false]
        exact clos_has r _ y h
theorem relabel_kind {env : Env} : ∀ {names : List (Str × NameKind)} {x : Str} {k : NameKind}, (names.map fun (n, k) => if (k == NameKind.free && env.scope.kind == .function && env.kindOf n == some .cell) then (n, NameKind.cell) else (n, k)).lookup x = some k →
    names.lookup x = some k ∨ (k = .cell ∧ names.lookup x = some .free)
  | [], _, _, h => by simp at h
  | (n, j) :: r, x, k, h => by
    have ih := @relabel_kind env r x k
    have h' : List.lookup x ((if (j == NameKind.free && env.scope.kind == .function && env.kindOf n == some .cell) = true then (n, NameKind.cell) else (n, j)) ::
      (r.map fun (n, k) => if (k == NameKind.free && env.scope.kind == .function && env.kindOf n == some .cell) then (n, NameKind.cell) else (n, k))) = some k := h
    cases hx : x == n with
    | true =>
      by_cases hc : (j == NameKind.free && env.scope.kind == .function && env.kindOf n == some .cell) = true
      · rw [if_pos hc] at h'
        simp only [List.lookup_cons, hx] at h' ⊢
        have hj : j = .free := by
          have : (j == NameKind.free) = true := by
            cases q : (j == NameKind.free) with
            | true => rfl
            | false => rw [q] at hc; simp at hc
          simpa using this
        subst hj
        exact .inr ⟨(Option.some.inj h').symm, rfl⟩
      · rw [if_neg hc] at h'
        simp only [List.lookup_cons, hx] at h' ⊢
        exact .inl h'
    | false =>
      have h2 : List.lookup x (r.map fun (n, k) => if (k == NameKind.free && env.scope.kind == .function && env.kindOf n == some .cell) then (n, NameKind.cell) else (n, k)) = some k := by
        by_cases hc : (j == NameKind.free && env.scope.kind == .function && env.kindOf n == some .cell) = true
        · rw [if_pos hc] at h'; simpa only [List.lookup_cons, hx] using h'
        · rw [if_neg hc] at h'; simpa only [List.lookup_cons, hx] using h'
      rcases ih h2 with q | ⟨q1, q2⟩
      · exact .inl (by simpa only [List.lookup_cons, hx] using q)
      · exact .inr ⟨q1, by simpa only [List.lookup_cons, hx] using q2⟩
abbrev cxC (X : Cx) (NC : List Str) (scope : Scope) (C : Addr) (s : Shared) (H : Hp) (ex : List Addr) : Cx :=
  { X with N := NC, s₀ := s, H₀ := H, env := compEnvC scope (clos X.env.cells scope.names []) C X.env, outer := X.stack, stack := X.stack, ex := ex, fn := fun _ => false, pn := [], xe := fun _ _ => False }
def slotsC (nt : Nat) (is : List Nat) (σ : St) : St := List.replicate nt none ++ is.map fun i => (σ[i]?).join
theorem slotsC_len (nt : Nat) (is : List Nat) (σ : St) : (slotsC nt is σ).length = nt + is.length := by simp [slotsC]
def PIf (X : Cx) (ifs : List Expr) (t : TT) : Prop :=
  ∀ (pins : List (Addr × Obj)) (s : Shared) (σ : St) (H : Hp) (Q : Bool → Hp → Prop), Inv X pins σ H s → t σ H Q →
    wpAny (model X.prog X.w) X.A (forIn ifs true fun c r => if r = true then do let ok ← isTrue c X.env (eval c X.env); pure (ForInStep.yield ok) else pure (ForInStep.yield r)) (TP X pins σ Q) X.xe s
def tTrue : TT := fun _ H Q => Q true H
theorem pif_nil {X : Cx} : PIf X [] tTrue := fun _ _ _ H _ I h => wpAny_tests_nil ⟨H, I, h⟩
theorem pif_one {X : Cx} {c : Expr} {t : TT} (h : PT X c t) : PIf X [c] t := fun pins s σ H Q I hw => wpAny_tests_one (h pins s σ H Q I hw)
section
variable {prog : Program} {w : World} {A : Around} {R : Result → Shared → Prop} {s : Shared}
theorem compLoop_any {elt target iter : Expr} {ifs : List Expr} {scope : Scope} {pos : Pos} {it acc : Value} {env : Env} (I : Nat → Shared → Prop)
    (turn : ∀ n s, I n s → wpAny (model prog w) A (pyNext it) (fun r s₁ => match r with
      | none => R (.ok .next) s₁
      | some v => wpAny (model prog w) A (letOwnedTupleGo target it v) (fun _ s₁' => wpAny (model prog w) A (assign target env v) (fun _ s₂ =>
          wpAny (model prog w) A (forIn ifs true fun c r => if r = true then do let ok ← isTrue c env (eval c env); pure (ForInStep.yield ok) else pure (ForInStep.yield r)) (fun ok s₃ =>
            if ok = true then wpAny (model prog w) A (eval elt env) (fun x s₄ =>
              wpAny (model prog w) A (call (.builtin "list.append") [acc, x]) (fun _ s₅ => ∃ m, m < n ∧ I m s₅) (fun _ _ => False) s₄) (fun _ _ => False) s₃
            else ∃ m, m < n ∧ I m s₃) (fun _ _ => False) s₂) (fun _ _ => False) s₁') (fun _ _ => False) s₁) (fun _ _ => False) s)
    (n : Nat) (h : I n s) :
    codeAny (model prog w) A (.compLoop (.ListComp elt [⟨target, iter, ifs, 0⟩] scope pos) 0 it acc env) R s := by
  refine codeAny_loop rfl I (fun n s hI => ?_) n h
  show wpAny _ A ((compTurn (.ListComp elt [⟨target, iter, ifs, 0⟩] scope pos) 0 it acc env).onRaise (fun x => do noteFrame x env; theTreesLotGoes x)) _ _ s
  refine wpAny_noted ?_
  rw [compTurn_list]
  refine wpAny_bind (wpAny_standAt (wpAny_bind (wpAny_mono (turn n s hI) (fun r s₁ h₁ => ?_) fun _ _ h' => h'.elim)))
  cases r with
  | none => exact wpAny_pure h₁
  | some v =>
    refine wpAny_bind (wpAny_mono h₁ (fun _ s₁' h₁' => ?_) fun _ _ h' => h'.elim)
    refine wpAny_bind (wpAny_mono h₁' (fun _ s₂ h₂ => wpAny_bind (wpAny_mono h₂ (fun ok s₃ h₃ => ?_) fun _ _ h' => h'.elim)) fun _ _ h' => h'.elim)
    cases ok with
    | false => exact wpAny_pure ⟨rfl, h₃⟩
    | true =>
      exact wpAny_bind (wpAny_bind (wpAny_mono h₃ (fun x s₄ h₄ => wpAny_bind (wpAny_mono h₄ (fun _ s₅ h₅ => wpAny_pure (wpAny_pure ⟨rfl, h₅⟩)) fun _ _ h' => h'.elim)) fun _ _ h' => h'.elim))
end
def tComp (wi : TI) (nt : Nat) (is : List Nat) (g : TG) (tt : TT) (te : TE) : TE := fun σ H Q => wi σ H fun J H1 => ∃ W : Nat → Nat → List V → Hp → Prop, (∃ m, W 0 m [] H1) ∧ ∀ i m acc H, W i m acc H →
  (J.stop i H ∧ ∀ p, H p = none → Q (.ref p) (upd H p (.lst acc))) ∨
  (J.go i H ∧ acc.length < sizeLine ∧ ∃ N : List V → Hp → Prop, (∀ acc' H', N acc' H' → ∃ m', m' < m ∧ W (i + 1) m' acc' H') ∧ ∀ x H', J.yld i H x H' → g x (slotsC nt is σ) H' fun σ2 H2 => tt σ2 H2 fun b H3 =>
    if b = true then te σ2 H3 fun y H4 => N (acc ++ [y]) H4 else N acc H3)
structure CompSc (X : Cx) (NC : List Str) (nt : Nat) (is : List Nat) (csc : Scope) : Prop where
  kind : csc.kind = .function
  nocell : (csc.names.all fun y => y.2 != .cell) = true
  locs : (csc.names.all fun y => y.2 != .local || csc.names.lookup y.1 == some .local) = true
  frees : (csc.names.all fun y => y.2 != .free || (X.env.kindOf y.1 == some .cell || X.env.kindOf y.1 == some .free)) = true
  len : NC.length = nt + is.length
  slots : (NC.drop nt).map some = is.map fun i => X.N[i]?
  isfree : ((NC.drop nt).all fun y => csc.names.lookup y == some .free) = true
section
variable {X : Cx} {pins : List (Addr × Obj)} {σ : St} {H : Hp} {s : Shared} {NC : List Str} {nt : Nat} {is : List Nat} {csc : Scope}
theorem CompSc.free_kind (S : CompSc X NC nt is csc) {y : Str} (h : (y, NameKind.free) ∈ csc.names) : X.env.kindOf y = some .cell ∨ X.env.kindOf y = some .free := by
  have q := List.all_eq_true.mp S.frees _ h
  simpa using q
theorem CompSc.no_cell (S : CompSc X NC nt is csc) {y : Str} (h : (y, NameKind.cell) ∈ csc.names) : False := by
  have q := List.all_eq_true.mp S.nocell _ h
  simp at q
theorem CompSc.has_cells (S : CompSc X NC nt is csc) (I : Inv X pins σ H s) : ∀ y ∈ csc.names, y.2 = .free → ∃ c, X.env.cells.lookup y.1 = some c := fun y hy e => by
  obtain ⟨n, k⟩ := y
  have e' : k = .free := e
  subst e'
  exact I.ok.has n (S.free_kind hy)
theorem fp_lt {fp : List Addr} (ho : ∀ b ∈ fp, ∃ o, s.heap.get? b = some o) : ∀ b ∈ fp, b < s.heap.objs.size := fun b hb => let ⟨_, e⟩ := ho b hb; Heap.lt_size e
theorem inv_block (S : CompSc X NC nt is csc) (I : Inv X pins σ H s) {fp : List Addr} (hf : ∀ b ∈ fp, FpOk X pins H b) (ho : ∀ b ∈ fp, ∃ o, s.heap.get? b = some o) {h' : Heap} {C : Addr} {m : Str → Option Value} {t' : Nat}
    (hC : s.heap.objs.size ≤ C) (k : ∀ b o, s.heap.get? b = some o → h'.get? b = some o) (hn : h'.Ns C m) : Inv (cxC X NC csc C s H fp) [] (slotsC nt is σ) H { s with heap := h', toks := t' } := by
  have hcells := S.has_cells I
  have hlook : ∀ y c, (clos X.env.cells csc.names []).lookup y = some c → X.env.cells.lookup y = some c := fun y c h => clos_lookup csc.names [] y c hcells (by intro d hd; simp at hd) h
  have hlt := fp_lt ho
  have hfree : ∀ y, csc.names.lookup y = some .free → ∃ c, (clos X.env.cells csc.names []).lookup y = some c := fun y h => clos_has csc.names [] y (PySem.mem_of_lookup h)
  refine ⟨⟨I.ok.mod, S.kind, I.ok.glob, I.ok.blt, hC, fun x y c h1 h2 => I.ok.inj x y c (hlook x c h1) (hlook y c h2), fun x hx => ?_, fun x c h _ => (Bool.false_ne_true h).elim, I.ok.hd, I.ok.frames, .inl rfl,
    fun b hb => ⟨Nat.ne_of_lt (Nat.lt_of_lt_of_le (hlt b hb) hC), fun x c h => (hf b hb).2.2.2.2.1 x c (hlook x c h)⟩, I.bs, Nat.le_trans I.ok.bsz I.sz, fun b o e hb => ?_, fun b hb hs => ?_, I.stack, I.stkFree⟩,
    rfl, I.bare, Un.kept k, ⟨m, hn, fun i x v e1 e2 e3 => ?_⟩, fun x c h => ?_, I.hok.fresh hC, fun x c h => I.freeC x c (hlook x c h), fun p hp => absurd (show p ∈ ([] : List (Addr × Obj)) from hp) (by simp), I.hok.kept k, ?_⟩
  · have hx' : (relabel csc X.env).names.lookup x = some .cell ∨ (relabel csc X.env).names.lookup x = some .free := hx
    rcases hx' with h | h
    · rcases relabel_kind h with q | ⟨_, q⟩
      · exact (S.no_cell (PySem.mem_of_lookup q)).elim
      · exact hfree x q
    · rcases relabel_kind h with q | ⟨q, _⟩
      · exact hfree x q
      · cases q
  · rcases (hf b hb).2.2.2.1 with z | z
    · exact I.ok.noex b o e z
    · exact absurd (Nat.lt_of_lt_of_le (Heap.lt_size e) (Nat.le_trans I.ok.bsz z)) (Nat.lt_irrefl _)
  · rcases List.mem_cons.mp (I.stkSub b hs) with e | e
    · exact (hf b hb).2.1 e
    · exact (hf b hb).2.2.1 e
  · have hi : nt ≤ i := by
      by_cases hi : nt ≤ i
      · exact hi
      · have : (slotsC nt is σ)[i]? = some none := by
          unfold slotsC
          rw [List.getElem?_append_left (by simpa using hi), List.getElem?_replicate, if_pos (by omega)]
        rw [this] at e2; cases e2
    obtain ⟨j, rfl⟩ : ∃ j, i = nt + j := ⟨i - nt, by omega⟩
    have e2' : (is.map fun i => (σ[i]?).join)[j]? = some (some v) := by
      unfold slotsC at e2
      rw [List.getElem?_append_right (by simp)] at e2
      simpa using e2
    rw [List.getElem?_map] at e2'
    cases ej : is[j]? with
    | none => rw [ej] at e2'; cases e2'
    | some i' =>
      rw [ej] at e2'
      have e3' : (σ[i']?).join = some v := Option.some.inj e2'
      have e4 : σ[i']? = some (some v) := by
        cases q : σ[i']? with
        | none => rw [q] at e3'; cases e3'
        | some o => rw [q] at e3'; exact congrArg some e3'
      have e5 : X.N[i']? = some x := by
        have q := congrArg (fun l => l[j]?) S.slots
        simp only [List.getElem?_map, ej, Option.map_some] at q
        have q2 : (NC.drop nt)[j]? = some x := by rw [List.getElem?_drop]; exact e1
        rw [q2] at q
        simpa using q.symm
      have hxfree : csc.names.lookup x = some .free := by
        have q2 : (NC.drop nt)[j]? = some x := by rw [List.getElem?_drop]; exact e1
        have q := List.all_eq_true.mp S.isfree x (List.mem_of_getElem? q2)
        simpa using q
      have hk := S.free_kind (PySem.mem_of_lookup hxfree)
      obtain ⟨m0, _, hl⟩ := I.loc
      obtain ⟨u, r, l⟩ := hl i' x v e5 e4 (hk.elim (fun z => .inr (.inl z)) fun z => .inr (.inr z))
      refine ⟨u, r, ?_⟩
      rcases l with ⟨z, _⟩ | ⟨_, c, hc, hcell⟩
      · rw [z] at hk; rcases hk with q | q <;> cases q
      · obtain ⟨c', hc'⟩ := hfree x hxfree
        have e6 := hlook x c' hc'
        rw [hc] at e6; cases e6
        refine .inr ⟨?_, c, hc', ?_⟩
        · have e3'' : (relabel csc X.env).names.lookup x = some .local ∨ (relabel csc X.env).names.lookup x = some .cell ∨ (relabel csc X.env).names.lookup x = some .free := e3
          rcases e3'' with z | z | z
          · rcases relabel_kind z with q | ⟨q, _⟩
            · rw [hxfree] at q; cases q
            · cases q
          · exact .inl z
          · exact .inr z
        · obtain ⟨o, ho, hd⟩ := hcell
          exact ⟨o, k c o ho, hd⟩
  · obtain ⟨v, o, ho, hd⟩ := I.cell x c (hlook x c h)
    exact ⟨v, o, k c o ho, hd⟩
  · rw [slotsC_len]; exact S.len.symm
theorem inv_behind (I : Inv X pins σ H s) {fp : List Addr} (hf : ∀ b ∈ fp, FpOk X pins H b) {σ' : St} {H' : Hp} {s' : Shared} {C D : Addr} {pins' : List (Addr × Obj)} {acc : List V} {its : List Value} {n : Nat}
    (J : Inv (cxC X NC csc C s H fp) pins' σ' H' s') (hC : s.heap.objs.size ≤ C) (hD : s.heap.objs.size ≤ D) (hDo : s'.heap.get? D = some { cls := .type "list", data := .seq its.toArray n }) (hDn : H' D = none) (hv : Vals acc its)
    (hz : acc.length ≤ sizeLine) : Inv X pins σ (upd H' D (.lst acc)) s' := by
  have hne : ∀ b o, s.heap.get? b = some o → b ≠ D := fun b o e z => absurd (Nat.lt_of_lt_of_le (Heap.lt_size e) (z ▸ hD)) (Nat.lt_irrefl _)
  have hu : Un (frs X.stack) fp H H' s.heap s'.heap := J.base
  refine I.call' (ch := fp) J.os ⟨hu.keep, hu.slot, fun b o e n hx => by rw [upd_ne (hne b o e)]; exact hu.free b o e n hx, hu.there, fun b xs e => ?_, fun b o u e => ?_, fun b ps e => ?_⟩ (fun b u q => ?_) J.bare fun b hb => ?_
  · have q := hu.tups b xs e
    rw [upd_ne (ne_of_none q hDn)]; exact q
  · have q := hu.frzs b o u e
    rw [upd_ne (ne_of_none q hDn)]; exact q
  · obtain ⟨more, q⟩ := hu.tbls b ps e
    exact ⟨more, by rw [upd_ne (ne_of_none q hDn)]; exact q⟩
  · by_cases hb : b = D
    · subst hb
      rw [upd_same] at q; cases q
      exact ⟨hz, its, n, hv, hDo⟩
    · rw [upd_ne hb] at q
      exact (J.hok b u q).stay (fun _ _ _ e => e) (fun c r => by rw [upd_ne (ne_of_none r hDn)]; exact r) fun c xs r => by rw [upd_ne (ne_of_none r hDn)]; exact r
  · obtain ⟨_, f1, f2, f3, f4, f5⟩ := hf b hb
    exact ⟨f3, f1, f4, f5⟩
theorem comp_run {elt tg iter : Expr} {ifs : List Expr} {pos : Pos} {wi : TI} {g : TG} {tt : TT} {te : TE} {Q : VK} {use : Option (Value → Sem Unit)} {QQ : Value → Shared → Prop} {epos : Pos}
    (S : CompSc X NC nt is csc) (hc : X.calm = true) (hi : PI X tg iter wi)
    (hg : ∀ C s H ex, PG (cxC X NC csc C s H ex) tg g) (ht : ∀ C s H ex, PIf (cxC X NC csc C s H ex) ifs tt) (he : ∀ C s H ex, PE (cxC X NC csc C s H ex) elt te)
    (hgk : ∀ x (σ : St) H Q, g x σ H Q → g x σ H fun σ2 H2 => σ2.drop nt = σ.drop nt ∧ Q σ2 H2)
    (I : Inv X pins σ H s) (h : tComp wi nt is g tt te σ H Q)
    (fin : ∀ (s' : Shared) (C D : Addr) (H' : Hp) (m : Str → Option Value), Inv X pins σ H' s' → Q (.ref D) H' → s'.heap.Ns C m → H' C = none → C ≠ X.env.locals → X.s₀.heap.objs.size ≤ C → (∀ x c, X.env.cells.lookup x = some c → c ≠ C) → (∀ p ∈ X.pn ++ pins, p.1 ≠ C) →
      compPost (model X.prog X.w) X.A X.xe use QQ (.ref D) C (.ok .next) s')
    (hs : ∀ x, foldedSetIterable iter X.env x = pure x) :
    wpAny (model X.prog X.w) X.A (comprehension (.ListComp elt [⟨tg, iter, ifs, 0⟩] csc pos) csc X.env epos (newList []) false (eval iter X.env) use) QQ X.xe s := by
  have hcells := S.has_cells I
  have hnames : ∀ x ∈ csc.names, x.2 = .local → csc.names.lookup x.1 = some .local := fun x hx hl => by
    have q := List.all_eq_true.mp S.locs x hx
    simpa [hl] using q
  have hcell : ∀ y ∈ csc.names, y.2 ≠ .cell := fun y hy e => by
    obtain ⟨n, k⟩ := y
    have e' : k = .cell := e
    subst e'
    exact S.no_cell hy
  refine wpAny_comprehension_free (g := ⟨tg, iter, ifs, 0⟩) (gs := []) (cl := clos X.env.cells csc.names []) rfl hs (closureFor_clos hcells) S.kind hnames ?_
  refine thn (hi pins s σ H _ I h) fun v s1 h1 => thn h1 fun itv s2 h2 => ?_
  obtain ⟨it, fp, tn, J, H2, rfl, I2, T, st2, f2, W, ⟨m0, w0⟩, turn⟩ := h2
  have fo : ∀ b ∈ fp, ∃ o, s2.heap.get? b = some o := fun b hb => let ⟨o, e, _⟩ := T.obj 0 _ st2 b hb; ⟨o, e⟩
  have flt := fp_lt fo
  refine wpAny_newObj_type (wpAny_newFunctionEnv hcell (by intro y hy; simp at hy) (fun h₁ hns₁ hsb₁ => ?_) S.kind)
  dsimp only at hns₁ hsb₁ ⊢
  generalize hH2 : s2.heap.push { cls := .type "list", dict := none, data := .seq ([] : List Value).toArray } = P2 at hns₁ hsb₁ ⊢
  have hCs : P2.objs.size = s2.heap.objs.size + 1 := by rw [← hH2, Heap.size_push]
  generalize hCC : P2.objs.size = C at hns₁ hsb₁ hCs ⊢
  generalize hDD : s2.heap.objs.size = D at hCs ⊢
  have hD : s2.heap.objs.size ≤ D := Nat.le_of_eq hDD
  have hC : s2.heap.objs.size ≤ C := by omega
  have hDC : D ≠ C := by omega
  have old : ∀ b o, s2.heap.get? b = some o → h₁.get? b = some o := fun b o e => hsb₁.extBut b o (Nat.ne_of_lt (Nat.lt_of_lt_of_le (Heap.lt_size e) hC)) (Heap.get?_push_of_some _ (hH2 ▸ Heap.get?_push_of_some _ e))
  have accO : h₁.get? D = some { cls := .type "list", data := .seq ([] : List Value).toArray 0 } := by
    refine hsb₁.extBut _ _ hDC (Heap.get?_push_of_some _ ?_)
    rw [← hH2, ← hDD]
    exact Heap.get?_push_size _ rfl
  have Istart : Inv (cxC X NC csc C s2 H2 fp) [] (slotsC nt is σ) H2 { s2 with heap := h₁, toks := s2.toks + ([] : List (Str × Value)).length } := inv_block S I2 f2 fo hC old hns₁
  have HD0 : H2 D = none := I2.hok.fresh hD
  have HC0 : H2 C = none := I2.hok.fresh hC
  have fpY : ∀ {H' : Hp} {pl : List (Addr × Obj)}, (∀ b ∈ fp, H' b = none) → (∀ p ∈ pl, p.1 ∉ fp) → ∀ b ∈ fp, FpOk (cxC X NC csc C s2 H2 fp) pl H' b := fun {H' pl} hn hp b hb => by
    obtain ⟨_, g1, g2, g3, g4, g5⟩ := f2 b hb
    refine ⟨hn b hb, Nat.ne_of_lt (Nat.lt_of_lt_of_le (flt b hb) hC), fun z => ?_, .inl hb, fun x c e => g4 x c (clos_lookup csc.names [] x c hcells (by intro d hd; simp at hd) e), fun p hpp z => ?_⟩
    · rcases List.mem_cons.mp (I2.stkSub b z) with e | e
      · exact g1 e
      · exact g2 e
    · exact hp p (by simpa using hpp) (z ▸ hb)
  have dne : D ∉ fp := fun hb => absurd (flt D hb) (Nat.not_lt.mpr hD)
  have cellD : ∀ {σ' : St} {H' : Hp} {s' : Shared} {pl : List (Addr × Obj)} {its : List Value} {n : Nat}, Inv (cxC X NC csc C s2 H2 fp) pl σ' H' s' → s'.heap.get? D = some { cls := .type "list", data := .seq its.toArray n } →
      ∀ x c, (cxC X NC csc C s2 H2 fp).env.cells.lookup x = some c → c ≠ D := fun {σ' H' s' pl its n} K e x c hx z => by
    obtain ⟨v, o, ho, hd⟩ := K.cell x c hx
    rw [z, e] at ho; cases ho; cases hd
  have loop : ∀ s₃ : Shared, s₃ = { s2 with heap := h₁, toks := s2.toks + ([] : List (Str × Value)).length } →
      codeAny (model X.prog X.w) X.A (.compLoop (.ListComp elt [⟨tg, iter, ifs, 0⟩] csc pos) 0 (.ref it) (.ref D) (compEnvC csc (clos X.env.cells csc.names []) C X.env)) (compPost (model X.prog X.w) X.A X.xe use QQ (.ref D) C) s₃ := by
    rintro s₃ rfl
    refine compLoop_any (fun n s' => ∃ i H' acc its k, Inv (cxC X NC csc C s2 H2 fp) [] (slotsC nt is σ) H' s' ∧ tn i s'.heap ∧ (∀ b ∈ fp, H' b = none) ∧ s'.heap.get? D = some { cls := .type "list", data := .seq its.toArray k } ∧ H' D = none ∧
      Vals acc its ∧ acc.length ≤ sizeLine ∧ W i n acc H') ?_ m0 ⟨0, H2, [], [], 0, Istart, T.keep _ _ _ st2 (fun b hb o e => old b o e), fun b hb => (f2 b hb).1, accO, HD0, .nil, Nat.zero_le _, w0⟩
    rintro n s3 ⟨i, H3, acc, its, k, I3, st3, fr3, o3, n3, v3, z3, w3⟩
    have pinD : Inv (cxC X NC csc C s2 H2 fp) [(D, { cls := .type "list", data := .seq its.toArray k })] (slotsC nt is σ) H3 s3 := I3.pins_of fun p hp => by
      have e : p = (D, { cls := .type "list", data := .seq its.toArray k }) := by simpa using hp
      subst e
      refine ⟨o3, n3, hDC, fun z => ?_, fun v z => by cases z⟩
      rcases List.mem_cons.mp (I2.stkSub D z) with e | e
      · exact absurd I2.lt (Nat.not_lt.mpr (by rw [← e]; exact hD))
      · exact I2.nofs hD e
    have fpD : ∀ p ∈ [((D, { cls := .type "list", data := .seq its.toArray k }) : Addr × Obj)], p.1 ∉ fp := fun p hp => by
      have e : p = (D, { cls := .type "list", data := .seq its.toArray k }) := by simpa using hp
      subst e; exact dne
    rcases turn i n acc H3 w3 with ⟨stop, qn⟩ | ⟨go, hlen, N, hN, step⟩
    · refine thn (T.done (cxC X NC csc C s2 H2 fp) rfl rfl rfl hc i _ s3 _ H3 (fun _ _ => False) pinD (fpY fr3 fpD) st3 stop) fun r s4 ⟨hr, I4⟩ => ?_
      subst hr
      obtain ⟨e4, n4, _⟩ := I4.pin (D, { cls := .type "list", data := .seq its.toArray k }) (List.mem_append_right _ (List.mem_singleton.mpr rfl))
      have J := inv_behind (NC := NC) (csc := csc) I2 f2 I4 hC hD e4 n4 v3 z3
      obtain ⟨m4, hm4, _⟩ := I4.loc
      have nC : H3 C = none := I4.free
      refine fin s4 C D _ m4 J (qn D n4) hm4 (by rw [upd_ne (Ne.symm hDC)]; exact nC) (fun z => absurd I2.lt (Nat.not_lt.mpr (by rw [← z]; exact hC))) (Nat.le_trans I2.sz hC) (fun x c e z => ?_) fun p hp z => ?_
      · obtain ⟨v, o, ho, _⟩ := I2.cell x c e
        exact absurd (Heap.lt_size ho) (Nat.not_lt.mpr (by rw [z]; exact hC))
      · exact absurd (Heap.lt_size (I2.pin p hp).1) (Nat.not_lt.mpr (by rw [z]; exact hC))
    · refine thn (T.item (cxC X NC csc C s2 H2 fp) rfl rfl rfl hc i _ s3 _ H3 (fun _ _ => False) pinD (fpY fr3 fpD) st3 go) fun r s4 ⟨u, hr, h4⟩ => ?_
      subst hr
      refine thn h4 fun _ s5 ⟨x, H5, I5, r5, y5, st5, fr5⟩ => ?_
      have I5' := I5.pinned (fpY fr5 fpD) (T.obj _ _ st5)
      refine thn (hg C s2 H2 fp _ s5 _ H5 x u _ I5' r5 (hgk _ _ _ _ (step x H5 y5))) fun _ s6 ⟨σ6, H6, I6, d6, q6⟩ => ?_
      refine thn (ht C s2 H2 fp _ s6 σ6 H6 _ I6 q6) fun ok s7 ⟨H7, I7, q7⟩ => ?_
      have tnk : ∀ {σ' : St} {H' : Hp} {s' : Shared}, Inv (cxC X NC csc C s2 H2 fp) ([(D, { cls := .type "list", data := .seq its.toArray k })] ++ pinsAt fp s5.heap) σ' H' s' →
          tn (i + 1) s'.heap ∧ (∀ b ∈ fp, H' b = none) ∧ s'.heap.get? D = some { cls := .type "list", data := .seq its.toArray k } ∧ H' D = none := fun {σ' H' s'} K => by
        refine ⟨T.keep _ _ _ st5 fun b hb o e => (K.pin (b, o) (List.mem_append_right _ (List.mem_append_right _ (mem_pinsAt hb e)))).1, fun b hb => ?_, ?_, ?_⟩
        · obtain ⟨o, e, d⟩ := T.obj _ _ st5 b hb
          exact (K.pin (b, o) (List.mem_append_right _ (List.mem_append_right _ (mem_pinsAt hb e)))).2.1
        · exact (K.pin (D, { cls := .type "list", data := .seq its.toArray k }) (List.mem_append_right _ (List.mem_append_left _ (List.mem_singleton.mpr rfl)))).1
        · exact (K.pin (D, { cls := .type "list", data := .seq its.toArray k }) (List.mem_append_right _ (List.mem_append_left _ (List.mem_singleton.mpr rfl)))).2.1
      have reset : ∀ {σ' : St} {H' : Hp} {s' : Shared} {pl : List (Addr × Obj)}, σ'.drop nt = (slotsC nt is σ).drop nt → Inv (cxC X NC csc C s2 H2 fp) pl σ' H' s' → Inv (cxC X NC csc C s2 H2 fp) [] (slotsC nt is σ) H' s' := fun {σ' H' s' pl} hd K => by
        have K0 : Inv (cxC X NC csc C s2 H2 fp) [] σ' H' s' := K.pins_of fun p hp => absurd hp (by simp)
        refine K0.weak ?_ fun j v hj => ?_
        · rw [slotsC_len, K.len]; exact S.len.symm
        · by_cases hjn : j < nt
          · exfalso
            unfold slotsC at hj
            rw [List.getElem?_append_left (by simpa using hjn), List.getElem?_replicate, if_pos hjn] at hj
            cases hj
          · have q := congrArg (fun l => l[j - nt]?) hd
            simp only [List.getElem?_drop] at q
            rw [show nt + (j - nt) = j by omega] at q
            rw [q]; exact hj
      cases ok with
      | false =>
        obtain ⟨m', lt, w7⟩ : ∃ m', m' < n ∧ W (i + 1) m' acc H7 := hN _ _ q7
        obtain ⟨t7, f7, e7, n7⟩ := tnk I7
        exact ⟨m', lt, i + 1, H7, acc, its, k, reset d6 I7, t7, f7, e7, n7, v3, z3, w7⟩
      | true =>
        have q7' : te σ6 H7 fun y H4 => N (acc ++ [y]) H4 := q7
        refine thn (he C s2 H2 fp _ s7 σ6 H7 _ I7 q7') fun u8 s8 ⟨y, H8, I8, r8, qN⟩ => ?_
        obtain ⟨m', lt, w8⟩ := hN _ _ qN
        obtain ⟨t8, f8, e8, n8⟩ := tnk I8
        have I8r := reset d6 I8
        have hl := v3.length
        refine call_meets F.slot_list_append ⟨_, e8, rfl⟩ F.entry_list_append (F.args_list_append_2 _ _) (PySem.list_append D its.toArray k u8 (by rw [List.size_toArray]; omega)) ⟨e8, ?_⟩
        have q := PySem.IsL.update e8 (fun a => a.push u8)
        have hq : (its.toArray.push u8) = (its ++ [u8]).toArray := by simp
        rw [hq] at q
        have kk : ∀ b o, b ≠ D → s8.heap.get? b = some o → (s8.heap.update D (Obj.mapSeq fun a => a.push u8)).get? b = some o := fun b o hb e => (Heap.get?_update_other s8.heap _ (Ne.symm hb)).trans e
        refine ⟨m', lt, i + 1, H8, acc ++ [y], its ++ [u8], _, I8r.turned (t' := s8.toks) kk n8 hDC (.inr hD) (cellD I8r e8) (fun p hp => absurd (show p ∈ ([] : List (Addr × Obj)) from hp) (by simp)), T.keep _ _ _ t8 (fun b hb o e => kk b o (fun z => dne (z ▸ hb)) e), f8, q, n8, v3.append (.cons r8 .nil), ?_, w8⟩
        rw [List.length_append, List.length_singleton]
        omega
  exact codeAny_compStart_list (loop _ rfl) (T.self X.A 0 _ _ _ (T.keep _ _ _ st2 (fun b hb o e => old b o e)) (loop _ rfl))
theorem gName_keep {i nt : Nat} (hi : i < nt) : ∀ x (σ : St) (H : Hp) Q, gName i x σ H Q → gName i x σ H fun σ2 H2 => σ2.drop nt = σ.drop nt ∧ Q σ2 H2 := fun x σ H Q h => ⟨List.drop_set_of_lt hi, h⟩
theorem pe_comp {elt tg iter : Expr} {ifs : List Expr} {pos : Pos} {wi : TI} {g : TG} {tt : TT} {te : TE} (nt : Nat) (is : List Nat) (NC : List Str)
    (S : CompSc X NC nt is csc) (hc : X.calm = true) (hi : PI X tg iter wi)
    (hg : ∀ C s H ex, PG (cxC X NC csc C s H ex) tg g) (hgk : ∀ x (σ : St) H Q, g x σ H Q → g x σ H fun σ2 H2 => σ2.drop nt = σ.drop nt ∧ Q σ2 H2)
    (ht : ∀ C s H ex, PIf (cxC X NC csc C s H ex) ifs tt) (he : ∀ C s H ex, PE (cxC X NC csc C s H ex) elt te)
    (hs : ∀ x, foldedSetIterable iter X.env x = pure x := by intro _; rfl) : PE X (.ListComp elt [⟨tg, iter, ifs, 0⟩] csc pos) (tComp wi nt is g tt te) := by
  intro pins s σ H Q I h
  rw [eval_ListComp]
  refine comp_run S hc hi hg ht he hgk I h (fun s' C D H' m J q hm hC hL hz hcl hp => ⟨m, hm, fun h' hsb => ?_⟩) hs
  exact ⟨.ref D, H', J.turned (t' := s'.toks) (fun b o hb e => hsb.extBut b o hb e) hC hL (.inr hz) hcl hp, rfl, q⟩
end
section
variable {K : PySem.W.Frag} {nt : Nat} {is : List Nat} {g : TG} {tt : TT} {te : TE} {σ : St} {H : Hp} {Q : VK}
def CompW (J : It) (nt : Nat) (is : List Nat) (g : TG) (tt : TT) (te : TE) (σ : St) (H : Hp) (Q : VK) : Prop := ∃ W : Nat → Nat → List V → Hp → Prop, (∃ m, W 0 m [] H) ∧ ∀ i m acc H, W i m acc H →
  (J.stop i H ∧ ∀ p, H p = none → Q (.ref p) (upd H p (.lst acc))) ∨
  (J.go i H ∧ acc.length < sizeLine ∧ ∃ N : List V → Hp → Prop, (∀ acc' H', N acc' H' → ∃ m', m' < m ∧ W (i + 1) m' acc' H') ∧ ∀ x H', J.yld i H x H' → g x (slotsC nt is σ) H' fun σ2 H2 => tt σ2 H2 fun b H3 =>
    if b = true then te σ2 H3 fun y H4 => N (acc ++ [y]) H4 else N acc H3)
theorem tComp_eq {wi : TI} : tComp wi nt is g tt te σ H Q = wi σ H fun J H1 => CompW J nt is g tt te σ H1 Q := rfl
theorem comp_gen {J : It} {n : Nat} (Pv : Nat → List V → Hp → Prop) (h0 : Pv 0 [] H)
    (hgo : ∀ i acc H, i < n → Pv i acc H → J.go i H ∧ acc.length < sizeLine ∧ ∀ x H', J.yld i H x H' → g x (slotsC nt is σ) H' fun σ2 H2 => tt σ2 H2 fun b H3 => if b = true then te σ2 H3 fun y H4 => Pv (i + 1) (acc ++ [y]) H4 else Pv (i + 1) acc H3)
    (hst : ∀ acc H, Pv n acc H → J.stop n H ∧ ∀ p, H p = none → Q (.ref p) (upd H p (.lst acc))) : CompW J nt is g tt te σ H Q := by
  refine ⟨fun i m acc H => m = n - i ∧ i ≤ n ∧ Pv i acc H, ⟨n, by simp, Nat.zero_le _, h0⟩, ?_⟩
  rintro i m acc H ⟨rfl, hi, p⟩
  by_cases hlt : i < n
  · obtain ⟨h1, h2, h3⟩ := hgo i acc H hlt p
    exact .inr ⟨h1, h2, Pv (i + 1), fun acc' H' q => ⟨n - (i + 1), by omega, rfl, hlt, q⟩, h3⟩
  · have e : i = n := by omega
    subst e
    exact .inl (hst acc H p)
theorem comp_str {z : Str} (Pv : Nat → List V → Hp → Prop) (h0 : Pv 0 [] H)
    (hs : ∀ i c acc H, z.cps.toList[i]? = some c → Pv i acc H → acc.length < sizeLine ∧ g (.str ⟨#[c]⟩) (slotsC nt is σ) H fun σ2 H2 => tt σ2 H2 fun b H3 => if b = true then te σ2 H3 fun y H4 => Pv (i + 1) (acc ++ [y]) H4 else Pv (i + 1) acc H3)
    (hd : ∀ acc H, Pv z.cps.toList.length acc H → ∀ p, H p = none → Q (.ref p) (upd H p (.lst acc))) : CompW (Its z) nt is g tt te σ H Q := by
  have hl : z.cps.toList.length = z.cps.size := by simp
  refine comp_gen (n := z.cps.toList.length) Pv h0 (fun i acc H hi p => ?_) fun acc H p => ⟨Nat.le_of_eq hl.symm, hd acc H p⟩
  have hx : z.cps.toList[i]? = some z.cps.toList[i] := by simp [hi]
  obtain ⟨h1, h2⟩ := hs i _ acc H hx p
  refine ⟨(by show i < z.cps.size; omega), h1, fun x H' y => ?_⟩
  obtain ⟨rfl, c, hc, rfl⟩ := y
  rw [← Array.getElem?_toList, hx] at hc
  cases hc
  exact h2
theorem comp_list {a : Addr} {xs : List V} (Pv : Nat → List V → Hp → Prop) (h0 : Pv 0 [] H) (hl : ∀ i acc H, i ≤ xs.length → Pv i acc H → SqL K H a xs)
    (hs : ∀ i x acc H, xs[i]? = some x → Pv i acc H → acc.length < sizeLine ∧ g x (slotsC nt is σ) H fun σ2 H2 => tt σ2 H2 fun b H3 => if b = true then te σ2 H3 fun y H4 => Pv (i + 1) (acc ++ [y]) H4 else Pv (i + 1) acc H3)
    (hd : ∀ acc H, Pv xs.length acc H → ∀ p, H p = none → Q (.ref p) (upd H p (.lst acc))) : CompW (Itl K a) nt is g tt te σ H Q := by
  refine comp_gen (n := xs.length) Pv h0 (fun i acc H hi p => ?_) fun acc H p => ⟨⟨xs, hl _ _ _ (Nat.le_refl _) p, Nat.le_refl _⟩, hd acc H p⟩
  have hx : xs[i]? = some xs[i] := by simp [hi]
  have q := hl i acc H (Nat.le_of_lt hi) p
  obtain ⟨h1, h2⟩ := hs i _ acc H hx p
  refine ⟨⟨xs, _, q, hx⟩, h1, fun x H' y => ?_⟩
  obtain ⟨rfl, y⟩ := y
  have e := y xs q
  rw [hx] at e
  cases e
  exact h2
theorem comp_tup {a : Addr} {xs : List V} (Pv : Nat → List V → Hp → Prop) (h0 : Pv 0 [] H) (hl : ∀ i acc H, i ≤ xs.length → Pv i acc H → SqT K H a xs)
    (hs : ∀ i x acc H, xs[i]? = some x → Pv i acc H → acc.length < sizeLine ∧ g x (slotsC nt is σ) H fun σ2 H2 => tt σ2 H2 fun b H3 => if b = true then te σ2 H3 fun y H4 => Pv (i + 1) (acc ++ [y]) H4 else Pv (i + 1) acc H3)
    (hd : ∀ acc H, Pv xs.length acc H → ∀ p, H p = none → Q (.ref p) (upd H p (.lst acc))) : CompW (Itt K a) nt is g tt te σ H Q := by
  refine comp_gen (n := xs.length) Pv h0 (fun i acc H hi p => ?_) fun acc H p => ⟨⟨xs, hl _ _ _ (Nat.le_refl _) p, Nat.le_refl _⟩, hd acc H p⟩
  have hx : xs[i]? = some xs[i] := by simp [hi]
  have q := hl i acc H (Nat.le_of_lt hi) p
  obtain ⟨h1, h2⟩ := hs i _ acc H hx p
  refine ⟨⟨xs, _, q, hx⟩, h1, fun x H' y => ?_⟩
  obtain ⟨rfl, y⟩ := y
  have e := y xs q
  rw [hx] at e
  cases e
  exact h2
end
section
variable {X : Cx}
theorem call_all (hc : X.calm = true) : CallR X (.builtin "all") (fun xs H Q => ∃ (p : Addr) (bs : List Bool), xs = [.ref p] ∧ SqL X.K H p (bs.map V.bl) ∧ Q (.bl (bs.all id)) H) := by
  intro pins s σ H xs us Q I r h
  obtain ⟨p, bs, rfl, hq, q⟩ := h
  obtain ⟨u, rfl, rx⟩ := vals1 r
  cases rx
  obtain ⟨its, rv, pl, hz⟩ := I.list hq
  have hlen : bs.length = its.length := by have := rv.length; simpa using this
  refine call_all_walk (wpAny_pyIter_list pl.isList ?_)
  have hne : p ≠ s.heap.objs.size := by
    obtain ⟨o, _, e, _⟩ := pl
    exact Nat.ne_of_lt (Heap.lt_size e)
  refine ⟨s.heap.objs.size, _, _, _, _, _, fun i => bs.getD i false, rfl, Walks.list (A := X.A.in1) (show X.A.in1.handled = none from I.ok.hd hc) _ p hne its.toArray, ⟨⟨_, Heap.get?_push_size _ rfl, rfl, rfl⟩, pl.isList.push _⟩, ?_, fun h' tk hk => ?_⟩
  · intro i v s' Q' E' hP hQ'
    have hv : its[i]? = some v := by simpa using hP
    have hi : i < bs.length := by rw [hlen]; exact (List.getElem?_eq_some_iff.mp hv).1
    obtain ⟨v', hv', rv'⟩ := rv.get (i := i) (x := V.bl bs[i]) (by simp [hi])
    rw [hv] at hv'; cases hv'
    cases (show v = Value.bool bs[i] from rv')
    have e : bs.getD i false = bs[i] := by simp [hi]
    have hQ2 : Q' (bs.getD i false) s' := hQ'
    rw [e] at hQ2
    exact wpAny_truthy_bool hQ2
  · have e : ((List.range its.toArray.size).all fun i => bs.getD i false) = bs.all id := by
      rw [List.size_toArray, ← hlen]
      rw [Bool.eq_iff_iff, List.all_eq_true, List.all_eq_true]
      constructor
      · intro h x hx
        obtain ⟨i, hi, rfl⟩ := List.mem_iff_getElem.mp hx
        have := h i (List.mem_range.mpr hi)
        simpa [hi] using this
      · intro h i hi
        have hi' := List.mem_range.mp hi
        have := h bs[i] (List.getElem_mem hi')
        simpa [hi'] using this
    rw [e]
    refine ⟨.bl (bs.all id), H, ?_, rfl, q⟩
    exact I.kept (t' := tk) fun b o e => hk b o (fun z => absurd (Heap.lt_size e) (Nat.not_lt.mpr (Nat.le_of_eq (List.mem_singleton.mp z).symm))) (Heap.get?_push_of_some _ e)
theorem strsAre_of : ∀ {ys : List Str} {us : List Value}, Vals (ys.map V.str) us → StrsAre us ys
  | [], _, r => by rw [List.map_nil] at r; cases r; exact .nil
  | y :: ys, _, r => by
    rw [List.map_cons] at r
    cases r with
    | cons r1 r2 =>
      obtain ⟨t, rfl⟩ := r1
      exact .cons y t (strsAre_of r2)
def rJoin (K : PySem.W.Frag) : V → List V → Hp → VK → Prop := fun x vs H Q => ∃ (sep : Str) (p : Addr) (ys : List Str), x = .str sep ∧ vs = [.ref p] ∧ SqL K H p (ys.map V.str) ∧ (ys.map (·.length)).sum + ys.length * sep.length ≤ 16777216 ∧ Q (.str (Txt.join sep ys)) H
theorem mt_join : MtR X "str.join" (rJoin X.K) := by
  intro pins s σ H x vs v us Q I rx rv h
  obtain ⟨sep, p, ys, rfl, rfl, hq, hz, q⟩ := h
  obtain ⟨t, rfl⟩ := rx
  obtain ⟨u, rfl, ru⟩ := vals1 rv
  cases ru
  obtain ⟨its, r', pl, _⟩ := I.list hq
  exact join_list pl.isList (by simpa using strsAre_of r') hz fun t' k => ⟨.str _, H, I.tok _, ⟨t', rfl⟩, q⟩
def rInst (K : PySem.W.Frag) (T : String) : List V → Hp → VK → Prop := fun vs H Q => ∃ x t b, vs = [x, .ty T] ∧ TyOf K H x t ∧ PySem.W.kitOne K t (.type T) = some b ∧ Q (.bl b) H
theorem call_inst {T : String} : CallR X (.builtin "isinstance") (rInst X.K T) := by
  intro pins s σ H xs us Q I r h
  obtain ⟨x, t, b, rfl, ty, e, q⟩ := h
  obtain ⟨u, u2, rfl, rx, r2⟩ := vals2 r
  cases (show u2 = Value.type T from r2)
  exact isinst_ok I rx ty e fun tk => ⟨.bl b, H, I.tok tk, rfl, q⟩
end
end L2
set_option Elab.async false
set_option linter.all false
set_option maxRecDepth 100000
set_option maxHeartbeats 4000000
namespace L2
open PySem PySem.Spec PyProof.Rows
section
variable {X : Cx} {tg l : Expr} {tl : TE} {a : Expr} {pos : Pos} {tA : TT}
theorem op_modP : OpR X (binaryOp .Mod) (rI (fun _ j => 0 < j) fun i j => .int (i % j)) := op_mod
theorem op_fdivP : OpR X (binaryOp .FloorDiv) (rI CDiv fun i j => .int (i / j)) := op_fdiv
def rAddS : R2 := fun x y H Q => ∃ i j, x = .str i ∧ y = .str j ∧ i.length + j.length ≤ sizeLine ∧ Q (.str (i ++ j)) H
def rAddA (K : PySem.W.Frag) : R2 := fun x y H Q => rI0 (fun i j => .int (i + j)) x y H Q ∨ (rAddS x y H Q ∨ (rCat x y H Q ∨ rCatT K x y H Q))
def rMulA : R2 := fun x y H Q => rI CMul (fun i j => .int (i * j)) x y H Q ∨ rRep x y H Q
theorem opA_mul : OpR X (binaryOp .Mult) rMulA := OpR.or op_mul op_rep
theorem opA_ne (hu : X.A.units + 64 < cLine) : OpR X (compareOp .NotEq) rNe := op_ne
def rLtS : R2 := fun x y H Q => ∃ i j, x = .str i ∧ y = .str j ∧ Q (.bl (decide (i.cps.toList < j.cps.toList))) H
def rLtA : R2 := fun x y H Q => rI0 (fun i j => .bl (decide (i < j))) x y H Q ∨ rLtS x y H Q
theorem opA_lt : OpR X (compareOp .Lt) rLtA := OpR.or op_lt op_lt_str
def inS (i j : Str) : Bool := !(Builtin.Str.occurrences j i 0 j.length 1).isEmpty
def rInS (neg : Bool) : R2 := fun x y H Q => ∃ i j, x = .str i ∧ y = .str j ∧ Q (.bl (if neg then !inS i j else inS i j)) H
def rInA (K : PySem.W.Frag) (neg : Bool) : R2 := fun x y H Q => rInS neg x y H Q ∨ rIn K neg x y H Q
theorem opA_in (K : PySem.W.Frag) (hK : X.K = K := by rfl) : OpR X (compareOp .In) (rInA K false) := hK ▸ (OpR.or op_in_str op_in_seq : OpR X (compareOp .In) (rInA X.K false))
theorem opA_notin (K : PySem.W.Frag) (hK : X.K = K := by rfl) : OpR X (compareOp .NotIn) (rInA K true) := hK ▸ (OpR.or op_notIn_str op_notIn_seq : OpR X (compareOp .NotIn) (rInA X.K true))
def rSlA (K : PySem.W.Frag) : V → Option Int → Option Int → Hp → VK → Prop := fun x lo hi H Q => rSlS x lo hi H Q ∨ (rSlL K x lo hi H Q ∨ rSlT K x lo hi H Q)
theorem ixA (K : PySem.W.Frag) (hK : X.K = K := by rfl) : IxR X (rIx K) := hK ▸ (ix_seq : IxR X (rIx X.K))
def iAnyV (K : PySem.W.Frag) (x : V) (H : Hp) (R : It → Hp → Prop) : Prop := (∃ z, x = .str z ∧ R (Its z) H) ∨ (∃ a, x = .ref a ∧ (∃ xs, SqL K H a xs) ∧ R (Itl K a) H) ∨ (∃ a, x = .ref a ∧ (∃ xs, SqT K H a xs) ∧ R (Itt K a) H)
def iAny (K : PySem.W.Frag) (tl : TE) : TI := fun σ H R => tl σ H fun x H1 => iAnyV K x H1 R
theorem pi_any (K : PySem.W.Frag) (hl : PE X l tl) (hK : X.K = K := by rfl) : PI X tg l (iAny K tl) := by
  subst hK
  intro pins s σ H R I h
  refine thn (hl pins s σ H _ I h) fun v s1 ⟨x, H1, I1, r1, q1⟩ => ?_
  rcases q1 with ⟨z, rfl, q⟩ | ⟨a, rfl, hq, q⟩ | ⟨a, rfl, hq, q⟩
  · exact pi_str_at I1 r1 q
  · obtain ⟨xs, hq⟩ := hq
    cases r1
    obtain ⟨its, rv, p, hz⟩ := I1.list hq
    refine wpAny_pyIter_list p.isList ?_
    refine ⟨s1.heap.objs.size, [s1.heap.objs.size], _, _, H1, rfl, I1.kept (t' := s1.toks) fun b o e => Heap.get?_push_of_some _ e, turn_list a _, ⟨_, Heap.get?_push_size _ rfl, rfl, rfl⟩, fun b hb => ?_, q⟩
    have e : b = s1.heap.objs.size := by simpa using hb
    subst e
    exact I1.fpOk (Nat.le_refl _) (I1.hok.fresh (Nat.le_refl _))
  · obtain ⟨xs, hq⟩ := hq
    cases r1
    obtain ⟨its, rv, p, hz⟩ := I1.tuple hq
    refine wpAny_pyIter_tuple (show s1.heap.IsTuple a its.toArray from p) ?_
    refine ⟨s1.heap.objs.size, [s1.heap.objs.size], _, _, H1, rfl, I1.kept (t' := s1.toks) fun b o e => Heap.get?_push_of_some _ e, turn_tuple a _, ⟨_, Heap.get?_push_size _ rfl, rfl, rfl⟩, fun b hb => ?_, q⟩
    have e : b = s1.heap.objs.size := by simpa using hb
    subst e
    exact I1.fpOk (Nat.le_refl _) (I1.hok.fresh (Nat.le_refl _))
end
section
variable {X : Cx} {o e : Expr} {es : List Expr} {to : TE} {t : TA} {name : Str} {apos cpos : Pos} {T iid : String} {r : V → List V → Hp → VK → Prop}
def rLen (K : PySem.W.Frag) : List V → Hp → VK → Prop := fun xs H Q => ∃ x n, xs = [x] ∧ LenV K x H n ∧ Q (.int n) H
theorem callA_len (K : PySem.W.Frag) (hK : X.K = K := by rfl) : CallR X (.builtin "len") (rLen K) := hK ▸ (call_len : CallR X (.builtin "len") (rLen X.K))
def rAll (K : PySem.W.Frag) : List V → Hp → VK → Prop := fun xs H Q => ∃ (p : Addr) (bs : List Bool), xs = [.ref p] ∧ SqL K H p (bs.map V.bl) ∧ Q (.bl (bs.all id)) H
theorem callA_all (K : PySem.W.Frag) (hc : X.calm = true) (hK : X.K = K := by rfl) : CallR X (.builtin "all") (rAll K) := hK ▸ (call_all hc : CallR X (.builtin "all") (rAll X.K))
def rTupleOf (K : PySem.W.Frag) : List V → Hp → VK → Prop := fun xs H Q => ∃ p ys, xs = [.ref p] ∧ ((SqL K H p ys ∧ ∀ l, H l = none → Q (.ref l) (upd H l (.tup ys))) ∨ (SqT K H p ys ∧ Q (.ref p) H))
theorem callA_tuple (K : PySem.W.Frag) (hK : X.K = K := by rfl) : CallR X (.type "tuple") (rTupleOf K) := hK ▸ (call_tuple_of : CallR X (.type "tuple") (rTupleOf X.K))
def rListOf (K : PySem.W.Frag) : List V → Hp → VK → Prop := fun xs H Q => ∃ p ys, xs = [.ref p] ∧ (SqL K H p ys ∨ SqT K H p ys) ∧ ∀ l, H l = none → Q (.ref l) (upd H l (.lst ys))
def rIntOf : List V → Hp → VK → Prop := fun xs H Q => (∃ i, xs = [.int i] ∧ Q (.int i) H) ∨ ∃ k, xs = [.bl k] ∧ Q (.int (if k then 1 else 0)) H
theorem callA_int : CallR X (.type "int") rIntOf := call_int1
theorem pe_bmA (K : PySem.W.Frag) (pa : PlainAttrs T) (slot : Slot T name iid) (hty : typeOf (.builtin iid) = pure (.type "method_descriptor")) (hm : MtR X iid r) (ho : PE X o to) (ha : PA X (e :: es) t) (hK : X.K = K := by rfl)
    (hbase : attributeBase o name X.env (eval o X.env) = eval o X.env := by rfl)
    (hfew : ((backTo cpos (starEach (e :: es) X.env)).all (fun x => !x.1) && (backToKw cpos (keywordEach [] X.env)).all (fun x => x.1.isSome)
      && decide ((e :: es).length + ([] : List Keyword).length + (if ([] : List Keyword).isEmpty then 0 else 1) < 30)) = true := by rfl)
    (hline : (apos.endLine == cpos.line) = true := by rfl) (hs : starEach (e :: es) X.env = (false, eval e X.env) :: starEach es X.env := by rfl) (hplain : (backTo cpos (starEach es X.env)).any (·.1) = false := by rfl) :
    PE X (.Call (.Attribute o name apos) (e :: es) [] cpos) (tBM K T r to t) := hK ▸ pe_bm pa slot hty hm ho ha hbase hfew hline hs hplain
end
section
variable {K : PySem.W.Frag} {g : TG} {tb : TS} {D : Ends} {σ : St} {H : Hp}
def ForW (J : It) (g : TG) (tb : TS) (D : Ends) (σ : St) (H : Hp) : Prop := ∃ W : Nat → Nat → St → Hp → Prop, (∃ m, W 0 m σ H) ∧ ∀ i m σ H, W i m σ H →
  (J.stop i H ∧ D.nx σ H) ∨ (J.go i H ∧ ∃ N : St → Hp → Prop, (∀ σ' H', N σ' H' → ∃ m', m' < m ∧ W (i + 1) m' σ' H') ∧ ∀ x H', J.yld i H x H' → g x σ H' fun σ2 H2 => tb { D with nx := N, ct := N, bk := D.nx } σ2 H2)
theorem tFor_eq {wi : TI} : tFor wi g tb D σ H = wi σ H fun J H1 => ForW J g tb D σ H1 := rfl
theorem forW_list {a : Addr} {xs : List V} (Pv : Nat → St → Hp → Prop) (h0 : Pv 0 σ H) (hl : ∀ i σ H, i ≤ xs.length → Pv i σ H → SqL K H a xs)
    (hs : ∀ i x σ H, xs[i]? = some x → Pv i σ H → g x σ H fun σ2 H2 => tb { D with nx := Pv (i + 1), ct := Pv (i + 1), bk := D.nx } σ2 H2) (hd : ∀ σ H, Pv xs.length σ H → D.nx σ H) : ForW (Itl K a) g tb D σ H := for_list Pv h0 hl hs hd
theorem forW_range {lo : Int} {n : Nat} (Pv : Nat → St → Hp → Prop) (h0 : Pv 0 σ H)
    (hs : ∀ i σ H, i < n → Pv i σ H → g (.int (lo + i)) σ H fun σ2 H2 => tb { D with nx := Pv (i + 1), ct := Pv (i + 1), bk := D.nx } σ2 H2) (hd : ∀ σ H, Pv n σ H → D.nx σ H) : ForW (Itr lo n) g tb D σ H := for_range Pv h0 hs hd
theorem forW_str {x : Str} (Pv : Nat → St → Hp → Prop) (h0 : Pv 0 σ H)
    (hs : ∀ i c σ H, x.cps.toList[i]? = some c → Pv i σ H → g (.str ⟨#[c]⟩) σ H fun σ2 H2 => tb { D with nx := Pv (i + 1), ct := Pv (i + 1), bk := D.nx } σ2 H2) (hd : ∀ σ H, Pv x.cps.toList.length σ H → D.nx σ H) : ForW (Its x) g tb D σ H := for_str Pv h0 hs hd
end
theorem sz1000 {n : Nat} (h : n ≤ 100000) : n ≤ sizeLine := Nat.le_trans h (by rw [sizeLine_eq]; decide)
theorem sz1000' {n : Nat} (h : n ≤ 100000) : n < sizeLine := Nat.lt_of_le_of_lt h (by rw [sizeLine_eq]; decide)
theorem same_new {H : Hp} {p : Addr} (h : H p = none) (o : HO) : Same H (upd H p o) := fun b u q => by rw [upd_ne (ne_of_none q h)]; exact q
theorem Same.seqT {K : PySem.W.Frag} {H H' : Hp} {a : Addr} {xs : List V} (e : Same H H') (h : SqT K H a xs) : SqT K H' a xs := by
  rcases h with (h | ⟨o, h⟩) | h
  · exact .inl (.inl (e _ _ h))
  · exact .inl (.inr ⟨o, e _ _ h⟩)
  · exact .inr h
theorem atI_some {α : Type} {xs : List α} {i : Int} (h0 : 0 ≤ i) (h1 : i < xs.length) : ∃ v, v ∈ xs ∧ atI xs i = some v := by
  have hk : i.toNat < xs.length := by omega
  have e : i = ((i.toNat : Nat) : Int) := by omega
  refine ⟨xs[i.toNat], List.getElem_mem hk, ?_⟩
  have q : atI xs ((i.toNat : Nat) : Int) = some xs[i.toNat] := atI_nat (by simp [hk])
  rw [← e] at q
  exact q
theorem atI_getD {α : Type} {xs : List α} {i : Int} {d : α} (h0 : 0 ≤ i) (h1 : i < xs.length) : atI xs i = some (xs.getD i.toNat d) := by
  have hk : i.toNat < xs.length := by omega
  have e : i = ((i.toNat : Nat) : Int) := by omega
  have q : atI xs ((i.toNat : Nat) : Int) = some xs[i.toNat] := atI_nat (by simp [hk])
  rw [← e] at q
  rw [q]; simp [hk]
def spLaw (K : PySem.W.Frag) : Sp := fun vs H Q _ => ∃ (a : Addr) (ns : List Int), vs = [.ref a] ∧ SqL K H a (ns.map V.int) ∧ ns.length ≤ 63 ∧ ∀ H', Q (.bl true) H'
end L2
set_option Elab.async false
set_option linter.all false
set_option maxRecDepth 100000
set_option maxHeartbeats 4000000
namespace L2
open PySem PySem.Spec PyProof.Rows
section
variable {K : PySem.W.Frag} {H : Hp} {Q : VK} {σ : St} {D : Ends} {ta tb tc te : TE} {tt tA tB' : TT} {t u : TS} {g : TG} {r : R2} {tl : TA} {v0 v1 v2 v3 v4 v5 v6 v7 v8 v9 v10 v11 : V}
  {o0 o1 o2 o3 o4 o5 o6 o7 o8 o9 o10 o11 : Option V} {rr : St}
theorem w_v0 : tVar 0 (some v0 :: rr) H Q = Q v0 H := by simp [tVar]
theorem w_v1 : tVar 1 (o0 :: some v1 :: rr) H Q = Q v1 H := by simp [tVar]
theorem w_v2 : tVar 2 (o0 :: o1 :: some v2 :: rr) H Q = Q v2 H := by simp [tVar]
theorem w_v3 : tVar 3 (o0 :: o1 :: o2 :: some v3 :: rr) H Q = Q v3 H := by simp [tVar]
theorem w_v4 : tVar 4 (o0 :: o1 :: o2 :: o3 :: some v4 :: rr) H Q = Q v4 H := by simp [tVar]
theorem w_v5 : tVar 5 (o0 :: o1 :: o2 :: o3 :: o4 :: some v5 :: rr) H Q = Q v5 H := by simp [tVar]
theorem w_v6 : tVar 6 (o0 :: o1 :: o2 :: o3 :: o4 :: o5 :: some v6 :: rr) H Q = Q v6 H := by simp [tVar]
theorem w_v7 : tVar 7 (o0 :: o1 :: o2 :: o3 :: o4 :: o5 :: o6 :: some v7 :: rr) H Q = Q v7 H := by simp [tVar]
theorem w_v8 : tVar 8 (o0 :: o1 :: o2 :: o3 :: o4 :: o5 :: o6 :: o7 :: some v8 :: rr) H Q = Q v8 H := by simp [tVar]
theorem w_v9 : tVar 9 (o0 :: o1 :: o2 :: o3 :: o4 :: o5 :: o6 :: o7 :: o8 :: some v9 :: rr) H Q = Q v9 H := by simp [tVar]
theorem w_v10 : tVar 10 (o0 :: o1 :: o2 :: o3 :: o4 :: o5 :: o6 :: o7 :: o8 :: o9 :: some v10 :: rr) H Q = Q v10 H := by simp [tVar]
theorem w_v11 : tVar 11 (o0 :: o1 :: o2 :: o3 :: o4 :: o5 :: o6 :: o7 :: o8 :: o9 :: o10 :: some v11 :: rr) H Q = Q v11 H := by simp [tVar]
theorem w_c {v : V} : tC v σ H Q = Q v H := rfl
theorem w_seq : tSeq t u D σ H = t { D with nx := u D } σ H := rfl
theorem w_ifS : tIfS tt t u D σ H = tt σ H fun b H1 => if b = true then t D σ H1 else u D σ H1 := rfl
theorem w_next : tNext D σ H = D.nx σ H := rfl
theorem w_ret : tRet te D σ H = te σ H D.rt := rfl
theorem w_drop : tDrop te D σ H = te σ H fun _ H1 => D.nx σ H1 := rfl
theorem w_asg : tAsg te g D σ H = te σ H fun x H1 => g x σ H1 D.nx := rfl
theorem w_gName {i : Nat} {x : V} {Qs : St → Hp → Prop} : gName i x σ H Qs = Qs (σ.set i (some x)) H := rfl
theorem w_op : tOp r ta tb σ H Q = ta σ H fun x H1 => tb σ H1 fun y H2 => r x y H2 Q := rfl
theorem w_un {f : V → Hp → VK → Prop} : tUn f ta σ H Q = ta σ H fun x H1 => f x H1 Q := rfl
variable {Qb : Bool → Hp → Prop} {Qs : List V → Hp → Prop}
theorem w_test : tTest te σ H Qb = te σ H fun x H' => ∃ k, x = .bl k ∧ Qb k H' := rfl
theorem w_B : tB te σ H Qb = te σ H fun x H' => ∃ k, x = .bl k ∧ Qb k H' := rfl
theorem w_bl {b : Bool} {P : Bool → Prop} : (∃ k, V.bl b = .bl k ∧ P k) = P b := by
  refine propext ⟨fun ⟨k, e, h⟩ => ?_, fun h => ⟨b, rfl, h⟩⟩
  cases e; exact h
theorem w_blA {b : Bool} {P : Bool → Prop} {P2 : Bool → Prop} : (∃ k, V.bl b = .bl k ∧ if k = true then P k else P2 k) = if b = true then P b else P2 b := w_bl
theorem w_and : tAnd tA tB' σ H Qb = tA σ H fun c H1 => if c = true then tB' σ H1 Qb else Qb false H1 := rfl
theorem w_or : tOr tA tB' σ H Qb = tA σ H fun c H1 => if c = true then Qb true H1 else tB' σ H1 Qb := rfl
theorem w_not : tNot tA σ H Qb = tA σ H fun c H1 => Qb (!c) H1 := rfl
theorem w_andV : tAndV ta tb σ H Q = ta σ H fun x H1 => ∃ c, x = .bl c ∧ if c = true then tb σ H1 Q else Q (.bl false) H1 := rfl
theorem w_if : tIf tt ta tb σ H Q = tt σ H fun c H1 => if c = true then ta σ H1 Q else tb σ H1 Q := rfl
theorem w_true : tTrue σ H Qb = Qb true H := rfl
theorem w_nil : tNil σ H Qs = Qs [] H := rfl
theorem w_cons : tCons ta tl σ H Qs = ta σ H fun x H1 => tl σ H1 fun xs H2 => Qs (x :: xs) H2 := rfl
theorem w_tup : tTup tl σ H Q = tl σ H fun xs H1 => xs.length ≤ sizeLine ∧ ∀ p, H1 p = none → Q (.ref p) (upd H1 p (.tup xs)) := rfl
theorem w_lst : tLst tl σ H Q = tl σ H fun xs H1 => xs.length ≤ sizeLine ∧ ∀ p, H1 p = none → Q (.ref p) (upd H1 p (.lst xs)) := rfl
theorem w_call {sp : Sp} {dvs : List V} {E : XK} : tCall sp dvs E tl σ H Q = tl σ H fun vs H1 => sp (vs ++ dvs) H1 Q E := rfl
theorem w_CB {f : List V → Hp → VK → Prop} : tCB f tl σ H Q = tl σ H fun vs H1 => f vs H1 Q := rfl
theorem w_BM {T : String} {f : V → List V → Hp → VK → Prop} : tBM K T f te tl σ H Q = te σ H fun x H1 => tyV K T x H1 ∧ tl σ H1 fun xs H2 => f x xs H2 Q := rfl
theorem w_ty_str {T : String} {x : Str} : tyV K T (.str x) H = (T = "str") := rfl
theorem w_ty_list {T : String} {p : Addr} (h : T = "list") : tyV K T (.ref p) H = ∃ xs, SqL K H p xs := by
  subst h
  refine propext ⟨fun h => ?_, fun h => .inl ⟨rfl, h⟩⟩
  rcases h with ⟨_, h⟩ | ⟨h, _⟩ | ⟨h, _⟩ | ⟨h, _⟩
  · exact h
  · exact absurd h (by decide)
  · exact absurd h (by decide)
  · exact absurd h (by decide)
variable {tlo thi : TO} {Qo : Option Int → Hp → Prop}
theorem w_sl {f : V → Option Int → Option Int → Hp → VK → Prop} : tSl f te tlo thi σ H Q = te σ H fun x H1 => tlo σ H1 fun l H2 => thi σ H2 fun u H3 => f x l u H3 Q := rfl
theorem w_noPart : tNoPart σ H Qo = Qo none H := rfl
theorem w_part : tPart te σ H Qo = te σ H fun x H1 => ∃ i, x = .int i ∧ Qo (some i) H1 := rfl
theorem w_int {i : Int} {P : Int → Prop} : (∃ k, V.int i = .int k ∧ P k) = P i := by
  refine propext ⟨fun ⟨k, e, h⟩ => ?_, fun h => ⟨i, rfl, h⟩⟩
  cases e; exact h
variable {i j : Int} {x y : Str} {b c : Bool} {p q : Addr} {gi : Int → Int → V} {C : Int → Int → Prop}
theorem w_rI0 : rI0 gi (.int i) (.int j) H Q = Q (gi i j) H := by
  refine propext ⟨fun ⟨_, _, e1, e2, h⟩ => ?_, fun h => ⟨i, j, rfl, rfl, h⟩⟩
  cases e1; cases e2; exact h
theorem w_rI : rI C gi (.int i) (.int j) H Q = (C i j ∧ Q (gi i j) H) := by
  refine propext ⟨fun ⟨_, _, e1, e2, h⟩ => ?_, fun h => ⟨i, j, rfl, rfl, h⟩⟩
  cases e1; cases e2; exact h
theorem w_mulI : rMulA (.int i) (.int j) H Q = (CMul i j ∧ Q (.int (i * j)) H) := by
  unfold rMulA
  rw [w_rI]
  refine propext ⟨fun h => ?_, .inl⟩
  rcases h with h | ⟨_, _, _, e, _⟩
  · exact h
  · cases e
theorem w_neI : rNe (.int i) (.int j) H Q = Q (.bl (!decide (i = j))) H := by
  refine propext ⟨fun ⟨_, h⟩ => by simpa using h, fun h => ⟨rfl, by simpa using h⟩⟩
theorem w_neS : rNe (.str x) (.str y) H Q = Q (.bl (!decide (x = y))) H := by
  refine propext ⟨fun ⟨_, h⟩ => by simpa using h, fun h => ⟨rfl, by simpa using h⟩⟩
theorem w_ltI : rLtA (.int i) (.int j) H Q = Q (.bl (decide (i < j))) H := by
  unfold rLtA
  rw [w_rI0]
  refine propext ⟨fun h => ?_, .inl⟩
  rcases h with h | ⟨_, _, e, _⟩
  · exact h
  · cases e
theorem w_inS : rInA K false (.str x) (.str y) H Q = Q (.bl (inS x y)) H := by
  refine propext ⟨fun h => ?_, fun h => .inl ⟨x, y, rfl, rfl, h⟩⟩
  rcases h with ⟨_, _, e1, e2, h⟩ | ⟨_, _, e, _⟩
  · cases e1; cases e2; exact h
  · cases e
theorem w_notinS : rInA K true (.str x) (.str y) H Q = Q (.bl (!inS x y)) H := by
  refine propext ⟨fun h => ?_, fun h => .inl ⟨x, y, rfl, rfl, h⟩⟩
  rcases h with ⟨_, _, e1, e2, h⟩ | ⟨_, _, e, _⟩
  · cases e1; cases e2; exact h
  · cases e
theorem w_inR {v : V} : rInA K false v (.ref p) H Q = ∃ xs, (SqL K H p xs ∨ SqT K H p xs) ∧ flatV v = true ∧ xs.all flatV = true ∧ Q (.bl (inV v xs)) H := by
  refine propext ⟨fun h => ?_, fun ⟨xs, h⟩ => .inr ⟨p, xs, rfl, h⟩⟩
  rcases h with ⟨_, _, _, e2, _⟩ | ⟨_, xs, e, h⟩
  · cases e2
  · cases e; exact ⟨xs, h⟩
theorem w_notinR {v : V} : rInA K true v (.ref p) H Q = ∃ xs, (SqL K H p xs ∨ SqT K H p xs) ∧ flatV v = true ∧ xs.all flatV = true ∧ Q (.bl (!inV v xs)) H := by
  refine propext ⟨fun h => ?_, fun ⟨xs, h⟩ => .inr ⟨p, xs, rfl, h⟩⟩
  rcases h with ⟨_, _, _, e2, _⟩ | ⟨_, xs, e, h⟩
  · cases e2
  · cases e; exact ⟨xs, h⟩
theorem w_ixS : rIx K (.str x) (.int i) H Q = (x.length ≤ sizeLine ∧ ∃ c, atI x.cps.toList i = some c ∧ Q (.str ⟨#[c]⟩) H) := by
  refine propext ⟨fun h => ?_, fun ⟨h1, c, h2, h3⟩ => .inr (.inr ⟨x, i, c, rfl, rfl, h1, h2, h3⟩)⟩
  rcases h with ⟨_, _, _, _, e, _⟩ | ⟨_, _, _, _, e, _⟩ | ⟨_, _, c, e1, e2, h1, h2, h3⟩
  · cases e
  · cases e
  · cases e1; cases e2; exact ⟨h1, c, h2, h3⟩
theorem w_ixR : rIx K (.ref p) (.int i) H Q = ∃ xs, (SqL K H p xs ∨ SqT K H p xs) ∧ ∃ v, atI xs i = some v ∧ Q v H := by
  refine propext ⟨fun h => ?_, fun ⟨xs, h, v, e, q⟩ => ?_⟩
  · rcases h with ⟨_, xs, _, v, e1, e2, h1, h2, h3⟩ | ⟨_, xs, _, v, e1, e2, h1, h2, h3⟩ | ⟨_, _, _, e, _⟩
    · cases e1; cases e2; exact ⟨xs, .inl h1, v, h2, h3⟩
    · cases e1; cases e2; exact ⟨xs, .inr h1, v, h2, h3⟩
    · cases e
  · rcases h with h | h
    · exact .inl ⟨p, xs, i, v, rfl, rfl, h, e, q⟩
    · exact .inr (.inl ⟨p, xs, i, v, rfl, rfl, h, e, q⟩)
theorem w_lenS : rLen K [.str x] H Q = (x.length ≤ sizeLine ∧ Q (.int x.length) H) := by
  refine propext ⟨fun ⟨_, n, e, h, q⟩ => ?_, fun ⟨h, q⟩ => ⟨_, _, rfl, ⟨h, rfl⟩, q⟩⟩
  cases e
  obtain ⟨h1, rfl⟩ := h
  exact ⟨h1, q⟩
theorem w_lenR : rLen K [.ref p] H Q = ∃ xs, (SqL K H p xs ∨ SqT K H p xs) ∧ Q (.int (xs.length : Nat)) H := by
  refine propext ⟨fun ⟨_, n, e, h, q⟩ => ?_, fun ⟨xs, h, q⟩ => ?_⟩
  · cases e
    rcases h with ⟨xs, h, rfl⟩ | ⟨xs, h, rfl⟩
    · exact ⟨xs, .inl h, q⟩
    · exact ⟨xs, .inr h, q⟩
  · rcases h with h | h
    · exact ⟨_, _, rfl, .inl ⟨xs, h, rfl⟩, q⟩
    · exact ⟨_, _, rfl, .inr ⟨xs, h, rfl⟩, q⟩
theorem w_all : rAll K [.ref p] H Q = ∃ bs : List Bool, SqL K H p (bs.map V.bl) ∧ Q (.bl (bs.all id)) H := by
  refine propext ⟨fun ⟨_, bs, e, h⟩ => ?_, fun ⟨bs, h⟩ => ⟨p, bs, rfl, h⟩⟩
  cases e; exact ⟨bs, h⟩
theorem w_join {sep : Str} : rJoin K (.str sep) [.ref p] H Q = ∃ ys : List Str, SqL K H p (ys.map V.str) ∧ (ys.map (·.length)).sum + ys.length * sep.length ≤ 16777216 ∧ Q (.str (Txt.join sep ys)) H := by
  refine propext ⟨fun ⟨_, _, ys, e1, e2, h⟩ => ?_, fun ⟨ys, h⟩ => ⟨sep, p, ys, rfl, rfl, h⟩⟩
  cases e1; cases e2; exact ⟨ys, h⟩
theorem w_intB {b : Bool} : rIntOf [.bl b] H Q = Q (.int (if b then 1 else 0)) H := by
  refine propext ⟨fun h => ?_, fun h => .inr ⟨b, rfl, h⟩⟩
  rcases h with ⟨_, e, _⟩ | ⟨_, e, h⟩
  · cases e
  · cases e; exact h
theorem w_intI : rIntOf [.int i] H Q = Q (.int i) H := by
  refine propext ⟨fun h => ?_, fun h => .inl ⟨i, rfl, h⟩⟩
  rcases h with ⟨_, e, h⟩ | ⟨_, e, _⟩
  · cases e; exact h
  · cases e
variable {R : It → Hp → Prop}
theorem w_itS : iAnyV K (.str x) H R = R (Its x) H := by
  refine propext ⟨fun h => ?_, fun h => .inl ⟨x, rfl, h⟩⟩
  rcases h with ⟨_, e, h⟩ | ⟨_, e, _⟩ | ⟨_, e, _⟩
  · cases e; exact h
  · cases e
  · cases e
theorem w_itR : iAnyV K (.ref p) H R = (((∃ xs, SqL K H p xs) ∧ R (Itl K p) H) ∨ ((∃ xs, SqT K H p xs) ∧ R (Itt K p) H)) := by
  refine propext ⟨fun h => ?_, fun h => ?_⟩
  · rcases h with ⟨_, e, _⟩ | ⟨_, e, h⟩ | ⟨_, e, h⟩
    · cases e
    · cases e; exact .inl h
    · cases e; exact .inr h
  · rcases h with h | h
    · exact .inr (.inl ⟨p, rfl, h⟩)
    · exact .inr (.inr ⟨p, rfl, h⟩)
theorem w_iAny : iAny K te σ H R = te σ H fun x H1 => iAnyV K x H1 R := rfl
theorem w_rng1 : iRng1 tl σ H R = tl σ H fun vs H1 => ∃ j : Int, vs = [.int j] ∧ -(2 ^ 62) ≤ j ∧ j < 2 ^ 62 ∧ R (Itr 0 j.toNat) H1 := rfl
theorem w_rngI {P : Int → Prop} : (∃ j : Int, [V.int i] = [.int j] ∧ P j) = P i := by
  refine propext ⟨fun ⟨_, e, h⟩ => ?_, fun h => ⟨i, rfl, h⟩⟩
  cases e; exact h
end
end L2
set_option Elab.async false
set_option linter.all false
set_option maxRecDepth 100000
set_option maxHeartbeats 4000000
namespace L2
open PySem PySem.Spec PyProof.Rows
section
variable {K : PySem.W.Frag} {H : Hp} {Q : VK} {σ : St} {D : Ends} {ta tb tc te ti to : TE} {i j : Int} {x y : Str} {p q : Addr} {v : V} {T : String} {lo hi : Option Int}
theorem w_ints2 {P : Int → Int → Prop} : (∃ i' j', [V.int i, V.int j] = [V.int i', V.int j'] ∧ P i' j') = P i j := by
  refine propext ⟨fun ⟨_, _, e, h⟩ => ?_, fun h => ⟨i, j, rfl, h⟩⟩
  cases e; exact h
theorem w_tupleOf : rTupleOf K [.ref p] H Q = ∃ ys, (SqL K H p ys ∧ ∀ l, H l = none → Q (.ref l) (upd H l (.tup ys))) ∨ (SqT K H p ys ∧ Q (.ref p) H) := by
  refine propext ⟨fun ⟨_, ys, e, h⟩ => ?_, fun ⟨ys, h⟩ => ⟨p, ys, rfl, h⟩⟩
  cases e; exact ⟨ys, h⟩
theorem w_listOf : rListOf K [.ref p] H Q = ∃ ys, (SqL K H p ys ∨ SqT K H p ys) ∧ ∀ l, H l = none → Q (.ref l) (upd H l (.lst ys)) := by
  refine propext ⟨fun ⟨_, ys, e, h⟩ => ?_, fun ⟨ys, h⟩ => ⟨p, ys, rfl, h⟩⟩
  cases e; exact ⟨ys, h⟩
theorem w_append : rAppend (.ref p) [v] H Q = ∃ xs, H p = some (.lst xs) ∧ xs.length < sizeLine ∧ Q .non (upd H p (.lst (xs ++ [v]))) := by
  refine propext ⟨fun ⟨_, xs, _, e1, e2, h⟩ => ?_, fun ⟨xs, h⟩ => ⟨p, xs, v, rfl, rfl, h⟩⟩
  cases e1; cases e2; exact ⟨xs, h⟩
theorem w_extend : rExtend (.ref p) [.ref q] H Q = ∃ xs zs, H p = some (.lst xs) ∧ H q = some (.lst zs) ∧ xs.length + zs.length ≤ sizeLine ∧ Q .non (upd H p (.lst (xs ++ zs))) := by
  refine propext ⟨fun ⟨_, _, xs, zs, e1, e2, h⟩ => ?_, fun ⟨xs, zs, h⟩ => ⟨p, q, xs, zs, rfl, rfl, h⟩⟩
  cases e1; cases e2; exact ⟨xs, zs, h⟩
theorem w_setL {Qh : Hp → Prop} : rSetL (.ref p) (.int i) v H Qh = ∃ xs j, H p = some (.lst xs) ∧ ixN xs.length i = some j ∧ Qh (upd H p (.lst (xs.set j v))) := by
  refine propext ⟨fun ⟨_, xs, _, j, e1, e2, h⟩ => ?_, fun ⟨xs, j, h⟩ => ⟨p, xs, i, j, rfl, rfl, h⟩⟩
  cases e1; cases e2; exact ⟨xs, j, h⟩
theorem w_gSub {t : TSet} {Qs : St → Hp → Prop} : gSub to ti t v σ H Qs = to σ H fun o H1 => ti σ H1 fun i H2 => t o i v H2 fun H3 => Qs σ H3 := rfl
theorem w_instInt : rInst K T [.int i, .ty T] H Q = ∃ b, PySem.W.kitOne K (.type "int") (.type T) = some b ∧ Q (.bl b) H := by
  refine propext ⟨fun ⟨_, _, b, e, t, h⟩ => ?_, fun ⟨b, h⟩ => ⟨_, _, b, rfl, .int i, h⟩⟩
  cases e; cases t; exact ⟨b, h⟩
theorem w_instStr : rInst K T [.str x, .ty T] H Q = ∃ b, PySem.W.kitOne K (.type "str") (.type T) = some b ∧ Q (.bl b) H := by
  refine propext ⟨fun ⟨_, _, b, e, t, h⟩ => ?_, fun ⟨b, h⟩ => ⟨_, _, b, rfl, .str x, h⟩⟩
  cases e; cases t; exact ⟨b, h⟩
theorem w_slR : rSlA K (.ref p) lo hi H Q = ∃ xs, (SqL K H p xs ∧ ∀ q, H q = none → Q (.ref q) (upd H q (.lst (cutV xs lo hi)))) ∨
    (SqT K H p xs ∧ ¬ (HT.sIx xs.length 0 lo = 0 ∧ HT.sIx xs.length xs.length hi = xs.length) ∧ ∀ q, H q = none → Q (.ref q) (upd H q (.tup (cutV xs lo hi)))) := by
  refine propext ⟨fun h => ?_, fun ⟨xs, h⟩ => ?_⟩
  · rcases h with ⟨_, e, _⟩ | ⟨_, xs, e, h⟩ | ⟨_, xs, e, h⟩
    · cases e
    · cases e; exact ⟨xs, .inl h⟩
    · cases e; exact ⟨xs, .inr h⟩
  · rcases h with h | h
    · exact .inr (.inl ⟨p, xs, rfl, h⟩)
    · exact .inr (.inr ⟨p, xs, rfl, h⟩)
theorem w_catR : rAddA K (.ref p) (.ref q) H Q = ∃ xs zs, (H p = some (.lst xs) ∧ H q = some (.lst zs) ∧ xs.length + zs.length ≤ sizeLine ∧ ∀ r, H r = none → Q (.ref r) (upd H r (.lst (xs ++ zs)))) ∨
    (SqT K H p xs ∧ SqT K H q zs ∧ xs ≠ [] ∧ xs.length + zs.length ≤ sizeLine ∧ (zs = [] → Q (.ref p) H) ∧ (zs ≠ [] → ∀ r, H r = none → Q (.ref r) (upd H r (.tup (xs ++ zs))))) := by
  refine propext ⟨fun h => ?_, fun ⟨xs, zs, h⟩ => ?_⟩
  · rcases h with ⟨_, _, e, _⟩ | ⟨_, _, e, _⟩ | ⟨_, _, xs, zs, e1, e2, h⟩ | ⟨_, _, xs, zs, e1, e2, h⟩
    · cases e
    · cases e
    · cases e1; cases e2; exact ⟨xs, zs, .inl h⟩
    · cases e1; cases e2; exact ⟨xs, zs, .inr h⟩
  · rcases h with h | h
    · exact .inr (.inr (.inl ⟨p, q, xs, zs, rfl, rfl, h⟩))
    · exact .inr (.inr (.inr ⟨p, q, xs, zs, rfl, rfl, h⟩))
end
theorem mtR_append {X : Cx} : MtR X "list.append" rAppend := mt_append
theorem Same.upd {H0 H : Hp} {p : Addr} {o : HO} (s : Same H0 H) (h : H0 p = none) : Same H0 (upd H p o) := fun b u q => by rw [upd_ne (ne_of_none q h)]; exact s b u q
theorem keep1 {H : Hp} {p a : Addr} {o u : HO} (hn : H p = none) (h : H a = some u) : upd H p o a = some u := by rw [upd_ne (ne_of_none h hn)]; exact h
inductive Bi where | and | or | thn
  deriving DecidableEq
inductive Stm where
  | is (w : Str) (ts : List Str) | fls | neg (A : Stm) | bi (o : Bi) (A B : Stm) | qu (q : Bool) (X : Str) (A : Stm)
  deriving DecidableEq
namespace Stm
end Stm
def smallS : Str := "abcdefghijklmnopqrstuvwxyz"
def sofS : Str := "abcdefghijklmnopqrstuvwxyz0123456789"
def keptW : List Str := ["not", "and", "or", "then", "all", "some", "false"]
def Nm (f x : Str) : Prop := ∃ c r, x.cps.toList = c :: r ∧ c ∈ f.cps.toList ∧ (∀ d ∈ r, d ∈ sofS.cps.toList) ∧ r.length ≤ 7 ∧ x ∉ keptW
def cellI (ns : List Int) (k : Int) : Int := if k < (ns.length : Int) then ns.getD k.toNat 0 else 0
def spCell (K : PySem.W.Frag) : Sp := fun vs H Q _ => ∃ (a : Addr) (ns : List Int) (k : Int), vs = [.ref a, .int k] ∧ SqL K H a (ns.map V.int) ∧ 0 ≤ k ∧ Q (.int (cellI ns k)) H
theorem len_cps (x : Str) : x.cps.toList.length = x.length := by simp [Str.length]
theorem range_ix (p q : Int) (a b : Nat) (hp : p = a) (hq : q = b) : sliceRange p q 1 = (List.range (b - a)).map fun k => a + k := by
  subst hp hq
  unfold sliceRange
  simp only [show (1 : Int) > 0 by decide, if_true]
  by_cases hab : a < b
  · rw [if_pos (by omega)]
    have e : (((b : Int) - a + 1 - 1) / 1).toNat = b - a := by omega
    rw [e]
    refine List.map_congr_left fun k _ => ?_
    omega
  · rw [if_neg (by omega), show b - a = 0 by omega]
    rfl
theorem slice_ix (lo hi : Option Int) (n : Nat) : Builtin.Str.strSliceIndices lo hi 1 n = (List.range (HT.sIx n n hi - HT.sIx n 0 lo)).map fun k => HT.sIx n 0 lo + k := by
  have cl : ∀ (v : Int) (d : Nat), max 0 (min (if v < 0 then v + (n : Int) else v) (n : Int)) = ((HT.sIx n d (some v) : Nat) : Int) := fun v d => by
    rw [← HT.clip_eq]; split <;> omega
  refine range_ix _ _ _ _ ?_ ?_
  · cases lo with
    | none => rfl
    | some v => exact cl v 0
  · cases hi with
    | none => rfl
    | some v => exact cl v n
theorem slice_cps (x : Str) (lo hi : Option Int) : (Txt.slice x lo hi).cps.toList = (x.cps.toList.drop (HT.sIx x.length 0 lo)).take (HT.sIx x.length x.length hi - HT.sIx x.length 0 lo) := by
  have hl := len_cps x
  have ha : HT.sIx x.length 0 lo ≤ x.length := HT.sIx_le _ 0 (Nat.zero_le _) lo
  have hb : HT.sIx x.length x.length hi ≤ x.length := HT.sIx_le _ _ (Nat.le_refl _) hi
  unfold Txt.slice
  rw [slice_ix]
  generalize HT.sIx x.length 0 lo = a at *
  generalize HT.sIx x.length x.length hi = b at *
  split
  · rename_i h
    simp at h
    have : a = 0 ∧ b = x.length ∨ x.length = 0 := by omega
    rcases this with ⟨rfl, rfl⟩ | h0
    · rw [List.drop_zero, Nat.sub_zero, List.take_of_length_le (by omega)]
    · have : x.cps.toList = [] := List.eq_nil_of_length_eq_zero (by omega)
      rw [this]; simp
  · by_cases hab : a ≤ b
    · have h := StrLaws.picks x.cps.toList (b - a) a (by rw [hl]; omega)
      rw [← h]
      simp only [List.toList_toArray]
      congr 1
      funext k
      simp
    · rw [show b - a = 0 by omega]; simp
theorem slice_to (x : Str) (n : Nat) : (Txt.slice x none (some (n : Int))).cps.toList = x.cps.toList.take n := by
  have hl := len_cps x
  rw [slice_cps, HT.sIx_nat, HT.sIx_none, List.drop_zero, Nat.sub_zero, ← hl, List.take_eq_take_iff]
  simp
theorem cdiv {i j : Int} (h : 0 < j := by decide) (h2 : j < 1073741824 := by decide) : CDiv i j := ⟨h, h2⟩
theorem cmulL {i j : Int} (h : -(2 ^ 64) < i ∧ i < 2 ^ 64 := by decide) : CMul i j := .inl h
theorem cmulR {i j : Int} (h : -(2 ^ 64) < j ∧ j < 2 ^ 64 := by decide) : CMul i j := .inr h
theorem atI_ints {ns : List Int} {i : Int} (h0 : 0 ≤ i) (h1 : i < (ns.length : Int)) : atI (ns.map V.int) i = some (.int (ns.getD i.toNat 0)) := by
  have hk : i.toNat < ns.length := by omega
  rw [atI_getD (d := .int 0) h0 (by simpa using h1)]
  simp [hk]
theorem pickS {ts : List Str} {i : Int} (h0 : 0 ≤ i) (h1 : i < (ts.length : Int)) : ∃ z, z ∈ ts ∧ atI (ts.map V.str) i = some (.str z) := by
  have hk : i.toNat < ts.length := by omega
  refine ⟨ts[i.toNat], List.getElem_mem hk, ?_⟩
  rw [atI_getD (d := .non) h0 (by simpa using h1)]
  simp [hk]
end L2
set_option Elab.async false
set_option linter.all false
set_option maxRecDepth 100000
set_option maxHeartbeats 4000000
namespace L2
open PySem PySem.Spec PyProof.Rows
section
variable {X : Cx} {K : PySem.W.Frag} {H : Hp} {Q : VK} {p q : Addr}
def rJoinA (K : PySem.W.Frag) : V → List V → Hp → VK → Prop := fun x vs H Q => ∃ (sep : Str) (p : Addr) (ys : List Str), x = .str sep ∧ vs = [.ref p] ∧ (SqL K H p (ys.map V.str) ∨ SqT K H p (ys.map V.str)) ∧ (ys.map (·.length)).sum + ys.length * sep.length ≤ 16777216 ∧ Q (.str (Txt.join sep ys)) H
theorem mt_joinA : MtR X "str.join" (rJoinA X.K) := by
  intro pins s σ H x vs v us Q I rx rv h
  obtain ⟨sep, p, ys, rfl, rfl, hq, hz, q⟩ := h
  rcases hq with hq | hq
  · exact mt_join pins s σ H _ _ v us Q I rx rv ⟨sep, p, ys, rfl, rfl, hq, hz, q⟩
  · obtain ⟨t, rfl⟩ := rx
    obtain ⟨u, rfl, ru⟩ := vals1 rv
    cases ru
    obtain ⟨its, r', pl, _⟩ := I.tuple hq
    exact join_tuple pl (by simpa using strsAre_of r') hz fun t' k => ⟨.str _, H, I.tok _, ⟨t', rfl⟩, q⟩
theorem mtB_join (K : PySem.W.Frag) (hK : X.K = K := by rfl) : MtR X "str.join" (rJoinA K) := hK ▸ (mt_joinA : MtR X "str.join" (rJoinA X.K))
theorem w_joinA {sep : Str} : rJoinA K (.str sep) [.ref p] H Q = ∃ ys : List Str, (SqL K H p (ys.map V.str) ∨ SqT K H p (ys.map V.str)) ∧ (ys.map (·.length)).sum + ys.length * sep.length ≤ 16777216 ∧ Q (.str (Txt.join sep ys)) H := by
  refine propext ⟨fun ⟨_, _, ys, e1, e2, h⟩ => ?_, fun ⟨ys, h⟩ => ⟨sep, p, ys, rfl, rfl, h⟩⟩
  cases e1; cases e2; exact ⟨ys, h⟩
end
inductive EqD (K : PySem.W.Frag) (H : Hp) : Nat → V → V → Bool → Prop
  | flat {n : Nat} {x y : V} (hx : flatV x = true) (hy : flatV y = true) : EqD K H n x y (eqV x y)
  | tups {n : Nat} {a b : Addr} {xs ys : List V} (e : Nat → Bool) (ha : SqT K H a xs) (hb : SqT K H b ys) (he : ∀ (j : Nat) x y, xs[j]? = some x → ys[j]? = some y → EqD K H n x y (e j)) :
      EqD K H (n + 1) (.ref a) (.ref b) ((List.range (min xs.length ys.length)).all e && xs.length == ys.length)
  | lsts {n : Nat} {a b : Addr} {xs ys : List V} (e : Nat → Bool) (ha : SqL K H a xs) (hb : SqL K H b ys) (hl : xs.length = ys.length) (he : ∀ (j : Nat) x y, xs[j]? = some x → ys[j]? = some y → EqD K H n x y (e j)) :
      EqD K H (n + 1) (.ref a) (.ref b) ((List.range xs.length).all e)
  | lstsN {n : Nat} {a b : Addr} {xs ys : List V} (ha : SqL K H a xs) (hb : SqL K H b ys) (hl : xs.length ≠ ys.length) : EqD K H (n + 1) (.ref a) (.ref b) false
  | strTup {n : Nat} {a : Addr} {x : Str} {xs : List V} (ha : SqT K H a xs) : EqD K H (n + 1) (.str x) (.ref a) false
  | tupStr {n : Nat} {a : Addr} {x : Str} {xs : List V} (ha : SqT K H a xs) : EqD K H (n + 1) (.ref a) (.str x) false
  | nonTup {n : Nat} {a : Addr} {xs : List V} (ha : SqT K H a xs) : EqD K H (n + 1) .non (.ref a) false
  | tupNon {n : Nat} {a : Addr} {xs : List V} (ha : SqT K H a xs) : EqD K H (n + 1) (.ref a) .non false
section
variable {X : Cx} {pins : List (Addr × Obj)} {σ : St} {H : Hp} {s : Shared}
theorem eqV_self {x : V} (h : flatV x = true) : eqV x x = true := by
  cases x <;> simp_all [flatV, eqV]
theorem EqD.self (I : Inv X pins σ H s) {n : Nat} {x y : V} {b : Bool} (h : EqD X.K H n x y b) : x = y → b = true := by
  induction h with
  | flat hx hy => rintro rfl; exact eqV_self hx
  | @tups n a b xs ys e ha hb he ih =>
    intro q
    cases q
    have := I.tuple_inj ha hb
    subst this
    rw [Bool.and_eq_true]
    refine ⟨List.all_eq_true.mpr fun j hj => ?_, by simp⟩
    have hj' : j < xs.length := by simpa using hj
    exact ih j xs[j] xs[j] (by simp [hj']) (by simp [hj']) rfl
  | @lsts n a b xs ys e ha hb hl he ih =>
    intro q
    cases q
    have := I.list_inj ha hb
    subst this
    refine List.all_eq_true.mpr fun j hj => ?_
    have hj' : j < xs.length := by simpa using hj
    exact ih j xs[j] xs[j] (by simp [hj']) (by simp [hj']) rfl
  | lstsN ha hb hl =>
    intro q
    cases q
    exact absurd (congrArg List.length (I.list_inj ha hb)) hl
  | strTup => intro q; cases q
  | tupStr => intro q; cases q
  | nonTup => intro q; cases q
  | tupNon => intro q; cases q
theorem getD_some {xs : List V} {its : List Value} (r : Vals xs its) {j : Nat} (h : j < its.toArray.size) : ∃ x, xs[j]? = some x ∧ RelV x its.toArray[j] := by
  have h' : j < its.length := by simpa using h
  have hx : j < xs.length := by rw [r.length]; exact h'
  obtain ⟨u, e, ru⟩ := r.get (i := j) (x := xs[j]) (by simp [hx])
  have : its[j]? = some its[j] := by simp [h']
  rw [this] at e
  cases e
  exact ⟨xs[j], by simp [hx], by simpa using ru⟩
theorem EqD.at (I : Inv X pins σ H s) {n : Nat} {x y : V} {b : Bool} (h : EqD X.K H n x y b) : ∀ {A : Around} {u v : Value}, A.units + n < cLine → RelV x u → RelV y v →
    SeqAt.EqAt A s u v b ∧ ((flatV x = false ∨ flatV y = false) → SeqAt.RcAt A s u v b) := by
  induction h with
  | flat hx hy =>
    intro A u v _ ru rv
    exact ⟨eqAt_V ru rv hx hy, fun e => by rw [hx, hy] at e; simp at e⟩
  | @tups n a b xs ys e ha hb he ih =>
    intro A u v hu ru rv
    cases ru; cases rv
    obtain ⟨its, r1, p1, _⟩ := I.tuple ha
    obtain ⟨its2, r2, p2, _⟩ := I.tuple hb
    have l1 : its.toArray.size = xs.length := by rw [List.size_toArray]; exact r1.length.symm
    have l2 : its2.toArray.size = ys.length := by rw [List.size_toArray]; exact r2.length.symm
    have rc : SeqAt.RcAt A s (.ref a) (.ref b) ((List.range (min xs.length ys.length)).all e && xs.length == ys.length) := by
      have := SeqAt.RcAt.tuples (A := A) (e := e) p1 p2 (by omega) (fun j h1 h2 => by
        obtain ⟨x, ex, rx⟩ := getD_some r1 h1
        obtain ⟨y, ey, ry⟩ := getD_some r2 h2
        exact (ih j x y ex ey (A := A.in1) (by show A.units + 1 + n < cLine; omega) rx ry).1)
      rw [l1, l2] at this
      exact this
    refine ⟨?_, fun _ => rc⟩
    by_cases hab : a = b
    · subst hab
      have := EqD.self I (.tups e ha hb he) rfl
      rw [this]
      exact SeqAt.EqAt.same _
    · exact SeqAt.EqAt.of_refs hab rc
  | @lsts n a b xs ys e ha hb hl he ih =>
    intro A u v hu ru rv
    cases ru; cases rv
    obtain ⟨its, r1, p1, _⟩ := I.list ha
    obtain ⟨its2, r2, p2, _⟩ := I.list hb
    have l1 : its.toArray.size = xs.length := by rw [List.size_toArray]; exact r1.length.symm
    have l2 : its2.toArray.size = ys.length := by rw [List.size_toArray]; exact r2.length.symm
    have rc : SeqAt.RcAt A s (.ref a) (.ref b) ((List.range xs.length).all e) := by
      have := SeqAt.RcAt.lists (A := A) (e := e) p1.isList p2.isList (by omega) (by omega) (fun j h1 h2 => by
        obtain ⟨x, ex, rx⟩ := getD_some r1 h1
        obtain ⟨y, ey, ry⟩ := getD_some r2 h2
        exact (ih j x y ex ey (A := A.in1) (by show A.units + 1 + n < cLine; omega) rx ry).1)
      rw [l1] at this
      exact this
    refine ⟨?_, fun _ => rc⟩
    by_cases hab : a = b
    · subst hab
      have := EqD.self I (.lsts e ha hb hl he) rfl
      rw [this]
      exact SeqAt.EqAt.same _
    · exact SeqAt.EqAt.of_refs hab rc
  | @lstsN n a b xs ys ha hb hl =>
    intro A u v hu ru rv
    cases ru; cases rv
    obtain ⟨its, r1, p1, _⟩ := I.list ha
    obtain ⟨its2, r2, p2, _⟩ := I.list hb
    have l1 : its.toArray.size = xs.length := by rw [List.size_toArray]; exact r1.length.symm
    have l2 : its2.toArray.size = ys.length := by rw [List.size_toArray]; exact r2.length.symm
    have rc := SeqAt.RcAt.lists_lengths (A := A) p1.isList p2.isList (by rw [l1, l2]; simpa using hl) (by omega)
    refine ⟨?_, fun _ => rc⟩
    by_cases hab : a = b
    · subst hab
      exact absurd (congrArg List.length (I.list_inj ha hb)) hl
    · exact SeqAt.EqAt.of_refs hab rc
  | strTup ha =>
    intro A u v hu ru rv
    cases rv; obtain ⟨t, rfl⟩ := ru
    obtain ⟨its, r1, p1, _⟩ := I.tuple ha
    exact ⟨SeqAt.EqAt.str_tuple _ _ p1 (by omega), fun _ => SeqAt.RcAt.str_tuple _ _ p1 (by omega)⟩
  | tupStr ha =>
    intro A u v hu ru rv
    cases ru; obtain ⟨t, rfl⟩ := rv
    obtain ⟨its, r1, p1, _⟩ := I.tuple ha
    exact ⟨SeqAt.EqAt.tuple_str _ _ p1 (by omega), fun _ => SeqAt.RcAt.tuple_str _ _ p1 (by omega)⟩
  | nonTup ha =>
    intro A u v hu ru rv
    cases rv; cases ru
    obtain ⟨its, r1, p1, _⟩ := I.tuple ha
    exact ⟨SeqAt.EqAt.none_tuple p1 (by omega), fun _ => SeqAt.RcAt.none_tuple p1 (by omega)⟩
  | tupNon ha =>
    intro A u v hu ru rv
    cases ru; cases rv
    obtain ⟨its, r1, p1, _⟩ := I.tuple ha
    exact ⟨SeqAt.EqAt.tuple_none p1 (by omega), fun _ => SeqAt.RcAt.tuple_none p1 (by omega)⟩
end
section
variable {X : Cx} {K : PySem.W.Frag} {H : Hp} {Q : VK} {p q : Addr} {i j : Int} {x y : Str}
def rEqD (K : PySem.W.Frag) : R2 := fun x y H Q => ∃ d b, d ≤ 60 ∧ (flatV x = false ∨ flatV y = false) ∧ EqD K H d x y b ∧ Q (.bl b) H
theorem op_eqD (hu : X.A.units + 64 < cLine) : OpR X (compareOp .Eq) (rEqD X.K) := by
  intro pins s σ H x y v u Q I rx ry h
  obtain ⟨d, b, hd, e, h, k⟩ := h
  exact (h.at I (A := X.A) (by omega) rx ry).2 e X.prog X.w X.xe _ ⟨.bl b, H, I, rfl, k⟩
def rEqB (K : PySem.W.Frag) : R2 := fun x y H Q => rEq x y H Q ∨ rEqD K x y H Q
theorem opB_eq (K : PySem.W.Frag) (hu : X.A.units + 64 < cLine) (hK : X.K = K := by rfl) : OpR X (compareOp .Eq) (rEqB K) := hK ▸ (OpR.or op_eq (op_eqD hu) : OpR X (compareOp .Eq) (rEqB X.K))
theorem w_eqIB : rEqB K (.int i) (.int j) H Q = Q (.bl (decide (i = j))) H := by
  refine propext ⟨fun h => ?_, fun h => .inl ⟨rfl, by simpa using h⟩⟩
  rcases h with ⟨_, h⟩ | ⟨_, _, _, e, _⟩
  · simpa using h
  · rcases e with e | e <;> cases e
theorem w_eqSB : rEqB K (.str x) (.str y) H Q = Q (.bl (decide (x = y))) H := by
  refine propext ⟨fun h => ?_, fun h => .inl ⟨rfl, by simpa using h⟩⟩
  rcases h with ⟨_, h⟩ | ⟨_, _, _, e, _⟩
  · simpa using h
  · rcases e with e | e <;> cases e
theorem w_eqR_ {u : V} : rEqB K (.ref p) u H Q = ∃ d b, d ≤ 60 ∧ EqD K H d (.ref p) u b ∧ Q (.bl b) H := by
  refine propext ⟨fun h => ?_, fun ⟨d, b, hd, h, k⟩ => .inr ⟨d, b, hd, .inl rfl, h, k⟩⟩
  rcases h with ⟨e, _⟩ | ⟨d, b, hd, _, h, k⟩
  · cases u <;> cases e
  · exact ⟨d, b, hd, h, k⟩
theorem w_eq_R {u : V} : rEqB K u (.ref p) H Q = ∃ d b, d ≤ 60 ∧ EqD K H d u (.ref p) b ∧ Q (.bl b) H := by
  refine propext ⟨fun h => ?_, fun ⟨d, b, hd, h, k⟩ => .inr ⟨d, b, hd, .inr rfl, h, k⟩⟩
  rcases h with ⟨e, _⟩ | ⟨d, b, hd, _, h, k⟩
  · cases u <;> cases e
  · exact ⟨d, b, hd, h, k⟩
inductive TyB (K : PySem.W.Frag) (H : Hp) : V → Value → Prop where
  | of {x : V} {t : Value} (h : TyOf K H x t) : TyB K H x t
  | tup {a : Addr} {xs : List V} (h : SqT K H a xs) : TyB K H (.ref a) (.type "tuple")
  | lst {a : Addr} {xs : List V} (h : SqL K H a xs) : TyB K H (.ref a) (.type "list")
def rInstB (K : PySem.W.Frag) (T : String) : List V → Hp → VK → Prop := fun vs H Q => ∃ x t b, vs = [x, .ty T] ∧ TyB K H x t ∧ PySem.W.kitOne K t (.type T) = some b ∧ Q (.bl b) H
theorem call_instB {T : String} : CallR X (.builtin "isinstance") (rInstB X.K T) := by
  intro pins s σ H xs us Q I r h
  obtain ⟨x, t, b, rfl, ty, e, q⟩ := h
  cases ty with
  | of ty => exact call_inst pins s σ H _ us Q I r ⟨x, t, b, rfl, ty, e, q⟩
  | tup hq =>
    obtain ⟨u, u2, rfl, rx, r2⟩ := vals2 r
    cases (show u2 = Value.type T from r2)
    cases rx
    obtain ⟨its, _, ⟨o, h1, h2, _⟩, _⟩ := I.tuple hq
    exact PySem.W.kia_one PySem.W.kitx_tuple I.kIn ⟨o, h1, h2⟩ e (fun z => nomatch z) fun tk => ⟨.bl b, H, I.tok tk, rfl, q⟩
  | lst hq =>
    obtain ⟨u, u2, rfl, rx, r2⟩ := vals2 r
    cases (show u2 = Value.type T from r2)
    cases rx
    obtain ⟨its, _, pl, _⟩ := I.list hq
    obtain ⟨o, h1, h2, _⟩ := pl.isList
    exact PySem.W.kia_one PySem.W.kitx_list I.kIn ⟨o, h1, h2⟩ e (fun z => nomatch z) fun tk => ⟨.bl b, H, I.tok tk, rfl, q⟩
theorem callB_inst (K : PySem.W.Frag) (T : String) (hK : X.K = K := by rfl) : CallR X (.builtin "isinstance") (rInstB K T) := hK ▸ (call_instB : CallR X (.builtin "isinstance") (rInstB X.K T))
theorem w_instIntB {T : String} : rInstB K T [.int i, .ty T] H Q = ∃ b, PySem.W.kitOne K (.type "int") (.type T) = some b ∧ Q (.bl b) H := by
  refine propext ⟨fun ⟨_, _, b, e, t, h⟩ => ?_, fun ⟨b, h⟩ => ⟨_, _, b, rfl, .of (.int i), h⟩⟩
  cases e
  rcases t with t | t | t
  cases t; exact ⟨b, h⟩
theorem w_instStrB {T : String} : rInstB K T [.str x, .ty T] H Q = ∃ b, PySem.W.kitOne K (.type "str") (.type T) = some b ∧ Q (.bl b) H := by
  refine propext ⟨fun ⟨_, _, b, e, t, h⟩ => ?_, fun ⟨b, h⟩ => ⟨_, _, b, rfl, .of (.str x), h⟩⟩
  cases e
  rcases t with t | t | t
  cases t; exact ⟨b, h⟩
theorem w_instRB {T : String} : rInstB K T [.ref p, .ty T] H Q = ∃ t b, TyB K H (.ref p) t ∧ PySem.W.kitOne K t (.type T) = some b ∧ Q (.bl b) H := by
  refine propext ⟨fun ⟨_, t, b, e, ty, h⟩ => ?_, fun ⟨t, b, ty, h⟩ => ⟨_, t, b, rfl, ty, h⟩⟩
  cases e; exact ⟨t, b, ty, h⟩
end
end L2
set_option Elab.async false
set_option linter.all false
set_option maxRecDepth 100000
set_option maxHeartbeats 4000000
namespace L2
open PySem PySem.Spec PyProof.Rows
open PySem.Builtin PySem.Builtin.Str
section
variable {X : Cx}
def rIs (f : Str → Bool) : V → List V → Hp → VK → Prop := fun x vs H Q => ∃ z, x = .str z ∧ vs = [] ∧ Q (.bl (f z)) H
def rIs2 (f : Str → Str → Bool) : V → List V → Hp → VK → Prop := fun x vs H Q => ∃ z y, x = .str z ∧ vs = [.str y] ∧ Q (.bl (f z y)) H
def rStrip : V → List V → Hp → VK → Prop := fun x vs H Q => ∃ z, x = .str z ∧ vs = [] ∧ z.length ≤ sizeLine ∧ Q (.str (Txt.strip z)) H
theorem valsSp : ∀ (l : List (Str × Tok)), Vals ((l.map (·.1)).map V.str) (strValues l)
  | [] => .nil
  | (x, t) :: r => .cons ⟨t, rfl⟩ (valsSp r)
theorem split1x {prog : Program} {w : World} {A : Around} {E : Value → Shared → Prop} {s : Shared} {x y : Str} {t u : Tok} {Q : Value → Shared → Prop} (hy : (y.length == 0) = false)
    (hq : ∀ (its : List Value) tk, Vals ((Txt.split x y).map V.str) its → Q (.ref s.heap.objs.size) { s with heap := s.heap.push { cls := .type "list", data := .seq its.toArray }, toks := tk })
    (hsz : x.length ≤ sizeLine) (hsz2 : (partsBetween x (occurrences x y 0 x.length (x.length + 1)) y.length).length ≤ sizeLine) :
    wpAny (model prog w) A (call (.builtin "str.split") [.str x t, .str y u]) Q E s := by
  cases h1 : (decide (x.length < y.length) || decide (strKind x < strKind y))
  · cases hf : (occurrences x y 0 x.length (x.length + 1)).isEmpty
    · refine call_meets F.slot_str_split (typeIs_str _ _ _) F.entry_str_split (F.args_str_split_2 _ _) (meets_str_split_sep x y t u h1 hy hf hsz hsz2) ?_
      show wants Q E _ { s with toks := _, heap := s.heap.push { cls := .type "list", data := .seq (strsFrom s.toks (partsBetween x (occurrences x y 0 x.length (x.length + 1)) y.length)).toArray } }
      rw [strsFrom_eq]
      refine hq _ _ ?_
      have e : (numbered s.toks (partsBetween x (occurrences x y 0 x.length (x.length + 1)) y.length)).map (·.1) = Txt.split x y := (numbered_texts _ _).trans ((if_neg (ne_true_of_eq_false h1)).trans (if_neg (ne_true_of_eq_false hf))).symm
      rw [← e]
      exact valsSp _
    · refine call_meets F.slot_str_split (typeIs_str _ _ _) F.entry_str_split (F.args_str_split_2 _ _) (meets_str_split_not_found x y t u h1 hy hf) ?_
      have e : [x] = Txt.split x y := ((if_neg (ne_true_of_eq_false h1)).trans (if_pos hf)).symm
      refine hq [.str x t] s.toks ?_
      rw [← e]
      exact .cons ⟨t, rfl⟩ .nil
  · refine call_meets F.slot_str_split (typeIs_str _ _ _) F.entry_str_split (F.args_str_split_2 _ _) (meets_str_split_cannot_occur x y t u h1) ?_
    have e : [x] = Txt.split x y := (if_pos h1).symm
    refine hq [.str x t] s.toks ?_
    rw [← e]
    exact .cons ⟨t, rfl⟩ .nil
def rSplit : V → List V → Hp → VK → Prop := fun x vs H Q => ∃ z y, x = .str z ∧ vs = [.str y] ∧ y ≠ Str.empty ∧ z.length ≤ 1000000 ∧ ∀ p, H p = none → Q (.ref p) (upd H p (.lst ((Txt.split z y).map V.str)))
theorem split_len (x y : Str) : (Txt.split x y).length ≤ x.length + 2 := by
  unfold Txt.split
  split
  · simp
  · split
    · simp
    · rw [length_partsBetween]
      have := StrLaws.occ_length_le x y 0 x.length (x.length + 1)
      omega
theorem mt_split : MtR X "str.split" rSplit := by
  intro pins s σ H x vs v us Q I rx rv ⟨z, y, e1, e2, hy, hz, q⟩
  subst e1 e2
  obtain ⟨t, rfl⟩ := (show ∃ t, v = Value.str z t from rx)
  obtain ⟨u, rfl, ru⟩ := vals1 rv
  obtain ⟨t', rfl⟩ := (show ∃ t, u = Value.str y t from ru)
  have hy' : (y.length == 0) = false := by
    cases e : (y.length == 0) with
    | false => rfl
    | true =>
      have h0 : y.length = 0 := by simpa using e
      have : y.cps.size = 0 := h0
      have : y.cps = #[] := Array.eq_empty_of_size_eq_zero this
      obtain ⟨c⟩ := y
      simp only at this
      subst this
      exact absurd rfl hy
  refine split1x hy' (fun its tk hv => ⟨.ref _, _, I.lnew hv (by rw [List.length_map]; have := split_len z y; rw [sizeLine_eq]; omega), rfl, q _ I.fresh⟩) (by rw [sizeLine_eq]; omega) ?_
  rw [length_partsBetween]
  have := StrLaws.occ_length_le z y 0 z.length (z.length + 1)
  rw [sizeLine_eq]
  omega
def timesS (z : Str) (n : Nat) : Str := ⟨(List.replicate n z.cps).foldl (· ++ ·) #[]⟩
theorem timesS_0 (z : Str) : timesS z 0 = Str.empty := rfl
theorem timesS_1 (z : Str) : timesS z 1 = z := by
  unfold timesS
  simp
theorem fold_empty (n : Nat) : (List.replicate n (#[] : Array Nat)).foldl (· ++ ·) #[] = #[] := by
  induction n with
  | zero => rfl
  | succ n ih => rw [List.replicate_succ, List.foldl_cons]; simpa using ih
theorem foldl_size : ∀ (l : List (Array Nat)) (acc : Array Nat), (l.foldl (· ++ ·) acc).size = acc.size + (l.map Array.size).sum
  | [], acc => by simp
  | a :: l, acc => by rw [List.foldl_cons, foldl_size l]; simp; omega
theorem timesS_len (z : Str) (n : Nat) : (timesS z n).length = n * z.length := by
  show ((List.replicate n z.cps).foldl (· ++ ·) #[]).size = n * z.cps.size
  rw [foldl_size]
  simp
def rMulS : R2 := fun x y H Q => ∃ z n, x = .str z ∧ y = .int n ∧ n < 1000 ∧ -1000 < n ∧ z.length ≤ 1000 ∧ Q (.str (timesS z n.toNat)) H
theorem op_mulS : OpR X (binaryOp .Mult) rMulS := by
  intro pins s σ H x y v u Q I rx ry ⟨z, n, e1, e2, h1, h2, hz, q⟩
  subst e1 e2
  obtain ⟨t, rfl⟩ := (show ∃ t, v = Value.str z t from rx)
  obtain ⟨t', rfl⟩ := (show ∃ t, u = Value.int n t from ry)
  have hm : z.length * n.toNat ≤ 1000000 := Nat.le_trans (Nat.mul_le_mul hz (show n.toNat ≤ 1000 by omega)) (by decide)
  refine PySem.P.mul_str (by rw [decide_eq_false (by omega), decide_eq_false (by omega)]; rfl) (fun hn _ => ?_) (fun _ _ => ?_) ?_
  · intro hgt
    have : (1000 : Int) ≤ (2 ^ 63 - 1) / n := Int.le_ediv_of_mul_le (by omega) (by omega)
    omega
  · unfold tooLong sizeLine
    exact decide_eq_false (by omega)
  · by_cases hn : n < 1
    · rw [if_pos hn]
      have e : n.toNat = 0 := by omega
      rw [e, timesS_0] at q
      exact ⟨by decide, .str _, H, I.tok _, ⟨_, rfl⟩, q⟩
    · rw [if_neg hn]
      by_cases h3 : (n == 1 || z.length == 0) = true
      · rw [if_pos h3]
        have e : timesS z n.toNat = z := by
          rcases Bool.or_eq_true_iff.mp h3 with e | e
          · have : n = 1 := by simpa using e
            subst this
            exact timesS_1 z
          · have h0 : z.length = 0 := by simpa using e
            have : z.cps = #[] := Array.eq_empty_of_size_eq_zero h0
            obtain ⟨c⟩ := z
            simp only at this
            subst this
            unfold timesS
            rw [fold_empty]
        rw [e] at q
        exact ⟨.str _, H, I, ⟨_, rfl⟩, q⟩
      · rw [if_neg h3]
        refine ⟨?_, .str _, H, I.tok _, ⟨_, rfl⟩, q⟩
        have := timesS_len z n.toNat
        show (timesS z n.toNat).length ≤ sizeLine
        rw [this, sizeLine_eq, Nat.mul_comm]
        omega
end
section
variable {K : PySem.W.Frag} {H : Hp} {Q : VK} {x y : Str} {f : Str → Bool} {g : Str → Str → Bool}
theorem w_mulS {n : Int} : rMulS (.str x) (.int n) H Q = (n < 1000 ∧ -1000 < n ∧ x.length ≤ 1000 ∧ Q (.str (timesS x n.toNat)) H) := propext ⟨fun ⟨_, _, e, e', h⟩ => by cases e; cases e'; exact h, fun h => ⟨x, n, rfl, rfl, h⟩⟩
theorem w_is : rIs f (.str x) [] H Q = Q (.bl (f x)) H := propext ⟨fun ⟨_, e, _, h⟩ => by cases e; exact h, fun h => ⟨x, rfl, rfl, h⟩⟩
theorem w_is2 : rIs2 g (.str x) [.str y] H Q = Q (.bl (g x y)) H := propext ⟨fun ⟨_, _, e, e', h⟩ => by cases e; cases e'; exact h, fun h => ⟨x, y, rfl, rfl, h⟩⟩
theorem w_strip : rStrip (.str x) [] H Q = (x.length ≤ sizeLine ∧ Q (.str (Txt.strip x)) H) := propext ⟨fun ⟨_, e, _, h⟩ => by cases e; exact h, fun h => ⟨x, rfl, rfl, h⟩⟩
theorem w_split : rSplit (.str x) [.str y] H Q = (y ≠ Str.empty ∧ x.length ≤ 1000000 ∧ ∀ p, H p = none → Q (.ref p) (upd H p (.lst ((Txt.split x y).map V.str)))) := propext ⟨fun ⟨_, _, e, e', h⟩ => by cases e; cases e'; exact h, fun h => ⟨x, y, rfl, rfl, h⟩⟩
end
end L2
namespace L2
open PySem PySem.Spec PyProof.Rows
section
variable {X : Cx} {o : Expr} {name : Str} {to : TE} {T iid : String} {r : V → List V → Hp → VK → Prop} {apos cpos : Pos}
theorem pe_bmA0 (K : PySem.W.Frag) (pa : PlainAttrs T) (slot : Slot T name iid) (hty : typeOf (.builtin iid) = pure (.type "method_descriptor")) (hm : MtR X iid r) (ho : PE X o to) (hK : X.K = K := by rfl)
    (hbase : attributeBase o name X.env (eval o X.env) = eval o X.env := by rfl) (hline : (apos.endLine == cpos.line) = true := by rfl) : PE X (.Call (.Attribute o name apos) [] [] cpos) (tBM0 K T r to) := hK ▸ pe_bm0 pa slot hty hm ho hbase hline
theorem w_BM0 {K : PySem.W.Frag} {σ : St} {H : Hp} {Q : VK} : tBM0 K T r to σ H Q = to σ H fun x H1 => tyV K T x H1 ∧ r x [] H1 Q := rfl
end
end L2
set_option Elab.async false
set_option linter.all false
set_option maxRecDepth 100000
set_option maxHeartbeats 4000000
namespace L2
open PySem PySem.Spec PyProof.Rows
section
variable {X : Cx} {pins : List (Addr × Obj)} {σ : St} {H : Hp} {s : Shared}
end
end L2
namespace L2
open PySem PySem.Spec PyProof.Rows
section
variable {X : Cx}
end
end L2
set_option Elab.async false
set_option linter.all false
set_option maxRecDepth 100000
set_option maxHeartbeats 4000000
namespace L2
open PySem PySem.Spec PyProof.Rows
def Air (h : Heap) (e C : Addr) (fl : Option Value) (l : List Addr) : Prop :=
  ∃ oe vs a0, h.get? e = some oe ∧ oe.cls = .ref C ∧ oe.data = .fields vs ∧ vs[0]? = some a0 ∧
    match fl with
    | none => l = [e] ∧ vs[1]? = some .none
    | some f => ∃ T oT ts, l = [e, T] ∧ vs[1]? = some (.ref T) ∧ T ≠ e ∧ h.get? T = some oT ∧ oT.data = .fields ts ∧ ts[3]? = some f
theorem Air.flds {h : Heap} {e C : Addr} {fl : Option Value} {l : List Addr} (a : Air h e C fl l) : ∀ b ∈ l, ∃ o vs, h.get? b = some o ∧ o.data = .fields vs := by
  intro b hb
  obtain ⟨oe, vs, a0, h1, h2, h3, h4, h5⟩ := a
  cases fl with
  | none =>
    obtain ⟨rfl, _⟩ := h5
    obtain rfl := List.mem_singleton.mp hb
    exact ⟨oe, vs, h1, h3⟩
  | some f =>
    obtain ⟨T, oT, ts, rfl, q1, q2, q3, q4, q5⟩ := h5
    rcases List.mem_cons.mp hb with rfl | hb
    · exact ⟨oe, vs, h1, h3⟩
    · obtain rfl := List.mem_singleton.mp hb
      exact ⟨oT, ts, q3, q4⟩
theorem Air.first {h : Heap} {e C : Addr} {fl : Option Value} {l : List Addr} (a : Air h e C fl l) : e ∈ l := by
  obtain ⟨oe, vs, a0, h1, h2, h3, h4, h5⟩ := a
  cases fl with
  | none => obtain ⟨rfl, _⟩ := h5; exact List.mem_singleton.mpr rfl
  | some f => obtain ⟨T, oT, ts, rfl, _⟩ := h5; exact List.mem_cons_self ..
theorem ObjOk.there {P : Program} {w : World} {H : Hp} {h : Heap} {a : Addr} {o : HO} (x : ObjOk P w H h a o) : ∃ ob, h.get? a = some ob := by
  cases o with
  | lst xs => obtain ⟨_, _, _, _, e⟩ := x; exact ⟨_, e⟩
  | tup xs => obtain ⟨_, _, _, p⟩ := x; obtain ⟨o, e, _⟩ := p; exact ⟨_, e⟩
  | dK kvs => obtain ⟨_, _, _, _, o, _, _, e, _⟩ := x; exact ⟨_, e⟩
  | dT kvs => obtain ⟨_, _, _, _, o, _, _, e, _⟩ := x; exact ⟨_, e⟩
  | set S n => obtain ⟨o, _, _, _, e, _⟩ := x; exact ⟨_, e⟩
  | ins C dx fs => obtain ⟨_, _, _, e, _⟩ := x; exact ⟨_, e⟩
  | own y => obtain ⟨_, e⟩ := x; exact ⟨_, e⟩
  | xd fs => obtain ⟨_, ⟨_, _, _, e, _⟩, _⟩ := x; exact ⟨_, e⟩
  | rng lo hi => obtain ⟨_, _, _, e⟩ := x; exact ⟨_, e⟩
  | frz ob u => obtain ⟨e, _⟩ := x; exact ⟨_, e⟩
  | tbl ps => exact ⟨_, (show h.get? a = some _ from x)⟩
  | met f y => exact ⟨_, (show h.get? a = some _ from x)⟩
  | ext φ => obtain ⟨_, ⟨_, e⟩, _⟩ := x; exact ⟨_, e⟩
structure Fnc (X : Cx) : Prop where
  stk : X.stack = X.env :: X.outer
  fr : X.env.frame = some X.env.locals
  ex : X.ex = []
theorem fnc_of {CX : CXT} {P : Program} {w : World} {K : PySem.W.Frag} {mg : Str → Option Value} {base : Heap} {N : List Str} {qual : Str} {scope : Scope} {f : Addr} {cd : Value} {A : Around} {outer : List Env} {s : Shared} {H : Hp} {E : XK} :
    Fnc (cxOf CX P w K mg base N qual scope f cd A outer s H E) := ⟨rfl, rfl, rfl⟩
theorem Fnc.wish {X : Cx} (F : Fnc X) (E : Value → Shared → Prop) : Fnc (X.wish E) := ⟨F.stk, F.fr, F.ex⟩
theorem rebase {h b b' : Heap} {l : List Env} (x : h.FunFrames b l) (n : ∀ a ∈ frs l, b'.get? a = none) : h.FunFrames b' l := by
  induction l with
  | nil => trivial
  | cons env rest ih =>
    obtain ⟨hk, ⟨L, o, hf, hn, ho, hd⟩, hr⟩ := x
    refine ⟨hk, ⟨L, o, hf, n L (by unfold frs; rw [List.filterMap_cons, hf]; exact List.mem_cons_self ..), ho, hd⟩, ih hr fun a ha => n a ?_⟩
    unfold frs at ha ⊢
    rw [List.filterMap_cons, hf]
    exact List.mem_cons_of_mem _ ha
def bsOf (X : Cx) (h : Heap) (l : List Addr) : Heap := PySem.W.hideAll h (l ++ frs X.stack)
section
variable {X : Cx} {σ : St} {H : Hp} {s : Shared} {l : List Addr} {e C : Addr} {fl : Option Value}
theorem bs_stay : (bsOf X s.heap l).StaysIn s.heap := fun b o e => PySem.W.of_hideAll _ e
theorem bs_none {b : Addr} (h : b ∈ l) : (bsOf X s.heap l).get? b = none := PySem.W.hideAll_none _ (List.mem_append_left _ h)
theorem bs_get {b : Addr} {o : Obj} (h : s.heap.get? b = some o) (n : b ∉ l) (n' : b ∉ frs X.stack) : (bsOf X s.heap l).get? b = some o :=
  PySem.W.hideAll_get _ h fun z => (List.mem_append.mp z).elim n n'
theorem bs_fun (I : Inv X [] σ H s) : s.heap.FunFrames (bsOf X s.heap l) X.stack := rebase I.stack fun a ha => PySem.W.hideAll_none _ (List.mem_append_right _ ha)
theorem land (F : Fnc X) (I : Inv X [] σ H s) (hl : ∀ b ∈ l, X.s₀.heap.get? b = none ∧ H b = none ∧ ∀ p ∈ X.pn, p.1 ≠ b) (hf : ∀ b ∈ l, ∃ o vs, s.heap.get? b = some o ∧ o.data = .fields vs) {h' : Heap}
    (st : (bsOf X s.heap l).StaysIn h') (up : s.heap.UpToSlots h') : Inv X [] σ H { s with heap := h' } := by
  have frD : ∀ b ∈ frs X.stack, ∃ o, s.heap.get? b = some o ∧ ∀ vs, o.data ≠ .fields vs := fun b hb => (I.stack.mem hb).2
  have nin : ∀ b ∈ l, b ∉ frs X.stack := fun b hb hz => by
    obtain ⟨o, vs, h1, h2⟩ := hf b hb
    obtain ⟨o', h1', h2'⟩ := frD b hz
    rw [h1] at h1'; cases h1'
    exact h2' vs h2
  have keep : ∀ b o, s.heap.get? b = some o → b ∉ l → b ∉ frs X.stack → h'.get? b = some o := fun b o q n n' => st b o (bs_get q n n')
  have any : ∀ b o, s.heap.get? b = some o → b ∉ l → ∃ sl, h'.get? b = some { o with slots := sl } := fun b o q n => by
    by_cases hb : b ∈ frs X.stack
    · obtain ⟨o', h1, h2⟩ := frD b hb
      rw [q] at h1; cases h1
      exact up b o q h2
    · exact ⟨o.slots, keep b o q n hb⟩
  have s0l : ∀ b o, X.s₀.heap.get? b = some o → b ∉ l := fun b o q z => by rw [(hl b z).1] at q; cases q
  have nex : ∀ b, b ∉ X.ex := fun b => by rw [F.ex]; simp
  have subf : ∀ b o, X.s₀.heap.get? b = some o → b ∉ X.fs → b ∉ frs X.stack := fun b o q n z => by
    rcases List.mem_cons.mp (I.stkSub b z) with e | e
    · exact absurd (Nat.lt_of_lt_of_le (Heap.lt_size q) I.ok.above) (by rw [← e]; exact Nat.lt_irrefl _)
    · exact n e
  have nL : X.env.locals ∉ l := fun z => by
    obtain ⟨o, vs, h1, h2⟩ := hf _ z
    obtain ⟨m, ⟨o', es, ep, h1', h2', _⟩, _⟩ := I.loc
    rw [h1] at h1'; cases h1'
    rw [h2] at h2'; cases h2'
  have nC : ∀ x c, X.env.cells.lookup x = some c → c ∉ l := fun x c q z => by
    obtain ⟨o, vs, h1, h2⟩ := hf _ z
    obtain ⟨v, o', h1', h2'⟩ := I.cell x c q
    rw [h1] at h1'; cases h1'
    rw [h2] at h2'; cases h2'
  have cellK : ∀ x c, X.env.cells.lookup x = some c → ∀ v, s.heap.IsCell c v → h'.IsCell c v := fun x c q v ⟨o, ho, hd⟩ => by
    obtain ⟨sl, k⟩ := any c o ho (nC x c q)
    exact ⟨_, k, hd⟩
  refine ⟨I.ok, I.os, I.bare, ⟨fun b o q n hb hx => ?_, fun b o q n hb hx => ?_, fun b o q n hx => I.base.free b o q n hx, fun b o q hx => ?_, I.base.tups, I.base.frzs, I.base.tbls⟩, ?_, fun x c q => ?_, I.free, I.freeC, fun p hp => ?_, ?_, I.len⟩
  · exact keep b o (I.base.keep b o q n hb hx) (s0l b o q) (subf b o q hb)
  · obtain ⟨sl, k⟩ := I.base.slot b o q n hb hx
    obtain ⟨sl', k'⟩ := any b _ k (s0l b o q)
    exact ⟨sl', k'⟩
  · obtain ⟨o', k⟩ := I.base.there b o q hx
    obtain ⟨sl', k'⟩ := any b _ k (s0l b o q)
    exact ⟨_, k'⟩
  · obtain ⟨m, ⟨o, es, ep, ho, hd, r⟩, hlk⟩ := I.loc
    obtain ⟨sl, k⟩ := any _ o ho nL
    refine ⟨m, ⟨_, es, ep, k, hd, r⟩, fun i x v e1 e2 e3 => ?_⟩
    obtain ⟨u, r, lk⟩ := hlk i x v e1 e2 e3
    refine ⟨u, r, ?_⟩
    rcases lk with lk | ⟨k, c, e, z⟩
    · exact .inl lk
    · exact .inr ⟨k, c, e, cellK x c e _ z⟩
  · obtain ⟨v, z⟩ := I.cell x c q
    exact ⟨v, cellK x c q v z⟩
  · obtain ⟨e1, n, ne, nf, d⟩ := I.pin p hp
    refine ⟨keep p.1 p.2 e1 (fun z => (hl p.1 z).2.2 p (by simpa using hp) rfl) fun z => ?_, n, ne, nf, d⟩
    rcases List.mem_cons.mp (I.stkSub p.1 z) with q | q
    · exact ne q
    · exact nf q
  · refine fun a o q => (I.hok a o q).stay (fun b u hb k => ?_) (fun _ q => q) fun _ _ q => q
    have hb' : H b ≠ none := by
      rcases hb with z | z
      · rw [z, q]; simp
      · rw [z]; simp
    exact keep b u k (fun z => hb' (hl b z).2.1) fun z => hb' (I.stkFree b z)
theorem land_tr (F : Fnc X) (I : Inv X [] σ H s) (hl : ∀ b ∈ l, X.s₀.heap.get? b = none ∧ H b = none ∧ ∀ p ∈ X.pn, p.1 ≠ b) (hel : e ∈ l) {h' : Heap} {a0 f : Value}
    (fn : h'.FunFrames (bsOf X s.heap l) X.stack) (ht : h'.TracedAtW (bsOf X s.heap l) e (.ref C) a0 f) :
    ∃ l', Air h' e C (some f) l' ∧ ∀ b ∈ l', X.s₀.heap.get? b = none ∧ H b = none ∧ ∀ p ∈ X.pn, p.1 ≠ b := by
  obtain ⟨oe, vs, T, oT, ts, he, ⟨hc, h0⟩, hd, h1, hnT, hTe, hT, hdT, h3⟩ := ht
  have nfr : T ∉ frs X.stack := fun z => by
    obtain ⟨_, o, q1, q2⟩ := fn.mem z
    rw [hT] at q1; cases q1
    exact q2 ts hdT
  have tfree : ∀ o, s.heap.get? T = some o → T ∈ l := fun o q => by
    refine Classical.byContradiction fun n => ?_
    rw [bs_get q n nfr] at hnT; cases hnT
  refine ⟨[e, T], ⟨oe, vs, a0, he, hc, hd, h0, T, oT, ts, rfl, h1, hTe, hT, hdT, h3⟩, fun b hb => ?_⟩
  rcases List.mem_cons.mp hb with rfl | hb
  · exact hl _ hel
  · obtain rfl := List.mem_singleton.mp hb
    refine ⟨?_, ?_, fun p hp z => ?_⟩
    · cases q : X.s₀.heap.get? b with
      | none => rfl
      | some o =>
        obtain ⟨o', k⟩ := I.base.there b o q (by rw [F.ex]; simp)
        have := (hl b (tfree o' k)).1
        rw [q] at this; cases this
    · cases q : H b with
      | none => rfl
      | some o =>
        obtain ⟨o', k⟩ := (I.hok b o q).there
        have := (hl b (tfree o' k)).2.1
        rw [q] at this; cases this
    · obtain ⟨e1, _⟩ := I.pin p (by simpa using hp)
      rw [z] at e1
      exact (hl b (tfree _ e1)).2.2 p hp z
end
def XG (X : Cx) (G : Addr → St → Hp → Prop) (fl : Option Value) (u : Value) (s : Shared) : Prop :=
  ∃ e C l σ H, u = .ref e ∧ Inv X [] σ H s ∧ Air s.heap e C fl l ∧ (∀ b ∈ l, X.s₀.heap.get? b = none ∧ H b = none ∧ ∀ p ∈ X.pn, p.1 ≠ b) ∧ G C σ H
def XF (X : Cx) (G : Addr → St → Hp → Prop) (u : Value) (s : Shared) : Prop :=
  ∃ fl, (fl = none ∨ fl = some .none ∨ fl = some (rawInt X.env.locals)) ∧ XG X G fl u s
section
variable {X : Cx} {G : Addr → St → Hp → Prop} {u : Value} {s : Shared}
theorem frames_of (F : Fnc X) {σ : St} {H : Hp} {pins : List (Addr × Obj)} (I : Inv X pins σ H s) : X.A.frames = some (X.env :: X.outer) := by rw [← F.stk]; exact I.ok.frames
theorem XF.note (F : Fnc X) {M : Model} {E : Value → Shared → Prop} {Q : Unit → Shared → Prop} (x : XF X G u s) (h : ∀ s', XG X G (some (rawInt X.env.locals)) u s' → Q () s') : wpAny M X.A (noteFrame u X.env) Q E s := by
  obtain ⟨fl, hfl, e, C, l, σ, H, rfl, I, a, hl, g⟩ := x
  have a' := a
  obtain ⟨oe, vs, a0, h1, h2, h3, h4, h5⟩ := a
  have fr := frames_of F I
  have fn : s.heap.FunFrames (bsOf X s.heap l) (X.env :: X.outer) := by rw [← F.stk]; exact bs_fun I
  have hen : (bsOf X s.heap l).get? e = none := bs_none a'.first
  have fin : ∀ h', Heap.NotedW (bsOf X s.heap l) (X.env :: X.outer) e (.ref C) a0 (rawInt X.env.locals) s.heap h' → Q () { s with heap := h' } := fun h' ⟨k1, k2, k3, k4⟩ => by
    rw [← F.stk] at k2
    obtain ⟨l', b1, b2⟩ := land_tr F I hl a'.first k2 k3
    exact h _ ⟨e, C, l', σ, H, rfl, land F I hl a'.flds k1 k4, b1, b2, g⟩
  rcases hfl with rfl | rfl | rfl
  · obtain ⟨rfl, h5⟩ := h5
    unfold noteFrame
    simp only [F.fr]
    refine wpAny_bind (wpAny_field h1 h3 h5 ?_)
    rw [if_neg (by decide)]
    rw [← h2] at fin
    exact wpAny_entryW fr fn F.fr h1 bs_stay hen h3 (Array.getElem?_eq_some_iff.mp h5).1 h4 fin
  · obtain ⟨T, oT, ts, rfl, q1, q2, q3, q4, q5⟩ := h5
    exact wpAny_noteFrame_onW fr fn F.fr ⟨oe, vs, T, oT, ts, h1, ⟨h2, h4⟩, h3, q1, bs_none (by simp), q2, q3, q4, q5⟩ bs_stay hen fin
  · obtain ⟨T, oT, ts, rfl, q1, q2, q3, q4, q5⟩ := h5
    refine wpAny_noteFrame_againW (base := bsOf X s.heap [e, T]) (a0 := a0) (cls := .ref C) F.fr ⟨oe, vs, T, oT, ts, h1, ⟨h2, h4⟩, h3, q1, bs_none (by simp), q2, q3, q4, q5⟩ ?_
    exact h _ ⟨e, C, _, σ, H, rfl, I, a', hl, g⟩
theorem XG.off (F : Fnc X) {M : Model} {A : Around} {E : Value → Shared → Prop} {Q : Unit → Shared → Prop} {f : Value} (x : XG X G (some f) u s) (h : ∀ s', XG X G (some .none) u s' → Q () s') : wpAny M A (setFlight u none) Q E s := by
  obtain ⟨e, C, l, σ, H, rfl, I, a, hl, g⟩ := x
  have a' := a
  obtain ⟨oe, vs, a0, h1, h2, h3, h4, h5⟩ := a
  obtain ⟨T, oT, ts, rfl, q1, q2, q3, q4, q5⟩ := h5
  have fn : s.heap.FunFrames (bsOf X s.heap [e, T]) X.stack := bs_fun I
  refine wpAny_setFlight_noneW (base := bsOf X s.heap [e, T]) (l := X.stack) (a0 := a0) (cls := .ref C) (fl := f) bs_stay fn ⟨oe, vs, T, oT, ts, h1, ⟨h2, h4⟩, h3, q1, bs_none (by simp), q2, q3, q4, q5⟩ fun h' k1 k2 k3 k4 => ?_
  obtain ⟨l', b1, b2⟩ := land_tr F I hl a'.first k2 k3.at
  exact h _ ⟨e, C, l', σ, H, rfl, land F I hl a'.flds k1 (fun b o q n => ⟨o.slots, k4 b o q n⟩), b1, b2, g⟩
end
def Out (X : Cx) (G : Addr → St → Hp → Prop) : Prop := ∀ u s, XF X G u s → X.xe u s
def xnames : List Str := ["__init__", "__getattribute__", "__getattr__", "__class__"]
inductive TailX (h : Heap) (bmB : List Value) : List Value → Prop
  | base : TailX h bmB bmB
  | own {A : Addr} {c0 : Value} {dd : Option Addr} {cd : ClassData} {sl : Array (Option Value)} {mA : Str → Option Value} {tl : List Value} :
      h.get? A = some { cls := c0, dict := dd, data := .cls cd, slots := sl } → h.Ns cd.ns mA → (∀ n ∈ xnames, mA n = none) → TailX h bmB tl → TailX h bmB (.ref A :: tl)
def XCls (K : PySem.W.Frag) (mg : Str → Option Value) (x : Str) (C : Addr) (ch : List Addr) (bm : List Value) (newId : String) : Prop := mg x = some (.ref C) ∧ ∀ h : Heap, K.In h →
  ∃ N nm q bs hdct sn sub ab col dd k0 k1 k2 k3 k5 mN, h.get? C = some (excClassObj nm q C N bs (ch.map Value.ref ++ bm) hdct sn sub ab col dd k0 k1 k2 k3 k5 newId) ∧ h.Ns N mN ∧ (∀ n ∈ xnames, mN n = none) ∧ TailX h bm (ch.map Value.ref ++ bm)
section
variable {X : Cx} {G : Addr → St → Hp → Prop}
end
section
variable {X : Cx} {G : Addr → St → Hp → Prop} {k : Nat} {f : Addr} {fd : FuncData} {ps : List Str} {sp : Sp} {dvs : List V} {ds : List Value} {x : Str} {p pos : Pos} {e : Expr} {es : List Expr} {t : TA}
end
end L2
namespace L2
open PySem PySem.Spec PyProof.Rows
abbrev Cx.at (X : Cx) (pins : List (Addr × Obj)) (E : Value → Shared → Prop) : Cx := { X with pn := X.pn ++ pins, xe := E }
abbrev Cx.sui (X : Cx) (pins : List (Addr × Obj)) (e : Addr) : Cx := { X with pn := X.pn ++ pins, A := X.A.mark (some (.ref e)), calm := false, xe := fun _ _ => False }
section
variable {X : Cx} {pins : List (Addr × Obj)} {σ : St} {H : Hp} {s : Shared} {E : Value → Shared → Prop} {e : Addr}
theorem Cx.Ok.at (ok : X.Ok) : (X.at pins E).Ok :=
  ⟨ok.mod, ok.kind, ok.glob, ok.blt, ok.above, ok.inj, ok.has, ok.cab, ok.hd, ok.frames, ok.stk, ok.exf, ok.bs, ok.bsz, ok.noex, ok.exfs, ok.funs, ok.frf⟩
theorem Cx.Ok.unat (ok : (X.at pins E).Ok) : X.Ok :=
  ⟨ok.mod, ok.kind, ok.glob, ok.blt, ok.above, ok.inj, ok.has, ok.cab, ok.hd, ok.frames, ok.stk, ok.exf, ok.bs, ok.bsz, ok.noex, ok.exfs, ok.funs, ok.frf⟩
theorem Cx.Ok.sui (ok : X.Ok) : (X.sui pins e).Ok :=
  ⟨ok.mod, ok.kind, ok.glob, ok.blt, ok.above, ok.inj, ok.has, ok.cab, (fun z => nomatch z), ok.frames, ok.stk, ok.exf, ok.bs, ok.bsz, ok.noex, ok.exfs, ok.funs, ok.frf⟩
theorem Inv.at (I : Inv X pins σ H s) (E : Value → Shared → Prop) : Inv (X.at pins E) [] σ H s := ⟨I.ok.at, I.os, I.bare, I.base, I.loc, I.cell, I.free, I.freeC, fun p hp => I.pin p (by simpa using hp), I.hok, I.len⟩
theorem Inv.unat (I : Inv (X.at pins E) [] σ H s) : Inv X pins σ H s := ⟨I.ok.unat, I.os, I.bare, I.base, I.loc, I.cell, I.free, I.freeC, fun p hp => I.pin p (by simpa using hp), I.hok, I.len⟩
theorem Inv.sui (I : Inv X pins σ H s) (e : Addr) : Inv (X.sui pins e) [] σ H s := ⟨I.ok.sui, I.os, I.bare, I.base, I.loc, I.cell, I.free, I.freeC, fun p hp => I.pin p (by simpa using hp), I.hok, I.len⟩
theorem Inv.unsui (ok : X.Ok) (I : Inv (X.sui pins e) [] σ H s) : Inv X pins σ H s := ⟨ok, I.os, I.bare, I.base, I.loc, I.cell, I.free, I.freeC, fun p hp => I.pin p (by simpa using hp), I.hok, I.len⟩
theorem SP.unat {D : Ends} {f : Flow} {s' : Shared} (h : SP (X.at pins E) [] D f s') : SP X pins D f s' := by
  cases f with
  | next => obtain ⟨σ', H', I, q⟩ := h; exact ⟨σ', H', I.unat, q⟩
  | brk => obtain ⟨σ', H', I, q⟩ := h; exact ⟨σ', H', I.unat, q⟩
  | cont => obtain ⟨σ', H', I, q⟩ := h; exact ⟨σ', H', I.unat, q⟩
  | ret u => obtain ⟨v, σ', H', I, r, q⟩ := h; exact ⟨v, σ', H', I.unat, r, q⟩
end
def Apart (X : Cx) (pins : List (Addr × Obj)) (H : Hp) (l : List Addr) : Prop := ∀ b ∈ l, X.s₀.heap.get? b = none ∧ H b = none ∧ ∀ p ∈ X.pn ++ pins, p.1 ≠ b
def PH (X : Cx) (hs : List ExceptHandler) (th : Addr → TS) : Prop :=
  ∀ (pins : List (Addr × Obj)) (s : Shared) (σ : St) (H : Hp) (D : Ends) (e C : Addr) (l : List Addr), Inv X pins σ H s → Air s.heap e C (some .none) l → Apart X pins H l → th C D σ H →
    wpAny (model X.prog X.w) X.A (handleBy (.ref e) X.env hs) (SP X pins D) X.xe s
def tTry (tb : (Addr → St → Hp → Prop) → TS) (th : Addr → TS) (te : TS) : TS := fun D σ H => ∃ G : Addr → St → Hp → Prop, tb G { D with nx := te D } σ H ∧ ∀ C σ' H', G C σ' H' → th C D σ' H'
theorem ps_try {X : Cx} {body orelse : List Stmt} {h₀ : ExceptHandler} {hs : List ExceptHandler} {pos : Pos} {tb : (Addr → St → Hp → Prop) → TS} {th : Addr → TS} {te : TS} (F : Fnc X)
    (hb : ∀ G pins E, Fnc (X.at pins E) → Out (X.at pins E) G → PassesOwn (model X.prog X.w) X.A X.env E → PSs (X.at pins E) body (tb G)) (hh : PH X (h₀ :: hs) th) (he : PSs X orelse te) :
    PS X (.Try body (h₀ :: hs) orelse [] pos) (tTry tb th te) := by
  intro pins s σ H D I ⟨G, h1, h2⟩
  refine wpAny_Try_except ?_
  have F' : ∀ E, Fnc (X.at pins E) := fun E => ⟨F.stk, F.fr, F.ex⟩
  refine wpAny_mono (hb G pins (fun u s₁ => wpAny (model X.prog X.w) X.A (noteFrame u X.env) (fun _ s₂ => wpAny (model X.prog X.w) X.A (setFlight u none) (fun _ s₃ => wpAny (model X.prog X.w) X.A (handleBy u X.env (h₀ :: hs)) (SP X pins D) X.xe s₃) X.xe s₂) X.xe s₁) (F' _) ?_ ?_ [] s σ H { D with nx := te D } (I.at _) h1) (fun f s₁ hs => ?_) fun _ _ y => y
  · intro u s₁ x
    refine XF.note (X := X.at pins _) (F' _) x fun s2 x2 => ?_
    refine XG.off (X := X.at pins _) (F' _) x2 fun s3 x3 => ?_
    obtain ⟨e, C, l, σ', H', rfl, J, a, hl, g⟩ := x3
    exact hh pins s3 σ' H' D e C l J.unat a (fun b hb => hl b hb) (h2 C σ' H' g)
  · exact PassesOwn.looking (K := fun u s₂ => wpAny (model X.prog X.w) X.A (setFlight u none) (fun _ s₃ => wpAny (model X.prog X.w) X.A (handleBy u X.env (h₀ :: hs)) (SP X pins D) X.xe s₃) X.xe s₂)
  · cases f with
    | next =>
      obtain ⟨σ', H', J, q⟩ := hs
      exact he pins s₁ σ' H' D J.unat q
    | brk => exact SP.unat hs
    | cont => exact SP.unat hs
    | ret u => exact SP.unat hs
def SubX (K : PySem.W.Frag) (C D : Addr) (b : Bool) : Prop := ∀ h : Heap, K.In h →
  (∃ nm q N bs bm hdct sn sub ab col dd k0 k1 k2 k3 k5 newId, h.get? C = some (excClassObj nm q C N bs bm hdct sn sub ab col dd k0 k1 k2 k3 k5 newId) ∧ (Value.ref C :: bm).contains (.ref D) = b) ∧
  (∃ nm q N bs bm hdct sn sub ab col dd k0 k1 k2 k3 k5 newId, h.get? D = some (excClassObj nm q D N bs bm hdct sn sub ab col dd k0 k1 k2 k3 k5 newId) ∧ (Value.ref D :: bm).contains (.type "BaseException") = true)
theorem matches_own {M : Model} {A : Around} {E : Value → Shared → Prop} {s : Shared} {K : PySem.W.Frag} {C D e : Addr} {b : Bool} {oe : Obj} {Q : Bool → Shared → Prop} (S : SubX K C D b) (X : K.In s.heap) (he : s.heap.get? e = some oe) (hcls : oe.cls = .ref C) (hq : Q b s) :
    wpAny M A (excMatches (.ref e) (.ref D)) Q E s := by
  obtain ⟨⟨nm, q, N, bs, bm, hdct, sn, sub, ab, col, dd, k0, k1, k2, k3, k5, newId, hC, hc⟩, ⟨nm', q', N', bs', bm', hdct', sn', sub', ab', col', dd', k0', k1', k2', k3', k5', newId', hD, hd⟩⟩ := S _ X
  obtain ⟨h, g, d, t, os⟩ := s
  have f := tc_notTuple
  unfold excMatches
  repeat (first | (with_reducible refine wpAny_loadPart_at he ?_; rw [hcls]) | with_reducible refine wpAny_loadPart_at hD ?_ | (with_reducible refine wpAny_isSubtype_exc hD ?_; rw [hd]) | (with_reducible refine wpAny_isSubtype_exc hC ?_; rw [hc]) | wp_step)
  cases b <;> (first | exact hq | (wp_walk; exact hq))
end L2
namespace L2
open PySem PySem.Spec PyProof.Rows
section
variable {X : Cx}
theorem ld_suite {pins : List (Addr × Obj)} {σ : St} {H : Hp} {s : Shared} {x : Str} {D e : Addr} {np : Pos} {E : Value → Shared → Prop} {Q : Value → Shared → Prop} (I : Inv X pins σ H s) (hg : Gl X x) (hm : X.mg x = some (.ref D)) (h : Q (.ref D) s)
    (hd : (x == ("__debug__" : Str)) = false) : wpAny (model X.prog X.w) (X.A.mark (some (.ref e))) (eval (.Name x np) X.env) Q E s :=
  ld_glob (X := X.sui pins e) (I.sui e) hg hm h hd
theorem unbind_ok {pins : List (Addr × Obj)} {σ : St} {H : Hp} {s : Shared} {A : Around} {M : Model} {i : Nat} {n : Str} {pos : Pos} {E : Value → Shared → Prop} {Q : Unit → Shared → Prop} (I : Inv X pins σ H s) (hN : X.N.Nodup) (hi : X.N[i]? = some n) (hk : X.env.scope.names.lookup n = some .local)
    (h : ∀ s', Inv X pins (σ.set i none) H s' → Q () s') : wpAny M A (do bindName X.env n .none; unbindBehindTheSuite X.env n pos) Q E s := by
  obtain ⟨m, hn, hl⟩ := id I.loc
  have hcls : (X.env.scope.kind == .class || (X.env.scope.kind == .module && X.env.locals != X.env.globals)) = false := by rw [I.ok.kind]; rfl
  refine wpAny_nameGoes_keeps hk hn hcls fun h' v hn' hs => ?_
  have cne := I.cne
  have sL : ∀ b o, X.s₀.heap.get? b = some o → b ≠ X.env.locals := fun b o q => Nat.ne_of_lt (Nat.lt_of_lt_of_le (Heap.lt_size q) I.ok.above)
  have hiσ : i < σ.length := by rw [I.len]; exact (List.getElem?_eq_some_iff.mp hi).1
  refine h _ ⟨I.ok, I.os, I.bare, ⟨fun b o q n hb hx => ?_, fun b o q n hb hx => ?_, I.base.free, fun b o q hx => ?_, I.base.tups, I.base.frzs, I.base.tbls⟩, ⟨_, hn', fun j y v' e1 e2 e3 => ?_⟩, fun y c e => ?_, I.free, I.freeC, fun p hp => ?_, ?_, by simpa using I.len⟩
  · exact (hs.2 b (sL b o q)).trans (I.base.keep b o q n hb hx)
  · obtain ⟨sl, e1⟩ := I.base.slot b o q n hb hx
    exact ⟨sl, (hs.2 b (sL b o q)).trans e1⟩
  · obtain ⟨o', e1⟩ := I.base.there b o q hx
    exact ⟨o', (hs.2 b (sL b o q)).trans e1⟩
  · by_cases hj : j = i
    · subst hj
      rw [List.getElem?_set_self hiσ] at e2
      cases e2
    · rw [List.getElem?_set_ne (Ne.symm hj)] at e2
      obtain ⟨u', r', q⟩ := hl j y v' e1 e2 e3
      refine ⟨u', r', ?_⟩
      rcases q with ⟨k, e⟩ | ⟨k, c, e, z⟩
      · refine .inl ⟨k, ?_⟩
        have : y ≠ n := fun e => hj (nodup_ix hN e1 (e ▸ hi))
        simp [this, e]
      · exact .inr ⟨k, c, e, z.sameBut hs (cne y c e)⟩
  · obtain ⟨w', z⟩ := I.cell y c e
    exact ⟨w', z.sameBut hs (cne y c e)⟩
  · obtain ⟨e, n, ne, nf, d⟩ := I.pin p hp
    exact ⟨(hs.2 p.1 ne).trans e, n, ne, nf, d⟩
  · intro b ob q
    refine (I.hok b ob q).stay (fun c w' hc k => (hs.2 c ?_).trans k) (fun _ q => q) fun _ _ q => q
    rintro rfl
    rcases hc with rfl | hc
    · rw [I.free] at q; cases q
    · rw [I.free] at hc; cases hc
def ExcO (e C : Addr) : HO := .ext fun h => ∃ o vs, h.get? e = some o ∧ o.cls = .ref C ∧ o.data = .fields vs
theorem Inv.adopt {pins : List (Addr × Obj)} {σ : St} {H : Hp} {s : Shared} {e C : Addr} {o : Obj} {vs : Array Value} (I : Inv X pins σ H s) (he : s.heap.get? e = some o) (hc : o.cls = .ref C) (hd : o.data = .fields vs)
    (h0 : X.s₀.heap.get? e = none) (hH : H e = none) (hp : ∀ p ∈ X.pn ++ pins, p.1 ≠ e) : Inv X pins σ (upd H e (ExcO e C)) s := by
  have ne : ∀ b, b ≠ e → upd H e (ExcO e C) b = H b := fun b n => upd_ne n
  have s0 : ∀ b o, X.s₀.heap.get? b = some o → b ≠ e := fun b o q z => by rw [z, h0] at q; cases q
  have hin : ∀ b u, H b = some u → b ≠ e := fun b u q z => by rw [z, hH] at q; cases q
  refine ⟨I.ok, I.os, I.bare, ⟨I.base.keep, I.base.slot, fun b o q n hx => ?_, I.base.there, fun b xs q => ?_, fun b o u q => ?_, fun b ps q => ?_⟩, I.loc, I.cell, ?_, fun x c q => ?_, fun p hp' => ?_, fun b u q => ?_, I.len⟩
  · rw [ne b (s0 b o q)]; exact I.base.free b o q n hx
  · have k := I.base.tups b xs q; rw [ne b (hin b _ k)]; exact k
  · have k := I.base.frzs b o u q; rw [ne b (hin b _ k)]; exact k
  · obtain ⟨m, k⟩ := I.base.tbls b ps q; exact ⟨m, by rw [ne b (hin b _ k)]; exact k⟩
  · rw [ne]
    · exact I.free
    · intro z
      obtain ⟨m, ⟨o', es, ep, h1', h2', _⟩, _⟩ := I.loc
      rw [z, he] at h1'; cases h1'
      rw [hd] at h2'; cases h2'
  · rw [ne]
    · exact I.freeC x c q
    · intro z
      obtain ⟨v, o', h1', h2'⟩ := I.cell x c q
      rw [z, he] at h1'; cases h1'
      rw [hd] at h2'; cases h2'
  · obtain ⟨e1, n, nl, nf, d⟩ := I.pin p hp'
    exact ⟨e1, by rw [ne _ (hp p hp')]; exact n, nl, nf, d⟩
  · by_cases z : b = e
    · subst z
      rw [upd_same] at q; cases q
      exact ⟨⟨o, vs, he, hc, hd⟩, ⟨o, he⟩, fun h1 h2 ⟨o', vs', q1, q2, q3⟩ k => ⟨o', vs', k _ q1, q2, q3⟩⟩
    · rw [ne b z] at q
      refine (I.hok b u q).stay (fun _ _ _ k => k) (fun c k => ?_) fun c xs k => ?_
      · rw [ne c (hin c _ k)]; exact k
      · rw [ne c (hin c _ k)]; exact k
theorem ph_as {x n : Str} {i : Nat} {D : Addr} {np pos : Pos} {b₀ : Stmt} {suite : List Stmt} {rest : List ExceptHandler} {ts : TS} {tr : Addr → TS} (F : Fnc X) (hN : X.N.Nodup) (hi : X.N[i]? = some n) (hk : X.env.scope.names.lookup n = some .local) (hg : Gl X x) (hm : X.mg x = some (.ref D)) (hs : ∀ pins e, PSs (X.sui pins e) (b₀ :: suite) ts) (hr : PH X rest tr)
    (hd : (x == ("__debug__" : Str)) = false := by decide) :
    PH X (.ExceptHandler (some (.Name x np)) (some n) (b₀ :: suite) pos :: rest) (fun C W σ H => ∃ b, SubX X.K C D b ∧ if b = true then ∀ e, H e = none →
      ts { nx := fun σ' H' => W.nx (σ'.set i none) H', rt := W.rt, bk := fun σ' H' => W.bk (σ'.set i none) H', ct := fun σ' H' => W.ct (σ'.set i none) H' } (σ.set i (some (.ref e))) (upd H e (ExcO e C)) else tr C W σ H) := by
  intro pins s σ H W e C l I a hl ⟨b, S, h⟩
  have a' := a
  obtain ⟨oe, vs, a0, h1, h2, h3, h4, h5⟩ := a
  refine wpAny_handleBy_cons (codeAny_handlers_test (ld_suite I hg hm ?_ hd)) (by intro q; cases q)
  refine matches_own S I.kIn h1 h2 ?_
  cases b with
  | false => exact hr pins s σ H W e C l I a' hl (by simpa using h)
  | true =>
    have F' : Fnc (X.sui pins e) := ⟨F.stk, F.fr, F.ex⟩
    have h := (show ∀ e, H e = none → _ from by simpa using h)
    refine codeAny_handlers_suite_as ?_
    refine XG.off (X := X.sui pins e) (G := fun C' σ' H' => C' = C ∧ σ' = σ ∧ H' = H) F' ⟨e, C, l, σ, H, rfl, I.sui e, a', fun b hb => hl b hb, rfl, rfl, rfl⟩ fun s2 x2 => ?_
    obtain ⟨e2, C2, l2, σ2, H2, he, J, a2, hl2, rfl, rfl, rfl⟩ := x2
    cases he
    obtain ⟨q1, q2, q3⟩ := hl2 e a2.first
    obtain ⟨oe2, vs2, a02, r1, r2, r3, _⟩ := a2
    have J2 := J.adopt r1 r2 r3 q1 q2 (by simpa using q3)
    refine store_ok (X := X.sui pins e) (v := .ref e) J2 hN hi (.inl hk) rfl (fun s3 J3 => ?_) (.inr hk)
    refine wpAny_mono (hs pins e [] s3 _ _ _ J3 (h e q2)) (fun f s4 q => ?_) fun _ _ z => z.elim
    cases f with
    | next => obtain ⟨σ', H', J4, q⟩ := q; exact unbind_ok (J4.unsui I.ok) hN hi hk fun s5 J5 => ⟨_, _, J5, q⟩
    | brk => obtain ⟨σ', H', J4, q⟩ := q; exact unbind_ok (J4.unsui I.ok) hN hi hk fun s5 J5 => ⟨_, _, J5, q⟩
    | cont => obtain ⟨σ', H', J4, q⟩ := q; exact unbind_ok (J4.unsui I.ok) hN hi hk fun s5 J5 => ⟨_, _, J5, q⟩
    | ret u => obtain ⟨v, σ', H', J4, r, q⟩ := q; exact unbind_ok (J4.unsui I.ok) hN hi hk fun s5 J5 => ⟨v, _, _, J5, r, q⟩
theorem ph_nil : PH X [] (fun _ _ _ _ => False) := fun _ _ _ _ _ _ _ _ _ _ _ h => h.elim
end
end L2
namespace L2
open PySem PySem.Spec PyProof.Rows
section
variable {prog : Program} {w : World} {A : Around} {E : Value → Shared → Prop} {h : Heap} {g : Array GenState} {d : Drawn} {t : Nat} {os : OsState} {a : Addr} {o : Obj} {vs : Array Value}
  {nm q : Str} {C N : Addr} {bs bm bmB : List Value} {hdct : Bool} {sn : List Str} {sub : List Value} {ab : Bool} {col : Option Bool} {dd : Option Addr} {k0 k1 k2 k3 k5 : Option Value} {B newId : String} {mN : Str → Option Value}
structure XBase (B : String) (bmB : List Value) : Prop extends ExcAttrBase B bmB where
  lkC : typeLookup (.type B) "__class__" = pure (some (.builtin "object.__class__"))
  hasObj : bmB.contains (.type "object") = true
end
end L2
namespace L2
open PySem PySem.Spec PyProof.Rows
structure RoomH (k : Nat) (A : Around) : Prop where
  dp : A.depth + 3 * k + 5 < recursionLimit
  un : A.units + 16 * k + 200 < cLine
structure FnOkH (P : Program) (w : World) (K : PySem.W.Frag) (mg : Str → Option Value) (base : Heap) (k : Nat) (f : Addr) (fd : FuncData) (ps : List Str) (sp : Sp) : Prop where
  len : ∀ vs H Q E, sp vs H Q E → vs.length = ps.length
  run : ∀ (A : Around) (outer : List Env) (s : Shared) (H : Hp) (args : Args) (us : List Value) (vs : List V) (Q : VK), RoomH k A → Env0 P w K mg base A outer s H → BindsTo s fd args (ps.zip us) → Vals vs us → sp vs H Q E0 →
    codeAny (model P w) A (.call (.ref f) args) (CR CX0 outer P w H s Q E0) s
section
variable {X : Cx} {k : Nat} {f : Addr} {fd : FuncData} {ps : List Str} {sp : Sp} {dvs : List V} {ds : List Value} {x : Str} {p pos : Pos} {e : Expr} {es : List Expr} {t : TA}
end
end L2
namespace L2
open PySem PySem.Spec PyProof.Rows
structure CNs (K : PySem.W.Frag) (N : Addr) : Prop where
  ok : ∃ oc od es ep sl, K.lookup N = some ⟨oc, od, .dict (List.toArray es) ep, sl⟩ ∧ (es.all fun e => match e.key with | .str _ _ => true | _ => false) = true
  n1 : PySem.W.nsIn K N "__init__" = some none
  n2 : PySem.W.nsIn K N "__getattribute__" = some none
  n3 : PySem.W.nsIn K N "__getattr__" = some none
  n4 : PySem.W.nsIn K N "__class__" = some none
theorem CNs.quiet {K : PySem.W.Frag} {h : Heap} {N : Addr} (c : CNs K N) (X : K.In h) : h.Ns N (h.nsMap N) ∧ ∀ n ∈ xnames, h.nsMap N n = none := by
  have ok : PySem.W.nsOkIn K N = true := by
    obtain ⟨oc, od, es, ep, sl, e, q⟩ := c.ok
    unfold PySem.W.nsOkIn
    rw [e]
    exact (List.all_toArray (l := es)).trans q
  refine ⟨.of_isNs (PySem.W.isNs_of_in X ok), fun n hn => PySem.W.nsMap_none_of_in X ok ?_⟩
  simp only [xnames, List.mem_cons, List.not_mem_nil, or_false] at hn
  rcases hn with rfl | rfl | rfl | rfl
  · exact c.n1
  · exact c.n2
  · exact c.n3
  · exact c.n4
section
variable {K : PySem.W.Frag} {mg : Str → Option Value} {x nm q nm' q' : Str} {C D N N' : Addr} {bm bs bs' bm' : List Value} {hdct hdct' : Bool} {sn sn' : List Str} {sub sub' : List Value} {ab ab' : Bool} {col col' : Option Bool} {dd dd' : Option Addr} {k0 k1 k2 k3 k5 k0' k1' k2' k3' k5' : Option Value} {newId newId' : String} {b : Bool}
theorem xcls0 (m : mg x = some (.ref C)) (l : K.lookup C = some (excClassObj nm q C N bs bm hdct sn sub ab col dd k0 k1 k2 k3 k5 newId)) (c : CNs K N) : XCls K mg x C [] bm newId :=
  ⟨m, fun h X => ⟨N, nm, q, bs, hdct, sn, sub, ab, col, dd, k0, k1, k2, k3, k5, _, X _ _ l, (c.quiet X).1, (c.quiet X).2, .base⟩⟩
theorem xcls1 (m : mg x = some (.ref C)) (l : K.lookup C = some (excClassObj nm q C N bs (.ref D :: bm) hdct sn sub ab col dd k0 k1 k2 k3 k5 newId)) (c : CNs K N)
    (l' : K.lookup D = some (excClassObj nm' q' D N' bs' bm hdct' sn' sub' ab' col' dd' k0' k1' k2' k3' k5' newId')) (c' : CNs K N') : XCls K mg x C [D] bm newId :=
  ⟨m, fun h X => ⟨N, nm, q, bs, hdct, sn, sub, ab, col, dd, k0, k1, k2, k3, k5, _, X _ _ l, (c.quiet X).1, (c.quiet X).2, .own (X _ _ l') (c'.quiet X).1 (c'.quiet X).2 .base⟩⟩
theorem subx_of (l : K.lookup C = some (excClassObj nm q C N bs bm hdct sn sub ab col dd k0 k1 k2 k3 k5 newId)) (l' : K.lookup D = some (excClassObj nm' q' D N' bs' bm' hdct' sn' sub' ab' col' dd' k0' k1' k2' k3' k5' newId'))
    (hb : bm'.contains (.type "BaseException") = true) (e : PySem.W.mroIn K C (.ref D) = some b) : SubX K C D b := by
  intro h X
  refine ⟨⟨nm, q, N, bs, bm, hdct, sn, sub, ab, col, dd, k0, k1, k2, k3, k5, newId, X _ _ l, ?_⟩, ⟨nm', q', N', bs', bm', hdct', sn', sub', ab', col', dd', k0', k1', k2', k3', k5', newId', X _ _ l', ?_⟩⟩
  · unfold PySem.W.mroIn PySem.W.clsIn at e
    rw [l] at e
    exact Option.some.inj e
  · rw [List.contains_cons, hb, Bool.or_true]
end
end L2
set_option Elab.async false
set_option linter.all false
set_option maxRecDepth 100000
set_option maxHeartbeats 4000000
namespace L2
open PySem PySem.Spec PyProof.Rows
abbrev TJ := Str → St → Hp → (Str → Hp → Prop) → Prop
section
variable {X : Cx} {e v : Expr} {es : List Expr} {te : TE} {tr : TJ} {pos : Pos}
end
end L2
namespace L2
open PySem PySem.Spec PyProof.Rows
section
variable {σ : St} {H : Hp} {Q : VK} {D : Ends} {te : TE} {tr : TJ} {acc y : Str} {i : Int} {R : Str → Hp → Prop} {G : Addr → St → Hp → Prop} {sp : Sp} {dvs : List V} {t : TA}
theorem w_exStr {p : Str → Prop} : (∃ y', V.str y = V.str y' ∧ p y') = p y := propext ⟨fun ⟨_, e, h⟩ => by cases e; exact h, fun h => ⟨y, rfl, h⟩⟩
theorem w_orStr {p : Str → Prop} {q : Int → Prop} : ((∃ y', V.str y = V.str y' ∧ p y') ∨ ∃ i, V.str y = V.int i ∧ q i) = p y := propext ⟨fun h => by rcases h with ⟨_, e, h⟩ | ⟨_, e, _⟩ <;> cases e; exact h, fun h => .inl ⟨y, rfl, h⟩⟩
theorem w_orInt {p : Str → Prop} {q : Int → Prop} : ((∃ y', V.int i = V.str y' ∧ p y') ∨ ∃ j, V.int i = V.int j ∧ q j) = q i := propext ⟨fun h => by rcases h with ⟨_, e, _⟩ | ⟨_, e, h⟩ <;> cases e; exact h, fun h => .inr ⟨i, rfl, h⟩⟩
theorem w_try {tb : (Addr → St → Hp → Prop) → TS} {th : Addr → TS} {te : TS} : tTry tb th te D σ H = ∃ G : Addr → St → Hp → Prop, tb G { D with nx := te D } σ H ∧ ∀ C σ' H', G C σ' H' → th C D σ' H' := rfl
end
end L2
namespace L2
open PySem PySem.Spec PyProof.Rows
abbrev TM := St → Hp → (Hp → Prop) → Prop
section
variable {X : Cx} {e v : Expr} {es : List Expr} {te : TE} {tp tr : TM} {pos : Pos}
end
section
variable {σ : St} {H : Hp} {Q : VK} {te : TE} {tp tr tm : TM} {R : Hp → Prop} {y : Str} {i : Int}
end
end L2
set_option Elab.async false
set_option linter.all false
set_option maxRecDepth 100000
set_option maxHeartbeats 4000000
namespace L2
open PySem PySem.Spec PyProof.Rows
section
variable {X : Cx} {G : Addr → St → Hp → Prop} {k : Nat} {f C : Addr} {fd : FuncData} {ps : List Str} {sp : Sp} {dvs : List V} {ds : List Value} {x m : Str} {p pos apos : Pos} {e o : Expr} {es : List Expr} {ta : TE} {t : TA}
end
section
variable {K : PySem.W.Frag} {σ : St} {H : Hp} {Q : VK} {D : Ends} {ta tv : TE} {t : TA} {f m : Str} {p C : Addr} {sp : Sp} {dvs : List V} {E : XK} {G : Addr → St → Hp → Prop} {rd : V → V → Hp → VK → Prop}
theorem w_fld : tFld K ta f σ H Q = ta σ H fun x H1 => ∃ a C dx fs v, x = .ref a ∧ H1 a = some (.ins C dx fs) ∧ Cls K C ∧ NoAttr K C f ∧ fs.lookup f = some v ∧ Q v H1 := rfl
theorem w_sfld : sFld K ta tv f D σ H = tv σ H fun y H1 => ta σ H1 fun x H2 => ∃ a C dx fs, x = .ref a ∧ H2 a = some (.ins C dx fs) ∧ Cls K C ∧ NoAttr K C f ∧ fs.length < 1000 ∧ D.nx σ (upd H2 a (.ins C dx (putF f y fs))) := rfl
theorem w_meth : tMeth C m sp dvs E ta t σ H Q = ta σ H fun x H1 => ∃ a dx fs, x = .ref a ∧ H1 a = some (.ins C dx fs) ∧ fs.lookup m = none ∧ t σ H1 fun vs H2 => sp (x :: (vs ++ dvs)) H2 Q E := rfl
theorem w_make : tMake C sp dvs E t σ H Q = t σ H fun vs H1 => ∀ x dx, H1 x = none → H1 dx = none → dx ≠ x → sp (.ref x :: (vs ++ dvs)) (upd (upd H1 dx (.own x)) x (.ins C dx [])) (fun v H2 => v = .non ∧ Q (.ref x) H2) E := rfl
end
end L2
set_option Elab.async false
set_option linter.all false
set_option maxRecDepth 100000
set_option maxHeartbeats 4000000
namespace L2
open PySem PySem.Spec PyProof.Rows
section
variable {X : Cx} {e : Expr} {es : List Expr} {st : Stmt} {rest : List Stmt} {te : TE} {ta : TA} {t u : TS} {pos : Pos}
end
structure FnOk1 (P : Program) (w : World) (K : PySem.W.Frag) (mg : Str → Option Value) (base : Heap) (CX : CXT) (k : Nat) (f : Addr) (fd : FuncData) (ps : List Str) (sp : Sp) : Prop where
  len : ∀ vs H Q E, sp vs H Q E → vs.length = ps.length
  run : ∀ (A : Around) (outer : List Env) (s : Shared) (H : Hp) (args : Args) (us : List Value) (vs : List V) (Q : VK) (E : XK), 1 ≤ s.toks → Room k A → Env0 P w K mg base A outer s H → BindsTo s fd args (ps.zip us) → Vals vs us → sp vs H Q E →
    codeAny (model P w) A (.call (.ref f) args) (CR CX outer P w H s Q E) s
section
variable {X : Cx} {CX : CXT} {k : Nat} {f C : Addr} {fd : FuncData} {ps : List Str} {sp : Sp} {dvs : List V} {ds : List Value} {E : XK} {x : Str} {p pos : Pos} {e : Expr} {es : List Expr} {t : TA}
end
end L2
namespace L2
open PySem PySem.Spec PyProof.Rows
section
variable {X : Cx} {CX : CXT} {k : Nat} {f C : Addr} {fd : FuncData} {ps : List Str} {sp : Sp} {dvs : List V} {ds : List Value} {E : XK} {x : Str} {p pos : Pos} {e : Expr} {es : List Expr} {te : TE} {t : TA} {tt u : TS} {st : Stmt} {rest : List Stmt}
end
end L2
set_option Elab.async false
set_option linter.all false
set_option maxRecDepth 100000
set_option maxHeartbeats 4000000
namespace L2
open PySem PySem.Spec PyProof.Rows
theorem join_cons (c : Nat) (p : Str) : ∀ {r : List Str}, r ≠ [] → (Str.join ⟨#[c]⟩ (p :: r)).cps.toList = p.cps.toList ++ c :: (Str.join ⟨#[c]⟩ r).cps.toList
  | [], h => absurd rfl h
  | q :: r, _ => by
    show (p ++ ⟨#[c]⟩ ++ Str.join ⟨#[c]⟩ (q :: r)).cps.toList = _
    simp [Str.cps_append]
theorem str_ext {a b : Str} (h : a.cps.toList = b.cps.toList) : a = b := by
  obtain ⟨⟨a⟩⟩ := a
  obtain ⟨⟨b⟩⟩ := b
  simp at h
  rw [h]
theorem free_cut {c : Nat} : ∀ {a b x y : List Nat}, c ∉ a → c ∉ b → a ++ c :: x = b ++ c :: y → a = b ∧ x = y
  | [], [], _, _, _, _, h => by simp at h; exact ⟨rfl, h⟩
  | [], k :: r, _, _, _, hb, h => by simp at h; exact absurd (h.1 ▸ List.mem_cons_self ..) hb
  | k :: r, [], _, _, ha, _, h => by simp at h; exact absurd (h.1 ▸ List.mem_cons_self ..) ha
  | k :: r, k' :: r', x, y, ha, hb, h => by
    simp only [List.cons_append, List.cons.injEq] at h
    obtain ⟨h1, h2⟩ := free_cut (fun m => ha (List.mem_cons_of_mem _ m)) (fun m => hb (List.mem_cons_of_mem _ m)) h.2
    exact ⟨by rw [h.1, h1], h2⟩
theorem join_inj (c : Nat) : ∀ {l m : List Str}, l ≠ [] → m ≠ [] → (∀ p ∈ l, c ∉ p.cps.toList) → (∀ p ∈ m, c ∉ p.cps.toList) → Str.join ⟨#[c]⟩ l = Str.join ⟨#[c]⟩ m → l = m
  | [], _, h, _, _, _, _ => absurd rfl h
  | _, [], _, h, _, _, _ => absurd rfl h
  | [p], [q], _, _, _, _, h => by
    have : p = q := h
    rw [this]
  | [p], q :: q2 :: r, _, _, hl, _, h => by
    exfalso
    have e : (Str.join ⟨#[c]⟩ _).cps.toList = (Str.join ⟨#[c]⟩ _).cps.toList := congrArg (fun s : Str => s.cps.toList) h
    rw [join_cons c q (by simp)] at e
    have : p.cps.toList = q.cps.toList ++ c :: (Str.join ⟨#[c]⟩ (q2 :: r)).cps.toList := e
    exact hl p (List.mem_singleton.mpr rfl) (by rw [this]; simp)
  | p :: p2 :: l, [q], _, _, _, hm, h => by
    exfalso
    have e : (Str.join ⟨#[c]⟩ _).cps.toList = (Str.join ⟨#[c]⟩ _).cps.toList := congrArg (fun s : Str => s.cps.toList) h
    rw [join_cons c p (by simp)] at e
    have : p.cps.toList ++ c :: (Str.join ⟨#[c]⟩ (p2 :: l)).cps.toList = q.cps.toList := e
    exact hm q (List.mem_singleton.mpr rfl) (by rw [← this]; simp)
  | p :: p2 :: l, q :: q2 :: m, _, _, hl, hm, h => by
    have e : (Str.join ⟨#[c]⟩ _).cps.toList = (Str.join ⟨#[c]⟩ _).cps.toList := congrArg (fun s : Str => s.cps.toList) h
    rw [join_cons c p (by simp), join_cons c q (by simp)] at e
    obtain ⟨e1, e2⟩ := free_cut (hl p (List.mem_cons_self ..)) (hm q (List.mem_cons_self ..)) e
    rw [str_ext e1, join_inj c (by simp) (by simp) (fun a ha => hl a (List.mem_cons_of_mem _ ha)) (fun a ha => hm a (List.mem_cons_of_mem _ ha)) (str_ext e2)]
theorem split_ne (x y : Str) : Txt.split x y ≠ [] := by
  unfold Txt.split
  split
  · simp
  · split
    · simp
    · intro h
      have := congrArg List.length h
      rw [length_partsBetween] at this
      simp at this
theorem split_is (c : Nat) {l : List Str} (h0 : l ≠ []) (hf : ∀ p ∈ l, c ∉ p.cps.toList) : Txt.split (Str.join ⟨#[c]⟩ l) ⟨#[c]⟩ = l :=
  join_inj c (split_ne _ _) h0 (StrLaws.split_free _ c) hf (StrLaws.join_split _ _)
end L2
set_option Elab.async false
set_option linter.all false
set_option maxRecDepth 100000
set_option maxHeartbeats 4000000
namespace L2
open PySem PySem.Spec PyProof.Rows
def sgn (c : Nat) : Prop := c = 40 ∨ c = 41 ∨ c = 44
instance (c : Nat) : Decidable (sgn c) := by unfold sgn; infer_instance
end L2
set_option Elab.async false
set_option linter.all false
set_option maxRecDepth 100000
set_option maxHeartbeats 4000000
namespace L2
open PySem PySem.Spec PyProof.Rows
inductive Dt where
  | int (i : Int) | str (x : Str) | non | tup (l : List Dt) | lst (l : List Dt)
mutual
def Dt.beq : Dt → Dt → Bool
  | .int i, .int j => i == j
  | .str x, .str y => decide (x = y)
  | .non, .non => true
  | .tup l, .tup m => Dt.beqs l m
  | .lst l, .lst m => Dt.beqs l m
  | _, _ => false
def Dt.beqs : List Dt → List Dt → Bool
  | [], [] => true
  | a :: l, b :: m => Dt.beq a b && Dt.beqs l m
  | _, _ => false
end
mutual
theorem Dt.beq_iff : ∀ a b : Dt, Dt.beq a b = true ↔ a = b
  | .int i, b => by cases b <;> simp [Dt.beq]
  | .str x, b => by cases b <;> simp [Dt.beq]
  | .non, b => by cases b <;> simp [Dt.beq]
  | .tup l, b => by cases b with
    | tup m => simp only [Dt.beq, Dt.tup.injEq]; exact Dt.beqs_iff l m
    | _ => simp [Dt.beq]
  | .lst l, b => by cases b with
    | lst m => simp only [Dt.beq, Dt.lst.injEq]; exact Dt.beqs_iff l m
    | _ => simp [Dt.beq]
theorem Dt.beqs_iff : ∀ l m : List Dt, Dt.beqs l m = true ↔ l = m
  | [], m => by cases m <;> simp [Dt.beqs]
  | a :: l, m => by cases m with
    | nil => simp [Dt.beqs]
    | cons b m => simp only [Dt.beqs, Bool.and_eq_true, List.cons.injEq]; rw [Dt.beq_iff a b, Dt.beqs_iff l m]
end
instance : DecidableEq Dt := fun a b => if h : Dt.beq a b = true then isTrue ((Dt.beq_iff a b).mp h) else isFalse fun e => h ((Dt.beq_iff a b).mpr e)
theorem Dt.beq_dec (a b : Dt) : Dt.beq a b = decide (a = b) := by
  by_cases h : a = b
  · rw [decide_eq_true h]; exact (Dt.beq_iff a b).mpr h
  · rw [decide_eq_false h]; exact Bool.eq_false_iff.mpr fun e => h ((Dt.beq_iff a b).mp e)
theorem Dt.beqs_all : ∀ (l m : List Dt) (e : Nat → Bool), (∀ (j : Nat) a b, l[j]? = some a → m[j]? = some b → e j = Dt.beq a b) → ((List.range (min l.length m.length)).all e && l.length == m.length) = Dt.beqs l m
  | [], [], e, _ => by simp [Dt.beqs]
  | [], b :: m, e, _ => by simp [Dt.beqs]
  | a :: l, [], e, _ => by simp [Dt.beqs]
  | a :: l, b :: m, e, h => by
    have ih := Dt.beqs_all l m (fun j => e (j + 1)) fun j x y h1 h2 => h (j + 1) x y (by simpa using h1) (by simpa using h2)
    have h0 := h 0 a b rfl rfl
    simp only [Dt.beqs]
    rw [← ih, ← h0]
    simp only [List.length_cons]
    rw [show min (l.length + 1) (m.length + 1) = min l.length m.length + 1 by omega, List.range_succ_eq_map]
    simp only [List.all_cons, List.all_map]
    have : ((l.length + 1 == m.length + 1) : Bool) = (l.length == m.length) := by simp
    rw [this, Bool.and_assoc]
    rfl
mutual
def Dt.dep : Dt → Nat
  | .tup l => Dt.deps l + 1
  | .lst l => Dt.deps l + 1
  | _ => 0
def Dt.deps : List Dt → Nat
  | [] => 0
  | a :: l => max (Dt.dep a) (Dt.deps l)
end
theorem Dt.dep_mem : ∀ {l : List Dt} {j : Nat} {a : Dt}, l[j]? = some a → Dt.dep a ≤ Dt.deps l
  | [], j, a, h => by simp at h
  | b :: l, 0, a, h => by simp at h; subst h; simp only [Dt.deps]; omega
  | b :: l, j + 1, a, h => by have := Dt.dep_mem (l := l) (j := j) (a := a) (by simpa using h); simp only [Dt.deps]; omega
inductive RepD (K : PySem.W.Frag) (H : Hp) : Dt → V → Prop
  | int (i : Int) : RepD K H (.int i) (.int i)
  | str (x : Str) : RepD K H (.str x) (.str x)
  | non : RepD K H .non .non
  | tup {a : Addr} {xs : List V} {l : List Dt} (h : SqT K H a xs) (hl : l.length = xs.length) (hr : ∀ (j : Nat) d x, l[j]? = some d → xs[j]? = some x → RepD K H d x) : RepD K H (.tup l) (.ref a)
  | lst {a : Addr} {xs : List V} {l : List Dt} (h : SqL K H a xs) (hl : l.length = xs.length) (hr : ∀ (j : Nat) d x, l[j]? = some d → xs[j]? = some x → RepD K H d x) : RepD K H (.lst l) (.ref a)
theorem isL {X : Cx} {pins : List (Addr × Obj)} {σ : St} {H : Hp} {s : Shared} {a : Addr} {xs : List V} (I : Inv X pins σ H s) (h : SqL X.K H a xs) : ∃ its : List Value, Vals xs its ∧ s.heap.IsList a its.toArray := by
  obtain ⟨its, r, p, _⟩ := I.list h
  exact ⟨its, r, p.isList⟩
theorem isT {X : Cx} {pins : List (Addr × Obj)} {σ : St} {H : Hp} {s : Shared} {a : Addr} {xs : List V} (I : Inv X pins σ H s) (h : SqT X.K H a xs) : ∃ its : List Value, Vals xs its ∧ s.heap.IsTuple a its.toArray := by
  obtain ⟨its, r, p, _⟩ := I.tuple h
  exact ⟨its, r, p⟩
section
variable {X : Cx} {pins : List (Addr × Obj)} {σ : St} {H : Hp} {s : Shared}
theorem RepD.inj (I : Inv X pins σ H s) {d : Dt} {x : V} (h : RepD X.K H d x) : ∀ {d' : Dt}, RepD X.K H d' x → d = d' := by
  induction h with
  | int i => intro d' h; cases h; rfl
  | str x => intro d' h; cases h; rfl
  | non => intro d' h; cases h; rfl
  | @tup a xs l h hl hr ih =>
    intro d' h'
    cases h' with
    | @tup _ xs' l' h' hl' hr' =>
      obtain rfl := I.tuple_inj h h'
      congr 1
      apply List.ext_getElem?
      intro j
      by_cases hj : j < l.length
      · have e1 : l[j]? = some l[j] := by simp [hj]
        have e2 : xs[j]? = some xs[j] := by simp
        have hj' : j < l'.length := by omega
        have e3 : l'[j]? = some l'[j] := by simp [hj']
        rw [e1, e3, ih j _ _ e1 e2 (hr' j _ _ e3 e2)]
      · rw [List.getElem?_eq_none (by omega), List.getElem?_eq_none (by omega)]
    | @lst _ xs' l' h' hl' hr' =>
      obtain ⟨_, _, p⟩ := isT I h
      obtain ⟨_, _, q⟩ := isL I h'
      exact absurd rfl (SeqAt.ne_of_list_tuple q p)
  | @lst a xs l h hl hr ih =>
    intro d' h'
    cases h' with
    | @lst _ xs' l' h' hl' hr' =>
      obtain rfl := I.list_inj h h'
      congr 1
      apply List.ext_getElem?
      intro j
      by_cases hj : j < l.length
      · have e1 : l[j]? = some l[j] := by simp [hj]
        have e2 : xs[j]? = some xs[j] := by simp
        have hj' : j < l'.length := by omega
        have e3 : l'[j]? = some l'[j] := by simp [hj']
        rw [e1, e3, ih j _ _ e1 e2 (hr' j _ _ e3 e2)]
      · rw [List.getElem?_eq_none (by omega), List.getElem?_eq_none (by omega)]
    | @tup _ xs' l' h' hl' hr' =>
      obtain ⟨_, _, p⟩ := isL I h
      obtain ⟨_, _, q⟩ := isT I h'
      exact absurd rfl (SeqAt.ne_of_list_tuple p q)
theorem RepD.at (I : Inv X pins σ H s) {d : Dt} {x : V} (h : RepD X.K H d x) : ∀ {d' : Dt} {y : V}, RepD X.K H d' y → ∀ {A : Around} {u v : Value}, A.units + Dt.dep d < cLine → RelV x u → RelV y v →
    SeqAt.RcAt A s u v (Dt.beq d d') ∧ SeqAt.EqAt A s u v (Dt.beq d d') := by
  induction h with
  | int i =>
    intro d' y h' A u v hu ru rv
    obtain ⟨t, rfl⟩ := ru
    cases h' with
    | int j => obtain ⟨t', rfl⟩ := rv; exact ⟨SeqAt.RcAt.int_int _ _ _ _, SeqAt.EqAt.int_int _ _ _ _⟩
    | str z => obtain ⟨t', rfl⟩ := rv; exact ⟨SeqAt.RcAt.int_str _ _ _ _, SeqAt.EqAt.int_str _ _ _ _⟩
    | non => cases rv; exact ⟨SeqAt.RcAt.int_none _ _, SeqAt.EqAt.int_none _ _⟩
    | tup h => cases rv; obtain ⟨_, _, p⟩ := isT I h; exact ⟨SeqAt.RcAt.int_tuple _ _ p (by omega), SeqAt.EqAt.int_tuple _ _ p (by omega)⟩
    | lst h => cases rv; obtain ⟨_, _, p⟩ := isL I h; exact ⟨SeqAt.RcAt.int_list _ _ p (by omega), SeqAt.EqAt.int_list _ _ p (by omega)⟩
  | str z =>
    intro d' y h' A u v hu ru rv
    obtain ⟨t, rfl⟩ := ru
    cases h' with
    | int j => obtain ⟨t', rfl⟩ := rv; exact ⟨SeqAt.RcAt.str_int _ _ _ _, SeqAt.EqAt.str_int _ _ _ _⟩
    | str z' =>
      obtain ⟨t', rfl⟩ := rv
      have e : (z == z') = Dt.beq (.str z) (.str z') := by simp only [Dt.beq]; rw [Bool.beq_eq_decide_eq]
      rw [← e]; exact ⟨SeqAt.RcAt.str_str _ _ _ _, SeqAt.EqAt.str_str _ _ _ _⟩
    | non => cases rv; exact ⟨SeqAt.RcAt.str_none _ _, SeqAt.EqAt.str_none _ _⟩
    | tup h => cases rv; obtain ⟨_, _, p⟩ := isT I h; exact ⟨SeqAt.RcAt.str_tuple _ _ p (by omega), SeqAt.EqAt.str_tuple _ _ p (by omega)⟩
    | lst h => cases rv; obtain ⟨_, _, p⟩ := isL I h; exact ⟨SeqAt.RcAt.str_list _ _ p (by omega), SeqAt.EqAt.str_list _ _ p (by omega)⟩
  | non =>
    intro d' y h' A u v hu ru rv
    cases ru
    cases h' with
    | int j => obtain ⟨t', rfl⟩ := rv; exact ⟨SeqAt.RcAt.none_int _ _, SeqAt.EqAt.none_int _ _⟩
    | str z' => obtain ⟨t', rfl⟩ := rv; exact ⟨SeqAt.RcAt.none_str _ _, SeqAt.EqAt.none_str _ _⟩
    | non => cases rv; exact ⟨SeqAt.RcAt.none_none, SeqAt.EqAt.same _⟩
    | tup h => cases rv; obtain ⟨_, _, p⟩ := isT I h; exact ⟨SeqAt.RcAt.none_tuple p (by omega), SeqAt.EqAt.none_tuple p (by omega)⟩
    | lst h => cases rv; obtain ⟨_, _, p⟩ := isL I h; exact ⟨SeqAt.RcAt.none_list p (by omega), SeqAt.EqAt.none_list p (by omega)⟩
  | @tup a xs l h hl hr ih =>
    intro d' y h' A u v hu ru rv
    have h0 := h'
    cases ru
    obtain ⟨its, r1, p1⟩ := isT I h
    cases h' with
    | int j => obtain ⟨t', rfl⟩ := rv; exact ⟨SeqAt.RcAt.tuple_int _ _ p1 (by omega), SeqAt.EqAt.tuple_int _ _ p1 (by omega)⟩
    | str z' => obtain ⟨t', rfl⟩ := rv; exact ⟨SeqAt.RcAt.tuple_str _ _ p1 (by omega), SeqAt.EqAt.tuple_str _ _ p1 (by omega)⟩
    | non => cases rv; exact ⟨SeqAt.RcAt.tuple_none p1 (by omega), SeqAt.EqAt.tuple_none p1 (by omega)⟩
    | lst h2 => cases rv; obtain ⟨_, _, p2⟩ := isL I h2; exact ⟨SeqAt.RcAt.tuple_list p1 p2 (by omega), SeqAt.EqAt.tuple_list p1 p2 (by omega)⟩
    | @tup b ys m h2 hl2 hr2 =>
      cases rv
      obtain ⟨its2, r2, p2⟩ := isT I h2
      have l1 : its.toArray.size = xs.length := by rw [List.size_toArray]; exact r1.length.symm
      have l2 : its2.toArray.size = ys.length := by rw [List.size_toArray]; exact r2.length.symm
      have rc : SeqAt.RcAt A s (.ref a) (.ref b) (Dt.beq (.tup l) (.tup m)) := by
        have hd : Dt.dep (.tup l) = Dt.deps l + 1 := by simp only [Dt.dep]
        rw [hd] at hu
        have := SeqAt.RcAt.tuples (A := A) (e := fun j => match l[j]?, m[j]? with | some x, some y => Dt.beq x y | _, _ => true) p1 p2 (by omega) (fun j h1 h2 => by
          obtain ⟨x, ex, rx⟩ := getD_some r1 h1
          obtain ⟨y, ey, ry⟩ := getD_some r2 h2
          have j1 : j < l.length := by omega
          have j2 : j < m.length := by omega
          have e1 : l[j]? = some l[j] := by simp [j1]
          have e2 : m[j]? = some m[j] := by simp [j2]
          rw [e1, e2]
          exact (ih j _ _ e1 ex (hr2 j _ _ e2 ey) (A := A.in1) (by show A.units + 1 + _ < cLine; have := Dt.dep_mem e1; omega) rx ry).2)
        rw [l1, l2, ← hl, ← hl2, Dt.beqs_all l m _ (fun j x y h1 h2 => by simp only [h1, h2])] at this
        simp only [Dt.beq]
        exact this
      refine ⟨rc, ?_⟩
      by_cases hab : a = b
      · subst hab
        rw [(Dt.beq_iff _ _).mpr ((RepD.tup h hl hr).inj I h0)]
        exact SeqAt.EqAt.same _
      · exact SeqAt.EqAt.of_refs hab rc
  | @lst a xs l h hl hr ih =>
    intro d' y h' A u v hu ru rv
    have h0 := h'
    cases ru
    obtain ⟨its, r1, p1⟩ := isL I h
    cases h' with
    | int j => obtain ⟨t', rfl⟩ := rv; exact ⟨SeqAt.RcAt.list_int _ _ p1 (by omega), SeqAt.EqAt.list_int _ _ p1 (by omega)⟩
    | str z' => obtain ⟨t', rfl⟩ := rv; exact ⟨SeqAt.RcAt.list_str _ _ p1 (by omega), SeqAt.EqAt.list_str _ _ p1 (by omega)⟩
    | non => cases rv; exact ⟨SeqAt.RcAt.list_none p1 (by omega), SeqAt.EqAt.list_none p1 (by omega)⟩
    | tup h2 => cases rv; obtain ⟨_, _, p2⟩ := isT I h2; exact ⟨SeqAt.RcAt.list_tuple p1 p2 (by omega), SeqAt.EqAt.list_tuple p1 p2 (by omega)⟩
    | @lst b ys m h2 hl2 hr2 =>
      cases rv
      obtain ⟨its2, r2, p2⟩ := isL I h2
      have l1 : its.toArray.size = xs.length := by rw [List.size_toArray]; exact r1.length.symm
      have l2 : its2.toArray.size = ys.length := by rw [List.size_toArray]; exact r2.length.symm
      have rc : SeqAt.RcAt A s (.ref a) (.ref b) (Dt.beq (.lst l) (.lst m)) := by
        have hd : Dt.dep (.lst l) = Dt.deps l + 1 := by simp only [Dt.dep]
        rw [hd] at hu
        simp only [Dt.beq]
        by_cases hlen : l.length = m.length
        · have := SeqAt.RcAt.lists (A := A) (e := fun j => match l[j]?, m[j]? with | some x, some y => Dt.beq x y | _, _ => true) p1 p2 (by omega) (by omega) (fun j h1 h2 => by
            obtain ⟨x, ex, rx⟩ := getD_some r1 h1
            obtain ⟨y, ey, ry⟩ := getD_some r2 h2
            have j1 : j < l.length := by omega
            have j2 : j < m.length := by omega
            have e1 : l[j]? = some l[j] := by simp [j1]
            have e2 : m[j]? = some m[j] := by simp [j2]
            rw [e1, e2]
            exact (ih j _ _ e1 ex (hr2 j _ _ e2 ey) (A := A.in1) (by show A.units + 1 + _ < cLine; have := Dt.dep_mem e1; omega) rx ry).2)
          have q := Dt.beqs_all l m (fun j => match l[j]?, m[j]? with | some x, some y => Dt.beq x y | _, _ => true) (fun j x y h1 h2 => by simp only [h1, h2])
          rw [← q]
          have q1 : (l.length == m.length) = true := by simpa using hlen
          have q2 : min l.length m.length = its.toArray.size := by omega
          rw [q1, Bool.and_true, q2]
          exact this
        · have q : Dt.beqs l m = false := Bool.eq_false_iff.mpr fun e => hlen (congrArg List.length ((Dt.beqs_iff l m).mp e))
          rw [q]
          exact SeqAt.RcAt.lists_lengths p1 p2 (by rw [l1, l2]; simp; omega) (by omega)
      refine ⟨rc, ?_⟩
      by_cases hab : a = b
      · subst hab
        rw [(Dt.beq_iff _ _).mpr ((RepD.lst h hl hr).inj I h0)]
        exact SeqAt.EqAt.same _
      · exact SeqAt.EqAt.of_refs hab rc
theorem RepD.ne (I : Inv X pins σ H s) {d d' : Dt} {x y : V} (h : RepD X.K H d x) (h' : RepD X.K H d' y) {A : Around} {u v : Value} (hu : A.units + Dt.dep d < cLine) (ru : RelV x u) (rv : RelV y v) :
    SeqAt.RcNeAt A s u v (!Dt.beq d d') := by
  cases h with
  | int i =>
    obtain ⟨t, rfl⟩ := ru
    cases h' with
    | int j => obtain ⟨t', rfl⟩ := rv; exact SeqAt.RcNeAt.int_int _ _ _ _
    | str z => obtain ⟨t', rfl⟩ := rv; exact SeqAt.RcNeAt.int_str _ _ _ _
    | non => cases rv; exact SeqAt.RcNeAt.int_none _ _
    | tup h => cases rv; obtain ⟨_, _, p⟩ := isT I h; exact SeqAt.RcNeAt.int_tuple _ _ p (by omega)
    | lst h => cases rv; obtain ⟨_, _, p⟩ := isL I h; exact SeqAt.RcNeAt.int_list _ _ p (by omega)
  | str z =>
    obtain ⟨t, rfl⟩ := ru
    cases h' with
    | int j => obtain ⟨t', rfl⟩ := rv; exact SeqAt.RcNeAt.str_int _ _ _ _
    | str z' =>
      obtain ⟨t', rfl⟩ := rv
      have e : (z == z') = Dt.beq (.str z) (.str z') := by simp only [Dt.beq]; rw [Bool.beq_eq_decide_eq]
      rw [← e]; exact SeqAt.RcNeAt.str_str _ _ _ _
    | non => cases rv; exact SeqAt.RcNeAt.str_none _ _
    | tup h => cases rv; obtain ⟨_, _, p⟩ := isT I h; exact SeqAt.RcNeAt.str_tuple _ _ p (by omega)
    | lst h => cases rv; obtain ⟨_, _, p⟩ := isL I h; exact SeqAt.RcNeAt.str_list _ _ p (by omega)
  | non =>
    cases ru
    cases h' with
    | int j => obtain ⟨t', rfl⟩ := rv; exact SeqAt.RcNeAt.none_int _ _
    | str z' => obtain ⟨t', rfl⟩ := rv; exact SeqAt.RcNeAt.none_str _ _
    | non => cases rv; exact SeqAt.RcNeAt.none_none
    | tup h => cases rv; obtain ⟨_, _, p⟩ := isT I h; exact SeqAt.RcNeAt.none_tuple p (by omega)
    | lst h => cases rv; obtain ⟨_, _, p⟩ := isL I h; exact SeqAt.RcNeAt.none_list p (by omega)
  | @tup a xs l h hl hr =>
    cases ru
    obtain ⟨its, r1, p1⟩ := isT I h
    cases h' with
    | int j => obtain ⟨t', rfl⟩ := rv; exact SeqAt.RcNeAt.tuple_int _ _ p1 (by omega)
    | str z' => obtain ⟨t', rfl⟩ := rv; exact SeqAt.RcNeAt.tuple_str _ _ p1 (by omega)
    | non => cases rv; exact SeqAt.RcNeAt.tuple_none p1 (by omega)
    | lst h2 => cases rv; obtain ⟨_, _, p2⟩ := isL I h2; exact SeqAt.RcNeAt.tuple_list p1 p2 (by omega)
    | @tup b ys m h2 hl2 hr2 =>
      cases rv
      obtain ⟨its2, r2, p2⟩ := isT I h2
      have l1 : its.toArray.size = xs.length := by rw [List.size_toArray]; exact r1.length.symm
      have l2 : its2.toArray.size = ys.length := by rw [List.size_toArray]; exact r2.length.symm
      have hd : Dt.dep (.tup l) = Dt.deps l + 1 := by simp only [Dt.dep]
      rw [hd] at hu
      have := SeqAt.RcNeAt.tuples (A := A) (e := fun j => match l[j]?, m[j]? with | some x, some y => Dt.beq x y | _, _ => true) p1 p2 (by omega) (fun j h1 h2 => by
        obtain ⟨x, ex, rx⟩ := getD_some r1 h1
        obtain ⟨y, ey, ry⟩ := getD_some r2 h2
        have j1 : j < l.length := by omega
        have j2 : j < m.length := by omega
        have e1 : l[j]? = some l[j] := by simp [j1]
        have e2 : m[j]? = some m[j] := by simp [j2]
        rw [e1, e2]
        exact (RepD.at I (hr j _ _ e1 ex) (hr2 j _ _ e2 ey) (A := A.in1) (by show A.units + 1 + _ < cLine; have := Dt.dep_mem e1; omega) rx ry).2)
      rw [l1, l2, ← hl, ← hl2, Dt.beqs_all l m _ (fun j x y h1 h2 => by simp only [h1, h2])] at this
      simp only [Dt.beq]
      exact this
  | @lst a xs l h hl hr =>
    cases ru
    obtain ⟨its, r1, p1⟩ := isL I h
    cases h' with
    | int j => obtain ⟨t', rfl⟩ := rv; exact SeqAt.RcNeAt.list_int _ _ p1 (by omega)
    | str z' => obtain ⟨t', rfl⟩ := rv; exact SeqAt.RcNeAt.list_str _ _ p1 (by omega)
    | non => cases rv; exact SeqAt.RcNeAt.list_none p1 (by omega)
    | tup h2 => cases rv; obtain ⟨_, _, p2⟩ := isT I h2; exact SeqAt.RcNeAt.list_tuple p1 p2 (by omega)
    | @lst b ys m h2 hl2 hr2 =>
      cases rv
      obtain ⟨its2, r2, p2⟩ := isL I h2
      have l1 : its.toArray.size = xs.length := by rw [List.size_toArray]; exact r1.length.symm
      have l2 : its2.toArray.size = ys.length := by rw [List.size_toArray]; exact r2.length.symm
      have hd : Dt.dep (.lst l) = Dt.deps l + 1 := by simp only [Dt.dep]
      rw [hd] at hu
      simp only [Dt.beq]
      by_cases hlen : l.length = m.length
      · have := SeqAt.RcNeAt.lists (A := A) (e := fun j => match l[j]?, m[j]? with | some x, some y => Dt.beq x y | _, _ => true) p1 p2 (by omega) (by omega) (fun j h1 h2 => by
          obtain ⟨x, ex, rx⟩ := getD_some r1 h1
          obtain ⟨y, ey, ry⟩ := getD_some r2 h2
          have j1 : j < l.length := by omega
          have j2 : j < m.length := by omega
          have e1 : l[j]? = some l[j] := by simp [j1]
          have e2 : m[j]? = some m[j] := by simp [j2]
          rw [e1, e2]
          exact (RepD.at I (hr j _ _ e1 ex) (hr2 j _ _ e2 ey) (A := A.in1) (by show A.units + 1 + _ < cLine; have := Dt.dep_mem e1; omega) rx ry).2)
        have q := Dt.beqs_all l m (fun j => match l[j]?, m[j]? with | some x, some y => Dt.beq x y | _, _ => true) (fun j x y h1 h2 => by simp only [h1, h2])
        rw [← q]
        have q1 : (l.length == m.length) = true := by simpa using hlen
        have q2 : min l.length m.length = its.toArray.size := by omega
        rw [q1, Bool.and_true, q2]
        exact this
      · have q : Dt.beqs l m = false := Bool.eq_false_iff.mpr fun e => hlen (congrArg List.length ((Dt.beqs_iff l m).mp e))
        rw [q]
        exact SeqAt.RcNeAt.lists_lengths p1 p2 (by rw [l1, l2]; simp; omega) (by omega)
theorem RepD.mem (I : Inv X pins σ H s) {d : Dt} {x : V} {l : List Dt} {xs : List V} {its : List Value} (hx : RepD X.K H d x) (hl : l.length = xs.length) (hr : ∀ (j : Nat) d x, l[j]? = some d → xs[j]? = some x → RepD X.K H d x)
    (r : Vals xs its) {A : Around} {v : Value} (hu : ∀ a ∈ l, A.units + Dt.dep a < cLine) (rv : RelV x v) :
    ∃ e : Value → Bool, (∀ u ∈ its, SeqAt.EqAt A s u v (e u)) ∧ its.any e = decide (d ∈ l) := by
  classical
  have item : ∀ u ∈ its, ∃ (j : Nat) (y : V) (a : Dt), its[j]? = some u ∧ xs[j]? = some y ∧ l[j]? = some a ∧ RelV y u := fun u hm => by
    obtain ⟨j, hj, e⟩ := List.getElem_of_mem hm
    have hx' : j < xs.length := by rw [r.length]; exact hj
    have hl' : j < l.length := by omega
    obtain ⟨u', e', ru⟩ := r.get (i := j) (x := xs[j]) (by simp [hx'])
    have : its[j]? = some u := by simp [hj, e]
    rw [this] at e'; cases e'
    exact ⟨j, xs[j], l[j], this, by simp [hx'], by simp [hl'], ru⟩
  refine ⟨fun u => decide (∃ y, RelV y u ∧ RepD X.K H d y), fun u hm => ?_, ?_⟩
  · obtain ⟨j, y, a, _, hy, ha, ru⟩ := item u hm
    have ry := hr j a y ha hy
    have e : decide (∃ y, RelV y u ∧ RepD X.K H d y) = Dt.beq a d := by
      rw [Dt.beq_dec]
      congr 1
      refine propext ⟨fun ⟨y', r1, r2⟩ => ?_, fun z => ⟨y, ru, z ▸ ry⟩⟩
      obtain rfl := ru.inj r1
      exact ry.inj I r2
    show SeqAt.EqAt A s u v (decide (∃ y, RelV y u ∧ RepD X.K H d y))
    rw [e]
    exact (ry.at I hx (hu a (List.mem_of_getElem? ha)) ru rv).2
  · apply Bool.eq_iff_iff.mpr
    simp only [List.any_eq_true, decide_eq_true_eq]
    constructor
    · rintro ⟨u, hm, y', r1, r2⟩
      obtain ⟨j, y, a, _, hy, ha, ru⟩ := item u hm
      obtain rfl := ru.inj r1
      have := (hr j a y ha hy).inj I r2
      subst this
      exact List.mem_of_getElem? ha
    · intro hm
      obtain ⟨j, hj, e⟩ := List.getElem_of_mem hm
      have hx' : j < xs.length := by omega
      obtain ⟨u, hu', ru⟩ := r.get (i := j) (x := xs[j]) (by simp [hx'])
      exact ⟨u, List.mem_of_getElem? hu', xs[j], ru, e ▸ hr j l[j] xs[j] (by simp [hj]) (by simp [hx'])⟩
end
section
variable {X : Cx} {K : PySem.W.Frag} {H : Hp} {Q : VK}
def rEqT (K : PySem.W.Frag) : R2 := fun x y H Q => ∃ d d', RepD K H d x ∧ RepD K H d' y ∧ Dt.dep d ≤ 60 ∧ Q (.bl (decide (d = d'))) H
def rNeT (K : PySem.W.Frag) : R2 := fun x y H Q => ∃ d d', RepD K H d x ∧ RepD K H d' y ∧ Dt.dep d ≤ 60 ∧ Q (.bl (!decide (d = d'))) H
theorem op_eqT (hu : X.A.units + 64 < cLine) : OpR X (compareOp .Eq) (rEqT X.K) := by
  intro pins s σ H x y v u Q I rx ry ⟨d, d', h, h', hd, q⟩
  exact (h.at I h' (A := X.A) (by omega) rx ry).1 X.prog X.w X.xe _ ⟨.bl _, H, I, rfl, by rw [Dt.beq_dec]; exact q⟩
theorem op_neT (hu : X.A.units + 64 < cLine) : OpR X (compareOp .NotEq) (rNeT X.K) := by
  intro pins s σ H x y v u Q I rx ry ⟨d, d', h, h', hd, q⟩
  exact (h.ne I h' (A := X.A) (by omega) rx ry) X.prog X.w X.xe _ ⟨.bl _, H, I, rfl, by rw [Dt.beq_dec]; exact q⟩
def rInT (K : PySem.W.Frag) (neg : Bool) : R2 := fun x y H Q => ∃ d l, RepD K H d x ∧ (RepD K H (.tup l) y ∨ RepD K H (.lst l) y) ∧ Dt.deps l ≤ 60 ∧ Q (.bl (if neg then !decide (d ∈ l) else decide (d ∈ l))) H
theorem Dt.deps_mem {l : List Dt} {a : Dt} (h : a ∈ l) : Dt.dep a ≤ Dt.deps l := by
  obtain ⟨j, hj, e⟩ := List.getElem_of_mem h
  exact Dt.dep_mem (j := j) (by simp [hj, e])
theorem op_inT (hu : X.A.units + 64 < cLine) : OpR X (compareOp .In) (rInT X.K false) := by
  intro pins s σ H x y v u Q I rx ry ⟨d, l, h, h', hd, q⟩
  rcases h' with h' | h'
  · cases h' with
    | @tup a xs _ hq hl hr =>
      cases ry
      obtain ⟨its, r, p⟩ := isT I hq
      obtain ⟨e, he, ha⟩ := RepD.mem I h hl hr r (A := X.A.in1) (fun a hm => by show X.A.units + 1 + _ < cLine; have := Dt.deps_mem hm; omega) rx
      refine SeqAt.in_tupleAt e p (fun w hw => he w (by simpa using hw)) ⟨.bl _, H, I, rfl, ?_⟩
      rw [show its.toArray.any e = its.any e by simp, ha]
      exact q
  · cases h' with
    | @lst a xs _ hq hl hr =>
      cases ry
      obtain ⟨its, r, p⟩ := isL I hq
      obtain ⟨e, he, ha⟩ := RepD.mem I h hl hr r (A := X.A.in1) (fun a hm => by show X.A.units + 1 + _ < cLine; have := Dt.deps_mem hm; omega) rx
      refine SeqAt.in_listAt e p (fun w hw => he w (by simpa using hw)) ⟨.bl _, H, I, rfl, ?_⟩
      rw [show its.toArray.any e = its.any e by simp, ha]
      exact q
theorem op_notInT (hu : X.A.units + 64 < cLine) : OpR X (compareOp .NotIn) (rInT X.K true) := by
  intro pins s σ H x y v u Q I rx ry ⟨d, l, h, h', hd, q⟩
  rcases h' with h' | h'
  · cases h' with
    | @tup a xs _ hq hl hr =>
      cases ry
      obtain ⟨its, r, p⟩ := isT I hq
      obtain ⟨e, he, ha⟩ := RepD.mem I h hl hr r (A := X.A.in1) (fun a hm => by show X.A.units + 1 + _ < cLine; have := Dt.deps_mem hm; omega) rx
      refine SeqAt.notIn_tupleAt e p (fun w hw => he w (by simpa using hw)) ⟨.bl _, H, I, rfl, ?_⟩
      rw [show its.toArray.any e = its.any e by simp, ha]
      exact q
  · cases h' with
    | @lst a xs _ hq hl hr =>
      cases ry
      obtain ⟨its, r, p⟩ := isL I hq
      obtain ⟨e, he, ha⟩ := RepD.mem I h hl hr r (A := X.A.in1) (fun a hm => by show X.A.units + 1 + _ < cLine; have := Dt.deps_mem hm; omega) rx
      refine SeqAt.notIn_listAt e p (fun w hw => he w (by simpa using hw)) ⟨.bl _, H, I, rfl, ?_⟩
      rw [show its.toArray.any e = its.any e by simp, ha]
      exact q
end
end L2
namespace L2
open PySem PySem.Spec PyProof.Rows
namespace Stm
end Stm
section
variable {X : Cx}
def rEqC (K : PySem.W.Frag) : R2 := fun x y H Q => rEq x y H Q ∨ rEqT K x y H Q
def rNeC (K : PySem.W.Frag) : R2 := fun x y H Q => rNe x y H Q ∨ rNeT K x y H Q
def rInC (K : PySem.W.Frag) (neg : Bool) : R2 := fun x y H Q => rInA K neg x y H Q ∨ rInT K neg x y H Q
theorem opC_eq (K : PySem.W.Frag) (hu : X.A.units + 64 < cLine) (hK : X.K = K := by rfl) : OpR X (compareOp .Eq) (rEqC K) := hK ▸ (OpR.or op_eq (op_eqT hu) : OpR X (compareOp .Eq) (rEqC X.K))
theorem opC_ne (K : PySem.W.Frag) (hu : X.A.units + 64 < cLine) (hK : X.K = K := by rfl) : OpR X (compareOp .NotEq) (rNeC K) := hK ▸ (OpR.or op_ne (op_neT hu) : OpR X (compareOp .NotEq) (rNeC X.K))
theorem opC_in (K : PySem.W.Frag) (hu : X.A.units + 64 < cLine) (hK : X.K = K := by rfl) : OpR X (compareOp .In) (rInC K false) := hK ▸ (OpR.or (opA_in X.K) (op_inT hu) : OpR X (compareOp .In) (rInC X.K false))
theorem opC_notin (K : PySem.W.Frag) (hu : X.A.units + 64 < cLine) (hK : X.K = K := by rfl) : OpR X (compareOp .NotIn) (rInC K true) := hK ▸ (OpR.or (opA_notin X.K) (op_notInT hu) : OpR X (compareOp .NotIn) (rInC X.K true))
end
end L2
namespace L2
open PySem PySem.Spec PyProof.Rows
section
variable {K : PySem.W.Frag} {H : Hp} {Q : VK} {i j : Int} {x y : Str} {p q : Addr} {u : V} {neg : Bool}
theorem RepD.of_int {d : Dt} (h : RepD K H d (.int i)) : d = .int i := by cases h; rfl
theorem RepD.of_str {d : Dt} (h : RepD K H d (.str x)) : d = .str x := by cases h; rfl
theorem w_eqIC : rEqC K (.int i) (.int j) H Q = Q (.bl (decide (i = j))) H := by
  refine propext ⟨fun h => ?_, fun h => .inl ⟨rfl, by simpa using h⟩⟩
  rcases h with ⟨_, h⟩ | ⟨d, d', h1, h2, _, h⟩
  · simpa using h
  · rw [h1.of_int, h2.of_int] at h; simpa using h
theorem w_eqSC : rEqC K (.str x) (.str y) H Q = Q (.bl (decide (x = y))) H := by
  refine propext ⟨fun h => ?_, fun h => .inl ⟨rfl, by simpa using h⟩⟩
  rcases h with ⟨_, h⟩ | ⟨d, d', h1, h2, _, h⟩
  · simpa using h
  · rw [h1.of_str, h2.of_str] at h; simpa using h
theorem w_neIC : rNeC K (.int i) (.int j) H Q = Q (.bl (!decide (i = j))) H := by
  refine propext ⟨fun h => ?_, fun h => .inl ⟨rfl, by simpa using h⟩⟩
  rcases h with ⟨_, h⟩ | ⟨d, d', h1, h2, _, h⟩
  · simpa using h
  · rw [h1.of_int, h2.of_int] at h; simpa using h
theorem w_neSC : rNeC K (.str x) (.str y) H Q = Q (.bl (!decide (x = y))) H := by
  refine propext ⟨fun h => ?_, fun h => .inl ⟨rfl, by simpa using h⟩⟩
  rcases h with ⟨_, h⟩ | ⟨d, d', h1, h2, _, h⟩
  · simpa using h
  · rw [h1.of_str, h2.of_str] at h; simpa using h
theorem w_eqRC : rEqC K (.ref p) u H Q = ∃ d d', RepD K H d (.ref p) ∧ RepD K H d' u ∧ Dt.dep d ≤ 60 ∧ Q (.bl (decide (d = d'))) H := by
  refine propext ⟨fun h => ?_, fun h => .inr h⟩
  rcases h with ⟨e, _⟩ | h
  · cases u <;> cases e
  · exact h
theorem w_eqCR : rEqC K u (.ref p) H Q = ∃ d d', RepD K H d u ∧ RepD K H d' (.ref p) ∧ Dt.dep d ≤ 60 ∧ Q (.bl (decide (d = d'))) H := by
  refine propext ⟨fun h => ?_, fun h => .inr h⟩
  rcases h with ⟨e, _⟩ | h
  · cases u <;> cases e
  · exact h
theorem w_neRC : rNeC K (.ref p) u H Q = ∃ d d', RepD K H d (.ref p) ∧ RepD K H d' u ∧ Dt.dep d ≤ 60 ∧ Q (.bl (!decide (d = d'))) H := by
  refine propext ⟨fun h => ?_, fun h => .inr h⟩
  rcases h with ⟨e, _⟩ | h
  · cases u <;> cases e
  · exact h
theorem w_neCR : rNeC K u (.ref p) H Q = ∃ d d', RepD K H d u ∧ RepD K H d' (.ref p) ∧ Dt.dep d ≤ 60 ∧ Q (.bl (!decide (d = d'))) H := by
  refine propext ⟨fun h => ?_, fun h => .inr h⟩
  rcases h with ⟨e, _⟩ | h
  · cases u <;> cases e
  · exact h
theorem w_inCS : rInC K false (.str x) (.str y) H Q = Q (.bl (inS x y)) H := by
  refine propext ⟨fun h => ?_, fun h => .inl (.inl ⟨x, y, rfl, rfl, h⟩)⟩
  rcases h with (⟨_, _, e1, e2, h⟩ | ⟨_, _, e, _⟩) | ⟨_, _, _, h, _⟩
  · cases e1; cases e2; exact h
  · cases e
  · rcases h with h | h <;> cases h
theorem w_notinCS : rInC K true (.str x) (.str y) H Q = Q (.bl (!inS x y)) H := by
  refine propext ⟨fun h => ?_, fun h => .inl (.inl ⟨x, y, rfl, rfl, h⟩)⟩
  rcases h with (⟨_, _, e1, e2, h⟩ | ⟨_, _, e, _⟩) | ⟨_, _, _, h, _⟩
  · cases e1; cases e2; exact h
  · cases e
  · rcases h with h | h <;> cases h
theorem w_inCR : rInC K neg u (.ref p) H Q = (rIn K neg u (.ref p) H Q ∨ rInT K neg u (.ref p) H Q) := by
  refine propext ⟨fun h => ?_, fun h => ?_⟩
  · rcases h with (⟨_, _, _, e2, _⟩ | h) | h
    · cases e2
    · exact .inl h
    · exact .inr h
  · rcases h with h | h
    · exact .inl (.inr h)
    · exact .inr h
end
end L2
set_option Elab.async false
set_option linter.all false
set_option maxRecDepth 100000
set_option maxHeartbeats 4000000
namespace L2
open PySem PySem.Spec PyProof.Rows
section
variable {X : Cx}
def rAny (K : PySem.W.Frag) : List V → Hp → VK → Prop := fun xs H Q => ∃ (p : Addr) (bs : List Bool), xs = [.ref p] ∧ SqL K H p (bs.map V.bl) ∧ Q (.bl (bs.any id)) H
theorem w_any {K : PySem.W.Frag} {p : Addr} {H : Hp} {Q : VK} : rAny K [.ref p] H Q = ∃ bs : List Bool, SqL K H p (bs.map V.bl) ∧ Q (.bl (bs.any id)) H := by
  refine propext ⟨fun ⟨_, bs, e, h⟩ => ?_, fun ⟨bs, h⟩ => ⟨p, bs, rfl, h⟩⟩
  cases e; exact ⟨bs, h⟩
def rSum (K : PySem.W.Frag) : List V → Hp → VK → Prop := fun xs H Q => ∃ (p : Addr) (ns : List Int), xs = [.ref p] ∧ SqL K H p (ns.map V.int) ∧ Q (.int ns.sum) H
theorem w_sum {K : PySem.W.Frag} {p : Addr} {H : Hp} {Q : VK} : rSum K [.ref p] H Q = ∃ ns : List Int, SqL K H p (ns.map V.int) ∧ Q (.int ns.sum) H := by
  refine propext ⟨fun ⟨_, bs, e, h⟩ => ?_, fun ⟨bs, h⟩ => ⟨p, bs, rfl, h⟩⟩
  cases e; exact ⟨bs, h⟩
end
end L2
namespace L2
open PySem PySem.Spec PyProof.Rows
section
variable {K : PySem.W.Frag} {σ : St} {H : Hp} {Q : VK} {D : Ends} {ta tb tc te : TE} {r r' : R2} {i n : Nat} {ti : TIp} {g : TG} {gs : TGs} {v : V} {vs : List V} {R : St → Hp → Prop} {f : Int → Int → Int} {a b : Int}
theorem w_ipI : ipI f (.int a) (.int b) H Q = Q (.int (f a b)) H := propext ⟨fun ⟨_, _, e, e', h⟩ => by cases e; cases e'; exact h, fun h => ⟨a, b, rfl, rfl, h⟩⟩
theorem w_gTup {p : Addr} : gTup K n gs (.ref p) σ H R = ∃ xs, SqT K H p xs ∧ xs.length = n ∧ gs xs σ H R := propext ⟨fun ⟨_, xs, e, h⟩ => by cases e; exact ⟨xs, h⟩, fun ⟨xs, h⟩ => ⟨p, xs, rfl, h⟩⟩
theorem w_gCons : gCons g gs (v :: vs) σ H R = g v σ H fun σ' H' => gs vs σ' H' R := propext ⟨fun ⟨_, _, e, h⟩ => by cases e; exact h, fun h => ⟨v, vs, rfl, h⟩⟩
theorem w_gNil : gNil [] σ H R = R σ H := propext ⟨fun h => h.2, fun h => ⟨rfl, h⟩⟩
end
end L2
set_option Elab.async false
set_option linter.all false
set_option maxRecDepth 100000
set_option maxHeartbeats 4000000
namespace HT
open PySem PyProof.Rows
section
variable {prog : Program} {w : World} {A : Around} {E : Value → Shared → Prop} {s : Shared}
theorem getItem_tuple_whole {t sl : Addr} {items : Array Value} {vl vu : Value} {lo hi : Option Int} {Q : Value → Shared → Prop} (ht : IsTup s.heap t items) (hs : s.heap.IsSliceOf sl vl vu .none) (pl : IsPart vl lo) (pu : IsPart vu hi)
    (hw : sIx items.size 0 lo = 0 ∧ sIx items.size items.size hi = items.size) (h : Q (.ref t) s) : wpAny (model prog w) A (getItem (.ref t) (.ref sl)) Q E s := by
  obtain ⟨os, hos, hcs, hds⟩ := id hs
  have hTs : s.TypeIs (.ref sl) "slice" := ⟨os, hos, hcs⟩
  unfold getItem
  try with_reducible refine wpAny_holding ?_
  first | refine wpAny_bind (wpAny_pure ?_) | skip
  refine wpAny_bind (wpAny_sequenceKey ht.typeIs (by decide) ?_)
  refine wpAny_bind (wpAny_callSpecial?_slot (name := Str.ofString "__getitem__") ht.typeIs PyProof.Rows.slot_tuple_getitem
    (wpAny_call_entry PyProof.Rows.slot_tuple_getitem ht.typeIs entry_tuple_getitem ?_ (args_tuple_getitem _ _)))
  show wpAny _ _ (Builtin.Tuple.tupleItemsOf (.ref t) >>= _) _ _ s
  refine wpAny_bind (tupleItemsOf_ ht ?_)
  refine wpAny_bind (wpAny_typeOf hTs ?_)
  rw [if_pos (by decide)]
  refine wpAny_bind (sliceApplied_gen hs pl pu ?_)
  show wpAny _ _ (if (((sIx items.size 0 lo : Nat) : Int) == 0 && (1 : Int) == 1 && (sIx items.size items.size hi - sIx items.size 0 lo) == items.size) = true then _ else _) _ _ s
  rw [hw.1, hw.2, if_pos (by simp)]
  refine wpAny_bind (m := Builtin.Tuple.tupleIsExact _) (wpAny_bind (wpAny_typeOf ht.typeIs (wpAny_pure ?_)))
  rw [if_pos (by decide)]
  exact wpAny_bind (wpAny_rule (wpAny_pure ⟨_, rfl, wpAny_pure h⟩))
theorem cat_tup0 {t b : Addr} {vs ws : List Value} {Q : Value → Shared → Prop} (ht : IsTup s.heap t vs.toArray) (hb : IsTup s.heap b ws.toArray) (hv : vs = [])
    (h1 : Q (.ref b) s) : wpAny (model prog w) A (binaryOp .Add (.ref t) (.ref b)) Q E s := by
  obtain ⟨⟨cls, dd, data, sl⟩, ho, hc, n, hd⟩ := id ht
  obtain ⟨⟨cls2, dd2, data2, sl2⟩, ho2, hc2, n2, hd2⟩ := id hb
  simp only at hc hd hc2 hd2
  subst hc hd hc2 hd2
  exact concat_meets ⟨_, ho, rfl⟩ ⟨_, ho2, rfl⟩ noFill_tuple_add seq_tuple_add PySem.F.slot_tuple_add PySem.F.entry_tuple_add (PySem.F.args_tuple_add_2 _ _)
      (tuple_addW0 t b vs.toArray ws.toArray n n2 dd dd2 sl sl2 (by simp [hv])) ⟨ho, ho2, h1⟩
end
end HT
namespace L2
open PySem PySem.Spec PyProof.Rows
section
variable {X : Cx}
def rSlT2 (K : PySem.W.Frag) : V → Option Int → Option Int → Hp → VK → Prop := fun x lo hi H Q => ∃ a xs, x = .ref a ∧ SqT K H a xs ∧ ∀ q H', Same H H' → SqT K H' q (cutV xs lo hi) → Q (.ref q) H'
theorem sl_tup2 : SlR X (rSlT2 X.K) := by
  intro pins s σ H x v vl vu lo hi sl Q I rx hs pl pu h
  obtain ⟨a, xs, rfl, hx, q⟩ := h
  by_cases hw : HT.sIx xs.length 0 lo = 0 ∧ HT.sIx xs.length xs.length hi = xs.length
  · cases rx
    obtain ⟨its, r, ht, hz⟩ := I.tuple hx
    have hlen : its.toArray.size = xs.length := by rw [List.size_toArray]; exact r.length.symm
    refine ⟨"tuple", _, PyProof.Rows.slot_tuple_getitem.lookup, ht.typeIs, ?_⟩
    refine HT.getItem_tuple_whole ht hs pl pu (by rw [hlen]; exact hw) ⟨.ref a, H, I, rfl, q a H (Same.refl H) ?_⟩
    have e : cutV xs lo hi = xs := by unfold cutV; rw [hw.1, hw.2]; simp
    rw [e]; exact hx
  · exact sl_tup pins s σ H _ v vl vu lo hi sl Q I rx hs pl pu ⟨a, xs, rfl, hx, hw, fun p hp => q p _ (same_new hp _) (SqT.of upd_same)⟩
def rSlB (K : PySem.W.Frag) : V → Option Int → Option Int → Hp → VK → Prop := fun x lo hi H Q => rSlS x lo hi H Q ∨ (rSlL K x lo hi H Q ∨ rSlT2 K x lo hi H Q)
theorem slB (K : PySem.W.Frag) (hK : X.K = K := by rfl) : SlR X (rSlB K) := hK ▸ (SlR.or sl_str (SlR.or sl_list sl_tup2) : SlR X (rSlB X.K))
def rCatT2 (K : PySem.W.Frag) : R2 := fun x y H Q => ∃ a b xs ys, x = .ref a ∧ y = .ref b ∧ SqT K H a xs ∧ SqT K H b ys ∧ xs.length + ys.length ≤ sizeLine ∧ ∀ q H', Same H H' → SqT K H' q (xs ++ ys) → Q (.ref q) H'
theorem op_catT2 : OpR X (binaryOp .Add) (rCatT2 X.K) := by
  intro pins s σ H x y v u Q I rx ry h
  obtain ⟨a, b, xs, ys, rfl, rfl, ha, hb, hz, q⟩ := h
  by_cases hx : xs = []
  · subst hx
    cases rx; cases ry
    obtain ⟨its, r1, p1, _⟩ := I.tuple ha
    obtain ⟨its2, r2, p2, _⟩ := I.tuple hb
    exact HT.cat_tup0 p1 p2 (r1.nil_iff.mpr rfl) ⟨.ref b, H, I, rfl, q b H (Same.refl H) hb⟩
  · exact op_catT pins s σ H _ _ v u Q I rx ry ⟨a, b, xs, ys, rfl, rfl, ha, hb, hx, hz, fun e => q a H (Same.refl H) (by subst e; rw [List.append_nil]; exact ha), fun _ p hp => q p _ (same_new hp _) (SqT.of upd_same)⟩
def rAddB (K : PySem.W.Frag) : R2 := fun x y H Q => rI0 (fun i j => .int (i + j)) x y H Q ∨ (rAddS x y H Q ∨ (rCat x y H Q ∨ rCatT2 K x y H Q))
theorem opB_add (K : PySem.W.Frag) (hK : X.K = K := by rfl) : OpR X (binaryOp .Add) (rAddB K) := hK ▸ (OpR.or op_add (OpR.or op_add_str (OpR.or op_cat op_catT2)) : OpR X (binaryOp .Add) (rAddB X.K))
end
section
variable {K : PySem.W.Frag} {σ : St} {H : Hp} {Q : VK} {D : Ends} {p q : Addr} {x y : Str} {i j : Int} {lo hi : Option Int} {a b : Bool} {tc : TT} {tb : TS} {ta : TA} {te : TE} {R : It → Hp → Prop}
theorem w_slSB : rSlB K (.str x) lo hi H Q = (x.length ≤ sizeLine ∧ Q (.str (Txt.slice x lo hi)) H) := by
  refine propext ⟨fun h => ?_, fun ⟨h, k⟩ => .inl ⟨x, rfl, h, k⟩⟩
  rcases h with ⟨_, e, h⟩ | ⟨_, _, e, _⟩ | ⟨_, _, e, _⟩
  · cases e; exact h
  · cases e
  · cases e
theorem w_slRB : rSlB K (.ref p) lo hi H Q = ∃ xs, (SqL K H p xs ∧ ∀ q, H q = none → Q (.ref q) (upd H q (.lst (cutV xs lo hi)))) ∨
    (SqT K H p xs ∧ ∀ q H', Same H H' → SqT K H' q (cutV xs lo hi) → Q (.ref q) H') := by
  refine propext ⟨fun h => ?_, fun ⟨xs, h⟩ => ?_⟩
  · rcases h with ⟨_, e, _⟩ | ⟨_, xs, e, h⟩ | ⟨_, xs, e, h⟩
    · cases e
    · cases e; exact ⟨xs, .inl h⟩
    · cases e; exact ⟨xs, .inr h⟩
  · rcases h with h | h
    · exact .inr (.inl ⟨p, xs, rfl, h⟩)
    · exact .inr (.inr ⟨p, xs, rfl, h⟩)
theorem w_addIB : rAddB K (.int i) (.int j) H Q = Q (.int (i + j)) H := by
  refine propext ⟨fun h => ?_, fun h => .inl ⟨i, j, rfl, rfl, h⟩⟩
  rcases h with ⟨_, _, e1, e2, h⟩ | ⟨_, _, e, _⟩ | ⟨_, _, _, _, e, _⟩ | ⟨_, _, _, _, e, _⟩
  · cases e1; cases e2; exact h
  · cases e
  · cases e
  · cases e
theorem w_addSB : rAddB K (.str x) (.str y) H Q = (x.length + y.length ≤ sizeLine ∧ Q (.str (x ++ y)) H) := by
  refine propext ⟨fun h => ?_, fun ⟨h, k⟩ => .inr (.inl ⟨x, y, rfl, rfl, h, k⟩)⟩
  rcases h with ⟨_, _, e, _⟩ | ⟨_, _, e1, e2, h⟩ | ⟨_, _, _, _, e, _⟩ | ⟨_, _, _, _, e, _⟩
  · cases e
  · cases e1; cases e2; exact h
  · cases e
  · cases e
theorem w_catRB : rAddB K (.ref p) (.ref q) H Q = ∃ xs zs, (H p = some (.lst xs) ∧ H q = some (.lst zs) ∧ xs.length + zs.length ≤ sizeLine ∧ ∀ r, H r = none → Q (.ref r) (upd H r (.lst (xs ++ zs)))) ∨
    (SqT K H p xs ∧ SqT K H q zs ∧ xs.length + zs.length ≤ sizeLine ∧ ∀ r H', Same H H' → SqT K H' r (xs ++ zs) → Q (.ref r) H') := by
  refine propext ⟨fun h => ?_, fun ⟨xs, zs, h⟩ => ?_⟩
  · rcases h with ⟨_, _, e, _⟩ | ⟨_, _, e, _⟩ | ⟨_, _, xs, zs, e1, e2, h⟩ | ⟨_, _, xs, zs, e1, e2, h⟩
    · cases e
    · cases e
    · cases e1; cases e2; exact ⟨xs, zs, .inl h⟩
    · cases e1; cases e2; exact ⟨xs, zs, .inr h⟩
  · rcases h with h | h
    · exact .inr (.inr (.inl ⟨p, q, xs, zs, rfl, rfl, h⟩))
    · exact .inr (.inr (.inr ⟨p, q, xs, zs, rfl, rfl, h⟩))
theorem w_instBlB {T : String} : rInstB K T [.bl a, .ty T] H Q = ∃ c, PySem.W.kitOne K (.type "bool") (.type T) = some c ∧ Q (.bl c) H := by
  refine propext ⟨fun ⟨_, _, b, e, t, h⟩ => ?_, fun ⟨b, h⟩ => ⟨_, _, b, rfl, .of (.bl a), h⟩⟩
  cases e
  rcases t with t | t | t
  cases t; exact ⟨b, h⟩
theorem w_eqBl : rEq (.bl a) (.bl b) H Q = Q (.bl (decide (a = b))) H := by
  refine propext ⟨fun ⟨_, h⟩ => ?_, fun h => ⟨rfl, ?_⟩⟩
  · rw [dec_bl] at h; exact h
  · rw [dec_bl]; exact h
theorem w_neBl : rNe (.bl a) (.bl b) H Q = Q (.bl (!decide (a = b))) H := by
  refine propext ⟨fun ⟨_, h⟩ => ?_, fun h => ⟨rfl, ?_⟩⟩
  · rw [dec_bl] at h; exact h
  · rw [dec_bl]; exact h
theorem w_eqBlB : rEqB K (.bl a) (.bl b) H Q = Q (.bl (decide (a = b))) H := by
  refine propext ⟨fun h => ?_, fun h => .inl (w_eqBl ▸ h)⟩
  rcases h with h | ⟨d, b, hd, h, _⟩
  · rw [w_eqBl] at h; exact h
  · rcases h with h | h <;> cases h
theorem w_eqBlC : rEqC K (.bl a) (.bl b) H Q = Q (.bl (decide (a = b))) H := by
  refine propext ⟨fun h => ?_, fun h => .inl (w_eqBl ▸ h)⟩
  rcases h with h | ⟨d, d', h, _⟩
  · rw [w_eqBl] at h; exact h
  · cases h
theorem w_neBlC : rNeC K (.bl a) (.bl b) H Q = Q (.bl (!decide (a = b))) H := by
  refine propext ⟨fun h => ?_, fun h => .inl (w_neBl ▸ h)⟩
  rcases h with h | ⟨d, d', h, _⟩
  · rw [w_neBl] at h; exact h
  · cases h
theorem w_break : tBreak D σ H = D.bk σ H := rfl
theorem w_rng2 : iRng2 ta σ H R = ta σ H fun vs H1 => ∃ i j : Int, vs = [.int i, .int j] ∧ (-(2 ^ 62) ≤ i ∧ i < 2 ^ 62 ∧ -(2 ^ 62) ≤ j ∧ j < 2 ^ 62) ∧ R (Itr i (j - i).toNat) H1 := rfl
theorem w_isN : tIsN te σ H Q = te σ H fun x H1 => Q (.bl (decide (x = .non))) H1 := rfl
theorem w_while : tWhile tc tb D σ H = ∃ W : Nat → St → Hp → Prop, (∃ m, W m σ H) ∧ ∀ m σ H, W m σ H →
  tc σ H fun b H1 => if b = true then ∃ N : St → Hp → Prop, (∀ σ' H', N σ' H' → ∃ m', m' < m ∧ W m' σ' H') ∧ tb { D with nx := N, ct := N, bk := D.nx } σ H1 else D.nx σ H1 := rfl
theorem w_ltS : rLtA (.str x) (.str y) H Q = Q (.bl (decide (x.cps.toList < y.cps.toList))) H := by
  refine propext ⟨fun h => ?_, fun h => .inr ⟨x, y, rfl, rfl, h⟩⟩
  rcases h with ⟨_, _, e, _⟩ | ⟨_, _, e1, e2, h⟩
  · cases e
  · cases e1; cases e2; exact h
theorem cut_to (xs : List V) (n : Nat) : cutV xs none (some (n : Int)) = xs.take n := by
  unfold cutV
  rw [HT.sIx_none, HT.sIx_nat, List.drop_zero, Nat.sub_zero]
  by_cases h : n ≤ xs.length
  · rw [Nat.min_eq_left h]
  · rw [Nat.min_eq_right (by omega), List.take_of_length_le (Nat.le_refl _), List.take_of_length_le (by omega)]
theorem cut_but1 (xs : List V) : cutV xs none (some (-1)) = xs.take (xs.length - 1) := by
  unfold cutV
  rw [HT.sIx_none, List.drop_zero, Nat.sub_zero]
  show List.take ((-1 : Int) + (xs.length : Int)).toNat xs = _
  congr 1
  omega
theorem SqT.keepL {xs ys zs : List V} (h : SqT K H q xs) (hp : H p = some (.lst ys)) : SqT K (upd H p (.lst zs)) q xs := by
  rcases h with (h | ⟨o, h⟩) | h
  · exact .inl (.inl (by rw [upd_ne]; exact h; rintro rfl; rw [hp] at h; cases h))
  · exact .inl (.inr ⟨o, by rw [upd_ne]; exact h; rintro rfl; rw [hp] at h; cases h⟩)
  · exact .inr h
end
end L2
set_option Elab.async false
set_option linter.all false
set_option maxRecDepth 100000
set_option maxHeartbeats 4000000
namespace L2
open PySem PySem.Spec PyProof.Rows
def opn (r : Str) : Bool := inV (.str r) [V.str "guess", V.str "new", V.str "case"]
def o1 (r : Str) : Nat := if opn r = true then 1 else 0
def nxt (k : Nat) (r : Str) (l : Nat) (p : List Nat) : List Nat := if opn r = true then p.take (l - 1) ++ [k] else p.take l
def pathAt (rs : List Str) (g : Nat → Nat) : Nat → List Nat
  | 0 => []
  | i + 1 => nxt i (rs.getD i "") (g i) (pathAt rs g i)
theorem pathAt_lt (rs : List Str) (g : Nat → Nat) : ∀ (i x : Nat), x ∈ pathAt rs g i → x < i
  | 0, x, h => by simp [pathAt] at h
  | i + 1, x, h => by
    unfold pathAt nxt at h
    split at h
    · rcases List.mem_append.mp h with h | h
      · have := pathAt_lt rs g i x (List.mem_of_mem_take h); omega
      · rw [List.mem_singleton.mp h]; omega
    · have := pathAt_lt rs g i x (List.mem_of_mem_take h); omega
theorem pairwise_take {l : List Nat} (h : l.Pairwise (· < ·)) (n : Nat) : (l.take n).Pairwise (· < ·) := h.sublist (List.take_sublist n l)
theorem pathAt_up (rs : List Str) (g : Nat → Nat) : ∀ i : Nat, (pathAt rs g i).Pairwise (· < ·)
  | 0 => by simp [pathAt]
  | i + 1 => by
    unfold pathAt nxt
    split
    · rw [List.pairwise_append]
      refine ⟨pairwise_take (pathAt_up rs g i) _, List.pairwise_singleton _ _, fun a ha b hb => ?_⟩
      rw [List.mem_singleton.mp hb]
      exact pathAt_lt rs g i a (List.mem_of_mem_take ha)
    · exact pairwise_take (pathAt_up rs g i) _
theorem path_len (rs : List Str) (g : Nat → Nat) : ∀ i : Nat, (pathAt rs g i).length ≤ i
  | 0 => by simp [pathAt]
  | i + 1 => by
    have ih := path_len rs g i
    show (nxt i (rs.getD i "") (g i) (pathAt rs g i)).length ≤ i + 1
    unfold nxt
    split
    · rw [List.length_append, List.length_take]; simp only [List.length_singleton]; omega
    · rw [List.length_take]; omega
theorem pathAt_later (rs : List Str) (g : Nat → Nat) (i : Nat) : ∀ d : Nat, ∃ m r, pathAt rs g (i + d) = (pathAt rs g i).take m ++ r ∧ ∀ x ∈ r, i ≤ x
  | 0 => ⟨(pathAt rs g i).length, [], by simp, by simp⟩
  | d + 1 => by
    obtain ⟨m, r, e, hr⟩ := pathAt_later rs g i d
    have key : ∀ n, ∃ m r, (pathAt rs g (i + d)).take n = (pathAt rs g i).take m ++ r ∧ ∀ x ∈ r, i ≤ x := fun n => by
      rw [e, List.take_append, List.take_take]
      exact ⟨_, _, rfl, fun x hx => hr x (List.mem_of_mem_take hx)⟩
    show ∃ m r, nxt (i + d) (rs.getD (i + d) "") (g (i + d)) (pathAt rs g (i + d)) = _ ∧ _
    unfold nxt
    split
    · obtain ⟨m, r, e, hr⟩ := key (g (i + d) - 1)
      refine ⟨m, r ++ [i + d], by rw [e, List.append_assoc], fun x hx => ?_⟩
      rcases List.mem_append.mp hx with h | h
      · exact hr x h
      · rw [List.mem_singleton.mp h]; omega
    · exact key _
theorem pathAt_open (rs : List Str) (g : Nat → Nat) {b : Nat} (h : opn (rs.getD b "") = true) : pathAt rs g (b + 1) = (pathAt rs g b).take (g b - 1) ++ [b] := by
  show nxt _ _ _ _ = _
  unfold nxt
  rw [if_pos h]
def endGo (f : Nat → List Nat) (b pl : Nat) : Nat → Nat → Nat → Nat
  | 0, _, e => e
  | n + 1, k, e => if (f k)[pl]? = some b then endGo f b pl n (k + 1) (if (f k).length = pl + 1 then k else e) else e
theorem endGo_succ (f : Nat → List Nat) (b pl n k e : Nat) : endGo f b pl (n + 1) k e = if (f k)[pl]? = some b then endGo f b pl n (k + 1) (if (f k).length = pl + 1 then k else e) else e := rfl
def iv (p : List Nat) : List V := p.map fun n : Nat => V.int n
theorem iv_len (p : List Nat) : (iv p).length = p.length := by simp [iv]
theorem iv_take (p : List Nat) (n : Nat) : (iv p).take n = iv (p.take n) := by simp [iv, List.map_take]
theorem iv_flat (p : List Nat) : (iv p).all flatV = true := by
  induction p with
  | nil => rfl
  | cons a p ih => exact ih
theorem iv_get {p : List Nat} {j n : Nat} (h : p[j]? = some n) : (iv p)[j]? = some (V.int n) := by simp [iv, h]
theorem inV_iv (b : Nat) (p : List Nat) : inV (.int b) (iv p) = decide (b ∈ p) := by
  induction p with
  | nil => rfl
  | cons a p ih =>
    show (eqV (.int a) (.int b) || inV (.int b) (iv p)) = _
    rw [ih]
    show ((a : Int) == (b : Int) || _) = _
    by_cases h : a = b
    · subst h; simp
    · have : ((a : Int) == (b : Int)) = false := by rw [beq_eq_false_iff_ne]; omega
      rw [this]
      simp [Ne.symm h]
def idt (p : List Nat) : Dt := .tup (p.map fun n : Nat => Dt.int n)
theorem ints_inj : ∀ {p q : List Nat}, (p.map fun n : Nat => Dt.int n) = (q.map fun n : Nat => Dt.int n) → p = q
  | [], [], _ => rfl
  | [], b :: q, h => by simp at h
  | a :: p, [], h => by simp at h
  | a :: p, b :: q, h => by
    simp only [List.map_cons, List.cons.injEq, Dt.int.injEq] at h
    rw [ints_inj h.2, show a = b from by have := h.1; omega]
theorem idt_inj {p q : List Nat} (h : idt p = idt q) : p = q := ints_inj (Dt.tup.inj h)
theorem idt_dec (p q : List Nat) : decide (idt p = idt q) = decide (p = q) := by
  by_cases h : p = q
  · subst h; simp
  · rw [decide_eq_false h, decide_eq_false (fun z => h (idt_inj z))]
theorem idt_dep (p : List Nat) : Dt.dep (idt p) ≤ 60 := by
  have : Dt.deps (p.map fun n : Nat => Dt.int n) = 0 := by
    induction p with
    | nil => rfl
    | cons a p ih => show max (Dt.dep (.int a)) (Dt.deps (p.map fun n : Nat => Dt.int n)) = 0; rw [ih]; rfl
  show Dt.deps (p.map fun n : Nat => Dt.int n) + 1 ≤ 60
  omega
section
variable {K : PySem.W.Frag} {H H' : Hp} {a q p : Addr} {us : List V} {f : Nat → List Nat}
theorem iv_repD {l : List Nat} (h : SqT K H a (iv l)) : RepD K H (idt l) (.ref a) :=
  .tup h (by simp [iv]) fun j d x h1 h2 => by
    unfold iv at h2
    rw [List.getElem?_map] at h1 h2
    cases e : l[j]? with
    | none => rw [e] at h1; cases h1
    | some t => rw [e] at h1 h2; cases h1; cases h2; exact .int t
theorem iv_repL {l : List Nat} (h : SqL K H a (iv l)) : RepD K H (.lst (l.map fun n : Nat => Dt.int n)) (.ref a) :=
  .lst h (by simp [iv]) fun j d x h1 h2 => by
    unfold iv at h2
    rw [List.getElem?_map] at h1 h2
    cases e : l[j]? with
    | none => rw [e] at h1; cases h1
    | some t => rw [e] at h1 h2; cases h1; cases h2; exact .int t
theorem ldt_dep (p : List Nat) : Dt.dep (.lst (p.map fun n : Nat => Dt.int n)) ≤ 60 := idt_dep p
def RepPs (K : PySem.W.Frag) (H : Hp) (f : Nat → List Nat) (us : List V) : Prop := ∀ i v, us[i]? = some v → ∃ a, v = .ref a ∧ SqT K H a (iv (f i))
theorem RepPs.same (e : Same H H') (h : RepPs K H f us) : RepPs K H' f us := fun i v hv => let ⟨a, e1, h1⟩ := h i v hv; ⟨a, e1, e.seqT h1⟩
theorem RepPs.nil : RepPs K H f [] := fun i v hv => by simp at hv
theorem RepPs.snoc (h : RepPs K H f us) (h1 : SqT K H a (iv (f us.length))) : RepPs K H f (us ++ [.ref a]) := fun i v hv => by
  rw [List.getElem?_append] at hv
  split at hv
  · exact h i v hv
  · next hi =>
    have e : i = us.length := by
      have := List.getElem?_eq_some_iff.mp hv
      obtain ⟨z, _⟩ := this
      simp at z; omega
    subst e
    simp at hv
    subst hv
    exact ⟨a, rfl, h1⟩
theorem RepPs.keepL {ys zs : List V} (h : RepPs K H f us) (hp : H p = some (.lst ys)) : RepPs K (upd H p (.lst zs)) f us := fun i v hv => let ⟨a, e1, h1⟩ := h i v hv; ⟨a, e1, h1.keepL hp⟩
theorem RepPs.at (h : RepPs K H f us) {i : Nat} (hi : i < us.length) : ∃ a, us[i]? = some (.ref a) ∧ SqT K H a (iv (f i)) := by
  obtain ⟨a, e, h1⟩ := h i us[i] (by simp [hi])
  exact ⟨a, by rw [← e]; simp [hi], h1⟩
end
def gv (g : Nat → Nat) (n : Nat) : List V := (List.range n).map fun j => V.int (g j)
theorem gv_len (g : Nat → Nat) (n : Nat) : (gv g n).length = n := by simp [gv]
theorem gv_get {g : Nat → Nat} {n j : Nat} (h : j < n) : (gv g n)[j]? = some (V.int (g j)) := by simp [gv, h]
theorem gv_snoc (g : Nat → Nat) (n l : Nat) : gv g n ++ [V.int l] = gv (fun j => if j = n then l else g j) (n + 1) := by
  unfold gv
  rw [List.range_succ, List.map_append]
  congr 1
  · refine List.map_congr_left fun j hj => ?_
    have : j ≠ n := by have := List.mem_range.mp hj; omega
    simp [this]
  · simp
def room (g : Nat → Nat) (j : Nat) : Nat := if j = 0 then 0 else g (j - 1)
def LvOk (rs : List Str) (g : Nat → Nat) (n : Nat) : Prop := ∀ j, j < n → o1 (rs.getD j "") ≤ g j ∧ g j ≤ room g j + o1 (rs.getD j "") ∧ g j ≤ 60
theorem LvOk.snoc {rs : List Str} {g : Nat → Nat} {n l : Nat} (h : LvOk rs g n) (h1 : o1 (rs.getD n "") ≤ l) (h2 : l ≤ room g n + o1 (rs.getD n "")) (h3 : l ≤ 60) : LvOk rs (fun j => if j = n then l else g j) (n + 1) := fun j hj => by
  by_cases e : j = n
  · subst e
    have er : room (fun i => if i = j then l else g i) j = room g j := by
      unfold room
      by_cases z : j = 0
      · simp [z]
      · rw [if_neg z, if_neg z]; show (if _ then _ else _) = _; rw [if_neg (by omega)]
    rw [er]
    simp only [if_true]
    exact ⟨h1, h2, h3⟩
  · have er : room (fun i => if i = n then l else g i) j = room g j := by
      unfold room
      by_cases z : j = 0
      · simp [z]
      · rw [if_neg z, if_neg z]; show (if _ then _ else _) = _; rw [if_neg (by omega)]
    rw [er]
    simp only [if_neg e]
    exact h j (by omega)
theorem at0 {α : Type} {xs : List α} {i : Nat} {v : α} (h : xs[i]? = some v) : atI xs (0 + (i : Int)) = some v := by rw [Int.zero_add]; exact atI_nat h
theorem strs_get {rs : List Str} {i : Nat} (h : i < rs.length) : (rs.map V.str)[i]? = some (.str (rs.getD i "")) := by simp [h, List.getD_eq_getElem?_getD]
theorem o1_int (r : Str) : ((o1 r : Nat) : Int) = if opn r = true then 1 else 0 := by unfold o1; split <;> rfl
theorem room_up (g : Nat → Nat) (i l : Nat) : room (fun j => if j = i then l else g j) (i + 1) = l := by simp [room]
def rules8 : List Str := ["guess", "new", "case", "given", "again", "both", "use", "then"]
def spMix (K : PySem.W.Frag) : Sp := fun vs H Q _ => ∃ (a : Addr) (ns : List Int) (k : Int), vs = [.ref a, .int k] ∧ SqL K H a (ns.map V.int) ∧ 0 ≤ k ∧ k < 100000 ∧ ∀ n : Int, 0 ≤ n → n < 2147483629 → Q (.int n) H
def spLevelBy : Sp := fun vs H Q _ => ∃ (n r : Int) (b : Bool), vs = [.int n, .int r, .bl b] ∧ 0 ≤ r ∧ r ≤ 60 ∧ ∀ l : Nat, (if b = true then 1 else 0) ≤ l → (l : Int) ≤ r + (if b = true then 1 else 0) → l ≤ 60 → Q (.int l) H
def spRulesBy (K : PySem.W.Frag) : Sp := fun vs H Q _ => ∃ (a : Addr) (ns : List Int), vs = [.ref a] ∧ SqL K H a (ns.map V.int) ∧ ns.length ≤ 63 ∧ ∀ (p : Addr) (rs : List Str) H', Same H H' → H' p = some (.lst (rs.map V.str)) → rs.length ≤ 80 → (∀ r ∈ rs, r ∈ rules8) → Q (.ref p) H'
def spLevelsBy (K : PySem.W.Frag) : Sp := fun vs H Q _ => ∃ (a b : Addr) (ns : List Int) (rs : List Str), vs = [.ref a, .ref b] ∧ SqL K H a (ns.map V.int) ∧ SqL K H b (rs.map V.str) ∧ rs.length ≤ 80 ∧
  ∀ (p : Addr) (g : Nat → Nat) H', Same H H' → H' p = some (.lst (gv g rs.length)) → LvOk rs g rs.length → Q (.ref p) H'
def spBegins (K : PySem.W.Frag) : Sp := fun vs H Q _ => ∃ (a b : Addr) (p q : List Nat), vs = [.ref a, .ref b] ∧ SqT K H a (iv p) ∧ SqT K H b (iv q) ∧ ∀ H', Same H H' → Q (.bl (decide (p.take q.length = q))) H'
def spSeen (K : PySem.W.Frag) : Sp := fun vs H Q _ => ∃ (a : Addr) (us : List V) (f : Nat → List Nat) (k i : Nat), vs = [.ref a, .int k, .int i] ∧ SqT K H a us ∧ RepPs K H f us ∧ k < us.length ∧ i < us.length ∧
  ∀ H', Same H H' → Q (.bl (decide (i < k) && decide ((f k).take (f i).length = f i))) H'
def spBoxSeen (K : PySem.W.Frag) : Sp := fun vs H Q _ => ∃ (a : Addr) (us : List V) (f : Nat → List Nat) (k b : Nat), vs = [.ref a, .int k, .int b] ∧ SqT K H a us ∧ RepPs K H f us ∧ k < us.length ∧ b < us.length ∧
  ∀ H', Same H H' → Q (.bl (decide (b < k) && (decide (b ∉ f k) && decide ((f k).take ((f b).length - 1) = (f b).take ((f b).length - 1))))) H'
def spEndOf (K : PySem.W.Frag) : Sp := fun vs H Q _ => ∃ (a : Addr) (us : List V) (rs : List Str) (g : Nat → Nat) (b : Nat), vs = [.ref a, .int b] ∧ SqT K H a us ∧ RepPs K H (fun i => pathAt rs g (i + 1)) us ∧ b < us.length ∧ us.length ≤ 80 ∧ opn (rs.getD b "") = true ∧
  Q (.int (endGo (fun i => pathAt rs g (i + 1)) b ((pathAt rs g (b + 1)).length - 1) (us.length - b) b b)) H
end L2
set_option Elab.async false
set_option linter.all false
set_option maxRecDepth 100000
set_option maxHeartbeats 4000000
namespace L2
open PySem PySem.Spec PyProof.Rows
open AutoSeq1 (wpAny_loadPart')
section
variable {prog : Program} {w : World} {A : Around} {E : Value → Shared → Prop} {s : Shared}
theorem nextT_item {j t : Addr} {i : Nat} {us : Array Value} {v : Value} {R : Value → Shared → Prop} (hJ : s.heap.IsTupleIter j t i) (hT : s.heap.IsTuple t us) (hv : us[i]? = some v)
    (k : ∀ h1, h1.IsTupleIter j t (i + 1) → Heap.SameBut j s.heap h1 → R v { s with heap := h1 }) : wpAny (model prog w) A (Builtin.SmallTypes.nextOf (.ref j)) R E s := by
  obtain ⟨oj, gj, cj, dj⟩ := id hJ
  obtain ⟨ot, gt, _, n, dt⟩ := hT
  unfold Builtin.SmallTypes.nextOf
  refine wpAny_bind (wpAny_callSpecial?_slot (name := Str.ofString "__next__") hJ.typeIs PySem.F.slot_tuple_iterator_next (wpAny_call_entry PySem.F.slot_tuple_iterator_next hJ.typeIs PySem.F.entry_tuple_iterator_next ?_ (PySem.F.args_tuple_iterator_next_1 _)))
  show wpAny _ _ (field (.ref j) 0 >>= _) _ _ s
  refine wpAny_bind (wpAny_field gj dj (x := .ref t) rfl ?_)
  show wpAny _ _ (if ((Value.ref t : Value) == Value.none) = true then _ else _) _ _ s
  rw [if_neg (by intro z; cases z)]
  show wpAny _ _ (field (.ref j) 1 >>= _) _ _ s
  refine wpAny_bind (wpAny_field gj dj (x := .int i 0) rfl ?_)
  refine wpAny_bind (m := seqItems? (.ref t)) (wpAny_seqItems gt dt ?_)
  simp only [Int.toNat_natCast, hv]
  refine wpAny_bind (wpAny_setField gj dj (by simp) (wpAny_pure ⟨v, rfl, wpAny_pure (k _ ?_ (Heap.SameBut.update ..))⟩))
  refine ⟨_, Heap.get?_update_self _ gj (Obj.isFreed_of_fields (Obj.data_mapFields dj _)), (Obj.cls_mapFields ..).trans cj, ?_⟩
  rw [Obj.data_mapFields dj]
  simp [rawInt]
theorem nextT_end {j t : Addr} {i : Nat} {us : Array Value} {R : Value → Shared → Prop} (hh : A.handled = none) (hJ : s.heap.IsTupleIter j t i) (hT : s.heap.IsTuple t us) (hv : us[i]? = none)
    (k : ∀ h1 x, Heap.ExtBut j s.heap h1 → (∃ o, h1.get? x = some o ∧ o.cls = .type "StopIteration") → E (.ref x) { s with heap := h1 }) : wpAny (model prog w) A (Builtin.SmallTypes.nextOf (.ref j)) R E s := by
  obtain ⟨oj, gj, cj, dj⟩ := id hJ
  obtain ⟨ot, gt, _, n, dt⟩ := hT
  unfold Builtin.SmallTypes.nextOf
  refine wpAny_bind (wpAny_callSpecial?_slot (name := Str.ofString "__next__") hJ.typeIs PySem.F.slot_tuple_iterator_next (wpAny_call_entry PySem.F.slot_tuple_iterator_next hJ.typeIs PySem.F.entry_tuple_iterator_next ?_ (PySem.F.args_tuple_iterator_next_1 _)))
  show wpAny _ _ (field (.ref j) 0 >>= _) _ _ s
  refine wpAny_bind (wpAny_field gj dj (x := .ref t) rfl ?_)
  show wpAny _ _ (if ((Value.ref t : Value) == Value.none) = true then _ else _) _ _ s
  rw [if_neg (by intro z; cases z)]
  show wpAny _ _ (field (.ref j) 1 >>= _) _ _ s
  refine wpAny_bind (wpAny_field gj dj (x := .int i 0) rfl ?_)
  refine wpAny_bind (m := seqItems? (.ref t)) (wpAny_seqItems gt dt ?_)
  simp only [Int.toNat_natCast, hv]
  refine wpAny_bind (wpAny_rule (wpAny_bind (wpAny_setField gj dj (by simp) ?_)))
  show wpAny _ _ ((newExc (.type "StopIteration") []) >>= _) _ _ _
  refine wpAny_bind ?_
  simp only [newExc, newTuple]
  refine wpAny_bind (wpAny_newObj_type (wpAny_bind (m := firstArgMember _ _) (wpAny_of_eq (a := Value.none) (by first | rfl | (simp only [firstArgMember]; rfl)) (wpAny_newObj_type ?_ (by size_fits)))) (by size_fits))
  simp only [raiseNew]
  refine wpAny_bind (wpAny_handled ?_)
  first | rw [show A.in1.handled = none from hh] | rw [hh]
  refine wpAny_bind (wpAny_pure (wpAny_throw ?_))
  exact k _ _ (((Heap.SameBut.update ..).extBut.push _).push _) ⟨_, Heap.get?_push_size _ rfl, rfl⟩
theorem enumT_item {e j t : Addr} {i : Nat} {us : Array Value} {v old : Value} {R : Option Value → Shared → Prop} (hE : IsEnum s.heap e j i old) (hJ : s.heap.IsTupleIter j t i) (hT : s.heap.IsTuple t us) (hv : us[i]? = some v) (hne : e ≠ j)
    (k : ∀ (h3 h' : Heap), (∀ b o, b ≠ e → b ≠ j → s.heap.get? b = some o → h3.get? b = some o) → h3.objs.size = s.heap.objs.size →
      Heap.SameBut e (h3.push { cls := .type "tuple", data := .seq #[.int i s.toks, v] }) h' → IsEnumOut h' e j ((i : Int) + 1) v s.heap.objs.size → h'.IsTupleIter j t (i + 1) →
      R (some (.ref s.heap.objs.size)) { s with heap := h', toks := s.toks + 1 }) : wpAny (model prog w) A (pyNext (.ref e)) R E s := by
  have hTy : s.TypeIs (.ref e) "enumerate" := ⟨_, hE, rfl⟩
  unfold pyNext
  refine wpAny_bind (wpAny_attempt (wpAny_callSpecial?_slot (name := Str.ofString "__next__") hTy PySem.F.slot_enumerate_next (wpAny_call_entry PySem.F.slot_enumerate_next hTy PySem.F.entry_enumerate_next ?_ (PySem.F.args_enumerate_next_1 _))))
  obtain ⟨hp, g, d, tk, os⟩ := s
  show wpAny _ _ (field (.ref e) 2 >>= _) _ _ _
  refine wpAny_bind (wpAny_field hE rfl (x := .ref j) rfl (wpAny_bind (nextT_item hJ hT hv fun h1 hJ1 hs1 => ?_)))
  replace hs1 : Heap.SameBut j hp h1 := hs1
  have e1 : IsEnum h1 e j i old := (hs1.2 e hne).trans hE
  show wpAny _ _ (field (.ref e) 3 >>= _) _ _ ⟨h1, g, d, tk, os⟩
  refine wpAny_bind (wpAny_field e1 rfl (x := rawInt i) rfl ?_)
  show wpAny _ _ (field (.ref e) 4 >>= _) _ _ ⟨h1, g, d, tk, os⟩
  refine wpAny_bind (wpAny_field e1 rfl (x := .none) rfl ?_)
  show wpAny _ _ (mkInt i >>= _) _ _ ⟨h1, g, d, tk, os⟩
  refine wpAny_bind (wpAny_mkInt ?_)
  show wpAny _ _ (setField (.ref e) 3 (rawInt ((i : Int) + 1)) >>= _) _ _ ⟨h1, g, d, tk + 1, os⟩
  refine wpAny_bind (wpAny_setField_rec e1 (by simp) fun h2 e2 hs2 => ?_)
  replace hs2 : Heap.SameBut e h1 h2 := hs2
  replace e2 : IsEnum h2 e j ((i : Int) + 1) old := e2
  show wpAny _ _ (setField (.ref e) 4 .none >>= _) _ _ ⟨h2, g, d, tk + 1, os⟩
  refine wpAny_bind (wpAny_setField_rec e2 (by simp) fun h3 e3 hs3 => ?_)
  replace hs3 : Heap.SameBut e h2 h3 := hs3
  replace e3 : IsEnum h3 e j ((i : Int) + 1) old := e3
  show wpAny _ _ (newTuple [.int i tk, v] >>= _) _ _ ⟨h3, g, d, tk + 1, os⟩
  refine wpAny_bind (wpAny_newTuple ?_)
  have hsz : h3.objs.size = hp.objs.size := by rw [hs3.1, hs2.1, hs1.1]
  have hJ3 : h3.IsTupleIter j t (i + 1) := (hJ1.extBut hs2.extBut (Ne.symm hne)).extBut hs3.extBut (Ne.symm hne)
  have k3 : ∀ b o, b ≠ e → b ≠ j → hp.get? b = some o → h3.get? b = some o := fun b o he hj hb => hs3.extBut b o he (hs2.extBut b o he (hs1.extBut b o hj hb))
  have e4 : IsEnum (h3.push { cls := .type "tuple", data := .seq #[.int i tk, v] }) e j ((i : Int) + 1) old := Heap.get?_push_of_some _ e3
  have hJ4 : (h3.push { cls := .type "tuple", data := .seq #[.int i tk, v] }).IsTupleIter j t (i + 1) := let ⟨o, a, r⟩ := hJ3; ⟨o, Heap.get?_push_of_some _ a, r⟩
  have k' := k h3
  generalize h3.push { cls := .type "tuple", data := .seq #[.int i tk, v] } = h4 at e4 hJ4 k'
  show wpAny _ _ (Builtin.SmallTypes.ownedTupleIsFree (.ref e) >>= _) _ _ ⟨h4, g, d, tk + 1, os⟩
  rw [hsz]
  refine wpAny_bind ?_
  unfold Builtin.SmallTypes.ownedTupleIsFree
  refine wpAny_bind (wpAny_field e4 rfl (x := .none) rfl (wpAny_pure ?_))
  simp only [if_true]
  refine wpAny_bind (wpAny_rule (wpAny_bind (wpAny_field e4 rfl (x := old) rfl (wpAny_bind (wpAny_setField_rec e4 (by simp) fun h5 e5 hs5 => ?_)))))
  replace hs5 : Heap.SameBut e h4 h5 := hs5
  replace e5 : IsEnum h5 e j ((i : Int) + 1) v := e5
  show wpAny _ _ (Builtin.SmallTypes.ownedTupleHandOut (.ref e) (.ref hp.objs.size) >>= _) _ _ ⟨h5, g, d, tk + 1, os⟩
  refine wpAny_bind ?_
  unfold Builtin.SmallTypes.ownedTupleHandOut
  refine wpAny_bind (wpAny_setField_rec e5 (by simp) fun h6 e6 hs6 => ?_)
  replace hs6 : Heap.SameBut e h5 h6 := hs6
  replace e6 : IsEnumOut h6 e j ((i : Int) + 1) v hp.objs.size := e6
  refine wpAny_setField_rec e6 (by simp) fun h7 e7 hs7 => ?_
  replace hs7 : Heap.SameBut e h6 h7 := hs7
  replace e7 : IsEnumOut h7 e j ((i : Int) + 1) v hp.objs.size := e7
  have hs : Heap.SameBut e h4 h7 := ⟨by rw [hs7.1, hs6.1, hs5.1], fun b hb => (hs7.2 b hb).trans ((hs6.2 b hb).trans (hs5.2 b hb))⟩
  exact wpAny_bind (wpAny_letGo (wpAny_pure ⟨_, rfl, wpAny_pure (k' h7 k3 hsz hs e7 (hJ4.extBut hs.extBut (Ne.symm hne)))⟩))
theorem enumT_end {e j t : Addr} {i : Nat} {us : Array Value} {old : Value} {R : Option Value → Shared → Prop} (hh : A.handled = none) (hE : IsEnum s.heap e j i old) (hJ : s.heap.IsTupleIter j t i) (hT : s.heap.IsTuple t us) (hv : us[i]? = none)
    (k : ∀ h1, Heap.ExtBut j s.heap h1 → R none { s with heap := h1 }) : wpAny (model prog w) A (pyNext (.ref e)) R E s := by
  have hTy : s.TypeIs (.ref e) "enumerate" := ⟨_, hE, rfl⟩
  unfold pyNext
  refine wpAny_bind (wpAny_attempt (wpAny_callSpecial?_slot (name := Str.ofString "__next__") hTy PySem.F.slot_enumerate_next (wpAny_call_entry PySem.F.slot_enumerate_next hTy PySem.F.entry_enumerate_next ?_ (PySem.F.args_enumerate_next_1 _))))
  show wpAny _ _ (field (.ref e) 2 >>= _) _ _ _
  refine wpAny_bind (wpAny_field hE rfl (x := .ref j) rfl (wpAny_bind (nextT_end hh hJ hT hv fun h1 x hb ⟨o, ho, hc⟩ => ?_)))
  exact wpAny_bind (wpAny_isInstance (T := "StopIteration") (b := true) ⟨o, ho, hc⟩ isSubtype_stop (wpAny_pure (k _ hb)))
theorem enumT_newM (l : Addr) (us : Array Value) (n : Nat) (dct : Option Addr) (sl : Array (Option Value)) :
    Meets (Builtin.«enumerate.__new__» ⟨[.type "enumerate", .ref l], []⟩) (fun _ R s => s.heap.get? l = some { cls := .type "tuple", dict := dct, data := .seq us n, slots := sl } ∧
      R (.ok (.ret (.ref (s.heap.push { cls := .type "tuple_iterator", data := .fields #[.ref l, .int 0 0] }).objs.size)))
        { s with heap := (s.heap.push { cls := .type "tuple_iterator", data := .fields #[.ref l, .int 0 0] }).push { cls := .type "enumerate", data := .fields #[.none, .bool false, .ref s.heap.objs.size, rawInt 0, .none, .none] } }) :=
  .of_wp fun prog w A R s z => by
    obtain ⟨hp, g, d, tk, os⟩ := s; obtain ⟨hl, z⟩ := z
    have hsub := sub_enumerate
    have hL : Heap.IsTuple (Shared.heap ⟨hp, g, d, tk, os⟩) l us := ⟨_, hl, rfl, n, rfl⟩
    wp_walk using wpAny_loadPart' hl
    refine wpAny_stack_any fun st => wpAny_pure ?_
    split
    · rename_i c _ _ _ _ _
      cases (c == Value.type "enumerate") <;> (wp_walk using wpAny_loadPart' hl, wpAny_pyIter_tuple hL; exact ⟨_, rfl, z⟩)
    · wp_walk using wpAny_loadPart' hl, wpAny_pyIter_tuple hL; exact ⟨_, rfl, z⟩
theorem enumT_new {l : Addr} {us : Array Value} {R : Value → Shared → Prop} (hL : s.heap.IsTuple l us)
    (k : ∀ h', IsEnum h' (s.heap.objs.size + 1) s.heap.objs.size 0 .none → h'.IsTupleIter s.heap.objs.size l 0 → h'.objs.size = s.heap.objs.size + 2 →
      (∀ b o, s.heap.get? b = some o → h'.get? b = some o) → R (.ref (s.heap.objs.size + 1)) { s with heap := h' }) : wpAny (model prog w) A (call (.type "enumerate") [.ref l]) R E s := by
  obtain ⟨⟨c, dct, dt, sl⟩, hl, hc, n, hd⟩ := hL
  replace hc : c = .type "tuple" := hc
  replace hd : dt = .seq us n := hd
  subst hc hd
  have hz : (s.heap.push { cls := .type "tuple_iterator", data := .fields #[.ref l, .int 0 0] }).objs.size = s.heap.objs.size + 1 := Heap.size_push ..
  have he := Heap.get?_push_size (s.heap.push { cls := .type "tuple_iterator", data := .fields #[.ref l, .int 0 0] }) (o := { cls := .type "enumerate", data := .fields #[.none, .bool false, .ref s.heap.objs.size, rawInt 0, .none, .none] }) rfl
  rw [hz] at he
  refine callType_new PySem.F.called_enumerate (by decide) (PySem.F.typeCall_enumerate_1 _) (PySem.F.newCall_enumerate_1 _) (fun obj => PySem.F.args_object_init_2 obj _) PySem.F.entry_enumerate_new (enumT_newM l us n dct sl) ⟨hl, ?_⟩
  show _ ∧ _
  rw [hz]
  exact ⟨⟨_, he, rfl⟩, k _ he ⟨_, Heap.get?_push_of_some _ (Heap.get?_push_size _ rfl), rfl, rfl⟩ (by rw [Heap.size_push, hz]) fun b o x => Heap.get?_push_of_some _ (Heap.get?_push_of_some _ x)⟩
end
section
variable {X : Cx} {pins : List (Addr × Obj)} {σ : St} {H : Hp} {s : Shared} {h' : Heap}
theorem Inv.turned2 {t' : Nat} {e j : Addr} (I : Inv X pins σ H s) (k : ∀ b o, b ≠ e → b ≠ j → s.heap.get? b = some o → h'.get? b = some o) (fe : FpOk X pins H e) (fj : FpOk X pins H j) : Inv X pins σ H { s with heap := h', toks := t' } := by
  have ne : ∀ b u, H b = some u → b ≠ e := fun b u q z => by rw [z, fe.1] at q; cases q
  have nj : ∀ b u, H b = some u → b ≠ j := fun b u q z => by rw [z, fj.1] at q; cases q
  have k2 : ∀ b o, b ∉ [e, j] → s.heap.get? b = some o → h'.get? b = some o := fun b o hb q => k b o (fun z => hb (by simp [z])) (fun z => hb (by simp [z])) q
  refine I.step (g' := s.gens) (d' := s.drawn) (ch := [e, j]) (fun b hb => ?_) (fun b o _ _ hc q _ => k2 b o hc q) (fun b o _ _ hc q _ => ⟨o.slots, k2 b o hc q⟩) (fun _ _ _ _ n => n)
    (fun b o hc q => ⟨o, k2 b o hc q⟩) (fun _ _ q => q) (fun _ _ _ q => q) (fun b ps q => ⟨#[], by rw [q]; simp⟩) (fun m hm => ?_) (fun b u q => ?_) I.bare
  · rcases List.mem_cons.mp hb with rfl | hb
    · exact ⟨fe.2.2.2.1, fe.2.1, fe.2.2.2.2.1, fe.2.2.2.2.2⟩
    · rw [List.mem_singleton.mp hb]; exact ⟨fj.2.2.2.1, fj.2.1, fj.2.2.2.2.1, fj.2.2.2.2.2⟩
  · obtain ⟨o, es, ep, ho, r⟩ := hm
    exact ⟨o, es, ep, k _ o (Ne.symm fe.2.1) (Ne.symm fj.2.1) ho, r⟩
  · refine (I.hok b u q).stay (fun c v hc q2 => ?_) (fun _ q => q) fun _ _ q => q
    rcases hc with z | z
    · rw [z] at q2 ⊢; exact k b v (ne b u q) (nj b u q) q2
    · exact k c v (ne c _ z) (nj c _ z) q2
end
def Ite (K : PySem.W.Frag) (a : Addr) : It :=
  ⟨fun i H => ∃ xs x, SqT K H a xs ∧ xs[i]? = some x, fun i H v H' => ∃ t y, v = .ref t ∧ H t = none ∧ H' = upd H t (.tup [.int i, y]) ∧ ∀ xs, SqT K H a xs → xs[i]? = some y, fun i H => ∃ xs, SqT K H a xs ∧ xs.length ≤ i⟩
theorem turn_enum {P : Program} {w : World} {K : PySem.W.Frag} {es : List Expr} {kx : Nat} {pos : Pos} (a e j : Addr) (hne : e ≠ j) : Turn P w K (.Tuple es kx pos) (Ite K a) [e, j] e (fun i h => (∃ old, IsEnum h e j i old) ∧ h.IsTupleIter j a i) where
  mem := by simp
  obj := fun i h st b hb => by
    obtain ⟨⟨old, he⟩, hj⟩ := st
    rcases List.mem_cons.mp hb with rfl | hb
    · exact ⟨_, he, fun v z => by
        have z' : Data.fields _ = Data.cell v := z
        cases z'⟩
    · rw [List.mem_singleton.mp hb]
      obtain ⟨o, e1, c, d⟩ := hj
      exact ⟨o, e1, fun v z => by rw [d] at z; cases z⟩
  keep := fun i h h' st k => let ⟨⟨old, he⟩, hj⟩ := st; ⟨⟨old, k e (by simp) _ he⟩, hj.at fun o q => k j (by simp) o q⟩
  item := by
    intro X hP hw hK hc i pins s σ H E I hf st hg
    subst hP hw hK
    obtain ⟨xs, x, hq, hx⟩ := hg
    obtain ⟨its, rv, p, hz⟩ := I.tuple hq
    obtain ⟨u, hu, ru⟩ := rv.get hx
    have fe := hf e (by simp)
    have fj := hf j (by simp)
    obtain ⟨⟨old, he⟩, hj⟩ := st
    have hlt : e < s.heap.objs.size := Heap.lt_size he
    have hltj : j < s.heap.objs.size := let ⟨_, q, _⟩ := hj; Heap.lt_size q
    refine enumT_item he hj (show s.heap.IsTuple a its.toArray from p) (v := u) (by simpa using hu) hne fun h3 h' k3 hsz hs ho hj' => ?_
    have I3 : Inv X pins σ H { s with heap := h3, toks := s.toks + 1 } := I.turned2 k3 fe fj
    have I4 : Inv X pins σ (upd H s.heap.objs.size (.tup [.int i, x])) { s with heap := h3.push { cls := .type "tuple", data := .seq #[.int i s.toks, u] }, toks := s.toks + 1 } := by
      rw [← hsz]
      exact I3.laid (t' := s.toks + 1) (fun b o q => Heap.get?_push_of_some _ q) (Nat.le_refl _) ⟨sz1000 (by decide : 2 ≤ 100000), _, .cons ⟨s.toks, rfl⟩ (.cons ru .nil), IsTup.new _ _⟩
    have ne : upd H s.heap.objs.size (.tup [.int i, x]) e = none := by rw [upd_ne (Nat.ne_of_lt hlt)]; exact fe.1
    have nj : upd H s.heap.objs.size (.tup [.int i, x]) j = none := by rw [upd_ne (Nat.ne_of_lt hltj)]; exact fj.1
    have I5 := I4.turned (h' := h') (it := e) (t' := s.toks + 1) (fun b o hb q => (hs.2 b hb).trans q) ne fe.2.1 fe.2.2.2.1 fe.2.2.2.2.1 fe.2.2.2.2.2
    refine ⟨_, rfl, wpAny_letOwnedTupleGo_enum ho fun h8 he8 hs8 => ?_⟩
    have I6 := I5.turned (h' := h8) (it := e) (t' := s.toks + 1) (fun b o hb q => (hs8.2 b hb).trans q) ne fe.2.1 fe.2.2.2.1 fe.2.2.2.2.1 fe.2.2.2.2.2
    refine ⟨.ref s.heap.objs.size, _, I6, rfl, ⟨_, x, rfl, I.hok.fresh (Nat.le_refl _), rfl, fun ys hy => by rw [I.tuple_inj hy hq]; exact hx⟩, ⟨⟨_, by simpa using he8⟩, hj'.extBut hs8.extBut (Ne.symm hne)⟩, fun b hb => ?_⟩
    rcases List.mem_cons.mp hb with rfl | hb
    · exact ne
    · rw [List.mem_singleton.mp hb]; exact nj
  done := by
    intro X hP hw hK hc i pins s σ H E I hf st hg
    subst hP hw hK
    obtain ⟨xs, hq, hx⟩ := hg
    obtain ⟨its, rv, p, hz⟩ := I.tuple hq
    obtain ⟨f0, f1, f2, f3, f4, f5⟩ := hf j (by simp)
    obtain ⟨⟨old, he⟩, hj⟩ := st
    have hl := rv.length
    exact enumT_end (I.ok.hd hc) he hj (show s.heap.IsTuple a its.toArray from p) (by simp; omega) fun h' eb => ⟨rfl, I.turned (t' := s.toks) (fun b o hb e => eb b o hb e) f0 f1 f3 f4 f5⟩
  self := fun _ _ _ _ _ st h => let ⟨⟨_, he⟩, _⟩ := st; wpAny_pyIter_enum he h
section
variable {X : Cx}
def iEnum (K : PySem.W.Frag) (ta : TA) : TI := fun σ H R => ta σ H fun vs H1 => ∃ a, vs = [.ref a] ∧ (∃ xs, SqT K H1 a xs) ∧ R (Ite K a) H1
theorem pi_enum (K : PySem.W.Frag) {es : List Expr} {kx : Nat} {pt p pos : Pos} {a : Expr} {ta : TA} (hg : Gl X "enumerate") (hm : X.mg "enumerate" = none) (ha : PA X [a] ta) (hs : starEach [a] X.env = [(false, eval a X.env)] := by rfl) (hK : X.K = K := by rfl) :
    PI X (.Tuple es kx pt) (.Call (.Name "enumerate" p) [a] [] pos) (iEnum K ta) := by
  subst hK
  intro pins s σ H R I h
  refine Call_ (ld_blt I hg hm boot_enumerate (PyProof.Rows.callWith_type1 (thn (ha pos pins s σ H _ I h) fun us s1 ⟨vs, H1, I1, r1, q1⟩ => ?_) hs rfl))
  obtain ⟨a, e, ⟨xs, hq⟩, q⟩ := q1
  subst e
  cases r1 with
  | cons r rr =>
    cases rr
    cases r
    obtain ⟨its, rv, pp, hz⟩ := I1.tuple hq
    refine enumT_new (show s1.heap.IsTuple a its.toArray from pp) fun h' he hj hsz kk => wpAny_pyIter_enum he ?_
    refine ⟨s1.heap.objs.size + 1, [s1.heap.objs.size + 1, s1.heap.objs.size], _, _, H1, rfl, I1.kept (t' := s1.toks) kk, turn_enum a (s1.heap.objs.size + 1) s1.heap.objs.size (Nat.succ_ne_self _), ⟨⟨_, he⟩, hj⟩, fun b hb => ?_, q⟩
    rcases List.mem_cons.mp hb with rfl | hb
    · exact I1.fpOk (by omega) (I1.hok.fresh (by omega))
    · rw [List.mem_singleton.mp hb]; exact I1.fpOk (Nat.le_refl _) (I1.hok.fresh (Nat.le_refl _))
theorem w_enum {K : PySem.W.Frag} {σ : St} {H : Hp} {R : It → Hp → Prop} {ta : TA} : iEnum K ta σ H R = ta σ H fun vs H1 => ∃ a, vs = [.ref a] ∧ (∃ xs, SqT K H1 a xs) ∧ R (Ite K a) H1 := rfl
theorem forW_enum {K : PySem.W.Frag} {a : Addr} {xs : List V} {g : TG} {tb : TS} {D : Ends} {σ : St} {H : Hp} (Pv : Nat → St → Hp → Prop) (h0 : Pv 0 σ H) (hl : ∀ i σ H, i ≤ xs.length → Pv i σ H → SqT K H a xs)
    (hs : ∀ i x σ H, xs[i]? = some x → Pv i σ H → ∀ t, H t = none → g (.ref t) σ (upd H t (.tup [.int i, x])) fun σ2 H2 => tb { D with nx := Pv (i + 1), ct := Pv (i + 1), bk := D.nx } σ2 H2) (hd : ∀ σ H, Pv xs.length σ H → D.nx σ H) : ForW (Ite K a) g tb D σ H := by
  refine ⟨fun i m σ H => m = xs.length - i ∧ i ≤ xs.length ∧ Pv i σ H, ⟨xs.length, by simp, Nat.zero_le _, h0⟩, ?_⟩
  rintro i m σ H ⟨rfl, hi, p⟩
  by_cases hlt : i < xs.length
  · have hx : xs[i]? = some xs[i] := by simp [hlt]
    refine .inr ⟨⟨xs, _, hl _ _ _ hi p, hx⟩, Pv (i + 1), fun σ' H' q => ⟨xs.length - (i + 1), by omega, rfl, hlt, q⟩, fun x H' y => ?_⟩
    obtain ⟨t, z, rfl, hn, rfl, hz⟩ := y
    have e := hz xs (hl _ _ _ hi p)
    rw [hx] at e
    cases e
    exact hs i _ σ H hx p t hn
  · have e : i = xs.length := by omega
    subst e
    exact .inl ⟨⟨xs, hl _ _ _ hi p, Nat.le_refl _⟩, hd σ H p⟩
end
section
variable {X : Cx}
def rCount (K : PySem.W.Frag) : V → List V → Hp → VK → Prop := fun x vs H Q => ∃ p xs k, x = .ref p ∧ vs = [k] ∧ SqL K H p xs ∧ xs.all flatV = true ∧ flatV k = true ∧ Q (.int ((xs.countP fun y => eqV y k : Nat) : Int)) H
theorem w_count {K : PySem.W.Frag} {p : Addr} {k : V} {H : Hp} {Q : VK} : rCount K (.ref p) [k] H Q = ∃ xs, SqL K H p xs ∧ xs.all flatV = true ∧ flatV k = true ∧ Q (.int ((xs.countP fun y => eqV y k : Nat) : Int)) H := by
  refine propext ⟨fun ⟨_, xs, _, e1, e2, h⟩ => ?_, fun ⟨xs, h⟩ => ⟨p, xs, k, rfl, rfl, h⟩⟩
  cases e1; cases e2; exact ⟨xs, h⟩
end
end L2
set_option Elab.async false
set_option linter.all false
set_option maxRecDepth 100000
set_option maxHeartbeats 4000000
namespace L2
open PySem PySem.Spec PyProof.Rows
def keptI (l : Int) (r : Str) : Int := if opn r = true then l - 1 else l
def behind (k : Nat) (l : Int) (r : Str) (p : List Nat) : Option (List Nat) :=
  if keptI l r < 0 ∨ keptI l r > p.length then none else some (if opn r = true then p.take (keptI l r).toNat ++ [k] else p.take (keptI l r).toNat)
def fitAt (f : Nat → Int × Str) : Nat → Option (List Nat)
  | 0 => some []
  | i + 1 => (fitAt f i).bind (behind i (f i).1 (f i).2)
theorem nxt_len {k l : Nat} {r : Str} {p : List Nat} (h1 : o1 r ≤ l) (h2 : l ≤ p.length + o1 r) : (nxt k r l p).length = l := by
  unfold nxt
  unfold o1 at h1 h2
  split
  · next h => rw [if_pos h] at h1 h2; rw [List.length_append, List.length_take]; simp only [List.length_singleton]; omega
  · next h => rw [if_neg h] at h1 h2; rw [List.length_take]; omega
theorem pathAt_len {rs : List Str} {g : Nat → Nat} {n : Nat} (h : LvOk rs g n) : ∀ i, i ≤ n → (pathAt rs g i).length = room g i
  | 0, _ => rfl
  | i + 1, hi => by
    obtain ⟨h1, h2, _⟩ := h i (by omega)
    have ih := pathAt_len h i (by omega)
    show (nxt i (rs.getD i "") (g i) (pathAt rs g i)).length = room g (i + 1)
    rw [nxt_len h1 (by omega)]
    show g i = if i + 1 = 0 then 0 else g (i + 1 - 1)
    rw [if_neg (by omega)]
    rfl
theorem behind_fits {k : Nat} {l : Nat} {r : Str} {p : List Nat} (h1 : o1 r ≤ l) (h2 : l ≤ p.length + o1 r) : behind k (l : Int) r p = some (nxt k r l p) := by
  unfold behind nxt keptI
  unfold o1 at h1 h2
  by_cases h : opn r = true
  · rw [if_pos h] at h1 h2
    simp only [h, if_true]
    rw [if_neg (by omega), show ((l : Int) - 1).toNat = l - 1 by omega]
  · rw [if_neg h] at h1 h2
    simp only [h, if_false, Bool.false_eq_true]
    rw [if_neg (by omega), Int.toNat_natCast]
theorem fit_path {rs : List Str} {g : Nat → Nat} {n : Nat} (h : LvOk rs g n) {f : Nat → Int × Str} : ∀ i, i ≤ n → (∀ j, j < i → f j = ((g j : Int), rs.getD j "")) → fitAt f i = some (pathAt rs g i)
  | 0, _, _ => rfl
  | i + 1, hi, hf => by
    have ih := fit_path h (f := f) i (by omega) fun j hj => hf j (by omega)
    obtain ⟨h1, h2, _⟩ := h i (by omega)
    have hl := pathAt_len h i (by omega)
    show (fitAt f i).bind (behind i (f i).1 (f i).2) = _
    rw [ih, hf i (by omega)]
    exact behind_fits (k := i) h1 (show g i ≤ (pathAt rs g i).length + o1 (rs.getD i "") by omega)
theorem fit_none {f : Nat → Int × Str} {i : Nat} (h : fitAt f i = none) : ∀ d, fitAt f (i + d) = none
  | 0 => h
  | d + 1 => by
    show (fitAt f (i + d)).bind _ = none
    rw [fit_none h d]
    rfl
theorem fit_len {f : Nat → Int × Str} : ∀ {i : Nat} {p : List Nat}, fitAt f i = some p → p.length ≤ i
  | 0, p, h => by cases h; exact Nat.le_refl _
  | i + 1, p, h => by
    have h : (fitAt f i).bind (behind i (f i).1 (f i).2) = some p := h
    cases e : fitAt f i with
    | none => rw [e] at h; cases h
    | some q =>
      have ih := fit_len e
      rw [e] at h
      have h : behind i (f i).1 (f i).2 q = some p := h
      unfold behind at h
      split at h
      · cases h
      · cases h
        split
        · rw [List.length_append, List.length_take]; simp only [List.length_singleton]; omega
        · rw [List.length_take]; omega
section
variable {K : PySem.W.Frag} {H H' : Hp} {us : List V} {f : Nat → Int × Str}
def RepLn (K : PySem.W.Frag) (H : Hp) (f : Nat → Int × Str) (us : List V) : Prop := ∀ i v, us[i]? = some v → ∃ a x y, v = .ref a ∧ SqT K H a [.int (f i).1, .str (f i).2, x, y]
theorem RepLn.same (e : Same H H') (h : RepLn K H f us) : RepLn K H' f us := fun i v hv => let ⟨a, x, y, e1, h1⟩ := h i v hv; ⟨a, x, y, e1, e.seqT h1⟩
theorem RepLn.nil : RepLn K H f [] := fun i v hv => by simp at hv
theorem RepLn.snoc {a : Addr} {x y : V} (h : RepLn K H f us) (h1 : SqT K H a [.int (f us.length).1, .str (f us.length).2, x, y]) : RepLn K H f (us ++ [.ref a]) := fun i v hv => by
  rw [List.getElem?_append] at hv
  split at hv
  · exact h i v hv
  · next hi =>
    have e : i = us.length := by
      obtain ⟨z, _⟩ := List.getElem?_eq_some_iff.mp hv
      simp at z; omega
    subst e
    simp at hv
    subst hv
    exact ⟨a, x, y, rfl, h1⟩
end
def spBehind (K : PySem.W.Frag) : Sp := fun vs H Q _ => ∃ (a c : Addr) (k : Nat) (p : List Nat) (l : Int) (r : Str) (x y : V), vs = [.ref a, .ref c, .int k] ∧ SqT K H a (iv p) ∧ SqT K H c [.int l, .str r, x, y] ∧ p.length ≤ 100 ∧
  (behind k l r p = none → Q .non H) ∧ ∀ q, behind k l r p = some q → ∀ b H', Same H H' → SqT K H' b (iv q) → Q (.ref b) H'
def spFit (K : PySem.W.Frag) : Sp := fun vs H Q _ => ∃ (a : Addr) (us : List V) (f : Nat → Int × Str), vs = [.ref a] ∧ SqT K H a us ∧ RepLn K H f us ∧ us.length ≤ 80 ∧
  ∀ (q : Addr) ps H', Same H H' → SqT K H' q ps → RepPs K H' (fun i => (fitAt f (i + 1)).getD []) ps → ps.length ≤ us.length → (∀ i, i < ps.length → fitAt f (i + 1) ≠ none) → (ps.length < us.length → fitAt f (ps.length + 1) = none) → Q (.ref q) H'
end L2
set_option Elab.async false
set_option linter.all false
set_option maxRecDepth 100000
set_option maxHeartbeats 4000000
namespace L2
open PySem PySem.Spec PyProof.Rows
section
variable {rs : List Str} {g : Nat → Nat}
theorem take_pre {q w : List Nat} {j m : Nat} (e : q = w.take m) (h : j ≤ q.length) : q.take j = w.take j := by
  subst e
  rw [List.take_take]
  congr 1
  rw [List.length_take] at h
  omega
theorem path_el (rs : List Str) (g : Nat → Nat) : ∀ (i j b : Nat), (pathAt rs g i)[j]? = some b → opn (rs.getD b "") = true ∧ pathAt rs g (b + 1) = (pathAt rs g i).take (j + 1)
  | 0, j, b, h => by simp [pathAt] at h
  | i + 1, j, b, h => by
    have e : pathAt rs g (i + 1) = nxt i (rs.getD i "") (g i) (pathAt rs g i) := rfl
    unfold nxt at e
    by_cases c : opn (rs.getD i "") = true
    · rw [if_pos c] at e
      rw [e] at h
      by_cases hj : j < ((pathAt rs g i).take (g i - 1)).length
      · rw [List.getElem?_append_left hj] at h
        have hj' : j < g i - 1 := by rw [List.length_take] at hj; omega
        rw [List.getElem?_take_of_lt hj'] at h
        obtain ⟨h1, h2⟩ := path_el rs g i j b h
        refine ⟨h1, ?_⟩
        rw [h2, e, List.take_append_of_le_length (by omega), List.take_take]
        congr 1; omega
      · rw [List.getElem?_append_right (by omega)] at h
        have z : j - ((pathAt rs g i).take (g i - 1)).length = 0 := by
          have := (List.getElem?_eq_some_iff.mp h).1
          simp only [List.length_cons, List.length_nil] at this
          omega
        rw [z] at h
        cases h
        refine ⟨c, ?_⟩
        rw [List.take_of_length_le (by rw [e, List.length_append]; simp only [List.length_cons, List.length_nil]; omega)]
    · rw [if_neg c] at e
      rw [e] at h
      have hj : j < g i := by
        have := (List.getElem?_eq_some_iff.mp h).1
        rw [List.length_take] at this; omega
      rw [List.getElem?_take_of_lt hj] at h
      obtain ⟨h1, h2⟩ := path_el rs g i j b h
      refine ⟨h1, ?_⟩
      rw [h2, e, List.take_take]
      congr 1; omega
theorem path_later {i k : Nat} (h : i ≤ k) : ∃ m r, pathAt rs g k = (pathAt rs g i).take m ++ r ∧ ∀ x ∈ r, i ≤ x := by
  have := pathAt_later rs g i (k - i)
  rwa [show i + (k - i) = k by omega] at this
inductive Itm where
  | ln (i : Nat)
  | bx (b e : Nat)
def IsEnd (rs : List Str) (g : Nat → Nat) (N b e : Nat) : Prop := e < N ∧ pathAt rs g (e + 1) = pathAt rs g (b + 1) ∧ ∀ i, i < N → pathAt rs g (i + 1) = pathAt rs g (b + 1) → i ≤ e
theorem IsEnd.uniq {N b e e' : Nat} (h : IsEnd rs g N b e) (h' : IsEnd rs g N b e') : e = e' := by
  have h1 := h.2.2 e' h'.1 h'.2.1
  have h2 := h'.2.2 e h.1 h.2.1
  omega
structure LOk (rs : List Str) (g : Nat → Nat) (N n : Nat) (q : List Nat) (j : Nat) (L : List Itm) : Prop where
  ln : ∀ i, .ln i ∈ L ↔ i < n ∧ pathAt rs g (i + 1) = q.take j
  bx : ∀ b e, .bx b e ∈ L ↔ b < n ∧ opn (rs.getD b "") = true ∧ pathAt rs g (b + 1) = q.take j ++ [b] ∧ b ∉ q ∧ IsEnd rs g N b e
  hd : ∀ b, 0 < j → q[j - 1]? = some b → ∃ t, L = .ln b :: t
def SOk (rs : List Str) (g : Nat → Nat) (N n : Nat) (q : List Nat) (S : List (List Itm)) : Prop := S.length = q.length + 1 ∧ ∀ j L, S[j]? = some L → LOk rs g N n q j L
theorem SOk.start {N : Nat} : SOk rs g N 0 [] [[]] := by
  refine ⟨rfl, fun j L h => ?_⟩
  have hj : j = 0 := by
    have := (List.getElem?_eq_some_iff.mp h).1
    simp at this; omega
  subst hj
  cases h
  exact ⟨fun i => by simp, fun b e => by simp, fun b h => absurd h (by omega)⟩
theorem SOk.close {N n m M : Nat} {q : List Nat} {b : Nat} {S0 : List (List Itm)} {A L : List Itm} (h : SOk rs g N n (q ++ [b]) (S0 ++ [A, L])) (hq : q ++ [b] = (pathAt rs g n).take m) (hN : n ≤ N)
    (hl : ∀ i, n ≤ i → i < N → pathAt rs g (i + 1) ≠ q ++ [b]) (h1 : .ln M ∈ L) (h2 : ∀ i, .ln i ∈ L → i ≤ M) : SOk rs g N n q (S0 ++ [A ++ [.bx b M]]) := by
  obtain ⟨hlen, hall⟩ := h
  have hS : S0.length = q.length := by
    rw [List.length_append, List.length_append] at hlen
    simp only [List.length_cons, List.length_nil] at hlen
    omega
  have hL := hall (q.length + 1) L (by rw [List.getElem?_append_right (by omega), hS]; simp)
  have hA := hall q.length A (by rw [List.getElem?_append_right (by omega), hS]; simp)
  have hb : (pathAt rs g n)[q.length]? = some b := by
    have e : (q ++ [b])[q.length]? = some b := by simp
    rw [hq] at e
    have hm : q.length < m := by
      have := (List.getElem?_eq_some_iff.mp e).1
      rw [List.length_take] at this; omega
    rwa [List.getElem?_take_of_lt hm] at e
  obtain ⟨ho, hp⟩ := path_el rs g n q.length b hb
  have hpb : pathAt rs g (b + 1) = q ++ [b] := by
    rw [hp, ← take_pre hq (by simp), List.take_of_length_le (by simp)]
  have hbn : b < n := pathAt_lt rs g n b (List.mem_of_getElem? hb)
  have hup : (q ++ [b]).Pairwise (· < ·) := by rw [hq]; exact pairwise_take (pathAt_up rs g n) m
  have hbq : b ∉ q := fun z => by
    have := (List.pairwise_append.mp hup).2.2 b z b (by simp)
    omega
  have hend : IsEnd rs g N b M := by
    obtain ⟨m1, m2⟩ := (hL.ln M).mp h1
    rw [List.take_of_length_le (by simp)] at m2
    refine ⟨by omega, m2.trans hpb.symm, fun i hi e => ?_⟩
    by_cases c : i < n
    · exact h2 i ((hL.ln i).mpr ⟨c, by rw [List.take_of_length_le (by simp), e, hpb]⟩)
    · exact absurd (e.trans hpb) (hl i (by omega) hi)
  refine ⟨by rw [List.length_append, hS]; rfl, fun j L' hj => ?_⟩
  have hjl : j < q.length + 1 := by
    have := (List.getElem?_eq_some_iff.mp hj).1
    rw [List.length_append, hS] at this
    exact this
  have et : ∀ j, j ≤ q.length → (q ++ [b]).take j = q.take j := fun j h => List.take_append_of_le_length h
  by_cases c : j < q.length
  · rw [List.getElem?_append_left (by omega)] at hj
    have o := hall j L' (by rw [List.getElem?_append_left (by omega)]; exact hj)
    refine ⟨fun i => by rw [o.ln, et j (by omega)], fun b' e => ?_, fun b' h0 h => o.hd b' h0 (by rw [List.getElem?_append_left (by omega)]; exact h)⟩
    rw [o.bx, et j (by omega)]
    refine ⟨fun ⟨a1, a2, a3, a4, a5⟩ => ⟨a1, a2, a3, fun z => a4 (List.mem_append_left _ z), a5⟩, fun ⟨a1, a2, a3, a4, a5⟩ => ⟨a1, a2, a3, fun z => ?_, a5⟩⟩
    rcases List.mem_append.mp z with z | z
    · exact a4 z
    · rw [List.mem_singleton.mp z, hpb] at a3
      have := congrArg List.length a3
      rw [List.length_append, List.length_append, List.length_take] at this
      simp only [List.length_cons, List.length_nil] at this
      omega
  · have hj0 : j = q.length := by omega
    subst hj0
    rw [List.getElem?_append_right (by omega), hS, Nat.sub_self] at hj
    cases hj
    refine ⟨fun i => ?_, fun b' e => ?_, fun b' h0 h => ?_⟩
    · rw [List.mem_append, hA.ln, et _ (Nat.le_refl _)]
      simp
    · rw [List.mem_append, hA.bx, et _ (Nat.le_refl _), List.take_length]
      refine ⟨fun z => ?_, fun ⟨a1, a2, a3, a4, a5⟩ => ?_⟩
      · rcases z with ⟨a1, a2, a3, a4, a5⟩ | z
        · exact ⟨a1, a2, a3, fun z => a4 (List.mem_append_left _ z), a5⟩
        · have z := List.mem_singleton.mp z
          cases z
          exact ⟨hbn, ho, hpb, hbq, hend⟩
      · by_cases c : b' = b
        · subst c
          exact .inr (by rw [hend.uniq a5]; simp)
        · refine .inl ⟨a1, a2, a3, fun z => ?_, a5⟩
          rcases List.mem_append.mp z with z | z
          · exact a4 z
          · exact c (List.mem_singleton.mp z)
    · obtain ⟨t, e⟩ := hA.hd b' h0 (by rw [List.getElem?_append_left (by omega)]; exact h)
      exact ⟨t ++ [.bx b M], by rw [e]; rfl⟩
theorem SOk.opens {N n : Nat} {q : List Nat} {S : List (List Itm)} (h : SOk rs g N n q S) (hp : pathAt rs g (n + 1) = q ++ [n]) : SOk rs g N (n + 1) (q ++ [n]) (S ++ [[.ln n]]) := by
  obtain ⟨hlen, hall⟩ := h
  have et : ∀ j, j ≤ q.length → (q ++ [n]).take j = q.take j := fun j h => List.take_append_of_le_length h
  refine ⟨by rw [List.length_append, hlen, List.length_append]; rfl, fun j L hj => ?_⟩
  by_cases c : j < q.length + 1
  · rw [List.getElem?_append_left (by omega)] at hj
    have o := hall j L hj
    refine ⟨fun i => ?_, fun b e => ?_, fun b h0 h => o.hd b h0 (by rwa [List.getElem?_append_left (by omega)] at h)⟩
    · rw [o.ln, et j (by omega)]
      refine ⟨fun ⟨a1, a2⟩ => ⟨by omega, a2⟩, fun ⟨a1, a2⟩ => ⟨?_, a2⟩⟩
      by_cases c : i = n
      · subst c
        rw [hp] at a2
        have := congrArg List.length a2
        rw [List.length_append, List.length_take] at this
        simp only [List.length_cons, List.length_nil] at this
        omega
      · omega
    · rw [o.bx, et j (by omega)]
      refine ⟨fun ⟨a1, a2, a3, a4, a5⟩ => ⟨by omega, a2, a3, fun z => ?_, a5⟩, fun ⟨a1, a2, a3, a4, a5⟩ => ⟨?_, a2, a3, fun z => a4 (List.mem_append_left _ z), a5⟩⟩
      · rcases List.mem_append.mp z with z | z
        · exact a4 z
        · have := List.mem_singleton.mp z; omega
      · by_cases c : b = n
        · exact absurd (by rw [c]; simp) a4
        · omega
  · have hj0 : j = q.length + 1 := by
      have := (List.getElem?_eq_some_iff.mp hj).1
      rw [List.length_append, hlen] at this
      simp only [List.length_cons, List.length_nil] at this
      omega
    subst hj0
    rw [List.getElem?_append_right (by omega), hlen, Nat.sub_self] at hj
    cases hj
    refine ⟨fun i => ?_, fun b e => ?_, fun b h0 h => ?_⟩
    · rw [List.take_of_length_le (by simp)]
      refine ⟨fun z => ?_, fun ⟨a1, a2⟩ => ?_⟩
      · have z := List.mem_singleton.mp z
        cases z
        exact ⟨by omega, hp⟩
      · have : n < i + 1 := pathAt_lt rs g (i + 1) n (by rw [a2]; simp)
        have : i = n := by omega
        rw [this]; simp
    · refine ⟨fun z => by simp at z, fun ⟨a1, a2, a3, a4, a5⟩ => ?_⟩
      rw [List.take_of_length_le (by simp)] at a3
      have : n < b + 1 := pathAt_lt rs g (b + 1) n (by rw [a3]; simp)
      exact absurd (by rw [show b = n by omega]; simp) a4
    · rw [Nat.add_sub_cancel, List.getElem?_append_right (Nat.le_refl _), Nat.sub_self] at h
      cases h
      exact ⟨[], rfl⟩
theorem SOk.line {N n : Nat} {q : List Nat} {S0 : List (List Itm)} {A : List Itm} (h : SOk rs g N n q (S0 ++ [A])) (hp : pathAt rs g (n + 1) = q) (ho : ¬ opn (rs.getD n "") = true) : SOk rs g N (n + 1) q (S0 ++ [A ++ [.ln n]]) := by
  obtain ⟨hlen, hall⟩ := h
  have hS : S0.length = q.length := by
    rw [List.length_append] at hlen
    simp only [List.length_cons, List.length_nil] at hlen
    omega
  refine ⟨by rw [List.length_append, hS]; rfl, fun j L hj => ?_⟩
  by_cases c : j < q.length
  · rw [List.getElem?_append_left (by omega)] at hj
    have o := hall j L (by rw [List.getElem?_append_left (by omega)]; exact hj)
    refine ⟨fun i => ?_, fun b e => ?_, o.hd⟩
    · rw [o.ln]
      refine ⟨fun ⟨a1, a2⟩ => ⟨by omega, a2⟩, fun ⟨a1, a2⟩ => ⟨?_, a2⟩⟩
      by_cases c : i = n
      · subst c
        rw [hp] at a2
        have := congrArg List.length a2
        rw [List.length_take] at this
        omega
      · omega
    · rw [o.bx]
      refine ⟨fun ⟨a1, a2⟩ => ⟨by omega, a2⟩, fun ⟨a1, a2⟩ => ⟨?_, a2⟩⟩
      by_cases c : b = n
      · exact absurd (c ▸ a2.1) ho
      · omega
  · have hj0 : j = q.length := by
      have := (List.getElem?_eq_some_iff.mp hj).1
      rw [List.length_append, hS] at this
      simp only [List.length_cons, List.length_nil] at this
      omega
    subst hj0
    have o := hall q.length A (by rw [List.getElem?_append_right (by omega), hS, Nat.sub_self]; rfl)
    rw [List.getElem?_append_right (by omega), hS, Nat.sub_self] at hj
    cases hj
    refine ⟨fun i => ?_, fun b e => ?_, fun b h0 h => ?_⟩
    · rw [List.mem_append, o.ln, List.take_length]
      refine ⟨fun z => ?_, fun ⟨a1, a2⟩ => ?_⟩
      · rcases z with ⟨a1, a2⟩ | z
        · exact ⟨by omega, a2⟩
        · have z := List.mem_singleton.mp z
          cases z
          exact ⟨by omega, hp⟩
      · by_cases c : i = n
        · exact .inr (by rw [c]; simp)
        · exact .inl ⟨by omega, a2⟩
    · rw [List.mem_append, o.bx]
      refine ⟨fun z => ?_, fun ⟨a1, a2⟩ => ?_⟩
      · rcases z with ⟨a1, a2⟩ | z
        · exact ⟨by omega, a2⟩
        · simp at z
      · by_cases c : b = n
        · exact absurd (c ▸ a2.1) ho
        · exact .inl ⟨by omega, a2⟩
    · obtain ⟨t, e⟩ := o.hd b h0 h
      exact ⟨t ++ [.ln n], by rw [e]; rfl⟩
def kept (rs : List Str) (g : Nat → Nat) (n : Nat) : Nat := g n - o1 (rs.getD n "")
def qAt (rs : List Str) (g : Nat → Nat) (n : Nat) : List Nat := (pathAt rs g n).take (kept rs g n)
theorem path_next (n : Nat) : pathAt rs g (n + 1) = if opn (rs.getD n "") = true then qAt rs g n ++ [n] else qAt rs g n := by
  show nxt _ _ _ _ = _
  unfold nxt qAt kept o1
  by_cases c : opn (rs.getD n "") = true
  · rw [if_pos c, if_pos c, if_pos c]
  · rw [if_neg c, if_neg c, if_neg c]; rfl
theorem q_pre (n : Nat) : ∃ z, pathAt rs g (n + 1) = qAt rs g n ++ z ∧ ∀ x ∈ z, x = n := by
  rw [path_next]
  by_cases c : opn (rs.getD n "") = true
  · exact ⟨[n], by rw [if_pos c], fun x h => List.mem_singleton.mp h⟩
  · exact ⟨[], by rw [if_neg c, List.append_nil], by simp⟩
theorem no_more {n p b i : Nat} (hk : kept rs g n ≤ p) (hb : b < n) (hi : n ≤ i) : (pathAt rs g (i + 1))[p]? ≠ some b := by
  intro h
  obtain ⟨m, r, e, hr⟩ := path_later (rs := rs) (g := g) (i := n + 1) (k := i + 1) (by omega)
  obtain ⟨z, ez, hz⟩ := q_pre (rs := rs) (g := g) n
  have hA : (qAt rs g n).length ≤ p := by unfold qAt; rw [List.length_take]; omega
  rw [e, ez] at h
  by_cases c : p < ((qAt rs g n ++ z).take m).length
  · rw [List.getElem?_append_left c] at h
    have hm : p < m := by rw [List.length_take] at c; omega
    rw [List.getElem?_take_of_lt hm, List.getElem?_append_right hA] at h
    have := hz b (List.mem_of_getElem? h)
    omega
  · rw [List.getElem?_append_right (by omega)] at h
    have := hr b (List.mem_of_getElem? h)
    omega
theorem SOk.close' {N n m : Nat} {q : List Nat} {S : List (List Itm)} (h : SOk rs g N n q S) (hq : q = (pathAt rs g n).take m) (hN : n ≤ N) (hk : kept rs g n < q.length) :
    ∃ S0 A L b, S = S0 ++ [A, L] ∧ (∃ t, L = .ln b :: t) ∧ S0.length + 1 = q.length ∧ q.take (q.length - 1) = (pathAt rs g n).take (q.length - 1) ∧ (∀ M, .ln M ∈ L → (∀ i, .ln i ∈ L → i ≤ M) → SOk rs g N n (q.take (q.length - 1)) (S0 ++ [A ++ [.bx b M]])) := by
  obtain ⟨hlen, hall⟩ := id h
  have hq0 : q ≠ [] := fun z => by rw [z] at hk; simp at hk
  obtain ⟨b, hb⟩ : ∃ b, q = q.take (q.length - 1) ++ [b] := ⟨q.getLast hq0, by rw [← List.dropLast_eq_take]; exact (List.dropLast_concat_getLast hq0).symm⟩
  have h1 : S = S.take (q.length - 1) ++ S.drop (q.length - 1) := (List.take_append_drop _ _).symm
  have hpos : 0 < q.length := List.length_pos_iff.mpr hq0
  have h2 : (S.drop (q.length - 1)).length = 2 := by rw [List.length_drop, hlen]; omega
  match hd : S.drop (q.length - 1), h2 with
  | [A, L], _ =>
    rw [hd] at h1
    have hS0 : (S.take (q.length - 1)).length = q.length - 1 := by rw [List.length_take, hlen]; omega
    have eL : S[q.length]? = some L := by
      rw [h1, List.getElem?_append_right (by omega), hS0, show q.length - (q.length - 1) = 1 by omega]; rfl
    have eb : q[q.length - 1]? = some b := by
      have : (q.take (q.length - 1) ++ [b])[q.length - 1]? = some b := by
        rw [List.getElem?_append_right (by rw [List.length_take]; omega), show q.length - 1 - (q.take (q.length - 1)).length = 0 by rw [List.length_take]; omega]; rfl
      rwa [← hb] at this
    refine ⟨_, A, L, b, h1, (hall _ L eL).hd b hpos eb, by rw [hS0]; omega, take_pre hq (by omega), fun M m1 m2 => ?_⟩
    have hbn : b < n := pathAt_lt rs g n b (by
      have : b ∈ q := List.mem_of_getElem? eb
      rw [hq] at this; exact List.mem_of_mem_take this)
    refine SOk.close (m := m) (by rw [← hb, ← h1]; exact h) (hb.symm.trans hq) hN (fun i hi _ e => ?_) m1 m2
    refine no_more (rs := rs) (g := g) (n := n) (p := q.length - 1) (b := b) (i := i) (by omega) hbn hi ?_
    rw [e, ← hb]; exact eb
theorem take_kept {q w : List Nat} {m k : Nat} (hq : q = w.take m) (hm : k ≤ m) (hl : ¬ k < q.length) : q = w.take k := by
  subst hq
  rw [List.length_take] at hl
  by_cases c : w.length ≤ k
  · rw [List.take_of_length_le (by omega), List.take_of_length_le c]
  · congr 1; omega
theorem mem_seen {N k i : Nat} {S : List (List Itm)} (h : SOk rs g N k (qAt rs g k) S) : (∃ (j : Nat) (L : List Itm), S[j]? = some L ∧ Itm.ln i ∈ L) ↔ i < k ∧ (pathAt rs g (k + 1)).take (pathAt rs g (i + 1)).length = pathAt rs g (i + 1) := by
  obtain ⟨hlen, hall⟩ := h
  obtain ⟨z, ez, hz⟩ := q_pre (rs := rs) (g := g) k
  refine ⟨fun ⟨j, L, hj, hi⟩ => ?_, fun ⟨h1, h2⟩ => ?_⟩
  · obtain ⟨h1, h2⟩ := ((hall j L hj).ln i).mp hi
    refine ⟨h1, ?_⟩
    rw [ez, h2, List.length_take, List.take_append_of_le_length (by omega)]
    rw [← List.take_take, List.take_length]
  · have hle : (pathAt rs g (i + 1)).length ≤ (qAt rs g k).length := by
      refine Nat.not_lt.mp fun c => ?_
      obtain ⟨y, e⟩ : ∃ y, (pathAt rs g (i + 1))[(qAt rs g k).length]? = some y := ⟨_, List.getElem?_eq_getElem c⟩
      have e2 := e
      rw [← h2, List.getElem?_take_of_lt c, ez, List.getElem?_append_right (Nat.le_refl _)] at e2
      have := hz _ (List.mem_of_getElem? e2)
      have h3 := pathAt_lt rs g (i + 1) _ (List.mem_of_getElem? e)
      omega
    have hj : (pathAt rs g (i + 1)).length < S.length := by rw [hlen]; omega
    refine ⟨_, _, List.getElem?_eq_getElem hj, ((hall _ _ (List.getElem?_eq_getElem hj)).ln i).mpr ⟨h1, ?_⟩⟩
    rw [ez, List.take_append_of_le_length hle] at h2
    exact h2.symm
theorem mem_box {N k b e : Nat} {S : List (List Itm)} (h : SOk rs g N k (qAt rs g k) S) (ho : opn (rs.getD b "") = true) : (∃ (j : Nat) (L : List Itm), S[j]? = some L ∧ Itm.bx b e ∈ L) ↔ (b < k ∧ b ∉ pathAt rs g (k + 1) ∧ (pathAt rs g (k + 1)).take ((pathAt rs g (b + 1)).length - 1) = (pathAt rs g (b + 1)).take ((pathAt rs g (b + 1)).length - 1)) ∧ IsEnd rs g N b e := by
  obtain ⟨hlen, hall⟩ := h
  obtain ⟨z, ez, hz⟩ := q_pre (rs := rs) (g := g) k
  obtain ⟨v, ev⟩ : ∃ v, pathAt rs g (b + 1) = v ++ [b] := ⟨_, pathAt_open rs g ho⟩
  have lv : (pathAt rs g (b + 1)).length - 1 = v.length := by rw [ev]; simp
  have tv : (pathAt rs g (b + 1)).take v.length = v := by rw [ev, List.take_left]
  rw [lv, tv]
  refine ⟨fun ⟨j, L, hj, hi⟩ => ?_, fun ⟨⟨h1, h2, h3⟩, h4⟩ => ?_⟩
  · obtain ⟨a1, a2, a3, a4, a5⟩ := ((hall j L hj).bx b e).mp hi
    refine ⟨⟨a1, fun hm => ?_, ?_⟩, a5⟩
    · rw [ez] at hm
      rcases List.mem_append.mp hm with hm | hm
      · exact a4 hm
      · have := hz b hm; omega
    · rw [ev] at a3
      have e := (List.append_inj' a3 rfl).1
      rw [ez, e, List.length_take, List.take_append_of_le_length (by omega)]
      rw [← List.take_take, List.take_length]
  · have hle : v.length ≤ (qAt rs g k).length := by
      refine Nat.not_lt.mp fun c => ?_
      obtain ⟨y, e⟩ : ∃ y, v[(qAt rs g k).length]? = some y := ⟨_, List.getElem?_eq_getElem c⟩
      have e2 := e
      rw [← h3, List.getElem?_take_of_lt c, ez, List.getElem?_append_right (Nat.le_refl _)] at e2
      have := hz _ (List.mem_of_getElem? e2)
      have h5 := pathAt_lt rs g (b + 1) _ (by rw [ev]; exact List.mem_append_left _ (List.mem_of_getElem? e))
      omega
    have hj : v.length < S.length := by rw [hlen]; omega
    refine ⟨_, _, List.getElem?_eq_getElem hj, ((hall _ _ (List.getElem?_eq_getElem hj)).bx b e).mpr ⟨h1, ho, ?_, fun hm => h2 (by rw [ez]; exact List.mem_append_left _ hm), h4⟩⟩
    rw [ez, List.take_append_of_le_length hle] at h3
    rw [ev, h3]
theorem end_go {N b : Nat} (ho : opn (rs.getD b "") = true) (hb : b < N) : ∀ (n k e : Nat), b < k → k + n = N → (e < k ∧ pathAt rs g (e + 1) = pathAt rs g (b + 1) ∧ ∀ i, i < k → pathAt rs g (i + 1) = pathAt rs g (b + 1) → i ≤ e) → IsEnd rs g N b (endGo (fun i => pathAt rs g (i + 1)) b ((pathAt rs g (b + 1)).length - 1) n k e)
  | 0, k, e, _, hn, h => by
    have : k = N := by omega
    subst this
    exact h
  | n + 1, k, e, hk, hn, ⟨h1, h2, h3⟩ => by
    obtain ⟨v, ev⟩ : ∃ v, pathAt rs g (b + 1) = v ++ [b] := ⟨_, pathAt_open rs g ho⟩
    have lv : (pathAt rs g (b + 1)).length - 1 = v.length := by rw [ev]; simp
    have gb : (pathAt rs g (b + 1))[v.length]? = some b := by rw [ev]; simp
    rw [endGo_succ]
    by_cases c : (pathAt rs g (k + 1))[(pathAt rs g (b + 1)).length - 1]? = some b
    · rw [if_pos c]
      obtain ⟨_, hp⟩ := path_el rs g (k + 1) _ b c
      by_cases c2 : (pathAt rs g (k + 1)).length = (pathAt rs g (b + 1)).length - 1 + 1
      · rw [if_pos c2]
        rw [List.take_of_length_le (by omega)] at hp
        exact end_go ho hb n (k + 1) k (by omega) (by omega) ⟨by omega, hp.symm, fun i hi _ => by omega⟩
      · rw [if_neg c2]
        refine end_go ho hb n (k + 1) e (by omega) (by omega) ⟨by omega, h2, fun i hi e1 => ?_⟩
        by_cases c3 : i = k
        · exfalso
          rw [c3] at e1
          rw [e1] at c2
          have : 0 < (pathAt rs g (b + 1)).length := by rw [ev]; simp
          omega
        · exact h3 i (by omega) e1
    · rw [if_neg c]
      refine ⟨by omega, h2, fun i hi e1 => ?_⟩
      by_cases c3 : i < k
      · exact h3 i c3 e1
      · exfalso
        obtain ⟨m, r, er, hr⟩ := path_later (rs := rs) (g := g) (i := k + 1) (k := i + 1) (by omega)
        have g1 := gb
        rw [← e1, er] at g1
        by_cases c4 : v.length < ((pathAt rs g (k + 1)).take m).length
        · rw [List.getElem?_append_left c4, List.getElem?_take_of_lt (by rw [List.length_take] at c4; omega)] at g1
          exact c (by rw [lv]; exact g1)
        · rw [List.getElem?_append_right (by omega)] at g1
          have := hr b (List.mem_of_getElem? g1)
          omega
theorem end_is {N b : Nat} (ho : opn (rs.getD b "") = true) (hb : b < N) : IsEnd rs g N b (endGo (fun i => pathAt rs g (i + 1)) b ((pathAt rs g (b + 1)).length - 1) (N - b) b b) := by
  obtain ⟨v, ev⟩ : ∃ v, pathAt rs g (b + 1) = v ++ [b] := ⟨_, pathAt_open rs g ho⟩
  have lv : (pathAt rs g (b + 1)).length - 1 = v.length := by rw [ev]; simp
  have gb : (pathAt rs g (b + 1))[v.length]? = some b := by rw [ev]; simp
  obtain ⟨n, hn⟩ : ∃ n, N - b = n + 1 := ⟨N - b - 1, by omega⟩
  rw [hn, endGo_succ, if_pos (by rw [lv]; exact gb), if_pos (by rw [lv, ev]; simp)]
  refine end_go ho hb n (b + 1) b (by omega) (by omega) ⟨by omega, rfl, fun i hi _ => by omega⟩
end
end L2
set_option Elab.async false
set_option linter.all false
set_option maxRecDepth 100000
set_option maxHeartbeats 4000000
namespace L2
open PySem PySem.Spec PyProof.Rows
section
variable {t : SetTable} {es : Array (Int × Value)} {h : Int} {x : Value} {n : Nat}
end
def svT : Value → Str
  | .str x _ => x
  | _ => ""
def setTexts (es : Array (Int × Value)) : List Str := es.toList.map fun e => svT e.2
def byText (w : World) : Bool := w.params.followText "set-order"
def SetS (prog : Program) (w : World) (h : Heap) (a : Addr) (us : List Str) : Prop :=
  ∃ o es ep tb, h.get? a = some o ∧ o.ExactSet ∧ o.data = .set es ep tb ∧ ElemsOf (PySem.strKind prog w) es.toList ∧ setTexts es = us ∧ us.Nodup ∧ es.size < scanBound ∧ tb.fits es.size = true ∧ tb.led = !byText w ∧ (us ≠ [] → tb.plain = false)
section
variable {prog : Program} {w : World} {A : Around} {E : Value → Shared → Prop} {s : Shared}
end
section
variable {prog : Program} {w : World} {A : Around} {E : Value → Shared → Prop} {s : Shared}
end
section
variable {prog : Program} {w : World} {A : Around} {R : Result → Shared → Prop} {I : Addr} {fp wr : List Addr} {G : Array GenState → Array GenState → Prop} {n : Nat} {P : Nat → Value → Prop} {St : Nat → Shared → Prop}
end
section
variable {prog : Program} {w : World} {A : Around} {E : Value → Shared → Prop} {s : Shared}
end
end L2
set_option Elab.async false
set_option linter.all false
set_option maxRecDepth 100000
set_option maxHeartbeats 4000000
namespace L2
open PySem PySem.Spec PyProof.Rows
end L2
set_option Elab.async false
set_option linter.all false
set_option maxRecDepth 100000
set_option maxHeartbeats 4000000
namespace L2
open PySem PySem.Spec PyProof.Rows
section
variable {prog : Program} {w : World} {A : Around} {E : Value → Shared → Prop} {s : Shared}
variable {I S T : Addr} {first : Value} {i n ep slot : Nat} {o : Obj} {es : Array (Int × Value)} {tb : SetTable} {Q : Option Value → Shared → Prop}
end
end L2
set_option Elab.async false
set_option linter.all false
set_option maxRecDepth 100000
set_option maxHeartbeats 4000000
namespace L2
open PySem PySem.Spec PyProof.Rows
section
variable {prog : Program} {w : World} {A : Around} {E : Value → Shared → Prop} {s : Shared} {S : Addr} {i n ep slot : Nat} {o : Obj} {es : Array (Int × Value)} {tb : SetTable}
end
section
variable {prog : Program} {w : World} {A : Around} {E : Value → Shared → Prop} {s : Shared}
end
end L2
set_option Elab.async false
set_option linter.all false
set_option maxRecDepth 100000
set_option maxHeartbeats 4000000
namespace L2
open PySem PySem.Spec PyProof.Rows
structure Ready (prog : Program) (w : World) (s : Shared) (S : Addr) (us : List Str) (I : Addr) (s' : Shared) (vs : List Value) (fp : List Addr) (St : Nat → Heap → Prop) : Prop where
  heap : ∀ b o, s.heap.get? b = some o → s'.heap.get? b = some o
  rest : ∃ d, s' = { s with heap := s'.heap, drawn := d }
  new : s.heap.objs.size ≤ I
  fps : ∀ b ∈ fp, b = S ∨ s.heap.objs.size ≤ b
  lt : ∀ b ∈ fp, b < s'.heap.objs.size
  mem : I ∈ fp
  txts : ∃ us', StrsAre vs us' ∧ us'.Perm us
  st : St 0 s'.heap
  walk : ∀ A : Around, A.handled = none → WalksS prog w A I fp [I] Eq vs.length (fun i v => vs[i]? = some v) (fun i s => St i s.heap)
section
variable {prog : Program} {w : World} {A : Around} {E : Value → Shared → Prop} {s : Shared}
end
end L2
set_option Elab.async false
set_option linter.all false
set_option maxRecDepth 100000
set_option maxHeartbeats 4000000
namespace L2
open PySem PySem.Spec PyProof.Rows
section
variable {prog : Program} {w : World} {A : Around} {E : Value → Shared → Prop} {s : Shared}
end
end L2
set_option Elab.async false
set_option linter.all false
set_option maxRecDepth 100000
set_option maxHeartbeats 4000000
namespace L2
open PySem PySem.Spec PyProof.Rows
def SetO (prog : Program) (w : World) (S : Addr) (us : List Str) : HO := .ext fun h => SetS prog w h S us
section
variable {X : Cx} {pins : List (Addr × Obj)} {σ : St} {H : Hp} {s : Shared}
def rSetOf (P : Program) (w : World) (K : PySem.W.Frag) : List V → Hp → VK → Prop := fun xs H Q => ∃ (a : Addr) (ts : List Str), xs = [.ref a] ∧ SqL K H a (ts.map V.str) ∧ ts.length < 4000 ∧
  ∀ S us, H S = none → us.Nodup → us.length ≤ ts.length → (∀ x, x ∈ us ↔ x ∈ ts) → Q (.ref S) (upd H S (SetO P w S us))
def rSorted (P : Program) (w : World) (K : PySem.W.Frag) : List V → Hp → VK → Prop := fun xs H Q => ∃ (a : Addr) (us : List Str), xs = [.ref a] ∧ (H a = some (SetO P w a us) ∨ SqL K H a (us.map V.str)) ∧ us.length < 64 ∧
  ∀ l vs, H l = none → sortedS vs = true → vs.Perm us → Q (.ref l) (upd H l (.lst (vs.map V.str)))
variable {P : Program} {w : World} {K : PySem.W.Frag} {Q : VK} {p : Addr}
theorem w_setOf : rSetOf P w K [.ref p] H Q = ∃ ts : List Str, SqL K H p (ts.map V.str) ∧ ts.length < 4000 ∧ ∀ S us, H S = none → us.Nodup → us.length ≤ ts.length → (∀ x, x ∈ us ↔ x ∈ ts) → Q (.ref S) (upd H S (SetO P w S us)) := by
  refine propext ⟨fun ⟨_, ts, e, h⟩ => ?_, fun ⟨ts, h⟩ => ⟨p, ts, rfl, h⟩⟩
  cases e; exact ⟨ts, h⟩
theorem w_sorted : rSorted P w K [.ref p] H Q = ∃ us : List Str, (H p = some (SetO P w p us) ∨ SqL K H p (us.map V.str)) ∧ us.length < 64 ∧ ∀ l vs, H l = none → sortedS vs = true → vs.Perm us → Q (.ref l) (upd H l (.lst (vs.map V.str))) := by
  refine propext ⟨fun ⟨_, us, e, h⟩ => ?_, fun ⟨us, h⟩ => ⟨p, us, rfl, h⟩⟩
  cases e; exact ⟨us, h⟩
end
end L2
set_option Elab.async false
set_option linter.all false
set_option maxRecDepth 100000
set_option maxHeartbeats 4000000
namespace L2
open PySem PySem.Spec PyProof.Rows
section
variable {X : Cx}
end
end L2
namespace L2
open PySem PySem.Spec PyProof.Rows
section
variable {K : PySem.W.Frag} {σ : St} {H H' : Hp} {Q : VK} {ta : TA} {p : Addr} {k : Int}
theorem w_mulR : rMulA (.ref p) (.int k) H Q = ∃ xs, H p = some (.lst xs) ∧ -(2 ^ 63) ≤ k ∧ k < 2 ^ 63 ∧ xs.length * k.toNat ≤ sizeLine ∧ ∀ q, H q = none → Q (.ref q) (upd H q (.lst (List.replicate k.toNat xs).flatten)) := by
  refine propext ⟨fun h => ?_, fun ⟨xs, h⟩ => .inr ⟨p, k, xs, rfl, rfl, h⟩⟩
  rcases h with ⟨_, _, e, _⟩ | ⟨_, _, xs, e1, e2, h⟩
  · cases e
  · cases e1; cases e2; exact ⟨xs, h⟩
end
end L2
set_option Elab.async false
set_option linter.all false
set_option maxRecDepth 100000
set_option maxHeartbeats 4000000
namespace L2
open PySem PySem.Spec PyProof.Rows
section
variable {X : Cx}
end
end L2
set_option Elab.async false
set_option linter.all false
set_option maxRecDepth 100000
set_option maxHeartbeats 4000000
namespace L2
open PySem PySem.Spec PySem.Calls PyProof.V PyProof.Rows PyProof.Rows.KTD
section
variable {X : Cx}
def TabK (K : PySem.W.Frag) (a : Addr) (D : List (Str × V)) : Prop :=
  (a == sysModules) = false ∧ ∃ (o : Obj) (es : Array DictEntry) (ep : Nat), K.lookup a = some o ∧ o.ExactDict ∧ o.data = .dict es ep ∧ KTD.Rows (fun d v => RelV d v) es.toList D
def rInTab (K : PySem.W.Frag) : R2 := fun x y H Q => ∃ k p D, x = .str k ∧ y = .ref p ∧ TabK K p D ∧ Q (.bl (inKeys k D)) H
def rIxTab (K : PySem.W.Frag) : R2 := fun x y H Q => ∃ k p D z, x = .ref p ∧ y = .str k ∧ TabK K p D ∧ datumAt k D = some z ∧ Q z H
end
end L2
set_option Elab.async false
set_option linter.all false
set_option maxRecDepth 100000
set_option maxHeartbeats 4000000
namespace L2
open PySem PySem.Spec PyProof.Rows
open AutoSeq1 (wpAny_loadPart')
section
variable {prog : Program} {w : World} {A : Around} {E : Value → Shared → Prop} {s : Shared}
end
section
variable {X : Cx} {pins : List (Addr × Obj)} {σ : St} {H : Hp} {s : Shared} {h' : Heap}
end
section
variable {X : Cx}
end
end L2
set_option Elab.async false
set_option linter.all false
set_option maxRecDepth 100000
set_option maxHeartbeats 4000000
namespace L2
open PySem PySem.Spec PyProof.Rows
section
variable {K : PySem.W.Frag} {nt : Nat} {is : List Nat} {g : TG} {tt : TT} {te : TE} {σ : St} {H : Hp} {Q : VK}
end
section
variable {X : Cx}
def tDNew : TE := fun _ H Q => ∀ p, H p = none → Q (.ref p) (upd H p (.dK []))
theorem Inv.past {pins : List (Addr × Obj)} {σ : St} {H : Hp} {s : Shared} (I : Inv X pins σ H s) : sysModules < s.heap.objs.size := by
  exact Nat.lt_trans (by decide) (I.mod.glob.keeps I.bk).lt
theorem pe_dnew {pos : Pos} : PE X (.Dict [] [] pos) tDNew := fun pins s σ H Q I h =>
  wpAny_Dict_empty ⟨.ref s.heap.objs.size, _, I.laid (a := s.heap.objs.size) (o := .dK []) (t' := s.toks) (fun _ _ q => Heap.get?_push_of_some _ q) (Nat.le_refl _)
    ⟨Nat.zero_le _, beq_eq_false_iff_ne.mpr (Ne.symm (Nat.ne_of_lt I.past)), [], .nil, Heap.DictOf.new s.heap⟩, rfl, h _ (I.hok.fresh (Nat.le_refl _))⟩
theorem w_dnew {σ : St} {H : Hp} {Q : VK} : tDNew σ H Q = ∀ p, H p = none → Q (.ref p) (upd H p (.dK [])) := rfl
theorem w_inTab {K : PySem.W.Frag} {k : Str} {p : Addr} {H : Hp} {Q : VK} : rInTab K (.str k) (.ref p) H Q = ∃ D, TabK K p D ∧ Q (.bl (KTD.inKeys k D)) H := by
  refine propext ⟨fun ⟨_, _, D, e1, e2, h⟩ => ?_, fun ⟨D, h⟩ => ⟨k, p, D, rfl, rfl, h⟩⟩
  cases e1; cases e2; exact ⟨D, h⟩
theorem w_ixTab {K : PySem.W.Frag} {k : Str} {p : Addr} {H : Hp} {Q : VK} : rIxTab K (.ref p) (.str k) H Q = ∃ D z, TabK K p D ∧ KTD.datumAt k D = some z ∧ Q z H := by
  refine propext ⟨fun ⟨_, _, D, z, e1, e2, h⟩ => ?_, fun ⟨D, z, h⟩ => ⟨k, p, D, z, rfl, rfl, h⟩⟩
  cases e1; cases e2; exact ⟨D, z, h⟩
end
end L2
set_option Elab.async false
set_option linter.all false
set_option maxRecDepth 100000
set_option maxHeartbeats 4000000
namespace L2
open PySem PySem.Spec PyProof.Rows
section
variable {K : PySem.W.Frag} {H : Hp} {p : Addr} {ys zs : List V}
end
end L2
set_option Elab.async false
set_option linter.all false
set_option maxRecDepth 100000
set_option maxHeartbeats 4000000
namespace L2
open PySem PySem.Spec PyProof.Rows
section
variable {prog : Program} {w : World} {A : Around} {E : Value → Shared → Prop} {s : Shared}
end
section
variable {X : Cx}
def dS (l : List (Str × V)) : List (Key × V) := l.map fun p => (Sum.inr p.1, p.2)
def valS (l : List (Str × V)) (k : Str) : Option V := (l.find? fun p => decide (p.1 = k)).map (·.2)
def rDGet : V → List V → Hp → VK → Prop := fun x xs H Q => ∃ a k v l, x = .ref a ∧ xs = [.str k, v] ∧ H a = some (.dK (dS l)) ∧ Q ((valS l k).getD v) H
def rSetDef : V → List V → Hp → VK → Prop := fun x xs H Q => ∃ a k v l, x = .ref a ∧ xs = [.str k, v] ∧ H a = some (.dK (dS l)) ∧ l.length < 100000 ∧ (∀ z, valS l k = some z → Q z H) ∧ (valS l k = none → Q v (upd H a (.dK (dS (l ++ [(k, v)])))))
theorem w_setdef {p : Addr} {k : Str} {v : V} {H : Hp} {Q : VK} : rSetDef (.ref p) [.str k, v] H Q = ∃ l, H p = some (.dK (dS l)) ∧ l.length < 100000 ∧ (∀ z, valS l k = some z → Q z H) ∧ (valS l k = none → Q v (upd H p (.dK (dS (l ++ [(k, v)]))))) :=
  propext ⟨fun ⟨_, _, _, l, e1, e2, h⟩ => by cases e1; cases e2; exact ⟨l, h⟩, fun ⟨l, h⟩ => ⟨p, k, v, l, rfl, rfl, h⟩⟩
theorem w_dget {p : Addr} {k : Str} {v : V} {H : Hp} {Q : VK} : rDGet (.ref p) [.str k, v] H Q = ∃ l, H p = some (.dK (dS l)) ∧ Q ((valS l k).getD v) H :=
  propext ⟨fun ⟨_, _, _, l, e1, e2, h⟩ => by cases e1; cases e2; exact ⟨l, h⟩, fun ⟨l, h⟩ => ⟨p, k, v, l, rfl, rfl, h⟩⟩
end
end L2
set_option Elab.async false
set_option linter.all false
set_option maxRecDepth 100000
set_option maxHeartbeats 4000000
namespace L2
open PySem PySem.Spec PyProof.Rows
section
variable {prog : Program} {w : World} {A : Around} {E : Value → Shared → Prop} {s : Shared} {d : Addr} {es : Array DictEntry} {ep : Nat}
end
end L2
set_option Elab.async false
set_option linter.all false
set_option maxRecDepth 100000
set_option maxHeartbeats 4000000
namespace L2
open PySem PySem.Spec PyProof.Rows
section
variable {prog : Program} {w : World} {A : Around} {E : Value → Shared → Prop} {s : Shared} {κ : KeyKind} {kx : SortKind}
def LtAt (κ : KeyKind) (kx : SortKind) (prog : Program) (w : World) (A : Around) (s : Shared) : Prop :=
  ∀ (E : Value → Shared → Prop) (x y : Value) (a b : κ.α) {Q : Bool → Shared → Prop}, κ.keyOf x = some a → κ.keyOf y = some b → Q (κ.blt a b) s → wpAny (model prog w) A (keyLt' kx x y) Q E s
def kOf (κ : KeyKind) (x : Keyed) : κ.α := (κ.keyOf x.1).getD κ.dflt
def Kd (κ : KeyKind) (x : Keyed) : Prop := ∃ a, κ.keyOf x.1 = some a
end
end L2
set_option Elab.async false
set_option linter.all false
set_option maxRecDepth 100000
set_option maxHeartbeats 4000000
namespace L2
open PySem PySem.Spec PyProof.Rows
section
variable {prog : Program} {w : World} {A : Around} {E : Value → Shared → Prop} {s : Shared} {κ : KeyKind} {kx : SortKind}
def Srt (κ : KeyKind) (l : List Keyed) : Prop := l.Pairwise fun x y => κ.kle (kOf κ x) (kOf κ y)
structure MI (κ : KeyKind) (a b out : List Keyed) (ia ib : Nat) : Prop where
  ha : ia ≤ a.length
  hb : ib ≤ b.length
  perm : out.Perm (a.take ia ++ b.take ib)
  srt : Srt κ out
  le : ∀ x ∈ out, ∀ y ∈ a.drop ia ++ b.drop ib, κ.kle (kOf κ x) (kOf κ y)
structure Mg (κ : KeyKind) (a b m : List Keyed) : Prop where
  perm : m.Perm (a ++ b)
  srt : Srt κ m
end
end L2
set_option Elab.async false
set_option linter.all false
set_option maxRecDepth 100000
set_option maxHeartbeats 4000000
namespace L2
open PySem PySem.Spec PyProof.Rows
section
variable {prog : Program} {w : World} {A : Around} {E : Value → Shared → Prop} {s : Shared} {κ : KeyKind} {kx : SortKind}
structure LoH (κ : KeyKind) (kx : SortKind) (prog : Program) (w : World) (A : Around) (s : Shared) (a b : Array Keyed) : Prop where
  o : LtAt κ kx prog w A s
  ka : ∀ x ∈ a, Kd κ x
  kb : ∀ x ∈ b, Kd κ x
  sa : Srt κ a.toList
  sb : Srt κ b.toList
  z : ∀ y ∈ b.toList, ∀ z ∈ a.toList.drop (a.size - 1), κ.kle (kOf κ y) (kOf κ z)
structure LI (κ : KeyKind) (a b out : Array Keyed) (ia ib : Nat) : Prop where
  m : MI κ a.toList b.toList out.toList ia ib
  ia : ia + 1 < a.size
  ib : ib < b.size
end
end L2
set_option Elab.async false
set_option linter.all false
set_option maxRecDepth 100000
set_option maxHeartbeats 4000000
namespace L2
open PySem PySem.Spec PyProof.Rows
section
variable {prog : Program} {w : World} {A : Around} {E : Value → Shared → Prop} {s : Shared} {κ : KeyKind} {kx : SortKind}
structure MH (κ : KeyKind) (a b O : List Keyed) (na nb : Nat) : Prop where
  ha : na ≤ a.length
  hb : nb ≤ b.length
  perm : O.Perm (a.drop na ++ b.drop nb)
  srt : Srt κ O
  le : ∀ x ∈ a.take na ++ b.take nb, ∀ y ∈ O, κ.kle (kOf κ x) (kOf κ y)
structure HiH (κ : KeyKind) (kx : SortKind) (prog : Program) (w : World) (A : Around) (s : Shared) (a b : Array Keyed) : Prop where
  o : LtAt κ kx prog w A s
  ka : ∀ x ∈ a, Kd κ x
  kb : ∀ x ∈ b, Kd κ x
  sa : Srt κ a.toList
  sb : Srt κ b.toList
  z : ∀ x ∈ b.toList.take 1, ∀ y ∈ a.toList, κ.kle (kOf κ x) (kOf κ y)
structure HI (κ : KeyKind) (a b out : Array Keyed) (na nb : Nat) : Prop where
  m : MH κ a.toList b.toList out.toList.reverse na nb
  na : 1 ≤ na
  nb : 2 ≤ nb
end
end L2
set_option Elab.async false
set_option linter.all false
set_option maxRecDepth 100000
set_option maxHeartbeats 4000000
namespace L2
open PySem PySem.Spec PyProof.Rows
section
variable {prog : Program} {w : World} {A : Around} {E : Value → Shared → Prop} {s : Shared} {κ : KeyKind} {kx : SortKind}
end
end L2
set_option Elab.async false
set_option linter.all false
set_option maxRecDepth 100000
set_option maxHeartbeats 4000000
namespace L2
open PySem PySem.Spec PyProof.Rows
section
variable {prog : Program} {w : World} {A : Around} {E : Value → Shared → Prop} {s : Shared} {κ : KeyKind} {kx : SortKind}
structure Kp (lo : Nat) (xs0 xs : Array Keyed) : Prop where
  perm : xs.Perm xs0
  keep : ∀ i, i < lo → xs[i]? = xs0[i]?
end
end L2
set_option Elab.async false
set_option linter.all false
set_option maxRecDepth 100000
set_option maxHeartbeats 4000000
namespace L2
open PySem PySem.Spec PyProof.Rows
section
variable {prog : Program} {w : World} {A : Around} {E : Value → Shared → Prop} {s : Shared} {κ : KeyKind} {kx : SortKind}
def starts : Nat → List (List Keyed) → List (Nat × Nat)
  | _, [] => []
  | n, r :: rs => (n, r.length) :: starts (n + r.length) rs
def pr (x : Nat × Nat × Nat) : Nat × Nat := (x.1, x.2.1)
structure Rn (κ : KeyKind) (l : List Keyed) (pend : List (Nat × Nat × Nat)) (runs : List (List Keyed)) (T : List Keyed) : Prop where
  eq : l = runs.flatten ++ T
  pos : ∀ r ∈ runs, 0 < r.length
  srt : ∀ r ∈ runs, Srt κ r
  pnd : pend.map pr = starts 0 runs
end
end L2
set_option Elab.async false
set_option linter.all false
set_option maxRecDepth 100000
set_option maxHeartbeats 4000000
namespace L2
open PySem PySem.Spec PyProof.Rows
section
variable {prog : Program} {w : World} {A : Around} {E : Value → Shared → Prop} {s : Shared} {κ : KeyKind} {kx : SortKind}
structure So (κ : KeyKind) (kx : SortKind) (st st' : SortSt) (runs : List (List Keyed)) (T : List Keyed) : Prop where
  kind : kindOf st' = kx
  failed : failedOf st' = none
  perm : (arrOf st').Perm (arrOf st)
  rn : Rn κ (arrOf st').toList (pendingOf st').toList runs T
end
end L2
set_option Elab.async false
set_option linter.all false
set_option maxRecDepth 100000
set_option maxHeartbeats 4000000
namespace L2
open PySem PySem.Spec PyProof.Rows
section
variable {prog : Program} {w : World} {A : Around} {E : Value → Shared → Prop} {s : Shared}
end
section
variable {X : Cx}
def rSortedA (P : Program) (w : World) (K : PySem.W.Frag) : List V → Hp → VK → Prop := fun xs H Q => ∃ (a : Addr) (us : List Str), xs = [.ref a] ∧ (H a = some (SetO P w a us) ∨ SqL K H a (us.map V.str)) ∧ us.length ≤ 1000 ∧
  ∀ l vs, H l = none → sortedS vs = true → vs.Perm us → Q (.ref l) (upd H l (.lst (vs.map V.str)))
variable {P : Program} {w : World} {K : PySem.W.Frag} {H : Hp} {Q : VK} {p : Addr}
theorem w_sortedA : rSortedA P w K [.ref p] H Q = ∃ us : List Str, (H p = some (SetO P w p us) ∨ SqL K H p (us.map V.str)) ∧ us.length ≤ 1000 ∧ ∀ l vs, H l = none → sortedS vs = true → vs.Perm us → Q (.ref l) (upd H l (.lst (vs.map V.str))) := by
  refine propext ⟨fun ⟨_, us, e, h⟩ => ?_, fun ⟨us, h⟩ => ⟨p, us, rfl, h⟩⟩
  cases e; exact ⟨us, h⟩
end
end L2
set_option Elab.async false
set_option linter.all false
set_option maxRecDepth 100000
set_option maxHeartbeats 4000000
namespace L2
open PySem PySem.Spec PyProof.Rows PySem.SeqAt
open AutoSeq1 (wpAny_loadPart')
open MeetsSeq MeetsSeq2 MeetsSeq3 SeqRoads2
section
variable {A : Around} {s : Shared}
end
section
variable {A : Around} {s : Shared}
end
end L2
set_option Elab.async false
set_option linter.all false
set_option maxRecDepth 100000
set_option maxHeartbeats 4000000
namespace L2
open PySem PySem.Spec PyProof.Rows PySem.SeqAt
section
variable {prog : Program} {w : World} {A : Around} {E : Value → Shared → Prop} {s : Shared}
end
def rowLt (a b : List Nat × List Int) : Prop := a.1 < b.1 ∨ (a.1 = b.1 ∧ a.2 < b.2)
instance (a b : List Nat × List Int) : Decidable (rowLt a b) := by unfold rowLt; infer_instance
def SecR (h : Heap) (f : Bool) (v : Value) (l : List Int) : Prop := match f with
  | false => ∃ i t, v = .int i t ∧ l = [i]
  | true => ∃ c xs, v = .ref c ∧ h.IsTuple c xs ∧ IntsAre xs.toList l
theorem isTuple_uniq {h : Heap} {a : Addr} {xs ys : Array Value} (h1 : h.IsTuple a xs) (h2 : h.IsTuple a ys) : xs = ys := by
  obtain ⟨o, e1, _, n, d1⟩ := h1
  obtain ⟨o2, e2, _, n2, d2⟩ := h2
  rw [e1] at e2; cases e2
  rw [d1] at d2; cases d2; rfl
theorem intsUniq : ∀ {vs : List Value} {l m : List Int}, IntsAre vs l → IntsAre vs m → l = m
  | _, _, _, .nil, .nil => rfl
  | _, _, _, .cons n t h, .cons _ _ h' => by rw [intsUniq h h']
open Classical in
theorem intsItems {prog : Program} {w : World} : ∀ {vs : List Value} {l : List Int}, IntsAre vs l → ItemsAre (intKind prog w) l vs
  | _, _, .nil => .nil
  | _, _, .cons n t h => .cons (by simp [intKind, Value.isInt]) (intsItems h)
section
variable {A : Around} {s : Shared}
theorem SecR.eqAt {f : Bool} {u v : Value} {l m : List Int} (hu : A.units < cLine) (h1 : SecR s.heap f u l) (h2 : SecR s.heap f v m) : EqAt A s u v (decide (l = m)) := by
  cases f with
  | false =>
    obtain ⟨i, t, rfl, rfl⟩ := h1; obtain ⟨j, t', rfl, rfl⟩ := h2
    have : decide ([i] = [j]) = (i == j) := by simp [Bool.beq_eq_decide_eq]
    rw [this]; exact EqAt.int_int _ _ _ _
  | true =>
    obtain ⟨c, xs, rfl, p, q⟩ := h1
    obtain ⟨c', ys, rfl, p', q'⟩ := h2
    intro prog w E Q h
    obtain ⟨o, ho, hc, n, hd⟩ := p
    obtain ⟨o2, ho2, hc2, n2, hd2⟩ := p'
    exact wpAny_eqBool_tuple (knd := intKind prog w) hu ⟨o, xs, n, ho, hc, hd, intsItems q⟩ ⟨o2, ys, n2, ho2, hc2, hd2, intsItems q'⟩ h
end
end L2
set_option Elab.async false
set_option linter.all false
set_option maxRecDepth 100000
set_option maxHeartbeats 4000000
namespace L2
open PySem PySem.Spec PyProof.Rows PySem.SeqAt
section
variable {prog : Program} {w : World} {A : Around} {E : Value → Shared → Prop} {s : Shared}
end
inductive F2 {α β : Type} (R : α → β → Prop) : List α → List β → Prop
  | nil : F2 R [] []
  | cons {a : α} {b : β} {l : List α} {m : List β} : R a b → F2 R l m → F2 R (a :: l) (b :: m)
abbrev Rw : Type := Str × List Int
def rowK (k : Rw) : List Nat × List Int := (k.1.cps.toList, k.2)
def rowD (f : Bool) (k : Rw) : Dt := match f with
  | false => .tup [.str k.1, .int (k.2.headD 0)]
  | true => .tup [.str k.1, .tup (k.2.map .int)]
def SrtR (l : List (V × Rw)) : Prop := l.Pairwise fun a b => ¬ rowLt (rowK b.2) (rowK a.2)
def rSortedR (K : PySem.W.Frag) (f : Bool) : List V → Hp → VK → Prop := fun xs H Q => ∃ (a : Addr) (zs : List (V × Rw)), xs = [.ref a] ∧ SqL K H a (zs.map (·.1)) ∧ (∀ z ∈ zs, RepD K H (rowD f z.2) z.1 ∧ (f = false → z.2.2.length = 1)) ∧ zs.length ≤ 1000 ∧
  ∀ l zs', H l = none → zs'.Perm zs → SrtR zs' → Q (.ref l) (upd H l (.lst (zs'.map (·.1))))
section
variable {X : Cx} {pins : List (Addr × Obj)} {σ : St} {H : Hp} {s : Shared}
variable {K : PySem.W.Frag} {Q : VK} {p : Addr} {f : Bool}
theorem w_sortedR : rSortedR K f [.ref p] H Q = ∃ zs : List (V × Rw), SqL K H p (zs.map (·.1)) ∧ (∀ z ∈ zs, RepD K H (rowD f z.2) z.1 ∧ (f = false → z.2.2.length = 1)) ∧ zs.length ≤ 1000 ∧
    ∀ l zs', H l = none → zs'.Perm zs → SrtR zs' → Q (.ref l) (upd H l (.lst (zs'.map (·.1)))) := by
  refine propext ⟨fun ⟨_, zs, e, h⟩ => ?_, fun ⟨zs, h⟩ => ⟨p, zs, rfl, h⟩⟩
  cases e; exact ⟨zs, h⟩
end
end L2
set_option Elab.async false
set_option linter.all false
set_option maxRecDepth 100000
set_option maxHeartbeats 4000000
namespace L2
open PySem PySem.Spec PyProof.Rows PySem.SeqAt
def FactAt (h : Heap) (k : Rw) (a : Addr) : Prop := ∃ t c ys, h.IsTuple a #[.str k.1 t, .ref c] ∧ h.IsTuple c ys ∧ IntsAre ys.toList k.2
def factHash (prog : Program) (w : World) (k : Rw) : Int := reduceHash (Builtin.Tuple.tupleHashOf [(PySem.strKind prog w).hash k.1, tupleKeyHash (intKind prog w) k.2])
theorem FactAt.inj {h : Heap} {k k' : Rw} {a : Addr} (h1 : FactAt h k a) (h2 : FactAt h k' a) : k = k' := by
  obtain ⟨t, c, ys, p, q, r⟩ := h1
  obtain ⟨t', c', ys', p', q', r'⟩ := h2
  have e := isTuple_uniq p p'
  simp only [Array.mk.injEq, List.cons.injEq, Value.str.injEq, Value.ref.injEq, and_true] at e
  obtain ⟨⟨e1, _⟩, rfl⟩ := e
  rw [isTuple_uniq q q'] at r
  exact Prod.ext e1 (intsUniq r r')
theorem isTuple_keeps {h h' : Heap} {a d : Addr} {o : Obj} {xs : Array Value} {es ep} (x : h.IsTuple a xs) (ho : h.get? d = some o) (hd : o.data = .dict es ep) (hs : Heap.SameBut d h h') : h'.IsTuple a xs := by
  obtain ⟨u, e, c, n, q⟩ := x
  have hne : a ≠ d := by
    rintro rfl
    cases e.symm.trans ho
    cases hd.symm.trans q
  exact ⟨u, (hs.2 a hne).trans e, c, n, q⟩
section
variable {prog : Program} {w : World} {A : Around} {E : Value → Shared → Prop} {s : Shared}
theorem hash_fact {k : Rw} {a : Addr} {Q : Int → Shared → Prop} (hu : A.units + 1 < cLine) (hk : FactAt s.heap k a) (h : Q (factHash prog w k) { s with toks := s.toks + (k.2.length + 3) }) : wpAny (model prog w) A (pyHash (.ref a)) Q E s := by
  obtain ⟨t, c, ys, p, q, r⟩ := hk
  obtain ⟨o, ho, hc, n, hd⟩ := p
  have hT : s.TypeIs (.ref a) "tuple" := ⟨o, ho, hc⟩
  unfold pyHash
  first | unfold pyHashByItsType | skip
  first | refine wpAny_bind (wpAny_cRoomFor_or (.inr (by omega)) ?_) | skip
  refine wpAny_bind (wpAny_specialOf hT F.slot_tuple_hash.lookup ?_)
  rw [if_neg (show ¬ ((some (Value.builtin "tuple.__hash__") == some Value.none) = true) by rw [beq_builtin_none]; exact Bool.false_ne_true)]
  refine wpAny_bind (wpAny_specialOf hT F.slot_tuple_hash.lookup ?_)
  refine wpAny_bind (wpAny_callSpecialIfBoundUnlessNone?_slot hT F.slot_tuple_hash (wpAny_call_entry F.slot_tuple_hash hT F.entry_tuple_hash ?_ (F.args_tuple_hash_1 _)))
  show wpAny _ _ (Builtin.Tuple.tupleItemsOf (.ref a) >>= _) _ _ s
  refine wpAny_bind (wpAny_tupleItemsOf ho hd (wpAny_bind ?_))
  rw [← Array.forIn_toList]
  simp only [List.forIn_cons, List.forIn_nil]
  have q2 : IsTupleKey (intKind prog w) s.heap k.2 c := let ⟨o2, ho2, hc2, n2, hd2⟩ := q; ⟨o2, ys, n2, ho2, hc2, hd2, intsItems r⟩
  refine wpAny_bind (wpAny_bind ((PySem.strKind prog w).pyHash (k := k.1) (by simp [PySem.strKind, Value.isStrOf]) (wpAny_pure (wpAny_bind (wpAny_bind (wpAny_pyHash_tuple (s := { s with toks := s.toks + 1 }) (by show A.units + 1 < cLine; exact hu) q2 (wpAny_pure (wpAny_pure ?_))))))))
  show wpAny _ _ (retInt (Builtin.Tuple.tupleHashOf [(PySem.strKind prog w).hash k.1, tupleKeyHash (intKind prog w) k.2])) _ _ _
  generalize hz : Builtin.Tuple.tupleHashOf [(PySem.strKind prog w).hash k.1, tupleKeyHash (intKind prog w) k.2] = z
  unfold factHash reduceHash at h
  rw [hz] at h
  have tk : s.toks + 1 + (k.2.length + 1) + 1 = s.toks + (k.2.length + 3) := by omega
  refine wpAny_ret_mkInt ?_
  show wpAny _ _ (if (decide (-(2 : Int) ^ 63 ≤ z) && decide (z < 2 ^ 63)) = true then _ else _) Q E _
  by_cases hr : (decide (-(2 : Int) ^ 63 ≤ z) && decide (z < 2 ^ 63)) = true
  · rw [if_pos hr] at h ⊢
    refine wpAny_pure ?_
    show Q _ { s with toks := s.toks + 1 + (k.2.length + 1) + 1 }
    rw [tk]; exact h
  · rw [if_neg hr] at h ⊢
    refine wpAny_bind (wpAny_rule (wpAny_pure ?_))
    show Q _ { s with toks := s.toks + 1 + (k.2.length + 1) + 1 }
    rw [tk]; exact h
theorem quiet_ints {n : Nat} {c : Addr} {ys : Array Value} {Q : Bool → Shared → Prop} (q : s.heap.IsTuple c ys) (hb : ∀ v ∈ ys, ∀ Q : Bool → Shared → Prop, Q true s → wpAny (model prog w) A (eqIsQuiet n v) Q E s) (h : Q true s) : wpAny (model prog w) A (eqIsQuiet (n + 1) (.ref c)) Q E s := by
  obtain ⟨o, ho, hc, m, hd⟩ := q
  have hT : s.TypeIs (.ref c) "tuple" := ⟨o, ho, hc⟩
  unfold eqIsQuiet
  refine wpAny_bind (wpAny_specialOf hT F.slot_tuple_eq.lookup ?_)
  refine wpAny_bind (wpAny_isInstance hT isSubtype_tuple_tuple ?_)
  simp only [Bool.not_true, Bool.false_eq_true, if_false]
  refine wpAny_bind (wpAny_seqItems ho hd (wpAny_bind ?_))
  show wpAny _ _ (forIn ys _ _) _ _ s
  rw [← Array.forIn_toList]
  refine wpAny_forIn_list _ (fun rest r s' => r.1 = none ∧ s' = s ∧ ∀ v ∈ rest, v ∈ ys) _ ?_ ?_ _ _ ⟨rfl, rfl, fun v hv => by simpa using hv⟩
  · rintro v rest r s' ⟨hr, rfl, hall⟩
    refine wpAny_bind (hb v (hall v (by simp)) _ ?_)
    simp only [Bool.not_true, Bool.false_eq_true, if_false]
    exact wpAny_pure ⟨rfl, rfl, fun u hu' => hall u (by simp [hu'])⟩
  · rintro ⟨r1, r2⟩ s' ⟨hr, rfl, _⟩
    simp only at hr
    subst hr
    exact wpAny_pure h
theorem quiet_fact {k : Rw} {a : Addr} {Q : Bool → Shared → Prop} (hk : FactAt s.heap k a) (h : Q true s) : wpAny (model prog w) A (eqIsQuiet 8 (.ref a)) Q E s := by
  obtain ⟨t, c, ys, p, q, r⟩ := hk
  refine quiet_ints (n := 7) p (fun v hv Q hq => ?_) h
  rcases (by simpa using hv : v = .str k.1 t ∨ v = .ref c) with rfl | rfl
  · rw [eqIsQuiet_byValue _ (by rfl)]; exact wpAny_pure hq
  · refine quiet_ints (n := 6) q (fun u hu Q hq => ?_) hq
    rw [eqIsQuiet_byValue _ ((intsItems (prog := prog) (w := w) r).byValue u (by simpa using hu))]; exact wpAny_pure hq
theorem eq_fact {x y : Rw} {a b : Addr} {Q : Bool → Shared → Prop} (hu : A.units + 1 < cLine) (hx : FactAt s.heap x a) (hy : FactAt s.heap y b) (h : Q (decide (x = y)) s) : wpAny (model prog w) A (eqBool (.ref a) (.ref b)) Q E s := by
  by_cases e : a = b
  · subst e
    rw [hx.inj hy] at h
    simp only [decide_true] at h
    exact EqAt.same _ prog w E Q h
  · obtain ⟨t, c, ys, p, q, r⟩ := hx
    obtain ⟨t', c', ys', p', q', r'⟩ := hy
    have z := RcAt.tuples (A := A) (e := fun j => match j with | 0 => x.1 == y.1 | _ => decide (x.2 = y.2)) p p' (by omega) (fun j h1 h2 => by
      have h1' : j < 2 := h1
      match j, h1' with
      | 0, _ => exact EqAt.str_str _ _ _ _
      | 1, _ => exact SecR.eqAt (f := true) (by show A.units + 1 < cLine; exact hu) ⟨c, ys, rfl, q, r⟩ ⟨c', ys', rfl, q', r'⟩)
    have ez : ((List.range (min (#[Value.str x.1 t, .ref c]).size (#[Value.str y.1 t', .ref c']).size)).all (fun j => match j with | 0 => x.1 == y.1 | _ => decide (x.2 = y.2)) && (#[Value.str x.1 t, .ref c]).size == (#[Value.str y.1 t', .ref c']).size) = decide (x = y) := by
      show ((List.range 2).all (fun j => match j with | 0 => x.1 == y.1 | _ => decide (x.2 = y.2)) && (2 == 2)) = _
      have : List.range 2 = [0, 1] := rfl
      rw [this]
      simp only [List.all_cons, List.all_nil, Bool.and_true, beq_self_eq_true]
      obtain ⟨x1, x2⟩ := x
      obtain ⟨y1, y2⟩ := y
      simp [Prod.ext_iff, Bool.beq_eq_decide_eq]
    rw [ez] at z
    exact EqAt.of_refs e z prog w E Q h
end
def factKind (prog : Program) (w : World) : HeapKind prog w Rw where
  is := FactAt
  hash := factHash prog w
  draws := fun k => k.2.length + 3
  room := fun A => A.units + 1 < cLine
  inj := fun h1 h2 => h1.inj h2
  keeps := fun x ho hd hs => let ⟨t, c, ys, p, q, r⟩ := x; ⟨t, c, ys, isTuple_keeps p ho hd hs, isTuple_keeps q ho hd hs, r⟩
  pyHash := fun hu hk h => hash_fact hu hk h
  eqBool := fun hu hx hy h => eq_fact hu hx hy h
  quiet := fun hk h => quiet_fact hk h
end L2
set_option Elab.async false
set_option linter.all false
set_option maxRecDepth 100000
set_option maxHeartbeats 4000000
namespace L2
open PySem PySem.Spec PyProof.Rows
section
variable {X : Cx}
def putS (l : List (Str × V)) (k : Str) (v : V) : List (Str × V) := if l.any (fun p => decide (p.1 = k)) = true then l.map (fun p => if p.1 = k then (p.1, v) else p) else l ++ [(k, v)]
theorem KV.snoc {κ : Type} {l : List (κ × V)} {m : List (κ × Value)} {k : κ} {v : V} {u : Value} (r : KV l m) (h : RelV v u) : KV (l ++ [(k, v)]) (m ++ [(k, u)]) := by
  induction r with
  | nil => exact .cons ⟨rfl, h⟩ .nil
  | cons h1 _ ih => exact .cons h1 ih
def rSetS : V → V → V → Hp → (Hp → Prop) → Prop := fun o i v H Q => ∃ p k l, o = .ref p ∧ i = .str k ∧ H p = some (.dK (dS l)) ∧ l.length < 4000 ∧ Q (upd H p (.dK (dS (putS l k v))))
def rIxS2 : R2 := fun x y H Q => ∃ k p l z, x = .ref p ∧ y = .str k ∧ Rd H p (.dK (dS l)) ∧ valS l k = some z ∧ Q z H
def rawF (x : Rw × Addr) : Rw × Addr × Value := (x.1, x.2, .bool true)
def FdO (P : Program) (w : World) (d : Addr) (fs : List (Rw × Addr)) : HO := .ext fun h => (d == sysModules) = false ∧ fs.length ≤ sizeLine ∧ ∃ o es ep, h.get? d = some o ∧ o.ExactDict ∧ o.data = .dict es ep ∧ es.toList = (fs.map rawF).map (entryOfKey (factKind P w)) ∧ (fs.map (·.1)).Nodup
def FdAt (P : Program) (w : World) (H : Hp) (d : Addr) (fs : List (Rw × Addr)) : Prop := H d = some (FdO P w d fs) ∨ (fs = [] ∧ H d = some (.dK []))
def pFs (fs : List (Rw × Addr)) (k : Rw) (b : Addr) : List (Rw × Addr) := if (fs.map (·.1)).contains k = true then fs else fs ++ [(k, b)]
def rSetF (P : Program) (w : World) (K : PySem.W.Frag) : V → V → V → Hp → (Hp → Prop) → Prop := fun o i v H Q => ∃ p b k fs, o = .ref p ∧ i = .ref b ∧ v = .bl true ∧ FdAt P w H p fs ∧ RepD K H (rowD true k) (.ref b) ∧ (∀ z ∈ fs, RepD K H (rowD true z.1) (.ref z.2)) ∧ fs.length < 4000 ∧ Q (upd H p (FdO P w p (pFs fs k b)))
def rListF (P : Program) (w : World) : List V → Hp → VK → Prop := fun xs H Q => ∃ d fs, xs = [.ref d] ∧ FdAt P w H d fs ∧ ∀ l, H l = none → Q (.ref l) (upd H l (.lst (fs.map fun f => .ref f.2)))
end
end L2
set_option Elab.async false
set_option linter.all false
set_option maxRecDepth 100000
set_option maxHeartbeats 4000000
namespace L2
open PySem PySem.Spec PyProof.Rows
section
variable {X : Cx}
variable {K : PySem.W.Frag} {H H' : Hp} {Q : VK} {i j : Int} {x y : Str}
def RepX (K : PySem.W.Frag) (H : Hp) (ds : List Dt) (xs : List V) : Prop := ds.length = xs.length ∧ ∀ (j : Nat) d x, ds[j]? = some d → xs[j]? = some x → RepD K H d x
def prR (p : Str × Int) : Rw := (p.1, [p.2])
structure Wd where
  size : Int
  cs : List (Str × Int)
  fs : List Rw
def RisC (cs : List (Str × Int)) : Prop := cs.Pairwise fun a b => a.1.cps.toList < b.1.cps.toList
def RisF (fs : List Rw) : Prop := fs.Pairwise fun a b => rowLt (rowK a) (rowK b)
structure Wd.Ok (W : Wd) : Prop where
  s1 : 1 ≤ W.size
  s2 : W.size ≤ 40
  rc : RisC W.cs
  rf : RisF W.fs
  nm : ∀ p ∈ W.cs, Nm smallS p.1 ∧ 0 ≤ p.2 ∧ p.2 < W.size
  ft : ∀ f ∈ W.fs, Nm smallS f.1 ∧ f.2.length ≤ 3 ∧ ∀ i ∈ f.2, 0 ≤ i ∧ i < W.size
  lc : W.cs.length ≤ 40
  lf : W.fs.length ≤ 100
structure RepW (K : PySem.W.Frag) (H : Hp) (W : Wd) (a c f : Addr) (xs ys : List V) : Prop where
  top : SqT K H a [.int W.size, .ref c, .ref f]
  called : SqT K H c xs
  facts : SqT K H f ys
  rc : RepX K H ((W.cs.map prR).map (rowD false)) xs
  rf : RepX K H (W.fs.map (rowD true)) ys
section
variable {K : PySem.W.Frag} {P : Program} {w : World} {H : Hp} {Q : VK} {p b : Addr} {k : Str} {v : V} {Qh : Hp → Prop}
theorem w_setS : rSetS (.ref p) (.str k) v H Qh = ∃ l, H p = some (.dK (dS l)) ∧ l.length < 4000 ∧ Qh (upd H p (.dK (dS (putS l k v)))) := by
  refine propext ⟨fun ⟨_, _, l, e1, e2, h⟩ => ?_, fun ⟨l, h⟩ => ⟨p, k, l, rfl, rfl, h⟩⟩
  cases e1; cases e2; exact ⟨l, h⟩
theorem w_setF : rSetF P w K (.ref p) (.ref b) (.bl true) H Qh = ∃ k fs, FdAt P w H p fs ∧ RepD K H (rowD true k) (.ref b) ∧ (∀ z ∈ fs, RepD K H (rowD true z.1) (.ref z.2)) ∧ fs.length < 4000 ∧ Qh (upd H p (FdO P w p (pFs fs k b))) := by
  refine propext ⟨fun ⟨_, _, k, fs, e1, e2, _, h⟩ => ?_, fun ⟨k, fs, h⟩ => ⟨p, b, k, fs, rfl, rfl, rfl, h⟩⟩
  cases e1; cases e2; exact ⟨k, fs, h⟩
theorem w_listF : rListF P w [.ref p] H Q = ∃ fs, FdAt P w H p fs ∧ ∀ l, H l = none → Q (.ref l) (upd H l (.lst (fs.map fun f => .ref f.2))) := by
  refine propext ⟨fun ⟨_, fs, e, h⟩ => ?_, fun ⟨fs, h⟩ => ⟨p, fs, rfl, h⟩⟩
  cases e; exact ⟨fs, h⟩
theorem w_ixS2 : rIxS2 (.ref p) (.str k) H Q = ∃ l z, Rd H p (.dK (dS l)) ∧ valS l k = some z ∧ Q z H := by
  refine propext ⟨fun ⟨_, _, l, z, e1, e2, h⟩ => ?_, fun ⟨l, z, h⟩ => ⟨k, p, l, z, rfl, rfl, h⟩⟩
  cases e1; cases e2; exact ⟨l, z, h⟩
end
end
end L2
set_option Elab.async false
set_option linter.all false
set_option maxRecDepth 100000
set_option maxHeartbeats 4000000
namespace L2
open PySem PySem.Spec PyProof.Rows PySem.SeqAt
open AutoSeq1 (wpAny_loadPart')
open MeetsSeq MeetsSeq2 MeetsSeq3 SeqRoads2
section
variable {A : Around} {s : Shared}
end
section
variable {A : Around} {s : Shared}
end
end L2
namespace L2
open PySem PySem.Spec PyProof.Rows
section
variable {X : Cx}
variable {K : PySem.W.Frag} {H : Hp} {Q : VK} {i j : Int} {x y : Str} {p q : Addr}
def rInsert : V → List V → Hp → VK → Prop := fun x vs H Q => ∃ l xs y n, x = .ref l ∧ vs = [.int (n : Nat), y] ∧ H l = some (.lst xs) ∧ n ≤ xs.length ∧ xs.length < 100000 ∧ Q .non (upd H l (.lst (xs.take n ++ y :: xs.drop n)))
theorem w_insert {l : Addr} {y : V} {N : Int} : rInsert (.ref l) [.int N, y] H Q = ∃ xs n, N = (n : Nat) ∧ H l = some (.lst xs) ∧ n ≤ xs.length ∧ xs.length < 100000 ∧ Q .non (upd H l (.lst (xs.take n ++ y :: xs.drop n))) := by
  refine propext ⟨fun ⟨_, xs, _, n, e1, e2, h⟩ => ?_, fun ⟨xs, n, e, h⟩ => ⟨l, xs, y, n, rfl, by rw [e], h⟩⟩
  cases e1
  simp only [List.cons.injEq, V.int.injEq, and_true] at e2
  obtain ⟨e3, rfl⟩ := e2
  exact ⟨xs, n, e3, h⟩
end
end L2
set_option Elab.async false
set_option linter.all false
set_option maxRecDepth 100000
set_option maxHeartbeats 4000000
namespace L2
open PySem PySem.Spec PyProof.Rows
section
variable {prog : Program} {w : World} {A : Around} {E : Value → Shared → Prop} {s : Shared}
end
section
variable {X : Cx}
end
end L2
set_option Elab.async false
set_option linter.all false
set_option maxRecDepth 100000
set_option maxHeartbeats 4000000
namespace L2
open PySem PySem.Spec PyProof.Rows
theorem getD_mem {x : Str} {k : Nat} (h : k < x.length) : x.cps.getD k 0 = x.cps.toList[k]'(by rw [len_cps]; exact h) := by
  have : k < x.cps.size := h
  simp [Array.getD, this]
theorem strip_cut (goes : Nat → Bool) (x : Str) : ∃ u a z, x.cps.toList = u ++ a ++ z ∧ (Txt.stripBy goes true true x).cps.toList = a ∧ (∀ c ∈ u, goes c = true) ∧ (∀ c ∈ z, goes c = true) ∧ ((∀ c ∈ x.cps.toList, goes c = true) → a = []) := by
  have hn := len_cps x
  obtain ⟨l1, l2, l3⟩ := lo_facts goes x
  obtain ⟨h1, h2, h3, h4⟩ := hi_facts goes x _ l1
  have es := stripBy_eq goes true true x
  generalize stripLo goes true x = lo at *
  generalize stripHi goes true x lo = hi at *
  refine ⟨x.cps.toList.take lo, (x.cps.toList.drop lo).take (hi - lo), x.cps.toList.drop hi, ?_, by rw [es, StrLaws.strSub_toList], fun c hc => ?_, fun c hc => ?_, fun h => ?_⟩
  · have e1 : (x.cps.toList.drop lo).drop (hi - lo) = x.cps.toList.drop hi := by rw [List.drop_drop]; congr 1; omega
    rw [List.append_assoc, ← e1, List.take_append_drop, List.take_append_drop]
  · obtain ⟨k, hk, e⟩ := List.mem_iff_getElem.mp hc
    rw [List.length_take] at hk
    have := l2 k (by omega)
    rw [getD_mem (by omega)] at this
    rw [← e, List.getElem_take]; exact this
  · obtain ⟨k, hk, e⟩ := List.mem_iff_getElem.mp hc
    rw [List.length_drop] at hk
    have := h3 (hi + k) (by omega) (by omega)
    rw [getD_mem (by omega)] at this
    rw [← e, List.getElem_drop]; exact this
  · have : lo = x.length := by
      rcases l3 with q | q
      · exact q
      · by_cases c : lo < x.length
        · rw [getD_mem c, h _ (List.getElem_mem _)] at q; cases q
        · omega
    rw [this, List.drop_of_length_le (by omega), List.take_nil]
theorem blank_goes (c : Nat) : (Str.ofString " ").cps.contains c = decide (c = 32) := by
  have : (Str.ofString " ").cps = #[32] := rfl
  rw [this]; simp
section
variable {X : Cx}
def rStripC (f : Str → Str → Str) : V → List V → Hp → VK → Prop := fun x vs H Q => ∃ z y, x = .str z ∧ vs = [.str y] ∧ z.length ≤ 1000000 ∧ Q (.str (f z y)) H
theorem mt_stripC : MtR X "str.strip" (rStripC Txt.stripChars) := by
  intro pins s σ H x vs v us Q I rx rv h
  obtain ⟨z, y, rfl, rfl, hz, q⟩ := h
  obtain ⟨t, rfl⟩ := rx
  obtain ⟨u, rfl, ⟨t', rfl⟩⟩ := rv.one
  exact SC.stripChars (fun t' k => ⟨.str _, H, I.tok _, ⟨t', rfl⟩, q⟩) (Nat.le_trans hz (by rw [sizeLine_eq]; decide))
theorem w_stripC {f : Str → Str → Str} {x y : Str} {H : Hp} {Q : VK} : rStripC f (.str x) [.str y] H Q = (x.length ≤ 1000000 ∧ Q (.str (f x y)) H) := propext ⟨fun ⟨_, _, e, e', h⟩ => by cases e; cases e'; exact h, fun h => ⟨x, y, rfl, rfl, h⟩⟩
end
end L2
set_option Elab.async false
set_option linter.all false
set_option maxRecDepth 100000
set_option maxHeartbeats 4000000
namespace L2
open PySem PySem.Spec PyProof.Rows
section
variable {X : Cx}
def rIntY : List V → Hp → VK → Prop := fun xs H Q => rIntOf xs H Q ∨ ∃ (x : Str) (n : Int), xs = [.str x] ∧ PySem.intText? x = some n ∧ x.length ≤ 640 ∧ Q (.int n) H
theorem w_intYS {H : Hp} {Q : VK} {x : Str} : rIntY [.str x] H Q = ∃ n, PySem.intText? x = some n ∧ x.length ≤ 640 ∧ Q (.int n) H := by
  refine propext ⟨fun h => ?_, fun ⟨n, h⟩ => .inr ⟨x, n, rfl, h⟩⟩
  rcases h with h | ⟨_, n, e, h⟩
  · rcases h with ⟨_, e, _⟩ | ⟨_, e, _⟩ <;> cases e
  · cases e; exact ⟨n, h⟩
def rFind : V → List V → Hp → VK → Prop := fun x vs H Q => ∃ z y, x = .str z ∧ vs = [.str y] ∧ Q (.int (Txt.find z y)) H
theorem w_find {z y : Str} {H : Hp} {Q : VK} : rFind (.str z) [.str y] H Q = Q (.int (Txt.find z y)) H := propext ⟨fun ⟨_, _, e, e', h⟩ => by cases e; cases e'; exact h, fun h => ⟨z, y, rfl, rfl, h⟩⟩
end
end L2
set_option Elab.async false
set_option linter.all false
set_option maxRecDepth 100000
set_option maxHeartbeats 4000000
namespace L2
open PySem PySem.Spec PyProof.Rows
section
variable {M : Model} {A : Around} {E : Value → Shared → Prop} {s : Shared} {env : Env}
end
section
variable {prog : Program} {w : World} {A : Around} {R : Result → Shared → Prop} {s : Shared}
end
section
variable {X : Cx} {NC : List Str} {csc : Scope} {Gx : Addr → Hp → Prop} {C : Addr} {s₁ : Shared} {H₁ : Hp} {ex : List Addr}
variable {k : Nat} {f : Addr} {fd : FuncData} {ps : List Str} {sp : Sp} {dvs : List V} {ds : List Value} {x : Str} {p pos : Pos} {e : Expr} {es : List Expr} {t : TA}
end
section
variable {X : Cx} {NC : List Str} {csc : Scope} {nt : Nat} {is : List Nat} {Gx : Addr → Hp → Prop} {pins : List (Addr × Obj)} {σ : St} {H : Hp} {s : Shared}
end
end L2
set_option Elab.async false
set_option linter.all false
set_option maxRecDepth 100000
set_option maxHeartbeats 4000000
namespace L2
open PySem PySem.Spec PyProof.Rows
section
variable {prog : Program} {w : World} {A : Around} {E : Value → Shared → Prop} {s : Shared}
end
section
variable {X : Cx} {e st : Expr} {te ts : TE} {pos p2 : Pos}
def rNeE (K : PySem.W.Frag) : R2 := fun x y H Q => ∃ p q xs, x = .ref p ∧ y = .ref q ∧ SqL K H p xs ∧ SqL K H q [] ∧ Q (.bl (!decide (xs = []))) H
theorem w_neE {K : PySem.W.Frag} {p q : Addr} {H : Hp} {Q : VK} : rNeE K (.ref p) (.ref q) H Q = ∃ xs, SqL K H p xs ∧ SqL K H q [] ∧ Q (.bl (!decide (xs = []))) H :=
  propext ⟨fun ⟨_, _, xs, e1, e2, h⟩ => by cases e1; cases e2; exact ⟨xs, h⟩, fun ⟨xs, h⟩ => ⟨p, q, xs, rfl, rfl, h⟩⟩
theorem mtR_pop : MtR X "list.pop" rPop := mt_pop
theorem w_pop {p : Addr} {H : Hp} {Q : VK} : rPop (.ref p) [] H Q = ∃ xs y, H p = some (.lst xs) ∧ xs[xs.length - 1]? = some y ∧ Q y (upd H p (.lst xs.dropLast)) :=
  propext ⟨fun ⟨_, xs, y, e1, _, h⟩ => by cases e1; exact ⟨xs, y, h⟩, fun ⟨xs, y, h⟩ => ⟨p, xs, y, rfl, rfl, h⟩⟩
end
end L2
set_option Elab.async false
set_option linter.all false
set_option maxRecDepth 100000
set_option maxHeartbeats 4000000
namespace L2
open PySem PySem.Spec PyProof.Rows
section
variable {X : Cx}
def rRepl0 : V → List V → Hp → VK → Prop := fun v vs H Q => ∃ x y z : Str, v = .str x ∧ vs = [.str y, .str z] ∧ (Builtin.Str.occurrences x y 0 x.length (x.length + 1)).isEmpty = true ∧ Q (.str x) H
theorem mt_repl0 : MtR X "str.replace" rRepl0 := by
  intro pins s σ H x vs v us Q I rx rv h
  obtain ⟨x, y, z, rfl, rfl, he, q⟩ := h
  obtain ⟨t, rfl⟩ := rx
  obtain ⟨u1, u2, rfl, ⟨t1, rfl⟩, ⟨t2, rfl⟩⟩ := vals2 rv
  refine call_gives F.slot_str_replace (typeIs_str _ _ _) F.entry_str_replace (F.args_str_replace_3 _ _ _) (gives_str_replace x y z t t1 t2 fun hf => by rw [he] at hf; cases hf) ?_
  rw [he]
  exact ⟨.str x, H, I, ⟨t, rfl⟩, q⟩
theorem w_repl0 {x y z : Str} {H : Hp} {Q : VK} : rRepl0 (.str x) [.str y, .str z] H Q = ((Builtin.Str.occurrences x y 0 x.length (x.length + 1)).isEmpty = true ∧ Q (.str x) H) := propext ⟨fun ⟨_, _, _, e, e', h⟩ => by cases e; cases e'; exact h, fun h => ⟨x, y, z, rfl, rfl, h⟩⟩
theorem mt_lstripC : MtR X "str.lstrip" (rStripC Txt.lstripChars) := by
  intro pins s σ H x vs v us Q I rx rv h
  obtain ⟨z, y, rfl, rfl, hz, q⟩ := h
  obtain ⟨t, rfl⟩ := rx
  obtain ⟨u, rfl, ⟨t', rfl⟩⟩ := rv.one
  exact SC.lstripChars (fun t' k => ⟨.str _, H, I.tok _, ⟨t', rfl⟩, q⟩) (Nat.le_trans hz (by rw [sizeLine_eq]; decide))
def rCountS : V → List V → Hp → VK → Prop := fun x vs H Q => ∃ z y, x = .str z ∧ vs = [.str y] ∧ Q (.int (Txt.count z y)) H
theorem mt_countS : MtR X "str.count" rCountS := by
  intro pins s σ H x vs v us Q I rx rv h
  obtain ⟨z, y, rfl, rfl, q⟩ := h
  obtain ⟨t, rfl⟩ := rx
  obtain ⟨u, rfl, ⟨t', rfl⟩⟩ := rv.one
  exact SC.count ⟨.int _, H, I.tok _, ⟨_, rfl⟩, q⟩
theorem w_countS {z y : Str} {H : Hp} {Q : VK} : rCountS (.str z) [.str y] H Q = Q (.int (Txt.count z y)) H := propext ⟨fun ⟨_, _, e, e', h⟩ => by cases e; cases e'; exact h, fun h => ⟨z, y, rfl, rfl, h⟩⟩
def rMaxL (K : PySem.W.Frag) : List V → Hp → VK → Prop := fun xs H Q => ∃ (p : Addr) (ns : List Int), xs = [.ref p] ∧ SqL K H p (ns.map V.int) ∧ ns ≠ [] ∧ ∀ M, M ∈ ns → (∀ a ∈ ns, a ≤ M) → Q (.int M) H
theorem intsOfVals : ∀ {ns : List Int} {vs : List Value}, Vals (ns.map V.int) vs → IntsAre vs ns
  | [], _, .nil => .nil
  | n :: ns, _, .cons (b := u) h1 h2 => by
    obtain ⟨t, rfl⟩ := (show ∃ t, u = Value.int n t from h1)
    exact .cons n t (intsOfVals h2)
theorem call_maxL (hc : X.calm = true) : CallR X (.builtin "max") (rMaxL X.K) := by
  intro pins s σ H xs us Q I r h
  obtain ⟨p, ns, rfl, hq, hne, q⟩ := h
  obtain ⟨u, rfl, rx⟩ := vals1 r
  cases rx
  obtain ⟨its, rv, pl, hz⟩ := I.list hq
  have hi := intsOfVals rv
  obtain ⟨as, e⟩ := hi.allInts.items
  have hlen : its.length = ns.length := hi.length
  have hsz : 0 < as.size := by
    have h1 := congrArg Array.size e
    simp [intItems] at h1
    have := List.length_pos_iff.mpr hne
    omega
  refine max_intList (I.ok.hd hc) (xs := as) (by rw [← e]; exact pl.isList) hsz fun v h' tk hv hk => ?_
  obtain ⟨t, rfl⟩ := intItems_at hv
  obtain ⟨h1, h2⟩ := argBest_gt (numAt as) (as.size - 1)
  have en : numsOf (intItems as).toList = ns := by rw [← e]; exact hi.numsOf
  rw [nums_intItems] at en
  refine ⟨.int _, H, I.kept (t' := tk) hk, ⟨t, rfl⟩, q _ ?_ fun a ha => ?_⟩
  · rw [← en, numAt_eq]; exact PySem.getD_mem (by rw [List.length_map, Array.length_toList]; omega)
  · rw [← en] at ha
    obtain ⟨j, hj, rfl⟩ := PySem.mem_getD ha
    rw [List.length_map, Array.length_toList] at hj
    rw [← numAt_eq]; exact h2 j (by omega)
theorem callA_maxL (K : PySem.W.Frag) (hc : X.calm = true) (hK : X.K = K := by rfl) : CallR X (.builtin "max") (rMaxL K) := hK ▸ call_maxL hc
theorem w_maxL {K : PySem.W.Frag} {p : Addr} {H : Hp} {Q : VK} : rMaxL K [.ref p] H Q = ∃ ns : List Int, SqL K H p (ns.map V.int) ∧ ns ≠ [] ∧ ∀ M, M ∈ ns → (∀ a ∈ ns, a ≤ M) → Q (.int M) H := by
  refine propext ⟨fun ⟨_, bs, e, h⟩ => ?_, fun ⟨bs, h⟩ => ⟨p, bs, rfl, h⟩⟩
  cases e; exact ⟨bs, h⟩
def dI (l : List (Int × V)) : List (Key × V) := l.map fun p => (Sum.inl p.1, p.2)
def valI (l : List (Int × V)) (k : Int) : Option V := (l.find? fun p => decide (p.1 = k)).map (·.2)
theorem valI_rel {k : Int} : ∀ {l : List (Int × V)} {vs : List (Key × Value)}, KV (dI l) vs → (valI l k = none → valueAt vs (Sum.inl k : Key) = none) ∧ ∀ z, valI l k = some z → ∃ u, valueAt vs (Sum.inl k : Key) = some u ∧ RelV z u
  | [], _, .nil => ⟨fun _ => rfl, fun z e => by cases e⟩
  | p :: l, _, .cons (b := q) h1 h2 => by
    obtain ⟨i1, i2⟩ := valI_rel (k := k) (l := l) h2
    obtain ⟨e1, r1⟩ := h1
    have e1' : q.1 = (Sum.inl p.1 : Key) := e1.symm
    by_cases c : p.1 = k
    · have ev : valI (p :: l) k = some p.2 := by simp [valI, List.find?_cons, c]
      have ew : ∀ m, valueAt (q :: m) (Sum.inl k : Key) = some q.2 := fun m => by simp [valueAt, List.find?_cons, e1', c]
      exact ⟨fun z => (by rw [ev] at z; cases z), fun z e => (by rw [ev] at e; cases e; exact ⟨_, ew _, r1⟩)⟩
    · have ev : valI (p :: l) k = valI l k := by simp [valI, List.find?_cons, c]
      have ew : ∀ m, valueAt (q :: m) (Sum.inl k : Key) = valueAt m (Sum.inl k : Key) := fun m => by simp [valueAt, List.find?_cons, e1', c]
      rw [ev, ew]
      exact ⟨i1, i2⟩
def putI (l : List (Int × V)) (k : Int) (v : V) : List (Int × V) := if l.any (fun p => decide (p.1 = k)) = true then l.map (fun p => if p.1 = k then (p.1, v) else p) else l ++ [(k, v)]
theorem dI_any {k : Int} : ∀ {l : List (Int × V)} {vs : List (Key × Value)}, KV (dI l) vs → (vs.any fun kv => decide (kv.1 = (Sum.inl k : Key))) = l.any fun p => decide (p.1 = k)
  | [], _, .nil => rfl
  | p :: l, _, .cons (b := q) h1 h2 => by
    have e : q.1 = (Sum.inl p.1 : Key) := h1.1.symm
    rw [List.any_cons, List.any_cons, dI_any (l := l) h2, e]
    congr 1
    simp
theorem dI_map {k : Int} {v : V} {u : Value} (hv : RelV v u) : ∀ {l : List (Int × V)} {vs : List (Key × Value)}, KV (dI l) vs → KV (dI (l.map fun p => if p.1 = k then (p.1, v) else p)) (vs.map fun kv => if kv.1 = (Sum.inl k : Key) then (kv.1, u) else kv)
  | [], _, .nil => .nil
  | p :: l, _, .cons (b := q) h1 h2 => by
    have e : (Sum.inl p.1 : Key) = q.1 := h1.1
    refine .cons ?_ (dI_map hv (l := l) h2)
    dsimp only
    by_cases c : p.1 = k
    · rw [if_pos c, if_pos (by rw [← e, c])]; exact ⟨e, hv⟩
    · rw [if_neg c, if_neg (fun z => c (by rw [← e] at z; exact Sum.inl.inj z))]; exact h1
theorem putI_rel {k : Int} {v : V} {u : Value} {l : List (Int × V)} {vs : List (Key × Value)} (r : KV (dI l) vs) (hv : RelV v u) : KV (dI (putI l k v)) (stored vs (Sum.inl k) u) := by
  unfold putI stored
  have e := dI_any (k := k) r
  by_cases c : (l.any fun p => decide (p.1 = k)) = true
  · rw [if_pos c, if_pos (by rw [← c, ← e])]; exact dI_map hv r
  · rw [if_neg c, if_neg (fun z => c (by rw [← z, ← e])), show dI (l ++ [(k, v)]) = dI l ++ [(Sum.inl k, v)] by simp [dI]]; exact KV.snoc r hv
theorem putI_len (l : List (Int × V)) (k : Int) (v : V) : (putI l k v).length ≤ l.length + 1 := by
  unfold putI; split <;> simp
theorem valI_put (l : List (Int × V)) (k j : Int) (v : V) : valI (putI l k v) j = if j = k then some v else valI l j := by
  unfold putI
  by_cases c : (l.any fun p => decide (p.1 = k)) = true
  · rw [if_pos c]
    induction l with
    | nil => simp at c
    | cons p l ih =>
      unfold valI at ih ⊢
      by_cases c1 : p.1 = k
      · by_cases c2 : j = k
        · simp [c1, c2]
        · have c3 : ¬ k = j := fun z => c2 z.symm
          by_cases c4 : (l.any fun p => decide (p.1 = k)) = true
          · have := ih c4
            rw [if_neg c2] at this ⊢
            simp [c1, c3, this, -List.find?_map]
          · have e : (l.map fun p => if p.1 = k then (p.1, v) else p) = l := by
              conv => rhs; rw [← List.map_id l]
              refine List.map_congr_left fun q hq => ?_
              rw [if_neg (fun z => c4 (List.any_eq_true.mpr ⟨q, hq, by simp [z]⟩))]; rfl
            simp [c1, c2, c3, e]
      · have c4 : (l.any fun p => decide (p.1 = k)) = true := by simpa [c1] using c
        by_cases c5 : p.1 = j
        · have : ¬ j = k := fun z => c1 (c5.trans z)
          simp [c1, c5, this, -List.find?_map]
        · have := ih c4
          simp [c1, c5, this, -List.find?_map]
  · rw [if_neg c]
    unfold valI
    rw [List.find?_append]
    by_cases c2 : j = k
    · have : l.find? (fun p => decide (p.1 = j)) = none := List.find?_eq_none.mpr fun q hq z => c (List.any_eq_true.mpr ⟨q, hq, by rw [← c2]; exact z⟩)
      rw [this, if_pos c2, c2]; simp
    · rw [if_neg c2]
      have : ¬ k = j := fun z => c2 z.symm
      simp [this]
def rSetI : V → V → V → Hp → (Hp → Prop) → Prop := fun o i v H Q => ∃ p k l, o = .ref p ∧ i = .int k ∧ H p = some (.dK (dI l)) ∧ l.length < 4000 ∧ Q (upd H p (.dK (dI (putI l k v))))
theorem set_dI : PSet X rSetI := by
  intro pins s σ H o i v ov iv u Q I ro ri rv h
  obtain ⟨p, k, l, rfl, rfl, hp, hl, q⟩ := h
  cases ro
  obtain ⟨t, rfl⟩ := ri
  obtain ⟨z, hd, vs, rel, dd⟩ := (show ObjOk X.prog X.w H s.heap p (.dK (dI l)) from I.hok p _ hp)
  have hz : vs.length ≤ sizeLine := by have := Paired.length rel; omega
  have hz2 : (dI (putI l k v)).length ≤ sizeLine := by
    have := putI_len l k v
    have e : (dI (putI l k v)).length = (putI l k v).length := by simp [dI]
    rw [e]
    exact Nat.le_trans this (sz1000 (by omega))
  refine wpAny_setItem_pairs (hsz := hz) (mixKind_int X.prog X.w k t) dd fun h' dd' hs => ?_
  have he : ∃ q, h'.get? p = some q := let ⟨q, _, _, hq, _⟩ := dd'; ⟨q, hq⟩
  exact ⟨_, I.write (x := p) (e := p) (o := .dK (dI (putI l k v))) (by rw [hp]; trivial) (.inl rfl) (fun b q hb z => (hs.2 b hb).trans z) he ⟨hz2, hd, _, putI_rel rel rv, dd'⟩, q⟩
def rIxI : R2 := fun x y H Q => ∃ k p l z, x = .ref p ∧ y = .int k ∧ Rd H p (.dK (dI l)) ∧ valI l k = some z ∧ Q z H
theorem ix_dI : IxR X rIxI := by
  intro value slice pins s σ H x y v u Q I rx ry h hs
  obtain ⟨k, p, l, z, rfl, rfl, hp, hat, q⟩ := h
  cases rx
  obtain ⟨t, rfl⟩ := ry
  obtain ⟨_, hd, vs, rel, dd⟩ := (show ObjOk X.prog X.w H s.heap p (.dK (dI l)) from hp.ok I.hok)
  obtain ⟨w', hw, rw'⟩ := (valI_rel (k := k) rel).2 z hat
  refine subscriptTail_builtinR (x := w') dd.typeIs slot_dict_getitem.lookup (wpAny_getItem_of (mixKind_int X.prog X.w k t) dd.mapOf hw ?_) hs
  exact ⟨rfl, z, H, I.tok _, rw', q⟩
def rInI : R2 := fun x y H Q => ∃ k p l, x = .int k ∧ y = .ref p ∧ H p = some (.dK (dI l)) ∧ Q (.bl (valI l k).isSome) H
theorem op_inI : OpR X (compareOp .In) rInI := by
  intro pins s σ H x y v u Q I rx ry h
  obtain ⟨k, p, l, rfl, rfl, hp, q⟩ := h
  obtain ⟨t, rfl⟩ := rx
  cases ry
  obtain ⟨_, hd, vs, rel, dd⟩ := (show ObjOk X.prog X.w H s.heap p (.dK (dI l)) from I.hok p _ hp)
  refine wpAny_in_of (mixKind_int X.prog X.w k t) hd dd.mapOf ?_
  have e : (valueAt vs (Sum.inl k : Key)).isSome = (valI l k).isSome := by
    obtain ⟨h1, h2⟩ := valI_rel (k := k) rel
    cases c : valI l k with
    | none => rw [h1 c]; rfl
    | some z => obtain ⟨u, hu, _⟩ := h2 z c; rw [hu]; rfl
  rw [e]
  exact ⟨.bl _, H, I.tok _, rfl, q⟩
theorem w_inI {k : Int} {p : Addr} {H : Hp} {Q : VK} : rInI (.int k) (.ref p) H Q = ∃ l, H p = some (.dK (dI l)) ∧ Q (.bl (valI l k).isSome) H := propext ⟨fun ⟨_, _, l, e1, e2, h⟩ => by cases e1; cases e2; exact ⟨l, h⟩, fun ⟨l, h⟩ => ⟨k, p, l, rfl, rfl, h⟩⟩
theorem w_ixI {k : Int} {p : Addr} {H : Hp} {Q : VK} : rIxI (.ref p) (.int k) H Q = ∃ l z, Rd H p (.dK (dI l)) ∧ valI l k = some z ∧ Q z H := propext ⟨fun ⟨_, _, l, z, e1, e2, h⟩ => by cases e1; cases e2; exact ⟨l, z, h⟩, fun ⟨l, z, h⟩ => ⟨k, p, l, z, rfl, rfl, h⟩⟩
theorem w_setI {k : Int} {p : Addr} {v : V} {H : Hp} {Q : Hp → Prop} : rSetI (.ref p) (.int k) v H Q = ∃ l, H p = some (.dK (dI l)) ∧ l.length < 4000 ∧ Q (upd H p (.dK (dI (putI l k v)))) := propext ⟨fun ⟨_, _, l, e1, e2, h⟩ => by cases e1; cases e2; exact ⟨l, h⟩, fun ⟨l, h⟩ => ⟨p, k, l, rfl, rfl, h⟩⟩
end
end L2
set_option Elab.async false
set_option linter.all false
set_option maxRecDepth 100000
set_option maxHeartbeats 4000000
namespace L2
open PySem PySem.Spec PyProof.Rows
theorem at_one (x : Str) (c k : Nat) : StrLaws.At x ⟨#[c]⟩ x.length k ↔ x.cps.toList[k]? = some c := StrLaws.subAt_one x c k
theorem count_gap {L : List Nat} {c : Nat} : ∀ {n a : Nat}, a + n ≤ L.length → (∀ k, a ≤ k → k < a + n → L[k]? ≠ some c) → (L.drop a).count c = (L.drop (a + n)).count c
  | 0, a, _, _ => rfl
  | n + 1, a, h, hn => by
    have e : L.drop a = L[a]'(by omega) :: L.drop (a + 1) := List.drop_eq_getElem_cons (by omega)
    have h1 := hn a (Nat.le_refl _) (by omega)
    rw [List.getElem?_eq_getElem (by omega)] at h1
    rw [e, List.count_cons_of_ne (fun z => h1 (by rw [z])), count_gap (n := n) (a := a + 1) (by omega) fun k h2 h3 => hn k (by omega) (by omega)]
    congr 2
    omega
theorem count_chain (x : Str) (c : Nat) : ∀ (cuts : List Nat) (a f : Nat), a ≤ x.cps.toList.length → StrLaws.ChainG x ⟨#[c]⟩ x.length a cuts f → (∀ k, f ≤ k → ¬ StrLaws.At x ⟨#[c]⟩ x.length k) → cuts.length = (x.cps.toList.drop a).count c
  | [], a, f, ha, h, hn => by
    have e : f = a := h
    subst e
    have := count_gap (L := x.cps.toList) (c := c) (n := x.cps.toList.length - f) (a := f) (by omega) fun k h1 _ z => hn k h1 ((at_one x c k).mpr z)
    rw [this, show f + (x.cps.toList.length - f) = x.cps.toList.length by omega, List.drop_length]
    rfl
  | d :: r, a, f, ha, h, hn => by
    obtain ⟨h1, h2, h3, h4⟩ := h
    have g := (at_one x c d).mp h2
    obtain ⟨hd, g⟩ := List.getElem?_eq_some_iff.mp g
    have e1 := count_gap (L := x.cps.toList) (c := c) (n := d - a) (a := a) (by omega) fun k k1 k2 z => h3 k k1 (by omega) ((at_one x c k).mpr z)
    have e2 : x.cps.toList.drop d = x.cps.toList[d] :: x.cps.toList.drop (d + 1) := List.drop_eq_getElem_cons hd
    rw [e1, show a + (d - a) = d by omega, e2, g, List.count_cons_self, List.length_cons, count_chain x c r (d + 1) f (by omega) h4 hn]
theorem count_one (x : Str) (c : Nat) : Txt.count x ⟨#[c]⟩ = ((x.cps.toList.count c : Nat) : Int) := by
  obtain ⟨f, hG, hn⟩ := StrLaws.occ_tight x ⟨#[c]⟩ (Nat.le_refl 1)
  have := count_chain x c _ 0 f (Nat.zero_le _) hG hn
  unfold Txt.count
  rw [this, List.drop_zero]
theorem lstrip_is {goes : Nat → Bool} {x : Str} {u r : List Nat} {c : Nat} (e : x.cps.toList = u ++ c :: r) (hu : ∀ d ∈ u, goes d = true) (hc : goes c = false) : (Txt.stripBy goes true false x).cps.toList = c :: r := by
  have es := stripBy_eq goes true false x
  have lo : stripLo goes true x = u.length := by
    unfold stripLo
    rw [if_pos rfl, e, List.takeWhile_append_of_pos hu, List.takeWhile_cons, if_neg (by rw [hc]; exact Bool.false_ne_true), List.append_nil]
  have hi : ∀ n, stripHi goes false x n = x.length := fun n => rfl
  rw [es, lo, hi, StrLaws.strSub_toList, e, List.drop_left, List.take_of_length_le]
  rw [← len_cps, e]; simp
def bars (l : Nat) : List Nat := (List.replicate l [124, 32]).flatten
theorem times_bars (l : Nat) : (timesS (Str.ofString "| ") l).cps.toList = bars l := by
  have key : ∀ (l : Nat) (a : Array Nat), ((List.replicate l #[124, 32]).foldl (· ++ ·) a).toList = a.toList ++ bars l := by
    intro l
    induction l with
    | zero => intro a; simp [bars]
    | succ n ih =>
      intro a
      rw [List.replicate_succ, List.foldl_cons, ih]
      simp [bars, List.replicate_succ]
  have e : (Str.ofString "| ").cps = #[124, 32] := by decide +kernel
  unfold timesS
  rw [e]
  exact (key l #[]).trans rfl
theorem bars_goes (l : Nat) : ∀ d ∈ bars l, (Str.ofString " |").cps.contains d = true := fun d hd => by
  obtain ⟨p, hp, hd⟩ := List.mem_flatten.mp hd
  rw [(List.mem_replicate.mp hp).2] at hd
  have e : (Str.ofString " |").cps.contains 124 = true ∧ (Str.ofString " |").cps.contains 32 = true := by decide +kernel
  rcases List.mem_cons.mp hd with rfl | hd
  · exact e.1
  · rw [List.mem_singleton.mp hd]; exact e.2
theorem bars_count (l : Nat) : (bars l).count 124 = l := by
  induction l with
  | zero => rfl
  | succ n ih =>
    have e : bars (n + 1) = [124, 32] ++ bars n := by simp [bars, List.replicate_succ]
    rw [e, List.count_append, ih, show ([124, 32] : List Nat).count 124 = 1 by decide]
    omega
theorem bars_len (l : Nat) : (bars l).length = 2 * l := by
  induction l with
  | zero => rfl
  | succ n ih =>
    have e : bars (n + 1) = [124, 32] ++ bars n := by simp [bars, List.replicate_succ]
    rw [e, List.length_append, ih]
    show 2 + _ = _
    omega
def stT (r : Str) : Str := if r = "new" then Str.ofString "" else Str.ofString "false "
def toldT (r : Str) : Str := stT r ++ Str.ofString "; " ++ r
def rowT (l : Nat) (r : Str) : Str := ⟨(bars l ++ (toldT r).cps.toList).toArray⟩
theorem rowT_cps (l : Nat) (r : Str) : (rowT l r).cps.toList = bars l ++ (toldT r).cps.toList := by unfold rowT; simp
theorem told_facts : ∀ r ∈ rules8, (toldT r).length ≤ 20 ∧ 10 ∉ (toldT r).cps.toList ∧ (∃ c t, (toldT r).cps.toList = c :: t ∧ (Str.ofString " |").cps.contains c = false ∧ c ≠ 32) := by
  have h : ∀ r ∈ rules8, (toldT r).length ≤ 20 ∧ 10 ∉ (toldT r).cps.toList ∧ (toldT r).cps.toList ≠ [] ∧ (Str.ofString " |").cps.contains ((toldT r).cps.toList.headD 0) = false ∧ (toldT r).cps.toList.headD 0 ≠ 32 := by decide +kernel
  intro r hr
  obtain ⟨h1, h2, h3, h4, h5⟩ := h r hr
  refine ⟨h1, h2, ?_⟩
  cases e : (toldT r).cps.toList with
  | nil => exact absurd e h3
  | cons c t => rw [e] at h4 h5; exact ⟨c, t, rfl, h4, h5⟩
theorem told_split : ∀ r ∈ rules8, Txt.split (toldT r) (Str.ofString ";") = [stT r, Str.ofString " " ++ r] ∧ ((Txt.split (Str.ofString " " ++ r) " ").filter fun r : Str => !decide (r = "")) = [r] := by decide +kernel
theorem row_lstrip (l : Nat) {r : Str} (hr : r ∈ rules8) : Txt.lstripChars (rowT l r) (Str.ofString " |") = toldT r := by
  obtain ⟨_, _, c, t, e, hc, _⟩ := told_facts r hr
  refine str_ext ?_
  have := lstrip_is (goes := (Str.ofString " |").cps.contains) (x := rowT l r) (u := bars l) (c := c) (r := t) (by rw [rowT_cps, e]) (bars_goes l) hc
  rw [e]; exact this
theorem row_len (l : Nat) {r : Str} (hr : r ∈ rules8) (hl : l ≤ 60) : (rowT l r).length ≤ 140 := by
  have := (told_facts r hr).1
  rw [← len_cps, rowT_cps, List.length_append, bars_len, len_cps]
  omega
theorem bar_eq : Str.ofString "|" = (⟨#[124]⟩ : Str) := by decide +kernel
theorem row_count (l : Nat) (r : Str) : Txt.count (Txt.slice (rowT l r) none (some (((rowT l r).length : Int) - (toldT r).length))) (Str.ofString "|") = l := by
  have h1 : ((rowT l r).length : Int) - (toldT r).length = ((bars l).length : Nat) := by
    rw [← len_cps, rowT_cps, List.length_append, ← len_cps (toldT r)]
    omega
  rw [h1, bar_eq, count_one, slice_to, rowT_cps, List.take_left, bars_count]
theorem row_free (l : Nat) {r : Str} (hr : r ∈ rules8) : 10 ∉ (rowT l r).cps.toList := fun h => by
  rw [rowT_cps] at h
  rcases List.mem_append.mp h with h | h
  · obtain ⟨p, hp, hd⟩ := List.mem_flatten.mp h
    rw [(List.mem_replicate.mp hp).2] at hd
    simp at hd
  · exact (told_facts r hr).2.1 h
theorem row_blank (l : Nat) {r : Str} (hr : r ∈ rules8) : Txt.stripChars (rowT l r) " " ≠ "" := fun h => by
  obtain ⟨_, _, c, t, e, _, hc⟩ := told_facts r hr
  obtain ⟨u, a, z, e1, e2, hu, hz, _⟩ := strip_cut (Str.ofString " ").cps.contains (rowT l r)
  have ea : a = [] := by
    rw [← e2]
    show (Txt.stripChars (rowT l r) " ").cps.toList = []
    rw [h]; rfl
  rw [ea, List.append_nil, rowT_cps, e] at e1
  have hm : c ∈ u ++ z := by rw [← e1]; simp
  have : (Str.ofString " ").cps.contains c = true := by
    rcases List.mem_append.mp hm with q | q
    · exact hu c q
    · exact hz c q
  rw [blank_goes, decide_eq_true_eq] at this
  exact hc this
theorem rows_back {rows : List Str} (hf : ∀ r ∈ rows, 10 ∉ r.cps.toList) (hb : ∀ r ∈ rows, Txt.stripChars r " " ≠ "") : (Txt.split (Str.join ⟨#[10]⟩ rows) ⟨#[10]⟩).filter (fun r : Str => !decide (Txt.stripChars r " " = "")) = rows := by
  by_cases h : rows = []
  · subst h
    decide +kernel
  · rw [split_is 10 h hf]
    exact List.filter_eq_self.mpr fun r hr => by simpa using hb r hr
theorem join_long (c b : Nat) : ∀ {ps : List Str}, (∀ t ∈ ps, t.length ≤ b) → (Str.join ⟨#[c]⟩ ps).length ≤ ps.length * (b + 1)
  | [], _ => by show 0 ≤ _; omega
  | [a], h => by have := h a (by simp); show a.length ≤ _; simp; omega
  | a :: d :: l, h => by
    have ih := join_long c b (ps := d :: l) fun t ht => h t (List.mem_cons_of_mem _ ht)
    have h1 := h a (by simp)
    have e := congrArg List.length (join_cons c a (r := d :: l) (by simp))
    rw [List.length_append, List.length_cons, len_cps, len_cps, len_cps] at e
    rw [List.length_cons, Nat.succ_mul]
    omega
end L2
set_option Elab.async false
set_option linter.all false
set_option maxRecDepth 100000
set_option maxHeartbeats 4000000
namespace L2
open PySem PySem.Spec PyProof.Rows
section
variable {K : PySem.W.Frag} {H H' : Hp}
def RepI (K : PySem.W.Frag) (H : Hp) : Itm → V → Prop
  | .ln i, v => v = .int (i : Nat)
  | .bx b e, v => ∃ a, v = .ref a ∧ SqT K H a [.int (b : Nat), .int (e : Nat)]
theorem RepI.same {it : Itm} {v : V} (h : RepI K H it v) (s : Same H H') : RepI K H' it v := by
  cases it with
  | ln i => exact h
  | bx b e => obtain ⟨a, e1, h1⟩ := h; exact ⟨a, e1, s.seqT h1⟩
theorem RepI.keepL {it : Itm} {v : V} {p : Addr} {ys zs : List V} (h : RepI K H it v) (hp : H p = some (.lst ys)) : RepI K (upd H p (.lst zs)) it v := by
  cases it with
  | ln i => exact h
  | bx b e => obtain ⟨a, e1, h1⟩ := h; exact ⟨a, e1, h1.keepL hp⟩
def RepIs (K : PySem.W.Frag) (H : Hp) (L : List Itm) (xs : List V) : Prop := xs.length = L.length ∧ ∀ (k : Nat) (it : Itm), L[k]? = some it → ∃ v, xs[k]? = some v ∧ RepI K H it v
theorem RepIs.same {L : List Itm} {xs : List V} (h : RepIs K H L xs) (s : Same H H') : RepIs K H' L xs := ⟨h.1, fun k it e => let ⟨v, a, b⟩ := h.2 k it e; ⟨v, a, b.same s⟩⟩
theorem RepIs.keepL {L : List Itm} {xs : List V} {p : Addr} {ys zs : List V} (h : RepIs K H L xs) (hp : H p = some (.lst ys)) : RepIs K (upd H p (.lst zs)) L xs := ⟨h.1, fun k it e => let ⟨v, a, b⟩ := h.2 k it e; ⟨v, a, b.keepL hp⟩⟩
theorem RepIs.nil : RepIs K H [] [] := ⟨rfl, fun k it e => by simp at e⟩
theorem RepIs.snoc {L : List Itm} {xs : List V} {it : Itm} {v : V} (h : RepIs K H L xs) (hv : RepI K H it v) : RepIs K H (L ++ [it]) (xs ++ [v]) := by
  refine ⟨by simp [h.1], fun k it' e => ?_⟩
  by_cases c : k < L.length
  · rw [List.getElem?_append_left c] at e
    rw [List.getElem?_append_left (by rw [h.1]; exact c)]
    exact h.2 k it' e
  · rw [List.getElem?_append_right (by omega)] at e
    have z : k - L.length = 0 := by
      have := (List.getElem?_eq_some_iff.mp e).1
      simp at this; omega
    rw [z] at e
    cases e
    exact ⟨v, by rw [List.getElem?_append_right (by have := h.1; omega), h.1, z]; rfl, hv⟩
theorem RepIs.at {L : List Itm} {xs : List V} {k : Nat} {v : V} (h : RepIs K H L xs) (e : xs[k]? = some v) : ∃ it, L[k]? = some it ∧ RepI K H it v := by
  have hk : k < L.length := by rw [← h.1]; exact (List.getElem?_eq_some_iff.mp e).1
  obtain ⟨v', e', r⟩ := h.2 k _ (List.getElem?_eq_getElem hk)
  rw [e] at e'
  cases e'
  exact ⟨_, List.getElem?_eq_getElem hk, r⟩
structure RepSt (K : PySem.W.Frag) (H : Hp) (S : List (List Itm)) (as : List Addr) : Prop where
  len : as.length = S.length
  nd : as.Nodup
  at_ : ∀ (j : Nat) (L : List Itm), S[j]? = some L → ∃ a xs, as[j]? = some a ∧ H a = some (.lst xs) ∧ RepIs K H L xs
theorem RepSt.same {S : List (List Itm)} {as : List Addr} (h : RepSt K H S as) (s : Same H H') : RepSt K H' S as := ⟨h.len, h.nd, fun j L e => let ⟨a, xs, e1, e2, e3⟩ := h.at_ j L e; ⟨a, xs, e1, s _ _ e2, e3.same s⟩⟩
theorem RepSt.keep {S : List (List Itm)} {as : List Addr} {p : Addr} {ys zs : List V} (h : RepSt K H S as) (hp : H p = some (.lst ys)) (hn : p ∉ as) : RepSt K (upd H p (.lst zs)) S as :=
  ⟨h.len, h.nd, fun j L e => let ⟨a, xs, e1, e2, e3⟩ := h.at_ j L e
    ⟨a, xs, e1, by rw [upd_ne (show a ≠ p from fun z => hn (z ▸ List.mem_of_getElem? e1))]; exact e2, e3.keepL hp⟩⟩
theorem RepSt.lst {S : List (List Itm)} {as : List Addr} (h : RepSt K H S as) {a : Addr} (ha : a ∈ as) : ∃ xs, H a = some (.lst xs) := by
  obtain ⟨j, hj, e⟩ := List.mem_iff_getElem.mp ha
  have hj' : j < S.length := by rw [← h.len]; exact hj
  obtain ⟨a', xs, e1, e2, _⟩ := h.at_ j _ (List.getElem?_eq_getElem hj')
  rw [List.getElem?_eq_getElem hj] at e1
  cases e1
  rw [← e]
  exact ⟨xs, e2⟩
theorem RepSt.last {S0 : List (List Itm)} {A : List Itm} {as : List Addr} (h : RepSt K H (S0 ++ [A]) as) : ∃ as0 a xs, as = as0 ++ [a] ∧ a ∉ as0 ∧ as0.length = S0.length ∧ H a = some (.lst xs) ∧ RepIs K H A xs ∧ RepSt K H S0 as0 := by
  have hlen := h.len
  rw [List.length_append] at hlen
  simp only [List.length_cons, List.length_nil] at hlen
  obtain ⟨a, xs, e1, e2, e3⟩ := h.at_ S0.length A (by simp)
  obtain ⟨hj, e1⟩ := List.getElem?_eq_some_iff.mp e1
  have ea : as = as.take S0.length ++ [a] := by
    have := List.take_succ_eq_append_getElem hj
    rw [List.take_of_length_le (by omega), e1] at this
    exact this
  have hnd := h.nd
  rw [ea] at hnd
  obtain ⟨n1, _, n3⟩ := List.nodup_append.mp hnd
  have h0 : (as.take S0.length).length = S0.length := by rw [List.length_take]; omega
  refine ⟨_, a, xs, ea, fun z => n3 a z a (by simp) rfl, h0, e2, e3, ⟨h0, n1, fun j L e => ?_⟩⟩
  obtain ⟨a', xs', f1, f2, f3⟩ := h.at_ j L (by rw [List.getElem?_append_left (List.getElem?_eq_some_iff.mp e).1]; exact e)
  exact ⟨a', xs', by rw [List.getElem?_take_of_lt (List.getElem?_eq_some_iff.mp e).1]; exact f1, f2, f3⟩
theorem RepSt.grow {S0 : List (List Itm)} {A : List Itm} {as0 : List Addr} {a : Addr} {xs : List V} {it : Itm} {v : V} (h : RepSt K H S0 as0) (ha : a ∉ as0) (e : H a = some (.lst xs)) (hA : RepIs K H A xs) (hv : RepI K H it v) :
    RepSt K (upd H a (.lst (xs ++ [v]))) (S0 ++ [A ++ [it]]) (as0 ++ [a]) := by
  have h' := h.keep (zs := xs ++ [v]) e ha
  refine ⟨by simp [h.len], List.nodup_append.mpr ⟨h.nd, by simp, fun x hx y hy z => ha (by rw [List.mem_singleton.mp hy] at z; exact z ▸ hx)⟩, fun j L ej => ?_⟩
  by_cases c : j < S0.length
  · rw [List.getElem?_append_left c] at ej
    rw [List.getElem?_append_left (by rw [h.len]; exact c)]
    exact h'.at_ j L ej
  · rw [List.getElem?_append_right (by omega)] at ej
    have z : j - S0.length = 0 := by
      have := (List.getElem?_eq_some_iff.mp ej).1
      simp at this; omega
    rw [z] at ej
    cases ej
    exact ⟨a, _, by rw [List.getElem?_append_right (by have := h.len; omega), h.len, z]; rfl, upd_same, (hA.snoc hv).keepL e⟩
theorem RepSt.push {S : List (List Itm)} {as : List Addr} {a : Addr} {it : Itm} {v : V} (h : RepSt K H S as) (hn : H a = none) (hv : RepI K H it v) : RepSt K (upd H a (.lst [v])) (S ++ [[it]]) (as ++ [a]) := by
  have s := same_new hn (.lst [v])
  have ha : a ∉ as := fun z => by obtain ⟨xs, e⟩ := h.lst z; rw [hn] at e; cases e
  have h' := h.same s
  refine ⟨by simp [h.len], List.nodup_append.mpr ⟨h.nd, by simp, fun x hx y hy z => ha (by rw [List.mem_singleton.mp hy] at z; exact z ▸ hx)⟩, fun j L ej => ?_⟩
  by_cases c : j < S.length
  · rw [List.getElem?_append_left c] at ej
    rw [List.getElem?_append_left (by rw [h.len]; exact c)]
    exact h'.at_ j L ej
  · rw [List.getElem?_append_right (by omega)] at ej
    have z : j - S.length = 0 := by
      have := (List.getElem?_eq_some_iff.mp ej).1
      simp at this; omega
    rw [z] at ej
    cases ej
    exact ⟨a, _, by rw [List.getElem?_append_right (by have := h.len; omega), h.len, z]; rfl, upd_same, RepIs.snoc RepIs.nil (hv.same s)⟩
def SameO (out : List Addr) (H H' : Hp) : Prop := ∀ b o, b ∉ out → H b = some o → H' b = some o
theorem SameO.refl (out : List Addr) (H : Hp) : SameO out H H := fun _ _ _ h => h
theorem SameO.trans {out : List Addr} {H1 H2 H3 : Hp} (a : SameO out H1 H2) (b : SameO out H2 H3) : SameO out H1 H3 := fun c o n h => b c o n (a c o n h)
theorem Same.o {out : List Addr} (a : Same H H') : SameO out H H' := fun b o _ h => a b o h
theorem SameO.upd {out : List Addr} {H1 H2 : Hp} {p : Addr} {o : HO} (a : SameO out H1 H2) (hp : p ∈ out) : SameO out H1 (upd H2 p o) := fun b o' n h => by
  rw [upd_ne (show b ≠ p from fun z => n (z ▸ hp))]; exact a b o' n h
def lnsOf (L : List Itm) : List Nat := L.filterMap fun | .ln i => some i | .bx _ _ => none
theorem mem_lns {L : List Itm} {i : Nat} : i ∈ lnsOf L ↔ .ln i ∈ L := by
  unfold lnsOf
  rw [List.mem_filterMap]
  refine ⟨fun ⟨a, h1, h2⟩ => ?_, fun h => ⟨_, h, rfl⟩⟩
  cases a with
  | ln j => cases h2; exact h1
  | bx b e => cases h2
theorem lns_ln {L : List Itm} {k i : Nat} (h : L[k]? = some (.ln i)) : lnsOf (L.take (k + 1)) = lnsOf (L.take k) ++ [i] := by
  obtain ⟨hk, e⟩ := List.getElem?_eq_some_iff.mp h
  rw [List.take_succ_eq_append_getElem hk, e]
  unfold lnsOf
  rw [List.filterMap_append]; rfl
theorem lns_bx {L : List Itm} {k b e : Nat} (h : L[k]? = some (.bx b e)) : lnsOf (L.take (k + 1)) = lnsOf (L.take k) := by
  obtain ⟨hk, e⟩ := List.getElem?_eq_some_iff.mp h
  rw [List.take_succ_eq_append_getElem hk, e]
  unfold lnsOf
  rw [List.filterMap_append]; simp
end
end L2
set_option Elab.async false
set_option linter.all false
set_option maxRecDepth 100000
set_option maxHeartbeats 4000000
namespace K28
open PySem L2
def top (i : Nat) : Stmt := PySem.Challenge.pw_boxproof_k28_whole_what_is_seen.main.body.getD i (.Pass ⟨0, 0, 0, 0⟩)
abbrev s_seen : Stmt := top 1
abbrev s_box_seen : Stmt := top 2
abbrev s_begins_with : Stmt := top 3
abbrev s_end_of : Stmt := top 4
abbrev s_opens : Stmt := top 12
abbrev s_boxes : Stmt := top 13
abbrev s_fitting_boxes : Stmt := top 14
abbrev s_boxes_behind : Stmt := top 15
abbrev s_rows_in : Stmt := top 19
abbrev s_runs_in : Stmt := top 20
abbrev s_begins_and_goes_on : Stmt := top 30
abbrev s_is_word : Stmt := top 33
abbrev s_runs_of : Stmt := top 40
abbrev s_read : Stmt := top 42
abbrev s_take_statement : Stmt := top 43
abbrev s_take_letter : Stmt := top 44
abbrev s_take_pair : Stmt := top 45
abbrev s_take_terms : Stmt := top 46
abbrev s_read_lines : Stmt := top 49
abbrev s_read_line : Stmt := top 50
abbrev s_is_rule : Stmt := top 51
abbrev s_read_statement : Stmt := top 52
abbrev s_read_ref : Stmt := top 53
abbrev s_cell_at_L : Stmt := top 55
abbrev s_mixed_L : Stmt := top 56
abbrev s_level_by_L : Stmt := top 57
abbrev s_rules_by_L : Stmt := top 58
abbrev s_levels_by_L : Stmt := top 59
abbrev s_text_of_L : Stmt := top 61
abbrev s_closed_to_L : Stmt := top 62
abbrev s_lists_at_L : Stmt := top 63
abbrev s_seen_well_L : Stmt := top 64
abbrev s_law : Stmt := top 65
abbrev s_Runs_init : Stmt := inClass (top 41) 0
abbrev s_Runs_take : Stmt := inClass (top 41) 2
abbrev s_Runs_want : Stmt := inClass (top 41) 3
set_option genInjectivity false in
set_option genSizeOf false in
structure Defs where
  (a_seen : Addr) (d_seen : FuncData)
  (a_box_seen : Addr) (d_box_seen : FuncData)
  (a_begins_with : Addr) (d_begins_with : FuncData)
  (a_end_of : Addr) (d_end_of : FuncData)
  (a_opens : Addr) (d_opens : FuncData)
  (a_boxes : Addr) (d_boxes : FuncData)
  (a_fitting_boxes : Addr) (d_fitting_boxes : FuncData)
  (a_boxes_behind : Addr) (d_boxes_behind : FuncData)
  (a_rows_in : Addr) (d_rows_in : FuncData)
  (a_runs_in : Addr) (d_runs_in : FuncData)
  (a_begins_and_goes_on : Addr) (d_begins_and_goes_on : FuncData)
  (a_is_word : Addr) (d_is_word : FuncData)
  (a_runs_of : Addr) (d_runs_of : FuncData)
  (a_read : Addr) (d_read : FuncData)
  (a_take_statement : Addr) (d_take_statement : FuncData)
  (a_take_letter : Addr) (d_take_letter : FuncData)
  (a_take_pair : Addr) (d_take_pair : FuncData)
  (a_take_terms : Addr) (d_take_terms : FuncData)
  (a_read_lines : Addr) (d_read_lines : FuncData)
  (a_read_line : Addr) (d_read_line : FuncData)
  (a_is_rule : Addr) (d_is_rule : FuncData)
  (a_read_statement : Addr) (d_read_statement : FuncData)
  (a_read_ref : Addr) (d_read_ref : FuncData)
  (a_cell_at_L : Addr) (d_cell_at_L : FuncData)
  (a_mixed_L : Addr) (d_mixed_L : FuncData)
  (a_level_by_L : Addr) (d_level_by_L : FuncData)
  (a_rules_by_L : Addr) (d_rules_by_L : FuncData)
  (a_levels_by_L : Addr) (d_levels_by_L : FuncData)
  (a_text_of_L : Addr) (d_text_of_L : FuncData)
  (a_closed_to_L : Addr) (d_closed_to_L : FuncData)
  (a_lists_at_L : Addr) (d_lists_at_L : FuncData)
  (a_seen_well_L : Addr) (d_seen_well_L : FuncData)
  (a_law : Addr) (d_law : FuncData)
  (a_Runs_init : Addr) (d_Runs_init : FuncData)
  (a_Runs_take : Addr) (d_Runs_take : FuncData)
  (a_Runs_want : Addr) (d_Runs_want : FuncData)
  (k_OPENING_RULES : Addr)
  (k_KEPT_WORDS : Addr)
  (k_PAIRS : Addr)
  (k_QUANTIFIERS : Addr)
  (x_BoxError : Addr)
  (x_NoStatement : Addr)
  (x_NoBox : Addr)
  (x_NoLines : Addr)
  (C_Runs : Addr)
set_option genInjectivity false in
set_option genSizeOf false in
structure Tx (K : PySem.W.Frag) (mg : Str → Option Value) (D : Defs) : Prop where
  F_seen : Fun K "seen" "seen" s_seen D.a_seen D.d_seen
  m_seen : mg "seen" = some (.ref D.a_seen)
  b_seen : Binds K D.d_seen ["paths", "k", "i"] []
  F_box_seen : Fun K "box_seen" "box_seen" s_box_seen D.a_box_seen D.d_box_seen
  m_box_seen : mg "box_seen" = some (.ref D.a_box_seen)
  b_box_seen : Binds K D.d_box_seen ["paths", "k", "b"] []
  F_begins_with : Fun K "begins_with" "begins_with" s_begins_with D.a_begins_with D.d_begins_with
  m_begins_with : mg "begins_with" = some (.ref D.a_begins_with)
  b_begins_with : Binds K D.d_begins_with ["path", "beginning"] []
  F_end_of : Fun K "end_of" "end_of" s_end_of D.a_end_of D.d_end_of
  m_end_of : mg "end_of" = some (.ref D.a_end_of)
  b_end_of : Binds K D.d_end_of ["paths", "b"] []
  F_opens : Fun K "opens" "opens" s_opens D.a_opens D.d_opens
  m_opens : mg "opens" = some (.ref D.a_opens)
  b_opens : Binds K D.d_opens ["rule"] []
  F_boxes : Fun K "boxes" "boxes" s_boxes D.a_boxes D.d_boxes
  m_boxes : mg "boxes" = some (.ref D.a_boxes)
  b_boxes : Binds K D.d_boxes ["lines"] []
  F_fitting_boxes : Fun K "fitting_boxes" "fitting_boxes" s_fitting_boxes D.a_fitting_boxes D.d_fitting_boxes
  m_fitting_boxes : mg "fitting_boxes" = some (.ref D.a_fitting_boxes)
  b_fitting_boxes : Binds K D.d_fitting_boxes ["lines"] []
  F_boxes_behind : Fun K "boxes_behind" "boxes_behind" s_boxes_behind D.a_boxes_behind D.d_boxes_behind
  m_boxes_behind : mg "boxes_behind" = some (.ref D.a_boxes_behind)
  b_boxes_behind : Binds K D.d_boxes_behind ["path", "line", "k"] []
  F_rows_in : Fun K "rows_in" "rows_in" s_rows_in D.a_rows_in D.d_rows_in
  m_rows_in : mg "rows_in" = some (.ref D.a_rows_in)
  b_rows_in : Binds K D.d_rows_in ["text"] []
  F_runs_in : Fun K "runs_in" "runs_in" s_runs_in D.a_runs_in D.d_runs_in
  m_runs_in : mg "runs_in" = some (.ref D.a_runs_in)
  b_runs_in : Binds K D.d_runs_in ["row"] []
  F_begins_and_goes_on : Fun K "begins_and_goes_on" "begins_and_goes_on" s_begins_and_goes_on D.a_begins_and_goes_on D.d_begins_and_goes_on
  m_begins_and_goes_on : mg "begins_and_goes_on" = some (.ref D.a_begins_and_goes_on)
  b_begins_and_goes_on : Binds K D.d_begins_and_goes_on ["text", "first_signs"] []
  F_is_word : Fun K "is_word" "is_word" s_is_word D.a_is_word D.d_is_word
  m_is_word : mg "is_word" = some (.ref D.a_is_word)
  b_is_word : Binds K D.d_is_word ["text"] []
  F_runs_of : Fun K "runs_of" "runs_of" s_runs_of D.a_runs_of D.d_runs_of
  m_runs_of : mg "runs_of" = some (.ref D.a_runs_of)
  b_runs_of : Binds K D.d_runs_of ["text"] []
  F_read : Fun K "read" "read" s_read D.a_read D.d_read
  m_read : mg "read" = some (.ref D.a_read)
  b_read : Binds K D.d_read ["text"] []
  F_take_statement : Fun K "take_statement" "take_statement" s_take_statement D.a_take_statement D.d_take_statement
  m_take_statement : mg "take_statement" = some (.ref D.a_take_statement)
  b_take_statement : Binds K D.d_take_statement ["runs", "room"] []
  F_take_letter : Fun K "take_letter" "take_letter" s_take_letter D.a_take_letter D.d_take_letter
  m_take_letter : mg "take_letter" = some (.ref D.a_take_letter)
  b_take_letter : Binds K D.d_take_letter ["runs"] []
  F_take_pair : Fun K "take_pair" "take_pair" s_take_pair D.a_take_pair D.d_take_pair
  m_take_pair : mg "take_pair" = some (.ref D.a_take_pair)
  b_take_pair : Binds K D.d_take_pair ["runs", "room"] []
  F_take_terms : Fun K "take_terms" "take_terms" s_take_terms D.a_take_terms D.d_take_terms
  m_take_terms : mg "take_terms" = some (.ref D.a_take_terms)
  b_take_terms : Binds K D.d_take_terms ["runs"] []
  F_read_lines : Fun K "read_lines" "read_lines" s_read_lines D.a_read_lines D.d_read_lines
  m_read_lines : mg "read_lines" = some (.ref D.a_read_lines)
  b_read_lines : Binds K D.d_read_lines ["text"] []
  F_read_line : Fun K "read_line" "read_line" s_read_line D.a_read_line D.d_read_line
  m_read_line : mg "read_line" = some (.ref D.a_read_line)
  b_read_line : Binds K D.d_read_line ["row"] []
  F_is_rule : Fun K "is_rule" "is_rule" s_is_rule D.a_is_rule D.d_is_rule
  m_is_rule : mg "is_rule" = some (.ref D.a_is_rule)
  b_is_rule : Binds K D.d_is_rule ["text"] []
  F_read_statement : Fun K "read_statement" "read_statement" s_read_statement D.a_read_statement D.d_read_statement
  m_read_statement : mg "read_statement" = some (.ref D.a_read_statement)
  b_read_statement : Binds K D.d_read_statement ["text", "rule"] []
  F_read_ref : Fun K "read_ref" "read_ref" s_read_ref D.a_read_ref D.d_read_ref
  m_read_ref : mg "read_ref" = some (.ref D.a_read_ref)
  b_read_ref : Binds K D.d_read_ref ["run"] []
  F_cell_at_L : Fun K "_law_cell_at" "_law_cell_at" s_cell_at_L D.a_cell_at_L D.d_cell_at_L
  m_cell_at_L : mg "_law_cell_at" = some (.ref D.a_cell_at_L)
  b_cell_at_L : Binds K D.d_cell_at_L ["_law_script", "_law_k"] []
  F_mixed_L : Fun K "_law_mixed" "_law_mixed" s_mixed_L D.a_mixed_L D.d_mixed_L
  m_mixed_L : mg "_law_mixed" = some (.ref D.a_mixed_L)
  b_mixed_L : Binds K D.d_mixed_L ["_law_script", "_law_k"] []
  F_level_by_L : Fun K "_law_level_by" "_law_level_by" s_level_by_L D.a_level_by_L D.d_level_by_L
  m_level_by_L : mg "_law_level_by" = some (.ref D.a_level_by_L)
  b_level_by_L : Binds K D.d_level_by_L ["_law_number", "_law_room", "_law_opener"] []
  F_rules_by_L : Fun K "_law_rules_by" "_law_rules_by" s_rules_by_L D.a_rules_by_L D.d_rules_by_L
  m_rules_by_L : mg "_law_rules_by" = some (.ref D.a_rules_by_L)
  b_rules_by_L : Binds K D.d_rules_by_L ["_law_script"] []
  F_levels_by_L : Fun K "_law_levels_by" "_law_levels_by" s_levels_by_L D.a_levels_by_L D.d_levels_by_L
  m_levels_by_L : mg "_law_levels_by" = some (.ref D.a_levels_by_L)
  b_levels_by_L : Binds K D.d_levels_by_L ["_law_script", "_law_rules"] []
  F_text_of_L : Fun K "_law_text_of" "_law_text_of" s_text_of_L D.a_text_of_L D.d_text_of_L
  m_text_of_L : mg "_law_text_of" = some (.ref D.a_text_of_L)
  b_text_of_L : Binds K D.d_text_of_L ["_law_rules", "_law_levels"] []
  F_closed_to_L : Fun K "_law_closed_to" "_law_closed_to" s_closed_to_L D.a_closed_to_L D.d_closed_to_L
  m_closed_to_L : mg "_law_closed_to" = some (.ref D.a_closed_to_L)
  b_closed_to_L : Binds K D.d_closed_to_L ["_law_lists", "_law_kept"] []
  F_lists_at_L : Fun K "_law_lists_at" "_law_lists_at" s_lists_at_L D.a_lists_at_L D.d_lists_at_L
  m_lists_at_L : mg "_law_lists_at" = some (.ref D.a_lists_at_L)
  b_lists_at_L : Binds K D.d_lists_at_L ["_law_rules", "_law_levels", "_law_k"] []
  F_seen_well_L : Fun K "_law_seen_well" "_law_seen_well" s_seen_well_L D.a_seen_well_L D.d_seen_well_L
  m_seen_well_L : mg "_law_seen_well" = some (.ref D.a_seen_well_L)
  b_seen_well_L : Binds K D.d_seen_well_L ["_law_paths", "_law_rules", "_law_levels", "_law_k"] []
  F_law : Fun K "law" "law" s_law D.a_law D.d_law
  m_law : mg "law" = some (.ref D.a_law)
  b_law : Binds K D.d_law ["_law_script"] []
  F_Runs_init : Fun K "__init__" "Runs.__init__" s_Runs_init D.a_Runs_init D.d_Runs_init
  h_Runs_init : Meth K D.C_Runs "__init__" D.a_Runs_init
  b_Runs_init : Binds K D.d_Runs_init ["self", "runs"] []
  F_Runs_take : Fun K "take" "Runs.take" s_Runs_take D.a_Runs_take D.d_Runs_take
  h_Runs_take : Meth K D.C_Runs "take" D.a_Runs_take
  b_Runs_take : Binds K D.d_Runs_take ["self"] []
  F_Runs_want : Fun K "want" "Runs.want" s_Runs_want D.a_Runs_want D.d_Runs_want
  h_Runs_want : Meth K D.C_Runs "want" D.a_Runs_want
  b_Runs_want : Binds K D.d_Runs_want ["self", "wanted"] []
  c_OPENING_RULES : mg "OPENING_RULES" = some (.ref D.k_OPENING_RULES)
  q_OPENING_RULES : ∀ H, SqT K H D.k_OPENING_RULES [V.str "guess", V.str "new", V.str "case"]
  c_FIGURES : ∃ t, mg "FIGURES" = some (.str "0123456789" t)
  c_MOST_FIGURES : ∃ t, mg "MOST_FIGURES" = some (.int 4 t)
  c_SMALL : ∃ t, mg "SMALL" = some (.str "abcdefghijklmnopqrstuvwxyz" t)
  c_GREAT : ∃ t, mg "GREAT" = some (.str "ABCDEFGHIJKLMNOPQRSTUVWXYZ" t)
  c_SMALL_OR_FIGURE : ∃ t, mg "SMALL_OR_FIGURE" = some (.str "abcdefghijklmnopqrstuvwxyz0123456789" t)
  c_KEPT_WORDS : mg "KEPT_WORDS" = some (.ref D.k_KEPT_WORDS)
  q_KEPT_WORDS : ∀ H, SqT K H D.k_KEPT_WORDS [V.str "not", V.str "and", V.str "or", V.str "then", V.str "all", V.str "some", V.str "false"]
  c_MOST_SIGNS : ∃ t, mg "MOST_SIGNS" = some (.int 8 t)
  c_PAIRS : mg "PAIRS" = some (.ref D.k_PAIRS)
  q_PAIRS : ∀ H, SqT K H D.k_PAIRS [V.str "and", V.str "or", V.str "then"]
  c_QUANTIFIERS : mg "QUANTIFIERS" = some (.ref D.k_QUANTIFIERS)
  q_QUANTIFIERS : ∀ H, SqT K H D.k_QUANTIFIERS [V.str "all", V.str "some"]
  c_RUN_SIGNS : ∃ t, mg "RUN_SIGNS" = some (.str "abcdefghijklmnopqrstuvwxyzABCDEFGHIJKLMNOPQRSTUVWXYZ0123456789" t)
  c_SINGLE_SIGNS : ∃ t, mg "SINGLE_SIGNS" = some (.str "()," t)
  c_END : ∃ t, mg "END" = some (.str "" t)
  c_MOST_TERMS : ∃ t, mg "MOST_TERMS" = some (.int 3 t)
  c_MOST_DEEP : ∃ t, mg "MOST_DEEP" = some (.int 40 t)
  z_all : mg "all" = none
  z_enumerate : mg "enumerate" = none
  z_int : mg "int" = none
  z_isinstance : mg "isinstance" = none
  z_len : mg "len" = none
  z_max : mg "max" = none
  z_min : mg "min" = none
  z_range : mg "range" = none
  z_tuple : mg "tuple" = none
  x_BoxError : XCls K mg "BoxError" D.x_BoxError [] [.type "ValueError", .type "Exception", .type "BaseException", .type "object"] "ValueError.__new__"
  x_NoStatement : XCls K mg "NoStatement" D.x_NoStatement [D.x_BoxError] [.type "ValueError", .type "Exception", .type "BaseException", .type "object"] "ValueError.__new__"
  x_NoBox : XCls K mg "NoBox" D.x_NoBox [D.x_BoxError] [.type "ValueError", .type "Exception", .type "BaseException", .type "object"] "ValueError.__new__"
  x_NoLines : XCls K mg "NoLines" D.x_NoLines [D.x_BoxError] [.type "ValueError", .type "Exception", .type "BaseException", .type "object"] "ValueError.__new__"
  m_Runs : mg "Runs" = some (.ref D.C_Runs)
  cl_Runs : Cls K D.C_Runs
  mk_Runs : Mk K D.C_Runs D.a_Runs_init
  n_Runs_runs : NoAttr K D.C_Runs "runs"
  n_Runs_place : NoAttr K D.C_Runs "place"
  v_NoStatement_NoStatement : SubX K D.x_NoStatement D.x_NoStatement true
  i_NoStatement_NoStatement : PySem.W.kitOne K (.ref D.x_NoStatement) (.ref D.x_NoStatement) = some true
  v_NoLines_NoStatement : SubX K D.x_NoLines D.x_NoStatement false
  i_NoLines_NoStatement : PySem.W.kitOne K (.ref D.x_NoLines) (.ref D.x_NoStatement) = some false
  v_NoBox_NoStatement : SubX K D.x_NoBox D.x_NoStatement false
  i_NoBox_NoStatement : PySem.W.kitOne K (.ref D.x_NoBox) (.ref D.x_NoStatement) = some false
theorem Tx.g_OPENING_RULES {K : PySem.W.Frag} {mg : Str → Option Value} {D : Defs} (T : Tx K mg D) {X : Cx} {pos : Pos} (h : Gl X "OPENING_RULES") (hm : X.mg = mg := by rfl) : PE X (.Name "OPENING_RULES" pos) (tC (.ref D.k_OPENING_RULES)) := pe_glob h (hm ▸ T.c_OPENING_RULES) rfl
theorem Tx.g_SMALL {K : PySem.W.Frag} {mg : Str → Option Value} {D : Defs} (T : Tx K mg D) {X : Cx} {pos : Pos} (h : Gl X "SMALL") (hm : X.mg = mg := by rfl) : PE X (.Name "SMALL" pos) (tC (.str "abcdefghijklmnopqrstuvwxyz")) := by
  obtain ⟨t, e⟩ := T.c_SMALL
  exact pe_glob h (hm ▸ e) ⟨t, rfl⟩
theorem Tx.g_SMALL_OR_FIGURE {K : PySem.W.Frag} {mg : Str → Option Value} {D : Defs} (T : Tx K mg D) {X : Cx} {pos : Pos} (h : Gl X "SMALL_OR_FIGURE") (hm : X.mg = mg := by rfl) : PE X (.Name "SMALL_OR_FIGURE" pos) (tC (.str "abcdefghijklmnopqrstuvwxyz0123456789")) := by
  obtain ⟨t, e⟩ := T.c_SMALL_OR_FIGURE
  exact pe_glob h (hm ▸ e) ⟨t, rfl⟩
theorem Tx.g_MOST_SIGNS {K : PySem.W.Frag} {mg : Str → Option Value} {D : Defs} (T : Tx K mg D) {X : Cx} {pos : Pos} (h : Gl X "MOST_SIGNS") (hm : X.mg = mg := by rfl) : PE X (.Name "MOST_SIGNS" pos) (tC (.int 8)) := by
  obtain ⟨t, e⟩ := T.c_MOST_SIGNS
  exact pe_glob h (hm ▸ e) ⟨t, rfl⟩
theorem Tx.g_QUANTIFIERS {K : PySem.W.Frag} {mg : Str → Option Value} {D : Defs} (T : Tx K mg D) {X : Cx} {pos : Pos} (h : Gl X "QUANTIFIERS") (hm : X.mg = mg := by rfl) : PE X (.Name "QUANTIFIERS" pos) (tC (.ref D.k_QUANTIFIERS)) := pe_glob h (hm ▸ T.c_QUANTIFIERS) rfl
theorem Tx.g_RUN_SIGNS {K : PySem.W.Frag} {mg : Str → Option Value} {D : Defs} (T : Tx K mg D) {X : Cx} {pos : Pos} (h : Gl X "RUN_SIGNS") (hm : X.mg = mg := by rfl) : PE X (.Name "RUN_SIGNS" pos) (tC (.str "abcdefghijklmnopqrstuvwxyzABCDEFGHIJKLMNOPQRSTUVWXYZ0123456789")) := by
  obtain ⟨t, e⟩ := T.c_RUN_SIGNS
  exact pe_glob h (hm ▸ e) ⟨t, rfl⟩
theorem Tx.g_SINGLE_SIGNS {K : PySem.W.Frag} {mg : Str → Option Value} {D : Defs} (T : Tx K mg D) {X : Cx} {pos : Pos} (h : Gl X "SINGLE_SIGNS") (hm : X.mg = mg := by rfl) : PE X (.Name "SINGLE_SIGNS" pos) (tC (.str "(),")) := by
  obtain ⟨t, e⟩ := T.c_SINGLE_SIGNS
  exact pe_glob h (hm ▸ e) ⟨t, rfl⟩
theorem Tx.g_END {K : PySem.W.Frag} {mg : Str → Option Value} {D : Defs} (T : Tx K mg D) {X : Cx} {pos : Pos} (h : Gl X "END") (hm : X.mg = mg := by rfl) : PE X (.Name "END" pos) (tC (.str "")) := by
  obtain ⟨t, e⟩ := T.c_END
  exact pe_glob h (hm ▸ e) ⟨t, rfl⟩
theorem Tx.g_MOST_DEEP {K : PySem.W.Frag} {mg : Str → Option Value} {D : Defs} (T : Tx K mg D) {X : Cx} {pos : Pos} (h : Gl X "MOST_DEEP") (hm : X.mg = mg := by rfl) : PE X (.Name "MOST_DEEP" pos) (tC (.int 40)) := by
  obtain ⟨t, e⟩ := T.c_MOST_DEEP
  exact pe_glob h (hm ▸ e) ⟨t, rfl⟩
theorem sc_seen : FnScope ["paths", "k", "i"] ["paths", "k", "i"] (defScope s_seen) := ⟨rfl, rfl, rfl, by decide +kernel, rfl, by decide +kernel, by decide +kernel⟩
theorem sc_box_seen : FnScope ["paths", "k", "b"] ["paths", "k", "b"] (defScope s_box_seen) := ⟨rfl, rfl, rfl, by decide +kernel, rfl, by decide +kernel, by decide +kernel⟩
theorem sc_begins_with : FnScope ["path", "beginning"] ["path", "beginning"] (defScope s_begins_with) := ⟨rfl, rfl, rfl, by decide +kernel, rfl, by decide +kernel, by decide +kernel⟩
theorem sc_end_of : FnScope ["paths", "b", "place", "end", "k"] ["paths", "b"] (defScope s_end_of) := ⟨rfl, rfl, rfl, by decide +kernel, rfl, by decide +kernel, by decide +kernel⟩
theorem sc_opens : FnScope ["rule"] ["rule"] (defScope s_opens) := ⟨rfl, rfl, rfl, by decide +kernel, rfl, by decide +kernel, by decide +kernel⟩
theorem sc_boxes : FnScope ["lines", "paths", "place"] ["lines"] (defScope s_boxes) := ⟨rfl, rfl, rfl, by decide +kernel, rfl, by decide +kernel, by decide +kernel⟩
theorem sc_fitting_boxes : FnScope ["lines", "paths", "path", "k", "line"] ["lines"] (defScope s_fitting_boxes) := ⟨rfl, rfl, rfl, by decide +kernel, rfl, by decide +kernel, by decide +kernel⟩
theorem sc_boxes_behind : FnScope ["path", "line", "k", "level", "kept"] ["path", "line", "k"] (defScope s_boxes_behind) := ⟨rfl, rfl, rfl, by decide +kernel, rfl, by decide +kernel, by decide +kernel⟩
theorem sc_rows_in : FnScope ["text"] ["text"] (defScope s_rows_in) := ⟨rfl, rfl, rfl, by decide +kernel, rfl, by decide +kernel, by decide +kernel⟩
theorem sc_runs_in : FnScope ["row"] ["row"] (defScope s_runs_in) := ⟨rfl, rfl, rfl, by decide +kernel, rfl, by decide +kernel, by decide +kernel⟩
theorem sc_begins_and_goes_on : FnScope ["text", "first_signs"] ["text", "first_signs"] (defScope s_begins_and_goes_on) := ⟨rfl, rfl, rfl, by decide +kernel, rfl, by decide +kernel, by decide +kernel⟩
theorem sc_is_word : FnScope ["text"] ["text"] (defScope s_is_word) := ⟨rfl, rfl, rfl, by decide +kernel, rfl, by decide +kernel, by decide +kernel⟩
theorem sc_runs_of : FnScope ["text", "sign", "spaced"] ["text"] (defScope s_runs_of) := ⟨rfl, rfl, rfl, by decide +kernel, rfl, by decide +kernel, by decide +kernel⟩
theorem sc_read : FnScope ["text", "runs", "found"] ["text"] (defScope s_read) := ⟨rfl, rfl, rfl, by decide +kernel, rfl, by decide +kernel, by decide +kernel⟩
theorem sc_take_statement : FnScope ["runs", "room", "run", "letter"] ["runs", "room"] (defScope s_take_statement) := ⟨rfl, rfl, rfl, by decide +kernel, rfl, by decide +kernel, by decide +kernel⟩
theorem sc_take_letter : FnScope ["runs", "run"] ["runs"] (defScope s_take_letter) := ⟨rfl, rfl, rfl, by decide +kernel, rfl, by decide +kernel, by decide +kernel⟩
theorem sc_take_pair : FnScope ["runs", "room", "first", "joint", "second"] ["runs", "room"] (defScope s_take_pair) := ⟨rfl, rfl, rfl, by decide +kernel, rfl, by decide +kernel, by decide +kernel⟩
theorem sc_take_terms : FnScope ["runs", "terms"] ["runs"] (defScope s_take_terms) := ⟨rfl, rfl, rfl, by decide +kernel, rfl, by decide +kernel, by decide +kernel⟩
theorem sc_read_lines : FnScope ["text"] ["text"] (defScope s_read_lines) := ⟨rfl, rfl, rfl, by decide +kernel, rfl, by decide +kernel, by decide +kernel⟩
theorem sc_read_line : FnScope ["row", "told", "level", "halves", "runs"] ["row"] (defScope s_read_line) := ⟨rfl, rfl, rfl, by decide +kernel, rfl, by decide +kernel, by decide +kernel⟩
theorem sc_is_rule : FnScope ["text"] ["text"] (defScope s_is_rule) := ⟨rfl, rfl, rfl, by decide +kernel, rfl, by decide +kernel, by decide +kernel⟩
theorem sc_read_statement : FnScope ["text", "rule", "refusal"] ["text", "rule"] (defScope s_read_statement) := ⟨rfl, rfl, rfl, by decide +kernel, rfl, by decide +kernel, by decide +kernel⟩
theorem sc_read_ref : FnScope ["run"] ["run"] (defScope s_read_ref) := ⟨rfl, rfl, rfl, by decide +kernel, rfl, by decide +kernel, by decide +kernel⟩
theorem sc_cell_at_L : FnScope ["_law_script", "_law_k"] ["_law_script", "_law_k"] (defScope s_cell_at_L) := ⟨rfl, rfl, rfl, by decide +kernel, rfl, by decide +kernel, by decide +kernel⟩
theorem sc_mixed_L : FnScope ["_law_script", "_law_k", "_law_cell", "_law_number"] ["_law_script", "_law_k"] (defScope s_mixed_L) := ⟨rfl, rfl, rfl, by decide +kernel, rfl, by decide +kernel, by decide +kernel⟩
theorem sc_level_by_L : FnScope ["_law_number", "_law_room", "_law_opener", "_law_least", "_law_most"] ["_law_number", "_law_room", "_law_opener"] (defScope s_level_by_L) := ⟨rfl, rfl, rfl, by decide +kernel, rfl, by decide +kernel, by decide +kernel⟩
theorem sc_rules_by_L : FnScope ["_law_script", "_law_many", "_law_rules", "_law_k", "_law_number"] ["_law_script"] (defScope s_rules_by_L) := ⟨rfl, rfl, rfl, by decide +kernel, rfl, by decide +kernel, by decide +kernel⟩
theorem sc_levels_by_L : FnScope ["_law_script", "_law_rules", "_law_levels", "_law_room", "_law_k", "_law_opener", "_law_level"] ["_law_script", "_law_rules"] (defScope s_levels_by_L) := ⟨rfl, rfl, rfl, by decide +kernel, rfl, by decide +kernel, by decide +kernel⟩
theorem sc_text_of_L : FnScope ["_law_rules", "_law_levels", "_law_rows", "_law_k", "_law_row"] ["_law_rules", "_law_levels"] (defScope s_text_of_L) := ⟨rfl, rfl, rfl, by decide +kernel, rfl, by decide +kernel, by decide +kernel⟩
theorem sc_closed_to_L : FnScope ["_law_lists", "_law_kept", "_law_last"] ["_law_lists", "_law_kept"] (defScope s_closed_to_L) := ⟨rfl, rfl, rfl, by decide +kernel, rfl, by decide +kernel, by decide +kernel⟩
theorem sc_lists_at_L : FnScope ["_law_rules", "_law_levels", "_law_k", "_law_lists", "_law_at", "_law_opener"] ["_law_rules", "_law_levels", "_law_k"] (defScope s_lists_at_L) := ⟨rfl, rfl, rfl, by decide +kernel, rfl, by decide +kernel, by decide +kernel⟩
theorem sc_seen_well_L : FnScope ["_law_paths", "_law_rules", "_law_levels", "_law_k", "_law_lines", "_law_ends", "_law_one", "_law_thing", "_law_i"] ["_law_paths", "_law_rules", "_law_levels", "_law_k"] (defScope s_seen_well_L) := ⟨rfl, rfl, rfl, by decide +kernel, rfl, by decide +kernel, by decide +kernel⟩
theorem sc_law : FnScope ["_law_script", "_law_rules", "_law_levels", "_law_lines", "_law_paths", "_law_k"] ["_law_script"] (defScope s_law) := ⟨rfl, rfl, rfl, by decide +kernel, rfl, by decide +kernel, by decide +kernel⟩
theorem sc_Runs_init : FnScope ["self", "runs"] ["self", "runs"] (defScope s_Runs_init) := ⟨rfl, rfl, rfl, by decide +kernel, rfl, by decide +kernel, by decide +kernel⟩
theorem sc_Runs_take : FnScope ["self", "run"] ["self"] (defScope s_Runs_take) := ⟨rfl, rfl, rfl, by decide +kernel, rfl, by decide +kernel, by decide +kernel⟩
theorem sc_Runs_want : FnScope ["self", "wanted", "run"] ["self", "wanted"] (defScope s_Runs_want) := ⟨rfl, rfl, rfl, by decide +kernel, rfl, by decide +kernel, by decide +kernel⟩
end K28
set_option Elab.async false
set_option linter.all false
set_option maxRecDepth 100000
set_option maxHeartbeats 4000000
namespace K28
open PySem L2
seal PE PS PSs PA PT PW PG PI PO PIf OpR UnR CallR IxR SlR MtR MtM PSet PH
local macro_rules | `(tactic| walk_at "bpW") => `(tactic| simp only [↓w_v0, ↓w_v1, ↓w_v2, ↓w_v3, ↓w_v4, ↓w_v5, ↓w_v6, ↓w_v7, ↓w_v8, ↓w_v9, ↓w_v10, ↓w_v11, ↓w_c, ↓w_seq, ↓w_ifS, ↓w_next, ↓w_ret, ↓w_drop, ↓w_asg, ↓w_gName, ↓w_op, ↓w_un, ↓w_test, ↓w_B, ↓w_bl, ↓w_and, ↓w_or, ↓w_not, ↓w_andV, ↓w_if, ↓w_true, ↓w_nil, ↓w_cons, ↓w_tup, ↓w_lst, ↓w_call, ↓w_CB, ↓w_BM, ↓w_ty_str, ↓w_ty_list, ↓w_sl, ↓w_noPart, ↓w_part, ↓w_int, ↓w_rI0, ↓w_rI, ↓w_mulI, ↓w_neI, ↓w_neS, ↓w_ltI, ↓w_inS, ↓w_notinS, ↓w_inR, ↓w_notinR, ↓w_ixS, ↓w_ixR, ↓w_lenS, ↓w_lenR, ↓w_all, ↓w_join, ↓w_intB, ↓w_intI, ↓w_itS, ↓w_itR, ↓w_iAny, ↓w_rng1, ↓w_rngI, ↓w_ints2, ↓w_tupleOf, ↓w_listOf, ↓w_append, ↓w_extend, ↓w_setL, ↓w_gSub, ↓w_instInt, ↓w_instStr, ↓w_joinA, ↓w_eqIB, ↓w_eqSB, ↓w_eqR_, ↓w_eq_R, ↓w_instIntB, ↓w_instStrB, ↓w_instRB, ↓tFor_eq, ↓tComp_eq, ↓List.set_cons_zero, ↓List.set_cons_succ, ↓List.nil_append, ↓List.cons_append, ↓List.append_nil, ↓reduceIte, Bool.false_eq_true, decide_eq_true_eq, Bool.not_eq_true', decide_eq_false_iff_not, ↓w_try, ↓w_exStr, ↓w_orStr, ↓w_orInt, ↓w_eqIC, ↓w_eqSC, ↓w_eqRC, ↓w_eqCR, ↓w_neIC, ↓w_neSC, ↓w_neRC, ↓w_neCR, ↓w_inCS, ↓w_notinCS, ↓w_inCR, ↓w_is, ↓w_is2, ↓w_strip, ↓w_split, ↓w_mulS, ↓w_BM0, ↓w_fld, ↓w_sfld, ↓w_meth, ↓w_make, ↓w_any, ↓w_sum, ↓w_ipI, ↓w_gTup, ↓w_gCons, ↓w_gNil, ↓w_slSB, ↓w_slRB, ↓w_addIB, ↓w_addSB, ↓w_catRB, ↓w_instBlB, ↓w_eqBlB, ↓w_neBl, ↓w_eqBlC, ↓w_neBlC, ↓w_break, ↓w_rng2, ↓w_isN, ↓w_while, ↓w_ltS, ↓w_enum, ↓w_count, ↓w_enum, ↓w_count, ↓w_dnew, ↓w_pop, ↓w_stripC, ↓w_repl0, ↓w_countS, ↓w_maxL, ↓w_inI, ↓w_ixI, ↓w_setI])
local macro_rules | `(tactic| walk_at "S") => `(tactic| simp only [L2.start, List.map_cons, List.map_nil, List.length_cons, List.length_nil, Nat.reduceAdd, Nat.reduceSub, List.replicate_succ, List.replicate_zero, List.cons_append, List.nil_append, List.append_nil, Nat.zero_add, Nat.sub_self])
local macro_rules | `(tactic| walk_at "o") => `(tactic| first | exact Or.inl (by rfl) | exact Or.inr (by rfl))
local macro_rules | `(tactic| walk_at "") => `(tactic| walk_at "bpW")
section
variable {P : Program} {w : World} {K : PySem.W.Frag} {mg : Str → Option Value} {base0 : Heap} {D : Defs}
theorem ok_cell_at_L (T : Tx K mg D) : FnOk P w K mg base0 CX0 1 D.a_cell_at_L D.d_cell_at_L ["_law_script", "_law_k"] (spCell K) := by
  refine T.F_cell_at_L.ok sc_cell_at_L (fun vs H Q E h => ?_) (fun cdv A outer s H vs Q E hr h => ?_)
  · obtain ⟨a, ns, n, rfl, _⟩ := h; rfl
  obtain ⟨a, ns, n, rfl, hS, h0, k⟩ := h
  have hu := hr.units
  refine ⟨_, (pss_cons (ps_if (pt_cmpR opA_lt (pv 1) (pe_callB (callA_len K) (by rfl) T.z_len PySem.boot_len (pa_cons (pv 0) pa_nil)) (nomark _)) (pss_one (ps_ret (pe_ix (ixA K) (pv 0) (pv 1) (fun _ _ => rfl)))) pss_nil)
    (pss_one (ps_ret pe_int))), ?_⟩
  walk_at "S"
  walk_at ""
  refine ⟨_, .inl hS, ?_⟩
  unfold cellI at k
  rw [List.length_map]
  refine ite2 (fun c => ?_) fun c => ?_
  · rw [if_pos c] at k
    exact ⟨_, .inl hS, _, atI_ints h0 c, k⟩
  · rw [if_neg c] at k; exact k
theorem ok_mixed_L (T : Tx K mg D) : FnOk P w K mg base0 CX0 1 D.a_mixed_L D.d_mixed_L ["_law_script", "_law_k"] (spMix K) := by
  refine T.F_mixed_L.ok sc_mixed_L (fun vs H Q E h => ?_) (fun cdv A outer s H vs Q E hr h => ?_)
  · obtain ⟨a, ns, n, rfl, _⟩ := h; rfl
  obtain ⟨a, ns, n, rfl, hS, h0, h1, k⟩ := h
  have hu := hr.units
  refine ⟨_, (pss_cons (ps_set (i := 2) sc_mixed_L.nd (by rfl) (by walk_at "o") pe_int)
    (pss_cons (ps_if (pt_cmpR op_gt (pe_callB (callA_len K) (by rfl) T.z_len PySem.boot_len (pa_cons (pv 0) pa_nil)) pe_int (nomark _)) (pss_one (ps_set (i := 2) sc_mixed_L.nd (by rfl) (by walk_at "o") (pe_ix (ixA K) (pv 0) (pe_op op_modP (pv 1) (pe_callB (callA_len K) (by rfl) T.z_len PySem.boot_len (pa_cons (pv 0) pa_nil))) (fun _ _ => rfl)))) pss_nil)
    (pss_cons (ps_set (i := 3) sc_mixed_L.nd (by rfl) (by walk_at "o") (pe_op op_modP (pe_op opA_mul (pe_op (opB_add K) (pv 2) (pe_op opA_mul pe_int (pv 1))) pe_int) pe_int))
    (pss_one (ps_ret (pe_op op_modP (pe_op (opB_add K) (pe_op opA_mul (pv 3) (pv 3)) (pe_op opA_mul pe_int (pv 3))) pe_int)))))), ?_⟩
  walk_at "S"
  walk_at ""
  have hm : CMul 7919 n := cmulL
  have fin : ∀ c : Int, CMul (c + 7919 * n) 48271 ∧ (0 : Int) < 2147483647 ∧ CMul ((c + 7919 * n) * 48271 % 2147483647) ((c + 7919 * n) * 48271 % 2147483647) ∧ CMul 16807 ((c + 7919 * n) * 48271 % 2147483647) ∧ (0 : Int) < 2147483629 ∧
      Q (V.int (((c + 7919 * n) * 48271 % 2147483647 * ((c + 7919 * n) * 48271 % 2147483647) + 16807 * ((c + 7919 * n) * 48271 % 2147483647)) % 2147483629)) H := fun c =>
    ⟨cmulR, by decide, .inl ⟨by omega, by omega⟩, cmulL, by decide, k _ (Int.emod_nonneg _ (by decide)) (Int.emod_lt_of_pos _ (by decide))⟩
  have hl : (ns.map V.int).length = ns.length := List.length_map _
  refine ⟨_, .inl hS, ite2 (fun c => ?_) fun c => ⟨hm, fin 0⟩⟩
  rw [hl] at c
  refine ⟨_, .inl hS, by rw [hl]; exact c, _, .inl hS, _, atI_ints (Int.emod_nonneg _ (by rw [hl]; omega)) (by rw [hl]; exact Int.emod_lt_of_pos _ c), hm, ?_⟩
  walk_at ""
  exact fin _
theorem ok_level_by_L (T : Tx K mg D) : FnOk P w K mg base0 CX0 1 D.a_level_by_L D.d_level_by_L ["_law_number", "_law_room", "_law_opener"] spLevelBy := by
  refine T.F_level_by_L.ok sc_level_by_L (fun vs H Q E h => ?_) (fun cdv A outer s H vs Q E hr h => ?_)
  · obtain ⟨n, r, b, rfl, _⟩ := h; rfl
  obtain ⟨n, r, b, rfl, h0, h1, k⟩ := h
  have hu := hr.units
  refine ⟨_, (pss_cons (ps_set (i := 3) sc_level_by_L.nd (by rfl) (by walk_at "o") (pe_callTy callA_int (by rfl) T.z_int (by rfl) (pa_cons (pv 2) pa_nil)))
    (pss_cons (ps_set (i := 4) sc_level_by_L.nd (by rfl) (by walk_at "o") (pe_callB (call_min2 (by rfl)) (by rfl) T.z_min (by rfl) (pa_cons (pe_op (opB_add K) (pv 1) (pv 3)) (pa_cons pe_int pa_nil))))
    (pss_cons (ps_if (pt_cmpR op_gt (pe_op op_modP (pv 0) pe_int) pe_int (nomark _)) (pss_one (ps_ret (pv 4))) pss_nil)
    (pss_one (ps_ret (pe_op (opB_add K) (pv 3) (pe_op op_modP (pe_op op_fdivP (pv 0) pe_int) (pe_op (opB_add K) (pe_op op_sub (pv 4) (pv 3)) pe_int)))))))), ?_⟩
  walk_at "S"
  walk_at ""
  have key : ∀ z : Int, (if b = true then (1 : Int) else 0) ≤ z → z ≤ r + (if b = true then (1 : Int) else 0) → z ≤ 60 → Q (.int z) H := fun z z0 z1 z2 => by
    have hz : 0 ≤ z := by cases b <;> simp at z0 <;> omega
    have := k z.toNat (by cases b <;> simp at z0 ⊢; omega) (by rw [Int.toNat_of_nonneg hz]; exact z1) (by omega)
    rwa [Int.toNat_of_nonneg hz] at this
  have he : 0 ≤ (if b = true then (1 : Int) else 0) ∧ (if b = true then (1 : Int) else 0) ≤ 1 := by cases b <;> decide
  generalize (if b = true then (1 : Int) else 0) = e at key he
  have hm : ∃ m, (if 60 < r + e then (60 : Int) else r + e) = m ∧ m ≤ 60 ∧ m ≤ r + e ∧ e ≤ m := by
    by_cases c : 60 < r + e
    · exact ⟨60, if_pos c, by omega, by omega, by omega⟩
    · exact ⟨r + e, if_neg c, by omega, by omega, by omega⟩
  obtain ⟨m, em, m1, m2, m3⟩ := hm
  rw [em]
  have h2 := Int.emod_nonneg (n / 3) (show m - e + 1 ≠ 0 by omega)
  have h3 := Int.emod_lt_of_pos (n / 3) (show 0 < m - e + 1 by omega)
  exact ⟨by decide, ite2 (fun _ => key m m3 m2 m1) fun _ => ⟨cdiv, by omega, key _ (by omega) (by omega) (by omega)⟩⟩
theorem ok_rules_by_L (T : Tx K mg D) : FnOk P w K mg base0 CX0 2 D.a_rules_by_L D.d_rules_by_L ["_law_script"] (spRulesBy K) := by
  have G_mixed_L := ok_mixed_L (P := P) (w := w) (base0 := base0) T
  have G_cell_at_L := ok_cell_at_L (P := P) (w := w) (base0 := base0) T
  refine T.F_rules_by_L.ok sc_rules_by_L (fun vs H Q E h => ?_) (fun cdv A outer s H vs Q E hr h => ?_)
  · obtain ⟨a, ns, rfl, _⟩ := h; rfl
  obtain ⟨a, ns, rfl, hS, hl, k⟩ := h
  have hu := hr.units
  have hr_mixed_L : Room 1 _ := hr.mono (by decide)
  have hr_cell_at_L : Room 1 _ := hr.mono (by decide)
  refine ⟨_, (pss_cons (ps_set (i := 1) sc_rules_by_L.nd (by rfl) (by walk_at "o") (pe_callB (call_max2 (by rfl)) (by rfl) T.z_max (by rfl) (pa_cons pe_int (pa_cons (pe_callB (call_min2 (by rfl)) (by rfl) T.z_min (by rfl) (pa_cons (pe_op op_sub (pe_callB (callA_len K) (by rfl) T.z_len PySem.boot_len (pa_cons (pv 0) pa_nil)) pe_int) (pa_cons pe_int pa_nil))) pa_nil))))
    (pss_cons (ps_if (pt_cmpR (opB_eq K hu) (pe_op op_modP (pe_call G_cell_at_L hr_cell_at_L (by rfl) T.m_cell_at_L T.F_cell_at_L.kp T.b_cell_at_L .nil pass0 (pa_cons (pv 0) (pa_cons pe_int pa_nil))) pe_int) pe_int (nomark _)) (pss_one (ps_set (i := 1) sc_rules_by_L.nd (by rfl) (by walk_at "o") (pe_op (opB_add K) pe_int (pe_op op_modP (pe_op op_fdivP (pe_call G_cell_at_L hr_cell_at_L (by rfl) T.m_cell_at_L T.F_cell_at_L.kp T.b_cell_at_L .nil pass0 (pa_cons (pv 0) (pa_cons pe_int pa_nil))) pe_int) pe_int)))) pss_nil)
    (pss_cons (ps_set (i := 2) sc_rules_by_L.nd (by rfl) (by walk_at "o") (pe_lst pa_nil))
    (pss_cons (ps_for PassesOwn.never (by rfl) (pi_range1 (by rfl) T.z_range (pa_cons (pv 1) pa_nil)) (pg_name (i := 3) sc_rules_by_L.nd (by rfl) (by walk_at "o"))
      (pss_cons (ps_set (i := 4) sc_rules_by_L.nd (by rfl) (by walk_at "o") (pe_call G_mixed_L hr_mixed_L (by rfl) T.m_mixed_L T.F_mixed_L.kp T.b_mixed_L .nil pass0 (pa_cons (pv 0) (pa_cons (pe_op (opB_add K) pe_int (pv 3)) pa_nil))))
    (pss_one (ps_expr (pe_bmA K PySem.F.plainAttrs_list PySem.F.slot_list_append PySem.F.type_list_append mtR_append (pv 2) (pa_cons (pe_ix (ixA K) (pe_lst (pa_cons pe_str (pa_cons pe_str (pa_cons pe_str (pa_cons pe_str (pa_cons pe_str (pa_cons pe_str (pa_cons pe_str (pa_cons pe_str pa_nil))))))))) (pe_op op_modP (pv 4) pe_int) (fun _ _ => rfl)) pa_nil))))))
    (pss_one (ps_ret (pv 2))))))), ?_⟩
  walk_at "S"
  walk_at ""
  refine ⟨_, .inl hS, a, ns, 0, rfl, hS, by decide, ?_⟩
  walk_at ""
  rw [List.length_map]
  have hmin : ∃ m : Int, (if (if (40 : Int) < (ns.length : Int) - 3 then (40 : Int) else (ns.length : Int) - 3) > 0 then (if (40 : Int) < (ns.length : Int) - 3 then (40 : Int) else (ns.length : Int) - 3) else 0) = m ∧ 0 ≤ m ∧ m ≤ 80 := by
    refine ⟨_, rfl, ?_, ?_⟩ <;> (split <;> (try split)) <;> omega
  have h9 := Int.emod_nonneg (cellI ns 0 / 9) (show (40 : Int) ≠ 0 by decide)
  have h9' := Int.emod_lt_of_pos (cellI ns 0 / 9) (show (0 : Int) < 40 by decide)
  obtain ⟨m, em, hm0, hm1⟩ := hmin
  rw [em]
  refine ⟨by decide, ite2 (fun c => ?_) fun c => ⟨(by show 0 ≤ sizeLine; exact Nat.zero_le _), fun p hp => ⟨by omega, by omega, ?_⟩⟩⟩
  · refine ⟨a, ns, 0, rfl, hS, by decide, ?_⟩
    walk_at ""
    refine ⟨cdiv, by decide, (by show 0 ≤ sizeLine; exact Nat.zero_le _), fun p hp => ⟨by omega, by omega, ?_⟩⟩
    generalize hm : 41 + cellI ns 0 / 9 % 40 = m at *
    refine forW_range (fun i σ H2 => Same H H2 ∧ ∃ rs o1 o2, σ = [some (.ref a), some (.int m), some (.ref p), o1, o2] ∧ H2 p = some (.lst (rs.map V.str)) ∧ rs.length = i ∧ ∀ r ∈ rs, r ∈ rules8) ⟨(Same.refl H).upd hp, [], _, _, rfl, upd_same, rfl, by simp⟩ (fun i σ H2 hi hv => ?_) fun σ H2 hv => ?_
    · obtain ⟨s2, rs, o1, o2, rfl, hp2, hlen, h8⟩ := hv
      walk_at ""
      refine ⟨a, ns, _, rfl, s2.seq hS, by omega, by omega, fun n n0 n1 => ?_⟩
      walk_at ""
      refine ⟨⟨_, SqL.of hp2⟩, (by show 8 ≤ sizeLine; exact sz1000 (by decide)), fun p3 hp3 => ⟨by decide, ?_⟩⟩
      obtain ⟨z, hz, ez⟩ := pickS (ts := rules8) (i := n % 8) (Int.emod_nonneg _ (by decide)) (Int.emod_lt_of_pos _ (by decide))
      refine ⟨_, .inl (SqL.of upd_same), _, ez, ?_⟩
      refine ⟨_, keep1 hp3 hp2, sz1000' (by rw [List.length_map]; omega), (s2.trans (same_new hp3 _)).upd hp, rs ++ [z], _, _, rfl, by rw [upd_same, List.map_append]; rfl, by rw [List.length_append, hlen]; rfl, fun r hr => ?_⟩
      rcases List.mem_append.mp hr with q | q
      · exact h8 r q
      · rw [List.mem_singleton.mp q]; exact hz
    · obtain ⟨s2, rs, o1, o2, rfl, hp2, hlen, h8⟩ := hv
      walk_at ""
      exact k p rs H2 s2 hp2 (by omega) h8
  · refine forW_range (fun i σ H2 => Same H H2 ∧ ∃ rs o1 o2, σ = [some (.ref a), some (.int m), some (.ref p), o1, o2] ∧ H2 p = some (.lst (rs.map V.str)) ∧ rs.length = i ∧ ∀ r ∈ rs, r ∈ rules8) ⟨(Same.refl H).upd hp, [], _, _, rfl, upd_same, rfl, by simp⟩ (fun i σ H2 hi hv => ?_) fun σ H2 hv => ?_
    · obtain ⟨s2, rs, o1, o2, rfl, hp2, hlen, h8⟩ := hv
      walk_at ""
      refine ⟨a, ns, _, rfl, s2.seq hS, by omega, by omega, fun n n0 n1 => ?_⟩
      walk_at ""
      refine ⟨⟨_, SqL.of hp2⟩, (by show 8 ≤ sizeLine; exact sz1000 (by decide)), fun p3 hp3 => ⟨by decide, ?_⟩⟩
      obtain ⟨z, hz, ez⟩ := pickS (ts := rules8) (i := n % 8) (Int.emod_nonneg _ (by decide)) (Int.emod_lt_of_pos _ (by decide))
      refine ⟨_, .inl (SqL.of upd_same), _, ez, ?_⟩
      refine ⟨_, keep1 hp3 hp2, sz1000' (by rw [List.length_map]; omega), (s2.trans (same_new hp3 _)).upd hp, rs ++ [z], _, _, rfl, by rw [upd_same, List.map_append]; rfl, by rw [List.length_append, hlen]; rfl, fun r hr => ?_⟩
      rcases List.mem_append.mp hr with q | q
      · exact h8 r q
      · rw [List.mem_singleton.mp q]; exact hz
    · obtain ⟨s2, rs, o1, o2, rfl, hp2, hlen, h8⟩ := hv
      walk_at ""
      exact k p rs H2 s2 hp2 (by omega) h8
end
section
variable {P : Program} {w : World} {K : PySem.W.Frag} {mg : Str → Option Value} {base0 : Heap} {D : Defs}
theorem ok_levels_by_L (T : Tx K mg D) : FnOk P w K mg base0 CX0 2 D.a_levels_by_L D.d_levels_by_L ["_law_script", "_law_rules"] (spLevelsBy K) := by
  have G_mixed_L := ok_mixed_L (P := P) (w := w) (base0 := base0) T
  have G_level_by_L := ok_level_by_L (P := P) (w := w) (base0 := base0) T
  refine T.F_levels_by_L.ok sc_levels_by_L (fun vs H Q E h => ?_) (fun cdv A outer s H vs Q E hr h => ?_)
  · obtain ⟨a, b, ns, rs, rfl, _⟩ := h; rfl
  obtain ⟨a, b, ns, rs, rfl, hS, hR, hl, k⟩ := h
  have hu := hr.units
  have hr_mixed_L : Room 1 _ := hr.mono (by decide)
  have hr_level_by_L : Room 1 _ := hr.mono (by decide)
  refine ⟨_, (pss_cons (ps_set (i := 2) sc_levels_by_L.nd (by rfl) (by walk_at "o") (pe_lst pa_nil))
    (pss_cons (ps_set (i := 3) sc_levels_by_L.nd (by rfl) (by walk_at "o") pe_int)
    (pss_cons (ps_for PassesOwn.never (by rfl) (pi_range1 (by rfl) T.z_range (pa_cons (pe_callB (callA_len K) (by rfl) T.z_len PySem.boot_len (pa_cons (pv 1) pa_nil)) pa_nil)) (pg_name (i := 4) sc_levels_by_L.nd (by rfl) (by walk_at "o"))
      (pss_cons (ps_set (i := 5) sc_levels_by_L.nd (by rfl) (by walk_at "o") (pe_cmpR (opA_in K) (pe_ix (ixA K) (pv 1) (pv 4) (fun _ _ => rfl)) (pe_lst (pa_cons pe_str (pa_cons pe_str (pa_cons pe_str pa_nil)))) (by rfl)))
    (pss_cons (ps_set (i := 6) sc_levels_by_L.nd (by rfl) (by walk_at "o") (pe_call G_level_by_L hr_level_by_L (by rfl) T.m_level_by_L T.F_level_by_L.kp T.b_level_by_L .nil pass0 (pa_cons (pe_op op_fdivP (pe_call G_mixed_L hr_mixed_L (by rfl) T.m_mixed_L T.F_mixed_L.kp T.b_mixed_L .nil pass0 (pa_cons (pv 0) (pa_cons (pe_op (opB_add K) pe_int (pv 4)) pa_nil))) pe_int) (pa_cons (pv 3) (pa_cons (pv 5) pa_nil)))))
    (pss_cons (ps_expr (pe_bmA K PySem.F.plainAttrs_list PySem.F.slot_list_append PySem.F.type_list_append mtR_append (pv 2) (pa_cons (pv 6) pa_nil)))
    (pss_one (ps_set (i := 3) sc_levels_by_L.nd (by rfl) (by walk_at "o") (pv 6)))))))
    (pss_one (ps_ret (pv 2)))))), ?_⟩
  walk_at "S"
  walk_at ""
  refine ⟨(by show 0 ≤ sizeLine; exact Nat.zero_le _), fun p hp => ⟨_, .inl (((Same.refl H).upd hp : Same H (upd H p (.lst []))).seq hR), by rw [List.length_map]; omega, by rw [List.length_map]; omega, ?_⟩⟩
  have sp : Same H (upd H p (.lst [])) := (Same.refl H).upd hp
  refine forW_range (fun i σ H2 => Same H H2 ∧ ∃ g u1 u2 u3, σ = [some (.ref a), some (.ref b), some (.ref p), some (.int (room g i)), u1, u2, u3] ∧ H2 p = some (.lst (gv g i)) ∧ LvOk rs g i ∧ room g i ≤ 60) ⟨sp, fun _ => 0, _, _, _, rfl, upd_same, fun j hj => absurd hj (by omega), by decide⟩ (fun i σ H2 hi hv => ?_) fun σ H2 hv => ?_
  · obtain ⟨s2, g, u1, u2, u3, rfl, hG, hL, h60⟩ := hv
    walk_at ""
    have hi' : i < rs.length := by rw [List.length_map, Int.toNat_natCast] at hi; exact hi
    refine ⟨_, .inl (s2.seq hR), _, at0 (strs_get hi'), (by show 3 ≤ sizeLine; exact sz1000 (by decide)), fun p1 hp1 => ⟨_, .inl (SqL.of upd_same), rfl, rfl, ?_⟩⟩
    have s3 := s2.trans (same_new hp1 (.lst [V.str "guess", V.str "new", V.str "case"]))
    have hpn : p ≠ p1 := ne_of_none hG hp1
    refine ⟨a, ns, _, rfl, s3.seq hS, by omega, by omega, fun n n0 n1 => ?_⟩
    walk_at ""
    refine ⟨cdiv, _, _, _, rfl, by omega, by omega, fun l l0 l1 l2 => ?_⟩
    have hG' : upd H2 p1 (.lst [V.str "guess", V.str "new", V.str "case"]) p = some (.lst (gv g i)) := by rw [upd_ne hpn]; exact hG
    have l1' : l ≤ room g i + o1 (rs.getD i "") := by
      have e := o1_int (rs.getD i "")
      have l1 : (l : Int) ≤ (room g i : Int) + (if opn (rs.getD i "") = true then 1 else 0) := l1
      rw [← e] at l1
      omega
    refine ⟨⟨_, SqL.of hG'⟩, _, hG', sz1000' (by rw [gv_len]; omega), s3.upd hp, fun j => if j = i then l else g j, some (.int (0 + (i : Int))), some (.bl (opn (rs.getD i ""))), some (.int l), ?_, ?_, hL.snoc l0 l1' l2, ?_⟩
    · rw [room_up]; rfl
    · rw [upd_same, gv_snoc]
    · rw [room_up]; exact l2
  · obtain ⟨s2, g, u1, u2, u3, rfl, hG, hL, h60⟩ := hv
    walk_at ""
    rw [List.length_map, Int.toNat_natCast] at hG hL
    exact k p g H2 s2 hG hL
theorem ok_begins_with (T : Tx K mg D) : FnOk P w K mg base0 CX0 1 D.a_begins_with D.d_begins_with ["path", "beginning"] (spBegins K) := by
  refine T.F_begins_with.ok sc_begins_with (fun vs H Q E h => ?_) (fun cdv A outer s H vs Q E hr h => ?_)
  · obtain ⟨a, b, p, q, rfl, _⟩ := h; rfl
  obtain ⟨a, b, p, q, rfl, hp, hq, k⟩ := h
  have hu := hr.units
  refine ⟨_, (pss_one (ps_ret (pe_cmpR (opC_eq K hu) (pe_slice (slB K) (pv 0) po_none (po_some (pe_callB (callA_len K) (by rfl) T.z_len PySem.boot_len (pa_cons (pv 1) pa_nil)))) (pv 1) (nomark _)))), ?_⟩
  walk_at "S"
  walk_at ""
  refine ⟨_, .inr hq, _, .inr ⟨hp, fun c H' s1 h1 => ?_⟩⟩
  rw [iv_len, cut_to, iv_take] at h1
  refine ⟨_, _, iv_repD h1, iv_repD (s1.seqT hq), idt_dep _, ?_⟩
  rw [idt_dec]
  exact k _ s1
theorem ok_seen (T : Tx K mg D) : FnOk P w K mg base0 CX0 2 D.a_seen D.d_seen ["paths", "k", "i"] (spSeen K) := by
  have G_begins_with := ok_begins_with (P := P) (w := w) (base0 := base0) T
  refine T.F_seen.ok sc_seen (fun vs H Q E h => ?_) (fun cdv A outer s H vs Q E hr h => ?_)
  · obtain ⟨a, us, f, n, i, rfl, _⟩ := h; rfl
  obtain ⟨a, us, f, n, i, rfl, hA, hP, hn, hi, k⟩ := h
  have hu := hr.units
  have hr_begins_with : Room 1 _ := hr.mono (by decide)
  refine ⟨_, (pss_one (ps_ret (pe_and (pe_cmpR opA_lt (pv 2) (pv 1) (nomark _)) (pe_one (pe_call G_begins_with hr_begins_with (by rfl) T.m_begins_with T.F_begins_with.kp T.b_begins_with .nil pass0 (pa_cons (pe_ix (ixA K) (pv 0) (pv 1) (fun _ _ => rfl)) (pa_cons (pe_ix (ixA K) (pv 0) (pv 2) (fun _ _ => rfl)) pa_nil))))))), ?_⟩
  walk_at "S"
  walk_at ""
  obtain ⟨b1, e1, h1⟩ := hP.at hn
  obtain ⟨b2, e2, h2⟩ := hP.at hi
  refine ite2 (fun c => ?_) fun c => ?_
  · refine ⟨_, .inr hA, _, atI_nat e1, _, .inr hA, _, atI_nat e2, b1, b2, _, _, rfl, h1, h2, fun H' s' => ?_⟩
    have := k H' s'
    rw [decide_eq_true (show i < n by omega), Bool.true_and] at this
    exact this
  · have := k H (Same.refl H)
    rw [decide_eq_false (show ¬ i < n by omega), Bool.false_and] at this
    exact this
end
section
variable {P : Program} {w : World} {K : PySem.W.Frag} {mg : Str → Option Value} {base0 : Heap} {D : Defs}
theorem ok_box_seen (T : Tx K mg D) : FnOk P w K mg base0 CX0 2 D.a_box_seen D.d_box_seen ["paths", "k", "b"] (spBoxSeen K) := by
  have G_begins_with := ok_begins_with (P := P) (w := w) (base0 := base0) T
  refine T.F_box_seen.ok sc_box_seen (fun vs H Q E h => ?_) (fun cdv A outer s H vs Q E hr h => ?_)
  · obtain ⟨a, us, f, n, i, rfl, _⟩ := h; rfl
  obtain ⟨a, us, f, n, i, rfl, hA, hP, hn, hi, k⟩ := h
  have hu := hr.units
  have hr_begins_with : Room 1 _ := hr.mono (by decide)
  refine ⟨_, (pss_one (ps_ret (pe_and (pe_cmpR opA_lt (pv 2) (pv 1) (nomark _)) (pe_and (pe_cmpR (opA_notin K) (pv 2) (pe_ix (ixA K) (pv 0) (pv 1) (fun _ _ => rfl)) (by rfl)) (pe_one (pe_call G_begins_with hr_begins_with (by rfl) T.m_begins_with T.F_begins_with.kp T.b_begins_with .nil pass0 (pa_cons (pe_ix (ixA K) (pv 0) (pv 1) (fun _ _ => rfl)) (pa_cons (pe_slice (slB K) (pe_ix (ixA K) (pv 0) (pv 2) (fun _ _ => rfl)) po_none (po_some (pe_un un_neg pe_int))) pa_nil)))))))), ?_⟩
  walk_at "S"
  walk_at ""
  obtain ⟨b1, e1, h1⟩ := hP.at hn
  obtain ⟨b2, e2, h2⟩ := hP.at hi
  refine ite2 (fun c => ?_) fun c => ?_
  · refine ⟨_, .inr hA, _, atI_nat e1, ?_⟩
    walk_at ""
    refine ⟨_, .inr h1, rfl, iv_flat _, ?_⟩
    rw [inV_iv]
    refine ite2 (fun c2 => ?_) fun c2 => ?_
    · refine ⟨_, .inr hA, _, atI_nat e1, _, .inr hA, _, atI_nat e2, 1, rfl, ?_⟩
      walk_at ""
      refine ⟨_, .inr ⟨h2, fun b3 H3 s3 h3 => ?_⟩⟩
      rw [cut_but1, iv_len, iv_take] at h3
      refine ⟨b1, b3, _, _, rfl, s3.seqT h1, h3, fun H4 s4 => ?_⟩
      have := k H4 (s3.trans s4)
      rw [decide_eq_true (show i < n by omega), Bool.true_and, decide_eq_true (show i ∉ f n by simpa using c2), Bool.true_and] at this
      rw [List.length_take, Nat.min_eq_left (by omega)]
      exact this
    · have := k H (Same.refl H)
      rw [decide_eq_false (show ¬ i ∉ f n by simpa using c2), Bool.false_and, Bool.and_false] at this
      exact this
  · have := k H (Same.refl H)
    rw [decide_eq_false (show ¬ i < n by omega), Bool.false_and] at this
    exact this
theorem ok_end_of (T : Tx K mg D) : FnOk P w K mg base0 CX0 1 D.a_end_of D.d_end_of ["paths", "b"] (spEndOf K) := by
  refine T.F_end_of.ok sc_end_of (fun vs H Q E h => ?_) (fun cdv A outer s H vs Q E hr h => ?_)
  · obtain ⟨a, us, rs, g, b, rfl, _⟩ := h; rfl
  obtain ⟨a, us, rs, g, b, rfl, hA, hP, hb, hl, ho, k⟩ := h
  have hu := hr.units
  refine ⟨_, (pss_cons (ps_set (i := 2) sc_end_of.nd (by rfl) (by walk_at "o") (pe_op op_sub (pe_callB (callA_len K) (by rfl) T.z_len PySem.boot_len (pa_cons (pe_ix (ixA K) (pv 0) (pv 1) (fun _ _ => rfl)) pa_nil)) pe_int))
    (pss_cons (ps_set (i := 3) sc_end_of.nd (by rfl) (by walk_at "o") (pv 1))
    (pss_cons (ps_for PassesOwn.never (by rfl) (pi_range2 (by rfl) T.z_range (pa_cons (pv 1) (pa_cons (pe_callB (callA_len K) (by rfl) T.z_len PySem.boot_len (pa_cons (pv 0) pa_nil)) pa_nil))) (pg_name (i := 4) sc_end_of.nd (by rfl) (by walk_at "o"))
      (pss_cons (ps_if (PW.pt (pw_or (pt_cmpR op_le (pe_callB (callA_len K) (by rfl) T.z_len PySem.boot_len (pa_cons (pe_ix (ixA K) (pv 0) (pv 4) (fun _ _ => rfl)) pa_nil)) (pv 2) (nomark _)) (pw_or1 (pt_cmpR (opA_ne hu) (pe_ix (ixA K) (pe_ix (ixA K) (pv 0) (pv 4) (fun _ _ => rfl)) (pv 2) (fun _ _ => rfl)) (pv 1) (nomark _))))) (pss_one ps_break) pss_nil)
    (pss_one (ps_if (pt_cmpR (opB_eq K hu) (pe_callB (callA_len K) (by rfl) T.z_len PySem.boot_len (pa_cons (pe_ix (ixA K) (pv 0) (pv 4) (fun _ _ => rfl)) pa_nil)) (pe_op (opB_add K) (pv 2) pe_int) (nomark _)) (pss_one (ps_set (i := 3) sc_end_of.nd (by rfl) (by walk_at "o") (pv 4))) pss_nil))))
    (pss_one (ps_ret (pv 3)))))), ?_⟩
  walk_at "S"
  walk_at ""
  obtain ⟨c, ec, hc⟩ := hP.at hb
  refine ⟨_, .inr hA, _, atI_nat ec, ?_⟩
  walk_at ""
  have hne : 1 ≤ (pathAt rs g (b + 1)).length := by rw [pathAt_open rs g ho]; simp
  have epl : ((iv (pathAt rs g (b + 1))).length : Int) - 1 = (((pathAt rs g (b + 1)).length - 1 : Nat) : Int) := by rw [iv_len]; omega
  generalize hpl : (pathAt rs g (b + 1)).length - 1 = pl at *
  refine ⟨_, .inr hc, _, .inr hA, ⟨by omega, by omega, by omega, by omega⟩, ?_⟩
  rw [epl]
  refine forW_range (fun i σ H2 => H2 = H ∧ ∃ (e : Nat) (u : Option V), σ = [some (.ref a), some (.int b), some (.int pl), some (.int e), u] ∧ endGo (fun i => pathAt rs g (i + 1)) b pl (us.length - b - i) (b + i) e = endGo (fun i => pathAt rs g (i + 1)) b pl (us.length - b) b b) ⟨rfl, b, _, rfl, rfl⟩ (fun i σ H2 hi hv => ?_) fun σ H2 hv => ?_
  · obtain ⟨rfl, e, u, rfl, he⟩ := hv
    have hk : b + i < us.length := by omega
    obtain ⟨c2, ec2, hc2⟩ := hP.at hk
    obtain ⟨m, hm⟩ : ∃ m, us.length - b - i = m + 1 := ⟨us.length - b - i - 1, by omega⟩
    have hm' : us.length - b - (i + 1) = m := by omega
    rw [hm] at he
    rw [endGo_succ] at he
    walk_at ""
    rw [show (b : Int) + (i : Int) = ((b + i : Nat) : Int) by omega]
    refine ⟨_, .inr hA, _, atI_nat ec2, ?_⟩
    walk_at ""
    refine ⟨_, .inr hc2, ?_⟩
    rw [iv_len]
    refine ite2 (fun c3 => ?_) fun c3 => ?_
    · rw [if_neg (by intro z; have := (List.getElem?_eq_some_iff.mp z).1; omega)] at he
      rw [← he] at k
      exact k
    · obtain ⟨z, hz⟩ : ∃ z, (pathAt rs g (b + i + 1))[pl]? = some z := ⟨_, List.getElem?_eq_getElem (by omega)⟩
      refine ⟨_, .inr hA, _, atI_nat ec2, ?_⟩
      walk_at ""
      refine ⟨_, .inr hc2, _, atI_nat (iv_get hz), ?_⟩
      walk_at ""
      refine ite2 (fun c4 => ?_) fun c4 => ?_
      · rw [if_neg (by rw [hz]; intro q; have := Option.some.inj q; omega)] at he
        rw [← he] at k
        exact k
      · rw [if_pos (by rw [hz]; congr 1; omega)] at he
        refine ⟨_, .inr hA, _, atI_nat ec2, ?_⟩
        walk_at ""
        refine ⟨_, .inr hc2, ?_⟩
        rw [iv_len, hm']
        refine ite2 (fun c5 => ⟨trivial, b + i, _, rfl, ?_⟩) fun c5 => ⟨trivial, e, _, rfl, ?_⟩
        · rw [if_pos (by omega)] at he; exact he
        · rw [if_neg (by omega)] at he; exact he
  · obtain ⟨rfl, e, u, rfl, he⟩ := hv
    walk_at ""
    rw [show us.length - b - ((us.length : Int) - (b : Int)).toNat = 0 by omega] at he
    rw [← he] at k
    exact k
end
section
variable {P : Program} {w : World} {K : PySem.W.Frag} {mg : Str → Option Value} {base0 : Heap} {D : Defs}
theorem ok_opens (T : Tx K mg D) : FnOk P w K mg base0 CX0 1 D.a_opens D.d_opens ["rule"] (fun vs H Q _ => ∃ r, vs = [.str r] ∧ Q (.bl (opn r)) H) := by
  refine T.F_opens.ok sc_opens (fun vs H Q E h => ?_) (fun cdv A outer s H vs Q E hr h => ?_)
  · obtain ⟨r, rfl, _⟩ := h; rfl
  obtain ⟨r, rfl, k⟩ := h
  have hu := hr.units
  refine ⟨_, (pss_one (ps_ret (pe_cmpR (opA_in K) (pv 0) (T.g_OPENING_RULES (by rfl)) (by rfl)))), ?_⟩
  walk_at "S"
  walk_at ""
  exact ⟨_, .inr (T.q_OPENING_RULES _), rfl, rfl, k⟩
theorem ok_boxes_behind (T : Tx K mg D) : FnOk P w K mg base0 CX0 2 D.a_boxes_behind D.d_boxes_behind ["path", "line", "k"] (spBehind K) := by
  have G_opens := ok_opens (P := P) (w := w) (base0 := base0) T
  refine T.F_boxes_behind.ok sc_boxes_behind (fun vs H Q E h => ?_) (fun cdv A outer s H vs Q E hr h => ?_)
  · obtain ⟨a, c, n, p, l, r, x, y, rfl, _⟩ := h; rfl
  obtain ⟨a, c, n, p, l, r, x, y, rfl, hA, hC, hl, k1, k2⟩ := h
  have hu := hr.units
  have hr_opens : Room 1 _ := hr.mono (by decide)
  refine ⟨_, (pss_cons (ps_set (i := 3) sc_boxes_behind.nd (by rfl) (by walk_at "o") (pe_ix (ixA K) (pv 1) pe_int (fun _ _ => rfl)))
    (pss_cons (ps_set (i := 4) sc_boxes_behind.nd (by rfl) (by walk_at "o") (pe_ifExp (pt_val (pe_call G_opens hr_opens (by rfl) T.m_opens T.F_opens.kp T.b_opens .nil pass0 (pa_cons (pe_ix (ixA K) (pv 1) pe_int (fun _ _ => rfl)) pa_nil))) (pe_op op_sub (pv 3) pe_int) (pv 3)))
    (pss_cons (ps_if (PW.pt (pw_or (pt_cmpR opA_lt (pv 4) pe_int (nomark _)) (pw_or1 (pt_cmpR op_gt (pv 4) (pe_callB (callA_len K) (by rfl) T.z_len PySem.boot_len (pa_cons (pv 0) pa_nil)) (nomark _))))) (pss_one (ps_ret pe_non)) pss_nil)
    (pss_cons (ps_if (pt_val (pe_call G_opens hr_opens (by rfl) T.m_opens T.F_opens.kp T.b_opens .nil pass0 (pa_cons (pe_ix (ixA K) (pv 1) pe_int (fun _ _ => rfl)) pa_nil))) (pss_one (ps_ret (pe_op (opB_add K) (pe_slice (slB K) (pv 0) po_none (po_some (pv 4))) (pe_tup (pa_cons (pv 2) pa_nil))))) pss_nil)
    (pss_one (ps_ret (pe_slice (slB K) (pv 0) po_none (po_some (pv 4))))))))), ?_⟩
  walk_at "S"
  walk_at ""
  refine ⟨_, .inr hC, _, atI_nat (j := 0) rfl, _, .inr hC, _, atI_nat (j := 1) rfl, r, rfl, ite2 (fun c1 => ?_) fun c1 => ?_⟩
  · walk_at ""
    refine ite2 (fun c2 => k1 ?_) fun c2 => ⟨_, .inr hA, ?_⟩
    · unfold behind keptI; rw [if_pos c1, if_pos (.inl c2)]
    (try walk_at "")
    rw [iv_len]
    refine ite2 (fun c3 => k1 ?_) fun c3 => ⟨_, .inr hC, _, atI_nat (j := 1) rfl, r, rfl, ?_⟩
    · unfold behind keptI; rw [if_pos c1, if_pos (.inr c3)]
    rw [if_pos c1]
    refine ⟨_, .inr ⟨hA, fun q H1 s1 h1 => ⟨sz1000 (show 1 ≤ 100000 by decide), fun p2 hp2 => ⟨_, _, .inr ⟨(same_new hp2 _).seqT h1, SqT.of upd_same, ?_, fun b H3 s3 h3 => ?_⟩⟩⟩⟩⟩
    · obtain ⟨m, hm⟩ : ∃ m : Nat, l - 1 = m := ⟨(l - 1).toNat, by omega⟩
      rw [hm, cut_to, iv_take, iv_len]
      have := List.length_take_le' m p
      exact sz1000 (by simp only [List.length_singleton]; omega)
    · obtain ⟨m, hm⟩ : ∃ m : Nat, l - 1 = m := ⟨(l - 1).toNat, by omega⟩
      rw [hm, cut_to, iv_take] at h3
      refine k2 (p.take m ++ [n]) ?_ b H3 ((s1.trans (same_new hp2 _)).trans s3) ?_
      · unfold behind keptI
        rw [if_pos c1, if_neg (by omega), if_pos c1, hm, Int.toNat_natCast]
      · have e : iv (p.take m ++ [n]) = iv (p.take m) ++ [V.int n] := by simp [iv]
        rw [e]; exact h3
  · walk_at ""
    refine ite2 (fun c2 => k1 ?_) fun c2 => ⟨_, .inr hA, ?_⟩
    · unfold behind keptI; rw [if_neg c1, if_pos (.inl c2)]
    (try walk_at "")
    rw [iv_len]
    refine ite2 (fun c3 => k1 ?_) fun c3 => ⟨_, .inr hC, _, atI_nat (j := 1) rfl, r, rfl, ?_⟩
    · unfold behind keptI; rw [if_neg c1, if_pos (.inr c3)]
    rw [if_neg c1]
    refine ⟨_, .inr ⟨hA, fun q H1 s1 h1 => ?_⟩⟩
    obtain ⟨m, hm⟩ : ∃ m : Nat, l = m := ⟨l.toNat, by omega⟩
    rw [hm, cut_to, iv_take] at h1
    refine k2 (p.take m) ?_ q H1 s1 h1
    unfold behind keptI
    rw [if_neg c1, if_neg (by omega), if_neg c1, hm, Int.toNat_natCast]
theorem ok_fitting_boxes (T : Tx K mg D) : FnOk P w K mg base0 CX0 3 D.a_fitting_boxes D.d_fitting_boxes ["lines"] (spFit K) := by
  have G_boxes_behind := ok_boxes_behind (P := P) (w := w) (base0 := base0) T
  refine T.F_fitting_boxes.ok sc_fitting_boxes (fun vs H Q E h => ?_) (fun cdv A outer s H vs Q E hr h => ?_)
  · obtain ⟨a, us, f, rfl, _⟩ := h; rfl
  obtain ⟨a, us, f, rfl, hA, hL, hl, k⟩ := h
  have hu := hr.units
  have hr_boxes_behind : Room 2 _ := hr.mono (by decide)
  refine ⟨_, (pss_cons (ps_set (i := 1) sc_fitting_boxes.nd (by rfl) (by walk_at "o") (pe_lst pa_nil))
    (pss_cons (ps_set (i := 2) sc_fitting_boxes.nd (by rfl) (by walk_at "o") (pe_tup pa_nil))
    (pss_cons (ps_for PassesOwn.never (by rfl) (pi_enum K (by rfl) T.z_enumerate (pa_cons (pv 0) pa_nil)) (pg_tup (by rfl) (pgs_cons (pg_name (i := 3) sc_fitting_boxes.nd (by rfl) (by walk_at "o")) (pgs_cons (pg_name (i := 4) sc_fitting_boxes.nd (by rfl) (by walk_at "o")) pgs_nil)))
      (pss_cons (ps_set (i := 2) sc_fitting_boxes.nd (by rfl) (by walk_at "o") (pe_call G_boxes_behind hr_boxes_behind (by rfl) T.m_boxes_behind T.F_boxes_behind.kp T.b_boxes_behind .nil pass0 (pa_cons (pv 2) (pa_cons (pv 4) (pa_cons (pv 3) pa_nil)))))
    (pss_cons (ps_if (pt_cmp (pc_isN (pv 2))) (pss_one ps_break) pss_nil)
    (pss_one (ps_expr (pe_bmA K PySem.F.plainAttrs_list PySem.F.slot_list_append PySem.F.type_list_append mtR_append (pv 1) (pa_cons (pv 2) pa_nil)))))))
    (pss_one (ps_ret (pe_callTy (callA_tuple K) (by rfl) T.z_tuple (by rfl) (pa_cons (pv 1) pa_nil))))))), ?_⟩
  walk_at "S"
  walk_at ""
  refine ⟨Nat.zero_le _, fun p hp => ⟨Nat.zero_le _, fun p1 hp1 => ?_⟩⟩
  have s0 : Same H (upd (upd H p (.lst [])) p1 (.tup [])) := ((Same.refl H).upd hp).trans (same_new hp1 _)
  have hne : p ≠ p1 := ne_of_none upd_same hp1
  refine ⟨a, rfl, ⟨_, s0.seqT hA⟩, ?_⟩
  refine forW_enum (xs := us) (fun i σ H2 => Same H H2 ∧ ∃ c ps u3 u4 pt, σ = [some (.ref a), some (.ref p), some (.ref c), u3, u4] ∧ fitAt f i = some pt ∧ SqT K H2 c (iv pt) ∧ H2 p = some (.lst ps) ∧ ps.length = i ∧ RepPs K H2 (fun i => (fitAt f (i + 1)).getD []) ps ∧ ∀ j, j < i → fitAt f (j + 1) ≠ none)
    ⟨s0, p1, [], _, _, [], rfl, rfl, SqT.of upd_same, by rw [upd_ne hne]; exact upd_same, rfl, RepPs.nil, fun j hj => absurd hj (by omega)⟩ (fun i σ H2 _ hv => hv.1.seqT hA) (fun i x σ H2 hx hv t ht => ?_) fun σ H2 hv => ?_
  · obtain ⟨s2, c, ps, u3, u4, pt, rfl, hf, hc, hps, hlen, hP, hno⟩ := hv
    obtain ⟨ln, x1, y1, rfl, hln⟩ := hL i x hx
    have hi : i < us.length := (List.getElem?_eq_some_iff.mp hx).1
    walk_at ""
    refine ⟨_, SqT.of upd_same, rfl, ?_⟩
    walk_at ""
    have st := same_new ht (.tup [V.int (i : Int), V.ref ln])
    have s3 := s2.trans st
    have hps3 : upd H2 t (.tup [V.int (i : Int), V.ref ln]) p = some (.lst ps) := keep1 ht hps
    refine ⟨c, ln, i, pt, _, _, x1, y1, rfl, st.seqT hc, s3.seqT hln, by have := fit_len hf; omega, fun hn => ?_, fun q hq b H4 s4 hb => ?_⟩
    · walk_at ""
      exact ⟨_, .inl ⟨SqL.of hps3, fun l hl' => k l ps _ (s3.trans (same_new hl' _)) (SqT.of upd_same) ((hP.same st).same (same_new hl' _)) (by omega) (fun i hi => hno i (by omega)) (fun _ => by
        rw [hlen]
        show (fitAt f i).bind (behind i (f i).1 (f i).2) = none
        rw [hf]; exact hn)⟩⟩
    · walk_at ""
      rw [if_neg (by intro z; cases z)]
      have hps4 : H4 p = some (.lst ps) := s4 p _ hps3
      have hfi : fitAt f (i + 1) = some q := by
        show (fitAt f i).bind (behind i (f i).1 (f i).2) = some q
        rw [hf]; exact hq
      refine ⟨⟨_, SqL.of hps4⟩, ps, hps4, sz1000' (by omega), (s3.trans s4).upd hp, b, ps ++ [.ref b], _, _, q, rfl, hfi, hb.keepL hps4, upd_same, by simp [hlen], ?_, fun j hj => ?_⟩
      · refine RepPs.snoc (((hP.same st).same s4).keepL hps4) ?_
        rw [hlen]
        show SqT K _ b (iv ((fitAt f (i + 1)).getD []))
        rw [hfi]
        exact hb.keepL hps4
      · by_cases e : j = i
        · subst e; rw [hfi]; simp
        · exact hno j (by omega)
  · obtain ⟨s2, c, ps, u3, u4, pt, rfl, hf, hc, hps, hlen, hP, hno⟩ := hv
    walk_at ""
    exact ⟨_, .inl ⟨SqL.of hps, fun l hl' => k l ps _ (s2.trans (same_new hl' _)) (SqT.of upd_same) (hP.same (same_new hl' _)) (by omega) (fun i hi => hno i (by omega)) (fun h => by omega)⟩⟩
def spBoxesC (K : PySem.W.Frag) : Sp := fun vs H Q _ => ∃ (a : Addr) (us : List V) (f : Nat → Int × Str), vs = [.ref a] ∧ SqT K H a us ∧ RepLn K H f us ∧ us.length ≤ 80 ∧ fitAt f us.length ≠ none ∧
  ∀ (q : Addr) ps H', Same H H' → SqT K H' q ps → ps.length = us.length → RepPs K H' (fun i => (fitAt f (i + 1)).getD []) ps → Q (.ref q) H'
theorem ok_boxes (T : Tx K mg D) : FnOk P w K mg base0 CX0 4 D.a_boxes D.d_boxes ["lines"] (spBoxesC K) := by
  have G_fitting_boxes := ok_fitting_boxes (P := P) (w := w) (base0 := base0) T
  refine T.F_boxes.ok sc_boxes (fun vs H Q E h => ?_) (fun cdv A outer s H vs Q E hr h => ?_)
  · obtain ⟨a, us, f, rfl, _⟩ := h; rfl
  obtain ⟨a, us, f, rfl, hA, hL, hl, hf, k1⟩ := h
  have hu := hr.units
  have hr_fitting_boxes : Room 3 _ := hr.mono (by decide)
  refine ⟨_, (pss_cons (ps_set (i := 1) sc_boxes.nd (by rfl) (by walk_at "o") (pe_call G_fitting_boxes hr_fitting_boxes (by rfl) T.m_fitting_boxes T.F_fitting_boxes.kp T.b_fitting_boxes .nil pass0 (pa_cons (pv 0) pa_nil)))
    (pss_cons (ps_if (pt_cmpR opA_lt (pe_callB (callA_len K) (by rfl) T.z_len PySem.boot_len (pa_cons (pv 1) pa_nil)) (pe_callB (callA_len K) (by rfl) T.z_len PySem.boot_len (pa_cons (pv 0) pa_nil)) (nomark _)) (pss_cons (ps_set (i := 2) sc_boxes.nd (by rfl) (by walk_at "o") (pe_callB (callA_len K) (by rfl) T.z_len PySem.boot_len (pa_cons (pv 1) pa_nil)))
    (pss_one ps_never)) pss_nil)
    (pss_one (ps_ret (pv 1))))), ?_⟩
  walk_at "S"
  walk_at ""
  refine ⟨a, us, f, rfl, hA, hL, hl, fun q ps H1 s1 hq hP h1 h2 h3 => ?_⟩
  (try walk_at "")
  refine ⟨_, .inr hq, _, .inr (s1.seqT hA), ?_⟩
  (try walk_at "")
  refine ite2 (fun c => ?_) fun c => ?_
  · have hn : fitAt f us.length = none := by
      have := fit_none (h3 (by omega)) (us.length - (ps.length + 1))
      rwa [show ps.length + 1 + (us.length - (ps.length + 1)) = us.length by omega] at this
    exact absurd hn hf
  · exact k1 q ps H1 s1 hq (by omega) hP
end
section
variable {P : Program} {w : World} {K : PySem.W.Frag} {mg : Str → Option Value} {base0 : Heap} {D : Defs}
def spRunsIn : Sp := fun vs H Q _ => ∃ z : Str, vs = [.str z] ∧ z.length ≤ 1000000 ∧ ∀ p H', Same H H' → H p = none → H' p = some (.lst (((Txt.split z " ").filter fun r : Str => !decide (r = "")).map V.str)) → Q (.ref p) H'
theorem ok_runs_in (T : Tx K mg D) : FnOk P w K mg base0 CX0 1 D.a_runs_in D.d_runs_in ["row"] spRunsIn := by
  refine T.F_runs_in.ok sc_runs_in (fun vs H Q E h => ?_) (fun cdv A outer s H vs Q E hr h => ?_)
  · obtain ⟨z, rfl, _⟩ := h; rfl
  obtain ⟨z, rfl, hpl, k⟩ := h
  have hu := hr.units
  refine ⟨_, (pss_one (ps_ret (pe_comp 1 [] ["run"] ⟨by rfl, by rfl, by rfl, by rfl, by rfl, by rfl, by rfl⟩ (by rfl) (pi_any K (pe_bmA K PySem.F.plainAttrs_str PySem.F.slot_str_split PySem.F.type_str_split mt_split (pv 0) (pa_cons pe_str pa_nil))) (fun _ _ _ _ => pg_name (i := 0) (show List.Nodup (["run"] : List Str) by decide +kernel) (by rfl) (Or.inl (by rfl)) (Or.inr (by rfl))) (gName_keep (by decide)) (fun _ _ _ _ => pif_one (pt_cmpR (opC_ne K hu) (pv 0) pe_str (nomark _))) (fun _ _ _ _ => (pv 0))))), ?_⟩
  walk_at "S"
  walk_at ""
  refine ⟨trivial, by decide, by omega, fun p hp => .inl ⟨⟨_, SqL.of upd_same⟩, ?_⟩⟩
  have hsz : (Txt.split (z) " ").length ≤ 1000002 := Nat.le_trans (split_len _ _) (by omega)
  refine comp_list (xs := (Txt.split (z) " ").map V.str) (fun i acc Hc => Hc = upd H p (.lst ((Txt.split (z) " ").map V.str)) ∧ acc = (((Txt.split (z) " ").take i).filter fun r : Str => !decide (r = "")).map V.str) ⟨rfl, rfl⟩ (fun i acc Hc _ h => h.1 ▸ SqL.of upd_same) (fun i v acc Hc hv h => ?_) fun acc Hc h p2 hp2 => ?_
  · obtain ⟨rfl, rfl⟩ := h
    rw [List.getElem?_map] at hv
    cases hr : (Txt.split (z) " ")[i]? with
    | none => rw [hr] at hv; cases hv
    | some r =>
      rw [hr] at hv
      cases hv
      have e : List.take (i + 1) (Txt.split (z) " ") = List.take i (Txt.split (z) " ") ++ [r] := by rw [List.take_succ, hr]; rfl
      refine ⟨?_, ?_⟩
      · rw [List.length_map]
        refine Nat.lt_of_le_of_lt (List.length_filter_le _ _) ?_
        rw [List.length_take, sizeLine_eq]
        omega
      · simp only [slotsC, L2.start, List.map_cons, List.map_nil, List.length_cons, List.length_nil, Nat.reduceAdd, Nat.reduceSub, List.replicate_succ, List.replicate_zero, List.cons_append, List.nil_append, List.append_nil, Nat.zero_add, Nat.sub_self]
        walk_at ""
        rw [e, List.filter_append]
        refine ite2 (fun c => ?_) fun c => ?_
        · have : [r].filter (fun r : Str => !decide (r = "")) = [r] := by simp [c]
          rw [this, List.map_append]
          exact ⟨trivial, rfl⟩
        · have : [r].filter (fun r : Str => !decide (r = "")) = [] := by simp [c]
          rw [this, List.append_nil]
          exact ⟨trivial, rfl⟩
  · obtain ⟨rfl, rfl⟩ := h
    rw [List.length_map, List.take_length] at *
    refine k p2 _ ?_ ?_ upd_same
    · exact ((Same.refl _).upd hp).trans ((Same.refl _).upd hp2)
    · exact ((Same.refl _).upd hp : Same H _).free hp2
def goodRows (x : Str) : List Str := (Txt.split x ⟨#[10]⟩).filter fun r : Str => !decide (Txt.stripChars r " " = "")
def spRowsIn : Sp := fun vs H Q _ => ∃ z : Str, vs = [.str z] ∧ z.length ≤ 100000 ∧ ∀ p H', Same H H' → H' p = some (.lst ((goodRows z).map V.str)) → Q (.ref p) H'
theorem part_len {x : Str} {c : Nat} {r : Str} (h : r ∈ Txt.split x ⟨#[c]⟩) : r.length ≤ x.length := by
  have e : Str.join ⟨#[c]⟩ (Txt.split x ⟨#[c]⟩) = x := StrLaws.join_split x ⟨#[c]⟩
  have key : ∀ {l : List Str}, r ∈ l → r.length ≤ (Str.join ⟨#[c]⟩ l).length := by
    intro l
    induction l with
    | nil => intro h; simp at h
    | cons a l ih =>
      intro h
      by_cases hl : l = []
      · subst hl
        rw [List.mem_singleton.mp h]
        exact Nat.le_refl _
      · have e2 := congrArg List.length (join_cons c a hl)
        rw [List.length_append, List.length_cons, len_cps, len_cps, len_cps] at e2
        rcases List.mem_cons.mp h with rfl | h
        · omega
        · have := ih h; omega
  have := key h
  rw [e] at this
  exact this
theorem ok_rows_in (T : Tx K mg D) : FnOk P w K mg base0 CX0 1 D.a_rows_in D.d_rows_in ["text"] spRowsIn := by
  refine T.F_rows_in.ok sc_rows_in (fun vs H Q E h => ?_) (fun cdv A outer s H vs Q E hr h => ?_)
  · obtain ⟨z, rfl, _⟩ := h; rfl
  obtain ⟨z, rfl, hpl, k⟩ := h
  have hu := hr.units
  refine ⟨_, (pss_one (ps_ret (pe_comp 1 [] ["row"] ⟨by rfl, by rfl, by rfl, by rfl, by rfl, by rfl, by rfl⟩ (by rfl) (pi_any K (pe_bmA K PySem.F.plainAttrs_str PySem.F.slot_str_split PySem.F.type_str_split mt_split (pv 0) (pa_cons pe_str pa_nil))) (fun _ _ _ _ => pg_name (i := 0) (show List.Nodup (["row"] : List Str) by decide +kernel) (by rfl) (Or.inl (by rfl)) (Or.inr (by rfl))) (gName_keep (by decide)) (fun _ _ _ _ => pif_one (pt_cmpR (opC_ne K hu) (pe_bmA K PySem.F.plainAttrs_str PySem.F.slot_str_strip PySem.F.type_str_strip mt_stripC (pv 0) (pa_cons pe_str pa_nil)) pe_str (nomark _))) (fun _ _ _ _ => (pv 0))))), ?_⟩
  walk_at "S"
  walk_at ""
  refine ⟨trivial, by decide, by omega, fun p hp => .inl ⟨⟨_, SqL.of upd_same⟩, ?_⟩⟩
  have hsz : (Txt.split z ⟨#[10]⟩).length ≤ 100002 := Nat.le_trans (split_len _ _) (by omega)
  refine comp_list (xs := (Txt.split z ⟨#[10]⟩).map V.str) (fun i acc Hc => Hc = upd H p (.lst ((Txt.split z ⟨#[10]⟩).map V.str)) ∧ acc = (((Txt.split z ⟨#[10]⟩).take i).filter fun r : Str => !decide (Txt.stripChars r " " = "")).map V.str) ⟨rfl, rfl⟩ (fun i acc Hc _ h => h.1 ▸ SqL.of upd_same) (fun i v acc Hc hv h => ?_) fun acc Hc h p1 hp1 => ?_
  · obtain ⟨rfl, rfl⟩ := h
    rw [List.getElem?_map] at hv
    cases hr : (Txt.split z ⟨#[10]⟩)[i]? with
    | none => rw [hr] at hv; cases hv
    | some r =>
      rw [hr] at hv
      cases hv
      have hi := (List.getElem?_eq_some_iff.mp hr).1
      have er := (List.getElem?_eq_some_iff.mp hr).2
      have hrl := part_len (List.mem_of_getElem? hr)
      have e : (Txt.split z ⟨#[10]⟩).take (i + 1) = (Txt.split z ⟨#[10]⟩).take i ++ [r] := by rw [List.take_succ_eq_append_getElem hi, er]
      refine ⟨?_, ?_⟩
      · rw [List.length_map]
        refine Nat.lt_of_le_of_lt (List.length_filter_le _ _) ?_
        rw [List.length_take, sizeLine_eq]
        omega
      · simp only [slotsC, List.replicate_succ, List.replicate_zero, List.map_cons, List.map_nil, List.nil_append, List.cons_append, List.getElem?_cons_zero, List.getElem?_cons_succ, Option.join_some]
        walk_at ""
        rw [e, List.filter_append]
        refine ⟨trivial, by omega, ite2 (fun c => ?_) fun c => ?_⟩
        · exact ⟨trivial, by rw [List.map_append]; simp [c]⟩
        · exact ⟨trivial, by rw [List.map_append]; simp [c]⟩
  · obtain ⟨rfl, rfl⟩ := h
    rw [List.length_map, List.take_length]
    exact k p1 _ ((same_new hp _).trans (same_new hp1 _)) upd_same
def sof : Str := "abcdefghijklmnopqrstuvwxyz0123456789"
def tailOk (x : Str) : Bool := (Txt.slice x (some 1) none).cps.toList.all fun c => inS ⟨#[c]⟩ sof
def base (x f : Str) : Bool := if x = "" then false else if (8 : Int) < x.length then false else if inS ⟨#[x.cps.toList.headD 0]⟩ f then tailOk x else false
theorem head_at {x : Str} (h : ¬ x = "") : atI x.cps.toList 0 = some (x.cps.toList.headD 0) := by
  have e : x.cps.toList ≠ [] := fun e => h (by
    obtain ⟨c⟩ := x
    have : c = #[] := by simpa using e
    subst this
    rfl)
  cases q : x.cps.toList with
  | nil => exact absurd q e
  | cons c r => exact atI_nat (j := 0) rfl
def spBase : Sp := fun vs H Q _ => ∃ x f, vs = [.str x, .str f] ∧ x.length ≤ 9000 ∧ ∀ H', Same H H' → Q (.bl (base x f)) H'
theorem ok_begins (T : Tx K mg D) : FnOk P w K mg base0 CX0 1 D.a_begins_and_goes_on D.d_begins_and_goes_on ["text", "first_signs"] spBase := by
  refine T.F_begins_and_goes_on.ok sc_begins_and_goes_on (fun vs H Q E h => ?_) (fun cdv A outer s H vs Q E hr h => ?_)
  · obtain ⟨x, f, rfl, _⟩ := h; rfl
  obtain ⟨x, f, rfl, hx, k⟩ := h
  have hu := hr.units
  refine ⟨_, (pss_cons (ps_if (PW.pt (pw_or (pt_cmpR (opC_eq K hu) (pv 0) pe_str (nomark _)) (pw_or (pt_cmpR op_gt (pe_callB (callA_len K) (by rfl) T.z_len PySem.boot_len (pa_cons (pv 0) pa_nil)) (T.g_MOST_SIGNS (by rfl)) (nomark _)) (pw_or1 (pt_cmpR (opC_notin K hu) (pe_ix (ixA K) (pv 0) pe_int (fun _ _ => rfl)) (pv 1) (by rfl)))))) (pss_one (ps_ret pe_bl)) pss_nil)
    (pss_one (ps_ret (pe_callB (callA_all K (by rfl)) (by rfl) T.z_all (by rfl) (pa_cons (pe_comp 1 [] ["sign"] ⟨by rfl, by rfl, by rfl, by rfl, by rfl, by rfl, by rfl⟩ (by rfl) (pi_any K (pe_slice (slB K) (pv 0) (po_some pe_int) po_none)) (fun _ _ _ _ => pg_name (i := 0) (show List.Nodup (["sign"] : List Str) by decide +kernel) (by rfl) (Or.inl (by rfl)) (Or.inr (by rfl))) (gName_keep (by decide)) (fun _ _ _ _ => pif_nil) (fun _ _ _ _ => (pe_cmpR (opC_in K hu) (pv 0) (T.g_SMALL_OR_FIGURE (by rfl)) (by rfl)))) pa_nil))))), ?_⟩
  walk_at "S"
  walk_at ""
  have hz : x.length ≤ sizeLine := sz1000 (by omega)
  have kf : base x f = false → Q (.bl false) H := fun e => by have q := k H (Same.refl H); rw [e] at q; exact q
  refine ite2 (fun c => kf (by unfold base; rw [if_pos c])) fun c => ⟨hz, ite2 (fun c2 => kf (by unfold base; rw [if_neg c, if_pos c2])) fun c2 => ⟨hz, _, head_at c, ?_⟩⟩
  refine ite2 (fun c3 => kf (by unfold base; rw [if_neg c, if_neg c2, if_neg (by rw [c3]; exact Bool.false_ne_true)])) fun c3 => ⟨hz, ?_⟩
  have c3' : inS ⟨#[x.cps.toList.headD 0]⟩ f = true := by simpa using c3
  have hb : base x f = tailOk x := by unfold base; rw [if_neg c, if_neg c2, if_pos c3']
  have hlen : (Txt.slice x (some 1) none).cps.toList.length ≤ 9000 := Nat.le_trans (Nat.le_of_eq (by simp [Str.length])) (Nat.le_trans (Txt.slice_le x (some 1) none) hx)
  refine comp_str (fun i acc H2 => H2 = H ∧ acc = ((Txt.slice x (some 1) none).cps.toList.take i).map fun c => V.bl (inS ⟨#[c]⟩ sof)) ⟨rfl, by simp⟩ (fun i c acc H2 hi hp => ?_) fun acc H2 hp p hn => ?_
  · obtain ⟨rfl, rfl⟩ := hp
    have hil : i < (Txt.slice x (some 1) none).cps.toList.length := (List.getElem?_eq_some_iff.mp hi).1
    refine ⟨sz1000' (by rw [List.length_map, List.length_take]; omega), ?_⟩
    simp only [slotsC, List.replicate_succ, List.replicate_zero, List.map_nil, List.nil_append, List.cons_append]
    walk_at ""
    refine ⟨trivial, ?_⟩
    rw [List.take_add_one, hi]
    simp [sof]
  · obtain ⟨rfl, rfl⟩ := hp
    walk_at ""
    refine ⟨(Txt.slice x (some 1) none).cps.toList.map fun c => inS ⟨#[c]⟩ sof, SqL.of (by rw [upd_same, List.take_of_length_le (Nat.le_refl _), List.map_map]; rfl), ?_⟩
    have q := k _ (same_new hn (.lst (((Txt.slice x (some 1) none).cps.toList.take (Txt.slice x (some 1) none).cps.toList.length).map fun c => V.bl (inS ⟨#[c]⟩ sof))))
    rw [hb] at q
    have e : ((Txt.slice x (some 1) none).cps.toList.map fun c => inS ⟨#[c]⟩ sof).all id = tailOk x := by unfold tailOk; rw [List.all_map]; rfl
    rw [e]
    exact q
end
section
variable {P : Program} {w : World} {K : PySem.W.Frag} {mg : Str → Option Value} {base0 : Heap} {D : Defs}
def RunsAt (D : Defs) (H : Hp) (r : Addr) (ts : List Str) (i : Nat) : Prop := ∃ dx l, H r = some (.ins D.C_Runs dx [("runs", .ref l), ("place", .int i)]) ∧ H l = some (.lst (ts.map V.str))
def SameX (r : Addr) (H H' : Hp) : Prop := ∀ b o, b ≠ r → H b = some o → H' b = some o
theorem SameX.trans {r : Addr} {H H1 H2 : Hp} (a : SameX r H H1) (b : SameX r H1 H2) : SameX r H H2 := fun c o n h => b c o n (a c o n h)
theorem Same.x {r : Addr} {H H' : Hp} (a : Same H H') : SameX r H H' := fun b o _ h => a b o h
theorem RunsAt.same {D : Defs} {H H' : Hp} {r : Addr} {ts : List Str} {i : Nat} (h : RunsAt D H r ts i) (e : Same H H') : RunsAt D H' r ts i := by
  obtain ⟨dx, l, h1, h2⟩ := h
  exact ⟨dx, l, e _ _ h1, e _ _ h2⟩
def spTake (D : Defs) : Sp := fun vs H Q _ => ∃ r ts i t, vs = [.ref r] ∧ RunsAt D H r ts i ∧ ts[i]? = some t ∧ ∀ H', RunsAt D H' r ts (i + 1) → SameX r H H' → Q (.str t) H'
theorem ok_take (T : Tx K mg D) : FnOk P w K mg base0 CX0 1 D.a_Runs_take D.d_Runs_take ["self"] (spTake D) := by
  refine T.F_Runs_take.ok sc_Runs_take (fun vs H Q E h => ?_) (fun cdv A outer s H vs Q E hr h => ?_)
  · obtain ⟨r, ts, i, t, rfl, _⟩ := h; rfl
  obtain ⟨r, ts, i, t, rfl, ⟨dx, l, h1, h2⟩, ht, k⟩ := h
  have hu := hr.units
  refine ⟨_, (pss_cons (ps_set (i := 1) sc_Runs_take.nd (by rfl) (by walk_at "o") (pe_ix (ixA K) (pe_fld (pv 0) (by rfl)) (pe_fld (pv 0) (by rfl)) (fun _ _ => rfl)))
    (pss_cons (ps_fldaug (pv 0) pe_int in_add)
    (pss_one (ps_ret (pv 1))))), ?_⟩
  walk_at "S"
  walk_at ""
  refine ⟨r, _, dx, _, .ref l, rfl, h1, T.cl_Runs, T.n_Runs_runs, rfl, r, _, dx, _, .int i, rfl, h1, T.cl_Runs, T.n_Runs_place, rfl, ?_⟩
  walk_at ""
  refine ⟨_, .inl (SqL.of h2), _, atI_nat (by rw [List.getElem?_map, ht]; rfl), ?_⟩
  have nlr : l ≠ r := ne_of h2 h1 (by intro z; cases z)
  refine ⟨_, rfl, r, _, dx, _, .int i, rfl, h1, T.cl_Runs, T.n_Runs_place, rfl, _, _, rfl, rfl, dx, _, h1, by show 2 < 1000; decide, _, rfl, k _ ⟨dx, l, ?_, ?_⟩ ?_⟩
  · rw [upd_same]; rfl
  · rw [upd_ne nlr]; exact h2
  · intro b o nb hb; rw [upd_ne nb]; exact hb
def spWant (D : Defs) : Sp := fun vs H Q _ => ∃ r ts i t, vs = [.ref r, .str t] ∧ RunsAt D H r ts i ∧ ts[i]? = some t ∧ ∀ H', RunsAt D H' r ts (i + 1) → SameX r H H' → Q .non H'
theorem ok_want (T : Tx K mg D) : FnOk P w K mg base0 CX0 2 D.a_Runs_want D.d_Runs_want ["self", "wanted"] (spWant D) := by
  have G_Runs_take := ok_take (P := P) (w := w) (base0 := base0) T
  refine T.F_Runs_want.ok sc_Runs_want (fun vs H Q E h => ?_) (fun cdv A outer s H vs Q E hr h => ?_)
  · obtain ⟨r, ts, i, t, rfl, _⟩ := h; rfl
  obtain ⟨r, ts, i, t, rfl, hR, ht, k⟩ := h
  have hR0 := hR
  obtain ⟨dx, l, h1, h2⟩ := hR0
  have hu := hr.units
  have hr_Runs_take : Room 1 _ := hr.mono (by decide)
  refine ⟨_, (pss_cons (ps_set (i := 2) sc_Runs_want.nd (by rfl) (by walk_at "o") (pe_meth0 (pv 0) T.cl_Runs T.h_Runs_take G_Runs_take hr_Runs_take T.b_Runs_take .nil pass0))
    (pss_one (ps_if (pt_cmpR (opC_ne K hu) (pv 2) (pv 1) (nomark _)) (pss_one ps_never) pss_nil))), ?_⟩
  walk_at "S"
  walk_at ""
  refine ⟨r, dx, _, rfl, h1, rfl, r, ts, i, t, rfl, hR, ht, fun H' hR' hS => ?_⟩
  walk_at ""
  rw [if_neg (by simp)]
  exact k H' hR' hS
def spInit (D : Defs) : Sp := fun vs H Q _ => ∃ (r l dx : Addr) (ts : List Str), vs = [.ref r, .ref l] ∧ H r = some (.ins D.C_Runs dx []) ∧ H l = some (.lst (ts.map V.str)) ∧ ts.length ≤ 100000 ∧ ∀ H', RunsAt D H' r (ts ++ [Str.ofString ""]) 0 → SameX r H H' → Q .non H'
theorem ok_init (T : Tx K mg D) : FnOk P w K mg base0 CX0 1 D.a_Runs_init D.d_Runs_init ["self", "runs"] (spInit D) := by
  refine T.F_Runs_init.ok sc_Runs_init (fun vs H Q E h => ?_) (fun cdv A outer s H vs Q E hr h => ?_)
  · obtain ⟨r, l, dx, ts, rfl, _⟩ := h; rfl
  obtain ⟨r, l, dx, ts, rfl, h1, h2, hl, k⟩ := h
  have hu := hr.units
  refine ⟨_, (pss_cons (ps_fld (pv 0) (pe_op (opB_add K) (pv 1) (pe_lst (pa_cons (T.g_END (by rfl)) pa_nil))) (by rfl))
    (pss_one (ps_fld (pv 0) pe_int (by rfl)))), ?_⟩
  walk_at "S"
  walk_at ""
  refine ⟨by decide, fun p hp => ?_⟩
  have nlp : l ≠ p := ne_of_none h2 hp
  have nrp : r ≠ p := ne_of_none h1 hp
  have nlr : l ≠ r := ne_of h2 h1 (by intro z; cases z)
  refine ⟨_, _, .inl ⟨by rw [upd_ne nlp]; exact h2, upd_same, by rw [List.length_map, sizeLine_eq]; show ts.length + 1 ≤ _; omega, fun q hq => ?_⟩⟩
  have nqp : q ≠ p := by rintro rfl; rw [upd_same] at hq; cases hq
  have hHq : H q = none := by rw [upd_ne nqp] at hq; exact hq
  have nrq : r ≠ q := ne_of_none h1 hHq
  refine ⟨r, _, dx, [], rfl, by rw [upd_ne nrq, upd_ne nrp]; exact h1, T.cl_Runs, T.n_Runs_runs, by decide, ?_⟩
  (try walk_at "")
  refine ⟨r, _, dx, _, rfl, upd_same, T.cl_Runs, T.n_Runs_place, by show 1 < 1000; decide, ?_⟩
  (try walk_at "")
  refine k _ ⟨dx, q, ?_, ?_⟩ ?_
  · rw [upd_same]; rfl
  · rw [upd_ne (Ne.symm nrq), upd_ne (Ne.symm nrq), upd_same, List.map_append]; rfl
  · intro b o nb hb
    rw [upd_ne nb, upd_ne nb, upd_ne (ne_of_none hb hHq), upd_ne (ne_of_none hb hp)]
    exact hb
end
section
variable {P : Program} {w : World} {K : PySem.W.Frag} {mg : Str → Option Value} {base0 : Heap} {D : Defs}
def spNo : Sp := fun _ _ _ _ => False
theorem no_letter (T : Tx K mg D) : FnOk P w K mg base0 CX0 1 D.a_take_letter D.d_take_letter ["runs"] spNo := T.F_take_letter.ok sc_take_letter (fun _ _ _ _ h => h.elim) fun _ _ _ _ _ _ _ _ _ h => h.elim
theorem no_pair (T : Tx K mg D) : FnOk P w K mg base0 CX0 1 D.a_take_pair D.d_take_pair ["runs", "room"] spNo := T.F_take_pair.ok sc_take_pair (fun _ _ _ _ h => h.elim) fun _ _ _ _ _ _ _ _ _ h => h.elim
theorem no_terms (T : Tx K mg D) : FnOk P w K mg base0 CX0 1 D.a_take_terms D.d_take_terms ["runs"] spNo := T.F_take_terms.ok sc_take_terms (fun _ _ _ _ h => h.elim) fun _ _ _ _ _ _ _ _ _ h => h.elim
theorem no_word (T : Tx K mg D) : FnOk P w K mg base0 CX0 1 D.a_is_word D.d_is_word ["text"] spNo := T.F_is_word.ok sc_is_word (fun _ _ _ _ h => h.elim) fun _ _ _ _ _ _ _ _ _ h => h.elim
theorem no_ref (T : Tx K mg D) : FnOk P w K mg base0 CX0 1 D.a_read_ref D.d_read_ref ["run"] spNo := T.F_read_ref.ok sc_read_ref (fun _ _ _ _ h => h.elim) fun _ _ _ _ _ _ _ _ _ h => h.elim
theorem no_ts (T : Tx K mg D) : FnOk P w K mg base0 CX0 1 D.a_take_statement D.d_take_statement ["runs", "room"] spNo := T.F_take_statement.ok sc_take_statement (fun _ _ _ _ h => h.elim) fun _ _ _ _ _ _ _ _ _ h => h.elim
def fT : Str := Str.ofString "false "
theorem fT_signs : ∀ c ∈ fT.cps.toList, c = 32 ∨ inS ⟨#[c]⟩ (Str.ofString "abcdefghijklmnopqrstuvwxyzABCDEFGHIJKLMNOPQRSTUVWXYZ0123456789") = true := by decide +kernel
theorem fT_none : ∀ c ∈ (Str.ofString "(),").cps.toList, (Builtin.Str.occurrences fT ⟨#[c]⟩ 0 fT.length (fT.length + 1)).isEmpty = true := by decide +kernel
theorem fT_runs : ((Txt.split fT " ").filter fun r : Str => !decide (r = "")) = [Str.ofString "false"] := by decide +kernel
def spRunsOf : Sp := fun vs H Q _ => vs = [.str fT] ∧ ∀ p H', Same H H' → H p = none → H' p = some (.lst [V.str "false"]) → Q (.ref p) H'
theorem ok_runs_of (T : Tx K mg D) : FnOk P w K mg base0 CX0 2 D.a_runs_of D.d_runs_of ["text"] spRunsOf := by
  have G_runs_in := ok_runs_in (P := P) (w := w) (base0 := base0) T
  refine T.F_runs_of.ok sc_runs_of (fun vs H Q E h => ?_) (fun cdv A outer s H vs Q E hr h => ?_)
  · obtain ⟨rfl, _⟩ := h; rfl
  obtain ⟨rfl, k⟩ := h
  have hu := hr.units
  have hr_runs_in : Room 1 _ := hr.mono (by decide)
  refine ⟨_, (pss_cons (ps_for PassesOwn.never (by rfl) (pi_any K (pv 0)) (pg_name (i := 1) sc_runs_of.nd (by rfl) (by walk_at "o"))
      (pss_one (ps_if (PW.pt (pw_and (pt_cmpR (opC_ne K hu) (pv 1) pe_str (nomark _)) (pw_and (pt_cmpR (opC_notin K hu) (pv 1) (T.g_SINGLE_SIGNS (by rfl)) (by rfl)) (pw_and1 (pt_cmpR (opC_notin K hu) (pv 1) (T.g_RUN_SIGNS (by rfl)) (by rfl)))))) (pss_one ps_never) pss_nil)))
    (pss_cons (ps_set (i := 2) sc_runs_of.nd (by rfl) (by walk_at "o") (pv 0))
    (pss_cons (ps_for PassesOwn.never (by rfl) (pi_any K (T.g_SINGLE_SIGNS (by rfl))) (pg_name (i := 1) sc_runs_of.nd (by rfl) (by walk_at "o"))
      (pss_one (ps_set (i := 2) sc_runs_of.nd (by rfl) (by walk_at "o") (pe_bmA K PySem.F.plainAttrs_str PySem.F.slot_str_replace PySem.F.type_str_replace mt_repl0 (pv 2) (pa_cons (pv 1) (pa_cons (pe_op (opB_add K) (pe_op (opB_add K) pe_str (pv 1)) pe_str) pa_nil))))))
    (pss_one (ps_ret (pe_call G_runs_in hr_runs_in (by rfl) T.m_runs_in T.F_runs_in.kp T.b_runs_in .nil pass0 (pa_cons (pv 2) pa_nil))))))), ?_⟩
  walk_at "S"
  walk_at ""
  refine forW_str (Pv := fun i σ' H' => H' = H ∧ ∃ u, σ' = [some (.str fT), u, none]) ⟨rfl, _, rfl⟩ (fun i c σ' H' hc hP => ?_) fun σ' H' hP => ?_
  · obtain ⟨rfl, u, rfl⟩ := hP
    have ho := fT_signs c (List.mem_of_getElem? hc)
    walk_at ""
    refine ite2 (fun c1 => ite2 (fun c2 => ite2 (fun c3 => ?_) fun _ => ⟨trivial, _, rfl⟩) fun _ => ⟨trivial, _, rfl⟩) fun _ => ⟨trivial, _, rfl⟩
    exfalso
    rcases ho with rfl | ho
    · exact c1 rfl
    · rw [ho] at c3; cases c3
  · obtain ⟨rfl, u, rfl⟩ := hP
    walk_at ""
    refine forW_str (Pv := fun i σ' H2 => H2 = H' ∧ ∃ u, σ' = [some (.str fT), u, some (.str fT)]) ⟨rfl, _, rfl⟩ (fun i c σ' H2 hc hP => ?_) fun σ' H2 hP => ?_
    · obtain ⟨rfl, u, rfl⟩ := hP
      walk_at ""
      have e2 : (⟨#[c]⟩ : Str).length = 1 := rfl
      have e1 : (Str.ofString " ").length = 1 := rfl
      exact ⟨by decide, sz1000 (by omega), sz1000 (by rw [Str.length_append]; omega), fT_none c (List.mem_of_getElem? hc), trivial, _, rfl⟩
    · obtain ⟨rfl, u, rfl⟩ := hP
      walk_at ""
      refine ⟨fT, rfl, by decide, fun p H1 s1 h0 h1 => k p H1 s1 h0 ?_⟩
      rw [fT_runs] at h1
      exact h1
def spTS28 (K : PySem.W.Frag) (D : Defs) : Sp := fun vs H Q _ => ∃ (r : Addr) (n : Int), vs = [.ref r, .int n] ∧ n ≠ 0 ∧ RunsAt D H r [Str.ofString "false", Str.ofString ""] 0 ∧ ∀ (a : Addr) H', SqT K H' a [.str "false"] → RunsAt D H' r [Str.ofString "false", Str.ofString ""] 1 → SameX r H H' → Q (.ref a) H'
theorem ok_ts (T : Tx K mg D) : FnOk P w K mg base0 CX0 3 D.a_take_statement D.d_take_statement ["runs", "room"] (spTS28 K D) := by
  have G_Runs_take := ok_take (P := P) (w := w) (base0 := base0) T
  have G_take_letter := no_letter (P := P) (w := w) (base0 := base0) T
  have G_take_pair := no_pair (P := P) (w := w) (base0 := base0) T
  have G_take_terms := no_terms (P := P) (w := w) (base0 := base0) T
  have G_is_word := no_word (P := P) (w := w) (base0 := base0) T
  have G_take_statement := no_ts (P := P) (w := w) (base0 := base0) T
  refine T.F_take_statement.ok sc_take_statement (fun vs H Q E h => ?_) (fun cdv A outer s H vs Q E hr h => ?_)
  · obtain ⟨r, n, rfl, _⟩ := h; rfl
  obtain ⟨r, n, rfl, hn, hR, k⟩ := h
  have hR0 := hR
  obtain ⟨dx, l, h1, h2⟩ := hR0
  have hu := hr.units
  have hr_Runs_take : Room 1 _ := hr.mono (by decide)
  have hr_take_letter : Room 1 _ := hr.mono (by decide)
  have hr_take_pair : Room 1 _ := hr.mono (by decide)
  have hr_take_terms : Room 1 _ := hr.mono (by decide)
  have hr_is_word : Room 1 _ := hr.mono (by decide)
  have hr_take_statement : Room 1 _ := hr.mono (by decide)
  refine ⟨_, (pss_cons (ps_if (pt_cmpR (opC_eq K hu) (pv 1) pe_int (nomark _)) (pss_one ps_never) pss_nil)
    (pss_cons (ps_set (i := 2) sc_take_statement.nd (by rfl) (by walk_at "o") (pe_meth0 (pv 0) T.cl_Runs T.h_Runs_take G_Runs_take hr_Runs_take T.b_Runs_take .nil pass0))
    (pss_cons (ps_if (pt_cmpR (opC_eq K hu) (pv 2) pe_str (nomark _)) (pss_one (ps_ret (pe_tup (pa_cons pe_str pa_nil)))) pss_nil)
    (pss_cons (ps_if (pt_cmpR (opC_eq K hu) (pv 2) pe_str (nomark _)) (pss_one (ps_ret (pe_tup (pa_cons pe_str (pa_cons (pe_call G_take_statement hr_take_statement (by rfl) T.m_take_statement T.F_take_statement.kp T.b_take_statement .nil pass0 (pa_cons (pv 0) (pa_cons (pe_op op_sub (pv 1) pe_int) pa_nil))) pa_nil))))) pss_nil)
    (pss_cons (ps_if (pt_cmpR (opC_in K hu) (pv 2) (T.g_QUANTIFIERS (by rfl)) (by rfl)) (pss_cons (ps_set (i := 3) sc_take_statement.nd (by rfl) (by walk_at "o") (pe_call G_take_letter hr_take_letter (by rfl) T.m_take_letter T.F_take_letter.kp T.b_take_letter .nil pass0 (pa_cons (pv 0) pa_nil)))
    (pss_one (ps_ret (pe_tup (pa_cons (pv 2) (pa_cons (pv 3) (pa_cons (pe_call G_take_statement hr_take_statement (by rfl) T.m_take_statement T.F_take_statement.kp T.b_take_statement .nil pass0 (pa_cons (pv 0) (pa_cons (pe_op op_sub (pv 1) pe_int) pa_nil))) pa_nil))))))) pss_nil)
    (pss_cons (ps_if (pt_cmpR (opC_eq K hu) (pv 2) pe_str (nomark _)) (pss_one (ps_ret (pe_call G_take_pair hr_take_pair (by rfl) T.m_take_pair T.F_take_pair.kp T.b_take_pair .nil pass0 (pa_cons (pv 0) (pa_cons (pe_op op_sub (pv 1) pe_int) pa_nil))))) pss_nil)
    (pss_cons (ps_if (pt_val (pe_call G_is_word hr_is_word (by rfl) T.m_is_word T.F_is_word.kp T.b_is_word .nil pass0 (pa_cons (pv 2) pa_nil))) (pss_one (ps_ret (pe_tup (pa_cons pe_str (pa_cons (pv 2) (pa_cons (pe_call G_take_terms hr_take_terms (by rfl) T.m_take_terms T.F_take_terms.kp T.b_take_terms .nil pass0 (pa_cons (pv 0) pa_nil)) pa_nil)))))) pss_nil)
    (pss_one ps_never)))))))), ?_⟩
  walk_at "S"
  walk_at ""
  rw [if_neg hn]
  refine ⟨r, dx, _, rfl, h1, rfl, r, _, 0, Str.ofString "false", rfl, hR, rfl, fun H' hR' hS => ?_⟩
  walk_at ""
  refine ⟨sz1000 (show 1 ≤ 100000 by decide), fun p hp => k p _ (SqT.of upd_same) (hR'.same (same_new hp _)) (hS.trans (Same.x (same_new hp _)))⟩
def spRead28 (K : PySem.W.Frag) : Sp := fun vs H Q _ => vs = [.str fT] ∧ ∀ (a : Addr) H', Same H H' → Q (.ref a) H'
theorem ok_read (T : Tx K mg D) : FnOk P w K mg base0 CX0 5 D.a_read D.d_read ["text"] (spRead28 K) := by
  have G_runs_of := ok_runs_of (P := P) (w := w) (base0 := base0) T
  have G_Runs_init := ok_init (P := P) (w := w) (base0 := base0) T
  have G_Runs_want := ok_want (P := P) (w := w) (base0 := base0) T
  have G_take_statement := ok_ts (P := P) (w := w) (base0 := base0) T
  refine T.F_read.ok sc_read (fun vs H Q E h => ?_) (fun cdv A outer s H vs Q E hr h => ?_)
  · obtain ⟨rfl, _⟩ := h; rfl
  obtain ⟨rfl, k⟩ := h
  have hu := hr.units
  have hr_runs_of : Room 2 _ := hr.mono (by decide)
  have hr_Runs_init : Room 2 _ := hr.mono (by decide)
  have hr_Runs_want : Room 2 _ := hr.mono (by decide)
  have hr_take_statement : Room 3 _ := hr.mono (by decide)
  refine ⟨_, (pss_cons (ps_set (i := 1) sc_read.nd (by rfl) (by walk_at "o") (pe_make T.mk_Runs G_Runs_init hr_Runs_init (by rfl) T.m_Runs T.b_Runs_init .nil pass0 (pa_cons (pe_call G_runs_of hr_runs_of (by rfl) T.m_runs_of T.F_runs_of.kp T.b_runs_of .nil pass0 (pa_cons (pv 0) pa_nil)) pa_nil)))
    (pss_cons (ps_set (i := 2) sc_read.nd (by rfl) (by walk_at "o") (pe_call G_take_statement hr_take_statement (by rfl) T.m_take_statement T.F_take_statement.kp T.b_take_statement .nil pass0 (pa_cons (pv 1) (pa_cons (T.g_MOST_DEEP (by rfl)) pa_nil))))
    (pss_cons (ps_expr (pe_meth (pv 1) T.cl_Runs T.h_Runs_want G_Runs_want hr_Runs_want T.b_Runs_want .nil pass0 (pa_cons (T.g_END (by rfl)) pa_nil)))
    (pss_one (ps_ret (pv 2)))))), ?_⟩
  walk_at "S"
  walk_at ""
  refine ⟨rfl, fun p H1 s1 hp0 hp1 => ?_⟩
  (try walk_at "")
  intro r dx hr0 hdx hne
  have npr : p ≠ r := ne_of_none hp1 hr0
  have npd : p ≠ dx := ne_of_none hp1 hdx
  refine ⟨r, p, dx, [Str.ofString "false"], rfl, upd_same, by rw [upd_ne npr, upd_ne npd]; exact hp1, by decide, fun H2 hR2 hS2 => ⟨rfl, ?_⟩⟩
  (try walk_at "")
  refine ⟨r, 40, rfl, by decide, hR2, fun a H3 ha hR3 hS3 => ?_⟩
  (try walk_at "")
  have hR3' := hR3
  obtain ⟨dx3, l3, a3, b3⟩ := hR3'
  refine ⟨r, dx3, _, rfl, a3, rfl, r, _, _, Str.ofString "", rfl, hR3, rfl, fun H4 hR4 hS4 => ?_⟩
  (try walk_at "")
  refine k a H4 fun b o hb => ?_
  have hb1 := s1 b o hb
  have nbr : b ≠ r := ne_of_none hb1 hr0
  have nbd : b ≠ dx := ne_of_none hb1 hdx
  exact hS4 b o nbr (hS3 b o nbr (hS2 b o nbr (by rw [upd_ne nbr, upd_ne nbd]; exact hb1)))
end
section
variable {P : Program} {w : World} {K : PySem.W.Frag} {mg : Str → Option Value} {base0 : Heap} {D : Defs}
def spRS : Sp := fun vs H Q _ => ∃ r : Str, vs = [.str (stT r), .str r] ∧ ∀ v H', Same H H' → Q v H'
theorem ok_read_statement (T : Tx K mg D) : FnOk P w K mg base0 CX0 6 D.a_read_statement D.d_read_statement ["text", "rule"] spRS := by
  have G_read := ok_read (P := P) (w := w) (base0 := base0) T
  refine T.F_read_statement.ok sc_read_statement (fun vs H Q E h => ?_) (fun cdv A outer s H vs Q E hr h => ?_)
  · obtain ⟨r, rfl, _⟩ := h; rfl
  obtain ⟨r, rfl, k⟩ := h
  have hu := hr.units
  have hr_read : Room 5 _ := hr.mono (by decide)
  refine ⟨_, (pss_cons (ps_if (pt_cmpR (opC_eq K hu) (pv 1) pe_str (nomark _)) (pss_cons (ps_if (pt_cmpR (opC_ne K hu) (pv 0) pe_str (nomark _)) (pss_one ps_never) pss_nil)
    (pss_one (ps_ret pe_non))) pss_nil)
    (pss_one (ps_try (Fnc.wish fnc_of _) (fun G pins E Fn ho hp => (pss_one (ps_ret (pe_call G_read hr_read (by rfl) T.m_read T.F_read.kp T.b_read .nil pass0 (pa_cons (pv 0) pa_nil))))) (ph_as (i := 2) (Fnc.wish fnc_of _) sc_read_statement.nd (by rfl) (by rfl) (by rfl) T.x_NoStatement.1 (fun pins e => (pss_one ps_never)) ph_nil) pss_nil))), ?_⟩
  walk_at "S"
  walk_at ""
  by_cases c : r = Str.ofString "new"
  · have e : stT r = Str.ofString "" := if_pos c
    rw [if_pos c, if_neg (fun z => z e)]
    exact k _ _ (Same.refl _)
  · have e : stT r = fT := if_neg c
    rw [if_neg c, e]
    exact ⟨fun _ _ _ => False, ⟨rfl, fun a H' s1 => k _ _ s1⟩, fun _ _ _ z => z.elim⟩
def spRule28 : Sp := fun vs H Q _ => ∃ r : Str, vs = [.str r] ∧ r ∈ rules8 ∧ ∀ H', Same H H' → Q (.bl true) H'
theorem rules_base : ∀ r ∈ rules8, base r (Str.ofString "abcdefghijklmnopqrstuvwxyz") = true ∧ r.length ≤ 9000 := by decide +kernel
theorem ok_is_rule (T : Tx K mg D) : FnOk P w K mg base0 CX0 2 D.a_is_rule D.d_is_rule ["text"] spRule28 := by
  have G_begins_and_goes_on := ok_begins (P := P) (w := w) (base0 := base0) T
  refine T.F_is_rule.ok sc_is_rule (fun vs H Q E h => ?_) (fun cdv A outer s H vs Q E hr h => ?_)
  · obtain ⟨r, rfl, _⟩ := h; rfl
  obtain ⟨r, rfl, hrr, k⟩ := h
  have hu := hr.units
  have hr_begins_and_goes_on : Room 1 _ := hr.mono (by decide)
  refine ⟨_, (pss_one (ps_ret (pe_call G_begins_and_goes_on hr_begins_and_goes_on (by rfl) T.m_begins_and_goes_on T.F_begins_and_goes_on.kp T.b_begins_and_goes_on .nil pass0 (pa_cons (pv 0) (pa_cons (T.g_SMALL (by rfl)) pa_nil))))), ?_⟩
  walk_at "S"
  walk_at ""
  obtain ⟨b1, b2⟩ := rules_base r hrr
  refine ⟨r, _, rfl, b2, fun H1 s1 => ?_⟩
  rw [b1]
  exact k H1 s1
def spRL (K : PySem.W.Frag) : Sp := fun vs H Q _ => ∃ (l : Nat) (r : Str), vs = [.str (rowT l r)] ∧ l ≤ 60 ∧ r ∈ rules8 ∧ ∀ (a : Addr) (x y : V) H', Same H H' → SqT K H' a [.int l, .str r, x, y] → Q (.ref a) H'
theorem ok_read_line (T : Tx K mg D) : FnOk P w K mg base0 CX0 7 D.a_read_line D.d_read_line ["row"] (spRL K) := by
  have G_runs_in := ok_runs_in (P := P) (w := w) (base0 := base0) T
  have G_is_rule := ok_is_rule (P := P) (w := w) (base0 := base0) T
  have G_read_statement := ok_read_statement (P := P) (w := w) (base0 := base0) T
  have G_read_ref := no_ref (P := P) (w := w) (base0 := base0) T
  refine T.F_read_line.ok sc_read_line (fun vs H Q E h => ?_) (fun cdv A outer s H vs Q E hr h => ?_)
  · obtain ⟨l, r, rfl, _⟩ := h; rfl
  obtain ⟨l, r, rfl, hl, hrr, k⟩ := h
  have hu := hr.units
  have hr_runs_in : Room 1 _ := hr.mono (by decide)
  have hr_is_rule : Room 2 _ := hr.mono (by decide)
  have hr_read_statement : Room 6 _ := hr.mono (by decide)
  have hr_read_ref : Room 1 _ := hr.mono (by decide)
  refine ⟨_, (pss_cons (ps_set (i := 1) sc_read_line.nd (by rfl) (by walk_at "o") (pe_bmA K PySem.F.plainAttrs_str PySem.F.slot_str_lstrip PySem.F.type_str_lstrip mt_lstripC (pv 0) (pa_cons pe_str pa_nil)))
    (pss_cons (ps_set (i := 2) sc_read_line.nd (by rfl) (by walk_at "o") (pe_bmA K PySem.F.plainAttrs_str PySem.F.slot_str_count PySem.F.type_str_count mt_countS (pe_slice (slB K) (pv 0) po_none (po_some (pe_op op_sub (pe_callB (callA_len K) (by rfl) T.z_len PySem.boot_len (pa_cons (pv 0) pa_nil)) (pe_callB (callA_len K) (by rfl) T.z_len PySem.boot_len (pa_cons (pv 1) pa_nil))))) (pa_cons pe_str pa_nil)))
    (pss_cons (ps_set (i := 3) sc_read_line.nd (by rfl) (by walk_at "o") (pe_bmA K PySem.F.plainAttrs_str PySem.F.slot_str_split PySem.F.type_str_split mt_split (pv 1) (pa_cons pe_str pa_nil)))
    (pss_cons (ps_if (pt_cmpR (opC_ne K hu) (pe_callB (callA_len K) (by rfl) T.z_len PySem.boot_len (pa_cons (pv 3) pa_nil)) pe_int (nomark _)) (pss_one ps_never) pss_nil)
    (pss_cons (ps_set (i := 4) sc_read_line.nd (by rfl) (by walk_at "o") (pe_call G_runs_in hr_runs_in (by rfl) T.m_runs_in T.F_runs_in.kp T.b_runs_in .nil pass0 (pa_cons (pe_ix (ixA K) (pv 3) pe_int (fun _ _ => rfl)) pa_nil)))
    (pss_cons (ps_if (PW.pt (pw_or (pt_cmpR (opC_eq K hu) (pe_callB (callA_len K) (by rfl) T.z_len PySem.boot_len (pa_cons (pv 4) pa_nil)) pe_int (nomark _)) (pw_or1 (pt_not (pt_val (pe_call G_is_rule hr_is_rule (by rfl) T.m_is_rule T.F_is_rule.kp T.b_is_rule .nil pass0 (pa_cons (pe_ix (ixA K) (pv 4) pe_int (fun _ _ => rfl)) pa_nil))))))) (pss_one ps_never) pss_nil)
    (pss_one (ps_ret (pe_tup (pa_cons (pv 2) (pa_cons (pe_ix (ixA K) (pv 4) pe_int (fun _ _ => rfl)) (pa_cons (pe_call G_read_statement hr_read_statement (by rfl) T.m_read_statement T.F_read_statement.kp T.b_read_statement .nil pass0 (pa_cons (pe_ix (ixA K) (pv 3) pe_int (fun _ _ => rfl)) (pa_cons (pe_ix (ixA K) (pv 4) pe_int (fun _ _ => rfl)) pa_nil))) (pa_cons (pe_callTy (callA_tuple K) (by rfl) T.z_tuple (by rfl) (pa_cons (pe_comp 1 [] ["run"] ⟨by rfl, by rfl, by rfl, by rfl, by rfl, by rfl, by rfl⟩ (by rfl) (pi_any K (pe_slice (slB K) (pv 4) (po_some pe_int) po_none)) (fun _ _ _ _ => pg_name (i := 0) (show List.Nodup (["run"] : List Str) by decide +kernel) (by rfl) (Or.inl (by rfl)) (Or.inr (by rfl))) (gName_keep (by decide)) (fun _ _ _ _ => pif_nil) (fun _ _ _ _ => (pe_call G_read_ref hr_read_ref (by rfl) T.m_read_ref T.F_read_ref.kp T.b_read_ref .nil pass0 (pa_cons (pv 0) pa_nil)))) pa_nil)) pa_nil))))))))))))), ?_⟩
  walk_at "S"
  walk_at ""
  have hrl := row_len l hrr hl
  have hz : (rowT l r).length ≤ sizeLine := sz1000 (by omega)
  have htl := (told_facts r hrr).1
  simp only [row_lstrip l hrr, row_count l r]
  refine ⟨trivial, by omega, hz, sz1000 (by omega), hz, trivial, trivial, by decide, by omega, fun p hp => ?_⟩
  obtain ⟨sp1, sp2⟩ := told_split r hrr
  rw [sp1]
  have sA := same_new hp (.lst (List.map V.str [stT r, Str.ofString " " ++ r]))
  have hA : SqL K (upd H p (HO.lst (List.map V.str [stT r, Str.ofString " " ++ r]))) p (List.map V.str [stT r, Str.ofString " " ++ r]) := SqL.of upd_same
  refine ⟨_, .inl hA, ?_⟩
  rw [if_neg (fun z => z rfl)]
  have hr5 : r.length ≤ 20 := by
    have e : (toldT r).length = (stT r ++ Str.ofString "; ").length + r.length := by unfold toldT; rw [Str.length_append]
    omega
  refine ⟨_, .inl hA, _, atI_nat (j := 1) rfl, _, rfl, by rw [Str.length_append]; show 1 + r.length ≤ _; omega, fun p1 H1 s1 h0 h1 => ?_⟩
  rw [sp2] at h1
  have hB : SqL K H1 p1 [V.str r] := SqL.of h1
  walk_at ""
  refine ⟨_, .inl hB, ?_⟩
  rw [if_neg (fun z => by simp at z)]
  refine ⟨_, .inl hB, _, atI_nat (j := 0) rfl, r, rfl, hrr, fun H2 s2 => ?_⟩
  walk_at ""
  rw [if_neg (fun z => nomatch z)]
  have s12 := s1.trans s2
  refine ⟨_, .inl (s2.seq hB), _, atI_nat (j := 0) rfl, _, .inl (s12.seq hA), _, atI_nat (j := 0) rfl, _, .inl (s2.seq hB), _, atI_nat (j := 0) rfl, r, rfl, fun v H3 s3 => ?_⟩
  refine ⟨_, .inl ⟨(s2.trans s3).seq hB, fun q hq => .inl ⟨⟨_, SqL.of upd_same⟩, ?_⟩⟩⟩
  have ec : cutV [V.str r] (some 1) none = [] := rfl
  rw [ec]
  have s4 := same_new hq (.lst [])
  refine comp_list (K := K) (xs := []) (fun i acc H5 => H5 = upd H3 q (.lst []) ∧ acc = []) ⟨rfl, rfl⟩ (fun i acc H5 _ hv => ?_) (fun i v acc H5 hi hv => ?_) fun acc H5 hv p5 hp5 => ?_
  · obtain ⟨rfl, rfl⟩ := hv; exact SqL.of upd_same
  · simp at hi
  · obtain ⟨rfl, rfl⟩ := hv
    walk_at ""
    refine ⟨_, .inl ⟨SqL.of upd_same, fun p6 hp6 => ?_⟩⟩
    refine ⟨sz1000 (show 4 ≤ 100000 by decide), fun p7 hp7 => k p7 _ _ _ ?_ (SqT.of upd_same)⟩
    exact ((((sA.trans s12).trans s3).trans s4).trans (same_new hp5 _)).trans ((same_new hp6 _).trans (same_new hp7 _))
def rowsT (rs : List Str) (g : Nat → Nat) : List Str := (List.range rs.length).map fun j => rowT (g j) (rs.getD j "")
def textT (rs : List Str) (g : Nat → Nat) : Str := Str.join ⟨#[10]⟩ (rowsT rs g)
theorem rowsT_len (rs : List Str) (g : Nat → Nat) : (rowsT rs g).length = rs.length := by simp [rowsT]
theorem getD_in {rs : List Str} {l : List Str} (h : ∀ r ∈ rs, r ∈ l) {j : Nat} (hj : j < rs.length) : rs.getD j "" ∈ l := by
  rw [List.getD_eq_getElem?_getD, List.getElem?_eq_getElem hj]
  exact h _ (List.getElem_mem hj)
theorem rowsT_of {rs : List Str} {g : Nat → Nat} (h : ∀ r ∈ rs, r ∈ rules8) {t : Str} (ht : t ∈ rowsT rs g) : ∃ j, j < rs.length ∧ t = rowT (g j) (rs.getD j "") ∧ rs.getD j "" ∈ rules8 := by
  obtain ⟨j, hj, rfl⟩ := List.mem_map.mp ht
  have hj := List.mem_range.mp hj
  exact ⟨j, hj, rfl, getD_in h hj⟩
theorem good_text {rs : List Str} {g : Nat → Nat} (h : ∀ r ∈ rs, r ∈ rules8) : goodRows (textT rs g) = rowsT rs g := by
  refine rows_back (fun t ht => ?_) fun t ht => ?_
  · obtain ⟨j, _, rfl, hr⟩ := rowsT_of h ht
    exact row_free _ hr
  · obtain ⟨j, _, rfl, hr⟩ := rowsT_of h ht
    exact row_blank _ hr
theorem text_len {rs : List Str} {g : Nat → Nat} (h : ∀ r ∈ rs, r ∈ rules8) (hg : ∀ j, j < rs.length → g j ≤ 60) (hl : rs.length ≤ 80) : (textT rs g).length ≤ 11280 := by
  have h1 := join_long 10 140 (ps := rowsT rs g) fun t ht => by
    obtain ⟨j, hj, rfl, hr⟩ := rowsT_of h ht
    exact row_len _ hr (hg j hj)
  rw [rowsT_len] at h1
  have h2 : rs.length * (140 + 1) ≤ 80 * 141 := Nat.mul_le_mul_right _ hl
  exact Nat.le_trans h1 h2
def spRLs (K : PySem.W.Frag) : Sp := fun vs H Q _ => ∃ (rs : List Str) (g : Nat → Nat), vs = [.str (textT rs g)] ∧ rs.length ≤ 80 ∧ (∀ r ∈ rs, r ∈ rules8) ∧ (∀ j, j < rs.length → g j ≤ 60) ∧
  ∀ (a : Addr) (us : List V) H', Same H H' → SqT K H' a us → us.length = rs.length → RepLn K H' (fun i => ((g i : Int), rs.getD i "")) us → Q (.ref a) H'
theorem ok_read_lines (T : Tx K mg D) : FnOk P w K mg base0 CX0 8 D.a_read_lines D.d_read_lines ["text"] (spRLs K) := by
  have G_rows_in := ok_rows_in (P := P) (w := w) (base0 := base0) T
  have G_read_line := ok_read_line (P := P) (w := w) (base0 := base0) T
  refine T.F_read_lines.ok sc_read_lines (fun vs H Q E h => ?_) (fun cdv A outer s H vs Q E hr h => ?_)
  · obtain ⟨rs, g, rfl, _⟩ := h; rfl
  obtain ⟨rs, g, rfl, hl, h8, hg, k⟩ := h
  have hu := hr.units
  have hr_rows_in : Room 1 _ := hr.mono (by decide)
  have hr_read_line : Room 7 _ := hr.mono (by decide)
  refine ⟨_, (pss_one (ps_ret (pe_callTy (callA_tuple K) (by rfl) T.z_tuple (by rfl) (pa_cons (pe_comp 1 [] ["row"] ⟨by rfl, by rfl, by rfl, by rfl, by rfl, by rfl, by rfl⟩ (by rfl) (pi_any K (pe_call G_rows_in hr_rows_in (by rfl) T.m_rows_in T.F_rows_in.kp T.b_rows_in .nil pass0 (pa_cons (pv 0) pa_nil))) (fun _ _ _ _ => pg_name (i := 0) (show List.Nodup (["row"] : List Str) by decide +kernel) (by rfl) (Or.inl (by rfl)) (Or.inr (by rfl))) (gName_keep (by decide)) (fun _ _ _ _ => pif_nil) (fun _ _ _ _ => (pe_call G_read_line hr_read_line (by rfl) T.m_read_line T.F_read_line.kp T.b_read_line .nil pass0 (pa_cons (pv 0) pa_nil)))) pa_nil)))), ?_⟩
  walk_at "S"
  walk_at ""
  refine ⟨_, rfl, Nat.le_trans (text_len h8 hg hl) (by decide), fun p H1 s1 h1 => ?_⟩
  rw [good_text h8] at h1
  walk_at ""
  refine .inl ⟨⟨_, SqL.of h1⟩, comp_list (xs := (rowsT rs g).map V.str) (fun i acc H5 => Same H1 H5 ∧ acc.length = i ∧ RepLn K H5 (fun i => ((g i : Int), rs.getD i "")) acc) ⟨Same.refl _, rfl, RepLn.nil⟩ (fun i acc H5 _ hv => SqL.of (hv.1 _ _ h1)) (fun i x acc H5 hx hv => ?_) fun acc H5 hv p5 hp5 => ?_⟩
  · obtain ⟨s5, hal, hR⟩ := hv
    have hi : i < rs.length := by have := (List.getElem?_eq_some_iff.mp hx).1; simpa [rowsT] using this
    have ex : x = V.str (rowT (g i) (rs.getD i "")) := by
      rw [List.getElem?_map] at hx
      have : (rowsT rs g)[i]? = some (rowT (g i) (rs.getD i "")) := by simp [rowsT, hi]
      rw [this] at hx
      cases hx; rfl
    subst ex
    refine ⟨Nat.lt_of_lt_of_le (show acc.length < 100 by omega) (by rw [sizeLine_eq]; decide), ?_⟩
    simp only [slotsC, List.replicate_succ, List.replicate_zero, List.map_cons, List.map_nil, List.nil_append, List.cons_append, List.getElem?_cons_zero, List.getElem?_cons_succ, Option.join_some]
    walk_at ""
    refine ⟨g i, _, rfl, hg i hi, getD_in h8 hi, fun a x y H6 s6 h6 => ⟨s5.trans s6, by simp [hal], RepLn.snoc (x := x) (y := y) (hR.same s6) (by rw [hal]; exact h6)⟩⟩
  · obtain ⟨s5, hal, hR⟩ := hv
    walk_at ""
    have s6 := same_new hp5 (.lst acc)
    refine ⟨_, .inl ⟨SqL.of upd_same, fun q hq => k q acc _ (((s1.trans s5).trans s6).trans (same_new hq _)) (SqT.of upd_same) ?_ ((hR.same s6).same (same_new hq _))⟩⟩
    rw [hal]; simp [rowsT]
end
section
variable {P : Program} {w : World} {K : PySem.W.Frag} {mg : Str → Option Value} {base0 : Heap} {D : Defs}
def spText28 (K : PySem.W.Frag) : Sp := fun vs H Q _ => ∃ (a b : Addr) (rs : List Str) (g : Nat → Nat), vs = [.ref a, .ref b] ∧ SqL K H a (rs.map V.str) ∧ SqL K H b (gv g rs.length) ∧ rs.length ≤ 80 ∧ (∀ r ∈ rs, r ∈ rules8) ∧ (∀ j, j < rs.length → g j ≤ 60) ∧ ∀ H', Same H H' → Q (.str (textT rs g)) H'
theorem row_made (l : Nat) (r : Str) : (if r = Str.ofString "new" then timesS (Str.ofString "| ") l else timesS (Str.ofString "| ") l ++ Str.ofString "false ") ++ Str.ofString "; " ++ r = rowT l r := str_ext (by
  rw [rowT_cps]
  unfold toldT stT
  by_cases c : r = Str.ofString "new"
  · have c' : r = "new" := c
    rw [if_pos c, if_pos c']
    simp only [Str.cps_append, Array.toList_append, times_bars]
    rw [show (Str.ofString "").cps.toList = [] from rfl]
    simp
  · have c' : ¬ r = "new" := c
    rw [if_neg c, if_neg c']
    simp only [Str.cps_append, Array.toList_append, times_bars]
    simp)
theorem join_tx (sep : Str) (ts : List Str) : (Txt.join sep ts) = Str.join sep ts := by
  show Builtin.Str.glued sep _ = _
  rw [StrLaws.glued_eq_join]
theorem nl_eq : Str.ofString "\n" = (⟨#[10]⟩ : Str) := by decide +kernel
theorem sum_le {ts : List Str} {b : Nat} (h : ∀ t ∈ ts, t.length ≤ b) : (ts.map fun t => t.length).sum ≤ ts.length * b := by
  induction ts with
  | nil => simp
  | cons t ts ih =>
    have h1 := h t (by simp)
    have h2 := ih fun u hu => h u (List.mem_cons_of_mem _ hu)
    rw [List.map_cons, List.sum_cons, List.length_cons, Nat.succ_mul]
    omega
theorem ok_text_of_L (T : Tx K mg D) : FnOk P w K mg base0 CX0 1 D.a_text_of_L D.d_text_of_L ["_law_rules", "_law_levels"] (spText28 K) := by
  refine T.F_text_of_L.ok sc_text_of_L (fun vs H Q E h => ?_) (fun cdv A outer s H vs Q E hr h => ?_)
  · obtain ⟨a, b, rs, g, rfl, _⟩ := h; rfl
  obtain ⟨a, b, rs, g, rfl, hA, hB, hl, h8, hg, k⟩ := h
  have hu := hr.units
  refine ⟨_, (pss_cons (ps_set (i := 2) sc_text_of_L.nd (by rfl) (by walk_at "o") (pe_lst pa_nil))
    (pss_cons (ps_for PassesOwn.never (by rfl) (pi_range1 (by rfl) T.z_range (pa_cons (pe_callB (callA_len K) (by rfl) T.z_len PySem.boot_len (pa_cons (pv 0) pa_nil)) pa_nil)) (pg_name (i := 3) sc_text_of_L.nd (by rfl) (by walk_at "o"))
      (pss_cons (ps_set (i := 4) sc_text_of_L.nd (by rfl) (by walk_at "o") (pe_op op_mulS pe_str (pe_ix (ixA K) (pv 1) (pv 3) (fun _ _ => rfl))))
    (pss_cons (ps_if (pt_cmpR (opC_ne K hu) (pe_ix (ixA K) (pv 0) (pv 3) (fun _ _ => rfl)) pe_str (nomark _)) (pss_one (ps_set (i := 4) sc_text_of_L.nd (by rfl) (by walk_at "o") (pe_op (opB_add K) (pv 4) pe_str))) pss_nil)
    (pss_one (ps_expr (pe_bmA K PySem.F.plainAttrs_list PySem.F.slot_list_append PySem.F.type_list_append mtR_append (pv 2) (pa_cons (pe_op (opB_add K) (pe_op (opB_add K) (pv 4) pe_str) (pe_ix (ixA K) (pv 0) (pv 3) (fun _ _ => rfl))) pa_nil)))))))
    (pss_one (ps_ret (pe_bmA K PySem.F.plainAttrs_str PySem.F.slot_str_join PySem.F.type_str_join (mtB_join K) pe_str (pa_cons (pv 2) pa_nil)))))), ?_⟩
  walk_at "S"
  walk_at ""
  refine ⟨Nat.zero_le _, fun p hp => ?_⟩
  refine ⟨_, .inl ((same_new hp _).seq hA), ?_⟩
  (try walk_at "")
  rw [List.length_map]
  have s0 := same_new hp (.lst [])
  refine ⟨by omega, by omega, forW_range (fun i σ H' => Same H H' ∧ H' p = some (.lst (((rowsT rs g).take i).map V.str)) ∧ ∃ u3 u4, σ = [some (.ref a), some (.ref b), some (.ref p), u3, u4]) ⟨s0, upd_same, _, _, rfl⟩ (fun i σ H' hi hv => ?_) fun σ H' hv => ?_⟩
  · obtain ⟨s1, hP, u3, u4, rfl⟩ := hv
    have hi : i < rs.length := by omega
    have hg1 := hg i hi
    walk_at ""
    refine ⟨_, .inl (s1.seq hB), _, at0 (gv_get hi), ?_⟩
    walk_at ""
    refine ⟨by omega, by omega, by decide, _, .inl (s1.seq hA), _, at0 (strs_get hi), ?_⟩
    walk_at ""
    rw [Int.toNat_natCast]
    have hlen : (timesS (Str.ofString "| ") (g i)).length ≤ 120 := by
      have := timesS_len (Str.ofString "| ") (g i)
      rw [show (Str.ofString "| ").length = 2 from rfl] at this
      omega
    have hrr := getD_in h8 hi
    have hr5 : (rs.getD i "").length ≤ 20 := by
      have e : (toldT (rs.getD i "")).length = (stT (rs.getD i "") ++ Str.ofString "; ").length + (rs.getD i "").length := by unfold toldT; rw [Str.length_append]
      have := (told_facts _ hrr).1
      omega
    have l2 : (Str.ofString "; ").length = 2 := rfl
    have l6 : (Str.ofString "false ").length = 6 := rfl
    have em := row_made (g i) (rs.getD i "")
    have fin : ∀ H5, H5 = upd H' p (.lst (((rowsT rs g).take i).map V.str ++ [V.str (rowT (g i) (rs.getD i ""))])) → Same H H5 ∧ H5 p = some (.lst (((rowsT rs g).take (i + 1)).map V.str)) := fun H5 e => by
      have e2 : (rowsT rs g)[i]? = some (rowT (g i) (rs.getD i "")) := by simp [rowsT, hi]
      obtain ⟨hj, e3⟩ := List.getElem?_eq_some_iff.mp e2
      subst e
      refine ⟨s1.upd hp, ?_⟩
      rw [upd_same, List.take_succ_eq_append_getElem hj, List.map_append, e3]
      rfl
    refine ite2 (fun c => ?_) fun c => ?_
    · rw [if_neg c] at em
      refine ⟨sz1000 (by omega), ⟨_, SqL.of hP⟩, sz1000 (by rw [Str.length_append]; omega), _, .inl (s1.seq hA), _, at0 (strs_get hi), ?_⟩
      walk_at ""
      rw [em]
      obtain ⟨f1, f2⟩ := fin _ rfl
      exact ⟨sz1000 (by rw [Str.length_append, Str.length_append]; omega), _, hP, Nat.lt_of_le_of_lt (by rw [List.length_map, List.length_take]; exact Nat.min_le_left _ _) (Nat.lt_of_lt_of_le (show i < 100 by omega) (by rw [sizeLine_eq]; decide)), f1, f2, _, _, rfl⟩
    · rw [if_pos (by simpa using c)] at em
      refine ⟨⟨_, SqL.of hP⟩, sz1000 (by omega), _, .inl (s1.seq hA), _, at0 (strs_get hi), ?_⟩
      walk_at ""
      rw [em]
      obtain ⟨f1, f2⟩ := fin _ rfl
      exact ⟨sz1000 (by rw [Str.length_append]; omega), _, hP, Nat.lt_of_le_of_lt (by rw [List.length_map, List.length_take]; exact Nat.min_le_left _ _) (Nat.lt_of_lt_of_le (show i < 100 by omega) (by rw [sizeLine_eq]; decide)), f1, f2, _, _, rfl⟩
  · obtain ⟨s1, hP, u3, u4, rfl⟩ := hv
    rw [Int.toNat_natCast, ← rowsT_len rs g, List.take_length] at hP
    walk_at ""
    rw [nl_eq]
    refine ⟨trivial, rowsT rs g, .inl (SqL.of hP), ?_, ?_⟩
    · have := sum_le (ts := rowsT rs g) (b := 140) fun t ht => by
        obtain ⟨j, hj, rfl, hr⟩ := rowsT_of h8 ht
        exact row_len _ hr (hg j hj)
      rw [rowsT_len] at this ⊢
      rw [show (⟨#[10]⟩ : Str).length = 1 from rfl]
      have : rs.length * 140 ≤ 80 * 140 := Nat.mul_le_mul_right _ hl
      omega
    · rw [join_tx]
      exact k _ s1
end
section
variable {P : Program} {w : World} {K : PySem.W.Frag} {mg : Str → Option Value} {base0 : Heap} {D : Defs}
structure StAt (K : PySem.W.Frag) (H : Hp) (rs : List Str) (g : Nat → Nat) (N n : Nat) (q : List Nat) (p : Addr) (S : List (List Itm)) (as : List Addr) : Prop where
  top : H p = some (.lst (as.map V.ref))
  out : p ∉ as
  rep : RepSt K H S as
  ok : SOk rs g N n q S
  few : (S.map List.length).sum ≤ n
theorem few_cons {L : List Itm} {S0 : List (List Itm)} {n : Nat} (h : ((S0 ++ [L]).map List.length).sum ≤ n) : L.length + (S0.map List.length).sum ≤ n := by
  rw [List.map_append, List.sum_append] at h
  simp at h
  omega
def spClsd (K : PySem.W.Frag) : Sp := fun vs H Q _ => ∃ (rs : List Str) (g : Nat → Nat) (N n : Nat) (p : Addr) (S : List (List Itm)) (as : List Addr) (x : Int), vs = [.ref p, .int x] ∧ x = (kept rs g n : Nat) + 1 ∧ StAt K H rs g N n (pathAt rs g n) p S as ∧ n ≤ N ∧ N ≤ 100 ∧
  ∀ S' as' H', StAt K H' rs g N n (qAt rs g n) p S' as' → (∀ a ∈ as', a ∈ as) → SameO (p :: as) H H' → Q (.ref p) H'
theorem ok_closed_to_L (T : Tx K mg D) : FnOk P w K mg base0 CX0 1 D.a_closed_to_L D.d_closed_to_L ["_law_lists", "_law_kept"] (spClsd K) := by
  refine T.F_closed_to_L.ok sc_closed_to_L (fun vs H Q E h => ?_) (fun cdv A outer s H vs Q E hr h => ?_)
  · obtain ⟨rs, g, N, n, p, S, as, x, rfl, _⟩ := h; rfl
  obtain ⟨rs, g, N, n, p, S, as, x, rfl, hx, hS, hN, hN1, k⟩ := h
  have hu := hr.units
  refine ⟨_, (pss_cons (ps_while PassesOwn.never (pt_cmpR op_gt (pe_callB (callA_len K) (by rfl) T.z_len PySem.boot_len (pa_cons (pv 0) pa_nil)) (pv 1) (nomark _)) (pss_cons (ps_set (i := 2) sc_closed_to_L.nd (by rfl) (by walk_at "o") (pe_bmA0 K PySem.F.plainAttrs_list PySem.F.slot_list_pop PySem.F.type_list_pop mtR_pop (pv 0)))
    (pss_one (ps_expr (pe_bmA K PySem.F.plainAttrs_list PySem.F.slot_list_append PySem.F.type_list_append mtR_append (pe_ix (ixA K) (pv 0) (pe_op op_sub (pe_callB (callA_len K) (by rfl) T.z_len PySem.boot_len (pa_cons (pv 0) pa_nil)) pe_int) (fun _ _ => rfl)) (pa_cons (pe_tup (pa_cons (pe_ix (ixA K) (pv 2) pe_int (fun _ _ => rfl)) (pa_cons (pe_callB (callA_maxL K (by rfl)) (by rfl) T.z_max (by rfl) (pa_cons (pe_comp 1 [] ["_law_at"] ⟨by rfl, by rfl, by rfl, by rfl, by rfl, by rfl, by rfl⟩ (by rfl) (pi_any K (pv 2)) (fun _ _ _ _ => pg_name (i := 0) (show List.Nodup (["_law_at"] : List Str) by decide +kernel) (by rfl) (Or.inl (by rfl)) (Or.inr (by rfl))) (gName_keep (by decide)) (fun _ _ _ _ => pif_one (pt_val (pe_callB (callB_inst K "int") (by rfl) T.z_isinstance (by rfl) (pa_cons (pv 0) (pa_cons (pe_bltn (v := .ty "int") (by rfl) T.z_int (by rfl) (by rfl)) pa_nil))))) (fun _ _ _ _ => (pv 0))) pa_nil)) pa_nil))) pa_nil))))))
    (pss_one (ps_ret (pv 0)))), ?_⟩
  walk_at "S"
  walk_at ""
  refine ⟨fun m σ' H' => ∃ (q : List Nat) (S' : List (List Itm)) (as' : List Addr) (u2 : Option V) (mm : Nat), m = q.length ∧ σ' = [some (.ref p), some (.int x), u2] ∧ StAt K H' rs g N n q p S' as' ∧ q = (pathAt rs g n).take mm ∧ kept rs g n ≤ mm ∧ (∀ a ∈ as', a ∈ as) ∧ SameO (p :: as) H H', ⟨_, pathAt rs g n, S, as, _, (pathAt rs g n).length + kept rs g n, rfl, rfl, hS, (List.take_of_length_le (by omega)).symm, by omega, fun a h => h, SameO.refl _ _⟩, ?_⟩
  rintro m σ' H1 ⟨q, S1, as1, u2, mm, rfl, rfl, h1, hq, hmm, hsub, s1⟩
  walk_at ""
  refine ⟨_, .inl (SqL.of h1.top), ?_⟩
  have hlen : ((as1.map V.ref).length : Int) = (q.length : Int) + 1 := by
    rw [List.length_map, h1.rep.len, h1.ok.1]; omega
  refine ite2 (fun c => ?_) fun c => ?_
  rotate_left
  · have hq2 : q = qAt rs g n := take_kept hq hmm (by omega)
    subst hq2
    exact k S1 as1 H1 h1 hsub s1
  obtain ⟨S0, A, L, b, eS, ⟨t, eL⟩, hS0, hqt, hok⟩ := h1.ok.close' hq hN (by omega)
  have rep1 := h1.rep
  rw [eS, show S0 ++ [A, L] = (S0 ++ [A]) ++ [L] by simp] at rep1
  obtain ⟨as2, l, xl, ea1, hl2, _, hl, hXL, rep2⟩ := rep1.last
  obtain ⟨as0, a, xa, ea2, ha0, _, ha, hXA, rep0⟩ := rep2.last
  subst ea1
  subst ea2
  have hpo := h1.out
  have hpl : l ≠ p := fun z => hpo (by rw [← z]; simp)
  have hpa : a ≠ p := fun z => hpo (by rw [← z]; simp)
  have hal : a ≠ l := fun z => hl2 (by rw [← z]; simp)
  have hp0 : p ∉ as0 := fun z => hpo (by simp [z])
  have htop := h1.top
  rw [show (as0 ++ [a] ++ [l]).map V.ref = (as0 ++ [a]).map V.ref ++ [V.ref l] by simp] at htop
  refine ⟨fun σ' H' => ∃ S' as' u2, σ' = [some (.ref p), some (.int x), u2] ∧ StAt K H' rs g N n (q.take (q.length - 1)) p S' as' ∧ (∀ a ∈ as', a ∈ as) ∧ SameO (p :: as) H H', ?_, ⟨_, SqL.of htop⟩, _, _, htop, by rw [List.length_append]; exact List.getElem?_concat_length, ?_⟩
  · rintro σ' H' ⟨S', as', u2, rfl, hs, hsb, so⟩
    have hl : (q.take (q.length - 1)).length = q.length - 1 := by rw [List.length_take]; omega
    exact ⟨q.length - 1, by omega, _, S', as', u2, q.length - 1, hl.symm, rfl, hs, hqt, by omega, hsb, so⟩
  rw [List.dropLast_concat]
  generalize hH2 : upd H1 p (.lst ((as0 ++ [a]).map V.ref)) = H2
  have e2p : H2 p = some (.lst ((as0 ++ [a]).map V.ref)) := by rw [← hH2]; exact upd_same
  have e2l : H2 l = some (.lst xl) := by rw [← hH2, upd_ne hpl]; exact hl
  have e2a : H2 a = some (.lst xa) := by rw [← hH2, upd_ne hpa]; exact ha
  have rep02 : RepSt K H2 S0 as0 := by rw [← hH2]; exact rep0.keep htop hp0
  have hXL2 : RepIs K H2 L xl := by rw [← hH2]; exact hXL.keepL htop
  have hXA2 : RepIs K H2 A xa := by rw [← hH2]; exact hXA.keepL htop
  have s2 : SameO (p :: as) H H2 := by rw [← hH2]; exact s1.upd (by simp)
  refine ⟨_, .inl (SqL.of e2p), _, .inl (SqL.of e2p), V.ref a, ?_, ?_, ?_⟩
  · rw [List.length_map, List.length_append, show (((as0.length + [a].length : Nat) : Int) - 1) = (as0.length : Nat) by simp]
    exact atI_nat (by simp)
  · rw [w_ty_list rfl]; exact ⟨_, SqL.of e2a⟩
  obtain ⟨v0, ev0, rv0⟩ := hXL2.2 0 (.ln b) (by rw [eL]; rfl)
  have rv0 : v0 = V.int (b : Nat) := rv0
  subst rv0
  walk_at ""
  refine ⟨_, .inl (SqL.of e2l), _, atI_nat (j := 0) ev0, .inl ⟨⟨_, SqL.of e2l⟩, ?_⟩⟩
  have hf := h1.few
  rw [eS, show S0 ++ [A, L] = (S0 ++ [A]) ++ [L] by simp] at hf
  have hf1 := few_cons hf
  have hf2 := few_cons (show ((S0 ++ [A]).map List.length).sum ≤ n - L.length by omega)
  have hLl : 1 ≤ L.length := by rw [eL]; simp
  have hbig : xl.length ≤ sizeLine := by rw [hXL.1]; exact sz1000 (by omega)
  refine comp_list (xs := xl) (fun i acc H5 => H5 = H2 ∧ acc = (lnsOf (L.take i)).map fun n : Nat => V.int n) ⟨rfl, rfl⟩ (fun i acc H5 _ hv => hv.1 ▸ SqL.of e2l) (fun i y acc H5 hy hv => ?_) fun acc H5 hv p5 hp5 => ?_
  · obtain ⟨rfl, rfl⟩ := hv
    have hi : i < xl.length := (List.getElem?_eq_some_iff.mp hy).1
    obtain ⟨it, hit, ri⟩ := hXL2.at hy
    have hln : (lnsOf (L.take i)).length ≤ i := by
      unfold lnsOf
      exact Nat.le_trans (List.length_filterMap_le _ _) (by rw [List.length_take]; omega)
    refine ⟨?_, ?_⟩
    · rw [List.length_map]
      have h3 : xl.length ≤ sizeLine := hbig
      omega
    simp only [slotsC, List.replicate_succ, List.replicate_zero, List.map_cons, List.map_nil, List.nil_append, List.cons_append, List.getElem?_cons_zero, List.getElem?_cons_succ, Option.join_some]
    cases it with
    | ln j =>
      have ri : y = V.int (j : Nat) := ri
      subst ri
      walk_at ""
      refine ⟨true, rfl, ?_⟩
      rw [if_pos rfl]
      exact ⟨trivial, by rw [lns_ln hit]; simp⟩
    | bx b' e' =>
      obtain ⟨a', rfl, ha'⟩ := ri
      walk_at ""
      refine ⟨_, false, .tup ha', rfl, ?_⟩
      rw [if_neg (fun z => nomatch z)]
      exact ⟨trivial, by rw [lns_bx hit]⟩
  · obtain ⟨rfl, rfl⟩ := hv
    rw [hXL2.1, List.take_length]
    walk_at ""
    have e5 : (lnsOf L).map (fun n : Nat => V.int n) = ((lnsOf L).map fun n : Nat => (n : Int)).map V.int := by rw [List.map_map]; rfl
    refine ⟨(lnsOf L).map fun n : Nat => (n : Int), by rw [← e5]; exact SqL.of upd_same, fun z => ?_, fun M hM1 hM2 => ?_⟩
    · have : b ∈ lnsOf L := mem_lns.mpr (by rw [eL]; simp)
      have hz := List.map_eq_nil_iff.mp z
      rw [hz] at this; cases this
    obtain ⟨m, hm, rfl⟩ := List.mem_map.mp hM1
    refine ⟨sz1000 (show 2 ≤ 100000 by decide), fun p6 hp6 => ?_⟩
    have t5 := same_new hp5 (.lst ((lnsOf L).map fun n : Nat => V.int n))
    have t6 := same_new hp6 (.tup [V.int b, V.int m])
    have t56 := t5.trans t6
    have e4a := t56 _ _ e2a
    have e4p := t56 _ _ e2p
    refine ⟨xa, e4a, Nat.lt_of_le_of_lt (by rw [hXA.1]; exact (show A.length ≤ 100 by omega)) (Nat.lt_of_lt_of_le (show 100 < 1000 by decide) (by rw [sizeLine_eq]; decide)), S0 ++ [A ++ [.bx b m]], as0 ++ [a], _, rfl, ⟨?_, ?_, ?_, ?_, ?_⟩, fun c hc => hsub c (List.mem_append_left _ hc), ?_⟩
    · rw [upd_ne hpa.symm]; exact e4p
    · exact fun z => hpo (List.mem_append_left _ z)
    · exact RepSt.grow (rep02.same t56) ha0 e4a (hXA2.same t56) ⟨p6, rfl, SqT.of upd_same⟩
    · exact hok m (mem_lns.mp hm) fun i hi => by
        have := hM2 (i : Int) (List.mem_map.mpr ⟨i, mem_lns.mpr hi, rfl⟩)
        omega
    · rw [List.map_append, List.sum_append]
      simp
      omega
    · exact ((s2.trans (Same.o t56)).upd (List.mem_cons_of_mem _ (hsub a (by simp))))
end
section
variable {P : Program} {w : World} {K : PySem.W.Frag} {mg : Str → Option Value} {base0 : Heap} {D : Defs}
theorem StAt.same {K : PySem.W.Frag} {H H' : Hp} {rs : List Str} {g : Nat → Nat} {N n : Nat} {q : List Nat} {p : Addr} {S : List (List Itm)} {as : List Addr} (h : StAt K H rs g N n q p S as) (s : Same H H') : StAt K H' rs g N n q p S as := ⟨s _ _ h.top, h.out, h.rep.same s, h.ok, h.few⟩
theorem snoc_of {α : Type} {l : List α} (h : l.length ≠ 0) : ∃ l0 a, l = l0 ++ [a] := by
  have hn : l ≠ [] := fun z => h (by rw [z]; rfl)
  exact ⟨l.dropLast, l.getLast hn, (List.dropLast_concat_getLast hn).symm⟩
def spLists (K : PySem.W.Frag) : Sp := fun vs H Q _ => ∃ (a b : Addr) (rs : List Str) (g : Nat → Nat) (n : Nat), vs = [.ref a, .ref b, .int n] ∧ SqL K H a (rs.map V.str) ∧ SqL K H b (gv g rs.length) ∧ LvOk rs g rs.length ∧ n < rs.length ∧ rs.length ≤ 80 ∧
  ∀ (p : Addr) (S : List (List Itm)) (as : List Addr) H', Same H H' → StAt K H' rs g rs.length n (qAt rs g n) p S as → Q (.ref p) H'
theorem ok_lists_at_L (T : Tx K mg D) : FnOk P w K mg base0 CX0 2 D.a_lists_at_L D.d_lists_at_L ["_law_rules", "_law_levels", "_law_k"] (spLists K) := by
  have G_closed_to_L := ok_closed_to_L (P := P) (w := w) (base0 := base0) T
  refine T.F_lists_at_L.ok sc_lists_at_L (fun vs H Q E h => ?_) (fun cdv A outer s H vs Q E hr h => ?_)
  · obtain ⟨a, b, rs, g, n, rfl, _⟩ := h; rfl
  obtain ⟨a, b, rs, g, n, rfl, hA, hB, hLv, hn, hl, k⟩ := h
  have hu := hr.units
  have hr_closed_to_L : Room 1 _ := hr.mono (by decide)
  refine ⟨_, (pss_cons (ps_set (i := 3) sc_lists_at_L.nd (by rfl) (by walk_at "o") (pe_lst (pa_cons (pe_lst pa_nil) pa_nil)))
    (pss_cons (ps_for PassesOwn.never (by rfl) (pi_range1 (by rfl) T.z_range (pa_cons (pe_op (opB_add K) (pv 2) pe_int) pa_nil)) (pg_name (i := 4) sc_lists_at_L.nd (by rfl) (by walk_at "o"))
      (pss_cons (ps_set (i := 5) sc_lists_at_L.nd (by rfl) (by walk_at "o") (pe_callTy callA_int (by rfl) T.z_int (by rfl) (pa_cons (pe_cmpR (opA_in K) (pe_ix (ixA K) (pv 0) (pv 4) (fun _ _ => rfl)) (pe_lst (pa_cons pe_str (pa_cons pe_str (pa_cons pe_str pa_nil)))) (by rfl)) pa_nil)))
    (pss_cons (ps_set (i := 3) sc_lists_at_L.nd (by rfl) (by walk_at "o") (pe_call G_closed_to_L hr_closed_to_L (by rfl) T.m_closed_to_L T.F_closed_to_L.kp T.b_closed_to_L .nil pass0 (pa_cons (pv 3) (pa_cons (pe_op op_sub (pe_op (opB_add K) pe_int (pe_ix (ixA K) (pv 1) (pv 4) (fun _ _ => rfl))) (pv 5)) pa_nil))))
    (pss_one (ps_if (PW.pt (pw_and (pt_cmpR opA_lt (pv 4) (pv 2) (nomark _)) (pw_and1 (pt_cmpR (opB_eq K hu) (pv 5) pe_int (nomark _))))) (pss_one (ps_expr (pe_bmA K PySem.F.plainAttrs_list PySem.F.slot_list_append PySem.F.type_list_append mtR_append (pv 3) (pa_cons (pe_lst (pa_cons (pv 4) pa_nil)) pa_nil)))) (pss_one (ps_if (pt_cmpR opA_lt (pv 4) (pv 2) (nomark _)) (pss_one (ps_expr (pe_bmA K PySem.F.plainAttrs_list PySem.F.slot_list_append PySem.F.type_list_append mtR_append (pe_ix (ixA K) (pv 3) (pe_op op_sub (pe_callB (callA_len K) (by rfl) T.z_len PySem.boot_len (pa_cons (pv 3) pa_nil)) pe_int) (fun _ _ => rfl)) (pa_cons (pv 4) pa_nil)))) pss_nil)))))))
    (pss_one (ps_ret (pv 3))))), ?_⟩
  walk_at "S"
  walk_at ""
  refine ⟨Nat.zero_le _, fun p0 hp0 => ⟨sz1000 (show 1 ≤ 100000 by decide), fun p hp => ?_⟩⟩
  have s0 := (same_new hp0 (.lst [])).trans (same_new hp (.lst [V.ref p0]))
  have hpp : p ≠ p0 := fun z => by rw [z, upd_same] at hp; cases hp
  have hpH : H p = none := by rw [upd_ne hpp] at hp; exact hp
  have st0 : StAt K (upd (upd H p0 (.lst [])) p (.lst [V.ref p0])) rs g rs.length 0 [] p [[]] [p0] := ⟨upd_same, by simp [hpp], ⟨rfl, by simp, fun j L e => by
    have hj : j = 0 := by have := (List.getElem?_eq_some_iff.mp e).1; simp at this; omega
    subst hj
    cases e
    exact ⟨p0, [], rfl, by rw [upd_ne hpp.symm]; exact upd_same, RepIs.nil⟩⟩, SOk.start, by simp⟩
  refine ⟨by omega, by omega, forW_range (fun i σ H' => Same H H' ∧ ∃ S as u4 u5, σ = [some (.ref a), some (.ref b), some (.int n), some (.ref p), u4, u5] ∧ (∀ c ∈ as, H c = none) ∧ if i ≤ n then StAt K H' rs g rs.length i (pathAt rs g i) p S as else StAt K H' rs g rs.length n (qAt rs g n) p S as) ⟨s0, [[]], [p0], _, _, rfl, by simpa using hp0, st0⟩ (fun i σ H' hi hv => ?_) fun σ H' hv => ?_⟩
  rotate_left
  · obtain ⟨s1, S, as, u4, u5, rfl, hno, hst⟩ := hv
    rw [if_neg (by omega)] at hst
    walk_at ""
    exact k p S as H' s1 hst
  obtain ⟨s1, S, as, u4, u5, rfl, hno, hst⟩ := hv
  have hi : i < n + 1 := by omega
  rw [if_pos (by omega)] at hst
  walk_at ""
  refine ⟨_, .inl (s1.seq hA), _, at0 (strs_get (show i < rs.length by omega)), ?_⟩
  (try walk_at "")
  refine ⟨sz1000 (show 3 ≤ 100000 by decide), fun p1 hp1 => ⟨_, .inl (SqL.of upd_same), rfl, rfl, ?_⟩⟩
  have s2 := same_new hp1 (.lst [V.str (Str.ofString "guess"), V.str (Str.ofString "new"), V.str (Str.ofString "case")])
  generalize upd H' p1 (.lst [V.str (Str.ofString "guess"), V.str (Str.ofString "new"), V.str (Str.ofString "case")]) = H1 at s2 ⊢
  have hil : i < rs.length := by omega
  refine ⟨_, .inl ((s1.trans s2).seq hB), _, at0 (gv_get hil), ?_⟩
  walk_at ""
  have hLi := hLv i hil
  have hin : inV (V.str (rs.getD i (Str.ofString ""))) [V.str (Str.ofString "guess"), V.str (Str.ofString "new"), V.str (Str.ofString "case")] = opn (rs.getD i "") := rfl
  rw [hin]
  refine ⟨rs, g, rs.length, i, p, S, as, _, rfl, ?_, hst.same s2, by omega, by omega, fun S2 as2 H2 hst2 hsub so => ?_⟩
  · unfold kept
    have := hLi.1
    unfold o1 at this ⊢
    by_cases c : opn (rs.getD i "") = true
    · rw [if_pos c, if_pos c]; rw [if_pos c] at this; omega
    · rw [if_neg c, if_neg c]; omega
  have sH : Same H H2 := fun c o hc => so c o (fun z => by
    rcases List.mem_cons.mp z with z | z
    · rw [z, hpH] at hc; cases hc
    · rw [hno c z] at hc; cases hc) (s2 _ _ (s1 _ _ hc))
  have hno2 : ∀ c ∈ as2, H c = none := fun c hc => hno c (hsub c hc)
  have hq : (qAt rs g i).length ≤ i := by
    unfold qAt
    rw [List.length_take]
    have := path_len rs g i
    omega
  have hl2 : as2.length ≤ 100 := by rw [hst2.rep.len, hst2.ok.1]; omega
  have hbig : as2.length < sizeLine := Nat.lt_of_le_of_lt hl2 (Nat.lt_of_lt_of_le (show 100 < 1000 by decide) (by rw [sizeLine_eq]; decide))
  have pn := path_next (rs := rs) (g := g) i
  dsimp only
  by_cases ci : i < n
  · rw [if_pos (show (0 : Int) + (i : Int) < (n : Int) by omega)]
    by_cases c : opn (rs.getD i "") = true
    · rw [if_pos c] at pn
      rw [if_pos (show ((if opn (rs.getD i "") = true then (1 : Int) else 0) = 1) by rw [if_pos c])]
      walk_at ""
      refine ⟨⟨_, SqL.of hst2.top⟩, sz1000 (show 1 ≤ 100000 by decide), fun p2 hp2 => ?_⟩
      have s3 := same_new hp2 (.lst [V.int (0 + (i : Int))])
      have hpp2 : p ≠ p2 := fun z => by rw [← z, hst2.top] at hp2; cases hp2
      have hp2n : p2 ∉ as2 := fun z => by obtain ⟨xs, e⟩ := hst2.rep.lst z; rw [hp2] at e; cases e
      have hpH2 : H p2 = none := by
        cases e : H p2 with
        | none => rfl
        | some o => rw [sH _ _ e] at hp2; cases hp2
      have t3 := s3 _ _ hst2.top
      refine ⟨_, t3, by rw [List.length_map]; exact hbig, (sH.trans s3).upd hpH, S2 ++ [[.ln i]], as2 ++ [p2], _, _, rfl, fun c hc => ?_, ?_⟩
      · rcases List.mem_append.mp hc with hc | hc
        · exact hno2 c hc
        · rw [List.mem_singleton.mp hc]; exact hpH2
      rw [if_pos (by omega), pn]
      refine ⟨by rw [upd_same, List.map_append]; rfl, fun z => ?_, ?_, hst2.ok.opens pn, ?_⟩
      · rcases List.mem_append.mp z with z | z
        · exact hst2.out z
        · exact hpp2 (List.mem_singleton.mp z)
      · refine (RepSt.push (it := .ln i) hst2.rep hp2 (by show V.int _ = V.int _; rw [Int.zero_add])).keep t3 fun z => ?_
        rcases List.mem_append.mp z with z | z
        · exact hst2.out z
        · exact hpp2 (List.mem_singleton.mp z)
      · have := hst2.few
        rw [List.map_append, List.sum_append]
        simp
        omega
    · rw [if_neg c] at pn
      rw [if_neg (show ¬ ((if opn (rs.getD i "") = true then (1 : Int) else 0) = 1) by rw [if_neg c]; decide), if_pos (show (0 : Int) + (i : Int) < (n : Int) by omega)]
      obtain ⟨S0, A0, eS⟩ := snoc_of (l := S2) (by rw [hst2.ok.1]; omega)
      have rep := hst2.rep
      rw [eS] at rep
      obtain ⟨as0, a2, xa, ea, ha0, _, ha, hXA, rep0⟩ := rep.last
      subst ea
      have hpa : a2 ≠ p := fun z => hst2.out (by rw [← z]; simp)
      walk_at ""
      refine ⟨_, .inl (SqL.of hst2.top), ?_⟩
      (try walk_at "")
      refine ⟨_, .inl (SqL.of hst2.top), V.ref a2, ?_, ?_, ?_⟩
      · rw [List.length_map, List.length_append, show (((as0.length + [a2].length : Nat) : Int) - 1) = (as0.length : Nat) by simp]
        exact atI_nat (by simp)
      · rw [w_ty_list rfl]; exact ⟨_, SqL.of ha⟩
      have hf := hst2.few
      rw [eS] at hf
      have hf1 := few_cons hf
      walk_at ""
      refine ⟨xa, ha, Nat.lt_of_le_of_lt (by rw [hXA.1]; exact (show A0.length ≤ 100 by omega)) (Nat.lt_of_lt_of_le (show 100 < 1000 by decide) (by rw [sizeLine_eq]; decide)), sH.upd (hno2 a2 (by simp)), S0 ++ [A0 ++ [.ln i]], as0 ++ [a2], _, _, rfl, hno2, ?_⟩
      rw [if_pos (by omega), pn]
      refine ⟨by rw [upd_ne hpa.symm]; exact hst2.top, hst2.out, RepSt.grow rep0 ha0 ha hXA (by show V.int _ = V.int _; rw [Int.zero_add]), ?_, ?_⟩
      · have ok := hst2.ok
        rw [eS] at ok
        exact ok.line pn c
      · rw [List.map_append, List.sum_append]
        simp
        omega
  · have : i = n := by omega
    subst this
    rw [if_neg (show ¬ (0 : Int) + (i : Int) < (i : Int) by omega), if_neg (show ¬ (0 : Int) + (i : Int) < (i : Int) by omega)]
    exact ⟨sH, S2, as2, _, _, rfl, hno2, by rw [if_neg (by omega)]; exact hst2⟩
end
section
variable {P : Program} {w : World} {K : PySem.W.Frag} {mg : Str → Option Value} {base0 : Heap} {D : Defs}
theorem sqtKeepD {K : PySem.W.Frag} {H : Hp} {p q : Addr} {xs : List V} {kvs kvs' : List (Key × V)} (h : SqT K H q xs) (hp : H p = some (.dK kvs)) : SqT K (upd H p (.dK kvs')) q xs := by
  rcases h with (h | ⟨o, h⟩) | h
  · exact .inl (.inl (by rw [upd_ne]; exact h; rintro rfl; rw [hp] at h; cases h))
  · exact .inl (.inr ⟨o, by rw [upd_ne]; exact h; rintro rfl; rw [hp] at h; cases h⟩)
  · exact .inr h
theorem RepIs.keepD {K : PySem.W.Frag} {H : Hp} {d : Addr} {L : List Itm} {xs : List V} {kvs kvs' : List (Key × V)} (h : RepIs K H L xs) (hd : H d = some (.dK kvs)) : RepIs K (upd H d (.dK kvs')) L xs := by
  refine ⟨h.1, fun k it ek => ?_⟩
  obtain ⟨v, ev, rv⟩ := h.2 k it ek
  refine ⟨v, ev, ?_⟩
  cases it with
  | ln i => exact rv
  | bx b e => obtain ⟨a', ea, ha⟩ := rv; exact ⟨a', ea, sqtKeepD ha hd⟩
theorem flat_succ {S : List (List Itm)} {i : Nat} {L : List Itm} (h : S[i]? = some L) : (S.take (i + 1)).flatten = (S.take i).flatten ++ L := by
  obtain ⟨hi, e⟩ := List.getElem?_eq_some_iff.mp h
  rw [List.take_succ_eq_append_getElem hi, e, List.flatten_append]
  simp
theorem flat_le {S : List (List Itm)} {n : Nat} (h : (S.map List.length).sum ≤ n) (i : Nat) : (S.take i).flatten.length ≤ n := by
  have e : S.flatten.length = (S.map List.length).sum := List.length_flatten
  have e2 : S.flatten = (S.take i).flatten ++ (S.drop i).flatten := by rw [← List.flatten_append, List.take_append_drop]
  have := congrArg List.length e2
  rw [List.length_append] at this
  omega
theorem mem_flat {S : List (List Itm)} {it : Itm} : it ∈ S.flatten ↔ ∃ (j : Nat) (L : List Itm), S[j]? = some L ∧ it ∈ L := by
  rw [List.mem_flatten]
  refine ⟨fun ⟨L, hL, h⟩ => ?_, fun ⟨j, L, e, h⟩ => ⟨L, List.mem_of_getElem? e, h⟩⟩
  obtain ⟨j, hj⟩ := List.getElem?_of_mem hL
  exact ⟨j, L, hj, h⟩
theorem StAt.keepD {K : PySem.W.Frag} {H : Hp} {rs : List Str} {g : Nat → Nat} {N n : Nat} {q : List Nat} {p d : Addr} {S : List (List Itm)} {as : List Addr} {kvs kvs' : List (Key × V)} (h : StAt K H rs g N n q p S as) (hd : H d = some (.dK kvs)) : StAt K (upd H d (.dK kvs')) rs g N n q p S as := by
  have t0 : p ≠ d := by rintro rfl; rw [h.top] at hd; cases hd
  refine ⟨by rw [upd_ne t0]; exact h.top, h.out, ⟨h.rep.len, h.rep.nd, fun j L e => ?_⟩, h.ok, h.few⟩
  obtain ⟨a, xs, e1, e2, e3⟩ := h.rep.at_ j L e
  have t1 : a ≠ d := by rintro rfl; rw [e2] at hd; cases hd
  exact ⟨a, xs, e1, by rw [upd_ne t1]; exact e2, RepIs.keepD e3 hd⟩
structure DOk (l1 l2 : List (Int × V)) (M : List Itm) : Prop where
  lines : ∀ i : Int, (valI l1 i).isSome = true ↔ ∃ n : Nat, i = n ∧ Itm.ln n ∈ M
  ends : ∀ (i : Int) (v : V), valI l2 i = some v → ∃ b e : Nat, i = b ∧ v = .int e ∧ Itm.bx b e ∈ M
  endd : ∀ b e : Nat, Itm.bx b e ∈ M → (valI l2 (b : Int)).isSome = true
  f1 : l1.length ≤ M.length
  f2 : l2.length ≤ M.length
theorem DOk.nil : DOk [] [] [] := ⟨fun i => by simp [valI], fun i v h => by simp [valI] at h, fun b e h => by simp at h, Nat.le_refl _, Nat.le_refl _⟩
theorem DOk.ln {l1 l2 : List (Int × V)} {M : List Itm} (h : DOk l1 l2 M) (n : Nat) (v : V) : DOk (putI l1 n v) l2 (M ++ [.ln n]) := by
  refine ⟨fun i => ?_, fun i v h' => ?_, fun b e h' => ?_, ?_, ?_⟩
  · rw [valI_put]
    by_cases c : i = n
    · rw [if_pos c]; exact ⟨fun _ => ⟨n, c, by simp⟩, fun _ => rfl⟩
    · rw [if_neg c, h.lines]
      refine ⟨fun ⟨m, e, hm⟩ => ⟨m, e, List.mem_append_left _ hm⟩, fun ⟨m, e, hm⟩ => ⟨m, e, ?_⟩⟩
      rcases List.mem_append.mp hm with hm | hm
      · exact hm
      · have hm := List.mem_singleton.mp hm
        cases hm
        exact absurd e c
  · obtain ⟨b, e, h1, h2, h3⟩ := h.ends i v h'
    exact ⟨b, e, h1, h2, List.mem_append_left _ h3⟩
  · rcases List.mem_append.mp h' with h' | h'
    · exact h.endd b e h'
    · simp at h'
  · have := putI_len l1 n v
    have := h.f1
    simp; omega
  · have := h.f2
    simp; omega
theorem DOk.bx {l1 l2 : List (Int × V)} {M : List Itm} (h : DOk l1 l2 M) (b e : Nat) : DOk l1 (putI l2 b (.int e)) (M ++ [.bx b e]) := by
  refine ⟨fun i => ?_, fun i v h' => ?_, fun b' e' h' => ?_, ?_, ?_⟩
  · rw [h.lines]
    refine ⟨fun ⟨m, e, hm⟩ => ⟨m, e, List.mem_append_left _ hm⟩, fun ⟨m, e, hm⟩ => ⟨m, e, ?_⟩⟩
    rcases List.mem_append.mp hm with hm | hm
    · exact hm
    · simp at hm
  · rw [valI_put] at h'
    by_cases c : i = b
    · rw [if_pos c] at h'
      cases h'
      exact ⟨b, e, c, rfl, by simp⟩
    · rw [if_neg c] at h'
      obtain ⟨b1, e1, h1, h2, h3⟩ := h.ends i v h'
      exact ⟨b1, e1, h1, h2, List.mem_append_left _ h3⟩
  · rw [valI_put]
    by_cases c : (b' : Int) = b
    · rw [if_pos c]; rfl
    · rw [if_neg c]
      rcases List.mem_append.mp h' with h' | h'
      · exact h.endd b' e' h'
      · have h' := List.mem_singleton.mp h'
        cases h'
        exact absurd rfl c
  · have := h.f1
    simp; omega
  · have := putI_len l2 b (.int e)
    have := h.f2
    simp; omega
def spWell (K : PySem.W.Frag) : Sp := fun vs H Q _ => ∃ (pp a b : Addr) (us : List V) (rs : List Str) (g : Nat → Nat) (n : Nat), vs = [.ref pp, .ref a, .ref b, .int n] ∧ SqT K H pp us ∧ RepPs K H (fun i => pathAt rs g (i + 1)) us ∧ us.length = rs.length ∧ SqL K H a (rs.map V.str) ∧ SqL K H b (gv g rs.length) ∧ LvOk rs g rs.length ∧ n < rs.length ∧ rs.length ≤ 80 ∧ ∀ H', Same H H' → Q (.bl true) H'
theorem ok_seen_well_L (T : Tx K mg D) : FnOk P w K mg base0 CX0 3 D.a_seen_well_L D.d_seen_well_L ["_law_paths", "_law_rules", "_law_levels", "_law_k"] (spWell K) := by
  have G_lists_at_L := ok_lists_at_L (P := P) (w := w) (base0 := base0) T
  have G_seen := ok_seen (P := P) (w := w) (base0 := base0) T
  have G_box_seen := ok_box_seen (P := P) (w := w) (base0 := base0) T
  have G_end_of := ok_end_of (P := P) (w := w) (base0 := base0) T
  refine T.F_seen_well_L.ok sc_seen_well_L (fun vs H Q E h => ?_) (fun cdv A outer s H vs Q E hr h => ?_)
  · obtain ⟨pp, a, b, us, rs, g, n, rfl, _⟩ := h; rfl
  obtain ⟨pp, a, b, us, rs, g, n, rfl, hP, hR, hul, hA, hB, hLv, hn, hl, k⟩ := h
  have hu := hr.units
  have hr_lists_at_L : Room 2 _ := hr.mono (by decide)
  have hr_seen : Room 2 _ := hr.mono (by decide)
  have hr_box_seen : Room 2 _ := hr.mono (by decide)
  have hr_end_of : Room 1 _ := hr.mono (by decide)
  refine ⟨_, (pss_cons (ps_set (i := 4) sc_seen_well_L.nd (by rfl) (by walk_at "o") pe_dnew)
    (pss_cons (ps_set (i := 5) sc_seen_well_L.nd (by rfl) (by walk_at "o") pe_dnew)
    (pss_cons (ps_for PassesOwn.never (by rfl) (pi_any K (pe_call G_lists_at_L hr_lists_at_L (by rfl) T.m_lists_at_L T.F_lists_at_L.kp T.b_lists_at_L .nil pass0 (pa_cons (pv 1) (pa_cons (pv 2) (pa_cons (pv 3) pa_nil))))) (pg_name (i := 6) sc_seen_well_L.nd (by rfl) (by walk_at "o"))
      (pss_one (ps_for PassesOwn.never (by rfl) (pi_any K (pv 6)) (pg_name (i := 7) sc_seen_well_L.nd (by rfl) (by walk_at "o"))
      (pss_one (ps_if (pt_val (pe_callB (callB_inst K "tuple") (by rfl) T.z_isinstance (by rfl) (pa_cons (pv 7) (pa_cons (pe_bltn (v := .ty "tuple") (by rfl) T.z_tuple (by rfl) (by rfl)) pa_nil)))) (pss_one (ps_asg (pe_ix (ixA K) (pv 7) pe_int (fun _ _ => rfl)) (pg_sub (pv 5) (pe_ix (ixA K) (pv 7) pe_int (fun _ _ => rfl)) set_dI))) (pss_one (ps_asg pe_bl (pg_sub (pv 4) (pv 7) set_dI))))))))
    (pss_cons (ps_for PassesOwn.never (by rfl) (pi_range1 (by rfl) T.z_range (pa_cons (pe_callB (callA_len K) (by rfl) T.z_len PySem.boot_len (pa_cons (pv 1) pa_nil)) pa_nil)) (pg_name (i := 8) sc_seen_well_L.nd (by rfl) (by walk_at "o"))
      (pss_cons (ps_if (pt_cmpR (opC_ne K hu) (pe_call G_seen hr_seen (by rfl) T.m_seen T.F_seen.kp T.b_seen .nil pass0 (pa_cons (pv 0) (pa_cons (pv 3) (pa_cons (pv 8) pa_nil)))) (pe_cmpR op_inI (pv 8) (pv 4) (by rfl)) (nomark _)) (pss_one (ps_ret pe_bl)) pss_nil)
    (pss_one (ps_if (pt_cmpR (opC_in K hu) (pe_ix (ixA K) (pv 1) (pv 8) (fun _ _ => rfl)) (pe_lst (pa_cons pe_str (pa_cons pe_str (pa_cons pe_str pa_nil)))) (by rfl)) (pss_one (ps_if (PW.pt (pw_or (pt_cmpR (opC_ne K hu) (pe_call G_box_seen hr_box_seen (by rfl) T.m_box_seen T.F_box_seen.kp T.b_box_seen .nil pass0 (pa_cons (pv 0) (pa_cons (pv 3) (pa_cons (pv 8) pa_nil)))) (pe_cmpR op_inI (pv 8) (pv 5) (by rfl)) (nomark _)) (pw_or1 (PW.pt (pw_and (pt_cmpR op_inI (pv 8) (pv 5) (by rfl)) (pw_and1 (pt_cmpR (opC_ne K hu) (pe_call G_end_of hr_end_of (by rfl) T.m_end_of T.F_end_of.kp T.b_end_of .nil pass0 (pa_cons (pv 0) (pa_cons (pv 8) pa_nil))) (pe_ix ix_dI (pv 5) (pv 8) (fun _ _ => rfl)) (nomark _)))))))) (pss_one (ps_ret pe_bl)) pss_nil)) pss_nil))))
    (pss_one (ps_ret pe_bl)))))), ?_⟩
  walk_at "S"
  walk_at ""
  intro d1 hd1 d2 hd2
  have s0 := (same_new hd1 (.dK [])).trans (same_new hd2 (.dK []))
  have h12 : d2 ≠ d1 := fun z => by rw [z, upd_same] at hd2; cases hd2
  have hd2H : H d2 = none := by rw [upd_ne h12] at hd2; exact hd2
  refine ⟨a, b, rs, g, n, rfl, s0.seq hA, s0.seq hB, hLv, hn, hl, fun p S as H1 s1 hst => ?_⟩
  have e1 : H1 d1 = some (.dK (dI [])) := s1 _ _ (by rw [upd_ne h12.symm]; exact upd_same)
  have e2 : H1 d2 = some (.dK (dI [])) := s1 _ _ upd_same
  walk_at ""
  refine .inl ⟨⟨_, SqL.of hst.top⟩, ?_⟩
  have sH1 := s0.trans s1
  have hfl := fun i => flat_le hst.few i
  refine forW_list (xs := as.map V.ref) (fun i σ H' => Same H H' ∧ StAt K H' rs g rs.length n (qAt rs g n) p S as ∧ ∃ l1 l2 u6 u7, H' d1 = some (.dK (dI l1)) ∧ H' d2 = some (.dK (dI l2)) ∧ DOk l1 l2 (S.take i).flatten ∧ σ = [some (.ref pp), some (.ref a), some (.ref b), some (.int n), some (.ref d1), some (.ref d2), u6, u7, none]) ⟨sH1, hst, [], [], _, _, e1, e2, DOk.nil, rfl⟩ (fun i σ H' _ hv => SqL.of hv.2.1.top) (fun i y σ H' hy hv => ?_) fun σ H' hv => ?_
  · obtain ⟨s2, hst2, l1, l2, u6, u7, c1, c2, hD, rfl⟩ := hv
    have hi : i < S.length := by
      have := (List.getElem?_eq_some_iff.mp hy).1
      rwa [List.length_map, hst2.rep.len] at this
    obtain ⟨L, hL⟩ : ∃ L, S[i]? = some L := ⟨_, List.getElem?_eq_getElem hi⟩
    obtain ⟨ai, xs, ea, hxs, hRx⟩ := hst2.rep.at_ i L hL
    have ey : y = V.ref ai := by
      rw [List.getElem?_map, ea] at hy
      cases hy; rfl
    subst ey
    walk_at ""
    refine .inl ⟨⟨_, SqL.of hxs⟩, ?_⟩
    refine forW_list (xs := xs) (fun j σ H' => Same H H' ∧ StAt K H' rs g rs.length n (qAt rs g n) p S as ∧ H' ai = some (.lst xs) ∧ RepIs K H' L xs ∧ ∃ l1 l2 u7, H' d1 = some (.dK (dI l1)) ∧ H' d2 = some (.dK (dI l2)) ∧ DOk l1 l2 ((S.take i).flatten ++ L.take j) ∧ σ = [some (.ref pp), some (.ref a), some (.ref b), some (.int n), some (.ref d1), some (.ref d2), some (.ref ai), u7, none]) ⟨s2, hst2, hxs, hRx, l1, l2, _, c1, c2, by simpa using hD, rfl⟩ (fun j σ H' _ hv => SqL.of hv.2.2.1) (fun j y σ H3 hy hv => ?_) fun σ H3 hv => ?_
    · obtain ⟨s3, hst3, hxs3, hRx3, l1, l2, u7, c1, c2, hD, rfl⟩ := hv
      obtain ⟨it, hit, ri⟩ := hRx3.at hy
      obtain ⟨hj, eit⟩ := List.getElem?_eq_some_iff.mp hit
      have eM : (S.take i).flatten ++ L.take (j + 1) = (S.take i).flatten ++ L.take j ++ [it] := by
        rw [List.take_succ_eq_append_getElem hj, eit, List.append_assoc]
      have hM : ((S.take i).flatten ++ L.take j).length ≤ n := by
        have h1 := hfl (i + 1)
        rw [flat_succ hL, List.length_append] at h1
        rw [List.length_append, List.length_take]
        omega
      have hk1 := hD.f1
      have hk2 := hD.f2
      cases it with
      | ln m =>
        have ri : y = V.int (m : Nat) := ri
        subst ri
        walk_at ""
        refine ⟨false, rfl, ?_⟩
        rw [if_neg (fun z => nomatch z)]
        refine ⟨l1, c1, by omega, s3.upd hd1, hst3.keepD c1, ?_, RepIs.keepD hRx3 c1, putI l1 m (.bl true), l2, _, upd_same, by rw [upd_ne h12]; exact c2, by rw [eM]; exact hD.ln m _, rfl⟩
        have t1 : ai ≠ d1 := by rintro rfl; rw [hxs3] at c1; cases c1
        rw [upd_ne t1]; exact hxs3
      | bx b' e' =>
        obtain ⟨a', rfl, ha'⟩ := ri
        walk_at ""
        refine ⟨_, true, .tup ha', rfl, ?_⟩
        rw [if_pos rfl]
        refine ⟨_, .inr ha', _, atI_nat (j := 1) rfl, _, .inr ha', _, atI_nat (j := 0) rfl, ?_⟩
        walk_at ""
        refine ⟨l2, c2, by omega, s3.upd hd2H, hst3.keepD c2, ?_, RepIs.keepD hRx3 c2, l1, putI l2 b' (.int e'), _, by rw [upd_ne h12.symm]; exact c1, upd_same, by rw [eM]; exact hD.bx b' e', rfl⟩
        have t1 : ai ≠ d2 := by rintro rfl; rw [hxs3] at c2; cases c2
        rw [upd_ne t1]; exact hxs3
    · obtain ⟨s3, hst3, hxs3, hRx3, l1, l2, u7, c1, c2, hD, rfl⟩ := hv
      rw [hRx.1, List.take_length, ← flat_succ hL] at hD
      exact ⟨s3, hst3, l1, l2, _, u7, c1, c2, hD, rfl⟩
  · obtain ⟨s2, hst2, l1, l2, u6, u7, c1, c2, hD, rfl⟩ := hv
    rw [List.length_map, hst2.rep.len, List.take_length] at hD
    have hok := hst2.ok
    walk_at ""
    have hsn : ∀ i, (valI l1 (i : Nat)).isSome = (decide (i < n) && decide ((pathAt rs g (n + 1)).take (pathAt rs g (i + 1)).length = pathAt rs g (i + 1))) := fun i => by
      rw [Bool.eq_iff_iff, hD.lines, Bool.and_eq_true, decide_eq_true_eq, decide_eq_true_eq, ← mem_seen hok, ← mem_flat]
      exact ⟨fun ⟨m, e, h⟩ => by rw [show i = m by omega]; exact h, fun h => ⟨i, rfl, h⟩⟩
    have hbx : ∀ i, i < rs.length → opn (rs.getD i "") = true → (valI l2 (i : Nat)).isSome = (decide (i < n) && (decide (i ∉ pathAt rs g (n + 1)) && decide ((pathAt rs g (n + 1)).take ((pathAt rs g (i + 1)).length - 1) = (pathAt rs g (i + 1)).take ((pathAt rs g (i + 1)).length - 1)))) := fun i hi ho => by
      rw [Bool.eq_iff_iff, Bool.and_eq_true, Bool.and_eq_true, decide_eq_true_eq, decide_eq_true_eq, decide_eq_true_eq]
      refine ⟨fun h => ?_, fun h => ?_⟩
      · obtain ⟨v, ev⟩ := Option.isSome_iff_exists.mp h
        obtain ⟨b', e', h1, h2, h3⟩ := hD.ends _ _ ev
        have : b' = i := by omega
        subst this
        exact ((mem_box hok ho).mp (mem_flat.mp h3)).1
      · exact hD.endd i _ (mem_flat.mpr ((mem_box hok ho).mpr ⟨h, end_is ho hi⟩))
    have hen : ∀ i v, i < rs.length → opn (rs.getD i "") = true → valI l2 (i : Nat) = some v → v = .int (endGo (fun j => pathAt rs g (j + 1)) i ((pathAt rs g (i + 1)).length - 1) (rs.length - i) i i : Nat) := fun i v hi ho ev => by
      obtain ⟨b', e', h1, h2, h3⟩ := hD.ends _ _ ev
      have : b' = i := by omega
      subst this
      rw [h2, ((mem_box hok ho).mp (mem_flat.mp h3)).2.uniq (end_is ho hi)]
    refine ⟨_, .inl (s2.seq hA), by omega, by rw [List.length_map]; omega, ?_⟩
    rw [List.length_map]
    refine forW_range (fun i σ H' => Same H H' ∧ H' d1 = some (.dK (dI l1)) ∧ H' d2 = some (.dK (dI l2)) ∧ ∃ u8, σ = [some (.ref pp), some (.ref a), some (.ref b), some (.int n), some (.ref d1), some (.ref d2), u6, u7, u8]) ⟨s2, c1, c2, _, rfl⟩ (fun i σ H3 hi hv => ?_) fun σ H3 hv => ?_
    rotate_left
    · obtain ⟨s3, _, _, u8, rfl⟩ := hv
      walk_at ""
      exact k _ s3
    obtain ⟨s3, c1, c2, u8, rfl⟩ := hv
    have hi : i < rs.length := by omega
    simp only [Int.zero_add]
    walk_at ""
    refine ⟨pp, us, fun i => pathAt rs g (i + 1), n, i, rfl, s3.seqT hP, hR.same s3, by omega, by omega, fun H4 s4 => ?_⟩
    walk_at ""
    refine ⟨l1, s4 _ _ c1, ?_⟩
    rw [hsn i, if_neg (fun z => z rfl)]
    have s34 := s3.trans s4
    refine ⟨_, .inl (s34.seq hA), _, atI_nat (strs_get hi), sz1000 (show 3 ≤ 100000 by decide), fun p1 hp1 => .inl ?_⟩
    have s5 := same_new hp1 (.lst [V.str (Str.ofString "guess"), V.str (Str.ofString "new"), V.str (Str.ofString "case")])
    have q1 : SqL K (upd H4 p1 (.lst [V.str (Str.ofString "guess"), V.str (Str.ofString "new"), V.str (Str.ofString "case")])) p1 [V.str (Str.ofString "guess"), V.str (Str.ofString "new"), V.str (Str.ofString "case")] := SqL.of upd_same
    generalize upd H4 p1 (.lst [V.str (Str.ofString "guess"), V.str (Str.ofString "new"), V.str (Str.ofString "case")]) = H5 at s5 q1 ⊢
    have d1' := s5 _ _ (s4 _ _ c1)
    have d2' := s5 _ _ (s4 _ _ c2)
    have s35 := s34.trans s5
    refine ⟨p1, _, rfl, .inl q1, rfl, rfl, _, rfl, ?_⟩
    have hin : inV (V.str (rs.getD i (Str.ofString ""))) [V.str (Str.ofString "guess"), V.str (Str.ofString "new"), V.str (Str.ofString "case")] = opn (rs.getD i "") := rfl
    rw [if_neg Bool.false_ne_true, hin]
    by_cases ho : opn (rs.getD i "") = true
    · rw [if_pos ho]
      refine ⟨pp, us, fun i => pathAt rs g (i + 1), n, i, rfl, s35.seqT hP, hR.same s35, by omega, by omega, fun H6 s6 => ?_⟩
      refine ⟨l2, s6 _ _ d2', ?_⟩
      walk_at ""
      rw [hbx i hi ho, if_neg (fun z => z rfl)]
      refine ⟨l2, s6 _ _ d2', ?_⟩
      have s36 := s35.trans s6
      by_cases cv : (valI l2 (i : Nat)).isSome = true
      · rw [if_pos cv]
        obtain ⟨v, ev⟩ := Option.isSome_iff_exists.mp cv
        have hv := hen i v hi ho ev
        refine ⟨pp, us, rs, g, i, rfl, s36.seqT hP, hR.same s36, by omega, by omega, ho, l2, v, .inl (s6 _ _ d2'), ev, ?_⟩
        subst hv
        walk_at ""
        rw [hul, if_neg (fun z => z rfl)]
        exact ⟨s36, s6 _ _ d1', s6 _ _ d2', _, rfl⟩
      · rw [if_neg cv]
        exact ⟨s36, s6 _ _ d1', s6 _ _ d2', _, rfl⟩
    · rw [if_neg ho]
      exact ⟨s35, d1', d2', _, rfl⟩
end
section
variable {P : Program} {w : World} {K : PySem.W.Frag} {mg : Str → Option Value} {base0 : Heap} {D : Defs}
theorem strsRL {K : PySem.W.Frag} {H : Hp} {a : Addr} {ts : List Str} (h : SqL K H a (ts.map V.str)) : RepD K H (.lst (ts.map Dt.str)) (.ref a) :=
  .lst h (by simp) fun j d x h1 h2 => by
    rw [List.getElem?_map] at h1 h2
    cases c : ts[j]? with
    | none => rw [c] at h1; cases h1
    | some t => rw [c] at h1 h2; cases h1; cases h2; exact .str _
theorem strs_dep : ∀ r : List Str, Dt.deps (r.map Dt.str) = 0
  | [] => by simp [Dt.deps]
  | a :: r => by simp [Dt.deps, Dt.dep, strs_dep r]
theorem gv_iv (g : Nat → Nat) (n : Nat) : gv g n = iv ((List.range n).map g) := by simp [gv, iv]
theorem getD_take {rs : List Str} {i : Nat} (h : i < rs.length) : rs.take (i + 1) = rs.take i ++ [rs.getD i ""] := by
  rw [List.take_succ_eq_append_getElem h, List.getD_eq_getElem?_getD, List.getElem?_eq_getElem h]; rfl
theorem ok_law (T : Tx K mg D) : FnOk P w K mg base0 CX0 9 D.a_law D.d_law ["_law_script"] (spLaw K) := by
  have G_rules_by_L := ok_rules_by_L (P := P) (w := w) (base0 := base0) T
  have G_levels_by_L := ok_levels_by_L (P := P) (w := w) (base0 := base0) T
  have G_text_of_L := ok_text_of_L (P := P) (w := w) (base0 := base0) T
  have G_read_lines := ok_read_lines (P := P) (w := w) (base0 := base0) T
  have G_boxes := ok_boxes (P := P) (w := w) (base0 := base0) T
  have G_seen_well_L := ok_seen_well_L (P := P) (w := w) (base0 := base0) T
  refine T.F_law.ok sc_law (fun vs H Q E h => ?_) (fun cdv A outer s H vs Q E hr h => ?_)
  · obtain ⟨a, ns, rfl, _⟩ := h; rfl
  obtain ⟨a, ns, rfl, hS, hns, k⟩ := h
  have hu := hr.units
  have hr_rules_by_L : Room 2 _ := hr.mono (by decide)
  have hr_levels_by_L : Room 2 _ := hr.mono (by decide)
  have hr_text_of_L : Room 1 _ := hr.mono (by decide)
  have hr_read_lines : Room 8 _ := hr.mono (by decide)
  have hr_boxes : Room 4 _ := hr.mono (by decide)
  have hr_seen_well_L : Room 3 _ := hr.mono (by decide)
  refine ⟨_, (pss_cons (ps_set (i := 1) sc_law.nd (by rfl) (by walk_at "o") (pe_call G_rules_by_L hr_rules_by_L (by rfl) T.m_rules_by_L T.F_rules_by_L.kp T.b_rules_by_L .nil pass0 (pa_cons (pv 0) pa_nil)))
    (pss_cons (ps_set (i := 2) sc_law.nd (by rfl) (by walk_at "o") (pe_call G_levels_by_L hr_levels_by_L (by rfl) T.m_levels_by_L T.F_levels_by_L.kp T.b_levels_by_L .nil pass0 (pa_cons (pv 0) (pa_cons (pv 1) pa_nil))))
    (pss_cons (ps_set (i := 3) sc_law.nd (by rfl) (by walk_at "o") (pe_call G_read_lines hr_read_lines (by rfl) T.m_read_lines T.F_read_lines.kp T.b_read_lines .nil pass0 (pa_cons (pe_call G_text_of_L hr_text_of_L (by rfl) T.m_text_of_L T.F_text_of_L.kp T.b_text_of_L .nil pass0 (pa_cons (pv 1) (pa_cons (pv 2) pa_nil))) pa_nil)))
    (pss_cons (ps_set (i := 4) sc_law.nd (by rfl) (by walk_at "o") (pe_call G_boxes hr_boxes (by rfl) T.m_boxes T.F_boxes.kp T.b_boxes .nil pass0 (pa_cons (pv 3) pa_nil)))
    (pss_cons (ps_if (PW.pt (pw_or (pt_cmpR (opC_ne K hu) (pe_comp 1 [] ["_law_line"] ⟨by rfl, by rfl, by rfl, by rfl, by rfl, by rfl, by rfl⟩ (by rfl) (pi_any K (pv 3)) (fun _ _ _ _ => pg_name (i := 0) (show List.Nodup (["_law_line"] : List Str) by decide +kernel) (by rfl) (Or.inl (by rfl)) (Or.inr (by rfl))) (gName_keep (by decide)) (fun _ _ _ _ => pif_nil) (fun _ _ _ _ => (pe_ix (ixA K) (pv 0) pe_int (fun _ _ => rfl)))) (pv 1) (nomark _)) (pw_or1 (pt_cmpR (opC_ne K hu) (pe_comp 1 [] ["_law_line"] ⟨by rfl, by rfl, by rfl, by rfl, by rfl, by rfl, by rfl⟩ (by rfl) (pi_any K (pv 3)) (fun _ _ _ _ => pg_name (i := 0) (show List.Nodup (["_law_line"] : List Str) by decide +kernel) (by rfl) (Or.inl (by rfl)) (Or.inr (by rfl))) (gName_keep (by decide)) (fun _ _ _ _ => pif_nil) (fun _ _ _ _ => (pe_ix (ixA K) (pv 0) pe_int (fun _ _ => rfl)))) (pv 2) (nomark _))))) (pss_one (ps_ret pe_bl)) pss_nil)
    (pss_cons (ps_for PassesOwn.never (by rfl) (pi_range1 (by rfl) T.z_range (pa_cons (pe_callB (call_min2 (by rfl)) (by rfl) T.z_min (by rfl) (pa_cons pe_int (pa_cons (pe_callB (callA_len K) (by rfl) T.z_len PySem.boot_len (pa_cons (pv 1) pa_nil)) pa_nil))) pa_nil)) (pg_name (i := 5) sc_law.nd (by rfl) (by walk_at "o"))
      (pss_one (ps_if (pt_not (pt_val (pe_call G_seen_well_L hr_seen_well_L (by rfl) T.m_seen_well_L T.F_seen_well_L.kp T.b_seen_well_L .nil pass0 (pa_cons (pv 4) (pa_cons (pv 1) (pa_cons (pv 2) (pa_cons (pv 5) pa_nil))))))) (pss_one (ps_ret pe_bl)) pss_nil)))
    (pss_one (ps_ret pe_bl)))))))), ?_⟩
  walk_at "S"
  walk_at ""
  refine ⟨a, ns, rfl, hS, hns, fun p rs H1 s1 h1 hl h8 => ⟨a, p, ns, rs, rfl, s1.seq hS, SqL.of h1, hl, fun b g H2 s2 h2 hLv => ?_⟩⟩
  have hg : ∀ j, j < rs.length → g j ≤ 60 := fun j hj => (hLv j hj).2.2
  refine ⟨p, b, rs, g, rfl, s2.seq (SqL.of h1), SqL.of h2, hl, h8, hg, fun H3 s3 => ⟨rs, g, rfl, hl, h8, hg, fun c us H4 s4 hc hul hLn => ?_⟩⟩
  have hfit : ∀ i, i ≤ rs.length → fitAt (fun i => ((g i : Int), rs.getD i "")) i = some (pathAt rs g i) := fun i hi => fit_path hLv i hi fun j _ => rfl
  refine ⟨c, us, _, rfl, hc, hLn, by omega, (by rw [hul, hfit _ (Nat.le_refl _)]; intro z; cases z), fun q ps H5 s5 hq hpl hR => ?_⟩
  have hRp : RepPs K H5 (fun i => pathAt rs g (i + 1)) ps := fun i v hv => by
    obtain ⟨a', e1, e2⟩ := hR i v hv
    have hi : i < ps.length := (List.getElem?_eq_some_iff.mp hv).1
    have e2 : SqT K H5 a' (iv ((fitAt (fun i => ((g i : Int), rs.getD i "")) (i + 1)).getD [])) := e2
    rw [hfit (i + 1) (by omega)] at e2
    exact ⟨a', e1, e2⟩
  have s25 := (s3.trans s4).trans s5
  have g1 := s25 _ _ (s2 _ _ h1)
  have g2 := s25 _ _ h2
  have hc5 := s5.seqT hc
  have hLn5 := hLn.same s5
  walk_at ""
  have hbig : 100 < sizeLine := Nat.lt_of_lt_of_le (show 100 < 1000 by decide) (by rw [sizeLine_eq]; decide)
  refine .inr ⟨⟨_, hc5⟩, comp_tup (xs := us) (fun i acc H6 => H6 = H5 ∧ acc = (rs.take i).map V.str) ⟨rfl, rfl⟩ (fun i acc H6 _ hv => hv.1 ▸ hc5) (fun i x acc H6 hx hv => ?_) fun acc H6 hv p6 hp6 => ?_⟩
  · obtain ⟨rfl, rfl⟩ := hv
    have hi : i < rs.length := by rw [← hul]; exact (List.getElem?_eq_some_iff.mp hx).1
    obtain ⟨a', x1, y1, rfl, ha'⟩ := hLn5 i x hx
    refine ⟨Nat.lt_of_le_of_lt (by rw [List.length_map, List.length_take]; omega) hbig, ?_⟩
    simp only [slotsC, List.replicate_succ, List.replicate_zero, List.map_cons, List.map_nil, List.nil_append, List.cons_append, List.getElem?_cons_zero, List.getElem?_cons_succ, Option.join_some]
    walk_at ""
    refine ⟨_, .inr ha', _, atI_nat (j := 1) rfl, trivial, ?_⟩
    rw [getD_take hi, List.map_append]; rfl
  obtain ⟨rfl, rfl⟩ := hv
  rw [hul, List.take_length]
  have s6 := same_new hp6 (.lst (rs.map V.str))
  have e6 : SqL K (upd H6 p6 (.lst (rs.map V.str))) p6 (rs.map V.str) := SqL.of upd_same
  generalize upd H6 p6 (.lst (rs.map V.str)) = H7 at s6 e6 ⊢
  refine ⟨_, _, strsRL e6, strsRL (s6.seq (SqL.of g1)), by simp [Dt.dep, strs_dep], ?_⟩
  rw [if_neg (fun z => z rfl)]
  have hc7 := s6.seqT hc5
  have hLn7 := hLn5.same s6
  refine .inr ⟨⟨_, hc7⟩, comp_tup (xs := us) (fun i acc H8 => H8 = H7 ∧ acc = gv g i) ⟨rfl, rfl⟩ (fun i acc H8 _ hv => hv.1 ▸ hc7) (fun i x acc H8 hx hv => ?_) fun acc H8 hv p8 hp8 => ?_⟩
  · obtain ⟨rfl, rfl⟩ := hv
    have hi : i < rs.length := by rw [← hul]; exact (List.getElem?_eq_some_iff.mp hx).1
    obtain ⟨a', x1, y1, rfl, ha'⟩ := hLn7 i x hx
    refine ⟨Nat.lt_of_le_of_lt (by rw [gv_len]; omega) hbig, ?_⟩
    simp only [slotsC, List.replicate_succ, List.replicate_zero, List.map_cons, List.map_nil, List.nil_append, List.cons_append, List.getElem?_cons_zero, List.getElem?_cons_succ, Option.join_some]
    walk_at ""
    refine ⟨_, .inr ha', _, atI_nat (j := 0) rfl, trivial, ?_⟩
    unfold gv
    rw [List.range_succ, List.map_append]; rfl
  obtain ⟨rfl, rfl⟩ := hv
  rw [hul]
  have s8 := same_new hp8 (.lst (gv g rs.length))
  have e8 : SqL K (upd H8 p8 (.lst (gv g rs.length))) p8 (gv g rs.length) := SqL.of upd_same
  generalize upd H8 p8 (.lst (gv g rs.length)) = H9 at s8 e8 ⊢
  have s69 := s6.trans s8
  have q9 : SqL K H9 b (gv g rs.length) := SqL.of (s69 _ _ g2)
  have e8' := e8
  have q9' := q9
  rw [gv_iv] at e8' q9'
  refine ⟨_, _, iv_repL e8', iv_repL q9', ldt_dep _, ?_⟩
  rw [if_neg (fun z => z rfl)]
  refine ⟨_, .inl (SqL.of (s69 _ _ g1)), ?_, ?_, ?_⟩
  · split <;> omega
  · split <;> omega
  rw [List.length_map]
  obtain ⟨m, hm, em⟩ : ∃ m : Nat, m ≤ rs.length ∧ (if (rs.length : Int) < 30 then (rs.length : Int) else 30).toNat = m := ⟨_, by split <;> omega, rfl⟩
  rw [em]
  refine forW_range (fun i σ H' => Same H9 H' ∧ ∃ u5, σ = [some (.ref a), some (.ref p), some (.ref b), some (.ref c), some (.ref q), u5]) ⟨Same.refl _, _, rfl⟩ (fun i σ H' hi hv => ?_) fun σ H' hv => ?_
  · obtain ⟨t1, u5, rfl⟩ := hv
    simp only [Int.zero_add]
    walk_at ""
    have t2 := s69.trans t1
    refine ⟨q, p, b, ps, rs, g, i, rfl, t2.seqT hq, hRp.same t2, by omega, SqL.of (t2 _ _ g1), t1.seq q9, hLv, by omega, hl, fun H10 t3 => ⟨_, rfl, ?_⟩⟩
    rw [if_neg (fun z => nomatch z)]
    exact ⟨t1.trans t3, _, rfl⟩
  · obtain ⟨t1, u5, rfl⟩ := hv
    walk_at ""
    exact k _
end
theorem all_mk {l : PySem.W.OpenLaw} {w : World} {K : PySem.W.Frag} {h : Heap} {mg : Str → Option Value} {fa : Addr} (X : K.In h) (G : h.Ns mainGlobals mg) (hfa : mg "law" = some (.ref fa)) {f0 f1 f2 f3 f4 f5 f6 f7 f8 f9 f10 f11 f12 f13 f14 f15 f16 f17 f18 f19 f20 f21 f22 f23 f24 f25 f26 f27 f28 f29 f30 f31 f32 f33 f34 f35 : Addr}
    {od0 an0 od1 an1 od2 an2 od3 an3 od4 an4 od5 an5 od6 an6 od7 an7 od8 an8 od9 an9 od10 an10 od11 an11 od12 an12 od13 an13 od14 an14 od15 an15 od16 an16 od17 an17 od18 an18 od19 an19 od20 an20 od21 an21 od22 an22 od23 an23 od24 an24 od25 an25 od26 an26 od27 an27 od28 an28 od29 an29 od30 an30 od31 an31 od32 an32 od33 an33 od34 an34 od35 an35 : Option Addr} {sl0 sl1 sl2 sl3 sl4 sl5 sl6 sl7 sl8 sl9 sl10 sl11 sl12 sl13 sl14 sl15 sl16 sl17 sl18 sl19 sl20 sl21 sl22 sl23 sl24 sl25 sl26 sl27 sl28 sl29 sl30 sl31 sl32 sl33 sl34 sl35 : Array (Option Value)} {oc0 kV0 dc0 pm0 cd0 ct0 oc1 kV1 dc1 pm1 cd1 ct1 oc2 kV2 dc2 pm2 cd2 ct2 oc3 kV3 dc3 pm3 cd3 ct3 oc4 kV4 dc4 pm4 cd4 ct4 oc5 kV5 dc5 pm5 cd5 ct5 oc6 kV6 dc6 pm6 cd6 ct6 oc7 kV7 dc7 pm7 cd7 ct7 oc8 kV8 dc8 pm8 cd8 ct8 oc9 kV9 dc9 pm9 cd9 ct9 oc10 kV10 dc10 pm10 cd10 ct10 oc11 kV11 dc11 pm11 cd11 ct11 oc12 kV12 dc12 pm12 cd12 ct12 oc13 kV13 dc13 pm13 cd13 ct13 oc14 kV14 dc14 pm14 cd14 ct14 oc15 kV15 dc15 pm15 cd15 ct15 oc16 kV16 dc16 pm16 cd16 ct16 oc17 kV17 dc17 pm17 cd17 ct17 oc18 kV18 dc18 pm18 cd18 ct18 oc19 kV19 dc19 pm19 cd19 ct19 oc20 kV20 dc20 pm20 cd20 ct20 oc21 kV21 dc21 pm21 cd21 ct21 oc22 kV22 dc22 pm22 cd22 ct22 oc23 kV23 dc23 pm23 cd23 ct23 oc24 kV24 dc24 pm24 cd24 ct24 oc25 kV25 dc25 pm25 cd25 ct25 oc26 kV26 dc26 pm26 cd26 ct26 oc27 kV27 dc27 pm27 cd27 ct27 oc28 kV28 dc28 pm28 cd28 ct28 oc29 kV29 dc29 pm29 cd29 ct29 oc30 kV30 dc30 pm30 cd30 ct30 oc31 kV31 dc31 pm31 cd31 ct31 oc32 kV32 dc32 pm32 cd32 ct32 oc33 kV33 dc33 pm33 cd33 ct33 oc34 kV34 dc34 pm34 cd34 ct34 oc35 kV35 dc35 pm35 cd35 ct35 : Value}
    {oC_Runs : Addr} (oa_Runs : PySem.W.nsIn K mainGlobals "Runs" = some (some (.ref oC_Runs)))
    (a0 : PySem.W.nsIn K mainGlobals "seen" = some (some (.ref f0))) (l0 : K.lookup f0 = some ⟨oc0, od0, .func (PySem.W.fnOf "seen" "seen" (defArgs s_seen) (defBody s_seen) (defScope s_seen) .none kV0 dc0 pm0 an0 cd0 ct0), sl0⟩) (c0 : PySem.W.codeIn K cd0 "seen" = true) (k0 : PySem.W.keepIn K (.ref f0) = true)
    (a1 : PySem.W.nsIn K mainGlobals "box_seen" = some (some (.ref f1))) (l1 : K.lookup f1 = some ⟨oc1, od1, .func (PySem.W.fnOf "box_seen" "box_seen" (defArgs s_box_seen) (defBody s_box_seen) (defScope s_box_seen) .none kV1 dc1 pm1 an1 cd1 ct1), sl1⟩) (c1 : PySem.W.codeIn K cd1 "box_seen" = true) (k1 : PySem.W.keepIn K (.ref f1) = true)
    (a2 : PySem.W.nsIn K mainGlobals "begins_with" = some (some (.ref f2))) (l2 : K.lookup f2 = some ⟨oc2, od2, .func (PySem.W.fnOf "begins_with" "begins_with" (defArgs s_begins_with) (defBody s_begins_with) (defScope s_begins_with) .none kV2 dc2 pm2 an2 cd2 ct2), sl2⟩) (c2 : PySem.W.codeIn K cd2 "begins_with" = true) (k2 : PySem.W.keepIn K (.ref f2) = true)
    (a3 : PySem.W.nsIn K mainGlobals "end_of" = some (some (.ref f3))) (l3 : K.lookup f3 = some ⟨oc3, od3, .func (PySem.W.fnOf "end_of" "end_of" (defArgs s_end_of) (defBody s_end_of) (defScope s_end_of) .none kV3 dc3 pm3 an3 cd3 ct3), sl3⟩) (c3 : PySem.W.codeIn K cd3 "end_of" = true) (k3 : PySem.W.keepIn K (.ref f3) = true)
    (a4 : PySem.W.nsIn K mainGlobals "opens" = some (some (.ref f4))) (l4 : K.lookup f4 = some ⟨oc4, od4, .func (PySem.W.fnOf "opens" "opens" (defArgs s_opens) (defBody s_opens) (defScope s_opens) .none kV4 dc4 pm4 an4 cd4 ct4), sl4⟩) (c4 : PySem.W.codeIn K cd4 "opens" = true) (k4 : PySem.W.keepIn K (.ref f4) = true)
    (a5 : PySem.W.nsIn K mainGlobals "boxes" = some (some (.ref f5))) (l5 : K.lookup f5 = some ⟨oc5, od5, .func (PySem.W.fnOf "boxes" "boxes" (defArgs s_boxes) (defBody s_boxes) (defScope s_boxes) .none kV5 dc5 pm5 an5 cd5 ct5), sl5⟩) (c5 : PySem.W.codeIn K cd5 "boxes" = true) (k5 : PySem.W.keepIn K (.ref f5) = true)
    (a6 : PySem.W.nsIn K mainGlobals "fitting_boxes" = some (some (.ref f6))) (l6 : K.lookup f6 = some ⟨oc6, od6, .func (PySem.W.fnOf "fitting_boxes" "fitting_boxes" (defArgs s_fitting_boxes) (defBody s_fitting_boxes) (defScope s_fitting_boxes) .none kV6 dc6 pm6 an6 cd6 ct6), sl6⟩) (c6 : PySem.W.codeIn K cd6 "fitting_boxes" = true) (k6 : PySem.W.keepIn K (.ref f6) = true)
    (a7 : PySem.W.nsIn K mainGlobals "boxes_behind" = some (some (.ref f7))) (l7 : K.lookup f7 = some ⟨oc7, od7, .func (PySem.W.fnOf "boxes_behind" "boxes_behind" (defArgs s_boxes_behind) (defBody s_boxes_behind) (defScope s_boxes_behind) .none kV7 dc7 pm7 an7 cd7 ct7), sl7⟩) (c7 : PySem.W.codeIn K cd7 "boxes_behind" = true) (k7 : PySem.W.keepIn K (.ref f7) = true)
    (a8 : PySem.W.nsIn K mainGlobals "rows_in" = some (some (.ref f8))) (l8 : K.lookup f8 = some ⟨oc8, od8, .func (PySem.W.fnOf "rows_in" "rows_in" (defArgs s_rows_in) (defBody s_rows_in) (defScope s_rows_in) .none kV8 dc8 pm8 an8 cd8 ct8), sl8⟩) (c8 : PySem.W.codeIn K cd8 "rows_in" = true) (k8 : PySem.W.keepIn K (.ref f8) = true)
    (a9 : PySem.W.nsIn K mainGlobals "runs_in" = some (some (.ref f9))) (l9 : K.lookup f9 = some ⟨oc9, od9, .func (PySem.W.fnOf "runs_in" "runs_in" (defArgs s_runs_in) (defBody s_runs_in) (defScope s_runs_in) .none kV9 dc9 pm9 an9 cd9 ct9), sl9⟩) (c9 : PySem.W.codeIn K cd9 "runs_in" = true) (k9 : PySem.W.keepIn K (.ref f9) = true)
    (a10 : PySem.W.nsIn K mainGlobals "begins_and_goes_on" = some (some (.ref f10))) (l10 : K.lookup f10 = some ⟨oc10, od10, .func (PySem.W.fnOf "begins_and_goes_on" "begins_and_goes_on" (defArgs s_begins_and_goes_on) (defBody s_begins_and_goes_on) (defScope s_begins_and_goes_on) .none kV10 dc10 pm10 an10 cd10 ct10), sl10⟩) (c10 : PySem.W.codeIn K cd10 "begins_and_goes_on" = true) (k10 : PySem.W.keepIn K (.ref f10) = true)
    (a11 : PySem.W.nsIn K mainGlobals "is_word" = some (some (.ref f11))) (l11 : K.lookup f11 = some ⟨oc11, od11, .func (PySem.W.fnOf "is_word" "is_word" (defArgs s_is_word) (defBody s_is_word) (defScope s_is_word) .none kV11 dc11 pm11 an11 cd11 ct11), sl11⟩) (c11 : PySem.W.codeIn K cd11 "is_word" = true) (k11 : PySem.W.keepIn K (.ref f11) = true)
    (a12 : PySem.W.nsIn K mainGlobals "runs_of" = some (some (.ref f12))) (l12 : K.lookup f12 = some ⟨oc12, od12, .func (PySem.W.fnOf "runs_of" "runs_of" (defArgs s_runs_of) (defBody s_runs_of) (defScope s_runs_of) .none kV12 dc12 pm12 an12 cd12 ct12), sl12⟩) (c12 : PySem.W.codeIn K cd12 "runs_of" = true) (k12 : PySem.W.keepIn K (.ref f12) = true)
    (a13 : PySem.W.nsIn K mainGlobals "read" = some (some (.ref f13))) (l13 : K.lookup f13 = some ⟨oc13, od13, .func (PySem.W.fnOf "read" "read" (defArgs s_read) (defBody s_read) (defScope s_read) .none kV13 dc13 pm13 an13 cd13 ct13), sl13⟩) (c13 : PySem.W.codeIn K cd13 "read" = true) (k13 : PySem.W.keepIn K (.ref f13) = true)
    (a14 : PySem.W.nsIn K mainGlobals "take_statement" = some (some (.ref f14))) (l14 : K.lookup f14 = some ⟨oc14, od14, .func (PySem.W.fnOf "take_statement" "take_statement" (defArgs s_take_statement) (defBody s_take_statement) (defScope s_take_statement) .none kV14 dc14 pm14 an14 cd14 ct14), sl14⟩) (c14 : PySem.W.codeIn K cd14 "take_statement" = true) (k14 : PySem.W.keepIn K (.ref f14) = true)
    (a15 : PySem.W.nsIn K mainGlobals "take_letter" = some (some (.ref f15))) (l15 : K.lookup f15 = some ⟨oc15, od15, .func (PySem.W.fnOf "take_letter" "take_letter" (defArgs s_take_letter) (defBody s_take_letter) (defScope s_take_letter) .none kV15 dc15 pm15 an15 cd15 ct15), sl15⟩) (c15 : PySem.W.codeIn K cd15 "take_letter" = true) (k15 : PySem.W.keepIn K (.ref f15) = true)
    (a16 : PySem.W.nsIn K mainGlobals "take_pair" = some (some (.ref f16))) (l16 : K.lookup f16 = some ⟨oc16, od16, .func (PySem.W.fnOf "take_pair" "take_pair" (defArgs s_take_pair) (defBody s_take_pair) (defScope s_take_pair) .none kV16 dc16 pm16 an16 cd16 ct16), sl16⟩) (c16 : PySem.W.codeIn K cd16 "take_pair" = true) (k16 : PySem.W.keepIn K (.ref f16) = true)
    (a17 : PySem.W.nsIn K mainGlobals "take_terms" = some (some (.ref f17))) (l17 : K.lookup f17 = some ⟨oc17, od17, .func (PySem.W.fnOf "take_terms" "take_terms" (defArgs s_take_terms) (defBody s_take_terms) (defScope s_take_terms) .none kV17 dc17 pm17 an17 cd17 ct17), sl17⟩) (c17 : PySem.W.codeIn K cd17 "take_terms" = true) (k17 : PySem.W.keepIn K (.ref f17) = true)
    (a18 : PySem.W.nsIn K mainGlobals "read_lines" = some (some (.ref f18))) (l18 : K.lookup f18 = some ⟨oc18, od18, .func (PySem.W.fnOf "read_lines" "read_lines" (defArgs s_read_lines) (defBody s_read_lines) (defScope s_read_lines) .none kV18 dc18 pm18 an18 cd18 ct18), sl18⟩) (c18 : PySem.W.codeIn K cd18 "read_lines" = true) (k18 : PySem.W.keepIn K (.ref f18) = true)
    (a19 : PySem.W.nsIn K mainGlobals "read_line" = some (some (.ref f19))) (l19 : K.lookup f19 = some ⟨oc19, od19, .func (PySem.W.fnOf "read_line" "read_line" (defArgs s_read_line) (defBody s_read_line) (defScope s_read_line) .none kV19 dc19 pm19 an19 cd19 ct19), sl19⟩) (c19 : PySem.W.codeIn K cd19 "read_line" = true) (k19 : PySem.W.keepIn K (.ref f19) = true)
    (a20 : PySem.W.nsIn K mainGlobals "is_rule" = some (some (.ref f20))) (l20 : K.lookup f20 = some ⟨oc20, od20, .func (PySem.W.fnOf "is_rule" "is_rule" (defArgs s_is_rule) (defBody s_is_rule) (defScope s_is_rule) .none kV20 dc20 pm20 an20 cd20 ct20), sl20⟩) (c20 : PySem.W.codeIn K cd20 "is_rule" = true) (k20 : PySem.W.keepIn K (.ref f20) = true)
    (a21 : PySem.W.nsIn K mainGlobals "read_statement" = some (some (.ref f21))) (l21 : K.lookup f21 = some ⟨oc21, od21, .func (PySem.W.fnOf "read_statement" "read_statement" (defArgs s_read_statement) (defBody s_read_statement) (defScope s_read_statement) .none kV21 dc21 pm21 an21 cd21 ct21), sl21⟩) (c21 : PySem.W.codeIn K cd21 "read_statement" = true) (k21 : PySem.W.keepIn K (.ref f21) = true)
    (a22 : PySem.W.nsIn K mainGlobals "read_ref" = some (some (.ref f22))) (l22 : K.lookup f22 = some ⟨oc22, od22, .func (PySem.W.fnOf "read_ref" "read_ref" (defArgs s_read_ref) (defBody s_read_ref) (defScope s_read_ref) .none kV22 dc22 pm22 an22 cd22 ct22), sl22⟩) (c22 : PySem.W.codeIn K cd22 "read_ref" = true) (k22 : PySem.W.keepIn K (.ref f22) = true)
    (a23 : PySem.W.nsIn K mainGlobals "_law_cell_at" = some (some (.ref f23))) (l23 : K.lookup f23 = some ⟨oc23, od23, .func (PySem.W.fnOf "_law_cell_at" "_law_cell_at" (defArgs s_cell_at_L) (defBody s_cell_at_L) (defScope s_cell_at_L) .none kV23 dc23 pm23 an23 cd23 ct23), sl23⟩) (c23 : PySem.W.codeIn K cd23 "_law_cell_at" = true) (k23 : PySem.W.keepIn K (.ref f23) = true)
    (a24 : PySem.W.nsIn K mainGlobals "_law_mixed" = some (some (.ref f24))) (l24 : K.lookup f24 = some ⟨oc24, od24, .func (PySem.W.fnOf "_law_mixed" "_law_mixed" (defArgs s_mixed_L) (defBody s_mixed_L) (defScope s_mixed_L) .none kV24 dc24 pm24 an24 cd24 ct24), sl24⟩) (c24 : PySem.W.codeIn K cd24 "_law_mixed" = true) (k24 : PySem.W.keepIn K (.ref f24) = true)
    (a25 : PySem.W.nsIn K mainGlobals "_law_level_by" = some (some (.ref f25))) (l25 : K.lookup f25 = some ⟨oc25, od25, .func (PySem.W.fnOf "_law_level_by" "_law_level_by" (defArgs s_level_by_L) (defBody s_level_by_L) (defScope s_level_by_L) .none kV25 dc25 pm25 an25 cd25 ct25), sl25⟩) (c25 : PySem.W.codeIn K cd25 "_law_level_by" = true) (k25 : PySem.W.keepIn K (.ref f25) = true)
    (a26 : PySem.W.nsIn K mainGlobals "_law_rules_by" = some (some (.ref f26))) (l26 : K.lookup f26 = some ⟨oc26, od26, .func (PySem.W.fnOf "_law_rules_by" "_law_rules_by" (defArgs s_rules_by_L) (defBody s_rules_by_L) (defScope s_rules_by_L) .none kV26 dc26 pm26 an26 cd26 ct26), sl26⟩) (c26 : PySem.W.codeIn K cd26 "_law_rules_by" = true) (k26 : PySem.W.keepIn K (.ref f26) = true)
    (a27 : PySem.W.nsIn K mainGlobals "_law_levels_by" = some (some (.ref f27))) (l27 : K.lookup f27 = some ⟨oc27, od27, .func (PySem.W.fnOf "_law_levels_by" "_law_levels_by" (defArgs s_levels_by_L) (defBody s_levels_by_L) (defScope s_levels_by_L) .none kV27 dc27 pm27 an27 cd27 ct27), sl27⟩) (c27 : PySem.W.codeIn K cd27 "_law_levels_by" = true) (k27 : PySem.W.keepIn K (.ref f27) = true)
    (a28 : PySem.W.nsIn K mainGlobals "_law_text_of" = some (some (.ref f28))) (l28 : K.lookup f28 = some ⟨oc28, od28, .func (PySem.W.fnOf "_law_text_of" "_law_text_of" (defArgs s_text_of_L) (defBody s_text_of_L) (defScope s_text_of_L) .none kV28 dc28 pm28 an28 cd28 ct28), sl28⟩) (c28 : PySem.W.codeIn K cd28 "_law_text_of" = true) (k28 : PySem.W.keepIn K (.ref f28) = true)
    (a29 : PySem.W.nsIn K mainGlobals "_law_closed_to" = some (some (.ref f29))) (l29 : K.lookup f29 = some ⟨oc29, od29, .func (PySem.W.fnOf "_law_closed_to" "_law_closed_to" (defArgs s_closed_to_L) (defBody s_closed_to_L) (defScope s_closed_to_L) .none kV29 dc29 pm29 an29 cd29 ct29), sl29⟩) (c29 : PySem.W.codeIn K cd29 "_law_closed_to" = true) (k29 : PySem.W.keepIn K (.ref f29) = true)
    (a30 : PySem.W.nsIn K mainGlobals "_law_lists_at" = some (some (.ref f30))) (l30 : K.lookup f30 = some ⟨oc30, od30, .func (PySem.W.fnOf "_law_lists_at" "_law_lists_at" (defArgs s_lists_at_L) (defBody s_lists_at_L) (defScope s_lists_at_L) .none kV30 dc30 pm30 an30 cd30 ct30), sl30⟩) (c30 : PySem.W.codeIn K cd30 "_law_lists_at" = true) (k30 : PySem.W.keepIn K (.ref f30) = true)
    (a31 : PySem.W.nsIn K mainGlobals "_law_seen_well" = some (some (.ref f31))) (l31 : K.lookup f31 = some ⟨oc31, od31, .func (PySem.W.fnOf "_law_seen_well" "_law_seen_well" (defArgs s_seen_well_L) (defBody s_seen_well_L) (defScope s_seen_well_L) .none kV31 dc31 pm31 an31 cd31 ct31), sl31⟩) (c31 : PySem.W.codeIn K cd31 "_law_seen_well" = true) (k31 : PySem.W.keepIn K (.ref f31) = true)
    (a32 : PySem.W.nsIn K mainGlobals "law" = some (some (.ref f32))) (l32 : K.lookup f32 = some ⟨oc32, od32, .func (PySem.W.fnOf "law" "law" (defArgs s_law) (defBody s_law) (defScope s_law) .none kV32 dc32 pm32 an32 cd32 ct32), sl32⟩) (c32 : PySem.W.codeIn K cd32 "law" = true) (k32 : PySem.W.keepIn K (.ref f32) = true)
    (a33 : PySem.W.findIn K (.ref oC_Runs) "__init__" = some (some (.ref f33))) (i33 : PySem.W.isFn K (.ref f33) = true) (l33 : K.lookup f33 = some ⟨oc33, od33, .func (PySem.W.fnOf "__init__" "Runs.__init__" (defArgs s_Runs_init) (defBody s_Runs_init) (defScope s_Runs_init) .none kV33 dc33 pm33 an33 cd33 ct33), sl33⟩) (c33 : PySem.W.codeIn K cd33 "Runs.__init__" = true) (k33 : PySem.W.keepIn K (.ref f33) = true)
    (a34 : PySem.W.findIn K (.ref oC_Runs) "take" = some (some (.ref f34))) (i34 : PySem.W.isFn K (.ref f34) = true) (l34 : K.lookup f34 = some ⟨oc34, od34, .func (PySem.W.fnOf "take" "Runs.take" (defArgs s_Runs_take) (defBody s_Runs_take) (defScope s_Runs_take) .none kV34 dc34 pm34 an34 cd34 ct34), sl34⟩) (c34 : PySem.W.codeIn K cd34 "Runs.take" = true) (k34 : PySem.W.keepIn K (.ref f34) = true)
    (a35 : PySem.W.findIn K (.ref oC_Runs) "want" = some (some (.ref f35))) (i35 : PySem.W.isFn K (.ref f35) = true) (l35 : K.lookup f35 = some ⟨oc35, od35, .func (PySem.W.fnOf "want" "Runs.want" (defArgs s_Runs_want) (defBody s_Runs_want) (defScope s_Runs_want) .none kV35 dc35 pm35 an35 cd35 ct35), sl35⟩) (c35 : PySem.W.codeIn K cd35 "Runs.want" = true) (k35 : PySem.W.keepIn K (.ref f35) = true)
    {p0 : Addr} {dd0 : Option Addr} {nn0 : Nat} {ss0 : Array (Option Value)} {u0_0 u0_1 u0_2 : Tok} (g0 : PySem.W.nsIn K mainGlobals "OPENING_RULES" = some (some (.ref p0))) (q0 : K.lookup p0 = some ⟨.type "tuple", dd0, .seq #[Value.str "guess" u0_0, Value.str "new" u0_1, Value.str "case" u0_2] nn0, ss0⟩)
    {t1 : Tok} (g1 : PySem.W.nsIn K mainGlobals "FIGURES" = some (some (.str "0123456789" t1)))
    {t2 : Tok} (g2 : PySem.W.nsIn K mainGlobals "MOST_FIGURES" = some (some (.int 4 t2)))
    {t3 : Tok} (g3 : PySem.W.nsIn K mainGlobals "SMALL" = some (some (.str "abcdefghijklmnopqrstuvwxyz" t3)))
    {t4 : Tok} (g4 : PySem.W.nsIn K mainGlobals "GREAT" = some (some (.str "ABCDEFGHIJKLMNOPQRSTUVWXYZ" t4)))
    {t5 : Tok} (g5 : PySem.W.nsIn K mainGlobals "SMALL_OR_FIGURE" = some (some (.str "abcdefghijklmnopqrstuvwxyz0123456789" t5)))
    {p6 : Addr} {dd6 : Option Addr} {nn6 : Nat} {ss6 : Array (Option Value)} {u6_0 u6_1 u6_2 u6_3 u6_4 u6_5 u6_6 : Tok} (g6 : PySem.W.nsIn K mainGlobals "KEPT_WORDS" = some (some (.ref p6))) (q6 : K.lookup p6 = some ⟨.type "tuple", dd6, .seq #[Value.str "not" u6_0, Value.str "and" u6_1, Value.str "or" u6_2, Value.str "then" u6_3, Value.str "all" u6_4, Value.str "some" u6_5, Value.str "false" u6_6] nn6, ss6⟩)
    {t7 : Tok} (g7 : PySem.W.nsIn K mainGlobals "MOST_SIGNS" = some (some (.int 8 t7)))
    {p8 : Addr} {dd8 : Option Addr} {nn8 : Nat} {ss8 : Array (Option Value)} {u8_0 u8_1 u8_2 : Tok} (g8 : PySem.W.nsIn K mainGlobals "PAIRS" = some (some (.ref p8))) (q8 : K.lookup p8 = some ⟨.type "tuple", dd8, .seq #[Value.str "and" u8_0, Value.str "or" u8_1, Value.str "then" u8_2] nn8, ss8⟩)
    {p9 : Addr} {dd9 : Option Addr} {nn9 : Nat} {ss9 : Array (Option Value)} {u9_0 u9_1 : Tok} (g9 : PySem.W.nsIn K mainGlobals "QUANTIFIERS" = some (some (.ref p9))) (q9 : K.lookup p9 = some ⟨.type "tuple", dd9, .seq #[Value.str "all" u9_0, Value.str "some" u9_1] nn9, ss9⟩)
    {t10 : Tok} (g10 : PySem.W.nsIn K mainGlobals "RUN_SIGNS" = some (some (.str "abcdefghijklmnopqrstuvwxyzABCDEFGHIJKLMNOPQRSTUVWXYZ0123456789" t10)))
    {t11 : Tok} (g11 : PySem.W.nsIn K mainGlobals "SINGLE_SIGNS" = some (some (.str "()," t11)))
    {t12 : Tok} (g12 : PySem.W.nsIn K mainGlobals "END" = some (some (.str "" t12)))
    {t13 : Tok} (g13 : PySem.W.nsIn K mainGlobals "MOST_TERMS" = some (some (.int 3 t13)))
    {t14 : Tok} (g14 : PySem.W.nsIn K mainGlobals "MOST_DEEP" = some (some (.int 40 t14)))
    (og_Runs : PySem.W.plainGet K oC_Runs Str.empty = true) (oh_Runs : PySem.W.hasDictIn K oC_Runs = true) (op_Runs : PySem.W.plainOver K oC_Runs = true) (os_Runs : PySem.W.findIn K (.ref oC_Runs) "__setattr__" = some (some (.builtin "object.__setattr__"))) (om_Runs : PySem.W.makesIn K oC_Runs = true) (ok_Runs : PySem.W.keepIn K (.ref oC_Runs) = true)
    (on_Runs_runs : PySem.W.findIn K (.ref oC_Runs) "runs" = some none)
    (on_Runs_place : PySem.W.findIn K (.ref oC_Runs) "place" = some none)
    {xnm0 xq0 : Str} {xC0 xN0 : Addr} {xbs0 : List Value} {xh0 : Bool} {xsn0 : List Str} {xsu0 : List Value} {xab0 : Bool} {xco0 : Option Bool} {xdd0 xod0 : Option Addr} {xka0 xkb0 xkc0 xkd0 xke0 : Option Value} {xoc0 : Value} {xes0 : List DictEntry} {xep0 : Nat} {xsl0 : Array (Option Value)}
    (xa0 : PySem.W.nsIn K mainGlobals "BoxError" = some (some (.ref xC0))) (xl0 : K.lookup xC0 = some (excClassObj xnm0 xq0 xC0 xN0 xbs0 ([.type "ValueError", .type "Exception", .type "BaseException", .type "object"]) xh0 xsn0 xsu0 xab0 xco0 xdd0 xka0 xkb0 xkc0 xkd0 xke0 "ValueError.__new__"))
    (xn0 : K.lookup xN0 = some ⟨xoc0, xod0, .dict (List.toArray xes0) xep0, xsl0⟩) (xy0 : (xes0.all fun e => match e.key with | .str _ _ => true | _ => false) = true) (xp0 : PySem.W.nsIn K xN0 "__init__" = some none) (xr0 : PySem.W.nsIn K xN0 "__getattribute__" = some none) (xu0 : PySem.W.nsIn K xN0 "__getattr__" = some none) (xv0 : PySem.W.nsIn K xN0 "__class__" = some none)
    {xnm1 xq1 : Str} {xC1 xN1 : Addr} {xbs1 : List Value} {xh1 : Bool} {xsn1 : List Str} {xsu1 : List Value} {xab1 : Bool} {xco1 : Option Bool} {xdd1 xod1 : Option Addr} {xka1 xkb1 xkc1 xkd1 xke1 : Option Value} {xoc1 : Value} {xes1 : List DictEntry} {xep1 : Nat} {xsl1 : Array (Option Value)}
    (xa1 : PySem.W.nsIn K mainGlobals "NoStatement" = some (some (.ref xC1))) (xl1 : K.lookup xC1 = some (excClassObj xnm1 xq1 xC1 xN1 xbs1 (Value.ref xC0 :: [.type "ValueError", .type "Exception", .type "BaseException", .type "object"]) xh1 xsn1 xsu1 xab1 xco1 xdd1 xka1 xkb1 xkc1 xkd1 xke1 "ValueError.__new__"))
    (xn1 : K.lookup xN1 = some ⟨xoc1, xod1, .dict (List.toArray xes1) xep1, xsl1⟩) (xy1 : (xes1.all fun e => match e.key with | .str _ _ => true | _ => false) = true) (xp1 : PySem.W.nsIn K xN1 "__init__" = some none) (xr1 : PySem.W.nsIn K xN1 "__getattribute__" = some none) (xu1 : PySem.W.nsIn K xN1 "__getattr__" = some none) (xv1 : PySem.W.nsIn K xN1 "__class__" = some none)
    {xnm2 xq2 : Str} {xC2 xN2 : Addr} {xbs2 : List Value} {xh2 : Bool} {xsn2 : List Str} {xsu2 : List Value} {xab2 : Bool} {xco2 : Option Bool} {xdd2 xod2 : Option Addr} {xka2 xkb2 xkc2 xkd2 xke2 : Option Value} {xoc2 : Value} {xes2 : List DictEntry} {xep2 : Nat} {xsl2 : Array (Option Value)}
    (xa2 : PySem.W.nsIn K mainGlobals "NoBox" = some (some (.ref xC2))) (xl2 : K.lookup xC2 = some (excClassObj xnm2 xq2 xC2 xN2 xbs2 (Value.ref xC0 :: [.type "ValueError", .type "Exception", .type "BaseException", .type "object"]) xh2 xsn2 xsu2 xab2 xco2 xdd2 xka2 xkb2 xkc2 xkd2 xke2 "ValueError.__new__"))
    (xn2 : K.lookup xN2 = some ⟨xoc2, xod2, .dict (List.toArray xes2) xep2, xsl2⟩) (xy2 : (xes2.all fun e => match e.key with | .str _ _ => true | _ => false) = true) (xp2 : PySem.W.nsIn K xN2 "__init__" = some none) (xr2 : PySem.W.nsIn K xN2 "__getattribute__" = some none) (xu2 : PySem.W.nsIn K xN2 "__getattr__" = some none) (xv2 : PySem.W.nsIn K xN2 "__class__" = some none)
    {xnm3 xq3 : Str} {xC3 xN3 : Addr} {xbs3 : List Value} {xh3 : Bool} {xsn3 : List Str} {xsu3 : List Value} {xab3 : Bool} {xco3 : Option Bool} {xdd3 xod3 : Option Addr} {xka3 xkb3 xkc3 xkd3 xke3 : Option Value} {xoc3 : Value} {xes3 : List DictEntry} {xep3 : Nat} {xsl3 : Array (Option Value)}
    (xa3 : PySem.W.nsIn K mainGlobals "NoLines" = some (some (.ref xC3))) (xl3 : K.lookup xC3 = some (excClassObj xnm3 xq3 xC3 xN3 xbs3 (Value.ref xC0 :: [.type "ValueError", .type "Exception", .type "BaseException", .type "object"]) xh3 xsn3 xsu3 xab3 xco3 xdd3 xka3 xkb3 xkc3 xkd3 xke3 "ValueError.__new__"))
    (xn3 : K.lookup xN3 = some ⟨xoc3, xod3, .dict (List.toArray xes3) xep3, xsl3⟩) (xy3 : (xes3.all fun e => match e.key with | .str _ _ => true | _ => false) = true) (xp3 : PySem.W.nsIn K xN3 "__init__" = some none) (xr3 : PySem.W.nsIn K xN3 "__getattribute__" = some none) (xu3 : PySem.W.nsIn K xN3 "__getattr__" = some none) (xv3 : PySem.W.nsIn K xN3 "__class__" = some none)
    (xm_NoStatement_NoStatement : PySem.W.mroIn K xC1 (.ref xC1) = some true) (xi_NoStatement_NoStatement : PySem.W.kitOne K (.ref xC1) (.ref xC1) = some true)
    (xm_NoLines_NoStatement : PySem.W.mroIn K xC3 (.ref xC1) = some false) (xi_NoLines_NoStatement : PySem.W.kitOne K (.ref xC3) (.ref xC1) = some false)
    (xm_NoBox_NoStatement : PySem.W.mroIn K xC2 (.ref xC1) = some false) (xi_NoBox_NoStatement : PySem.W.kitOne K (.ref xC2) (.ref xC1) = some false)
    (z_all : PySem.W.nsIn K mainGlobals "all" = some none)
    (z_enumerate : PySem.W.nsIn K mainGlobals "enumerate" = some none)
    (z_int : PySem.W.nsIn K mainGlobals "int" = some none)
    (z_isinstance : PySem.W.nsIn K mainGlobals "isinstance" = some none)
    (z_len : PySem.W.nsIn K mainGlobals "len" = some none)
    (z_max : PySem.W.nsIn K mainGlobals "max" = some none)
    (z_min : PySem.W.nsIn K mainGlobals "min" = some none)
    (z_range : PySem.W.nsIn K mainGlobals "range" = some none)
    (z_tuple : PySem.W.nsIn K mainGlobals "tuple" = some none)
    (OK : ∀ (P : Program) (D : Defs) (base : Heap), Tx K mg D → FnOk P w K mg base CX0 9 D.a_law D.d_law ["_law_script"] (spLaw K)) :
    ∃ fd : FuncData, (∀ (s : Shared) (v : Value), BindsTo s fd ⟨[v], []⟩ [("_law_script", v)]) ∧ ∀ base : Heap, K.In base → base.Ns mainGlobals mg → FnOk l.prog w K mg base CX0 9 fa fd ["_law_script"] (spLaw K) := by
  have e := hfa.symm.trans (PySem.W.mg_of X G a32)
  cases e
  have F0 := fun_mk (st := s_seen) l0 c0 k0
  have b0 := F0.binds (ps := ["paths", "k", "i"]) fun _ _ _ _ _ _ us hl => match us, hl with | [_, _, _], _ => rfl
  have F1 := fun_mk (st := s_box_seen) l1 c1 k1
  have b1 := F1.binds (ps := ["paths", "k", "b"]) fun _ _ _ _ _ _ us hl => match us, hl with | [_, _, _], _ => rfl
  have F2 := fun_mk (st := s_begins_with) l2 c2 k2
  have b2 := F2.binds (ps := ["path", "beginning"]) fun _ _ _ _ _ _ us hl => match us, hl with | [_, _], _ => rfl
  have F3 := fun_mk (st := s_end_of) l3 c3 k3
  have b3 := F3.binds (ps := ["paths", "b"]) fun _ _ _ _ _ _ us hl => match us, hl with | [_, _], _ => rfl
  have F4 := fun_mk (st := s_opens) l4 c4 k4
  have b4 := F4.binds (ps := ["rule"]) fun _ _ _ _ _ _ us hl => match us, hl with | [_], _ => rfl
  have F5 := fun_mk (st := s_boxes) l5 c5 k5
  have b5 := F5.binds (ps := ["lines"]) fun _ _ _ _ _ _ us hl => match us, hl with | [_], _ => rfl
  have F6 := fun_mk (st := s_fitting_boxes) l6 c6 k6
  have b6 := F6.binds (ps := ["lines"]) fun _ _ _ _ _ _ us hl => match us, hl with | [_], _ => rfl
  have F7 := fun_mk (st := s_boxes_behind) l7 c7 k7
  have b7 := F7.binds (ps := ["path", "line", "k"]) fun _ _ _ _ _ _ us hl => match us, hl with | [_, _, _], _ => rfl
  have F8 := fun_mk (st := s_rows_in) l8 c8 k8
  have b8 := F8.binds (ps := ["text"]) fun _ _ _ _ _ _ us hl => match us, hl with | [_], _ => rfl
  have F9 := fun_mk (st := s_runs_in) l9 c9 k9
  have b9 := F9.binds (ps := ["row"]) fun _ _ _ _ _ _ us hl => match us, hl with | [_], _ => rfl
  have F10 := fun_mk (st := s_begins_and_goes_on) l10 c10 k10
  have b10 := F10.binds (ps := ["text", "first_signs"]) fun _ _ _ _ _ _ us hl => match us, hl with | [_, _], _ => rfl
  have F11 := fun_mk (st := s_is_word) l11 c11 k11
  have b11 := F11.binds (ps := ["text"]) fun _ _ _ _ _ _ us hl => match us, hl with | [_], _ => rfl
  have F12 := fun_mk (st := s_runs_of) l12 c12 k12
  have b12 := F12.binds (ps := ["text"]) fun _ _ _ _ _ _ us hl => match us, hl with | [_], _ => rfl
  have F13 := fun_mk (st := s_read) l13 c13 k13
  have b13 := F13.binds (ps := ["text"]) fun _ _ _ _ _ _ us hl => match us, hl with | [_], _ => rfl
  have F14 := fun_mk (st := s_take_statement) l14 c14 k14
  have b14 := F14.binds (ps := ["runs", "room"]) fun _ _ _ _ _ _ us hl => match us, hl with | [_, _], _ => rfl
  have F15 := fun_mk (st := s_take_letter) l15 c15 k15
  have b15 := F15.binds (ps := ["runs"]) fun _ _ _ _ _ _ us hl => match us, hl with | [_], _ => rfl
  have F16 := fun_mk (st := s_take_pair) l16 c16 k16
  have b16 := F16.binds (ps := ["runs", "room"]) fun _ _ _ _ _ _ us hl => match us, hl with | [_, _], _ => rfl
  have F17 := fun_mk (st := s_take_terms) l17 c17 k17
  have b17 := F17.binds (ps := ["runs"]) fun _ _ _ _ _ _ us hl => match us, hl with | [_], _ => rfl
  have F18 := fun_mk (st := s_read_lines) l18 c18 k18
  have b18 := F18.binds (ps := ["text"]) fun _ _ _ _ _ _ us hl => match us, hl with | [_], _ => rfl
  have F19 := fun_mk (st := s_read_line) l19 c19 k19
  have b19 := F19.binds (ps := ["row"]) fun _ _ _ _ _ _ us hl => match us, hl with | [_], _ => rfl
  have F20 := fun_mk (st := s_is_rule) l20 c20 k20
  have b20 := F20.binds (ps := ["text"]) fun _ _ _ _ _ _ us hl => match us, hl with | [_], _ => rfl
  have F21 := fun_mk (st := s_read_statement) l21 c21 k21
  have b21 := F21.binds (ps := ["text", "rule"]) fun _ _ _ _ _ _ us hl => match us, hl with | [_, _], _ => rfl
  have F22 := fun_mk (st := s_read_ref) l22 c22 k22
  have b22 := F22.binds (ps := ["run"]) fun _ _ _ _ _ _ us hl => match us, hl with | [_], _ => rfl
  have F23 := fun_mk (st := s_cell_at_L) l23 c23 k23
  have b23 := F23.binds (ps := ["_law_script", "_law_k"]) fun _ _ _ _ _ _ us hl => match us, hl with | [_, _], _ => rfl
  have F24 := fun_mk (st := s_mixed_L) l24 c24 k24
  have b24 := F24.binds (ps := ["_law_script", "_law_k"]) fun _ _ _ _ _ _ us hl => match us, hl with | [_, _], _ => rfl
  have F25 := fun_mk (st := s_level_by_L) l25 c25 k25
  have b25 := F25.binds (ps := ["_law_number", "_law_room", "_law_opener"]) fun _ _ _ _ _ _ us hl => match us, hl with | [_, _, _], _ => rfl
  have F26 := fun_mk (st := s_rules_by_L) l26 c26 k26
  have b26 := F26.binds (ps := ["_law_script"]) fun _ _ _ _ _ _ us hl => match us, hl with | [_], _ => rfl
  have F27 := fun_mk (st := s_levels_by_L) l27 c27 k27
  have b27 := F27.binds (ps := ["_law_script", "_law_rules"]) fun _ _ _ _ _ _ us hl => match us, hl with | [_, _], _ => rfl
  have F28 := fun_mk (st := s_text_of_L) l28 c28 k28
  have b28 := F28.binds (ps := ["_law_rules", "_law_levels"]) fun _ _ _ _ _ _ us hl => match us, hl with | [_, _], _ => rfl
  have F29 := fun_mk (st := s_closed_to_L) l29 c29 k29
  have b29 := F29.binds (ps := ["_law_lists", "_law_kept"]) fun _ _ _ _ _ _ us hl => match us, hl with | [_, _], _ => rfl
  have F30 := fun_mk (st := s_lists_at_L) l30 c30 k30
  have b30 := F30.binds (ps := ["_law_rules", "_law_levels", "_law_k"]) fun _ _ _ _ _ _ us hl => match us, hl with | [_, _, _], _ => rfl
  have F31 := fun_mk (st := s_seen_well_L) l31 c31 k31
  have b31 := F31.binds (ps := ["_law_paths", "_law_rules", "_law_levels", "_law_k"]) fun _ _ _ _ _ _ us hl => match us, hl with | [_, _, _, _], _ => rfl
  have F32 := fun_mk (st := s_law) l32 c32 k32
  have b32 := F32.binds (ps := ["_law_script"]) fun _ _ _ _ _ _ us hl => match us, hl with | [_], _ => rfl
  have F33 := fun_mk (st := s_Runs_init) l33 c33 k33
  have b33 := F33.binds (ps := ["self", "runs"]) fun _ _ _ _ _ _ us hl => match us, hl with | [_, _], _ => rfl
  have F34 := fun_mk (st := s_Runs_take) l34 c34 k34
  have b34 := F34.binds (ps := ["self"]) fun _ _ _ _ _ _ us hl => match us, hl with | [_], _ => rfl
  have F35 := fun_mk (st := s_Runs_want) l35 c35 k35
  have b35 := F35.binds (ps := ["self", "wanted"]) fun _ _ _ _ _ _ us hl => match us, hl with | [_, _], _ => rfl
  let D : Defs := ⟨f0, PySem.W.fnOf "seen" "seen" (defArgs s_seen) (defBody s_seen) (defScope s_seen) .none kV0 dc0 pm0 an0 cd0 ct0, f1, PySem.W.fnOf "box_seen" "box_seen" (defArgs s_box_seen) (defBody s_box_seen) (defScope s_box_seen) .none kV1 dc1 pm1 an1 cd1 ct1, f2, PySem.W.fnOf "begins_with" "begins_with" (defArgs s_begins_with) (defBody s_begins_with) (defScope s_begins_with) .none kV2 dc2 pm2 an2 cd2 ct2, f3, PySem.W.fnOf "end_of" "end_of" (defArgs s_end_of) (defBody s_end_of) (defScope s_end_of) .none kV3 dc3 pm3 an3 cd3 ct3, f4, PySem.W.fnOf "opens" "opens" (defArgs s_opens) (defBody s_opens) (defScope s_opens) .none kV4 dc4 pm4 an4 cd4 ct4, f5, PySem.W.fnOf "boxes" "boxes" (defArgs s_boxes) (defBody s_boxes) (defScope s_boxes) .none kV5 dc5 pm5 an5 cd5 ct5, f6, PySem.W.fnOf "fitting_boxes" "fitting_boxes" (defArgs s_fitting_boxes) (defBody s_fitting_boxes) (defScope s_fitting_boxes) .none kV6 dc6 pm6 an6 cd6 ct6, f7, PySem.W.fnOf "boxes_behind" "boxes_behind" (defArgs s_boxes_behind) (defBody s_boxes_behind) (defScope s_boxes_behind) .none kV7 dc7 pm7 an7 cd7 ct7, f8, PySem.W.fnOf "rows_in" "rows_in" (defArgs s_rows_in) (defBody s_rows_in) (defScope s_rows_in) .none kV8 dc8 pm8 an8 cd8 ct8, f9, PySem.W.fnOf "runs_in" "runs_in" (defArgs s_runs_in) (defBody s_runs_in) (defScope s_runs_in) .none kV9 dc9 pm9 an9 cd9 ct9, f10, PySem.W.fnOf "begins_and_goes_on" "begins_and_goes_on" (defArgs s_begins_and_goes_on) (defBody s_begins_and_goes_on) (defScope s_begins_and_goes_on) .none kV10 dc10 pm10 an10 cd10 ct10, f11, PySem.W.fnOf "is_word" "is_word" (defArgs s_is_word) (defBody s_is_word) (defScope s_is_word) .none kV11 dc11 pm11 an11 cd11 ct11, f12, PySem.W.fnOf "runs_of" "runs_of" (defArgs s_runs_of) (defBody s_runs_of) (defScope s_runs_of) .none kV12 dc12 pm12 an12 cd12 ct12, f13, PySem.W.fnOf "read" "read" (defArgs s_read) (defBody s_read) (defScope s_read) .none kV13 dc13 pm13 an13 cd13 ct13, f14, PySem.W.fnOf "take_statement" "take_statement" (defArgs s_take_statement) (defBody s_take_statement) (defScope s_take_statement) .none kV14 dc14 pm14 an14 cd14 ct14, f15, PySem.W.fnOf "take_letter" "take_letter" (defArgs s_take_letter) (defBody s_take_letter) (defScope s_take_letter) .none kV15 dc15 pm15 an15 cd15 ct15, f16, PySem.W.fnOf "take_pair" "take_pair" (defArgs s_take_pair) (defBody s_take_pair) (defScope s_take_pair) .none kV16 dc16 pm16 an16 cd16 ct16, f17, PySem.W.fnOf "take_terms" "take_terms" (defArgs s_take_terms) (defBody s_take_terms) (defScope s_take_terms) .none kV17 dc17 pm17 an17 cd17 ct17, f18, PySem.W.fnOf "read_lines" "read_lines" (defArgs s_read_lines) (defBody s_read_lines) (defScope s_read_lines) .none kV18 dc18 pm18 an18 cd18 ct18, f19, PySem.W.fnOf "read_line" "read_line" (defArgs s_read_line) (defBody s_read_line) (defScope s_read_line) .none kV19 dc19 pm19 an19 cd19 ct19, f20, PySem.W.fnOf "is_rule" "is_rule" (defArgs s_is_rule) (defBody s_is_rule) (defScope s_is_rule) .none kV20 dc20 pm20 an20 cd20 ct20, f21, PySem.W.fnOf "read_statement" "read_statement" (defArgs s_read_statement) (defBody s_read_statement) (defScope s_read_statement) .none kV21 dc21 pm21 an21 cd21 ct21, f22, PySem.W.fnOf "read_ref" "read_ref" (defArgs s_read_ref) (defBody s_read_ref) (defScope s_read_ref) .none kV22 dc22 pm22 an22 cd22 ct22, f23, PySem.W.fnOf "_law_cell_at" "_law_cell_at" (defArgs s_cell_at_L) (defBody s_cell_at_L) (defScope s_cell_at_L) .none kV23 dc23 pm23 an23 cd23 ct23, f24, PySem.W.fnOf "_law_mixed" "_law_mixed" (defArgs s_mixed_L) (defBody s_mixed_L) (defScope s_mixed_L) .none kV24 dc24 pm24 an24 cd24 ct24, f25, PySem.W.fnOf "_law_level_by" "_law_level_by" (defArgs s_level_by_L) (defBody s_level_by_L) (defScope s_level_by_L) .none kV25 dc25 pm25 an25 cd25 ct25, f26, PySem.W.fnOf "_law_rules_by" "_law_rules_by" (defArgs s_rules_by_L) (defBody s_rules_by_L) (defScope s_rules_by_L) .none kV26 dc26 pm26 an26 cd26 ct26, f27, PySem.W.fnOf "_law_levels_by" "_law_levels_by" (defArgs s_levels_by_L) (defBody s_levels_by_L) (defScope s_levels_by_L) .none kV27 dc27 pm27 an27 cd27 ct27, f28, PySem.W.fnOf "_law_text_of" "_law_text_of" (defArgs s_text_of_L) (defBody s_text_of_L) (defScope s_text_of_L) .none kV28 dc28 pm28 an28 cd28 ct28, f29, PySem.W.fnOf "_law_closed_to" "_law_closed_to" (defArgs s_closed_to_L) (defBody s_closed_to_L) (defScope s_closed_to_L) .none kV29 dc29 pm29 an29 cd29 ct29, f30, PySem.W.fnOf "_law_lists_at" "_law_lists_at" (defArgs s_lists_at_L) (defBody s_lists_at_L) (defScope s_lists_at_L) .none kV30 dc30 pm30 an30 cd30 ct30, f31, PySem.W.fnOf "_law_seen_well" "_law_seen_well" (defArgs s_seen_well_L) (defBody s_seen_well_L) (defScope s_seen_well_L) .none kV31 dc31 pm31 an31 cd31 ct31, fa, PySem.W.fnOf "law" "law" (defArgs s_law) (defBody s_law) (defScope s_law) .none kV32 dc32 pm32 an32 cd32 ct32, f33, PySem.W.fnOf "__init__" "Runs.__init__" (defArgs s_Runs_init) (defBody s_Runs_init) (defScope s_Runs_init) .none kV33 dc33 pm33 an33 cd33 ct33, f34, PySem.W.fnOf "take" "Runs.take" (defArgs s_Runs_take) (defBody s_Runs_take) (defScope s_Runs_take) .none kV34 dc34 pm34 an34 cd34 ct34, f35, PySem.W.fnOf "want" "Runs.want" (defArgs s_Runs_want) (defBody s_Runs_want) (defScope s_Runs_want) .none kV35 dc35 pm35 an35 cd35 ct35, p0, p6, p8, p9, xC0, xC1, xC2, xC3, oC_Runs⟩
  have T : Tx K mg D := ⟨F0, PySem.W.mg_of X G a0, b0, F1, PySem.W.mg_of X G a1, b1, F2, PySem.W.mg_of X G a2, b2, F3, PySem.W.mg_of X G a3, b3, F4, PySem.W.mg_of X G a4, b4, F5, PySem.W.mg_of X G a5, b5, F6, PySem.W.mg_of X G a6, b6, F7, PySem.W.mg_of X G a7, b7, F8, PySem.W.mg_of X G a8, b8, F9, PySem.W.mg_of X G a9, b9, F10, PySem.W.mg_of X G a10, b10, F11, PySem.W.mg_of X G a11, b11, F12, PySem.W.mg_of X G a12, b12, F13, PySem.W.mg_of X G a13, b13, F14, PySem.W.mg_of X G a14, b14, F15, PySem.W.mg_of X G a15, b15, F16, PySem.W.mg_of X G a16, b16, F17, PySem.W.mg_of X G a17, b17, F18, PySem.W.mg_of X G a18, b18, F19, PySem.W.mg_of X G a19, b19, F20, PySem.W.mg_of X G a20, b20, F21, PySem.W.mg_of X G a21, b21, F22, PySem.W.mg_of X G a22, b22, F23, PySem.W.mg_of X G a23, b23, F24, PySem.W.mg_of X G a24, b24, F25, PySem.W.mg_of X G a25, b25, F26, PySem.W.mg_of X G a26, b26, F27, PySem.W.mg_of X G a27, b27, F28, PySem.W.mg_of X G a28, b28, F29, PySem.W.mg_of X G a29, b29, F30, PySem.W.mg_of X G a30, b30, F31, PySem.W.mg_of X G a31, b31, F32, PySem.W.mg_of X G a32, b32, F33, ⟨a33, i33, k33⟩, b33, F34, ⟨a34, i34, k34⟩, b34, F35, ⟨a35, i35, k35⟩, b35, PySem.W.mg_of X G g0, fun H => .inr ⟨_, _, _, q0, rfl, rfl, (by show 3 ≤ sizeLine; decide), (.cons ⟨_, rfl⟩ (.cons ⟨_, rfl⟩ (.cons ⟨_, rfl⟩ .nil)))⟩, ⟨_, PySem.W.mg_of X G g1⟩, ⟨_, PySem.W.mg_of X G g2⟩, ⟨_, PySem.W.mg_of X G g3⟩, ⟨_, PySem.W.mg_of X G g4⟩, ⟨_, PySem.W.mg_of X G g5⟩, PySem.W.mg_of X G g6, fun H => .inr ⟨_, _, _, q6, rfl, rfl, (by show 7 ≤ sizeLine; decide), (.cons ⟨_, rfl⟩ (.cons ⟨_, rfl⟩ (.cons ⟨_, rfl⟩ (.cons ⟨_, rfl⟩ (.cons ⟨_, rfl⟩ (.cons ⟨_, rfl⟩ (.cons ⟨_, rfl⟩ .nil)))))))⟩, ⟨_, PySem.W.mg_of X G g7⟩, PySem.W.mg_of X G g8, fun H => .inr ⟨_, _, _, q8, rfl, rfl, (by show 3 ≤ sizeLine; decide), (.cons ⟨_, rfl⟩ (.cons ⟨_, rfl⟩ (.cons ⟨_, rfl⟩ .nil)))⟩, PySem.W.mg_of X G g9, fun H => .inr ⟨_, _, _, q9, rfl, rfl, (by show 2 ≤ sizeLine; decide), (.cons ⟨_, rfl⟩ (.cons ⟨_, rfl⟩ .nil))⟩, ⟨_, PySem.W.mg_of X G g10⟩, ⟨_, PySem.W.mg_of X G g11⟩, ⟨_, PySem.W.mg_of X G g12⟩, ⟨_, PySem.W.mg_of X G g13⟩, ⟨_, PySem.W.mg_of X G g14⟩, PySem.W.mg_none_of X G z_all, PySem.W.mg_none_of X G z_enumerate, PySem.W.mg_none_of X G z_int, PySem.W.mg_none_of X G z_isinstance, PySem.W.mg_none_of X G z_len, PySem.W.mg_none_of X G z_max, PySem.W.mg_none_of X G z_min, PySem.W.mg_none_of X G z_range, PySem.W.mg_none_of X G z_tuple, xcls0 (PySem.W.mg_of X G xa0) xl0 ⟨⟨_, _, _, _, _, xn0, xy0⟩, xp0, xr0, xu0, xv0⟩, xcls1 (PySem.W.mg_of X G xa1) xl1 ⟨⟨_, _, _, _, _, xn1, xy1⟩, xp1, xr1, xu1, xv1⟩ xl0 ⟨⟨_, _, _, _, _, xn0, xy0⟩, xp0, xr0, xu0, xv0⟩, xcls1 (PySem.W.mg_of X G xa2) xl2 ⟨⟨_, _, _, _, _, xn2, xy2⟩, xp2, xr2, xu2, xv2⟩ xl0 ⟨⟨_, _, _, _, _, xn0, xy0⟩, xp0, xr0, xu0, xv0⟩, xcls1 (PySem.W.mg_of X G xa3) xl3 ⟨⟨_, _, _, _, _, xn3, xy3⟩, xp3, xr3, xu3, xv3⟩ xl0 ⟨⟨_, _, _, _, _, xn0, xy0⟩, xp0, xr0, xu0, xv0⟩, PySem.W.mg_of X G oa_Runs, ⟨og_Runs, oh_Runs, op_Runs, os_Runs⟩, ⟨om_Runs, a33, i33, ok_Runs⟩, on_Runs_runs, on_Runs_place, subx_of xl1 xl1 rfl xm_NoStatement_NoStatement, xi_NoStatement_NoStatement, subx_of xl3 xl1 rfl xm_NoLines_NoStatement, xi_NoLines_NoStatement, subx_of xl2 xl1 rfl xm_NoBox_NoStatement, xi_NoBox_NoStatement⟩
  exact ⟨_, fun s v => .of_eq rfl, fun base _ _ => OK l.prog D base T⟩
theorem walk {l : PySem.W.OpenLaw} {q : Program} {loose : List Str} {XP : (Str → Option Value) → Heap → Prop} {YP : World → Heap → Prop} {d : DefRec} {K : Params → PySem.W.Frag} (hn : l.most = some 63) (hdf : d.params.defaults = [])
    (hY : ∀ (w : World) (h : Heap), YP w h → (K w.params).In h)
    (F : ∀ (w : World) (mg : Str → Option Value) (fa : Addr) (h : Heap), (K w.params).In h → h.Ns mainGlobals mg → mg d.name = some (.ref fa) →
      ∃ fd : FuncData, (∀ (s : Shared) (u : Value), BindsTo s fd ⟨[u], []⟩ [("_law_script", u)]) ∧ ∀ base : Heap, (K w.params).In base → base.Ns mainGlobals mg → FnOk l.prog w (K w.params) mg base CX0 9 fa fd ["_law_script"] (spLaw (K w.params))) :
    PySem.W.WalkO q loose XP YP l.row.toRowW d [] (fun f vs => PySem.call f vs) :=
  L2.walk_of (n := 63) (k := 9) (x := "_law_script") (CX := fun _ => CX0) (sp := fun w => spLaw (K w.params)) hn (by decide) hdf ⟨rfl, by decide, by decide, rfl⟩ hY F (fun _ _ a ns hl _ hS => ⟨a, ns, rfl, hS, hl, fun _ => rfl⟩) fun _ _ _ _ _ z => z
end K28
namespace PySem.W.Fast
def tw13254536592531625477 := 0
def tw11861551658399801724 := 0
def tw16995041857235116545 := 0
def tw12872578221642696882 := 0
def tw12099034861428830810 := 0
def tw4231268752559112698 := 0
def tw17984527457358138211 := 0
def tw4120308754139150417 := 0
def tw14365812927653741199 := 0
def tw5101517524153069261 := 0
def tw875326899254472506 := 0
def tw11339850316468233393 := 0
def tw13683423903491335418 := 0
def tw8012511162459246624 := 0
def tw16694582322136527975 := 0
def tw3145967131125803457 := 0
def tw10214047632335123635 := 0
def tw1433643107655313574 := 0
def tw10670872615343073573 := 0
def tw7557796825764025692 := 0
def tw12559584922452331551 := 0
def tw9909967624572442151 := 0
def tw7431792725394453745 := 0
def tw13141706333232278131 := 0
def tw2404773004642651581 := 0
def tw1114810620951182958 := 0
def tw2296992015419861155 := 0
def tw5203911482987793451 := 0
def tw9115794449901590817 := 0
def tw2452585270068788342 := 0
def tw15122294629931668314 := 0
def tw18295216057315975356 := 0
def tw8514618541329964569 := 0
def tw3395480055588121768 := 0
def tw3241719766011545240 := 0
def tw7550302320128675605 := 0
def tw4424413027715650836 := 0
def tw13565087551657390832 := 0
def tw10206774572594151598 := 0
def tw10444473589718243195 := 0
def tw1115560466303362279 := 0
def tw123334165191390038 := 0
def tw15189245204878387053 := 0
def tw8999714161833939792 := 0
def tw12767782179484644164 := 0
def tw18255441057895909903 := 0
def tw6664440482353785537 := 0
def tw1703260753745298114 := 0
def tw2505915190043823462 := 0
def tw9381151180664542476 := 0
def tw4795516494497109563 := 0
def tw7924053617977503996 := 0
def tw14346886138198768782 := 0
def tw13732276988054981104 := 0
def tw10831491971590864672 := 0
def tw7211691293380259478 := 0
def tw15309139366106831906 := 0
def tw130328271827745037 := 0
def tw5106883721287880793 := 0
def tw5214068013639187122 := 0
def tw15685812150764666030 := 0
def tw17621944184469004593 := 0
def tw1555466444037809665 := 0
def tw17535433629119353433 := 0
def tw495277930326063864 := 0
def tw7070421390140696930 := 0
def tw5892295310140503952 := 0
def tw4819893292278063607 := 0
def tw12965921318624693732 := 0
def tw14173884058026881025 := 0
def tw15729008041258693540 := 0
def tw9314645531980221098 := 0
def tw9423416771704358833 := 0
def tw2070186996802626243 := 0
def tw16394474416933906693 := 0
def tw4664568331071164910 := 0
def tw10751823190383468491 := 0
def tw6133481809048184632 := 0
def tw4109891025199734218 := 0
def tw10063860754512954135 := 0
def tw149667862959813868 := 0
def tw9186201544956530450 := 0
def tw16189253969875671287 := 0
def tw839832372919693053 := 0
def tw8676999118234400273 := 0
def tw13975315321822224439 := 0
def tw17855330293514544733 := 0
def tw3608027606631703959 := 0
def tw17166754728895384185 := 0
def tw16630574921456746462 := 0
def tw12211715479737796772 := 0
def tw12392591856979092618 := 0
def tw15628370472972284918 := 0
def tw10368533125125754423 := 0
def tw14081285559754212369 := 0
def tw982768716329228052 := 0
def tw16674111490306247697 := 0
def tw5211820911043563768 := 0
def tw10386557590079444139 := 0
def tw10440310440937834899 := 0
def tw1053324501005765784 := 0
def tw9022774680967877856 := 0
def tw5606668466269323651 := 0
def tw8156105856040204272 := 0
def tw16663312205003028803 := 0
def tw466458848003494202 := 0
def tw7056764541980624067 := 0
def tw17864968290944255705 := 0
def tw11472395569757255417 := 0
def tw13256036812861403164 := 0
def tw16773513722728912293 := 0
def tw7389413183011445929 := 0
def tw16498083462820891903 := 0
def tw7074260385814583471 := 0
def tw16311556000220633117 := 0
def tw11541348075552098472 := 0
def tw12504589239751465713 := 0
def tw9565534665810550415 := 0
def tw16737141058624160938 := 0
def tw11486967398515525908 := 0
def tw15604543802929603167 := 0
def tw9241069633298796205 := 0
def tw5988395142403464942 := 0
def tw9614225412757559993 := 0
def tw14460899297526085865 := 0
def tw5768941344471447011 := 0
def tw10855644292930034921 := 0
def tw3755661974845717001 := 0
def tw8213619601560379217 := 0
def tw14882184105740145620 := 0
def tw5786838732727410056 := 0
end PySem.W.Fast
open PySem PySem.W PyProof.Rows
set_option maxRecDepth 100000 in
set_option maxHeartbeats 0 in
theorem PySem.Challenge.cw_boxproof_k28_whole_what_is_seen_holds : PySem.Challenge.rw_boxproof_k28_whole_what_is_seen.Holds := by
  w_on; o_law; k_head; (case hw => w_witness2)
  k_fill
  refine K28.walk (l := PySem.Challenge.rw_boxproof_k28_whole_what_is_seen) rfl rfl (fun w h Y => PySem.W.kIn_of Y) ?F
  case F =>
    intro w mg fa h KX G hmg
    refine' K28.all_mk KX G hmg ?bpoa_Runs ?bpa0 ?bpl0 ?bpc0 ?bpk0 ?bpa1 ?bpl1 ?bpc1 ?bpk1 ?bpa2 ?bpl2 ?bpc2 ?bpk2 ?bpa3 ?bpl3 ?bpc3 ?bpk3 ?bpa4 ?bpl4 ?bpc4 ?bpk4 ?bpa5 ?bpl5 ?bpc5 ?bpk5 ?bpa6 ?bpl6 ?bpc6 ?bpk6 ?bpa7 ?bpl7 ?bpc7 ?bpk7 ?bpa8 ?bpl8 ?bpc8 ?bpk8 ?bpa9 ?bpl9 ?bpc9 ?bpk9 ?bpa10 ?bpl10 ?bpc10 ?bpk10 ?bpa11 ?bpl11 ?bpc11 ?bpk11 ?bpa12 ?bpl12 ?bpc12 ?bpk12 ?bpa13 ?bpl13 ?bpc13 ?bpk13 ?bpa14 ?bpl14 ?bpc14 ?bpk14 ?bpa15 ?bpl15 ?bpc15 ?bpk15 ?bpa16 ?bpl16 ?bpc16 ?bpk16 ?bpa17 ?bpl17 ?bpc17 ?bpk17 ?bpa18 ?bpl18 ?bpc18 ?bpk18 ?bpa19 ?bpl19 ?bpc19 ?bpk19 ?bpa20 ?bpl20 ?bpc20 ?bpk20 ?bpa21 ?bpl21 ?bpc21 ?bpk21 ?bpa22 ?bpl22 ?bpc22 ?bpk22 ?bpa23 ?bpl23 ?bpc23 ?bpk23 ?bpa24 ?bpl24 ?bpc24 ?bpk24 ?bpa25 ?bpl25 ?bpc25 ?bpk25 ?bpa26 ?bpl26 ?bpc26 ?bpk26 ?bpa27 ?bpl27 ?bpc27 ?bpk27 ?bpa28 ?bpl28 ?bpc28 ?bpk28 ?bpa29 ?bpl29 ?bpc29 ?bpk29 ?bpa30 ?bpl30 ?bpc30 ?bpk30 ?bpa31 ?bpl31 ?bpc31 ?bpk31 ?bpa32 ?bpl32 ?bpc32 ?bpk32 ?bpa33 ?bpi33 ?bpl33 ?bpc33 ?bpk33 ?bpa34 ?bpi34 ?bpl34 ?bpc34 ?bpk34 ?bpa35 ?bpi35 ?bpl35 ?bpc35 ?bpk35 ?bpg0 ?bpq0 ?bpg1 ?bpg2 ?bpg3 ?bpg4 ?bpg5 ?bpg6 ?bpq6 ?bpg7 ?bpg8 ?bpq8 ?bpg9 ?bpq9 ?bpg10 ?bpg11 ?bpg12 ?bpg13 ?bpg14 ?bpog_Runs ?bpoh_Runs ?bpop_Runs ?bpos_Runs ?bpom_Runs ?bpok_Runs ?bpon_Runs_runs ?bpon_Runs_place ?bpxa0 ?bpxl0 ?bpxn0 ?bpxy0 ?bpxp0 ?bpxr0 ?bpxu0 ?bpxv0 ?bpxa1 ?bpxl1 ?bpxn1 ?bpxy1 ?bpxp1 ?bpxr1 ?bpxu1 ?bpxv1 ?bpxa2 ?bpxl2 ?bpxn2 ?bpxy2 ?bpxp2 ?bpxr2 ?bpxu2 ?bpxv2 ?bpxa3 ?bpxl3 ?bpxn3 ?bpxy3 ?bpxp3 ?bpxr3 ?bpxu3 ?bpxv3 ?bpxm_NoStatement_NoStatement ?bpxi_NoStatement_NoStatement ?bpxm_NoLines_NoStatement ?bpxi_NoLines_NoStatement ?bpxm_NoBox_NoStatement ?bpxi_NoBox_NoStatement ?bpz_all ?bpz_enumerate ?bpz_int ?bpz_isinstance ?bpz_len ?bpz_max ?bpz_min ?bpz_range ?bpz_tuple ?bpOK
    (case bpoa_Runs => k_is)
    (case bpa0 => k_is)
    (case bpl0 => k_is)
    (case bpc0 => k_is)
    (case bpk0 => k_is)
    (case bpa1 => k_is)
    (case bpl1 => k_is)
    (case bpc1 => k_is)
    (case bpk1 => k_is)
    (case bpa2 => k_is)
    (case bpl2 => k_is)
    (case bpc2 => k_is)
    (case bpk2 => k_is)
    (case bpa3 => k_is)
    (case bpl3 => k_is)
    (case bpc3 => k_is)
    (case bpk3 => k_is)
    (case bpa4 => k_is)
    (case bpl4 => k_is)
    (case bpc4 => k_is)
    (case bpk4 => k_is)
    (case bpa5 => k_is)
    (case bpl5 => k_is)
    (case bpc5 => k_is)
    (case bpk5 => k_is)
    (case bpa6 => k_is)
    (case bpl6 => k_is)
    (case bpc6 => k_is)
    (case bpk6 => k_is)
    (case bpa7 => k_is)
    (case bpl7 => k_is)
    (case bpc7 => k_is)
    (case bpk7 => k_is)
    (case bpa8 => k_is)
    (case bpl8 => k_is)
    (case bpc8 => k_is)
    (case bpk8 => k_is)
    (case bpa9 => k_is)
    (case bpl9 => k_is)
    (case bpc9 => k_is)
    (case bpk9 => k_is)
    (case bpa10 => k_is)
    (case bpl10 => k_is)
    (case bpc10 => k_is)
    (case bpk10 => k_is)
    (case bpa11 => k_is)
    (case bpl11 => k_is)
    (case bpc11 => k_is)
    (case bpk11 => k_is)
    (case bpa12 => k_is)
    (case bpl12 => k_is)
    (case bpc12 => k_is)
    (case bpk12 => k_is)
    (case bpa13 => k_is)
    (case bpl13 => k_is)
    (case bpc13 => k_is)
    (case bpk13 => k_is)
    (case bpa14 => k_is)
    (case bpl14 => k_is)
    (case bpc14 => k_is)
    (case bpk14 => k_is)
    (case bpa15 => k_is)
    (case bpl15 => k_is)
    (case bpc15 => k_is)
    (case bpk15 => k_is)
    (case bpa16 => k_is)
    (case bpl16 => k_is)
    (case bpc16 => k_is)
    (case bpk16 => k_is)
    (case bpa17 => k_is)
    (case bpl17 => k_is)
    (case bpc17 => k_is)
    (case bpk17 => k_is)
    (case bpa18 => k_is)
    (case bpl18 => k_is)
    (case bpc18 => k_is)
    (case bpk18 => k_is)
    (case bpa19 => k_is)
    (case bpl19 => k_is)
    (case bpc19 => k_is)
    (case bpk19 => k_is)
    (case bpa20 => k_is)
    (case bpl20 => k_is)
    (case bpc20 => k_is)
    (case bpk20 => k_is)
    (case bpa21 => k_is)
    (case bpl21 => k_is)
    (case bpc21 => k_is)
    (case bpk21 => k_is)
    (case bpa22 => k_is)
    (case bpl22 => k_is)
    (case bpc22 => k_is)
    (case bpk22 => k_is)
    (case bpa23 => k_is)
    (case bpl23 => k_is)
    (case bpc23 => k_is)
    (case bpk23 => k_is)
    (case bpa24 => k_is)
    (case bpl24 => k_is)
    (case bpc24 => k_is)
    (case bpk24 => k_is)
    (case bpa25 => k_is)
    (case bpl25 => k_is)
    (case bpc25 => k_is)
    (case bpk25 => k_is)
    (case bpa26 => k_is)
    (case bpl26 => k_is)
    (case bpc26 => k_is)
    (case bpk26 => k_is)
    (case bpa27 => k_is)
    (case bpl27 => k_is)
    (case bpc27 => k_is)
    (case bpk27 => k_is)
    (case bpa28 => k_is)
    (case bpl28 => k_is)
    (case bpc28 => k_is)
    (case bpk28 => k_is)
    (case bpa29 => k_is)
    (case bpl29 => k_is)
    (case bpc29 => k_is)
    (case bpk29 => k_is)
    (case bpa30 => k_is)
    (case bpl30 => k_is)
    (case bpc30 => k_is)
    (case bpk30 => k_is)
    (case bpa31 => k_is)
    (case bpl31 => k_is)
    (case bpc31 => k_is)
    (case bpk31 => k_is)
    (case bpa32 => k_is)
    (case bpl32 => k_is)
    (case bpc32 => k_is)
    (case bpk32 => k_is)
    (case bpa33 => k_is)
    (case bpi33 => k_is)
    (case bpl33 => k_is)
    (case bpc33 => k_is)
    (case bpk33 => k_is)
    (case bpa34 => k_is)
    (case bpi34 => k_is)
    (case bpl34 => k_is)
    (case bpc34 => k_is)
    (case bpk34 => k_is)
    (case bpa35 => k_is)
    (case bpi35 => k_is)
    (case bpl35 => k_is)
    (case bpc35 => k_is)
    (case bpk35 => k_is)
    (case bpg0 => k_is)
    (case bpq0 => k_is)
    (case bpg1 => k_is)
    (case bpg2 => k_is)
    (case bpg3 => k_is)
    (case bpg4 => k_is)
    (case bpg5 => k_is)
    (case bpg6 => k_is)
    (case bpq6 => k_is)
    (case bpg7 => k_is)
    (case bpg8 => k_is)
    (case bpq8 => k_is)
    (case bpg9 => k_is)
    (case bpq9 => k_is)
    (case bpg10 => k_is)
    (case bpg11 => k_is)
    (case bpg12 => k_is)
    (case bpg13 => k_is)
    (case bpg14 => k_is)
    (case bpog_Runs => k_is)
    (case bpoh_Runs => k_is)
    (case bpop_Runs => k_is)
    (case bpos_Runs => k_is)
    (case bpom_Runs => k_is)
    (case bpok_Runs => k_is)
    (case bpon_Runs_runs => k_is)
    (case bpon_Runs_place => k_is)
    (case bpxa0 => k_is)
    (case bpxl0 => k_is)
    (case bpxn0 => k_is)
    (case bpxy0 => rfl)
    (case bpxp0 => k_is)
    (case bpxr0 => k_is)
    (case bpxu0 => k_is)
    (case bpxv0 => k_is)
    (case bpxa1 => k_is)
    (case bpxl1 => k_is)
    (case bpxn1 => k_is)
    (case bpxy1 => rfl)
    (case bpxp1 => k_is)
    (case bpxr1 => k_is)
    (case bpxu1 => k_is)
    (case bpxv1 => k_is)
    (case bpxa2 => k_is)
    (case bpxl2 => k_is)
    (case bpxn2 => k_is)
    (case bpxy2 => rfl)
    (case bpxp2 => k_is)
    (case bpxr2 => k_is)
    (case bpxu2 => k_is)
    (case bpxv2 => k_is)
    (case bpxa3 => k_is)
    (case bpxl3 => k_is)
    (case bpxn3 => k_is)
    (case bpxy3 => rfl)
    (case bpxp3 => k_is)
    (case bpxr3 => k_is)
    (case bpxu3 => k_is)
    (case bpxv3 => k_is)
    (case bpxm_NoStatement_NoStatement => k_is)
    (case bpxi_NoStatement_NoStatement => kit_is)
    (case bpxm_NoLines_NoStatement => k_is)
    (case bpxi_NoLines_NoStatement => kit_is)
    (case bpxm_NoBox_NoStatement => k_is)
    (case bpxi_NoBox_NoStatement => kit_is)
    (case bpz_all => k_is)
    (case bpz_enumerate => k_is)
    (case bpz_int => k_is)
    (case bpz_isinstance => k_is)
    (case bpz_len => k_is)
    (case bpz_max => k_is)
    (case bpz_min => k_is)
    (case bpz_range => k_is)
    (case bpz_tuple => k_is)
    case bpOK => exact fun P D base T => K28.ok_law T
#print axioms PySem.Challenge.cw_boxproof_k28_whole_what_is_seen_holds