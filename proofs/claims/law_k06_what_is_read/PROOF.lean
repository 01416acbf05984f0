import PyProof.Rows.All
import PyProof.StationsW
import Wide.All
import OpenK.AllK
import Wide.FinOn
import Lean
import PyProof.EqAt
import PyProof.EqKinds
import PyProof.TupleCall
import PyProof.StrCalls
import PyProof.StrCalls2
import PyProof.FitsReplace
import PyProof.StrOps2
import PyProof.StrCalls6
import PyProof.ToksMono
import PyProof.PassesOwn
import PyProof.Rows.CatchOwn
import PyProof.Rows.CatchBare
import PyProof.Rows.Own
import PyProof.ExcAttrAll.ValueError
import PyProof.ExcBaseAll.ValueError
import KE.RegKIsAll
import PyProof.FString4
import PyProof.StrLawsRepr
import PyProof.StrLawsReplace
import PyProof.NeKinds
import PyProof.ConsumeWalk
import PyProof.SumWalkG
import PyProof.SliceSyntax
import PyProof.FactsAll.list
import PySem.Challenge.RW_boxproof_k06_what_is_read
set_option compiler.extract_closed false
set_option Elab.async false
set_option linter.all false
set_option maxRecDepth 100000
set_option maxHeartbeats 4000000
namespace L2
open PySem PySem.Spec PyProof.Rows
inductive Chn (b : Addr → Option Obj) : Value → Prop
  | nil : Chn b .none
  | cons {e : Addr} {o : Obj} {vs : Array Value} {c : Value} (h : b e = some o) (hd : o.data = .fields vs) (h2 : vs[2]? = some c) (hc : Chn b c) : Chn b (.ref e)
inductive Lead (b : Addr → Option Obj) : Value → Value → Prop
  | refl (x : Value) : Lead b x x
  | step {e : Addr} {o : Obj} {vs : Array Value} {c y : Value} (h : b e = some o) (hd : o.data = .fields vs) (h2 : vs[2]? = some c) (t : Lead b c y) : Lead b (.ref e) y
theorem Chn.mono {b b' : Addr → Option Obj} {v : Value} (c : Chn b v) (k : ∀ a o, b a = some o → b' a = some o) : Chn b' v := by
  induction c with
  | nil => exact .nil
  | cons h hd h2 _ ih => exact .cons (k _ _ h) hd h2 ih
theorem Lead.snoc {b : Addr → Option Obj} {x y : Value} (t : Lead b x y) {e : Addr} {o : Obj} {vs : Array Value} {c : Value} (ey : y = .ref e) (h : b e = some o) (hd : o.data = .fields vs) (h2 : vs[2]? = some c) : Lead b x c := by
  induction t with
  | refl x => subst ey; exact .step h hd h2 (.refl c)
  | step g gd g2 _ ih => exact .step g gd g2 (ih ey)
theorem Lead.on {b : Addr → Option Obj} {x y : Value} (t : Lead b x y) {e : Addr} {o : Obj} {vs : Array Value} {c : Value} (ey : y = .ref e) (h : b e = some o) (hd : o.data = .fields vs) (h2 : vs[2]? = some c) :
    ∃ e' o' vs' c', x = .ref e' ∧ b e' = some o' ∧ o'.data = .fields vs' ∧ vs'[2]? = some c' ∧ Lead b c' c := by
  cases t with
  | refl => exact ⟨e, o, vs, c, ey, h, hd, h2, .refl c⟩
  | step g gd g2 t => exact ⟨_, _, _, _, rfl, g, gd, g2, t.snoc ey h hd h2⟩
theorem plain_unchain : plainId "proto.unchain" = true := by decide +kernel
theorem entry_unchain : entryFor table "proto.unchain" = some Builtin.«proto.unchain» := entryFor_of_fast (by kernel_rfl)
section
variable {prog : Program} {w : World} {A : Around} {E : Value → Shared → Prop} {s : Shared}
theorem unchain_code {b : Addr → Option Obj} {e : Addr} (kb : ∀ a o, b a = some o → s.heap.get? a = some o) (he : b e = none) {o : Value} (c : Chn b o) : ∀ {slow : Value} {t : Bool} {R : Result → Shared → Prop}, Lead b slow o → o ≠ .none →
    (∀ v, R (.ok (.ret v)) s) → codeAny (model prog w) A (.builtin "proto.unchain" ⟨[.ref e, o, slow, .bool t], []⟩) R s := by
  induction c with
  | nil => intro _ _ _ _ n; exact absurd rfl n
  | @cons e1 o1 vs c1 h hd h2 hc ih =>
    intro slow t R L _ hR
    refine codeAny_builtin entry_unchain ?_
    rw [Around.under_plainId plain_unchain _]
    show wpAny _ A.in1 (field (.ref e1) 2 >>= _) _ _ s
    refine wpAny_bind (wpAny_field (kb _ _ h) hd h2 ?_)
    refine wpAny_ite_split (fun _ => wpAny_pure (hR _)) fun n0 => ?_
    refine wpAny_ite_split (fun z => ?_) fun _ => ?_
    · cases (eq_of_beq z)
      cases hc with
      | cons h' _ _ _ => rw [he] at h'; cases h'
    refine wpAny_ite_split (fun _ => wpAny_bind (wpAny_rule (wpAny_pure (hR _)))) fun _ => ?_
    have n1 : c1 ≠ .none := fun z => n0 (by rw [z]; rfl)
    obtain ⟨e', o', vs', c', rfl, g, gd, g2, L'⟩ := L.on rfl h hd h2
    cases t with
    | true => exact wpAny_bind (wpAny_field (kb _ _ g) gd g2 (wpAny_pure ⟨plainId_quiet plain_unchain _, ih L' n1 hR⟩))
    | false => exact wpAny_bind (wpAny_pure (wpAny_pure ⟨plainId_quiet plain_unchain _, ih (L.snoc rfl h hd h2) n1 hR⟩))
def Hnd (b : Addr → Option Obj) (A : Around) : Prop := ∀ v, A.handled = some v → (∃ e, v = .ref e) ∧ Chn b v
theorem Hnd.none {b : Addr → Option Obj} {A : Around} (h : A.handled = none) : Hnd b A := fun v e => by rw [h] at e; cases e
def Hnx (A : Around) (h : Heap) (it : Addr) : Prop := ∃ b, Hnd b A ∧ (∀ a o, b a = some o → h.get? a = some o) ∧ b it = none
theorem raise_ok {α : Type} {b : Addr → Option Obj} {e : Addr} {oe : Obj} {vs : Array Value} {Q : α → Shared → Prop} (hn : Hnd b A) (kb : ∀ a o, b a = some o → s.heap.get? a = some o) (he : b e = none) (ho : s.heap.get? e = some oe) (hd : oe.data = .fields vs) (h2 : 2 < vs.size)
    (h : ∀ hp, hp = s.heap ∨ (∃ c, Chn b c ∧ hp = s.heap.update e (Obj.mapFields (·.setIfInBounds 2 c))) → E (.ref e) { s with heap := hp }) : wpAny (model prog w) A (raiseNew (.ref e) : Sem α) Q E s := by
  unfold raiseNew
  refine wpAny_bind (wpAny_handled ?_)
  cases hA : A.handled with
  | none => exact wpAny_bind (wpAny_pure (wpAny_throw (h _ (.inl rfl))))
  | some v =>
    obtain ⟨⟨e1, rfl⟩, c⟩ := hn v hA
    dsimp only
    refine wpAny_ite_split (fun _ => ?_) fun z => ?_
    · refine wpAny_bind (wpAny_holding (wpAny_runValue (unchain_code kb he c (.refl _) (by intro z; cases z) fun v => ?_)))
      refine wpAny_bind ?_
      show wpAny _ A (setField (.ref e) 2 (.ref e1)) _ _ s
      exact wpAny_setField ho hd h2 (wpAny_throw (h _ (.inr ⟨_, c, rfl⟩)))
    · exfalso
      apply z
      rw [bne_iff_ne]
      intro q
      cases q
      cases c with
      | cons g _ _ _ => rw [he] at g; cases g
theorem stop_ok {it : Addr} {h1 : Heap} (hn : Hnx A s.heap it) (eb : Heap.ExtBut it s.heap h1) {K : Value → Shared → Prop}
    (hK : ∀ x h', (∃ o, h'.get? x = some o ∧ o.cls = .type "StopIteration") → Heap.ExtBut it s.heap h' → K (.ref x) { s with heap := h' }) {α : Type} {R : α → Shared → Prop} :
    wpAny (model prog w) A (newExc (.type "StopIteration") [] >>= fun e => (raiseNew e : Sem α)) R K { s with heap := h1 } := by
  obtain ⟨b, g, kb, ni⟩ := hn
  have kb1 : ∀ a o, b a = some o → h1.get? a = some o := fun a o e => eb a o (fun z => by rw [z, ni] at e; cases e) (kb a o e)
  refine wpAny_bind ?_
  simp only [newExc, newTuple]
  refine wpAny_bind (wpAny_newObj_type ?_ (by size_fits))
  refine wpAny_bind (m := firstArgMember _ _) (wpAny_of_eq (a := Value.none) (by first | rfl | (simp only [firstArgMember]; rfl)) ?_)
  refine wpAny_newObj_type ?_ (by size_fits)
  have k2 : ∀ (o1 o2 : Obj) a o, h1.get? a = some o → ((h1.push o1).push o2).get? a = some o := fun o1 o2 a o e => Heap.get?_push_of_some _ (Heap.get?_push_of_some _ e)
  have fr : ∀ (o1 : Obj), b (h1.push o1).objs.size = none := fun o1 => by
    cases q : b (h1.push o1).objs.size with
    | none => rfl
    | some o =>
      have := Heap.lt_size (kb1 _ _ q)
      rw [Heap.size_push] at this
      exact absurd this (Nat.not_lt.mpr (Nat.le_succ _))
  refine raise_ok g (fun a o e => k2 _ _ a o (kb1 a o e)) (fr _) (Heap.get?_push_size _ rfl) rfl (by rw [Array.size_append]; exact Nat.lt_of_lt_of_le (by decide : 2 < 6) (Nat.le_add_right 6 _)) fun hp hh => ?_
  have x1 : ∀ (o1 o2 : Obj), Heap.ExtBut it s.heap ((h1.push o1).push o2) := fun o1 o2 => (eb.push _).push _
  rcases hh with rfl | ⟨c, _, rfl⟩
  · exact hK _ _ ⟨_, Heap.get?_push_size _ rfl, rfl⟩ (x1 _ _)
  · refine hK _ _ ⟨_, Heap.get?_update_self _ (Heap.get?_push_size _ rfl) rfl, rfl⟩ fun a o n e => ?_
    rw [Heap.get?_update_other _ _ (fun z => ?_)]
    · exact x1 _ _ a o n e
    · have := Heap.lt_size (eb a o n e)
      rw [← z, Heap.size_push] at this
      exact absurd this (Nat.not_lt.mpr (Nat.le_succ _))
theorem Chn.some {b : Addr → Option Obj} {v : Value} (c : Chn b v) : ∃ cs : List Addr, (∀ a ∈ cs, b a ≠ .none) ∧ Chn (fun a => if a ∈ cs then b a else .none) v := by
  induction c with
  | nil => exact ⟨[], by simp, .nil⟩
  | @cons e o vs c h hd h2 _ ih =>
    obtain ⟨cs, k1, k2⟩ := ih
    refine ⟨e :: cs, fun a m => ?_, .cons (o := o) (by simp [h]) hd h2 (k2.mono fun a o q => ?_)⟩
    · rcases List.mem_cons.mp m with rfl | m
      · rw [h]; simp
      · exact k1 a m
    · by_cases m : a ∈ cs
      · rw [if_pos m] at q
        rw [if_pos (List.mem_cons_of_mem _ m)]; exact q
      · rw [if_neg m] at q; cases q
theorem Hnd.some {b : Addr → Option Obj} {A : Around} (h : Hnd b A) : ∃ cs : List Addr, (∀ a ∈ cs, b a ≠ .none) ∧ Hnd (fun a => if a ∈ cs then b a else .none) A := by
  cases hA : A.handled with
  | none => exact ⟨[], by simp, .none hA⟩
  | some v =>
    obtain ⟨x, c⟩ := h v hA
    obtain ⟨cs, k1, k2⟩ := c.some
    exact ⟨cs, k1, fun v' e => by rw [hA] at e; cases e; exact ⟨x, k2⟩⟩
section
variable {prog : Program} {w : World} {A : Around} {E : Value → Shared → Prop} {s : Shared} {it : Addr} {i : Nat} {Q : Option Value → Shared → Prop}
theorem stop_next {h1 : Heap} (hh : Hnx A s.heap it) (eb : Heap.ExtBut it s.heap h1) (hQ : ∀ h', Heap.ExtBut it s.heap h' → Q .none { s with heap := h' }) {α : Type} {R : α → Shared → Prop} :
    wpAny (model prog w) A.in1 (newExc (.type "StopIteration") [] >>= fun e => (raiseNew e : Sem α)) R (fun e s' => wpAny (model prog w) A (do if ← isInstance e (.type "StopIteration") then pure .none else throw e) Q E s') { s with heap := h1 } :=
  stop_ok (A := A.in1) hh eb fun x h' ⟨o, ho, hc⟩ k => wpAny_bind (wpAny_isInstance (T := "StopIteration") (b := true) ⟨_, ho, hc⟩ isSubtype_stop (wpAny_pure (hQ _ k)))
theorem next_list_end {l : Addr} {items : Array Value} (hh : Hnx A s.heap it) (hit : s.heap.IsListIter it l i) (hl : s.heap.IsList l items) (hx : items[i]? = .none) (hQ : ∀ h', Heap.ExtBut it s.heap h' → Q .none { s with heap := h' }) :
    wpAny (model prog w) A (pyNext (.ref it)) Q E s := by
  obtain ⟨o, ho, hc, hd⟩ := id hit
  obtain ⟨ol, hol, _, nl, hdl⟩ := hl
  unfold pyNext; refine wpAny_bind (wpAny_attempt (wpAny_callSpecial?_slot (name := Str.ofString "__next__") hit.typeIs slot_listiter_next (wpAny_call_entry slot_listiter_next hit.typeIs entry_listiter_next ?_ (args_listiter_next _))))
  show wpAny _ _ (field (.ref it) 0 >>= _) _ _ s; refine wpAny_bind (wpAny_field ho hd (x := .ref l) rfl ?_)
  show wpAny _ _ (if (Value.ref l == Value.none) = true then _ else _) _ _ s; rw [if_neg (show ¬ ((Value.ref l == Value.none) = true) from Bool.false_ne_true)]
  show wpAny _ _ (field (.ref it) 1 >>= _) _ _ s; refine wpAny_bind (wpAny_field ho hd (x := .int i 0) rfl ?_)
  show wpAny _ _ (seqItems? (.ref l) >>= _) _ _ s; refine wpAny_bind (wpAny_seqItems hol hdl ?_); simp only [Int.toNat_natCast, hx]
  exact wpAny_bind (wpAny_rule (wpAny_bind (wpAny_setField ho hd (by simp) (stop_next hh (Heap.SameBut.update ..).extBut hQ))))
theorem next_tuple_end {l : Addr} {items : Array Value} (hh : Hnx A s.heap it) (hit : s.heap.IsTupleIter it l i) (hl : s.heap.IsTuple l items) (hx : items[i]? = .none) (hQ : ∀ h', Heap.ExtBut it s.heap h' → Q .none { s with heap := h' }) :
    wpAny (model prog w) A (pyNext (.ref it)) Q E s := by
  obtain ⟨o, ho, hc, hd⟩ := id hit
  obtain ⟨ol, hol, _, nl, hdl⟩ := hl
  unfold pyNext; refine wpAny_bind (wpAny_attempt (wpAny_callSpecial?_slot (name := Str.ofString "__next__") hit.typeIs F.slot_tuple_iterator_next (wpAny_call_entry F.slot_tuple_iterator_next hit.typeIs F.entry_tuple_iterator_next ?_ (F.args_tuple_iterator_next_1 _))))
  show wpAny _ _ (field (.ref it) 0 >>= _) _ _ s; refine wpAny_bind (wpAny_field ho hd (x := .ref l) rfl ?_)
  show wpAny _ _ (if (Value.ref l == Value.none) = true then _ else _) _ _ s; rw [if_neg (show ¬ ((Value.ref l == Value.none) = true) from Bool.false_ne_true)]
  show wpAny _ _ (field (.ref it) 1 >>= _) _ _ s; refine wpAny_bind (wpAny_field ho hd (x := .int i 0) rfl ?_)
  show wpAny _ _ (seqItems? (.ref l) >>= _) _ _ s; refine wpAny_bind (wpAny_seqItems hol hdl ?_); simp only [Int.toNat_natCast, hx]
  exact wpAny_bind (wpAny_rule (wpAny_bind (wpAny_setField ho hd (by simp) (stop_next hh (Heap.SameBut.update ..).extBut hQ))))
theorem next_ascii_end {x : Str} {t : Tok} (hh : Hnx A s.heap it) (hit : s.heap.IsStrIter it "str_ascii_iterator" x t i) (hx : x.cps[i]? = .none) (hQ : ∀ h', Heap.ExtBut it s.heap h' → Q .none { s with heap := h' }) :
    wpAny (model prog w) A (pyNext (.ref it)) Q E s := by
  obtain ⟨o, ho, hc, hd⟩ := id hit
  unfold pyNext; refine wpAny_bind (wpAny_attempt (wpAny_callSpecial?_slot (name := Str.ofString "__next__") hit.typeIs F.slot_str_ascii_iterator_next (wpAny_call_entry F.slot_str_ascii_iterator_next hit.typeIs F.entry_str_ascii_iterator_next ?_ (F.args_str_ascii_iterator_next_1 _))))
  show wpAny _ _ (field (.ref it) 0 >>= _) _ _ s; refine wpAny_bind (wpAny_field ho hd (x := .str x t) rfl ?_)
  show wpAny _ _ (field (.ref it) 1 >>= _) _ _ s; refine wpAny_bind (wpAny_field ho hd (x := .int i 0) rfl ?_); simp only [Int.toNat_natCast, hx]
  exact wpAny_bind (wpAny_rule (wpAny_bind (wpAny_setField ho hd (by simp) (wpAny_bind (wpAny_letGo (stop_next hh (Heap.SameBut.update ..).extBut hQ))))))
theorem next_wide_end {x : Str} {t : Tok} (hh : Hnx A s.heap it) (hit : s.heap.IsStrIter it "str_iterator" x t i) (hx : x.cps[i]? = .none) (hQ : ∀ h', Heap.ExtBut it s.heap h' → Q .none { s with heap := h' }) :
    wpAny (model prog w) A (pyNext (.ref it)) Q E s := by
  obtain ⟨o, ho, hc, hd⟩ := id hit
  unfold pyNext; refine wpAny_bind (wpAny_attempt (wpAny_callSpecial?_slot (name := Str.ofString "__next__") hit.typeIs F.slot_str_iterator_next (wpAny_call_entry F.slot_str_iterator_next hit.typeIs F.entry_str_iterator_next ?_ (F.args_str_iterator_next_1 _))))
  show wpAny _ _ (field (.ref it) 0 >>= _) _ _ s; refine wpAny_bind (wpAny_field ho hd (x := .str x t) rfl ?_)
  show wpAny _ _ (field (.ref it) 1 >>= _) _ _ s; refine wpAny_bind (wpAny_field ho hd (x := .int i 0) rfl ?_); simp only [Int.toNat_natCast, hx]
  exact wpAny_bind (wpAny_rule (wpAny_bind (wpAny_setField ho hd (by simp) (wpAny_bind (wpAny_letGo (stop_next hh (Heap.SameBut.update ..).extBut hQ))))))
theorem next_range_end {x left step : Int} (hh : Hnx A s.heap it) (hit : IsRangeIter s.heap it x left step) (hleft : left ≤ 0) (hQ : ∀ h', Heap.ExtBut it s.heap h' → Q .none { s with heap := h' }) : wpAny (model prog w) A (pyNext (.ref it)) Q E s := by
  have hT : s.TypeIs (.ref it) "range_iterator" := ⟨_, hit, rfl⟩
  unfold pyNext; refine wpAny_bind (wpAny_attempt (wpAny_callSpecial?_slot (name := Str.ofString "__next__") hT F.slot_range_iterator_next (wpAny_call_entry F.slot_range_iterator_next hT F.entry_range_iterator_next ?_ (F.args_range_iterator_next_1 _))))
  show wpAny _ _ (field (.ref it) 0 >>= _) _ _ s; refine wpAny_bind (wpAny_field hit rfl (x := rawInt x) rfl ?_)
  show wpAny _ _ (field (.ref it) 1 >>= _) _ _ s; refine wpAny_bind (wpAny_field hit rfl (x := rawInt left) rfl ?_)
  show wpAny _ _ (field (.ref it) 2 >>= _) _ _ s; refine wpAny_bind (wpAny_field hit rfl (x := rawInt step) rfl ?_)
  show wpAny _ _ (if left ≤ 0 then _ else _) _ _ s; rw [if_pos hleft]
  refine wpAny_bind (wpAny_rule ?_); refine wpAny_bind ?_
  exact stop_next (h1 := s.heap) hh (Heap.ExtBut.refl _ _) hQ
theorem range_item {lo : Int} {n : Nat} (hi : i < n) (st : IsRangeIter s.heap it (lo + (i : Nat) * 1) ((n : Int) - (i : Nat)) 1)
    (hQ : ∀ v h' tk, (∃ t, v = .int (lo + i * 1) t) → IsRangeIter h' it (lo + ((i + 1 : Nat) : Int) * 1) ((n : Int) - ((i + 1 : Nat) : Int)) 1 → (∀ b o, b ∉ [it] → s.heap.get? b = .some o → h'.get? b = .some o) → Q (.some v) { s with heap := h', toks := tk }) :
    wpAny (model prog w) A (pyNext (.ref it)) Q E s := by
  refine wpAny_pyNext_range_item st (by omega) fun h' hit' hs' => hQ _ h' _ ⟨_, rfl⟩ ?_ fun b o hb e => hs'.extBut b o (fun h => hb (by simp [h])) e
  rw [show lo + ((i + 1 : Nat) : Int) * 1 = lo + (i : Int) * 1 + 1 by omega, show (n : Int) - ((i + 1 : Nat) : Int) = (n : Int) - (i : Int) - 1 by omega]; exact hit'
theorem walks_list {b : Addr → Option Obj} (hn : Hnd b A) (I ax : Addr) (hne : ax ≠ I) (hI : b I = .none) (items : Array Value) : ∃ cs : List Addr, (∀ a ∈ cs, b a ≠ .none) ∧
    Walks prog w A I ([I, ax] ++ cs) [I] items.size (fun i v => items[i]? = .some v) (fun i h => (h.IsListIter I ax i ∧ h.IsList ax items) ∧ ∀ a ∈ cs, ∀ o, b a = .some o → h.get? a = .some o) := by
  obtain ⟨cs, k1, k2⟩ := hn.some
  refine ⟨cs, k1, ⟨fun b hb => by simp at hb; simp [hb], fun _ _ _ st hk => ⟨⟨st.1.1.at fun o e => hk I (by simp) o e, st.1.2.at fun o e => hk ax (by simp) o e⟩, fun a m o e => hk a (by simp [m]) o (st.2 a m o e)⟩, fun i s Q E hi st hQ => ?_, fun s Q E st hQ => ?_, fun _ _ _ _ st hQ => wpAny_pyIter_listiter st.1.1 hQ⟩⟩
  · refine wpAny_pyNext_list_item st.1.1 st.1.2 (x := items[i]) (by simp [hi]) fun h' hit' hs' => ?_
    refine hQ _ h' s.toks (by simp [hi]) ⟨⟨hit', st.1.2.extBut hs'.extBut hne⟩, fun a m o e => hs'.extBut a o (fun z => ?_) (st.2 a m o e)⟩ fun b o hb e => hs'.extBut b o (fun h => hb (by simp [h])) e
    rw [z, hI] at e; cases e
  · refine next_list_end ⟨_, k2, fun a o e => ?_, ?_⟩ st.1.1 st.1.2 (by simp) fun h' he' => hQ h' s.toks fun b o hb e => he' b o (fun h => hb (by simp [h])) e
    · by_cases m : a ∈ cs
      · rw [if_pos m] at e; exact st.2 a m o e
      · rw [if_neg m] at e; cases e
    · rw [hI]; split <;> rfl
end
end
end L2
namespace L2
open PySem PySem.Spec PyProof.Rows
abbrev Key := Sum Int Str
def keyIs : Key → Value → Bool
  | .inl k, v => Value.isInt k v
  | .inr x, v => Value.isStrOf x v
def keyH (w : World) : Key → Int
  | .inl k => hashInt k
  | .inr x => hashStr w x
theorem keyIs_shape : ∀ {k : Key} {v : Value}, keyIs k v = true → (∃ i t, k = Sum.inl i ∧ v = Value.int i t) ∨ (∃ x t, k = Sum.inr x ∧ v = Value.str x t)
  | .inl i, v, h => by
    obtain ⟨t, e⟩ := Value.isInt_shape (k := i) (v := v) h
    exact .inl ⟨i, t, rfl, e⟩
  | .inr x, v, h => by
    obtain ⟨t, e⟩ := Value.isStrOf_shape (x := x) (v := v) h
    exact .inr ⟨x, t, rfl, e⟩
theorem key_ll (a b : Int) : decide ((Sum.inl a : Key) = Sum.inl b) = (a == b) := by
  by_cases e : a = b
  · subst e; simp
  · have h : ¬ (Sum.inl a : Key) = Sum.inl b := fun q => e (Sum.inl.inj q)
    rw [decide_eq_false h]
    exact (beq_eq_false_iff_ne.mpr e).symm
theorem key_rr (a b : Str) : decide ((Sum.inr a : Key) = Sum.inr b) = decide (a = b) := by
  by_cases e : a = b
  · subst e; simp
  · have h : ¬ (Sum.inr a : Key) = Sum.inr b := fun q => e (Sum.inr.inj q)
    rw [decide_eq_false h, decide_eq_false e]
theorem key_lr (a : Int) (b : Str) : decide ((Sum.inl a : Key) = Sum.inr b) = false := decide_eq_false (fun q => nomatch q)
theorem key_rl (a : Str) (b : Int) : decide ((Sum.inr a : Key) = Sum.inl b) = false := decide_eq_false (fun q => nomatch q)
def mixKind (prog : Program) (w : World) : PySem.KeyKind prog w Key where
  is := keyIs
  hash := keyH w
  inj := fun v a b ha hb => by
    rcases keyIs_shape ha with ⟨i, t, rfl, rfl⟩ | ⟨x, t, rfl, rfl⟩
    · rcases keyIs_shape hb with ⟨j, u, rfl, e⟩ | ⟨y, u, rfl, e⟩
      · injection e with e1 _; rw [e1]
      · exact nomatch e
    · rcases keyIs_shape hb with ⟨j, u, rfl, e⟩ | ⟨y, u, rfl, e⟩
      · exact nomatch e
      · injection e with e1 _; rw [e1]
  byValue := fun k v h => by
    rcases keyIs_shape h with ⟨i, t, rfl, rfl⟩ | ⟨x, t, rfl, rfl⟩ <;> rfl
  pyHash := fun hv h => by
    rcases keyIs_shape hv with ⟨i, t, rfl, rfl⟩ | ⟨x, t, rfl, rfl⟩
    · exact wpAny_pyHash_int h
    · exact wpAny_pyHash_str h
  eqBool := fun hu hv h => by
    rcases keyIs_shape hu with ⟨i, t, rfl, rfl⟩ | ⟨x, t, rfl, rfl⟩
    · rcases keyIs_shape hv with ⟨j, u, rfl, rfl⟩ | ⟨y, u, rfl, rfl⟩
      · rw [key_ll] at h; exact wpAny_eqBool_int h
      · rw [key_lr] at h; exact SeqAt.EqAt.int_str i t y u _ _ _ _ h
    · rcases keyIs_shape hv with ⟨j, u, rfl, rfl⟩ | ⟨y, u, rfl, rfl⟩
      · rw [key_rl] at h; exact SeqAt.EqAt.str_int x t j u _ _ _ _ h
      · rw [key_rr] at h; exact wpAny_eqBool_str h
  «strs» := fun k x t v h => by
    rcases keyIs_shape h with ⟨i, u, rfl, e⟩ | ⟨y, u, rfl, e⟩
    · exact nomatch e
    · injection e with e1 _
      subst e1
      cases v <;> rfl
end L2
namespace L2
open PySem PySem.Spec PyProof.Rows
inductive V where
  | non | bl (b : Bool) | int (i : Int) | str (x : Str) | byt (b : Array UInt8) | flt (b : UInt64) | ref (a : Addr) | ty (n : String)
  deriving DecidableEq
def RelV : V → Value → Prop
  | .non, u => u = Value.none
  | .bl b, u => u = Value.bool b
  | .int i, u => ∃ t, u = Value.int i t
  | .str x, u => ∃ t, u = Value.str x t
  | .byt b, u => ∃ t, u = Value.bytes b t
  | .flt b, u => ∃ t, u = Value.float b t
  | .ref a, u => u = Value.ref a
  | .ty n, u => u = Value.type n
abbrev Vals : List V → List Value → Prop := Paired RelV
theorem Vals.length {xs : List V} {us : List Value} (r : Vals xs us) : xs.length = us.length := Paired.length r
theorem Vals.get : ∀ {xs : List V} {us : List Value} {i : Nat} {x : V}, Vals xs us → xs[i]? = some x → ∃ u, us[i]? = some u ∧ RelV x u
  | _, _, _, _, .nil, e => by simp at e
  | _, _, 0, _, .cons r _, e => by simp at e; subst e; exact ⟨_, rfl, r⟩
  | _, _, i + 1, x, .cons _ t, e => by
    obtain ⟨u, h1, h2⟩ := Vals.get (i := i) (x := x) t (by simpa using e)
    exact ⟨u, by simpa using h1, h2⟩
theorem Vals.set {x : V} {u : Value} (r : RelV x u) : ∀ {xs : List V} {us : List Value} (i : Nat), Vals xs us → Vals (xs.set i x) (us.set i u)
  | _, _, _, .nil => .nil
  | _, _, 0, .cons _ t => .cons r t
  | _, _, i + 1, .cons q t => .cons q (Vals.set r i t)
theorem Vals.append : ∀ {xs ys : List V} {us ws : List Value}, Vals xs us → Vals ys ws → Vals (xs ++ ys) (us ++ ws)
  | _, _, _, _, .nil, s => s
  | _, _, _, _, .cons r t, s => .cons r (Vals.append t s)
theorem Vals.take : ∀ {xs : List V} {us : List Value} (n : Nat), Vals xs us → Vals (xs.take n) (us.take n)
  | _, _, 0, _ => .nil
  | _, _, _ + 1, .nil => .nil
  | _, _, n + 1, .cons r t => .cons r (Vals.take n t)
theorem Vals.drop : ∀ {xs : List V} {us : List Value} (n : Nat), Vals xs us → Vals (xs.drop n) (us.drop n)
  | _, _, 0, r => r
  | _, _, _ + 1, .nil => .nil
  | _, _, n + 1, .cons _ t => Vals.drop n t
def RelO : Option V → Option Value → Prop
  | some v, some u => RelV v u
  | none, none => True
  | _, _ => False
def KV {κ : Type} : List (κ × V) → List (κ × Value) → Prop := Paired fun (p : κ × V) (q : κ × Value) => p.1 = q.1 ∧ RelV p.2 q.2
def kV : Key → V
  | .inl i => .int i
  | .inr x => .str x
inductive HO where
  | lst (xs : List V)
  | tup (xs : List V)
  | dK (kvs : List (Key × V)) | dT (kvs : List (List Key × V))
  | set (S : Int → Bool) (n : Nat)
  | ins (C dx : Addr) (fs : List (Str × V))
  | own (x : Addr)
  | xd (fs : List (Str × V))
  | met (f x : Addr)
  | rng (lo hi : Int)
  | frz (o : Obj) (u : HO)
  | tbl (ps : Array Value)
  | ext (φ : Heap → Prop)
abbrev Hp := Addr → Option HO
def upd (H : Hp) (a : Addr) (o : HO) : Hp := fun b => if b = a then some o else H b
theorem upd_same {H : Hp} {a : Addr} {o : HO} : upd H a o a = some o := by unfold upd; rw [if_pos rfl]
theorem upd_ne {H : Hp} {a b : Addr} {o : HO} (h : b ≠ a) : upd H a o b = H b := by unfold upd; rw [if_neg h]
theorem upd_upd {H : Hp} {a : Addr} {o u : HO} : upd (upd H a o) a u = upd H a u := by
  funext b; unfold upd; split <;> rfl
theorem ne_of {H : Hp} {a b : Addr} {o u : HO} (h : H a = some o) (h' : H b = some u) (d : o ≠ u) : a ≠ b := by
  intro e; subst e; rw [h] at h'; exact d (Option.some.inj h')
theorem ne_of_none {H : Hp} {a b : Addr} {o : HO} (h : H a = some o) (h' : H b = none) : a ≠ b := by
  intro e; subst e; rw [h] at h'; cases h'
section
variable (P : Program) (w : World)
def ObjOk (H : Hp) (h : Heap) (a : Addr) : HO → Prop
  | .lst xs => xs.length ≤ sizeLine ∧ ∃ (its : List Value) (n : Nat), Vals xs its ∧ h.get? a = some { cls := .type "list", data := .seq its.toArray n }
  | .tup xs => xs.length ≤ sizeLine ∧ ∃ its : List Value, Vals xs its ∧ IsTup h a its.toArray
  | .dK kvs => kvs.length ≤ sizeLine ∧ (a == sysModules) = false ∧ ∃ vs, KV kvs vs ∧ h.DictOf (mixKind P w) a vs
  | .dT kvs => kvs.length ≤ sizeLine ∧ (a == sysModules) = false ∧ ∃ xs : List (List Key × Addr × Value),
      Paired (fun (p : List Key × V) (q : List Key × Addr × Value) => p.1 = q.1 ∧ H q.2.1 = some (.tup (p.1.map kV)) ∧ RelV p.2 q.2.2) kvs xs ∧
      ∃ o es ep, h.get? a = some o ∧ o.ExactDict ∧ o.data = .dict es ep ∧ es.toList = xs.map (entryOfKey (tupleKind (mixKind P w))) ∧ (xs.map (·.1)).Nodup
  | .set S n => h.SetOf (intKind P w) a S n
  | .ins C dx fs => H dx = some (.own a) ∧ fs.length ≤ 1000 ∧ dx ≠ a ∧ h.get? a = some (PySem.W.instObj C dx) ∧
      ∃ mA, h.Ns1 dx mA ∧ (∀ f, RelO (fs.lookup f) (mA f)) ∧ PySem.Within mA (fs.map (·.1))
  | .own _ => ∃ o, h.get? a = some o
  | .xd fs => ∃ mA, h.Ns1 a mA ∧ ∀ f, RelO (fs.lookup f) (mA f)
  | .rng lo hi => ∃ t u v, h.get? a = some { cls := .type "range", data := .fields #[.int lo t, .int hi u, .int 1 v] }
  | .frz o u => h.get? a = some o ∧ ObjOk H h a u
  | .tbl ps => h.get? a = some { cls := .none, data := .fields ps }
  | .met f x => h.get? a = some (PySem.W.methodObj (.ref f) (.ref x))
  | .ext φ => φ h ∧ (∃ o, h.get? a = some o) ∧ ∀ h1 h2 : Heap, φ h1 → (∀ o, h1.get? a = some o → h2.get? a = some o) → φ h2
def HOk (H : Hp) (h : Heap) : Prop := ∀ a o, H a = some o → ObjOk P w H h a o
end
section
variable {P : Program} {w : World} {H H' : Hp} {h h' : Heap} {a : Addr} {o : HO}
theorem ObjOk.lt (x : ObjOk P w H h a o) : a < h.objs.size := by
  cases o with
  | lst xs => obtain ⟨_, _, _, _, e⟩ := x; exact Heap.lt_size e
  | tup xs => obtain ⟨_, _, _, p⟩ := x; exact p.lt
  | dK kvs => obtain ⟨_, _, _, _, o, _, _, e, _⟩ := x; exact Heap.lt_size e
  | dT kvs => obtain ⟨_, _, _, _, o, _, _, e, _⟩ := x; exact Heap.lt_size e
  | set S n => obtain ⟨o, _, _, _, e, _⟩ := x; exact Heap.lt_size e
  | ins C dx fs => obtain ⟨_, _, _, e, _⟩ := x; exact Heap.lt_size e
  | own y => obtain ⟨_, e⟩ := x; exact Heap.lt_size e
  | xd fs => obtain ⟨_, ⟨_, _, _, e, _⟩, _⟩ := x; exact Heap.lt_size e
  | rng lo hi => obtain ⟨_, _, _, e⟩ := x; exact Heap.lt_size e
  | frz ob u => obtain ⟨e, _⟩ := x; exact Heap.lt_size e
  | tbl ps => exact Heap.lt_size (show h.get? a = some _ from x)
  | met f y => exact Heap.lt_size (show h.get? a = some _ from x)
  | ext φ => obtain ⟨_, ⟨_, e⟩, _⟩ := x; exact Heap.lt_size e
theorem Paired.mapP {α β : Type} {F G : α → β → Prop} : ∀ {l₁ : List α} {l₂ : List β}, Paired F l₁ l₂ → (∀ a b, F a b → G a b) → Paired G l₁ l₂
  | _, _, .nil, _ => .nil
  | _, _, .cons r t, f => .cons (f _ _ r) (Paired.mapP t f)
theorem ObjOk.stay (x : ObjOk P w H h a o) (k : ∀ b u, (b = a ∨ H b = some (.own a)) → h.get? b = some u → h'.get? b = some u)
    (ho : ∀ b, H b = some (.own a) → H' b = some (.own a)) (ht : ∀ b xs, H b = some (.tup xs) → H' b = some (.tup xs)) : ObjOk P w H' h' a o := by
  induction o with
  | lst xs => obtain ⟨z, its, n, r, e⟩ := x; exact ⟨z, its, n, r, k _ _ (.inl rfl) e⟩
  | tup xs => obtain ⟨z, its, r, ob, e, c⟩ := x; exact ⟨z, its, r, ob, k _ _ (.inl rfl) e, c⟩
  | dK kvs => obtain ⟨z, y, vs, r, ob, es, ep, e, c⟩ := x; exact ⟨z, y, vs, r, ob, es, ep, k _ _ (.inl rfl) e, c⟩
  | dT kvs =>
    obtain ⟨z, y, xs, r, ob, es, ep, e, c⟩ := x
    exact ⟨z, y, xs, Paired.mapP r fun p q z => ⟨z.1, ht _ _ z.2.1, z.2.2⟩, ob, es, ep, k _ _ (.inl rfl) e, c⟩
  | set S n => obtain ⟨ob, es, ep, t, e, c⟩ := x; exact ⟨ob, es, ep, t, k _ _ (.inl rfl) e, c⟩
  | ins C dx fs =>
    obtain ⟨d, z, ne, e, mA, ⟨od, es, ep, e2, c⟩, r⟩ := x
    exact ⟨ho _ d, z, ne, k _ _ (.inl rfl) e, mA, ⟨od, es, ep, k _ _ (.inr d) e2, c⟩, r⟩
  | own y => obtain ⟨ob, e⟩ := x; exact ⟨ob, k _ _ (.inl rfl) e⟩
  | xd fs => obtain ⟨mA, ⟨od, es, ep, e, c⟩, r⟩ := x; exact ⟨mA, ⟨od, es, ep, k _ _ (.inl rfl) e, c⟩, r⟩
  | rng lo hi => obtain ⟨t, u, v, e⟩ := x; exact ⟨t, u, v, k _ _ (.inl rfl) e⟩
  | frz ob u ih => obtain ⟨e, q⟩ := x; exact ⟨k _ _ (.inl rfl) e, ih q⟩
  | tbl ps =>
    have e : h.get? a = some { cls := .none, data := .fields ps } := x
    show h'.get? a = some { cls := .none, data := .fields ps }
    exact k a _ (.inl rfl) e
  | met f y =>
    have e : h.get? a = some (PySem.W.methodObj (.ref f) (.ref y)) := x
    show h'.get? a = some (PySem.W.methodObj (.ref f) (.ref y))
    exact k a _ (.inl rfl) e
  | ext φ => obtain ⟨p, ⟨o, e⟩, st⟩ := x; exact ⟨st _ _ p fun o q => k _ _ (.inl rfl) q, ⟨o, k _ _ (.inl rfl) e⟩, st⟩
theorem HOk.lt (x : HOk P w H h) (e : H a = some o) : a < h.objs.size := (x a o e).lt
theorem HOk.fresh (x : HOk P w H h) (e : h.objs.size ≤ a) : H a = none := by
  cases q : H a with
  | none => rfl
  | some u => exact absurd (Nat.lt_of_lt_of_le (x.lt q) e) (Nat.lt_irrefl _)
theorem HOk.kept (x : HOk P w H h) (k : ∀ b u, h.get? b = some u → h'.get? b = some u) : HOk P w H h' := fun a o e =>
  (x a o e).stay (fun b u _ q => k b u q) (fun _ q => q) fun _ _ q => q
theorem HOk.laid (x : HOk P w H h) (k : ∀ b u, h.get? b = some u → h'.get? b = some u) (hp : h.objs.size ≤ a) (new : ObjOk P w (upd H a o) h' a o) : HOk P w (upd H a o) h' := fun b u e => by
  have hn := x.fresh hp
  by_cases hb : b = a
  · subst hb; rw [upd_same] at e; cases e; exact new
  · rw [upd_ne hb] at e
    exact (x b u e).stay (fun c v _ q => k c v q) (fun c q => by rw [upd_ne (ne_of_none q hn)]; exact q) fun c xs q => by rw [upd_ne (ne_of_none q hn)]; exact q
end
def Rd (H : Hp) (a : Addr) (u : HO) : Prop := H a = some u ∨ ∃ o, H a = some (.frz o u)
theorem Rd.ok {P : Program} {w : World} {H : Hp} {h : Heap} {a : Addr} {u : HO} (r : Rd H a u) (x : HOk P w H h) : ObjOk P w H h a u := by
  rcases r with r | ⟨o, r⟩
  · exact x a u r
  · obtain ⟨_, q⟩ := x a _ r
    exact q
def Mut : Option HO → Prop
  | some (.lst _) => True
  | some (.dK _) => True
  | some (.dT _) => True
  | some (.set _ _) => True
  | some (.ins _ _ _) => True
  | some (.ext _) => True
  | _ => False
section
variable {P : Program} {w : World} {H : Hp} {h h' : Heap} {x e : Addr} {o' : HO}
theorem HOk.write (ok : HOk P w H h) (mu : Mut (H x)) (he : e = x ∨ H e = some (.own x)) (k : ∀ b u, b ≠ e → h.get? b = some u → h'.get? b = some u) (heo : ∃ u, h'.get? e = some u)
    (new : ObjOk P w (upd H x o') h' x o') : HOk P w (upd H x o') h' := fun b u q => by
  have nown : ∀ c y, H c = some (.own y) → c ≠ x := fun c y r z => by subst z; rw [r] at mu; exact mu
  have ntup : ∀ c xs, H c = some (.tup xs) → c ≠ x := fun c xs r z => by subst z; rw [r] at mu; exact mu
  by_cases hb : b = x
  · subst hb; rw [upd_same] at q; cases q; exact new
  · rw [upd_ne hb] at q
    by_cases hbe : b = e
    · have q' : H b = some (.own x) := by
        rcases he with z | z
        · exact absurd (hbe.trans z) hb
        · rw [hbe]; exact z
      rw [q] at q'; cases q'
      obtain ⟨v, hv⟩ := heo
      exact ⟨v, by rw [hbe]; exact hv⟩
    · refine (ok b u q).stay (fun c v hc r => k c v ?_ r) (fun c r => by rw [upd_ne (nown c b r)]; exact r) fun c xs r => by rw [upd_ne (ntup c xs r)]; exact r
      rcases hc with rfl | hc
      · exact hbe
      · rintro rfl
        rcases he with z | z
        · exact nown c b hc z
        · rw [hc] at z; cases z; exact hb rfl
end
structure Un (fs ex : List Addr) (H H' : Hp) (h h' : Heap) : Prop where
  keep : ∀ b o, h.get? b = some o → H b = none → b ∉ fs → b ∉ ex → h'.get? b = some o
  slot : ∀ b o, h.get? b = some o → H b = none → b ∈ fs → b ∉ ex → ∃ sl, h'.get? b = some { o with slots := sl }
  free : ∀ b o, h.get? b = some o → H b = none → b ∉ ex → H' b = none
  there : ∀ b o, h.get? b = some o → b ∉ ex → ∃ o', h'.get? b = some o'
  tups : ∀ b xs, H b = some (.tup xs) → H' b = some (.tup xs)
  frzs : ∀ b o u, H b = some (.frz o u) → H' b = some (.frz o u)
  tbls : ∀ b ps, H b = some (.tbl ps) → ∃ more, H' b = some (.tbl (ps ++ more))
section
variable {fs fs' ex ex' : List Addr} {H H1 H2 : Hp} {h h1 h2 h' : Heap} {a x e : Addr} {o : HO}
theorem Un.any (u : Un fs ex H H1 h h1) {b : Addr} {ob : Obj} (q : h.get? b = some ob) (n : H b = none) (hx : b ∉ ex) : ∃ sl, h1.get? b = some { ob with slots := sl } := by
  by_cases hb : b ∈ fs
  · exact u.slot b ob q n hb hx
  · exact ⟨ob.slots, u.keep b ob q n hb hx⟩
theorem Un.kept (k : ∀ b u, h.get? b = some u → h'.get? b = some u) : Un fs ex H H h h' :=
  ⟨fun b ob q _ _ _ => k b ob q, fun b ob q _ _ _ => ⟨ob.slots, k b ob q⟩, fun _ _ _ n _ => n, fun b ob q _ => ⟨ob, k b ob q⟩, fun _ _ q => q, fun _ _ _ q => q, fun _ ps q => ⟨#[], by rw [q]; simp⟩⟩
theorem Un.refl : Un fs ex H H h h := Un.kept fun _ _ q => q
theorem Un.laid (k : ∀ b u, h.get? b = some u → h'.get? b = some u) (hp : h.objs.size ≤ a) (hn : H a = none) : Un fs ex H (upd H a o) h h' where
  keep := fun b u q _ _ _ => k b u q
  slot := fun b u q _ _ _ => ⟨u.slots, k b u q⟩
  free := fun b u q n _ => by rw [upd_ne (Nat.ne_of_lt (Nat.lt_of_lt_of_le (Heap.lt_size q) hp))]; exact n
  there := fun b u q _ => ⟨u, k b u q⟩
  tups := fun b xs q => by rw [upd_ne (ne_of_none q hn)]; exact q
  frzs := fun b u xs q => by rw [upd_ne (ne_of_none q hn)]; exact q
  tbls := fun b ps q => ⟨#[], by rw [upd_ne (ne_of_none q hn), q]; simp⟩
theorem Un.write (mu : Mut (H x)) (he : e = x ∨ H e = some (.own x)) (k : ∀ b u, b ≠ e → h.get? b = some u → h'.get? b = some u) (heo : ∃ u, h'.get? e = some u) : Un fs ex H (upd H x o) h h' := by
  have hx : ∀ b, H b = none → b ≠ x := fun b n z => by subst z; rw [n] at mu; exact mu
  have hb : ∀ b, H b = none → b ≠ e := fun b n z => by
    subst z
    rcases he with r | r
    · exact hx b n r
    · rw [n] at r; cases r
  have hm : ∀ b u, H b = some u → ¬ Mut (some u) → b ≠ x := fun b u q nm z => by subst z; rw [q] at mu; exact nm mu
  refine ⟨fun b u q n _ _ => k b u (hb b n) q, fun b u q n _ _ => ⟨u.slots, k b u (hb b n) q⟩, fun b u q n _ => by rw [upd_ne (hx b n)]; exact n, fun b u q _ => ?_,
    fun b xs q => by rw [upd_ne (hm b _ q fun z => z)]; exact q, fun b u xs q => by rw [upd_ne (hm b _ q fun z => z)]; exact q, fun b ps q => ⟨#[], by rw [upd_ne (hm b _ q fun z => z), q]; simp⟩⟩
  by_cases hbe : b = e
  · subst hbe; exact heo
  · exact ⟨u, k b u hbe q⟩
end
def trk (h : Heap) (H : Hp) : List Addr := (List.range h.objs.size).filter fun a => (H a).isSome
def hidT (h : Heap) (H : Hp) : Heap := PySem.W.hideAll h (trk h H)
theorem hidT_size (h : Heap) (H : Hp) : (hidT h H).objs.size = h.objs.size := PySem.W.hideAll_size _ _
theorem hidT_get {h : Heap} {H : Hp} {b : Addr} {o : Obj} (e : h.get? b = some o) (n : H b = none) : (hidT h H).get? b = some o :=
  PySem.W.hideAll_get _ e fun hm => by
    have q : (H b).isSome = true := (List.mem_filter.mp hm).2
    rw [n] at q; simp at q
theorem of_hidT {h : Heap} {H : Hp} {b : Addr} {o : Obj} (e : (hidT h H).get? b = some o) : h.get? b = some o ∧ H b = none := by
  have e' : h.get? b = some o := PySem.W.of_hideAll (trk h H) e
  refine ⟨e', ?_⟩
  cases q : H b with
  | none => rfl
  | some x =>
    have hm : b ∈ trk h H := List.mem_filter.mpr ⟨List.mem_range.mpr (Heap.lt_size e'), by simp [q]⟩
    have z : (hidT h H).get? b = none := PySem.W.hideAll_none (trk h H) hm
    rw [z] at e; cases e
end L2
namespace L2
open PySem PySem.Spec PyProof.Rows
structure Mod (K : PySem.W.Frag) (mg : Str → Option Value) (base : Heap) : Prop where
  kin : K.In base
  glob : base.Ns mainGlobals mg
  blt : ∃ mb, base.Ns builtinsNs mb ∧ ∀ x : Str, x ≠ "__name__" → mb x = bootBuiltins x
  nolimit : base.NoLimit
structure Cx where
  prog : Program
  w : World
  K : PySem.W.Frag
  mg : Str → Option Value
  base : Heap
  A : Around
  N : List Str
  s₀ : Shared
  H₀ : Hp
  env : Env
  outer : List Env
  stack : List Env
  ex : List Addr
  fn : Str → Bool
  calm : Bool
  pn : List (Addr × Obj)
  xe : Value → Shared → Prop
def frs (l : List Env) : List Addr := l.filterMap (·.frame)
abbrev Cx.fs (X : Cx) : List Addr := frs X.outer
def Vis (sc : Scope) (x : Str) : Prop := sc.names.lookup x = some .local ∨ sc.names.lookup x = some .cell ∨ sc.names.lookup x = some .free
def Loc (sc : Scope) (x : Str) : Prop := sc.names.lookup x = some .local ∨ sc.names.lookup x = some .cell
def Look (env : Env) (h : Heap) (m : Str → Option Value) (x : Str) (u : Value) : Prop :=
  (env.kindOf x = some .local ∧ m x = some u) ∨ ((env.kindOf x = some .cell ∨ env.kindOf x = some .free) ∧ ∃ c, env.cells.lookup x = some c ∧ h.IsCell c (some u))
structure Cx.Ok (X : Cx) : Prop where
  mod : Mod X.K X.mg X.base
  kind : X.env.scope.kind = .function
  glob : X.env.globals = mainGlobals
  blt : X.env.builtins = builtinsNs
  above : X.s₀.heap.objs.size ≤ X.env.locals
  inj : ∀ x y c, X.env.cells.lookup x = some c → X.env.cells.lookup y = some c → x = y
  has : ∀ x, (X.env.kindOf x = some .cell ∨ X.env.kindOf x = some .free) → ∃ c, X.env.cells.lookup x = some c
  cab : ∀ x c, X.fn x = true → X.env.cells.lookup x = some c → X.s₀.heap.objs.size ≤ c
  hd : X.calm = true → Hnd X.base.get? X.A
  frames : X.A.frames = some X.stack
  stk : X.stack = X.outer ∨ (X.stack = X.env :: X.outer ∧ X.env.frame = some X.env.locals)
  exf : ∀ b ∈ X.ex, b ≠ X.env.locals ∧ ∀ x c, X.env.cells.lookup x = some c → c ≠ b
  bs : ∀ b o, X.base.get? b = some o → X.s₀.heap.get? b = some o ∧ X.H₀ b = none
  bsz : X.base.objs.size ≤ X.s₀.heap.objs.size
  noex : ∀ b o, X.base.get? b = some o → b ∉ X.ex
  exfs : ∀ b ∈ X.ex, b ∉ X.fs
  funs : X.s₀.heap.FunFrames X.base X.outer
  frf : ∀ b ∈ X.fs, X.H₀ b = none
structure Inv (X : Cx) (pins : List (Addr × Obj)) (σ : List (Option V)) (H : Hp) (s : Shared) : Prop where
  ok : X.Ok
  os : s.os = X.s₀.os
  bare : AllBare s.gens
  base : Un X.fs X.ex X.H₀ H X.s₀.heap s.heap
  loc : ∃ m, s.heap.Ns X.env.locals m ∧ ∀ (i : Nat) (x : Str) (v : V), X.N[i]? = some x → σ[i]? = some (some v) → Vis X.env.scope x → ∃ u, RelV v u ∧ Look X.env s.heap m x u
  cell : ∀ x c, X.env.cells.lookup x = some c → ∃ v, s.heap.IsCell c v
  free : H X.env.locals = none
  freeC : ∀ x c, X.env.cells.lookup x = some c → H c = none
  pin : ∀ p ∈ X.pn ++ pins, s.heap.get? p.1 = some p.2 ∧ H p.1 = none ∧ p.1 ≠ X.env.locals ∧ p.1 ∉ X.fs ∧ ∀ v, p.2.data ≠ .cell v
  hok : HOk X.prog X.w H s.heap
  len : σ.length = X.N.length
section
variable {X : Cx} {pins : List (Addr × Obj)} {σ : List (Option V)} {H H' : Hp} {s : Shared} {h' : Heap}
theorem Cx.Ok.nofr (ok : X.Ok) {b : Addr} {o : Obj} (e : X.base.get? b = some o) : b ∉ X.fs := fun hb => by
  have := (ok.funs.mem hb).1
  rw [e] at this; cases this
theorem Inv.bs (I : Inv X pins σ H s) : ∀ b o, X.base.get? b = some o → s.heap.get? b = some o ∧ H b = none := fun b o e =>
  ⟨I.base.keep b o (I.ok.bs b o e).1 (I.ok.bs b o e).2 (I.ok.nofr e) (I.ok.noex b o e), I.base.free b o (I.ok.bs b o e).1 (I.ok.bs b o e).2 (I.ok.noex b o e)⟩
theorem Inv.bk (I : Inv X pins σ H s) : ∀ b o, X.base.get? b = some o → s.heap.get? b = some o := fun b o e => (I.bs b o e).1
theorem Inv.mod (I : Inv X pins σ H s) : Mod X.K X.mg X.base := I.ok.mod
theorem Inv.nob (I : Inv X pins σ H s) {it : Addr} (f : it ∈ X.ex ∨ X.s₀.heap.objs.size ≤ it) : X.base.get? it = none := by
  cases q : X.base.get? it with
  | none => rfl
  | some o =>
    rcases f with f | f
    · exact absurd f (I.ok.noex it o q)
    · exact absurd (Heap.lt_size (I.ok.bs it o q).1) (Nat.not_lt.mpr f)
theorem Inv.hnx (I : Inv X pins σ H s) (hc : X.calm = true) {it : Addr} (f : it ∈ X.ex ∨ X.s₀.heap.objs.size ≤ it) : Hnx X.A s.heap it := ⟨X.base.get?, I.ok.hd hc, I.bk, I.nob f⟩
theorem Inv.kIn (I : Inv X pins σ H s) : X.K.In s.heap := I.ok.mod.kin.keeps I.bk
theorem Inv.fr (I : Inv X pins σ H s) : ∃ m, Fr X.base X.env.locals s.heap m :=
  let ⟨m, hn, _⟩ := I.loc
  ⟨m, hn, I.bk, Nat.le_trans I.ok.bsz I.ok.above⟩
theorem Inv.lt (I : Inv X pins σ H s) : X.env.locals < s.heap.objs.size := let ⟨_, hn, _⟩ := I.loc; hn.lt
theorem Inv.sz (I : Inv X pins σ H s) : X.s₀.heap.objs.size ≤ s.heap.objs.size := Nat.le_trans I.ok.above (Nat.le_of_lt I.lt)
theorem Inv.nofs (I : Inv X pins σ H s) {a : Addr} (h : s.heap.objs.size ≤ a) : a ∉ X.fs := fun hb => by
  obtain ⟨_, o, ho, _⟩ := I.ok.funs.mem hb
  exact absurd (Nat.lt_of_lt_of_le (Heap.lt_size ho) (Nat.le_trans I.sz h)) (Nat.lt_irrefl _)
theorem Inv.cne (I : Inv X pins σ H s) : ∀ x c, X.env.cells.lookup x = some c → c ≠ X.env.locals := fun x c e z => by
  obtain ⟨v, o, ho, hd⟩ := I.cell x c e
  obtain ⟨m, ⟨o', es, ep, ho', hd', _⟩, _⟩ := I.loc
  rw [z, ho'] at ho; cases ho; rw [hd'] at hd; cases hd
theorem Inv.funs (I : Inv X pins σ H s) : s.heap.FunFrames X.base X.outer := by
  have all : ∀ (l : List Env), (∀ b ∈ frs l, b ∈ X.fs) → X.s₀.heap.FunFrames X.base l → s.heap.FunFrames X.base l := by
    intro l
    induction l with
    | nil => intro _ _; trivial
    | cons env r ih =>
      intro hs hl
      obtain ⟨hk, ⟨L, o, hf, hn, ho, hd⟩, hr⟩ := hl
      have hL : L ∈ X.fs := hs L (by unfold frs; rw [List.filterMap_cons, hf]; exact List.mem_cons_self)
      obtain ⟨sl, e⟩ := I.base.slot L o ho (I.ok.frf L hL) hL fun z => I.ok.exfs L z hL
      exact ⟨hk, ⟨L, _, hf, hn, e, hd⟩, ih (fun b hb => hs b (by unfold frs; rw [List.filterMap_cons, hf]; exact List.mem_cons_of_mem _ hb)) hr⟩
  exact all X.outer (fun _ hb => hb) I.ok.funs
theorem Inv.stack (I : Inv X pins σ H s) : s.heap.FunFrames X.base X.stack := by
  rcases I.ok.stk with e | ⟨e, hf⟩
  · rw [e]; exact I.funs
  · rw [e]
    obtain ⟨m, hn, _⟩ := I.loc
    refine .cons (by rw [I.ok.kind]; decide) hf hn ?_ I.funs
    exact Heap.get?_none_of_le (Nat.le_trans I.ok.bsz I.ok.above)
theorem Inv.stkSub (I : Inv X pins σ H s) : ∀ b ∈ frs X.stack, b ∈ X.env.locals :: X.fs := fun b hb => by
  rcases I.ok.stk with e | ⟨e, hf⟩
  · rw [e] at hb; exact List.mem_cons_of_mem _ hb
  · rw [e] at hb
    unfold frs at hb
    rw [List.filterMap_cons, hf] at hb
    exact hb
theorem Inv.stkFree (I : Inv X pins σ H s) : ∀ b ∈ frs X.stack, H b = none := fun b hb => by
  rcases List.mem_cons.mp (I.stkSub b hb) with e | hb
  · rw [e]; exact I.free
  · obtain ⟨_, o, ho, _⟩ := I.ok.funs.mem hb
    exact I.base.free b o ho (I.ok.frf b hb) fun z => I.ok.exfs b z hb
theorem Inv.step {g' : Array GenState} {t' : Nat} {d' : Drawn} {ch : List Addr} (I : Inv X pins σ H s)
    (hch : ∀ b ∈ ch, (b ∈ X.ex ∨ X.s₀.heap.objs.size ≤ b) ∧ b ≠ X.env.locals ∧ (∀ x c, X.env.cells.lookup x = some c → c ≠ b) ∧ ∀ p ∈ X.pn ++ pins, p.1 ≠ b)
    (keep : ∀ b o, b ≠ X.env.locals → b ∉ X.fs → b ∉ ch → s.heap.get? b = some o → H b = none → h'.get? b = some o)
    (slot : ∀ b o, b ≠ X.env.locals → b ∈ X.fs → b ∉ ch → s.heap.get? b = some o → H b = none → ∃ sl, h'.get? b = some { o with slots := sl }) (free : ∀ b o, b ∉ ch → s.heap.get? b = some o → H b = none → H' b = none)
    (there : ∀ b o, b ∉ ch → s.heap.get? b = some o → ∃ o', h'.get? b = some o')
    (tups : ∀ b xs, H b = some (.tup xs) → H' b = some (.tup xs)) (frzs : ∀ b o u, H b = some (.frz o u) → H' b = some (.frz o u)) (tbls : ∀ b ps, H b = some (.tbl ps) → ∃ more, H' b = some (.tbl (ps ++ more)))
    (ns : ∀ m, s.heap.Ns X.env.locals m → h'.Ns X.env.locals m) (hok : HOk X.prog X.w H' h') (hg : AllBare g') :
    Inv X pins σ H' { s with heap := h', gens := g', drawn := d', toks := t' } := by
  have neL : ∀ b o, X.s₀.heap.get? b = some o → b ≠ X.env.locals := fun b o e => Nat.ne_of_lt (Nat.lt_of_lt_of_le (Heap.lt_size e) I.ok.above)
  have neC : ∀ b o, X.s₀.heap.get? b = some o → b ∉ X.ex → b ∉ ch := fun b o e hx hb => by
    rcases (hch b hb).1 with z | z
    · exact hx z
    · exact absurd (Nat.lt_of_lt_of_le (Heap.lt_size e) z) (Nat.lt_irrefl _)
  have cellK : ∀ x c, X.env.cells.lookup x = some c → ∀ v, s.heap.IsCell c v → h'.IsCell c v := fun x c e v ⟨o, ho, hd⟩ => by
    have nch : c ∉ ch := fun z => (hch c z).2.2.1 x c e rfl
    by_cases hc : c ∈ X.fs
    · obtain ⟨sl, q⟩ := slot c o (I.cne x c e) hc nch ho (I.freeC x c e)
      exact ⟨_, q, hd⟩
    · exact ⟨o, keep c o (I.cne x c e) hc nch ho (I.freeC x c e), hd⟩
  refine ⟨I.ok, I.os, hg, ⟨fun b o e n hb hx => ?_, fun b o e n hb hx => ?_, fun b o e n hx => ?_, fun b o e hx => ?_, fun b xs e => tups b xs (I.base.tups b xs e), fun b o xs e => frzs b o xs (I.base.frzs b o xs e), fun b ps e => ?_⟩, ?_, fun x c e => ?_, ?_, fun x c e => ?_, fun p hp => ?_, hok, I.len⟩
  · exact keep b o (neL b o e) hb (neC b o e hx) (I.base.keep b o e n hb hx) (I.base.free b o e n hx)
  · obtain ⟨sl, e1⟩ := I.base.slot b o e n hb hx
    obtain ⟨sl', e2⟩ := slot b _ (neL b o e) hb (neC b o e hx) e1 (I.base.free b o e n hx)
    exact ⟨sl', e2⟩
  · obtain ⟨o', e1⟩ := I.base.there b o e hx
    exact free b o' (neC b o e hx) e1 (I.base.free b o e n hx)
  · obtain ⟨o', e1⟩ := I.base.there b o e hx
    exact there b o' (neC b o e hx) e1
  · obtain ⟨m1, e1⟩ := I.base.tbls b ps e
    obtain ⟨m2, e2⟩ := tbls b _ e1
    exact ⟨m1 ++ m2, by rw [e2, Array.append_assoc]⟩
  · obtain ⟨m, hn, hl⟩ := I.loc
    refine ⟨m, ns m hn, fun i x v e1 e2 e3 => ?_⟩
    obtain ⟨u, r, l⟩ := hl i x v e1 e2 e3
    refine ⟨u, r, ?_⟩
    rcases l with l | ⟨k, c, e, z⟩
    · exact .inl l
    · exact .inr ⟨k, c, e, cellK x c e _ z⟩
  · obtain ⟨v, z⟩ := I.cell x c e
    exact ⟨v, cellK x c e v z⟩
  · obtain ⟨m, ⟨o, _, _, ho, _⟩, _⟩ := I.loc
    exact free _ o (fun z => (hch _ z).2.1 rfl) ho I.free
  · obtain ⟨v, o, ho, hd⟩ := I.cell x c e
    exact free c o (fun z => (hch c z).2.2.1 x c e rfl) ho (I.freeC x c e)
  · obtain ⟨e, n, ne, nf, d⟩ := I.pin p hp
    have nch : p.1 ∉ ch := fun z => (hch p.1 z).2.2.2 p hp rfl
    exact ⟨keep p.1 p.2 ne nf nch e n, free p.1 p.2 nch e n, ne, nf, d⟩
theorem Inv.un {t' : Nat} (I : Inv X pins σ H s) (u : Un X.fs [] H H' s.heap h') (hok : HOk X.prog X.w H' h') : Inv X pins σ H' { s with heap := h', toks := t' } := by
  obtain ⟨m, ⟨o, es, ep, ho, r⟩, _⟩ := id I.loc
  obtain ⟨sl, hL⟩ := u.any ho I.free (by simp)
  exact I.step (g' := s.gens) (d' := s.drawn) (ch := []) (fun _ z => nomatch z) (fun b o _ hb _ e n => u.keep b o e n hb (by simp)) (fun b o _ hb _ e n => u.slot b o e n hb (by simp)) (fun b o _ e n => u.free b o e n (by simp)) (fun b o _ e => u.there b o e (by simp)) u.tups u.frzs u.tbls (fun m' hm => by
    obtain ⟨o', es', ep', ho', r'⟩ := hm
    rw [ho] at ho'; cases ho'
    exact ⟨_, es', ep', hL, r'⟩) hok I.bare
theorem Inv.call {g' : Array GenState} {t' : Nat} {d' : Drawn} {ch : List Addr} (I : Inv X pins σ H s) (u : Un (frs X.stack) ch H H' s.heap h') (hok : HOk X.prog X.w H' h') (hg : AllBare g')
    (hch : ∀ b ∈ ch, (b ∈ X.ex ∨ X.s₀.heap.objs.size ≤ b) ∧ b ≠ X.env.locals ∧ (∀ x c, X.env.cells.lookup x = some c → c ≠ b) ∧ ∀ p ∈ X.pn ++ pins, p.1 ≠ b) :
    Inv X pins σ H' { s with heap := h', gens := g', drawn := d', toks := t' } := by
  obtain ⟨m, ⟨o, es, ep, ho, r⟩, _⟩ := id I.loc
  obtain ⟨sl, hL⟩ := u.any ho I.free fun z => (hch _ z).2.1 rfl
  exact I.step (ch := ch) hch (fun b o hL hb hc e n => u.keep b o e n (fun z => (List.mem_cons.mp (I.stkSub b z)).elim hL hb) hc) (fun b o _ _ hc e n => u.any e n hc) (fun b o hc e n => u.free b o e n hc) (fun b o hc e => u.there b o e hc) u.tups u.frzs u.tbls (fun m' hm => by
    obtain ⟨o', es', ep', ho', r'⟩ := hm
    rw [ho] at ho'; cases ho'
    exact ⟨_, es', ep', hL, r'⟩) hok hg
theorem Inv.turned {t' : Nat} {it : Addr} (I : Inv X pins σ H s) (k : ∀ b o, b ≠ it → s.heap.get? b = some o → h'.get? b = some o) (hn : H it = none) (hL : it ≠ X.env.locals)
    (h1 : it ∈ X.ex ∨ X.s₀.heap.objs.size ≤ it) (h2 : ∀ x c, X.env.cells.lookup x = some c → c ≠ it) (h3 : ∀ p ∈ X.pn ++ pins, p.1 ≠ it) : Inv X pins σ H { s with heap := h', toks := t' } := by
  have nit : ∀ b u, H b = some u → b ≠ it := fun b u e z => by rw [z, hn] at e; cases e
  refine I.step (g' := s.gens) (d' := s.drawn) (ch := [it]) (fun b hb => ?_) (fun b o _ _ hc e _ => k b o (fun z => hc (by simp [z])) e) (fun b o _ _ hc e _ => ⟨o.slots, k b o (fun z => hc (by simp [z])) e⟩) (fun _ _ _ _ n => n)
    (fun b o hc e => ⟨o, k b o (fun z => hc (by simp [z])) e⟩) (fun _ _ e => e) (fun _ _ _ e => e) (fun b ps e => ⟨#[], by rw [e]; simp⟩) (fun m hm => ?_) (fun b u e => ?_) I.bare
  · have e : b = it := by simpa using hb
    subst e
    exact ⟨h1, hL, h2, h3⟩
  · obtain ⟨o, es, ep, ho, r⟩ := hm
    exact ⟨o, es, ep, k _ o (Ne.symm hL) ho, r⟩
  · refine (I.hok b u e).stay (fun c v hc q => k c v ?_ q) (fun _ q => q) fun _ _ q => q
    rcases hc with z | z
    · rw [z]; exact nit b u e
    · exact nit c _ z
theorem Inv.tok (I : Inv X pins σ H s) (t : Nat) : Inv X pins σ H { s with toks := t } := I.un (h' := s.heap) (t' := t) Un.refl I.hok
theorem Inv.kept {t' : Nat} (I : Inv X pins σ H s) (k : ∀ b u, s.heap.get? b = some u → h'.get? b = some u) : Inv X pins σ H { s with heap := h', toks := t' } := I.un (Un.kept k) (I.hok.kept k)
theorem Inv.laid {a : Addr} {o : HO} {t' : Nat} (I : Inv X pins σ H s) (k : ∀ b u, s.heap.get? b = some u → h'.get? b = some u) (hp : s.heap.objs.size ≤ a) (new : ObjOk X.prog X.w (upd H a o) h' a o) :
    Inv X pins σ (upd H a o) { s with heap := h', toks := t' } := I.un (Un.laid k hp (I.hok.fresh hp)) (I.hok.laid k hp new)
theorem Inv.write {x e : Addr} {o : HO} {t' : Nat} (I : Inv X pins σ H s) (mu : Mut (H x)) (he : e = x ∨ H e = some (.own x)) (k : ∀ b u, b ≠ e → s.heap.get? b = some u → h'.get? b = some u) (heo : ∃ u, h'.get? e = some u)
    (new : ObjOk X.prog X.w (upd H x o) h' x o) : Inv X pins σ (upd H x o) { s with heap := h', toks := t' } := I.un (Un.write mu he k heo) (I.hok.write mu he k heo new)
theorem Inv.weak {σ' : List (Option V)} (I : Inv X pins σ H s) (hl : σ'.length = σ.length) (w : ∀ (i : Nat) v, σ'[i]? = some (some v) → σ[i]? = some (some v)) : Inv X pins σ' H s :=
  ⟨I.ok, I.os, I.bare, I.base, let ⟨m, hn, hl'⟩ := I.loc; ⟨m, hn, fun i x v e1 e2 e3 => hl' i x v e1 (w i v e2) e3⟩, I.cell, I.free, I.freeC, I.pin, I.hok, hl.trans I.len⟩
theorem Inv.pins_of {pins' : List (Addr × Obj)} (I : Inv X pins σ H s) (h : ∀ p ∈ pins', s.heap.get? p.1 = some p.2 ∧ H p.1 = none ∧ p.1 ≠ X.env.locals ∧ p.1 ∉ X.fs ∧ ∀ v, p.2.data ≠ .cell v) : Inv X pins' σ H s :=
  ⟨I.ok, I.os, I.bare, I.base, I.loc, I.cell, I.free, I.freeC, fun p hp => (List.mem_append.mp hp).elim (fun z => I.pin p (List.mem_append_left _ z)) (h p), I.hok, I.len⟩
theorem nodup_ix {N : List Str} (hN : N.Nodup) {i j : Nat} {x : Str} (a : N[i]? = some x) (b : N[j]? = some x) : i = j := by
  obtain ⟨h1, e1⟩ := List.getElem?_eq_some_iff.mp a
  obtain ⟨h2, e2⟩ := List.getElem?_eq_some_iff.mp b
  exact (List.getElem_inj hN).mp (e1.trans e2.symm)
theorem store_ok2 {M : Model} {A : Around} {E : Value → Shared → Prop} {i : Nat} {x : Str} {v : V} {u : Value} {Q : Unit → Shared → Prop} (I : Inv X pins σ H s) (hN : X.N.Nodup) (hi : X.N[i]? = some x) (hx : Loc X.env.scope x) (r : RelV v u)
    (h : ∀ s', Inv X pins (σ.set i (some v)) H s' → (∃ a, Heap.SameBut a s.heap s'.heap ∧ (a = X.env.locals ∨ X.env.cells.lookup x = some a)) → Q () s') (hf : X.fn x = true ∨ X.env.scope.names.lookup x = some .local := by first | exact .inl rfl | exact .inr rfl | assumption) : wpAny M A (storeName X.env x u) Q E s := by
  obtain ⟨m, hn, hl⟩ := id I.loc
  have hcls : (X.env.scope.kind == .class || (X.env.scope.kind == .module && X.env.locals != X.env.globals)) = false := by rw [I.ok.kind]; rfl
  have hiσ : i < σ.length := by rw [I.len]; exact (List.getElem?_eq_some_iff.mp hi).1
  have cne := I.cne
  have tracked : ∀ {a : Addr} {h' : Heap}, (∃ o, s.heap.get? a = some o ∧ H a = none) → Heap.SameBut a s.heap h' → HOk X.prog X.w H h' := fun {a h'} ha hs b ob e => by
    obtain ⟨_, _, hfree⟩ := ha
    refine (I.hok b ob e).stay (fun c w' hc q => (hs.2 c ?_).trans q) (fun _ q => q) fun _ _ q => q
    rintro rfl
    rcases hc with rfl | hc
    · rw [hfree] at e; cases e
    · rw [hfree] at hc; cases hc
  rcases hx with hk | hk
  · refine wpAny_storeName_local hk hn (fun h' hn' hs => ?_) hcls
    obtain ⟨oL, _, _, hoL, _⟩ := id hn
    refine h _ ⟨I.ok, I.os, I.bare, ⟨fun b o e n hb hx => ?_, fun b o e n hb hx => ?_, I.base.free, fun b o e hx => ?_, I.base.tups, I.base.frzs, I.base.tbls⟩, ⟨_, hn', fun j y v' e1 e2 e3 => ?_⟩, fun y c e => ?_, I.free, I.freeC, fun p hp => ?_, tracked ⟨oL, hoL, I.free⟩ hs, by simpa using I.len⟩ ⟨_, hs, .inl rfl⟩
    · exact (hs.2 b (Nat.ne_of_lt (Nat.lt_of_lt_of_le (Heap.lt_size e) I.ok.above))).trans (I.base.keep b o e n hb hx)
    · obtain ⟨sl, e1⟩ := I.base.slot b o e n hb hx
      exact ⟨sl, (hs.2 b (Nat.ne_of_lt (Nat.lt_of_lt_of_le (Heap.lt_size e) I.ok.above))).trans e1⟩
    · obtain ⟨o', e1⟩ := I.base.there b o e hx
      exact ⟨o', (hs.2 b (Nat.ne_of_lt (Nat.lt_of_lt_of_le (Heap.lt_size e) I.ok.above))).trans e1⟩
    · by_cases hj : j = i
      · subst hj
        rw [hi] at e1; cases e1
        rw [List.getElem?_set_self hiσ] at e2
        cases e2
        exact ⟨u, r, .inl ⟨hk, by simp⟩⟩
      · rw [List.getElem?_set_ne (Ne.symm hj)] at e2
        obtain ⟨u', r', q⟩ := hl j y v' e1 e2 e3
        refine ⟨u', r', ?_⟩
        rcases q with ⟨k, e⟩ | ⟨k, c, e, z⟩
        · refine .inl ⟨k, ?_⟩
          have : y ≠ x := fun e => hj (nodup_ix hN e1 (e ▸ hi))
          simp [this, e]
        · exact .inr ⟨k, c, e, z.sameBut hs (cne y c e)⟩
    · obtain ⟨w', z⟩ := I.cell y c e
      exact ⟨w', z.sameBut hs (cne y c e)⟩
    · obtain ⟨e, n, ne, nf, d⟩ := I.pin p hp
      exact ⟨(hs.2 p.1 ne).trans e, n, ne, nf, d⟩
  · have hfn : X.fn x = true := by
      rcases hf with z | z
      · exact z
      · rw [z] at hk; cases hk
    obtain ⟨c, hc⟩ := I.ok.has x (.inl hk)
    obtain ⟨w', z⟩ := I.cell x c hc
    refine wpAny_storeName_cell I.ok.kind hk hc z (fun h' hc' hs => ?_)
    obtain ⟨oc, hoc, hocd⟩ := id z
    refine h { s with heap := h' } ⟨I.ok, I.os, I.bare, ⟨fun b o e n hb hx => ?_, fun b o e n hb hx => ?_, I.base.free, fun b o e hx => ?_, I.base.tups, I.base.frzs, I.base.tbls⟩, ⟨m, hn.sameBut hs (Ne.symm (cne x c hc)), fun j y v' e1 e2 e3 => ?_⟩, fun y c' e => ?_, I.free, I.freeC, fun p hp => ?_, tracked ⟨oc, hoc, I.freeC x c hc⟩ hs, by simpa using I.len⟩ ⟨c, hs, .inr hc⟩
    · exact (hs.2 b (Nat.ne_of_lt (Nat.lt_of_lt_of_le (Heap.lt_size e) (I.ok.cab x c hfn hc)))).trans (I.base.keep b o e n hb hx)
    · obtain ⟨sl, e1⟩ := I.base.slot b o e n hb hx
      exact ⟨sl, (hs.2 b (Nat.ne_of_lt (Nat.lt_of_lt_of_le (Heap.lt_size e) (I.ok.cab x c hfn hc)))).trans e1⟩
    · obtain ⟨o', e1⟩ := I.base.there b o e hx
      exact ⟨o', (hs.2 b (Nat.ne_of_lt (Nat.lt_of_lt_of_le (Heap.lt_size e) (I.ok.cab x c hfn hc)))).trans e1⟩
    · by_cases hj : j = i
      · subst hj
        rw [hi] at e1; cases e1
        rw [List.getElem?_set_self hiσ] at e2
        cases e2
        exact ⟨u, r, .inr ⟨.inl hk, c, hc, hc'⟩⟩
      · rw [List.getElem?_set_ne (Ne.symm hj)] at e2
        obtain ⟨u', r', q⟩ := hl j y v' e1 e2 e3
        refine ⟨u', r', ?_⟩
        rcases q with q | ⟨k, c', e, z'⟩
        · exact .inl q
        · refine .inr ⟨k, c', e, z'.sameBut hs ?_⟩
          rintro rfl
          exact hj (nodup_ix hN e1 (I.ok.inj _ _ _ e hc ▸ hi))
    · by_cases hcc : c' = c
      · subst hcc; exact ⟨_, hc'⟩
      · obtain ⟨w2, z2⟩ := I.cell y c' e
        exact ⟨w2, z2.sameBut hs hcc⟩
    · obtain ⟨e, n, ne, nf, d⟩ := I.pin p hp
      refine ⟨(hs.2 p.1 ?_).trans e, n, ne, nf, d⟩
      intro q
      rw [q, hoc] at e
      have q' : oc = p.2 := Option.some.inj e
      exact d w' (by rw [← q']; exact hocd)
theorem store_ok {M : Model} {A : Around} {E : Value → Shared → Prop} {i : Nat} {x : Str} {v : V} {u : Value} {Q : Unit → Shared → Prop} (I : Inv X pins σ H s) (hN : X.N.Nodup) (hi : X.N[i]? = some x) (hx : Loc X.env.scope x) (r : RelV v u)
    (h : ∀ s', Inv X pins (σ.set i (some v)) H s' → Q () s') (hf : X.fn x = true ∨ X.env.scope.names.lookup x = some .local := by first | exact .inl rfl | exact .inr rfl | assumption) : wpAny M A (storeName X.env x u) Q E s :=
  store_ok2 I hN hi hx r (fun s' I' _ => h s' I') hf
theorem Inv.call' {s' : Shared} {ch : List Addr} (I : Inv X pins σ H s) (ho : s'.os = s.os) (u : Un (frs X.stack) ch H H' s.heap s'.heap) (hok : HOk X.prog X.w H' s'.heap) (hg : AllBare s'.gens)
    (hch : ∀ b ∈ ch, (b ∈ X.ex ∨ X.s₀.heap.objs.size ≤ b) ∧ b ≠ X.env.locals ∧ (∀ x c, X.env.cells.lookup x = some c → c ≠ b) ∧ ∀ p ∈ X.pn ++ pins, p.1 ≠ b) : Inv X pins σ H' s' := by
  obtain ⟨h', g', d', t', o'⟩ := s'
  have e : o' = s.os := ho
  subst e
  exact I.call (g' := g') (t' := t') (d' := d') u hok hg hch
end
abbrev XK := Value → Option Addr → Hp → Prop
abbrev St := List (Option V)
abbrev VK := V → Hp → Prop
abbrev TE := St → Hp → VK → Prop
abbrev TT := St → Hp → (Bool → Hp → Prop) → Prop
abbrev TA := St → Hp → (List V → Hp → Prop) → Prop
structure Ends where
  nx : St → Hp → Prop
  rt : VK
  bk : St → Hp → Prop := fun _ _ => False
  ct : St → Hp → Prop := fun _ _ => False
abbrev TS := Ends → St → Hp → Prop
def EP (X : Cx) (pins : List (Addr × Obj)) (σ : St) (Q : VK) (u : Value) (s' : Shared) : Prop := ∃ v H', Inv X pins σ H' s' ∧ RelV v u ∧ Q v H'
def TP (X : Cx) (pins : List (Addr × Obj)) (σ : St) (Q : Bool → Hp → Prop) (b : Bool) (s' : Shared) : Prop := ∃ H', Inv X pins σ H' s' ∧ Q b H'
def AP (X : Cx) (pins : List (Addr × Obj)) (σ : St) (Q : List V → Hp → Prop) (us : List Value) (s' : Shared) : Prop := ∃ vs H', Inv X pins σ H' s' ∧ Vals vs us ∧ Q vs H'
def SP (X : Cx) (pins : List (Addr × Obj)) (D : Ends) (f : Flow) (s' : Shared) : Prop :=
  match f with
  | .next => ∃ σ' H', Inv X pins σ' H' s' ∧ D.nx σ' H'
  | .brk => ∃ σ' H', Inv X pins σ' H' s' ∧ D.bk σ' H'
  | .cont => ∃ σ' H', Inv X pins σ' H' s' ∧ D.ct σ' H'
  | .ret u => ∃ v σ' H', Inv X pins σ' H' s' ∧ RelV v u ∧ D.rt v H'
def PE (X : Cx) (e : Expr) (t : TE) : Prop :=
  ∀ (pins : List (Addr × Obj)) (s : Shared) (σ : St) (H : Hp) (Q : VK), Inv X pins σ H s → t σ H Q → wpAny (model X.prog X.w) X.A (eval e X.env) (EP X pins σ Q) X.xe s
def PT (X : Cx) (e : Expr) (t : TT) : Prop :=
  ∀ (pins : List (Addr × Obj)) (s : Shared) (σ : St) (H : Hp) (Q : Bool → Hp → Prop), Inv X pins σ H s → t σ H Q → wpAny (model X.prog X.w) X.A (isTrue e X.env (eval e X.env)) (TP X pins σ Q) X.xe s
def PW (X : Cx) (e : Expr) (t : TT) : Prop :=
  ∀ (whole : Sem Value) (pins : List (Addr × Obj)) (s : Shared) (σ : St) (H : Hp) (Q : Bool → Hp → Prop), Inv X pins σ H s → t σ H Q → wpAny (model X.prog X.w) X.A (isTrue e X.env whole) (TP X pins σ Q) X.xe s
theorem PW.pt {X : Cx} {e : Expr} {t : TT} (h : PW X e t) : PT X e t := h _
def PA (X : Cx) (es : List Expr) (t : TA) : Prop :=
  ∀ (pos : Pos) (pins : List (Addr × Obj)) (s : Shared) (σ : St) (H : Hp) (Q : List V → Hp → Prop), Inv X pins σ H s → t σ H Q → wpAny (model X.prog X.w) X.A (spliced (backTo pos (starEach es X.env))) (AP X pins σ Q) X.xe s
def PS (X : Cx) (st : Stmt) (t : TS) : Prop :=
  ∀ (pins : List (Addr × Obj)) (s : Shared) (σ : St) (H : Hp) (D : Ends), Inv X pins σ H s → t D σ H → wpAny (model X.prog X.w) X.A (exec st X.env) (SP X pins D) X.xe s
def PSs (X : Cx) (st : List Stmt) (t : TS) : Prop :=
  ∀ (pins : List (Addr × Obj)) (s : Shared) (σ : St) (H : Hp) (D : Ends), Inv X pins σ H s → t D σ H → wpAny (model X.prog X.w) X.A (execs st X.env) (SP X pins D) X.xe s
theorem thn {α : Type} {t : Sem α} {Q Q' : α → Shared → Prop} {M : Model} {A : Around} {E : Value → Shared → Prop} {s : Shared} (h : wpAny M A t Q E s) (hQ : ∀ a s, Q a s → Q' a s) : wpAny M A t Q' E s := wpAny_mono h hQ fun _ _ x => x
end L2
namespace L2
open PySem PySem.Spec PyProof.Rows
section
variable {X : Cx}
theorem bin {a b : Expr} {ta tb : TE} (ha : PE X a ta) (hb : PE X b tb) {pins : List (Addr × Obj)} {s : Shared} {σ : St} {H : Hp} {R : V → V → Hp → Prop} (I : Inv X pins σ H s) (h : ta σ H fun x H1 => tb σ H1 fun y H2 => R x y H2)
    {α : Type} {Q : α → Shared → Prop} {f : Value → Value → Sem α}
    (hf : ∀ v u s2 x y H2, Inv X pins σ H2 s2 → RelV x v → RelV y u → R x y H2 → wpAny (model X.prog X.w) X.A (f v u) Q X.xe s2) :
    wpAny (model X.prog X.w) X.A (eval a X.env) (fun v s₁ => wpAny (model X.prog X.w) X.A (eval b X.env) (fun u s₂ => wpAny (model X.prog X.w) X.A (f v u) Q X.xe s₂) X.xe s₁) X.xe s := by
  refine thn (ha pins s σ H _ I h) fun v s1 ⟨x, H1, I1, r1, q1⟩ => ?_
  refine thn (hb pins s1 σ H1 _ I1 q1) fun u s2 ⟨y, H2, I2, r2, q2⟩ => ?_
  exact hf v u s2 x y H2 I2 r1 r2 q2
def tVar (i : Nat) : TE := fun σ H Q => ∃ v, σ[i]? = some (some v) ∧ Q v H
def tC (v : V) : TE := fun _ H Q => Q v H
theorem pe_var {i : Nat} {x : Str} {pos : Pos} (hN : X.N[i]? = some x) (hv : Vis X.env.scope x) (hd : (x == ("__debug__" : Str)) = false := by decide) (hcd : (x == ("__classdict__" : Str)) = false := by decide) : PE X (.Name x pos) (tVar i) := by
  intro pins s σ H Q I h
  obtain ⟨v, e, h⟩ := h
  obtain ⟨m, hn, hl⟩ := I.loc
  obtain ⟨u, r, l⟩ := hl i x v hN e hv
  have fin : EP X pins σ Q u s := ⟨v, H, I, r, h⟩
  rcases l with ⟨hk, hm⟩ | ⟨hk, c, hc, hcell⟩
  · exact wpAny_Name (wpAny_loadName_local I.ok.kind hk hn hm fin) hd
  · rcases hk with hk | hk
    · exact wpAny_Name (wpAny_loadName_cell I.ok.kind hk hc hcell fin) hd
    · exact wpAny_Name (wpAny_loadName_free I.ok.kind hk hc hcell fin hcd) hd
theorem pe_int {i j pos} : PE X (.Constant (.int i) j pos) (tC (.int i)) := fun _ _ _ H _ I h => wpAny_Constant_int ⟨.int i, H, I.tok _, ⟨_, rfl⟩, h⟩
theorem pe_bl {b j pos} : PE X (.Constant (.bool b) j pos) (tC (.bl b)) := fun _ _ _ H _ I h => Constant_bool ⟨.bl b, H, I, rfl, h⟩
theorem pe_str {x j pos} : PE X (.Constant (.str x) j pos) (tC (.str x)) := fun _ _ _ H _ I h => Calls.Constant_str ⟨.str x, H, I.tok _, ⟨_, rfl⟩, h⟩
def Gl (X : Cx) (x : Str) : Prop := X.env.kindOf x = some .globalImplicit
theorem ld_glob {E : Value → Shared → Prop} {pins : List (Addr × Obj)} {s : Shared} {σ : St} {H : Hp} {x : Str} {u : Value} {pos : Pos} {Q : Value → Shared → Prop} (I : Inv X pins σ H s) (hg : Gl X x) (hm : X.mg x = some u) (h : Q u s)
    (hd : (x == ("__debug__" : Str)) = false := by decide) : wpAny (model X.prog X.w) X.A (eval (.Name x pos) X.env) Q E s :=
  Calls.Name_function_global I.ok.kind hg (Calls.loadGlobal_global (by rw [I.ok.glob]; exact I.mod.glob.keeps I.bk) hm h) hd
theorem ld_blt {E : Value → Shared → Prop} {pins : List (Addr × Obj)} {s : Shared} {σ : St} {H : Hp} {x : Str} {u : Value} {pos : Pos} {Q : Value → Shared → Prop} (I : Inv X pins σ H s) (hg : Gl X x) (hm : X.mg x = none) (hv : bootBuiltins x = some u) (h : Q u s)
    (hn : x ≠ "__name__" := by decide) (hd : (x == ("__debug__" : Str)) = false := by decide) : wpAny (model X.prog X.w) X.A (eval (.Name x pos) X.env) Q E s := by
  obtain ⟨mb, h1, h2⟩ := I.mod.blt
  exact Calls.Name_function_global I.ok.kind hg (Calls.loadGlobal_builtin (by rw [I.ok.glob]; exact I.mod.glob.keeps I.bk) hm (by rw [I.ok.blt]; exact h1.keeps I.bk) ((h2 x hn).trans hv) h) hd
theorem pe_glob {x : Str} {v : V} {u : Value} {pos : Pos} (hg : Gl X x) (hm : X.mg x = some u) (r : RelV v u) (hd : (x == ("__debug__" : Str)) = false := by decide) : PE X (.Name x pos) (tC v) :=
  fun _ _ _ H _ I h => ld_glob I hg hm ⟨v, H, I, r, h⟩ hd
theorem pe_bltn {x : Str} {v : V} {u : Value} {pos : Pos} (hg : Gl X x) (hm : X.mg x = none) (hv : bootBuiltins x = some u) (r : RelV v u) (hn : x ≠ "__name__" := by decide) (hd : (x == ("__debug__" : Str)) = false := by decide) : PE X (.Name x pos) (tC v) :=
  fun _ _ _ H _ I h => ld_blt I hg hm hv ⟨v, H, I, r, h⟩ hn hd
variable {a b : Expr} {ta tb : TE} {pos : Pos}
def PC (X : Cx) (op : CmpOp) (a b : Expr) (t : TE) : Prop :=
  ∀ (pins : List (Addr × Obj)) (s : Shared) (σ : St) (H : Hp) (Q : VK), Inv X pins σ H s → t σ H Q →
    wpAny (model X.prog X.w) X.A (eval a X.env) (fun v s₁ => wpAny (model X.prog X.w) X.A (eval b X.env) (fun u s₂ => wpAny (model X.prog X.w) X.A (compareOp op v u) (EP X pins σ Q) X.xe s₂) X.xe s₁) X.xe s
theorem nobehind (b : Expr) {op : CmpOp} (h : op ≠ .In) (h2 : op ≠ .NotIn) : behindInMarks op b = false := by
  have e1 : (op == CmpOp.In) = false := by cases op <;> first | rfl | exact absurd rfl h
  have e2 : (op == CmpOp.NotIn) = false := by cases op <;> first | rfl | exact absurd rfl h2
  cases b <;> simp [behindInMarks, e1, e2]
def tB (t : TE) : TT := fun σ H Q => t σ H fun x H1 => ∃ c, x = .bl c ∧ Q c H1
theorem pt_cmp {op : CmpOp} {t : TE} (h : PC X op a b t) (h1 : behindInMarks op b = false := by first | exact nobehind _ (by decide) (by decide) | rfl) : PT X (.Compare a [op] [b] pos) (tB t) := by
  intro pins s σ H Q I hw
  refine wpAny_isTrue_Compare1 (thn (h pins s σ H _ I hw) fun v s1 h1 => thn h1 fun u s2 h2 => thn h2 fun c s3 ⟨x, H1, I1, r1, q1⟩ => ?_) h1
  obtain ⟨d, rfl, q⟩ := q1
  cases r1
  exact wpAny_truthy_bool ⟨H1, I1, q⟩
theorem pt_val {e : Expr} {t : TE} (h : PE X e t) (he : ∀ whole, isTrue e X.env whole = (do let v ← whole; standAt e.pos; holding [v] (truthy v)) := by intro _; rfl) : PT X e (tB t) := by
  intro pins s σ H Q I hw
  refine isTrue_plain (thn (h pins s σ H _ I hw) fun v s1 ⟨x, H1, I1, r1, q1⟩ => ?_) (he _)
  obtain ⟨d, rfl, q⟩ := q1
  cases r1
  exact wpAny_truthy_bool ⟨H1, I1, q⟩
variable {tA tB' : TT} {rest : List Expr}
def tAnd (t u : TT) : TT := fun σ H Q => t σ H fun c H1 => if c = true then u σ H1 Q else Q false H1
def tOr (t u : TT) : TT := fun σ H Q => t σ H fun c H1 => if c = true then Q true H1 else u σ H1 Q
def tNot (t : TT) : TT := fun σ H Q => t σ H fun c H1 => Q (!c) H1
theorem pw_and1 (ha : PT X a tA) : PW X (.BoolOp .And [a] pos) tA := by
  intro wh pins s σ H Q I h
  refine isTrue_and (thn (ha pins s σ H Q I h) fun c s1 e => ?_)
  cases c with
  | true => exact isTrue_and_nil e
  | false => exact e
theorem pw_or1 (ha : PT X a tA) : PW X (.BoolOp .Or [a] pos) tA := by
  intro wh pins s σ H Q I h
  refine isTrue_or (thn (ha pins s σ H Q I h) fun c s1 e => ?_)
  cases c with
  | false => exact isTrue_or_nil e
  | true => exact e
theorem pw_and (ha : PT X a tA) (hb : PW X (.BoolOp .And (b :: rest) pos) tB') : PW X (.BoolOp .And (a :: b :: rest) pos) (tAnd tA tB') := by
  intro wh pins s σ H Q I h
  refine isTrue_and (thn (ha pins s σ H _ I h) fun c s1 ⟨H1, I1, q1⟩ => ?_)
  cases c with
  | true => exact hb wh pins s1 σ H1 Q I1 q1
  | false => exact ⟨H1, I1, q1⟩
theorem pw_or (ha : PT X a tA) (hb : PW X (.BoolOp .Or (b :: rest) pos) tB') : PW X (.BoolOp .Or (a :: b :: rest) pos) (tOr tA tB') := by
  intro wh pins s σ H Q I h
  refine isTrue_or (thn (ha pins s σ H _ I h) fun c s1 ⟨H1, I1, q1⟩ => ?_)
  cases c with
  | true => exact ⟨H1, I1, q1⟩
  | false => exact hb wh pins s1 σ H1 Q I1 q1
theorem pt_not (ha : PT X a tA) : PT X (.UnaryOp .Not a pos) (tNot tA) := by
  intro pins s σ H Q I h
  exact isTrue_not (ha pins s σ H (fun c H1 => Q (!c) H1) I h)
def tAndV (ta tb : TE) : TE := fun σ H Q => ta σ H fun x H1 => ∃ c, x = .bl c ∧ if c = true then tb σ H1 Q else Q (.bl false) H1
def tNotV (ta : TE) : TE := fun σ H Q => ta σ H fun x H1 => ∃ c, x = .bl c ∧ Q (.bl (!c)) H1
theorem pe_one {op} {t : TE} (h : PE X a t) : PE X (.BoolOp op [a] pos) t := fun pins s σ H Q I hw => BoolOp_one (h pins s σ H Q I hw)
theorem pe_and (ha : PE X a ta) (hb : PE X (.BoolOp .And (b :: rest) pos) tb) : PE X (.BoolOp .And (a :: b :: rest) pos) (tAndV ta tb) := by
  intro pins s σ H Q I h
  refine BoolOp_and (thn (ha pins s σ H _ I h) fun v s1 ⟨x, H1, I1, r1, q1⟩ => ?_)
  obtain ⟨c, rfl, q1⟩ := q1
  cases r1
  refine wpAny_truthy_bool ?_
  cases c with
  | true => exact hb pins s1 σ H1 Q I1 q1
  | false => exact ⟨.bl false, H1, I1, rfl, q1⟩
theorem pe_not (ha : PE X a ta) : PE X (.UnaryOp .Not a pos) (tNotV ta) := by
  intro pins s σ H Q I h
  refine UnaryOp_ (thn (ha pins s σ H _ I h) fun v s1 ⟨x, H1, I1, r1, q1⟩ => ?_)
  obtain ⟨c, rfl, q1⟩ := q1
  cases r1
  exact not_of (wpAny_truthy_bool ⟨.bl (!c), H1, I1, rfl, q1⟩)
end
end L2
namespace L2
open PySem PySem.Spec PyProof.Rows
def SqL (K : PySem.W.Frag) (H : Hp) (a : Addr) (xs : List V) : Prop :=
  Rd H a (.lst xs) ∨
    ∃ (o : Obj) (its : Array Value) (n : Nat), K.lookup a = some o ∧ o.cls = .type "list" ∧ o.dict = none ∧ o.data = .seq its n ∧ its.size ≤ sizeLine ∧ Vals xs its.toList
def SqT (K : PySem.W.Frag) (H : Hp) (a : Addr) (xs : List V) : Prop :=
  Rd H a (.tup xs) ∨
    ∃ (o : Obj) (its : Array Value) (n : Nat), K.lookup a = some o ∧ o.cls = .type "tuple" ∧ o.data = .seq its n ∧ its.size ≤ sizeLine ∧ Vals xs its.toList
def absV : Value → Option V
  | .none => some .non
  | .bool b => some (.bl b)
  | .int i _ => some (.int i)
  | .str x _ => some (.str x)
  | .bytes b _ => some (.byt b)
  | .float b _ => some (.flt b)
  | .ref a => some (.ref a)
  | .type n => some (.ty n)
  | _ => none
theorem RelV.abs {x : V} {u : Value} (r : RelV x u) : absV u = some x := by
  cases x with
  | non => cases r; rfl
  | bl _ => cases r; rfl
  | int _ => obtain ⟨t, rfl⟩ := r; rfl
  | str _ => obtain ⟨t, rfl⟩ := r; rfl
  | byt _ => obtain ⟨t, rfl⟩ := r; rfl
  | flt _ => obtain ⟨t, rfl⟩ := r; rfl
  | ref _ => cases r; rfl
  | ty _ => cases r; rfl
theorem RelV.inj {x y : V} {u : Value} (r : RelV x u) (q : RelV y u) : x = y := Option.some.inj (r.abs.symm.trans q.abs)
theorem Vals.inj : ∀ {xs ys : List V} {us : List Value}, Vals xs us → Vals ys us → xs = ys
  | _, _, _, .nil, .nil => rfl
  | _, _, _, .cons r t, .cons r' t' => by rw [r.inj r', Vals.inj t t']
section
variable {X : Cx} {pins : List (Addr × Obj)} {σ : St} {H : Hp} {s : Shared} {a : Addr} {xs ys : List V}
theorem SqL.of {K : PySem.W.Frag} (h : H a = some (.lst xs)) : SqL K H a xs := .inl (.inl h)
theorem SqT.of {K : PySem.W.Frag} (h : H a = some (.tup xs)) : SqT K H a xs := .inl (.inl h)
theorem Inv.list (I : Inv X pins σ H s) (h : SqL X.K H a xs) : ∃ its : List Value, Vals xs its ∧ PlainL s.heap a its.toArray ∧ xs.length ≤ sizeLine := by
  rcases h with h | ⟨o, its, n, hk, hc, hd, hs, hz, r⟩
  · obtain ⟨z, its, n, r, e⟩ := h.ok I.hok
    exact ⟨its, r, ⟨_, n, e, rfl, rfl, rfl⟩, z⟩
  · refine ⟨its.toList, r, ⟨o, n, I.kIn a o hk, hc, hd, by simpa using hs⟩, ?_⟩
    have e := r.length
    simp only [Array.length_toList] at e
    omega
theorem Inv.tuple (I : Inv X pins σ H s) (h : SqT X.K H a xs) : ∃ its : List Value, Vals xs its ∧ IsTup s.heap a its.toArray ∧ xs.length ≤ sizeLine := by
  rcases h with h | ⟨o, its, n, hk, hc, hs, hz, r⟩
  · obtain ⟨z, its, r, p⟩ := h.ok I.hok
    exact ⟨its, r, p, z⟩
  · refine ⟨its.toList, r, ⟨o, I.kIn a o hk, hc, n, by simpa using hs⟩, ?_⟩
    have e := r.length
    simp only [Array.length_toList] at e
    omega
theorem Inv.list_inj (I : Inv X pins σ H s) (h : SqL X.K H a xs) (h' : SqL X.K H a ys) : xs = ys := by
  obtain ⟨its, r, ⟨o, n, e, _, _, d⟩, _⟩ := I.list h
  obtain ⟨its', r', ⟨o', n', e', _, _, d'⟩, _⟩ := I.list h'
  rw [e] at e'; cases e'
  rw [d] at d'
  injection d' with d1 _
  have : its = its' := by simpa using congrArg Array.toList d1
  subst this
  exact r.inj r'
theorem Inv.tuple_inj (I : Inv X pins σ H s) (h : SqT X.K H a xs) (h' : SqT X.K H a ys) : xs = ys := by
  obtain ⟨its, r, ⟨o, e, _, n, d⟩, _⟩ := I.tuple h
  obtain ⟨its', r', ⟨o', e', _, n', d'⟩, _⟩ := I.tuple h'
  rw [e] at e'; cases e'
  rw [d] at d'
  injection d' with d1 _
  have : its = its' := by simpa using congrArg Array.toList d1
  subst this
  exact r.inj r'
end
abbrev Cx.wish (X : Cx) (E : Value → Shared → Prop) : Cx := { X with xe := E }
abbrev Cx.nox (X : Cx) : Cx := X.wish fun _ _ => False
theorem Cx.Ok.wish {X : Cx} (ok : X.Ok) (E : Value → Shared → Prop) : (X.wish E).Ok :=
  ⟨ok.mod, ok.kind, ok.glob, ok.blt, ok.above, ok.inj, ok.has, ok.cab, ok.hd, ok.frames, ok.stk, ok.exf, ok.bs, ok.bsz, ok.noex, ok.exfs, ok.funs, ok.frf⟩
theorem Cx.Ok.unwish {X : Cx} {E : Value → Shared → Prop} (ok : (X.wish E).Ok) : X.Ok :=
  ⟨ok.mod, ok.kind, ok.glob, ok.blt, ok.above, ok.inj, ok.has, ok.cab, ok.hd, ok.frames, ok.stk, ok.exf, ok.bs, ok.bsz, ok.noex, ok.exfs, ok.funs, ok.frf⟩
section
variable {X : Cx} {pins : List (Addr × Obj)} {σ : St} {H : Hp} {s : Shared} {E : Value → Shared → Prop}
theorem Inv.wish (I : Inv X pins σ H s) (E : Value → Shared → Prop) : Inv (X.wish E) pins σ H s := ⟨I.ok.wish E, I.os, I.bare, I.base, I.loc, I.cell, I.free, I.freeC, I.pin, I.hok, I.len⟩
theorem Inv.unwish (I : Inv (X.wish E) pins σ H s) : Inv X pins σ H s := ⟨I.ok.unwish, I.os, I.bare, I.base, I.loc, I.cell, I.free, I.freeC, I.pin, I.hok, I.len⟩
theorem SP.unwish {D : Ends} {f : Flow} {s' : Shared} (h : SP (X.wish E) pins D f s') : SP X pins D f s' := by
  cases f with
  | next => obtain ⟨σ', H', I, q⟩ := h; exact ⟨σ', H', I.unwish, q⟩
  | brk => obtain ⟨σ', H', I, q⟩ := h; exact ⟨σ', H', I.unwish, q⟩
  | cont => obtain ⟨σ', H', I, q⟩ := h; exact ⟨σ', H', I.unwish, q⟩
  | ret u => obtain ⟨v, σ', H', I, r, q⟩ := h; exact ⟨v, σ', H', I.unwish, r, q⟩
theorem PSs.nox {st : List Stmt} {t : TS} (h : PSs X.nox st t) : PSs X st t := fun pins s σ H D I hw =>
  wpAny_mono (h pins s σ H D (I.wish _) hw) (fun _ _ q => q.unwish) fun _ _ z => False.elim z
end
section
variable {X : Cx} {st : Stmt} {rest : List Stmt} {t u : TS} {e : Expr} {te : TE} {pos : Pos}
def tNext : TS := fun D σ H => D.nx σ H
def tSeq (t u : TS) : TS := fun D σ H => t { D with nx := u D } σ H
theorem pss_nil : PSs X [] tNext := fun _ _ σ H _ I h => wpAny_execs_nil ⟨σ, H, I, h⟩
theorem pss_cons (h1 : PS X st t) (h2 : PSs X rest u) : PSs X (st :: rest) (tSeq t u) := by
  intro pins s σ H D I h
  refine wpAny_execs_cons (thn (h1 pins s σ H { D with nx := u D } I h) fun f s1 q => ?_)
  cases f with
  | next =>
    obtain ⟨σ', H', I', q⟩ := q
    exact h2 pins s1 σ' H' D I' q
  | ret v => exact q
  | brk => exact q
  | cont => exact q
theorem pss_one (h1 : PS X st t) : PSs X [st] t := by
  intro pins s σ H D I h
  refine wpAny_execs_cons (thn (h1 pins s σ H D I h) fun f s1 q => ?_)
  cases f with
  | next => exact wpAny_execs_nil q
  | ret v => exact q
  | brk => exact q
  | cont => exact q
theorem Inv.quiet {pins : List (Addr × Obj)} {σ : St} {H : Hp} {s : Shared} (I : Inv X pins σ H s) : interactive X.env = false := by simp [interactive, I.ok.kind]
def tDrop (te : TE) : TS := fun D σ H => te σ H fun _ H1 => D.nx σ H1
theorem ps_expr (he : PE X e te) (hs : swapsWith e none pos.line X.env = pure false := by rfl) : PS X (.Expr e pos) (tDrop te) := by
  intro pins s σ H D I h
  exact wpAny_Expr_any (thn (he pins s σ H _ I h) fun v s1 ⟨x, H1, I1, r1, q1⟩ => ⟨σ, H1, I1, q1⟩) I.quiet hs
def tRet (te : TE) : TS := fun D σ H => te σ H D.rt
theorem ps_ret (he : PE X e te) : PS X (.Return (some e) pos) (tRet te) := by
  intro pins s σ H D I h
  exact wpAny_Return_some (thn (he pins s σ H _ I h) fun v s1 ⟨x, H1, I1, r1, q1⟩ => ⟨x, σ, H1, I1, r1, q1⟩)
def tIfS (c : TT) (t u : TS) : TS := fun D σ H => c σ H fun b H1 => if b = true then t D σ H1 else u D σ H1
theorem ps_if {c : Expr} {a b : List Stmt} {tc : TT} (hc : PT X c tc) (ha : PSs X a t) (hb : PSs X b u) : PS X (.If c a b pos) (tIfS tc t u) := by
  intro pins s σ H D I h
  refine wpAny_If (thn (hc pins s σ H _ I h) fun d s1 ⟨H1, I1, q1⟩ => ?_)
  cases d with
  | true => exact ha pins s1 σ H1 D I1 q1
  | false => exact hb pins s1 σ H1 D I1 q1
end
abbrev TG := V → St → Hp → (St → Hp → Prop) → Prop
abbrev TGs := List V → St → Hp → (St → Hp → Prop) → Prop
def PG (X : Cx) (target : Expr) (t : TG) : Prop :=
  ∀ (pins : List (Addr × Obj)) (s : Shared) (σ : St) (H : Hp) (v : V) (u : Value) (Q : St → Hp → Prop), Inv X pins σ H s → RelV v u → t v σ H Q →
    wpAny (model X.prog X.w) X.A (assign target X.env u) (fun _ s' => ∃ σ' H', Inv X pins σ' H' s' ∧ Q σ' H') X.xe s
abbrev TSet := V → V → V → Hp → (Hp → Prop) → Prop
def PSet (X : Cx) (t : TSet) : Prop :=
  ∀ (pins : List (Addr × Obj)) (s : Shared) (σ : St) (H : Hp) (o i v : V) (ov iv u : Value) (Q : Hp → Prop), Inv X pins σ H s → RelV o ov → RelV i iv → RelV v u → t o i v H Q →
    wpAny (model X.prog X.w) X.A (setItem ov iv u) (fun _ s' => ∃ H', Inv X pins σ H' s' ∧ Q H') X.xe s
abbrev TIp := V → V → Hp → VK → Prop
section
variable {X : Cx} {pos : Pos}
def gName (i : Nat) : TG := fun v σ H Q => Q (σ.set i (some v)) H
theorem pg_name {i : Nat} {x : Str} (hN : X.N.Nodup) (hi : X.N[i]? = some x) (hx : Loc X.env.scope x) (hf : X.fn x = true ∨ X.env.scope.names.lookup x = some .local := by first | exact .inl rfl | exact .inr rfl | assumption) : PG X (.Name x pos) (gName i) := by
  intro pins s σ H v u Q I r h
  exact wpAny_assign_Name (store_ok I hN hi hx r (fun s' I' => ⟨_, H, I', h⟩) hf)
def gCons (t : TG) (u : TGs) : TGs := fun vs σ H Q => ∃ v r, vs = v :: r ∧ t v σ H fun σ' H' => u r σ' H' Q
def gTup (K : PySem.W.Frag) (n : Nat) (t : TGs) : TG := fun v σ H Q => ∃ a xs, v = .ref a ∧ SqT K H a xs ∧ xs.length = n ∧ t xs σ H Q
def gSub (to ti : TE) (t : TSet) : TG := fun v σ H Q => to σ H fun o H1 => ti σ H1 fun i H2 => t o i v H2 fun H3 => Q σ H3
theorem pg_sub {o i : Expr} {to ti : TE} {t : TSet} (ho : PE X o to) (hi : PE X i ti) (hs : PSet X t)
    (ha : ∀ v, assign (.Subscript o i pos) X.env v = (do
      let ov ← holding [v] (eval o X.env)
      let iv ← holding [v, ov] (eval i X.env)
      standAt pos
      holding [v, ov, iv] (setItem ov iv v)
      release [v, ov, iv] []) := by intro _; rfl) : PG X (.Subscript o i pos) (gSub to ti t) := by
  intro pins s σ H v u Q I r h
  rw [ha]
  refine wpAny_bind (wpAny_holding (thn (ho pins s σ H _ I h) fun ov s1 ⟨x, H1, I1, r1, q1⟩ => ?_))
  refine wpAny_bind (wpAny_holding (thn (hi pins s1 σ H1 _ I1 q1) fun iv s2 ⟨y, H2, I2, r2, q2⟩ => ?_))
  refine wpAny_bind (wpAny_standAt (wpAny_bind (wpAny_holding (thn (hs pins s2 σ H2 x y v ov iv u _ I2 r1 r2 r q2) fun _ s3 ⟨H3, I3, q3⟩ => ?_))))
  exact wpAny_release ⟨σ, H3, I3, q3⟩
def tAsg (te : TE) (g : TG) : TS := fun D σ H => te σ H fun x H1 => g x σ H1 D.nx
theorem ps_asg {tg e : Expr} {te : TE} {g : TG} (he : PE X e te) (hg : PG X tg g) (hs : swapsWithSole [tg] e pos.line X.env = pure false := by rfl) (hw : swappedStores [tg] e X.env = pure none := by rfl)
    (h1 : (assignEach [tg] X.env).map (·.2) = [assign tg X.env] := by rfl) : PS X (.Assign [tg] e pos) (tAsg te g) := by
  intro pins s σ H D I h
  refine wpAny_Assign_stores (thn (he pins s σ H _ I h) fun v s1 ⟨x, H1, I1, r1, q1⟩ => ?_) hs hw
  rw [h1]
  exact thn (hg pins s1 σ H1 x v _ I1 r1 q1) fun _ s2 q => q
theorem ps_set {i : Nat} {x : Str} {e : Expr} {te : TE} {pos' : Pos} (hN : X.N.Nodup) (hi : X.N[i]? = some x) (hx : Loc X.env.scope x) (he : PE X e te) (hs : swapsWith e (some (.Name x pos')) pos.line X.env = pure false := by rfl) (hf : X.fn x = true ∨ X.env.scope.names.lookup x = some .local := by first | exact .inl rfl | exact .inr rfl | assumption) :
    PS X (.Assign [.Name x pos'] e pos) (tAsg te (gName i)) := by
  intro pins s σ H D I h
  refine wpAny_Assign_Name (thn (he pins s σ H _ I h) fun v s1 ⟨y, H1, I1, r1, q1⟩ => ?_) hs
  exact store_ok I1 hN hi hx r1 (fun s2 I2 => ⟨_, H1, I2, q1⟩) hf
def ipI (f : Int → Int → Int) : TIp := fun x y H Q => ∃ i j, x = .int i ∧ y = .int j ∧ Q (.int (f i j)) H
end
section
variable {X : Cx} {pos : Pos}
def tWhile (c : TT) (tb : TS) : TS := fun D σ H => ∃ W : Nat → St → Hp → Prop, (∃ m, W m σ H) ∧ ∀ m σ H, W m σ H →
  c σ H fun b H1 => if b = true then ∃ N : St → Hp → Prop, (∀ σ' H', N σ' H' → ∃ m', m' < m ∧ W m' σ' H') ∧ tb { D with nx := N, ct := N, bk := D.nx } σ H1 else D.nx σ H1
theorem ps_while {c : Expr} {body : List Stmt} {tc : TT} {tb : TS} (hp : PassesOwn (model X.prog X.w) X.A X.env X.xe) (hc : PT X c tc) (hb : PSs X body tb) : PS X (.While c body [] pos) (tWhile tc tb) := by
  intro pins s σ H D I h
  obtain ⟨W, ⟨m0, w0⟩, turn⟩ := h
  refine wpAny_While (codeAny_whileLoop (fun n s' => ∃ σ' H', Inv X pins σ' H' s' ∧ W n σ' H') ?_ m0 ⟨σ, H, I, w0⟩)
  rintro n s1 ⟨σ1, H1, I1, w1⟩
  refine wpAny_passesOwn hp (thn (hc pins s1 σ1 H1 _ I1 (turn n σ1 H1 w1)) fun b s2 ⟨H2, I2, q2⟩ => ?_)
  cases b with
  | true =>
    obtain ⟨N, hN, q2⟩ := q2
    rw [if_pos rfl]
    refine wpAny_passesOwn hp (thn (hb pins s2 σ1 H2 _ I2 q2) fun f s3 q3 => ?_)
    cases f with
    | next =>
      obtain ⟨σ3, H3, I3, n3⟩ := q3
      obtain ⟨m', hm, w3⟩ := hN σ3 H3 n3
      exact ⟨m', hm, σ3, H3, I3, w3⟩
    | cont =>
      obtain ⟨σ3, H3, I3, n3⟩ := q3
      obtain ⟨m', hm, w3⟩ := hN σ3 H3 n3
      exact ⟨m', hm, σ3, H3, I3, w3⟩
    | brk => exact q3
    | ret v => exact q3
  | false =>
    rw [if_neg Bool.false_ne_true]
    exact wpAny_execs_nil ⟨σ1, H2, I2, q2⟩
end
structure It where
  go : Nat → Hp → Prop
  yld : Nat → Hp → V → Hp → Prop
  stop : Nat → Hp → Prop
def FpOk (X : Cx) (pins : List (Addr × Obj)) (H : Hp) (b : Addr) : Prop :=
  H b = none ∧ b ≠ X.env.locals ∧ b ∉ X.fs ∧ (b ∈ X.ex ∨ X.s₀.heap.objs.size ≤ b) ∧ (∀ x c, X.env.cells.lookup x = some c → c ≠ b) ∧ ∀ p ∈ X.pn ++ pins, p.1 ≠ b
theorem Inv.fpOk {X : Cx} {pins : List (Addr × Obj)} {σ : St} {H H' : Hp} {s : Shared} {b : Addr} (I : Inv X pins σ H s) (hb : s.heap.objs.size ≤ b) (hn : H' b = none) : FpOk X pins H' b := by
  refine ⟨hn, Nat.ne_of_gt (Nat.lt_of_lt_of_le I.lt hb), I.nofs hb, .inr (Nat.le_trans I.sz hb), fun x c e z => ?_, fun p hp z => ?_⟩
  · obtain ⟨v, q⟩ := I.cell x c e
    exact absurd (Nat.lt_of_lt_of_le q.lt (by rw [z]; exact hb)) (Nat.lt_irrefl _)
  · exact absurd (Nat.lt_of_lt_of_le (Heap.lt_size (I.pin p hp).1) (by rw [z]; exact hb)) (Nat.lt_irrefl _)
structure Turn (P : Program) (w : World) (K : PySem.W.Frag) (tg : Expr) (J : It) (fp : List Addr) (it : Addr) (tn : Nat → Heap → Prop) : Prop where
  mem : it ∈ fp
  obj : ∀ i h, tn i h → ∀ b ∈ fp, ∃ o, h.get? b = some o ∧ ∀ v, o.data ≠ .cell v
  keep : ∀ i h h', tn i h → (∀ b ∈ fp, ∀ o, h.get? b = some o → h'.get? b = some o) → tn i h'
  item : ∀ (X : Cx), X.prog = P → X.w = w → X.K = K → X.calm = true → ∀ (i : Nat) (pins : List (Addr × Obj)) (s : Shared) (σ : St) (H : Hp) (E : Value → Shared → Prop), Inv X pins σ H s → (∀ b ∈ fp, FpOk X pins H b) → tn i s.heap → J.go i H →
    wpAny (model P w) X.A (pyNext (.ref it)) (fun r s1 => ∃ u, r = some u ∧
      wpAny (model P w) X.A (letOwnedTupleGo tg (.ref it) u) (fun _ s2 => ∃ x H', Inv X pins σ H' s2 ∧ RelV x u ∧ J.yld i H x H' ∧ tn (i + 1) s2.heap ∧ ∀ b ∈ fp, H' b = none) E s1) E s
  done : ∀ (X : Cx), X.prog = P → X.w = w → X.K = K → X.calm = true → ∀ (i : Nat) (pins : List (Addr × Obj)) (s : Shared) (σ : St) (H : Hp) (E : Value → Shared → Prop), Inv X pins σ H s → (∀ b ∈ fp, FpOk X pins H b) → tn i s.heap → J.stop i H →
    wpAny (model P w) X.A (pyNext (.ref it)) (fun r s1 => r = none ∧ Inv X pins σ H s1) E s
  self : ∀ (A : Around) (i : Nat) (s : Shared) (Q : Value → Shared → Prop) (E : Value → Shared → Prop), tn i s.heap → Q (.ref it) s → wpAny (model P w) A (pyIter (.ref it)) Q E s
abbrev TI := St → Hp → (It → Hp → Prop) → Prop
def PIE (X : Cx) (pins : List (Addr × Obj)) (σ : St) (tg : Expr) (R : It → Hp → Prop) (itv : Value) (s2 : Shared) : Prop :=
  ∃ (it : Addr) (fp : List Addr) (tn : Nat → Heap → Prop) (J : It) (H' : Hp), itv = .ref it ∧ Inv X pins σ H' s2 ∧ Turn X.prog X.w X.K tg J fp it tn ∧ tn 0 s2.heap ∧ (∀ b ∈ fp, FpOk X pins H' b) ∧ R J H'
def PI (X : Cx) (tg iter : Expr) (wi : TI) : Prop :=
  ∀ (pins : List (Addr × Obj)) (s : Shared) (σ : St) (H : Hp) (R : It → Hp → Prop), Inv X pins σ H s → wi σ H R →
    wpAny (model X.prog X.w) X.A (eval iter X.env) (fun v s1 => wpAny (model X.prog X.w) X.A (pyIter v) (PIE X pins σ tg R) X.xe s1) X.xe s
theorem go_of {M : Model} {A : Around} {E : Value → Shared → Prop} {s : Shared} {tg : Expr} {it : Addr} {u : Value} {o : Obj} {n : String} {vs : Array Value} {Q : Unit → Shared → Prop} (ho : s.heap.get? it = some o) (hc : o.cls = .type n) (hd : o.data = .fields vs)
    (hn : ["enumerate", "zip", "dict_itemiterator", "dict_reverseitemiterator", "odict_iterator", "itertools.zip_longest", "itertools.pairwise"].contains n = false) (hQ : Q () s) : wpAny M A (letOwnedTupleGo tg (.ref it) u) Q E s := by
  unfold letOwnedTupleGo
  cases tg <;> first
    | exact wpAny_pure hQ
    | (cases u <;> first
        | exact wpAny_pure hQ
        | (refine wpAny_bind (wpAny_load ho ?_)
           rw [hc, hd]
           show wpAny M A (if (["enumerate", "zip", "dict_itemiterator", "dict_reverseitemiterator", "odict_iterator", "itertools.zip_longest", "itertools.pairwise"].contains n && vs[0]? == some (rawInt _)) = true then _ else _) Q E s
           rw [if_neg (by intro h; rw [hn, Bool.false_and] at h; cases h)]
           exact wpAny_pure hQ))
def Itl (K : PySem.W.Frag) (a : Addr) : It :=
  ⟨fun i H => ∃ xs x, SqL K H a xs ∧ xs[i]? = some x, fun i H x H' => H' = H ∧ ∀ xs, SqL K H a xs → xs[i]? = some x, fun i H => ∃ xs, SqL K H a xs ∧ xs.length ≤ i⟩
def Itt (K : PySem.W.Frag) (a : Addr) : It :=
  ⟨fun i H => ∃ xs x, SqT K H a xs ∧ xs[i]? = some x, fun i H x H' => H' = H ∧ ∀ xs, SqT K H a xs → xs[i]? = some x, fun i H => ∃ xs, SqT K H a xs ∧ xs.length ≤ i⟩
def Itr (lo : Int) (n : Nat) : It := ⟨fun i _ => i < n, fun i H x H' => H' = H ∧ x = .int (lo + i), fun i _ => n ≤ i⟩
theorem turn_list {P : Program} {w : World} {K : PySem.W.Frag} {tg : Expr} (a it : Addr) : Turn P w K tg (Itl K a) [it] it (fun i h => h.IsListIter it a i) where
  mem := by simp
  obj := fun i h st b hb => by
    have e : b = it := by simpa using hb
    subst e
    obtain ⟨o, e, c, d⟩ := st
    exact ⟨o, e, fun v z => by rw [d] at z; cases z⟩
  keep := fun i h h' st k => st.at fun o e => k it (by simp) o e
  item := by
    intro X hP hw hK hc i pins s σ H E I hf st hg
    subst hP hw hK
    obtain ⟨xs, x, hq, hx⟩ := hg
    obtain ⟨its, rv, p, hz⟩ := I.list hq
    obtain ⟨u, hu, ru⟩ := rv.get hx
    obtain ⟨f0, f1, f2, f3, f4, f5⟩ := hf it (by simp)
    refine wpAny_pyNext_list_item st p.isList (x := u) (by simpa using hu) fun h' st' sb => ?_
    have I1 : Inv X pins σ H { s with heap := h' } := I.turned (t' := s.toks) (fun b o hb e => (sb.2 b hb).trans e) f0 f1 f3 f4 f5
    obtain ⟨o, e, c, d⟩ := id st'
    exact ⟨u, rfl, go_of (s := { s with heap := h' }) e c d (by decide) ⟨x, H, I1, ru, ⟨rfl, fun ys hy => by rw [I.list_inj hy hq]; exact hx⟩, st', fun b hb => (hf b hb).1⟩⟩
  done := by
    intro X hP hw hK hc i pins s σ H E I hf st hg
    subst hP hw hK
    obtain ⟨xs, hq, hx⟩ := hg
    obtain ⟨its, rv, p, hz⟩ := I.list hq
    obtain ⟨f0, f1, f2, f3, f4, f5⟩ := hf it (by simp)
    have hl := rv.length
    exact next_list_end (I.hnx hc f3) st p.isList (by simp; omega) fun h' eb => ⟨rfl, I.turned (t' := s.toks) (fun b o hb e => eb b o hb e) f0 f1 f3 f4 f5⟩
  self := fun _ _ _ _ _ st h => wpAny_pyIter_listiter st h
theorem turn_tuple {P : Program} {w : World} {K : PySem.W.Frag} {tg : Expr} (a it : Addr) : Turn P w K tg (Itt K a) [it] it (fun i h => h.IsTupleIter it a i) where
  mem := by simp
  obj := fun i h st b hb => by
    have e : b = it := by simpa using hb
    subst e
    obtain ⟨o, e, c, d⟩ := st
    exact ⟨o, e, fun v z => by rw [d] at z; cases z⟩
  keep := fun i h h' st k => st.at fun o e => k it (by simp) o e
  item := by
    intro X hP hw hK hc i pins s σ H E I hf st hg
    subst hP hw hK
    obtain ⟨xs, x, hq, hx⟩ := hg
    obtain ⟨its, rv, p, hz⟩ := I.tuple hq
    obtain ⟨u, hu, ru⟩ := rv.get hx
    obtain ⟨f0, f1, f2, f3, f4, f5⟩ := hf it (by simp)
    refine wpAny_pyNext_tuple_item st (show s.heap.IsTuple a its.toArray from p) (x := u) (by simpa using hu) fun h' st' sb => ?_
    have I1 : Inv X pins σ H { s with heap := h' } := I.turned (t' := s.toks) (fun b o hb e => (sb.2 b hb).trans e) f0 f1 f3 f4 f5
    obtain ⟨o, e, c, d⟩ := id st'
    exact ⟨u, rfl, go_of (s := { s with heap := h' }) e c d (by decide) ⟨x, H, I1, ru, ⟨rfl, fun ys hy => by rw [I.tuple_inj hy hq]; exact hx⟩, st', fun b hb => (hf b hb).1⟩⟩
  done := by
    intro X hP hw hK hc i pins s σ H E I hf st hg
    subst hP hw hK
    obtain ⟨xs, hq, hx⟩ := hg
    obtain ⟨its, rv, p, hz⟩ := I.tuple hq
    obtain ⟨f0, f1, f2, f3, f4, f5⟩ := hf it (by simp)
    have hl := rv.length
    exact next_tuple_end (I.hnx hc f3) st (show s.heap.IsTuple a its.toArray from p) (by simp; omega) fun h' eb => ⟨rfl, I.turned (t' := s.toks) (fun b o hb e => eb b o hb e) f0 f1 f3 f4 f5⟩
  self := fun _ _ _ _ _ st h => wpAny_pyIter_tupleiter st h
theorem turn_range {P : Program} {w : World} {K : PySem.W.Frag} {tg : Expr} (it : Addr) (lo : Int) (n : Nat) : Turn P w K tg (Itr lo n) [it] it (fun i h => IsRangeIter h it (lo + (i : Nat) * 1) ((n : Int) - (i : Nat)) 1) where
  mem := by simp
  obj := fun i h st b hb => by
    have e : b = it := by simpa using hb
    subst e
    exact ⟨_, st, fun v z => by
      have z' : Data.fields _ = Data.cell v := z
      cases z'⟩
  keep := fun i h h' st k => k it (by simp) _ st
  item := by
    intro X hP hw hK hc i pins s σ H E I hf st hg
    subst hP hw hK
    obtain ⟨f0, f1, f2, f3, f4, f5⟩ := hf it (by simp)
    refine range_item hg st fun v h' tk hv st' kk => ?_
    obtain ⟨t, rfl⟩ := hv
    have I1 : Inv X pins σ H { s with heap := h', toks := tk } := I.turned (fun b o hb e => kk b o (by simpa using hb) e) f0 f1 f3 f4 f5
    refine ⟨_, rfl, go_of (s := { s with heap := h', toks := tk }) (n := "range_iterator") st' rfl rfl (by decide) ⟨.int (lo + i), H, I1, ⟨t, ?_⟩, ⟨rfl, rfl⟩, st', fun b hb => (hf b hb).1⟩⟩
    rw [Int.mul_one]
  done := by
    intro X hP hw hK hc i pins s σ H E I hf st hg
    subst hP hw hK
    obtain ⟨f0, f1, f2, f3, f4, f5⟩ := hf it (by simp)
    exact next_range_end (I.hnx hc f3) st (by have : n ≤ i := hg; omega) fun h' eb => ⟨rfl, I.turned (t' := s.toks) (fun b o hb e => eb b o hb e) f0 f1 f3 f4 f5⟩
  self := fun _ _ _ _ _ st h => wpAny_pyIter_rangeiter st h
end L2
namespace L2
open PySem PySem.Spec PyProof.Rows
section
variable {X : Cx} {tg : Expr}
theorem range_it {pins : List (Addr × Obj)} {σ : St} {H : Hp} {s : Shared} {R : It → Hp → Prop} {E : Value → Shared → Prop} {lo hi : Int} {t u v : Tok} {tk : Nat} (I : Inv X pins σ H s) (h1 : -(2 ^ 62) ≤ lo) (h2 : lo < 2 ^ 62) (h3 : -(2 ^ 62) ≤ hi) (h4 : hi < 2 ^ 62)
    (q : R (Itr lo (hi - lo).toNat) H) : wpAny (model X.prog X.w) X.A (pyIter (.ref s.heap.objs.size)) (PIE X pins σ tg R) E { s with heap := s.heap.push { cls := .type "range", data := .fields #[.int lo t, .int hi u, .int 1 v] }, toks := tk } := by
  refine wpAny_pyIter_range (IsRange.new ..) (small_one h1 h2 h3 h4) ?_
  have I1 : Inv X pins σ H { s with heap := s.heap.push { cls := .type "range", data := .fields #[.int lo t, .int hi u, .int 1 v] }, toks := tk } := I.kept fun b o e => Heap.get?_push_of_some _ e
  refine ⟨(s.heap.push { cls := .type "range", data := .fields #[.int lo t, .int hi u, .int 1 v] }).objs.size, [(s.heap.push { cls := .type "range", data := .fields #[.int lo t, .int hi u, .int 1 v] }).objs.size], _, _, H, rfl,
    I1.kept (t' := tk) fun b o e => Heap.get?_push_of_some _ e, turn_range _ lo (hi - lo).toNat, ?_, fun b hb => ?_, q⟩
  · have e1 : lo + ((0 : Nat) : Int) * 1 = lo := by simp
    have e2 : (((hi - lo).toNat : Nat) : Int) - ((0 : Nat) : Int) = Builtin.Range.rangeSize lo hi 1 := by rw [rangeSize_one]; split <;> omega
    show IsRangeIter _ _ (lo + ((0 : Nat) : Int) * 1) ((((hi - lo).toNat : Nat) : Int) - ((0 : Nat) : Int)) 1
    rw [e1, e2]
    exact Heap.get?_push_size _ rfl
  · have e : b = (s.heap.push { cls := .type "range", data := .fields #[.int lo t, .int hi u, .int 1 v] }).objs.size := by simpa using hb
    subst e
    exact I1.fpOk (Nat.le_refl _) (I1.hok.fresh (Nat.le_refl _))
def iRng1 (ta : TA) : TI := fun σ H R => ta σ H fun vs H1 => ∃ j : Int, vs = [.int j] ∧ -(2 ^ 62) ≤ j ∧ j < 2 ^ 62 ∧ R (Itr 0 j.toNat) H1
theorem pi_range1 {a : Expr} {ta : TA} {p pos : Pos} (hg : Gl X "range") (hm : X.mg "range" = none) (ha : PA X [a] ta) (hs : starEach [a] X.env = [(false, eval a X.env)] := by rfl) : PI X tg (.Call (.Name "range" p) [a] [] pos) (iRng1 ta) := by
  intro pins s σ H R I h
  refine Call_ (ld_blt I hg hm boot_range (PyProof.Rows.callWith_type1 (thn (ha pos pins s σ H _ I h) fun us s1 ⟨vs, H1, I1, r1, q1⟩ => ?_) hs rfl))
  obtain ⟨j, e, q1, q2, q⟩ := q1
  subst e
  cases r1 with
  | cons r rr =>
    cases rr
    obtain ⟨t, rfl⟩ := r
    exact call_range_1 (range_it I1 (by omega) (by omega) q1 q2 (by simpa using q))
def tFor (wi : TI) (g : TG) (tb : TS) : TS := fun D σ H => wi σ H fun J H1 => ∃ W : Nat → Nat → St → Hp → Prop, (∃ m, W 0 m σ H1) ∧ ∀ i m σ H, W i m σ H →
  (J.stop i H ∧ D.nx σ H) ∨ (J.go i H ∧ ∃ N : St → Hp → Prop, (∀ σ' H', N σ' H' → ∃ m', m' < m ∧ W (i + 1) m' σ' H') ∧ ∀ x H', J.yld i H x H' → g x σ H' fun σ2 H2 => tb { D with nx := N, ct := N, bk := D.nx } σ2 H2)
def pinsAt (fp : List Addr) (h : Heap) : List (Addr × Obj) := fp.filterMap fun b => (h.get? b).map fun o => (b, o)
theorem mem_pinsAt {fp : List Addr} {h : Heap} {b : Addr} {o : Obj} (hb : b ∈ fp) (e : h.get? b = some o) : (b, o) ∈ pinsAt fp h := List.mem_filterMap.mpr ⟨b, hb, by rw [e]; rfl⟩
theorem of_pinsAt {fp : List Addr} {h : Heap} {p : Addr × Obj} (hp : p ∈ pinsAt fp h) : p.1 ∈ fp ∧ h.get? p.1 = some p.2 := by
  obtain ⟨b, hb, e⟩ := List.mem_filterMap.mp hp
  cases q : h.get? b with
  | none => rw [q] at e; cases e
  | some o =>
    rw [q] at e
    have e' : (b, o) = p := Option.some.inj e
    subst e'
    exact ⟨hb, q⟩
theorem Inv.pinned {pins : List (Addr × Obj)} {σ : St} {H : Hp} {s : Shared} {fp : List Addr} (I : Inv X pins σ H s) (hf : ∀ b ∈ fp, FpOk X pins H b) (ho : ∀ b ∈ fp, ∃ o, s.heap.get? b = some o ∧ ∀ v, o.data ≠ .cell v) : Inv X (pins ++ pinsAt fp s.heap) σ H s :=
  I.pins_of fun p hp => (List.mem_append.mp hp).elim (fun z => I.pin p (List.mem_append_right _ z)) fun z => by
    obtain ⟨hb, e⟩ := of_pinsAt z
    obtain ⟨f0, f1, f2, _⟩ := hf p.1 hb
    obtain ⟨o, e', d⟩ := ho p.1 hb
    rw [e] at e'; cases e'
    exact ⟨e, f0, f1, f2, d⟩
theorem Inv.unpinned {pins pl : List (Addr × Obj)} {σ : St} {H : Hp} {s : Shared} (I : Inv X (pins ++ pl) σ H s) : Inv X pins σ H s := I.pins_of fun p hp => I.pin p (List.mem_append_right _ (List.mem_append_left _ hp))
theorem ps_for {iter : Expr} {body : List Stmt} {wi : TI} {g : TG} {tb : TS} {pos : Pos} (hp : PassesOwn (model X.prog X.w) X.A X.env X.xe) (hc : X.calm = true) (hi : PI X tg iter wi) (hg : PG X tg g) (hb : PSs X body tb)
    (hs : ∀ x, foldedSetIterable iter X.env x = pure x := by intro _; rfl) : PS X (.For tg iter body [] pos) (tFor wi g tb) := by
  intro pins s σ H D I h
  refine wpAny_For (thn (hi pins s σ H _ I h) fun v s1 h1 => thn h1 fun itv s2 h2 => ?_) hs
  obtain ⟨it, fp, tn, J, H2, e, I2, T, st2, f2, W, ⟨m0, w0⟩, turn⟩ := h2
  subst e
  have stat : ∀ {H' : Hp}, (∀ b ∈ fp, H' b = none) → ∀ b ∈ fp, FpOk X pins H' b := fun hn b hb => ⟨hn b hb, (f2 b hb).2⟩
  refine codeAny_forLoop_any (fun n s' => ∃ i σ' H', Inv X pins σ' H' s' ∧ tn i s'.heap ∧ (∀ b ∈ fp, H' b = none) ∧ W i n σ' H') ?_ m0 ⟨0, σ, H2, I2, st2, fun b hb => (f2 b hb).1, w0⟩
  rintro n s3 ⟨i, σ3, H3, I3, st3, fr3, w3⟩
  rcases turn i n σ3 H3 w3 with ⟨stop, qn⟩ | ⟨go, N, hN, step⟩
  · refine wpAny_passesOwn hp (thn (T.done X rfl rfl rfl hc i pins s3 σ3 H3 X.xe I3 (stat fr3) st3 stop) fun r s4 ⟨hr, I4⟩ => ?_)
    subst hr
    exact wpAny_execs_nil ⟨σ3, H3, I4, qn⟩
  · refine wpAny_passesOwn hp (thn (T.item X rfl rfl rfl hc i pins s3 σ3 H3 X.xe I3 (stat fr3) st3 go) fun r s4 ⟨u, hr, h4⟩ => ?_)
    subst hr
    refine wpAny_passesOwn hp (thn h4 fun _ s5 ⟨x, H5, I5, r5, y5, st5, fr5⟩ => ?_)
    have I5' := I5.pinned (stat fr5) (T.obj _ _ st5)
    refine wpAny_passesOwn hp (thn (hg _ s5 σ3 H5 x u _ I5' r5 (step x H5 y5)) fun _ s6 ⟨σ6, H6, I6, q6⟩ => ?_)
    refine wpAny_passesOwn hp (thn (hb _ s6 σ6 H6 _ I6 q6) fun f s7 q7 => ?_)
    have again : ∀ {σ7 : St} {H7 : Hp}, Inv X (pins ++ pinsAt fp s5.heap) σ7 H7 s7 → N σ7 H7 → ∃ m, m < n ∧ ∃ i σ' H', Inv X pins σ' H' s7 ∧ tn i s7.heap ∧ (∀ b ∈ fp, H' b = none) ∧ W i m σ' H' := fun {σ7 H7} I7 n7 => by
      obtain ⟨m', hm, w7⟩ := hN σ7 H7 n7
      refine ⟨m', hm, i + 1, σ7, H7, I7.unpinned, T.keep _ _ _ st5 fun b hb o e => (I7.pin (b, o) (List.mem_append_right _ (List.mem_append_right _ (mem_pinsAt hb e)))).1, fun b hb => ?_, w7⟩
      obtain ⟨o, e, d⟩ := T.obj _ _ st5 b hb
      exact (I7.pin (b, o) (List.mem_append_right _ (List.mem_append_right _ (mem_pinsAt hb e)))).2.1
    cases f with
    | next => obtain ⟨σ7, H7, I7, n7⟩ := q7; exact again I7 n7
    | cont => obtain ⟨σ7, H7, I7, n7⟩ := q7; exact again I7 n7
    | brk => obtain ⟨σ7, H7, I7, q7⟩ := q7; exact ⟨σ7, H7, I7.unpinned, q7⟩
    | ret v => obtain ⟨x7, σ7, H7, I7, r7, q7⟩ := q7; exact ⟨x7, σ7, H7, I7.unpinned, r7, q7⟩
end
theorem for_list {K : PySem.W.Frag} {a : Addr} {xs : List V} {g : TG} {tb : TS} {D : Ends} {σ : St} {H : Hp} (Pv : Nat → St → Hp → Prop) (h0 : Pv 0 σ H) (hl : ∀ i σ H, i ≤ xs.length → Pv i σ H → SqL K H a xs)
    (hs : ∀ i x σ H, xs[i]? = some x → Pv i σ H → g x σ H fun σ2 H2 => tb { D with nx := Pv (i + 1), ct := Pv (i + 1), bk := D.nx } σ2 H2) (hd : ∀ σ H, Pv xs.length σ H → D.nx σ H) :
    ∃ W : Nat → Nat → St → Hp → Prop, (∃ m, W 0 m σ H) ∧ ∀ i m σ H, W i m σ H →
      ((Itl K a).stop i H ∧ D.nx σ H) ∨ ((Itl K a).go i H ∧ ∃ N : St → Hp → Prop, (∀ σ' H', N σ' H' → ∃ m', m' < m ∧ W (i + 1) m' σ' H') ∧ ∀ x H', (Itl K a).yld i H x H' → g x σ H' fun σ2 H2 => tb { D with nx := N, ct := N, bk := D.nx } σ2 H2) := by
  refine ⟨fun i m σ H => m = xs.length - i ∧ i ≤ xs.length ∧ Pv i σ H, ⟨xs.length, by simp, Nat.zero_le _, h0⟩, ?_⟩
  rintro i m σ H ⟨rfl, hi, p⟩
  have q := hl i σ H hi p
  by_cases hlt : i < xs.length
  · refine .inr ⟨⟨xs, xs[i], q, by simp [hlt]⟩, Pv (i + 1), fun σ' H' p' => ⟨xs.length - (i + 1), by omega, rfl, hlt, p'⟩, fun x H' y => ?_⟩
    obtain ⟨e, y⟩ := y
    subst e
    exact hs i x σ _ (y xs q) p
  · have e : i = xs.length := by omega
    subst e
    exact .inl ⟨⟨xs, q, Nat.le_refl _⟩, hd σ H p⟩
theorem for_tup {K : PySem.W.Frag} {a : Addr} {xs : List V} {g : TG} {tb : TS} {D : Ends} {σ : St} {H : Hp} (Pv : Nat → St → Hp → Prop) (h0 : Pv 0 σ H) (hl : ∀ i σ H, i ≤ xs.length → Pv i σ H → SqT K H a xs)
    (hs : ∀ i x σ H, xs[i]? = some x → Pv i σ H → g x σ H fun σ2 H2 => tb { D with nx := Pv (i + 1), ct := Pv (i + 1), bk := D.nx } σ2 H2) (hd : ∀ σ H, Pv xs.length σ H → D.nx σ H) :
    ∃ W : Nat → Nat → St → Hp → Prop, (∃ m, W 0 m σ H) ∧ ∀ i m σ H, W i m σ H →
      ((Itt K a).stop i H ∧ D.nx σ H) ∨ ((Itt K a).go i H ∧ ∃ N : St → Hp → Prop, (∀ σ' H', N σ' H' → ∃ m', m' < m ∧ W (i + 1) m' σ' H') ∧ ∀ x H', (Itt K a).yld i H x H' → g x σ H' fun σ2 H2 => tb { D with nx := N, ct := N, bk := D.nx } σ2 H2) := by
  refine ⟨fun i m σ H => m = xs.length - i ∧ i ≤ xs.length ∧ Pv i σ H, ⟨xs.length, by simp, Nat.zero_le _, h0⟩, ?_⟩
  rintro i m σ H ⟨rfl, hi, p⟩
  have q := hl i σ H hi p
  by_cases hlt : i < xs.length
  · refine .inr ⟨⟨xs, xs[i], q, by simp [hlt]⟩, Pv (i + 1), fun σ' H' p' => ⟨xs.length - (i + 1), by omega, rfl, hlt, p'⟩, fun x H' y => ?_⟩
    obtain ⟨e, y⟩ := y
    subst e
    exact hs i x σ _ (y xs q) p
  · have e : i = xs.length := by omega
    subst e
    exact .inl ⟨⟨xs, q, Nat.le_refl _⟩, hd σ H p⟩
theorem for_range {lo : Int} {n : Nat} {g : TG} {tb : TS} {D : Ends} {σ : St} {H : Hp} (Pv : Nat → St → Hp → Prop) (h0 : Pv 0 σ H)
    (hs : ∀ i σ H, i < n → Pv i σ H → g (.int (lo + i)) σ H fun σ2 H2 => tb { D with nx := Pv (i + 1), ct := Pv (i + 1), bk := D.nx } σ2 H2) (hd : ∀ σ H, Pv n σ H → D.nx σ H) :
    ∃ W : Nat → Nat → St → Hp → Prop, (∃ m, W 0 m σ H) ∧ ∀ i m σ H, W i m σ H →
      ((Itr lo n).stop i H ∧ D.nx σ H) ∨ ((Itr lo n).go i H ∧ ∃ N : St → Hp → Prop, (∀ σ' H', N σ' H' → ∃ m', m' < m ∧ W (i + 1) m' σ' H') ∧ ∀ x H', (Itr lo n).yld i H x H' → g x σ H' fun σ2 H2 => tb { D with nx := N, ct := N, bk := D.nx } σ2 H2) := by
  refine ⟨fun i m σ H => m = n - i ∧ i ≤ n ∧ Pv i σ H, ⟨n, by simp, Nat.zero_le _, h0⟩, ?_⟩
  rintro i m σ H ⟨rfl, hi, p⟩
  by_cases hlt : i < n
  · refine .inr ⟨hlt, Pv (i + 1), fun σ' H' p' => ⟨n - (i + 1), by omega, rfl, hlt, p'⟩, fun x H' y => ?_⟩
    obtain ⟨e, y⟩ := y
    subst e y
    exact hs i σ _ hlt p
  · have e : i = n := by omega
    subst e
    exact .inl ⟨Nat.le_refl _, hd σ H p⟩
end L2
namespace L2
open PySem PySem.Spec PyProof.Rows
abbrev R2 := V → V → Hp → VK → Prop
def OpR (X : Cx) (f : Value → Value → Sem Value) (r : R2) : Prop :=
  ∀ (pins : List (Addr × Obj)) (s : Shared) (σ : St) (H : Hp) (x y : V) (v u : Value) (Q : VK), Inv X pins σ H s → RelV x v → RelV y u → r x y H Q →
    wpAny (model X.prog X.w) X.A (f v u) (EP X pins σ Q) X.xe s
def UnR (X : Cx) (f : Value → Sem Value) (r : V → Hp → VK → Prop) : Prop :=
  ∀ (pins : List (Addr × Obj)) (s : Shared) (σ : St) (H : Hp) (x : V) (v : Value) (Q : VK), Inv X pins σ H s → RelV x v → r x H Q →
    wpAny (model X.prog X.w) X.A (f v) (EP X pins σ Q) X.xe s
def CallR (X : Cx) (f : Value) (r : List V → Hp → VK → Prop) : Prop :=
  ∀ (pins : List (Addr × Obj)) (s : Shared) (σ : St) (H : Hp) (xs : List V) (us : List Value) (Q : VK), Inv X pins σ H s → Vals xs us → r xs H Q →
    wpAny (model X.prog X.w) X.A (call f us) (EP X pins σ Q) X.xe s
def TruR (X : Cx) (r : V → Hp → (Bool → Hp → Prop) → Prop) : Prop :=
  ∀ (pins : List (Addr × Obj)) (s : Shared) (σ : St) (H : Hp) (x : V) (v : Value) (Q : Bool → Hp → Prop), Inv X pins σ H s → RelV x v → r x H Q →
    wpAny (model X.prog X.w) X.A (truthy v) (TP X pins σ Q) X.xe s
def tOp (r : R2) (ta tb : TE) : TE := fun σ H Q => ta σ H fun x H1 => tb σ H1 fun y H2 => r x y H2 Q
def tUn (r : V → Hp → VK → Prop) (ta : TE) : TE := fun σ H Q => ta σ H fun x H1 => r x H1 Q
def rI (C : Int → Int → Prop) (g : Int → Int → V) : R2 := fun x y H Q => ∃ i j, x = .int i ∧ y = .int j ∧ C i j ∧ Q (g i j) H
def rI0 (g : Int → Int → V) : R2 := fun x y H Q => ∃ i j, x = .int i ∧ y = .int j ∧ Q (g i j) H
def rU (g : Int → V) : V → Hp → VK → Prop := fun x H Q => ∃ i, x = .int i ∧ Q (g i) H
section
variable {X : Cx} {a b c : Expr} {ta tb tc : TE} {pos : Pos}
theorem binT (ha : PE X a ta) (hb : PE X b tb) {pins : List (Addr × Obj)} {s : Shared} {σ : St} {H : Hp} {R : V → V → Hp → Prop} (I : Inv X pins σ H s)
    (h : ta σ H fun x H1 => tb σ H1 fun y H2 => R x y H2) {Q : Value → Shared → Prop} {f : Value → Value → Sem Value}
    (hf : ∀ v u s2 x y H2, Inv X pins σ H2 s2 → RelV x v → RelV y u → R x y H2 → wpAny (model X.prog X.w) X.A (f v u) Q X.xe s2) :
    wpAny (model X.prog X.w) X.A (eval a X.env) (fun v s₁ => wpAny (model X.prog X.w) X.A (eval b X.env) (fun u s₂ => wpAny (model X.prog X.w) X.A (f v u) Q X.xe s₂) X.xe s₁) X.xe s := by
  refine thn (ha pins s σ H _ I h) fun v s1 ⟨x, H1, I1, r1, q1⟩ => ?_
  refine thn (hb pins s1 σ H1 _ I1 q1) fun u s2 ⟨y, H2, I2, r2, q2⟩ => ?_
  exact hf v u s2 x y H2 I2 r1 r2 q2
theorem pe_op {op : Operator} {r : R2} (ho : OpR X (binaryOp op) r) (ha : PE X a ta) (hb : PE X b tb) : PE X (.BinOp a op b pos) (tOp r ta tb) := by
  intro pins s σ H Q I h
  exact wpAny_BinOp (binT ha hb I h fun v u s2 x y H2 I2 rx ry q => ho pins s2 σ H2 x y v u Q I2 rx ry q)
theorem pe_un {op : UnaryOp} {r : V → Hp → VK → Prop} (ho : UnR X (unaryOp op) r) (ha : PE X a ta) : PE X (.UnaryOp op a pos) (tUn r ta) := by
  intro pins s σ H Q I h
  exact UnaryOp_ (thn (ha pins s σ H _ I h) fun v s1 ⟨x, H1, I1, r1, q1⟩ => ho pins s1 σ H1 x v Q I1 r1 q1)
theorem opI {f : Value → Value → Sem Value} {C : Int → Int → Prop} {g : Int → Int → Int}
    (rule : ∀ (i j : Int) (t u : Tok) (s : Shared) (Q : Value → Shared → Prop) (E : Value → Shared → Prop), C i j → Q (.int (g i j) s.toks) { s with toks := s.toks + 1 } → wpAny (model X.prog X.w) X.A (f (.int i t) (.int j u)) Q E s) :
    OpR X f (rI C fun i j => .int (g i j)) := by
  intro pins s σ H x y v u Q I rx ry h
  obtain ⟨i, j, rfl, rfl, hc, q⟩ := h
  obtain ⟨t, rfl⟩ := rx
  obtain ⟨t', rfl⟩ := ry
  exact rule i j t t' s _ _ hc ⟨.int (g i j), H, I.tok _, ⟨_, rfl⟩, q⟩
theorem opI0 {f : Value → Value → Sem Value} {g : Int → Int → Int}
    (rule : ∀ (i j : Int) (t u : Tok) (s : Shared) (Q : Value → Shared → Prop) (E : Value → Shared → Prop), Q (.int (g i j) s.toks) { s with toks := s.toks + 1 } → wpAny (model X.prog X.w) X.A (f (.int i t) (.int j u)) Q E s) :
    OpR X f (rI0 fun i j => .int (g i j)) := by
  intro pins s σ H x y v u Q I rx ry h
  obtain ⟨i, j, rfl, rfl, q⟩ := h
  obtain ⟨t, rfl⟩ := rx
  obtain ⟨t', rfl⟩ := ry
  exact rule i j t t' s _ _ ⟨.int (g i j), H, I.tok _, ⟨_, rfl⟩, q⟩
theorem opB0 {f : Value → Value → Sem Value} {g : Int → Int → Bool}
    (rule : ∀ (i j : Int) (t u : Tok) (s : Shared) (Q : Value → Shared → Prop) (E : Value → Shared → Prop), Q (.bool (g i j)) s → wpAny (model X.prog X.w) X.A (f (.int i t) (.int j u)) Q E s) :
    OpR X f (rI0 fun i j => .bl (g i j)) := by
  intro pins s σ H x y v u Q I rx ry h
  obtain ⟨i, j, rfl, rfl, q⟩ := h
  obtain ⟨t, rfl⟩ := rx
  obtain ⟨t', rfl⟩ := ry
  exact rule i j t t' s _ _ ⟨.bl (g i j), H, I, rfl, q⟩
def CDiv (i j : Int) : Prop := 0 < j ∧ j < 1073741824
def CMul (i j : Int) : Prop := (-(2 ^ 64) < i ∧ i < 2 ^ 64) ∨ (-(2 ^ 64) < j ∧ j < 2 ^ 64)
theorem CMul.ok {i j : Int} (h : CMul i j) : IntMulOk i j := by
  rcases h with ⟨h1, h2⟩ | ⟨h1, h2⟩
  · exact .of_left (intBits_le_64 h1 h2)
  · exact .of_right (intBits_le_64 h1 h2)
theorem op_add : OpR X (binaryOp .Add) (rI0 fun i j => .int (i + j)) := opI0 fun _ _ _ _ _ _ _ q => add_int q
theorem op_sub : OpR X (binaryOp .Sub) (rI0 fun i j => .int (i - j)) := opI0 fun _ _ _ _ _ _ _ q => sub_int q
theorem op_mul : OpR X (binaryOp .Mult) (rI CMul fun i j => .int (i * j)) := opI fun _ _ _ _ _ _ _ hc q => mul_int q hc.ok
theorem op_fdiv : OpR X (binaryOp .FloorDiv) (rI CDiv fun i j => .int (i / j)) := opI fun i j _ _ _ _ _ hc q => by
  have h1 : (0 : Int) < j := hc.1
  have h2 : j < 1073741824 := hc.2
  exact floordiv_int (by omega) (by rw [Int.fdiv_eq_ediv_of_nonneg i (by omega)]; exact q) (.inl (PyProof.noPylong_small (by omega)))
theorem op_mod : OpR X (binaryOp .Mod) (rI (fun _ j => 0 < j) fun i j => .int (i % j)) := opI fun i j _ _ _ _ _ hc q => by
  have h1 : (0 : Int) < j := hc
  exact mod_int' (by omega) (by rw [Int.fmod_eq_emod_of_nonneg i (by omega)]; exact q)
theorem unI {f : Value → Sem Value} {g : Int → Int}
    (rule : ∀ (i : Int) (t : Tok) (s : Shared) (Q : Value → Shared → Prop) (E : Value → Shared → Prop), Q (.int (g i) s.toks) { s with toks := s.toks + 1 } → wpAny (model X.prog X.w) X.A (f (.int i t)) Q E s) :
    UnR X f (rU fun i => .int (g i)) := by
  intro pins s σ H x v Q I rx h
  obtain ⟨i, rfl, q⟩ := h
  obtain ⟨t, rfl⟩ := rx
  exact rule i t s _ _ ⟨.int (g i), H, I.tok _, ⟨_, rfl⟩, q⟩
theorem un_neg : UnR X (unaryOp .USub) (rU fun i => .int (-i)) := unI fun _ _ _ _ _ q => neg_int q
end
def scal : V → V → Bool
  | .non, .non => true | .non, .int _ => true | .int _, .non => true | .non, .bl _ => true | .bl _, .non => true | .non, .str _ => true | .str _, .non => true
  | .int _, .int _ => true | .bl _, .bl _ => true | .str _, .str _ => true | .byt _, .byt _ => true
  | .int _, .str _ => true | .str _, .int _ => true | .bl _, .str _ => true | .str _, .bl _ => true
  | _, _ => false
def rEq : R2 := fun x y H Q => scal x y = true ∧ Q (.bl (decide (x = y))) H
def rNe : R2 := fun x y H Q => scal x y = true ∧ Q (.bl (!decide (x = y))) H
theorem dec_int {i j : Int} : decide (V.int i = V.int j) = (i == j) := by
  rw [Bool.eq_iff_iff]
  simp
theorem dec_bl {i j : Bool} : decide (V.bl i = V.bl j) = (i == j) := by
  rw [Bool.eq_iff_iff]
  simp
theorem dec_str {i j : Str} : decide (V.str i = V.str j) = (i == j) := by
  rw [Bool.eq_iff_iff]
  simp
theorem dec_byt {i j : Array UInt8} : decide (V.byt i = V.byt j) = (i.toList == j.toList) := by
  rw [Bool.eq_iff_iff]
  cases i
  cases j
  simp
section
variable {X : Cx} {a b c : Expr} {ta tb tc : TE} {pos : Pos}
theorem fin_bl {pins : List (Addr × Obj)} {σ : St} {H : Hp} {s : Shared} {Q : VK} {k k' : Bool} (I : Inv X pins σ H s) (q : Q (.bl k) H) (e : k = k') : EP X pins σ Q (.bool k') s := by
  subst e
  exact ⟨.bl k, H, I, rfl, q⟩
theorem op_eq : OpR X (compareOp .Eq) rEq := by
  intro pins s σ H x y v u Q I rx ry h
  obtain ⟨hs, q⟩ := h
  cases x with
  | non =>
    cases rx
    cases y with
    | non => cases ry; exact PySem.EqNone.eq_none_none (fin_bl I q (by simp))
    | bl j => cases ry; exact PySem.EqNone.eq_none_bool (fin_bl I q (by simp))
    | int j => obtain ⟨t', rfl⟩ := ry; exact PySem.EqNone.eq_none_int (fin_bl I q (by simp))
    | str j => obtain ⟨t', rfl⟩ := ry; exact PySem.EqNone.eq_none_str (fin_bl I q (by simp))
    | _ => exact absurd (show false = true from hs) Bool.false_ne_true
  | bl i =>
    cases rx
    cases y with
    | non => cases ry; exact PySem.EqNone.eq_bool_none (fin_bl I q (by simp))
    | bl j => cases ry; exact eq_bool (fin_bl I q dec_bl)
    | str j => obtain ⟨t', rfl⟩ := ry; exact PySem.EqMixed.eq_bool_str (fin_bl I q (by simp))
    | _ => exact absurd (show false = true from hs) Bool.false_ne_true
  | int i =>
    obtain ⟨t, rfl⟩ := rx
    cases y with
    | non => cases ry; exact PySem.EqNone.eq_int_none (fin_bl I q (by simp))
    | int j => obtain ⟨t', rfl⟩ := ry; exact eq_int (fin_bl I q dec_int)
    | str j => obtain ⟨t', rfl⟩ := ry; exact PySem.EqMixed.eq_int_str (fin_bl I q (by simp))
    | _ => exact absurd (show false = true from hs) Bool.false_ne_true
  | str i =>
    obtain ⟨t, rfl⟩ := rx
    cases y with
    | non => cases ry; exact PySem.EqNone.eq_str_none (fin_bl I q (by simp))
    | bl j => cases ry; exact PySem.EqMixed.eq_str_bool (fin_bl I q (by simp))
    | int j => obtain ⟨t', rfl⟩ := ry; exact PySem.EqMixed.eq_str_int (fin_bl I q (by simp))
    | str j => obtain ⟨t', rfl⟩ := ry; exact eq_str (fin_bl I q dec_str)
    | _ => exact absurd (show false = true from hs) Bool.false_ne_true
  | byt i =>
    obtain ⟨t, rfl⟩ := rx
    cases y with
    | byt j => obtain ⟨t', rfl⟩ := ry; exact PySem.W.eq_bytes (fin_bl I q dec_byt)
    | _ => exact absurd (show false = true from hs) Bool.false_ne_true
  | _ => cases y <;> exact absurd (show false = true from hs) Bool.false_ne_true
theorem op_ne : OpR X (compareOp .NotEq) rNe := by
  intro pins s σ H x y v u Q I rx ry h
  obtain ⟨hs, q⟩ := h
  cases x with
  | non =>
    cases rx
    cases y with
    | non => cases ry; exact PySem.EqNone.ne_none_none (fin_bl I q (by simp))
    | bl j => cases ry; exact PySem.EqNone.ne_none_bool (fin_bl I q (by simp))
    | int j => obtain ⟨t', rfl⟩ := ry; exact PySem.EqNone.ne_none_int (fin_bl I q (by simp))
    | str j => obtain ⟨t', rfl⟩ := ry; exact PySem.EqNone.ne_none_str (fin_bl I q (by simp))
    | _ => exact absurd (show false = true from hs) Bool.false_ne_true
  | bl i =>
    cases rx
    cases y with
    | non => cases ry; exact PySem.EqNone.ne_bool_none (fin_bl I q (by simp))
    | bl j => cases ry; exact ne_bool (fin_bl I q (congrArg not dec_bl))
    | str j => obtain ⟨t', rfl⟩ := ry; exact PySem.EqMixed.ne_bool_str (fin_bl I q (by simp))
    | _ => exact absurd (show false = true from hs) Bool.false_ne_true
  | int i =>
    obtain ⟨t, rfl⟩ := rx
    cases y with
    | non => cases ry; exact PySem.EqNone.ne_int_none (fin_bl I q (by simp))
    | int j => obtain ⟨t', rfl⟩ := ry; exact ne_int (fin_bl I q (congrArg not dec_int))
    | str j => obtain ⟨t', rfl⟩ := ry; exact PySem.EqMixed.ne_int_str (fin_bl I q (by simp))
    | _ => exact absurd (show false = true from hs) Bool.false_ne_true
  | str i =>
    obtain ⟨t, rfl⟩ := rx
    cases y with
    | non => cases ry; exact PySem.EqNone.ne_str_none (fin_bl I q (by simp))
    | bl j => cases ry; exact PySem.EqMixed.ne_str_bool (fin_bl I q (by simp))
    | int j => obtain ⟨t', rfl⟩ := ry; exact PySem.EqMixed.ne_str_int (fin_bl I q (by simp))
    | str j => obtain ⟨t', rfl⟩ := ry; exact ne_str (fin_bl I q (congrArg not dec_str))
    | _ => exact absurd (show false = true from hs) Bool.false_ne_true
  | byt i =>
    obtain ⟨t, rfl⟩ := rx
    cases y with
    | byt j => obtain ⟨t', rfl⟩ := ry; exact PySem.W.ne_bytes (fin_bl I q (congrArg not dec_byt))
    | _ => exact absurd (show false = true from hs) Bool.false_ne_true
  | _ => cases y <;> exact absurd (show false = true from hs) Bool.false_ne_true
theorem op_lt : OpR X (compareOp .Lt) (rI0 fun i j => .bl (decide (i < j))) := opB0 fun _ _ _ _ _ _ _ q => lt_int q
theorem op_gt : OpR X (compareOp .Gt) (rI0 fun i j => .bl (decide (j < i))) := opB0 fun _ _ _ _ _ _ _ q => gt_int q
theorem op_lt_str : OpR X (compareOp .Lt) (fun x y H Q => ∃ i j, x = .str i ∧ y = .str j ∧ Q (.bl (decide (i.cps.toList < j.cps.toList))) H) := by
  intro pins s σ H x y v u Q I rx ry h
  obtain ⟨i, j, rfl, rfl, q⟩ := h
  obtain ⟨t, rfl⟩ := rx
  obtain ⟨t', rfl⟩ := ry
  exact lt_str (fin_bl I q rfl)
theorem op_in_str : OpR X (compareOp .In) (fun x y H Q => ∃ i j, x = .str i ∧ y = .str j ∧ Q (.bl (!(Builtin.Str.occurrences j i 0 j.length 1).isEmpty)) H) := by
  intro pins s σ H x y v u Q I rx ry h
  obtain ⟨i, j, rfl, rfl, q⟩ := h
  obtain ⟨t, rfl⟩ := rx
  obtain ⟨t', rfl⟩ := ry
  exact in_str (fin_bl I q rfl)
theorem OpR.or {f : Value → Value → Sem Value} {r r' : R2} (h : OpR X f r) (h' : OpR X f r') : OpR X f (fun x y H Q => r x y H Q ∨ r' x y H Q) := by
  intro pins s σ H x y v u Q I rx ry q
  rcases q with q | q
  · exact h pins s σ H x y v u Q I rx ry q
  · exact h' pins s σ H x y v u Q I rx ry q
theorem nomark (b : Expr) {op : CmpOp} (h : op ≠ .In := by decide) (h2 : op ≠ .NotIn := by decide) : behindInMarks op b = false := by
  have e1 : (op == CmpOp.In) = false := by cases op <;> first | rfl | exact absurd rfl h
  have e2 : (op == CmpOp.NotIn) = false := by cases op <;> first | rfl | exact absurd rfl h2
  cases b <;> simp [behindInMarks, e1, e2]
theorem pe_cmpR {op : CmpOp} {r : R2} (ho : OpR X (compareOp op) r) (ha : PE X a ta) (hb : PE X b tb) (hm : behindInMarks op b = false) : PE X (.Compare a [op] [b] pos) (tOp r ta tb) := by
  intro pins s σ H Q I h
  exact wpAny_Compare1 (binT ha hb I h fun v u s2 x y H2 I2 rx ry q => ho pins s2 σ H2 x y v u Q I2 rx ry q) hm
def tTest (t : TE) : TT := fun σ H Q => t σ H fun x H' => ∃ k, x = .bl k ∧ Q k H'
theorem pt_cmpR {op : CmpOp} {r : R2} (ho : OpR X (compareOp op) r) (ha : PE X a ta) (hb : PE X b tb) (hm : behindInMarks op b = false) : PT X (.Compare a [op] [b] pos) (tTest (tOp r ta tb)) := by
  intro pins s σ H Q I h
  refine wpAny_isTrue_Compare1 (thn (ha pins s σ H _ I h) fun v s1 ⟨x, H1, I1, r1, q1⟩ => thn (hb pins s1 σ H1 _ I1 q1) fun u s2 ⟨y, H2, I2, r2, q2⟩ =>
    thn (ho pins s2 σ H2 x y v u _ I2 r1 r2 q2) fun c s3 ⟨z, H3, I3, r3, k, e, q3⟩ => ?_) hm
  subst e
  cases r3
  exact wpAny_truthy_bool ⟨H3, I3, q3⟩
def TruV (K : PySem.W.Frag) (x : V) (H : Hp) (k : Bool) : Prop :=
  match x with
  | .non => k = false
  | .bl b => k = b
  | .int i => k = (i != 0)
  | .str y => y.length ≤ sizeLine ∧ k = ((y.length : Int) != 0)
  | .byt y => y.size ≤ sizeLine ∧ k = ((y.size : Int) != 0)
  | .ref p => (∃ xs, SqL K H p xs ∧ k = !xs.isEmpty) ∨ (∃ xs, SqT K H p xs ∧ k = !xs.isEmpty) ∨ ∃ kvs, H p = some (.dK kvs) ∧ k = !kvs.isEmpty
  | _ => False
theorem isEmpty_kv {κ : Type} {kvs : List (κ × V)} {vs : List (κ × Value)} (r : KV kvs vs) : (!vs.isEmpty) = !kvs.isEmpty := by
  cases r <;> rfl
theorem isEmpty_of {xs : List V} {its : List Value} (r : Vals xs its) : (!its.toArray.isEmpty) = !xs.isEmpty := by
  cases r <;> simp
theorem line63 : (sizeLine : Nat) < 2 ^ 63 := by rw [sizeLine_eq]; decide
theorem tru_ok : TruR X (fun x H Q => ∃ k, TruV X.K x H k ∧ Q k H) := by
  intro pins s σ H x v Q I rx h
  obtain ⟨k, e, q⟩ := h
  have hl := line63
  have hs : sizeLine = 16777216 := sizeLine_eq
  cases x with
  | non =>
    cases rx
    have e' : k = false := e
    subst e'
    exact truthy_none ⟨H, I, q⟩
  | bl b =>
    cases rx
    have e' : k = b := e
    subst e'
    exact wpAny_truthy_bool ⟨H, I, q⟩
  | int i =>
    obtain ⟨t, rfl⟩ := rx
    have e' : k = (i != 0) := e
    subst e'
    exact PySem.P.truthy_int ⟨H, I, q⟩
  | str y =>
    obtain ⟨t, rfl⟩ := rx
    obtain ⟨hy, e'⟩ : y.length ≤ sizeLine ∧ k = ((y.length : Int) != 0) := e
    subst e'
    exact PySem.P.truthy_str (by omega) ⟨H, I.tok _, q⟩
  | byt y =>
    obtain ⟨t, rfl⟩ := rx
    obtain ⟨hy, e'⟩ : y.size ≤ sizeLine ∧ k = ((y.size : Int) != 0) := e
    subst e'
    exact PySem.W.truthy_bytes (by omega) ⟨H, I.tok _, q⟩
  | ref p =>
    cases rx
    have e' : (∃ xs, SqL X.K H p xs ∧ k = !xs.isEmpty) ∨ (∃ xs, SqT X.K H p xs ∧ k = !xs.isEmpty) ∨ ∃ kvs, H p = some (.dK kvs) ∧ k = !kvs.isEmpty := e
    rcases e' with ⟨xs, hx, e'⟩ | ⟨xs, hx, e'⟩ | ⟨kvs, hx, e'⟩
    · subst e'
      obtain ⟨its, r, pl, hz⟩ := I.list hx
      have hlen := r.length
      exact wpAny_truthy_list pl.isList (by simp only [List.size_toArray]; omega) ⟨H, I.tok _, by rw [isEmpty_of r]; exact q⟩
    · subst e'
      obtain ⟨its, r, pl, hz⟩ := I.tuple hx
      have hlen := r.length
      exact truthy_tuple pl (by simp only [List.size_toArray]; omega) ⟨H, I.tok _, by rw [isEmpty_of r]; exact q⟩
    · subst e'
      obtain ⟨hz, hS, vs, r, m⟩ : kvs.length ≤ sizeLine ∧ (p == sysModules) = false ∧ ∃ vs, KV kvs vs ∧ s.heap.DictOf (mixKind X.prog X.w) p vs := I.hok p _ hx
      have hlen : kvs.length = vs.length := Paired.length r
      exact wpAny_truthy_dict hS m (by omega) ⟨H, I.tok _, by rw [isEmpty_kv r]; exact q⟩
  | _ => exact (show False from e).elim
theorem op_add_str : OpR X (binaryOp .Add) (fun x y H Q => ∃ i j, x = .str i ∧ y = .str j ∧ i.length + j.length ≤ sizeLine ∧ Q (.str (i ++ j)) H) := by
  intro pins s σ H x y v u Q I rx ry h
  obtain ⟨i, j, rfl, rfl, hz, q⟩ := h
  obtain ⟨t, rfl⟩ := rx
  obtain ⟨t', rfl⟩ := ry
  exact add_str (fun t' tk => ⟨.str (i ++ j), H, I.tok _, ⟨_, rfl⟩, q⟩) hz
theorem vals1 {x : V} {us : List Value} (r : Vals [x] us) : ∃ u, us = [u] ∧ RelV x u := by
  cases r with
  | cons r1 r2 => cases r2; exact ⟨_, rfl, r1⟩
theorem vals2 {x y : V} {us : List Value} (r : Vals [x, y] us) : ∃ u w', us = [u, w'] ∧ RelV x u ∧ RelV y w' := by
  cases r with
  | cons r1 r2 =>
    cases r2 with
    | cons r3 r4 => cases r4; exact ⟨_, _, rfl, r1, r3⟩
theorem call_int1 : CallR X (.type "int") (fun xs H Q => (∃ i, xs = [.int i] ∧ Q (.int i) H) ∨ ∃ k, xs = [.bl k] ∧ Q (.int (if k then 1 else 0)) H) := by
  intro pins s σ H xs us Q I r h
  rcases h with ⟨i, rfl, q⟩ | ⟨k, rfl, q⟩
  · obtain ⟨u, rfl, t, rfl⟩ := vals1 r
    exact call_int_int ⟨.int i, H, I, ⟨_, rfl⟩, q⟩
  · obtain ⟨u, rfl, r1⟩ := vals1 r
    cases r1
    exact call_int_bool ⟨.int (if k then 1 else 0), H, I.tok _, ⟨_, rfl⟩, q⟩
def LenV (K : PySem.W.Frag) (x : V) (H : Hp) (n : Nat) : Prop :=
  match x with
  | .str y => y.length ≤ sizeLine ∧ n = y.length
  | .byt y => y.size ≤ sizeLine ∧ n = y.size
  | .ref p => (∃ xs, SqL K H p xs ∧ n = xs.length) ∨ ∃ xs, SqT K H p xs ∧ n = xs.length
  | _ => False
theorem call_len : CallR X (.builtin "len") (fun xs H Q => ∃ x n, xs = [x] ∧ LenV X.K x H n ∧ Q (.int n) H) := by
  intro pins s σ H xs us Q I r h
  obtain ⟨x, n, rfl, e, q⟩ := h
  obtain ⟨u, rfl, rx⟩ := vals1 r
  have hl := line63
  have hs : sizeLine = 16777216 := sizeLine_eq
  cases x with
  | str y =>
    obtain ⟨t, rfl⟩ := rx
    obtain ⟨hy, e'⟩ : y.length ≤ sizeLine ∧ n = y.length := e
    subst e'
    exact len_str (by omega) ⟨.int _, H, I.tok _, ⟨_, rfl⟩, q⟩
  | byt y =>
    obtain ⟨t, rfl⟩ := rx
    obtain ⟨hy, e'⟩ : y.size ≤ sizeLine ∧ n = y.size := e
    subst e'
    exact PySem.W.len_bytes (by omega) ⟨.int _, H, I.tok _, ⟨_, rfl⟩, q⟩
  | ref p =>
    cases rx
    have e' : (∃ xs, SqL X.K H p xs ∧ n = xs.length) ∨ ∃ xs, SqT X.K H p xs ∧ n = xs.length := e
    rcases e' with ⟨xs, hx, e'⟩ | ⟨xs, hx, e'⟩
    · subst e'
      obtain ⟨its, r', pl, hz⟩ := I.list hx
      have hlen := r'.length
      exact Calls.call_len_list pl.isList (by simp only [List.size_toArray]; omega) ⟨.int xs.length, H, I.tok _, ⟨_, by simp only [List.size_toArray]; rw [hlen]⟩, q⟩
    · subst e'
      obtain ⟨its, r', pl, hz⟩ := I.tuple hx
      have hlen := r'.length
      exact len_tuple pl (by simp only [List.size_toArray]; omega) ⟨.int xs.length, H, I.tok _, ⟨_, by simp only [List.size_toArray]; rw [hlen]⟩, q⟩
  | _ => exact (show False from e).elim
end
end L2
namespace L2
open PySem PySem.Spec PyProof.Rows
structure ObjM (h : Heap) (x dx C : Addr) (mA : Str → Option Value) : Prop where
  obj : h.get? x = some (PySem.W.instObj C dx)
  ns : h.Ns1 dx mA
  ne : dx ≠ x
theorem lookIn_ns {h : Heap} {dx : Addr} {mA : Str → Option Value} (n : h.Ns1 dx mA) : ∃ od, h.get? dx = some od ∧ ∀ name, PySem.W.lookIn name od = some (mA name) := by
  obtain ⟨o, es, ep, ho, hd, hk, _, hm⟩ := n
  refine ⟨o, ho, fun name => ?_⟩
  have e := hm name
  unfold nsFind findBy at e
  rw [← Array.find?_toList] at e
  unfold PySem.W.lookIn
  rw [hd]
  dsimp only
  split
  · rename_i y q
    rw [q] at e
    exact congrArg some e
  · rename_i q
    rw [q] at e
    have a : es.toList.any (·.refKey) = false := by
      rw [List.any_eq_false]
      intro y hy
      obtain ⟨z, t, hkey⟩ := hk y (Array.mem_toList_iff.mp hy)
      simp [DictEntry.refKey, hkey]
    have a' : ¬ es.toList.any (·.refKey) = true := by rw [a]; exact Bool.false_ne_true
    rw [if_neg a']
    exact congrArg some e
theorem ObjM.look {h : Heap} {x dx C : Addr} {mA : Str → Option Value} (I : ObjM h x dx C mA) : ∃ od, PySem.W.InstAt h x (PySem.W.instObj C dx) C (some od) ∧ ∀ name, PySem.W.lookIn name od = some (mA name) :=
  let ⟨od, ho, hl⟩ := lookIn_ns I.ns
  ⟨od, ⟨I.obj, rfl, rfl, ho⟩, hl⟩
section
variable {prog : Program} {w : World} {A : Around} {E : Value → Shared → Prop} {s : Shared} {K : PySem.W.Frag} {x dx C f : Addr} {mA : Str → Option Value} {name : Str} {v : Value}
theorem get_map {expr : Bool} {Q : Value → Shared → Prop} (X : K.In s.heap) (I : ObjM s.heap x dx C mA) (hg : PySem.W.plainGet K C name = true) (hh : PySem.W.hasDictIn K C = true)
    (ha : PySem.W.findIn K (.ref C) name = some none) (hv : mA name = some v) (hv' : PySem.W.handedIn v = true) (h : Q v { s with toks := s.toks + 1 }) :
    wpAny (model prog w) A (getAttr (.ref x) name expr) Q E s := by
  obtain ⟨od, J, hl⟩ := I.look
  exact PySem.W.get_value X J (PySem.W.plainGet_of hg).1 (PySem.W.findObj_own hh ha rfl (by rw [hl, hv])) hv' h
theorem get_meth {pl : Sem Bool} {Q : Value × List Value → Shared → Prop} (X : K.In s.heap) (I : ObjM s.heap x dx C mA) (hg : PySem.W.plainGet K C name = true)
    (hf : PySem.W.findIn K (.ref C) name = some (some (.ref f))) (ht : PySem.W.isFn K (.ref f) = true) (hv : mA name = none) (h : Q (.ref f, [.ref x]) s) :
    wpAny (model prog w) A (getMethod (.ref x) name pl) Q E s := by
  obtain ⟨od, J, hl⟩ := I.look
  exact PySem.W.method_fn X J (PySem.W.plainGet_of hg).1 (PySem.W.plainGet_of hg).2 hf (beq_iff_eq.mp ht) (by show (PySem.W.lookIn name od).map (·.isSome) = some false; rw [hl, hv]; rfl) h
theorem set_map {ns : List Str} {Q : Unit → Shared → Prop} (X : K.In s.heap) (I : ObjM s.heap x dx C mA)
    (hs : PySem.W.findIn K (.ref C) "__setattr__" = some (some (.builtin "object.__setattr__"))) (hp : PySem.W.plainOver K C = true) (ht : PySem.W.takerIn K C name = some none) (hh : PySem.W.hasDictIn K C = true)
    (hw : PySem.Within mA ns) (hsz : ns.length ≤ sizeLine)
    (h : ∀ h', ObjM h' x dx C (fun y => if y = name then some v else mA y) → Heap.SameBut dx s.heap h' → Q () { s with heap := h', toks := s.toks + 2 }) :
    wpAny (model prog w) A (setAttr (.ref x) name v) Q E s := by
  obtain ⟨od, J, hl⟩ := I.look
  refine PySem.W.set_plain X J hs (PySem.W.osa_open (s := { s with toks := s.toks + 1 }) (r := none) X J hp ht fun b => ?_)
  obtain ⟨cd, hc, hd'⟩ := PySem.W.any_some hh
  have hx : s.heap.get? x = some ⟨.ref C, some dx, .plain, #[]⟩ := I.obj
  refine wpAny_bind (wpAny_pure (wpAny_bind (wpAny_bind (wpAny_loadPart hx (wpAny_bind (PySem.W.Looks.here (s := { s with toks := s.toks + 1 }) (PySem.W.looks_clsIn X hc) ?_))))))
  rw [hd']
  refine wpAny_pure (a := some dx) (wpAny_bind (wpAny_pure (wpAny_bind ?_)))
  refine wpAny_nsSet1 (s := { s with toks := s.toks + 1 }) I.ns fun h' hn2 hs2 => ?_
  obtain ⟨oD, esD, epD, hoD, hdD, hcD⟩ := hn2.count (PySem.Within.cons name v hw)
  refine wpAny_bind (wpAny_lookBehind hoD (by rw [hdD]; exact pastItsLine_dict (Nat.le_trans hcD (by rw [List.length_cons]; omega))) ?_)
  exact wpAny_pure (h _ ⟨(hs2.2 _ (Ne.symm I.ne)).trans I.obj, hn2, I.ne⟩ hs2)
theorem make_map {R : Result → Shared → Prop} {vs : List Value} {kw : List (Str × Value)} (X : K.In s.heap) (hm : PySem.W.makesIn K C = true)
    (hi : PySem.W.findIn K (.ref C) "__init__" = some (some (.ref f))) (hf : PySem.W.typeIn K (.ref f) = some (.type "function"))
    (h : codeAny (model prog w) (A.under (.builtin "type.__call__" ⟨.ref C :: vs, kw⟩)) (.call (.ref f) ⟨.ref (s.heap.objs.size + 1) :: vs, kw⟩) (PySem.W.InitBack (s.heap.objs.size + 1) R)
      { s with heap := (s.heap.push PySem.W.emptyDict).push (PySem.W.instObj C s.heap.objs.size) }) :
    codeAny (model prog w) A (.call (.ref C) ⟨vs, kw⟩) R s := by
  obtain ⟨hh, g, d, t, os⟩ := s
  exact PySem.W.make_core (PySem.W.makes_of X hm) (PySem.W.looks_findIn X hi) (fun self => PySem.W.bind_fn X self hf) (.inl rfl) h
end
def putF (f : Str) (v : V) : List (Str × V) → List (Str × V)
  | [] => [(f, v)]
  | (g, x) :: r => if g = f then (g, v) :: r else (g, x) :: putF f v r
theorem lookup_putF (f g : Str) (v : V) : ∀ fs : List (Str × V), (putF f v fs).lookup g = if g = f then some v else fs.lookup g
  | [] => by
    show List.lookup g [(f, v)] = _
    by_cases h : g = f
    · have hb : (g == f) = true := beq_iff_eq.mpr h
      simp only [List.lookup, hb, if_pos h]
    · have hb : (g == f) = false := beq_eq_false_iff_ne.mpr h
      simp only [List.lookup, hb, if_neg h]
  | (k, x) :: r => by
    have ih := lookup_putF f g v r
    rw [show putF f v ((k, x) :: r) = (if k = f then (k, v) :: r else (k, x) :: putF f v r) from rfl]
    by_cases hk : k = f
    · rw [if_pos hk]
      by_cases h : g = k
      · have hb : (g == k) = true := beq_iff_eq.mpr h
        simp only [List.lookup, hb, if_pos (h.trans hk)]
      · have hb : (g == k) = false := beq_eq_false_iff_ne.mpr h
        simp only [List.lookup, hb, if_neg (fun e : g = f => h (e.trans hk.symm))]
    · rw [if_neg hk]
      by_cases h : g = k
      · have hb : (g == k) = true := beq_iff_eq.mpr h
        simp only [List.lookup, hb, if_neg (fun e : g = f => hk (h.symm.trans e))]
      · have hb : (g == k) = false := beq_eq_false_iff_ne.mpr h
        simp only [List.lookup, hb]
        exact ih
theorem keys_putF (f : Str) (v : V) : ∀ fs : List (Str × V), f ∈ (putF f v fs).map (·.1) ∧ ∀ g, g ∈ fs.map (·.1) → g ∈ (putF f v fs).map (·.1)
  | [] => ⟨by simp [putF], fun g h => by simp at h⟩
  | (k, x) :: r => by
    obtain ⟨i1, i2⟩ := keys_putF f v r
    rw [show putF f v ((k, x) :: r) = (if k = f then (k, v) :: r else (k, x) :: putF f v r) from rfl]
    by_cases hk : k = f
    · rw [if_pos hk]
      subst hk
      exact ⟨by simp, fun g h => by simpa using h⟩
    · rw [if_neg hk]
      refine ⟨?_, fun g h => ?_⟩
      · rw [List.map_cons]
        exact List.mem_cons_of_mem _ i1
      · rw [List.map_cons] at h ⊢
        rcases List.mem_cons.mp h with e | e
        · exact List.mem_cons.mpr (.inl e)
        · exact List.mem_cons_of_mem _ (i2 g e)
theorem length_putF (f : Str) (v : V) : ∀ fs : List (Str × V), (putF f v fs).length ≤ fs.length + 1
  | [] => by simp [putF]
  | (k, x) :: r => by
    have ih := length_putF f v r
    rw [show putF f v ((k, x) :: r) = (if k = f then (k, v) :: r else (k, x) :: putF f v r) from rfl]
    by_cases hk : k = f
    · rw [if_pos hk, List.length_cons, List.length_cons]; omega
    · rw [if_neg hk, List.length_cons, List.length_cons]; omega
theorem RelO.some_of {v : V} {o : Option Value} (r : RelO (some v) o) : ∃ u, o = some u ∧ RelV v u := by
  cases o with
  | none => exact (show False from r).elim
  | some u => exact ⟨u, rfl, r⟩
theorem RelO.none_of {o : Option Value} (r : RelO none o) : o = none := by
  cases o with
  | none => rfl
  | some u => exact (show False from r).elim
theorem handed_of {v : V} {u : Value} (r : RelV v u) : PySem.W.handedIn u = true := by
  cases v with
  | non => cases (show u = Value.none from r); rfl
  | bl b => cases (show u = Value.bool b from r); rfl
  | int i => obtain ⟨t, e⟩ := (show ∃ t, u = Value.int i t from r); cases e; rfl
  | str x => obtain ⟨t, e⟩ := (show ∃ t, u = Value.str x t from r); cases e; rfl
  | byt b => obtain ⟨t, e⟩ := (show ∃ t, u = Value.bytes b t from r); cases e; rfl
  | flt b => obtain ⟨t, e⟩ := (show ∃ t, u = Value.float b t from r); cases e; rfl
  | ref a => cases (show u = Value.ref a from r); rfl
  | ty n => cases (show u = Value.type n from r); rfl
section
variable {P : Program} {w : World} {H H' : Hp} {h h' : Heap} {a C dx : Addr} {fs fs' : List (Str × V)}
theorem ins_get (hok : HOk P w H h) (e : H a = some (.ins C dx fs)) : ∃ mA, ObjM h a dx C mA ∧ (∀ f, RelO (fs.lookup f) (mA f)) ∧ PySem.Within mA (fs.map (·.1)) ∧ fs.length ≤ 1000 ∧ H dx = some (.own a) := by
  obtain ⟨d, z, ne, ob, mA, n, r, q⟩ := (show ObjOk P w H h a (.ins C dx fs) from hok a _ e)
  exact ⟨mA, ⟨ob, n, ne⟩, r, q, z, d⟩
end
structure Cls (K : PySem.W.Frag) (C : Addr) : Prop where
  pg : PySem.W.plainGet K C Str.empty = true
  hd : PySem.W.hasDictIn K C = true
  po : PySem.W.plainOver K C = true
  sa : PySem.W.findIn K (.ref C) "__setattr__" = some (some (.builtin "object.__setattr__"))
theorem Cls.get {K : PySem.W.Frag} {C : Addr} (c : Cls K C) (f : Str) : PySem.W.plainGet K C f = true := c.pg
def NoAttr (K : PySem.W.Frag) (C : Addr) (f : Str) : Prop := PySem.W.findIn K (.ref C) f = some none
theorem NoAttr.taker {K : PySem.W.Frag} {C : Addr} {f : Str} (n : NoAttr K C f) : PySem.W.takerIn K C f = some none := by
  unfold PySem.W.takerIn
  rw [show PySem.W.findIn K (.ref C) f = some none from n]
  rfl
structure Con (K : PySem.W.Frag) (C : Addr) (f : Str) (v : V) (u : Value) : Prop where
  at_ : PySem.W.findIn K (.ref C) f = some (some u)
  rel : RelV v u
  get : PySem.W.specialIn K u "__get__" = some none
  cp : PySem.W.copiedNames.contains f = false
structure Meth (K : PySem.W.Frag) (C : Addr) (m : Str) (f : Addr) : Prop where
  at_ : PySem.W.findIn K (.ref C) m = some (some (.ref f))
  fn : PySem.W.isFn K (.ref f) = true
  kp : PySem.W.keepIn K (.ref f) = true
section
variable {X : Cx} {pins : List (Addr × Obj)} {σ : St} {H : Hp} {s : Shared} {a C dx : Addr} {fs : List (Str × V)} {f : Str} {v : V} {A : Around} {E : Value → Shared → Prop}
theorem getattr_ok {b : Bool} {Q : Value → Shared → Prop} (I : Inv X pins σ H s) (e : H a = some (.ins C dx fs)) (c : Cls X.K C) (n : NoAttr X.K C f) (l : fs.lookup f = some v)
    (h : ∀ u s', Inv X pins σ H s' → RelV v u → Q u s') : wpAny (model X.prog X.w) A (getAttr (.ref a) f b) Q E s := by
  obtain ⟨mA, O, r, _, _, _⟩ := ins_get I.hok e
  obtain ⟨u, hu, ru⟩ := RelO.some_of (v := v) (o := mA f) (by rw [← l]; exact r f)
  exact get_map I.kIn O (c.get f) c.hd n hu (handed_of ru) (h u _ (I.tok _) ru)
theorem getmeth_ok {m : Str} {g : Addr} {pl : Sem Bool} {Q : Value × List Value → Shared → Prop} (I : Inv X pins σ H s) (e : H a = some (.ins C dx fs)) (c : Cls X.K C) (k : Meth X.K C m g) (l : fs.lookup m = none)
    (h : Q (.ref g, [.ref a]) s) : wpAny (model X.prog X.w) A (getMethod (.ref a) m pl) Q E s := by
  obtain ⟨mA, O, r, _, _, _⟩ := ins_get I.hok e
  have hn : mA m = none := RelO.none_of (by rw [← l]; exact r m)
  exact get_meth I.kIn O (c.get m) k.at_ k.fn hn h
theorem setattr_ok {y : V} {u : Value} {Q : Unit → Shared → Prop} (I : Inv X pins σ H s) (e : H a = some (.ins C dx fs)) (c : Cls X.K C) (n : NoAttr X.K C f) (hl : fs.length < 1000) (ry : RelV y u)
    (h : ∀ s', Inv X pins σ (upd H a (.ins C dx (putF f y fs))) s' → Q () s') : wpAny (model X.prog X.w) A (setAttr (.ref a) f u) Q E s := by
  obtain ⟨mA, O, r, wi, _, ho⟩ := ins_get I.hok e
  have hz : (fs.map (·.1)).length ≤ sizeLine := by rw [List.length_map, sizeLine_eq]; omega
  refine set_map I.kIn O c.sa c.po n.taker c.hd wi hz fun h' O' sb => h _ ?_
  have hd : ∃ o, h'.get? dx = some o := let ⟨o, _, _, e', _⟩ := O'.ns; ⟨o, e'⟩
  refine I.write (x := a) (e := dx) (by rw [e]; exact True.intro) (.inr ho) (fun b q hb z => (sb.2 b hb).trans z) hd ?_
  refine ⟨by rw [upd_ne O.ne]; exact ho, ?_, O.ne, O'.obj, _, O'.ns, fun g => ?_, fun g hg => ?_⟩
  · have := length_putF f y fs; omega
  · show RelO ((putF f y fs).lookup g) (if g = f then some u else mA g)
    rw [lookup_putF]
    by_cases q : g = f
    · rw [if_pos q, if_pos q]; exact ry
    · rw [if_neg q, if_neg q]; exact r g
  · by_cases q : g = f
    · rw [q]; exact (keys_putF f y fs).1
    · refine (keys_putF f y fs).2 g (wi g fun z => hg ?_)
      show (if g = f then some u else mA g) = none
      rw [if_neg q]; exact z
theorem Inv.made (I : Inv X pins σ H s) : Inv X pins σ (upd (upd H s.heap.objs.size (.own (s.heap.objs.size + 1))) (s.heap.objs.size + 1) (.ins C s.heap.objs.size []))
    { s with heap := (s.heap.push PySem.W.emptyDict).push (PySem.W.instObj C s.heap.objs.size) } := by
  have e1 : (s.heap.push PySem.W.emptyDict).get? s.heap.objs.size = some PySem.W.emptyDict := Heap.get?_push_size s.heap rfl
  have e2 : ((s.heap.push PySem.W.emptyDict).push (PySem.W.instObj C s.heap.objs.size)).get? (s.heap.objs.size + 1) = some (PySem.W.instObj C s.heap.objs.size) := by
    have := Heap.get?_push_size (s.heap.push PySem.W.emptyDict) (o := PySem.W.instObj C s.heap.objs.size) rfl
    rwa [Heap.size_push] at this
  have e3 : (s.heap.push PySem.W.emptyDict).Ns s.heap.objs.size (fun _ => none) := ⟨PySem.W.emptyDict, #[], _, e1, rfl, (fun e he => absurd he (by simp)), fun _ => rfl⟩
  have I1 := I.laid (a := s.heap.objs.size) (o := .own (s.heap.objs.size + 1)) (h' := s.heap.push PySem.W.emptyDict) (t' := s.toks) (fun b u q => Heap.get?_push_of_some _ q) (Nat.le_refl _) ⟨_, e1⟩
  refine I1.laid (a := s.heap.objs.size + 1) (o := .ins C s.heap.objs.size []) (t' := s.toks) (fun b u q => Heap.get?_push_of_some _ q) (Nat.le_of_eq (Heap.size_push _ _)) ?_
  have ne : s.heap.objs.size ≠ s.heap.objs.size + 1 := Nat.ne_of_lt (Nat.lt_succ_self _)
  refine ⟨by rw [upd_ne ne, upd_same], Nat.zero_le _, ne, e2, fun _ => none, (Heap.Ns1.of_empty e3).at fun o q => Heap.get?_push_of_some _ q, fun _ => True.intro, fun y hy => absurd rfl hy⟩
theorem attr_of {prog : Program} {w : World} {env : Env} {e : Expr} {f : Str} {pos : Pos} {s : Shared} {Q : Value → Shared → Prop} (hb : attributeBase e f env (eval e env) = eval e env)
    (h : wpAny (model prog w) A (eval e env) (fun o s₁ => wpAny (model prog w) A (getAttr o f true) Q E s₁) E s) : wpAny (model prog w) A (eval (.Attribute e f pos) env) Q E s :=
  Attribute_any_ h (by rw [arm_eval_Attribute, hb])
end
def tFld (K : PySem.W.Frag) (ta : TE) (f : Str) : TE := fun σ H Q => ta σ H fun x H1 => ∃ a C dx fs v, x = .ref a ∧ H1 a = some (.ins C dx fs) ∧ Cls K C ∧ NoAttr K C f ∧ fs.lookup f = some v ∧ Q v H1
def sFld (K : PySem.W.Frag) (ta tv : TE) (f : Str) : TS := fun D σ H => tv σ H fun y H1 => ta σ H1 fun x H2 => ∃ a C dx fs, x = .ref a ∧ H2 a = some (.ins C dx fs) ∧ Cls K C ∧ NoAttr K C f ∧ fs.length < 1000 ∧
  D.nx σ (upd H2 a (.ins C dx (putF f y fs)))
def InOp (X : Cx) (op : Operator) (rd : V → V → Hp → VK → Prop) : Prop :=
  ∀ (pins : List (Addr × Obj)) (s : Shared) (σ : St) (H : Hp) (x y : V) (u v : Value) (Q : VK), Inv X pins σ H s → RelV x u → RelV y v → rd x y H Q → wpAny (model X.prog X.w) X.A (inplaceOp op u v) (EP X pins σ Q) X.xe s
def sFldAug (K : PySem.W.Frag) (ta tv : TE) (rd : V → V → Hp → VK → Prop) (f : Str) : TS := fun D σ H => ta σ H fun x H1 => ∃ a C dx fs v, x = .ref a ∧ H1 a = some (.ins C dx fs) ∧ Cls K C ∧ NoAttr K C f ∧ fs.lookup f = some v ∧
  tv σ H1 fun y H2 => rd v y H2 fun z H3 => ∃ dx' fs', H3 a = some (.ins C dx' fs') ∧ fs'.length < 1000 ∧ D.nx σ (upd H3 a (.ins C dx' (putF f z fs')))
section
variable {X : Cx} {o e value : Expr} {f : Str} {pos pos' tpos : Pos} {ta tv : TE}
theorem pe_fld (he : PE X e ta) (hb : attributeBase e f X.env (eval e X.env) = eval e X.env) : PE X (.Attribute e f pos) (tFld X.K ta f) := by
  intro pins s σ H Q I h
  refine attr_of hb (thn (he pins s σ H _ I h) fun u s1 ⟨x, H1, I1, rx, a, C, dx, fs, v, ex, ea, c, n, l, q⟩ => ?_)
  subst ex
  obtain rfl : u = Value.ref a := rx
  exact getattr_ok I1 ea c n l fun u' s2 I2 ru => ⟨v, H1, I2, ru, q⟩
theorem ps_fld (ha : PE X o ta) (hv : PE X value tv) (hs : swapsWith value (some (.Attribute o f pos')) pos.line X.env = pure false) : PS X (.Assign [.Attribute o f pos'] value pos) (sFld X.K ta tv f) := by
  intro pins s σ H D I h
  refine plainObj_wpAny_Assign_Attribute (thn (hv pins s σ H _ I h) fun u s1 ⟨y, H1, I1, ry, q⟩ => thn (ha pins s1 σ H1 _ I1 q) fun ov s2 ⟨x, H2, I2, rx, a, C, dx, fs, ex, ea, c, n, l, q2⟩ => ?_) hs
  subst ex
  obtain rfl : ov = Value.ref a := rx
  exact setattr_ok I2 ea c n l ry fun s3 I3 => ⟨σ, _, I3, q2⟩
theorem ps_fldaug {op : Operator} {rd : V → V → Hp → VK → Prop} (ha : PE X o ta) (hv : PE X value tv) (hop : InOp X op rd) : PS X (.AugAssign (.Attribute o f tpos) op value pos) (sFldAug X.K ta tv rd f) := by
  intro pins s σ H D I h
  refine wpAny_AugAssign_AttributeAny (thn (ha pins s σ H _ I h) fun ov s1 ⟨x, H1, I1, rx, a, C, dx, fs, v, ex, ea, c, n, l, q⟩ => ?_)
  subst ex
  obtain rfl : ov = Value.ref a := rx
  refine getattr_ok I1 ea c n l fun u s2 I2 ru => thn (hv pins s2 σ H1 _ I2 q) fun w3 s3 ⟨y, H2, I3, ry, q3⟩ => thn (hop pins s3 σ H2 v y u w3 _ I3 ru ry q3) fun w4 s4 ⟨z, H3, I4, rz, dx', fs', ea', l', q4⟩ => ?_
  exact setattr_ok I4 ea' c n l' rz fun s5 I5 => ⟨σ, _, I5, q4⟩
def rAdd : V → V → Hp → VK → Prop := fun x y H Q => ∃ i j, x = .int i ∧ y = .int j ∧ Q (.int (i + j)) H
theorem in_add : InOp X .Add rAdd := by
  rintro pins s σ H x y u v Q I rx ry ⟨i, j, rfl, rfl, q⟩
  obtain ⟨t, rfl⟩ := (show ∃ t, u = Value.int i t from rx)
  obtain ⟨t', rfl⟩ := (show ∃ t', v = Value.int j t' from ry)
  exact PyProof.Rows.iadd_int ⟨.int (i + j), H, I.tok _, ⟨_, rfl⟩, q⟩
theorem methcall_of {pl : Sem Bool} {m : Str} {apos : Pos} {args : List Expr} {pins : List (Addr × Obj)} {s : Shared} {σ : St} {H : Hp} {Q : Value → Shared → Prop} {te : TE} (he : PE X e te) (I : Inv X pins σ H s)
    (h : te σ H fun x H1 => ∃ a C dx fs g, x = .ref a ∧ H1 a = some (.ins C dx fs) ∧ Cls X.K C ∧ Meth X.K C m g ∧ fs.lookup m = none ∧
      ∀ s1, Inv X pins σ H1 s1 → wpAny (model X.prog X.w) X.A (callWith pos (.ref g) [.ref a] (backTo pos (starEach args X.env)) (backToKw pos (keywordEach [] X.env))) Q X.xe s1)
    (ht : eval (.Call (.Attribute e m apos) args [] pos) X.env = (do
      let ov ← eval e X.env
      standAt apos.atName
      let (f, first) ← holding [ov] (getMethod ov m pl)
      callWith pos f first (backTo pos (starEach args X.env)) (backToKw pos (keywordEach [] X.env)))) :
    wpAny (model X.prog X.w) X.A (eval (.Call (.Attribute e m apos) args [] pos) X.env) Q X.xe s := by
  refine PySem.W.methodCall_KW (pl := pl) (thn (he pins s σ H _ I h) fun u s1 ⟨x, H1, I1, rx, a, C, dx, fs, g, ex, ea, c, k, l, q⟩ => ?_) ht
  subst ex
  obtain rfl : u = Value.ref a := rx
  exact getmeth_ok I1 ea c k l (q s1 I1)
end
section
variable {X : Cx} {pins : List (Addr × Obj)} {σ : St} {H : Hp} {s : Shared} {A : Around} {E : Value → Shared → Prop} {Q : Value → Shared → Prop} {c : Value} {b : Bool}
inductive TyOf (K : PySem.W.Frag) (H : Hp) : V → Value → Prop where
  | non : TyOf K H .non (.type "NoneType")
  | bl (x : Bool) : TyOf K H (.bl x) (.type "bool")
  | int (i : Int) : TyOf K H (.int i) (.type "int")
  | str (x : Str) : TyOf K H (.str x) (.type "str")
  | flt (x : UInt64) : TyOf K H (.flt x) (.type "float")
  | lst {a : Addr} {xs : List V} (e : H a = some (.lst xs)) : TyOf K H (.ref a) (.type "list")
  | frz {a : Addr} {o : Obj} {xs : List V} (e : H a = some (.frz o (.lst xs))) : TyOf K H (.ref a) (.type "list")
  | tup {a : Addr} {xs : List V} (e : H a = some (.tup xs)) : TyOf K H (.ref a) (.type "tuple")
  | dK {a : Addr} {kvs : List (Key × V)} (e : H a = some (.dK kvs)) : TyOf K H (.ref a) (.type "dict")
  | dT {a : Addr} {kvs : List (List Key × V)} (e : H a = some (.dT kvs)) : TyOf K H (.ref a) (.type "dict")
  | ins {a C dx : Addr} {fs : List (Str × V)} (e : H a = some (.ins C dx fs)) (cl : Cls K C) (ha : PySem.W.findIn K (.ref C) "__class__" = some (some (.builtin "object.__class__")))
      (hn : PySem.W.specialIn K (.builtin "object.__class__") "__get__" = some (some (.builtin "getset_descriptor.__get__"))) (htk : PySem.W.takesIn K (.builtin "object.__class__") = some true)
      (hm : PySem.W.mroIn K C (.type "object") = some true) : TyOf K H (.ref a) (.ref C)
theorem isinst_ok {x : V} {u t : Value} (I : Inv X pins σ H s) (rx : RelV x u) (ty : TyOf X.K H x t) (e : PySem.W.kitOne X.K t c = some b) (h : ∀ tk, Q (.bool b) { s with toks := tk }) :
    wpAny (model X.prog X.w) A (call (.builtin "isinstance") [u, c]) Q E s := by
  cases ty with
  | non => cases (show u = Value.none from rx); exact PySem.W.kia_one PySem.W.kitx_none I.kIn True.intro e (fun z => nomatch z) h
  | bl y => cases (show u = Value.bool y from rx); exact PySem.W.kia_one PySem.W.kitx_bool I.kIn True.intro e (fun z => nomatch z) h
  | int i => obtain ⟨t, q⟩ := (show ∃ t, u = Value.int i t from rx); cases q; exact PySem.W.kia_one PySem.W.kitx_int I.kIn True.intro e (fun z => nomatch z) h
  | str y => obtain ⟨t, q⟩ := (show ∃ t, u = Value.str y t from rx); cases q; exact PySem.W.kia_one PySem.W.kitx_str I.kIn True.intro e (fun z => nomatch z) h
  | flt y => obtain ⟨t, q⟩ := (show ∃ t, u = Value.float y t from rx); cases q; exact PySem.W.kia_one PySem.W.kitx_float I.kIn True.intro e (fun z => nomatch z) h
  | @lst a xs ea =>
    cases (show u = Value.ref a from rx)
    obtain ⟨_, _, n, _, h1⟩ := (show ObjOk X.prog X.w H s.heap a (.lst xs) from I.hok a _ ea)
    exact PySem.W.kia_one PySem.W.kitx_list I.kIn ⟨_, h1, rfl⟩ e (fun z => nomatch z) h
  | @frz a ob xs ea =>
    cases (show u = Value.ref a from rx)
    obtain ⟨_, _, _, n, _, h1⟩ := (show ObjOk X.prog X.w H s.heap a (.frz ob (.lst xs)) from I.hok a _ ea)
    exact PySem.W.kia_one PySem.W.kitx_list I.kIn ⟨_, h1, rfl⟩ e (fun z => nomatch z) h
  | @tup a xs ea =>
    cases (show u = Value.ref a from rx)
    obtain ⟨_, _, _, p⟩ := (show ObjOk X.prog X.w H s.heap a (.tup xs) from I.hok a _ ea)
    obtain ⟨o, h1, h2, _⟩ := p
    exact PySem.W.kia_one PySem.W.kitx_tuple I.kIn ⟨o, h1, h2⟩ e (fun z => nomatch z) h
  | @dK a kvs ea =>
    cases (show u = Value.ref a from rx)
    obtain ⟨_, _, vs, _, p⟩ := (show ObjOk X.prog X.w H s.heap a (.dK kvs) from I.hok a _ ea)
    obtain ⟨o, es, ep, h1, h2, _⟩ := p
    exact PySem.W.kia_one PySem.W.kitx_dict I.kIn ⟨o, h1, h2.1⟩ e (fun z => nomatch z) h
  | @dT a kvs ea =>
    cases (show u = Value.ref a from rx)
    obtain ⟨_, _, xs, _, o, es, ep, h1, h2, _⟩ := (show ObjOk X.prog X.w H s.heap a (.dT kvs) from I.hok a _ ea)
    exact PySem.W.kia_one PySem.W.kitx_dict I.kIn ⟨o, h1, h2.1⟩ e (fun z => nomatch z) h
  | @ins a C dx fs ea cl ha hn htk hm =>
    cases (show u = Value.ref a from rx)
    obtain ⟨mA, O, _⟩ := ins_get I.hok ea
    obtain ⟨od, J, _⟩ := O.look
    exact PySem.W.kia_one (PySem.W.kitx_own (cl.get _) cl.hd ha hn htk hm) I.kIn J e (fun z => nomatch z) h
end
end L2
namespace L2
open PySem PySem.Spec PyProof.Rows
structure Room {b : Heap} (k : Nat) (A : Around) : Prop where
  hd : Hnd b.get? A
  dp : A.depth + 3 * k + 5 < recursionLimit
  un : A.units + 16 * k + 200 < cLine
  gd : A.guards = some []
theorem Room.mono {b : Heap} {j k : Nat} {A : Around} (r : Room (b := b) k A) (h : j ≤ k) : Room (b := b) j A := ⟨r.hd, by have := r.dp; omega, by have := r.un; omega, r.gd⟩
theorem Room.deeper {b : Heap} {k : Nat} {A : Around} (r : Room (b := b) (k + 1) A) (env : Env) : Room (b := b) k (A.deeper env) :=
  ⟨r.hd, by have := r.dp; show A.depth + 1 + 3 * k + 5 < _; omega, by have := r.un; show A.units + 3 + 16 * k + 200 < _; omega, r.gd⟩
theorem make_depth {A : Around} {C : Addr} {us : List Value} {kw : List (Str × Value)} : (A.under (.builtin "type.__call__" ⟨.ref C :: us, kw⟩)).depth = A.depth + 1 := by
  first | rfl | simp [Around.under, Code.weight, Code.isCreation, Code.isGuard, Code.isCaller, Code.frames, Code.isFrame, guardIds]
theorem make_units {A : Around} {C : Addr} {us : List Value} {kw : List (Str × Value)} : (A.under (.builtin "type.__call__" ⟨.ref C :: us, kw⟩)).units = A.units + 1 := by
  first | rfl | simp [Around.under, Code.cUnits, Code.frames, Code.isFrame]
theorem make_guards {A : Around} {C : Addr} {us : List Value} {kw : List (Str × Value)} : (A.under (.builtin "type.__call__" ⟨.ref C :: us, kw⟩)).guards = A.guards := by
  first | rfl | simp [Around.under, Code.isGuard, guardIds] | (simp [Around.under, Code.isGuard, guardIds]; decide)
theorem Room.make {b : Heap} {k : Nat} {A : Around} (r : Room (b := b) (k + 1) A) (C : Addr) (us : List Value) (kw : List (Str × Value)) : Room (b := b) k (A.under (.builtin "type.__call__" ⟨.ref C :: us, kw⟩)) :=
  ⟨r.hd, by have := r.dp; rw [make_depth]; omega, by have := r.un; rw [make_units]; omega, by rw [make_guards]; exact r.gd⟩
theorem Room.depth {b : Heap} {k : Nat} {A : Around} (r : Room (b := b) k A) : A.depth < recursionLimit := by have := r.dp; omega
theorem Room.units {b : Heap} {k : Nat} {A : Around} (r : Room (b := b) k A) : A.units + 64 < cLine := by have := r.un; omega
def tNil : TA := fun _ H Q => Q [] H
def tCons (ta : TE) (tr : TA) : TA := fun σ H Q => ta σ H fun x H1 => tr σ H1 fun xs H2 => Q (x :: xs) H2
section
variable {X : Cx} {e : Expr} {es : List Expr} {te : TE} {t : TA} {pos : Pos}
theorem pa_nil : PA X [] tNil := fun _ _ _ _ H Q I h => Calls.spliced_nil ⟨[], H, I, .nil, h⟩
theorem pa_cons (ha : PE X e te) (hr : PA X es t) (hs : starEach (e :: es) X.env = (false, eval e X.env) :: starEach es X.env := by rfl) : PA X (e :: es) (tCons te t) := by
  intro pos pins s σ H Q I h
  rw [hs]
  show wpAny _ _ (spliced ((false, eval e X.env) :: backTo pos (starEach es X.env))) _ _ s
  refine Calls.spliced_cons (thn (ha pins s σ H _ I h) fun u s1 ⟨x, H1, I1, r1, q1⟩ => ?_)
  exact thn (hr pos pins s1 σ H1 _ I1 q1) fun us s2 ⟨xs, H2, I2, r2, q2⟩ => ⟨x :: xs, H2, I2, .cons r1 r2, q2⟩
def tTup (t : TA) : TE := fun σ H Q => t σ H fun xs H1 => xs.length ≤ sizeLine ∧ ∀ p, H1 p = none → Q (.ref p) (upd H1 p (.tup xs))
def tLst (t : TA) : TE := fun σ H Q => t σ H fun xs H1 => xs.length ≤ sizeLine ∧ ∀ p, H1 p = none → Q (.ref p) (upd H1 p (.lst xs))
theorem pe_tup {x1} (h : PA X es t) : PE X (.Tuple es x1 pos) (tTup t) := by
  intro pins s σ H Q I hq
  refine wpAny_Tuple_spliced (thn (h pos pins s σ H _ I hq) fun us s1 ⟨xs, H1, I1, r, z, q⟩ => ⟨by rw [← r.length]; exact z, ?_⟩)
  have hf : H1 s1.heap.objs.size = none := I1.hok.fresh (Nat.le_refl _)
  refine ⟨.ref s1.heap.objs.size, upd H1 s1.heap.objs.size (.tup xs), I1.laid (t' := s1.toks) (fun b u e => Heap.get?_push_of_some _ e) (Nat.le_refl _) ?_, rfl, q _ hf⟩
  exact ⟨z, us, r, ⟨_, Heap.get?_push_size _ rfl, rfl, _, rfl⟩⟩
theorem pe_lst (h : PA X es t) : PE X (.List es pos) (tLst t) := by
  intro pins s σ H Q I hq
  refine wpAny_List_spliced (thn (h pos pins s σ H _ I hq) fun us s1 ⟨xs, H1, I1, r, z, q⟩ => ⟨by rw [← r.length]; exact z, ?_⟩)
  have hf : H1 s1.heap.objs.size = none := I1.hok.fresh (Nat.le_refl _)
  refine ⟨.ref s1.heap.objs.size, upd H1 s1.heap.objs.size (.lst xs), I1.laid (t' := s1.toks) (fun b u e => Heap.get?_push_of_some _ e) (Nat.le_refl _) ?_, rfl, q _ hf⟩
  exact ⟨z, us, 0, r, Heap.get?_push_size _ rfl⟩
end
abbrev Sp := List V → Hp → VK → XK → Prop
abbrev CXT := List Env → Hp → Shared → XK → Value → Shared → Prop
structure Env0 (P : Program) (w : World) (K : PySem.W.Frag) (mg : Str → Option Value) (base : Heap) (A : Around) (outer : List Env) (s : Shared) (H : Hp) : Prop where
  frames : A.frames = some outer
  mod : Mod K mg base
  bs : ∀ b o, base.get? b = some o → s.heap.get? b = some o ∧ H b = none
  bsz : base.objs.size ≤ s.heap.objs.size
  funs : s.heap.FunFrames base outer
  frf : ∀ b ∈ frs outer, H b = none
  hok : HOk P w H s.heap
  bare : AllBare s.gens
def CE (outer : List Env) (P : Program) (w : World) (H : Hp) (s : Shared) (Q : VK) (u : Value) (s' : Shared) : Prop :=
  ∃ v H', s'.os = s.os ∧ AllBare s'.gens ∧ Un (frs outer) [] H H' s.heap s'.heap ∧ HOk P w H' s'.heap ∧ RelV v u ∧ Q v H'
def CR (CX : CXT) (outer : List Env) (P : Program) (w : World) (H : Hp) (s : Shared) (Q : VK) (E : XK) (r : Result) (s' : Shared) : Prop :=
  match r with
  | .ok (.ret u) => CE outer P w H s Q u s'
  | .ok _ => False
  | .error e => CX outer H s E e s'
structure FnOk (P : Program) (w : World) (K : PySem.W.Frag) (mg : Str → Option Value) (base : Heap) (CX : CXT) (k : Nat) (f : Addr) (fd : FuncData) (ps : List Str) (sp : Sp) : Prop where
  len : ∀ vs H Q E, sp vs H Q E → vs.length = ps.length
  run : ∀ (A : Around) (outer : List Env) (s : Shared) (H : Hp) (args : Args) (us : List Value) (vs : List V) (Q : VK) (E : XK), Room (b := base) k A → Env0 P w K mg base A outer s H → BindsTo s fd args (ps.zip us) → Vals vs us → sp vs H Q E →
    codeAny (model P w) A (.call (.ref f) args) (CR CX outer P w H s Q E) s
theorem Env0.make {P : Program} {w : World} {K : PySem.W.Frag} {mg : Str → Option Value} {base : Heap} {A : Around} {outer : List Env} {s : Shared} {H : Hp} (e : Env0 P w K mg base A outer s H) (C : Addr) (us : List Value) (kw : List (Str × Value)) :
    Env0 P w K mg base (A.under (.builtin "type.__call__" ⟨.ref C :: us, kw⟩)) outer s H := ⟨by first | exact e.frames | (simpa [Around.under, Code.envs, Code.isFrame, pushEnvs] using e.frames), e.mod, e.bs, e.bsz, e.funs, e.frf, e.hok, e.bare⟩
section
variable {X : Cx} {pins : List (Addr × Obj)} {σ : St} {H : Hp} {s s' : Shared}
theorem Inv.env0 (I : Inv X pins σ H s) : Env0 X.prog X.w X.K X.mg X.base X.A X.stack s H :=
  ⟨I.ok.frames, I.ok.mod, I.bs, Nat.le_trans I.ok.bsz I.sz, I.stack, I.stkFree, I.hok, I.bare⟩
theorem Inv.after {Q : VK} {u : Value} (I : Inv X pins σ H s) (h : CE X.stack X.prog X.w H s Q u s') : EP X pins σ Q u s' := by
  obtain ⟨v, H', os, bare, un, hok, r, q⟩ := h
  obtain ⟨hh, g, d, t, os'⟩ := s'
  obtain rfl : os' = s.os := os
  exact ⟨v, H', I.call (h' := hh) (g' := g) (d' := d) (t' := t) (ch := []) un hok bare (fun b z => absurd z (by simp)), r, q⟩
end
def tCall (sp : Sp) (dvs : List V) (E : XK) (t : TA) : TE := fun σ H Q => t σ H fun vs H1 => sp (vs ++ dvs) H1 Q E
def tMeth (C : Addr) (m : Str) (sp : Sp) (dvs : List V) (E : XK) (ta : TE) (t : TA) : TE := fun σ H Q => ta σ H fun x H1 => ∃ a dx fs, x = .ref a ∧ H1 a = some (.ins C dx fs) ∧ fs.lookup m = none ∧
  t σ H1 fun vs H2 => sp (x :: (vs ++ dvs)) H2 Q E
def tMake (C : Addr) (sp : Sp) (dvs : List V) (E : XK) (t : TA) : TE := fun σ H Q => t σ H fun vs H1 => ∀ x dx, H1 x = none → H1 dx = none → dx ≠ x →
  sp (.ref x :: (vs ++ dvs)) (upd (upd H1 dx (.own x)) x (.ins C dx [])) (fun v H2 => v = .non ∧ Q (.ref x) H2) E
def Binds (K : PySem.W.Frag) (fd : FuncData) (ps : List Str) (ds : List Value) : Prop :=
  ∀ (s : Shared) (us : List Value), K.In s.heap → (us ++ ds).length = ps.length → BindsTo s fd ⟨us, []⟩ (ps.zip (us ++ ds))
theorem Binds.all {K : PySem.W.Frag} {fd : FuncData} {ps : List Str} (h : ∀ us : List Value, us.length = ps.length → bindArgs fd ⟨us, []⟩ = pure (ps.zip us)) : Binds K fd ps [] := fun s us _ hl => by
  rw [List.append_nil] at hl ⊢
  exact .of_eq (h us hl)
def Passes (CX : CXT) (X : Cx) (E : XK) : Prop := ∀ (pins : List (Addr × Obj)) (σ : St) (H : Hp) (s : Shared) (e : Value) (s' : Shared), Inv X pins σ H s → CX X.stack H s E e s' → X.xe e s'
section
variable {X : Cx} {CX : CXT} {k : Nat} {f C : Addr} {fd : FuncData} {ps : List Str} {sp : Sp} {dvs : List V} {ds : List Value} {E : XK} {x m : Str} {p pos apos : Pos} {e o : Expr} {es : List Expr} {ta : TE} {t : TA}
theorem run_fn {pins : List (Addr × Obj)} {σ : St} {H : Hp} {s : Shared} {Q : VK} {us : List Value} {vs : List V} (F : FnOk X.prog X.w X.K X.mg X.base CX k f fd ps sp) (hr : Room (b := X.base) k X.A) (hb : Binds X.K fd ps ds) (hd : Vals dvs ds) (hx : Passes CX X E)
    (I : Inv X pins σ H s) (r : Vals vs us) (h : sp (vs ++ dvs) H Q E) : wpAny (model X.prog X.w) X.A (call (.ref f) us) (EP X pins σ Q) X.xe s := by
  have r2 : Vals (vs ++ dvs) (us ++ ds) := r.append hd
  have hl : (us ++ ds).length = ps.length := by rw [← r2.length]; exact F.len _ _ _ _ h
  refine wpAny_call (codeAny_mono (F.run X.A X.stack s H ⟨us, []⟩ (us ++ ds) (vs ++ dvs) Q E hr I.env0 (hb s us I.kIn hl) r2 h) fun r s' hq => ?_)
  cases r with
  | error e => exact hx pins σ H s e s' I hq
  | ok fl =>
    cases fl with
    | ret u => exact I.after hq
    | next => exact False.elim hq
    | brk => exact False.elim hq
    | cont => exact False.elim hq
theorem pe_call (F : FnOk X.prog X.w X.K X.mg X.base CX k f fd ps sp) (hr : Room (b := X.base) k X.A) (hg : Gl X x) (hm : X.mg x = some (.ref f)) (hk : PySem.W.keepIn X.K (.ref f) = true) (hb : Binds X.K fd ps ds) (hd : Vals dvs ds) (hx : Passes CX X E)
    (ha : PA X (e :: es) t) (hdb : (x == ("__debug__" : Str)) = false := by decide) (he : starEach (e :: es) X.env = (false, eval e X.env) :: starEach es X.env := by rfl) (hpl : (backTo pos (starEach es X.env)).any (·.1) = false := by rfl) :
    PE X (.Call (.Name x p) (e :: es) [] pos) (tCall sp dvs E t) := by
  intro pins s σ H Q I h
  refine wpAny_Call_Name_kw (ld_glob I hg hm ?_ hdb)
  refine PySem.W.callWith_K (h₀ := X.base) I.ok.mod.kin hk (thn (ha pos pins s σ H _ I h) fun us s1 ⟨vs, H1, I1, r, q⟩ => ⟨I1.kIn, ?_⟩) he hpl
  exact run_fn F hr hb hd hx I1 r q
theorem pe_meth0 {pl : Sem Bool} (he : PE X o ta) (c : Cls X.K C) (hm : Meth X.K C m f) (F : FnOk X.prog X.w X.K X.mg X.base CX k f fd ps sp) (hr : Room (b := X.base) k X.A) (hb : Binds X.K fd ps ds) (hd : Vals dvs ds) (hx : Passes CX X E)
    (ht : eval (.Call (.Attribute o m apos) [] [] pos) X.env = (do
      let ov ← eval o X.env
      standAt apos.atName
      let (f, first) ← holding [ov] (getMethod ov m pl)
      callWith pos f first (backTo pos (starEach [] X.env)) (backToKw pos (keywordEach [] X.env))) := by rfl) :
    PE X (.Call (.Attribute o m apos) [] [] pos) (tMeth C m sp dvs E ta tNil) := by
  intro pins s σ H Q I h
  refine PySem.W.methodCall_KW (pl := pl) (thn (he pins s σ H _ I h) fun u s1 ⟨x, H1, I1, rx, a, dx, fs, ex, ea, l, q⟩ => ?_) ht
  subst ex
  obtain rfl : u = Value.ref a := rx
  refine getmeth_ok I1 ea c hm l ?_
  exact PySem.W.callWith_K0 (first := [.ref a]) I1.kIn hm.kp (run_fn (us := [.ref a]) (vs := [.ref a]) F hr hb hd hx I1 (.cons rfl .nil) q)
structure Mk (K : PySem.W.Frag) (C f : Addr) : Prop where
  makes : PySem.W.makesIn K C = true
  init : PySem.W.findIn K (.ref C) "__init__" = some (some (.ref f))
  fn : PySem.W.isFn K (.ref f) = true
  kp : PySem.W.keepIn K (.ref C) = true
theorem run_make {pins : List (Addr × Obj)} {σ : St} {H : Hp} {s : Shared} {Q : VK} {us : List Value} {vs : List V} (M : Mk X.K C f) (F : FnOk X.prog X.w X.K X.mg X.base CX k f fd ps sp) (hr : Room (b := X.base) (k + 1) X.A) (hb : Binds X.K fd ps ds) (hd : Vals dvs ds)
    (hx : Passes CX X E) (I : Inv X pins σ H s) (r : Vals vs us)
    (h : ∀ x dx, H x = none → H dx = none → dx ≠ x → sp (.ref x :: (vs ++ dvs)) (upd (upd H dx (.own x)) x (.ins C dx [])) (fun v H2 => v = .non ∧ Q (.ref x) H2) E) :
    wpAny (model X.prog X.w) X.A (call (.ref C) us) (EP X pins σ Q) X.xe s := by
  have hq := h (s.heap.objs.size + 1) s.heap.objs.size (I.hok.fresh (Nat.le_succ _)) (I.hok.fresh (Nat.le_refl _)) (Nat.ne_of_lt (Nat.lt_succ_self _))
  have I2 := Inv.made (C := C) I
  have r2 : Vals (V.ref (s.heap.objs.size + 1) :: (vs ++ dvs)) (Value.ref (s.heap.objs.size + 1) :: (us ++ ds)) := .cons rfl (r.append hd)
  have hl : (Value.ref (s.heap.objs.size + 1) :: us ++ ds).length = ps.length := by
    have e := r2.length
    rw [F.len _ _ _ _ hq] at e
    exact e.symm
  refine wpAny_call (make_map (f := f) I.kIn M.makes M.init (beq_iff_eq.mp M.fn) (codeAny_mono (F.run _ X.stack _ _ ⟨Value.ref (s.heap.objs.size + 1) :: us, []⟩ (Value.ref (s.heap.objs.size + 1) :: (us ++ ds)) _ _ E (hr.make C us [])
    (I2.env0.make C us []) (hb _ (Value.ref (s.heap.objs.size + 1) :: us) I2.kIn hl) r2 hq) fun r s' hq' => ?_))
  cases r with
  | error e => exact hx pins σ _ _ e s' I2 hq'
  | ok fl =>
    cases fl with
    | ret u =>
      obtain ⟨v, H', I3, rv, ev, q3⟩ := I2.after hq'
      subst ev
      exact ⟨rv, ⟨V.ref (s.heap.objs.size + 1), H', I3, rfl, q3⟩⟩
    | next => exact False.elim hq'
    | brk => exact False.elim hq'
    | cont => exact False.elim hq'
end
section
variable {X : Cx} {CX : CXT} {k : Nat} {f C : Addr} {fd : FuncData} {ps ks : List Str} {sp : Sp} {E : XK} {x m : Str} {p pos apos kpos : Pos} {e o : Expr} {es : List Expr} {kws : List Keyword} {te ta : TE} {t tk : TA} {nm : Option Str}
structure KBinds (K : PySem.W.Frag) (fd : FuncData) (ps ks : List Str) (g : List Value → List Value → List Value) (gV : List V → List V → List V) : Prop where
  to : ∀ (s : Shared) (us ws : List Value), K.In s.heap → (g us ws).length = ps.length → BindsTo s fd ⟨us, ks.zip ws⟩ (ps.zip (g us ws))
  rel : ∀ {vs : List V} {us : List Value} {zs : List V} {ws : List Value}, Vals vs us → Vals zs ws → Vals (gV vs zs) (g us ws)
variable {g : List Value → List Value → List Value} {gV : List V → List V → List V}
end
structure FnScope (N P : List Str) (sc : Scope) : Prop where
  kind : sc.kind = .function
  co : sc.isCoroutine = false
  gen : sc.isGenerator = false
  nd : N.Nodup
  pre : N.take P.length = P
  par : ∀ x ∈ P, sc.names.lookup x = some .local ∨ sc.names.lookup x = some .cell
  nofree : ∀ y ∈ sc.names, y.2 ≠ .free
theorem bindL_out {kindOf : Str → Option NameKind} {x : Str} : ∀ {binds : List (Str × Value)} {m : Str → Option Value}, (∀ v, (x, v) ∉ binds) → bindL kindOf binds m x = m x
  | [], _, _ => rfl
  | (n, v) :: r, m, h => by
    unfold bindL
    rw [bindL_out fun w hw => h w (List.mem_cons_of_mem _ hw)]
    split
    · have : x ≠ n := by rintro rfl; exact h v List.mem_cons_self
      simp [this]
    · rfl
theorem bindC_out {kindOf : Str → Option NameKind} {x : Str} : ∀ {binds : List (Str × Value)} {m : Str → Option Value}, (∀ v, (x, v) ∉ binds) → bindC kindOf binds m x = m x
  | [], _, _ => rfl
  | (n, v) :: r, m, h => by
    unfold bindC
    rw [bindC_out fun w hw => h w (List.mem_cons_of_mem _ hw)]
    split
    · rfl
    · have : x ≠ n := by rintro rfl; exact h v List.mem_cons_self
      simp [this]
theorem bindL_get {kindOf : Str → Option NameKind} {x : Str} {v : Value} : ∀ {P : List Str} {vs : List Value} {i : Nat} {m : Str → Option Value}, P.Nodup → P[i]? = some x → vs[i]? = some v → kindOf x = some .local →
    bindL kindOf (P.zip vs) m x = some v
  | [], _, _, _, _, h, _, _ => by simp at h
  | _ :: _, [], _, _, _, _, h, _ => by simp at h
  | p :: P, w :: vs, 0, m, nd, h1, h2, hk => by
    simp at h1 h2; subst h1; subst h2
    show bindL kindOf ((p, w) :: P.zip vs) m p = _
    unfold bindL
    rw [bindL_out fun v hv => (List.nodup_cons.mp nd).1 (List.of_mem_zip hv).1, if_pos hk]
    simp
  | p :: P, w :: vs, i + 1, m, nd, h1, h2, hk => by
    show bindL kindOf ((p, w) :: P.zip vs) m x = _
    unfold bindL
    exact bindL_get (i := i) (List.nodup_cons.mp nd).2 (by simpa using h1) (by simpa using h2) hk
theorem bindC_get {kindOf : Str → Option NameKind} {x : Str} {v : Value} : ∀ {P : List Str} {vs : List Value} {i : Nat} {m : Str → Option Value}, P.Nodup → P[i]? = some x → vs[i]? = some v → kindOf x ≠ some .local →
    bindC kindOf (P.zip vs) m x = some v
  | [], _, _, _, _, h, _, _ => by simp at h
  | _ :: _, [], _, _, _, _, h, _ => by simp at h
  | p :: P, w :: vs, 0, m, nd, h1, h2, hk => by
    simp at h1 h2; subst h1; subst h2
    show bindC kindOf ((p, w) :: P.zip vs) m p = _
    unfold bindC
    rw [bindC_out fun v hv => (List.nodup_cons.mp nd).1 (List.of_mem_zip hv).1, if_neg hk]
    simp
  | p :: P, w :: vs, i + 1, m, nd, h1, h2, hk => by
    show bindC kindOf ((p, w) :: P.zip vs) m x = _
    unfold bindC
    exact bindC_get (i := i) (List.nodup_cons.mp nd).2 (by simpa using h1) (by simpa using h2) hk
def start (N : List Str) (vs : List V) : St := vs.map some ++ List.replicate (N.length - vs.length) none
def cxOf (CX : CXT) (P : Program) (w : World) (K : PySem.W.Frag) (mg : Str → Option Value) (base : Heap) (N : List Str) (qual : Str) (scope : Scope) (f : Addr) (cd : Value) (A : Around) (outer : List Env) (s : Shared) (H : Hp) (E : XK) : Cx where
  prog := P
  w := w
  K := K
  mg := mg
  base := base
  A := A.deeper (envOfC qual scope s.heap.objs.size f cd)
  N := N
  s₀ := s
  H₀ := H
  env := envOfC qual scope s.heap.objs.size f cd
  outer := outer
  stack := envOfC qual scope s.heap.objs.size f cd :: outer
  ex := []
  calm := true
  fn := fun _ => true
  pn := []
  xe := fun e s' => wpAny (model P w) (A.deeper (envOfC qual scope s.heap.objs.size f cd)) (leaving (envOfC qual scope s.heap.objs.size f cd) e) (fun _ s'' => CX outer H s E e s'') (fun e' s'' => CX outer H s E e' s'') s'
theorem cell_has {sc : Scope} {n : Nat} {x : Str} (h : sc.names.lookup x = some .cell) : ∃ c, (cellsFrom n sc.names []).lookup x = some c := by
  have q := PySem.W.cellsFrom_some sc.names n [] (.inl h)
  exact Option.isSome_iff_exists.mp q
theorem inv_start {CX : CXT} {P : Program} {w : World} {K : PySem.W.Frag} {mg : Str → Option Value} {base : Heap} {N ps : List Str} {qual : Str} {scope : Scope} {f : Addr} {cd : Value} {A : Around} {outer : List Env} {s s1 : Shared} {H : Hp} {E : XK} {us : List Value} {vs : List V}
    (S : FnScope N ps scope) (hd : Hnd base.get? A) (e0 : Env0 P w K mg base A outer s H) (hl : vs.length = ps.length) (r : Vals vs us)
    (x : InCallC s s.heap.objs.size (bindL (envOfC qual scope s.heap.objs.size f cd).kindOf (ps.zip us) fun _ => none) (cellsFrom (s.heap.objs.size + 1) scope.names []) (bindC (envOfC qual scope s.heap.objs.size f cd).kindOf (ps.zip us) fun _ => none) s1) :
    Inv (cxOf CX P w K mg base N qual scope f cd A outer s H E) [] (start N vs) H s1 := by
  have hpl : ps.length ≤ N.length := by have := congrArg List.length S.pre; rw [List.length_take] at this; omega
  obtain ⟨h1, tk, rfl, hk⟩ := x.done
  have noA : ∀ b : Addr, b ∉ (cxOf CX P w K mg base N qual scope f cd A outer s H E).ex := fun b z => absurd (show b ∈ ([] : List Addr) from z) (by simp)
  refine ⟨⟨e0.mod, S.kind, rfl, rfl, Nat.le_refl _, fun y z c h1 h2 => ?_, fun y hy => ?_, fun y c _ h => ?_, fun _ => hd, Around.frames_deeper e0.frames, .inr ⟨rfl, rfl⟩, fun b z => absurd z (noA b), e0.bs, e0.bsz, fun b _ _ => noA b, fun b z => absurd z (noA b), e0.funs, e0.frf⟩,
    rfl, e0.bare, Un.kept hk, ⟨_, x.toInCall.ns, fun i y v h1 h2 h3 => ?_⟩, fun y c h => ⟨_, x.cell y c h⟩, e0.hok.fresh (Nat.le_refl _), fun y c h => ?_, fun p hp => absurd (show p ∈ ([] : List (Addr × Obj)) from hp) (by simp), e0.hok.kept hk, ?_⟩
  · exact name_of_addr x.apart (PySem.mem_of_lookup h1) (PySem.mem_of_lookup h2)
  · have hy : scope.names.lookup y = some .cell ∨ scope.names.lookup y = some .free := hy
    rcases hy with hy | hy
    · exact cell_has hy
    · exact absurd rfl (S.nofree _ (PySem.mem_of_lookup hy))
  · exact Nat.le_of_lt (x.above y c (PySem.mem_of_lookup h))
  · have hi : i < vs.length := by
      unfold start at h2
      by_cases hi : i < vs.length
      · exact hi
      · rw [List.getElem?_append_right (by simpa using hi)] at h2
        rw [List.getElem?_replicate] at h2
        split at h2 <;> cases h2
    have ha : vs[i]? = some v := by
      unfold start at h2
      rw [List.getElem?_append_left (by simpa using hi), List.getElem?_map] at h2
      cases e : vs[i]? with
      | none => rw [e] at h2; cases h2
      | some a => rw [e] at h2; cases h2; rfl
    obtain ⟨u, hu, rv⟩ := r.get ha
    have hp : ps[i]? = some y := by
      rw [← S.pre, List.getElem?_take_of_lt (by omega)]; exact h1
    have ndP : ps.Nodup := by rw [← S.pre]; exact S.nd.sublist (List.take_sublist _ _)
    refine ⟨u, rv, ?_⟩
    rcases S.par y (List.mem_of_getElem? hp) with k | k
    · exact .inl ⟨k, bindL_get ndP hp hu k⟩
    · obtain ⟨c, e⟩ := cell_has (n := s.heap.objs.size + 1) k
      refine .inr ⟨.inl k, c, e, ?_⟩
      have q := x.cell y c e
      rw [bindC_get ndP hp hu (by show scope.names.lookup y ≠ _; rw [k]; decide)] at q
      exact q
  · exact e0.hok.fresh (Nat.le_of_lt (x.above y c (PySem.mem_of_lookup h)))
  · unfold start
    show _ = N.length
    rw [List.length_append, List.length_map, List.length_replicate]
    omega
theorem fn_of {CX : CXT} {P : Program} {w : World} {K : PySem.W.Frag} {mg : Str → Option Value} {base : Heap} {k : Nat} {f : Addr} {name qual : Str} {params : Arguments} {body : List Stmt} {scope : Scope} {dV kV doc pm cdv ct oc : Value} {an od : Option Addr}
    {osl : Array (Option Value)} {N ps : List Str} {sp : Sp} (lk : K.lookup f = some ⟨oc, od, .func (PySem.W.fnOf name qual params body scope dV kV doc pm an cdv ct), osl⟩) (hcd : PySem.W.codeIn K cdv qual = true) (S : FnScope N ps scope)
    (len : ∀ vs H Q E, sp vs H Q E → vs.length = ps.length)
    (hbody : ∀ (A : Around) (outer : List Env) (s : Shared) (H : Hp) (vs : List V) (Q : VK) (E : XK), Room (b := base) k (A.deeper (envOfC qual scope s.heap.objs.size f cdv)) → sp vs H Q E →
      ∃ t, PSs (cxOf CX P w K mg base N qual scope f cdv A outer s H E) body t ∧ t { nx := fun _ H' => Q .non H', rt := Q } (start N vs) H) :
    FnOk P w K mg base CX (k + 1) f (PySem.W.fnOf name qual params body scope dV kV doc pm an cdv ct) ps sp := by
  refine ⟨len, fun A outer s H args us vs Q E hr e0 hb r hsp => ?_⟩
  have hl := len _ _ _ _ hsp
  have KX : K.In s.heap := e0.mod.kin.keeps fun b o e => (e0.bs b o e).1
  have lim : s.heap.NoLimit := e0.mod.nolimit.keeps fun b o e => (e0.bs b o e).1
  have hkind : ∀ y ∈ ps.zip us, scope.names.lookup y.1 = some .local ∨ (scope.names.lookup y.1 = some .cell ∧ ((cellsFrom (s.heap.objs.size + 1) scope.names []).lookup y.1).isSome = true) := fun ⟨n, v⟩ hy => by
    rcases S.par n (List.of_mem_zip hy).1 with q | q
    · exact .inl q
    · exact .inr ⟨q, PySem.W.cellsFrom_some _ _ _ (.inl q)⟩
  refine codeAny_call_function hr.depth (KX _ _ lk) rfl S.co S.gen rfl (PySem.W.codeRec_of KX hcd) (hb _ _ _ _ ?_)
  refine wpAny_newFunctionEnv_cells S.kind hkind fun env he s1 x => ?_
  subst he
  refine ⟨lim.keeps x.toInCall.keep, codeAny_func ?_⟩
  obtain ⟨t, ht, hq⟩ := hbody A outer s H vs Q E (hr.deeper _) hsp
  have I : Inv (cxOf CX P w K mg base N qual scope f cdv A outer s H E) [] (start N vs) H s1 := inv_start S hr.hd e0 hl r x
  refine wpAny_mono (ht [] s1 (start N vs) H _ I hq) (fun fl s' hs => ?_) fun e s' hs => hs
  have fin : ∀ {σ' : St} {H' : Hp} {v : V} {u : Value}, Inv (cxOf CX P w K mg base N qual scope f cdv A outer s H E) [] σ' H' s' → RelV v u → Q v H' → CE outer P w H s Q u s' :=
    fun {σ' H' v u} J rv q => ⟨v, H', J.os, J.bare, J.base, J.hok, rv, q⟩
  cases fl with
  | ret u =>
    obtain ⟨v, σ', H', J, rv, q⟩ := hs
    exact fin J rv q
  | next =>
    obtain ⟨σ', H', J, q⟩ := hs
    exact fin (v := V.non) (u := Value.none) J rfl q
  | brk =>
    obtain ⟨_, _, _, q⟩ := hs
    exact False.elim q
  | cont =>
    obtain ⟨_, _, _, q⟩ := hs
    exact False.elim q
end L2
namespace L2
open PySem PySem.Spec PyProof.Rows
section
variable {X : Cx} {x : Str} {p pos : Pos} {e : Expr} {es : List Expr} {t : TA} {id T : String} {r : List V → Hp → VK → Prop}
def tCB (r : List V → Hp → VK → Prop) (t : TA) : TE := fun σ H Q => t σ H fun vs H1 => r vs H1 Q
theorem pe_callB (hc : CallR X (.builtin id) r) (hg : Gl X x) (hm : X.mg x = none) (hv : bootBuiltins x = some (.builtin id)) (ha : PA X (e :: es) t) (hn : x ≠ "__name__" := by decide) (hdb : (x == ("__debug__" : Str)) = false := by decide)
    (he : starEach (e :: es) X.env = (false, eval e X.env) :: starEach es X.env := by rfl) (hpl : (backTo pos (starEach es X.env)).any (·.1) = false := by rfl) : PE X (.Call (.Name x p) (e :: es) [] pos) (tCB r t) := by
  intro pins s σ H Q I h
  refine wpAny_Call_Name_kw (ld_blt I hg hm hv ?_ hn hdb)
  exact PyProof.Rows.callWith_builtin1 (thn (ha pos pins s σ H _ I h) fun us s1 ⟨vs, H1, I1, r1, q1⟩ => hc pins s1 σ H1 vs us Q I1 r1 q1) he hpl
theorem pe_callTy (hc : CallR X (.type T) r) (hg : Gl X x) (hm : X.mg x = none) (hv : bootBuiltins x = some (.type T)) (ha : PA X (e :: es) t) (hn : x ≠ "__name__" := by decide) (hdb : (x == ("__debug__" : Str)) = false := by decide)
    (he : starEach (e :: es) X.env = (false, eval e X.env) :: starEach es X.env := by rfl) (hpl : (backTo pos (starEach es X.env)).any (·.1) = false := by rfl) : PE X (.Call (.Name x p) (e :: es) [] pos) (tCB r t) := by
  intro pins s σ H Q I h
  refine wpAny_Call_Name_kw (ld_blt I hg hm hv ?_ hn hdb)
  exact PyProof.Rows.callWith_type1 (thn (ha pos pins s σ H _ I h) fun us s1 ⟨vs, H1, I1, r1, q1⟩ => hc pins s1 σ H1 vs us Q I1 r1 q1) he hpl
end
end L2
namespace HT
open PySem PyProof.Rows
section
open PySem.SeqAt
open PySem.AutoSeq1 (wpAny_loadPart')
open PySem.MeetsSeq PySem.MeetsSeq2 PySem.MeetsSeq3
end
section
variable {prog : Program} {w : World} {A : Around} {E : Value → Shared → Prop} {s : Shared}
theorem cat_tup {t b : Addr} {vs ws : List Value} {Q : Value → Shared → Prop} (ht : IsTup s.heap t vs.toArray) (hb : IsTup s.heap b ws.toArray) (hv : vs ≠ [])
    (h1 : ws = [] → Q (.ref t) s) (h2 : ws ≠ [] → Q (.ref s.heap.objs.size) { s with heap := s.heap.push { cls := .type "tuple", data := .seq (vs ++ ws).toArray } })
    (hsz : vs.length + ws.length ≤ sizeLine) : wpAny (model prog w) A (binaryOp .Add (.ref t) (.ref b)) Q E s := by
  obtain ⟨⟨cls, dd, data, sl⟩, ho, hc, n, hd⟩ := id ht
  obtain ⟨⟨cls2, dd2, data2, sl2⟩, ho2, hc2, n2, hd2⟩ := id hb
  simp only at hc hd hc2 hd2
  subst hc hd hc2 hd2
  have e : vs.toArray ++ ws.toArray = (vs ++ ws).toArray := by simp
  by_cases hw : ws = []
  · exact concat_meets ⟨_, ho, rfl⟩ ⟨_, ho2, rfl⟩ noFill_tuple_add seq_tuple_add PySem.F.slot_tuple_add PySem.F.entry_tuple_add (PySem.F.args_tuple_add_2 _ _)
      (tuple_addW1 t b vs.toArray ws.toArray n n2 dd dd2 sl sl2 (by simpa using hv) (by simp [hw])) ⟨ho, ho2, h1 hw⟩
  · refine concat_meets ⟨_, ho, rfl⟩ ⟨_, ho2, rfl⟩ noFill_tuple_add seq_tuple_add PySem.F.slot_tuple_add PySem.F.entry_tuple_add (PySem.F.args_tuple_add_2 _ _)
      (tuple_addW2 t b vs.toArray ws.toArray n n2 dd dd2 sl sl2 (by simpa using hv) (by simpa using hw) (by rw [List.size_toArray, List.size_toArray]; exact hsz)) ⟨ho, ho2, ?_⟩
    rw [e]
    exact h2 hw
def sIx (n d : Nat) : Option Int → Nat
  | none => d
  | some v => if v < 0 then (v + (n : Int)).toNat else min v.toNat n
theorem sIx_none (n d : Nat) : sIx n d none = d := rfl
theorem sIx_nat (n d k : Nat) : sIx n d (some (k : Int)) = min k n := by
  show (if (k : Int) < 0 then ((k : Int) + (n : Int)).toNat else min (k : Int).toNat n) = min k n
  rw [if_neg (by omega), Int.toNat_natCast]
theorem sIx_le (n d : Nat) (hd : d ≤ n) (o : Option Int) : sIx n d o ≤ n := by
  cases o with
  | none => exact hd
  | some v =>
    show (if v < 0 then (v + (n : Int)).toNat else min v.toNat n) ≤ n
    by_cases hv : v < 0
    · rw [if_pos hv]; omega
    · rw [if_neg hv]; exact Nat.min_le_right _ _
theorem clip_eq (v : Int) (n d : Nat) : (if v < 0 then max (v + (n : Int)) 0 else min v (n : Int)) = ((sIx n d (some v) : Nat) : Int) := by
  show (if v < 0 then max (v + (n : Int)) 0 else min v (n : Int)) = (((if v < 0 then (v + (n : Int)).toNat else min v.toNat n) : Nat) : Int)
  by_cases hv : v < 0
  · simp only [if_pos hv]; omega
  · simp only [if_neg hv]; omega
theorem adjust_gen (lo hi : Option Int) (n : Nat) : Builtin.Slice.sliceAdjust lo hi 1 (n : Int) = (((sIx n 0 lo : Nat) : Int), ((sIx n n hi : Nat) : Int)) := by
  have h1 : ¬ ((1 : Int) < 0) := by omega
  unfold Builtin.Slice.sliceAdjust
  simp only [h1, if_false]
  refine Prod.ext ?_ ?_
  · cases lo with
    | none => rfl
    | some v => exact clip_eq v n 0
  · cases hi with
    | none => rfl
    | some v => exact clip_eq v n n
theorem places_gen (i j : Nat) : Builtin.Slice.slicePlaces (i : Int) (j : Int) 1 = j - i := by
  unfold Builtin.Slice.slicePlaces
  have h1 : (1 : Int) > 0 := by omega
  simp only [h1, if_true, Int.ediv_one]
  split <;> omega
theorem slicePart_ {v : Value} {o : Option Int} {Q : Option Int → Shared → Prop} (p : IsPart v o) (h : Q o s) : wpAny (model prog w) A (Builtin.Slice.slicePartIndex v) Q E s := by
  cases p with
  | none => exact slicePart_none h
  | int i t => exact slicePart_int h
theorem sliceApplied_gen {sl : Addr} {vl vu : Value} {lo hi : Option Int} {n : Nat} {Q : Int × Int × Nat → Shared → Prop} (hs : s.heap.IsSliceOf sl vl vu .none) (pl : IsPart vl lo) (pu : IsPart vu hi)
    (h : Q (((sIx n 0 lo : Nat) : Int), 1, sIx n n hi - sIx n 0 lo) s) : wpAny (model prog w) A (Builtin.Slice.sliceApplied (.ref sl) (pure (n : Int))) Q E s := by
  obtain ⟨os, hos, hcs, hds⟩ := id hs
  unfold Builtin.Slice.sliceApplied Builtin.Slice.sliceFields
  refine wpAny_bind (wpAny_bind (wpAny_field hos hds (x := vl) rfl (wpAny_bind (wpAny_field hos hds (x := vu) rfl (wpAny_bind (wpAny_field hos hds (x := .none) rfl (wpAny_pure ?_)))))))
  refine wpAny_bind (slicePart_none ?_)
  show wpAny _ _ (if ((1 : Int) == 0) = true then _ else _) _ _ s
  rw [if_neg (by decide)]
  refine wpAny_bind (slicePart_ pl (wpAny_bind (slicePart_ pu (wpAny_bind (wpAny_pure ?_)))))
  show wpAny _ _ (match Builtin.Slice.sliceAdjust lo hi 1 (n : Int) with | (lo, hi) => pure (lo, (1 : Int), Builtin.Slice.slicePlaces lo hi 1)) _ _ s
  rw [adjust_gen lo hi n]
  show wpAny _ _ (pure (((sIx n 0 lo : Nat) : Int), (1 : Int), Builtin.Slice.slicePlaces ((sIx n 0 lo : Nat) : Int) ((sIx n n hi : Nat) : Int) 1)) _ _ s
  rw [places_gen]
  exact wpAny_pure h
theorem pick_gen (xs : Array Value) (i k : Nat) : ((List.range k).filterMap fun (m : Nat) => xs[((i : Int) + (m : Int) * 1).toNat]?).toArray = ((xs.toList.drop i).take k).toArray := by
  have e : (fun (m : Nat) => xs[((i : Int) + (m : Int) * 1).toNat]?) = fun m => xs[i + m]? := by
    funext m
    have : ((i : Int) + (m : Int) * 1).toNat = i + m := by omega
    rw [this]
  rw [e]
  have := pick_run xs i k
  rw [List.filterMap_map] at this
  have e2 : ((fun x => xs[x]?) ∘ fun x => i + x) = fun m => xs[i + m]? := rfl
  rw [e2] at this
  rw [this]
theorem getItem_tuple_cut {t sl : Addr} {items : Array Value} {vl vu : Value} {lo hi : Option Int} {Q : Value → Shared → Prop} (ht : IsTup s.heap t items) (hs : s.heap.IsSliceOf sl vl vu .none) (pl : IsPart vl lo) (pu : IsPart vu hi)
    (hw : ¬ (sIx items.size 0 lo = 0 ∧ sIx items.size items.size hi = items.size))
    (h : Q (.ref s.heap.objs.size) { s with heap := s.heap.push { cls := .type "tuple", data := .seq ((items.toList.drop (sIx items.size 0 lo)).take (sIx items.size items.size hi - sIx items.size 0 lo)).toArray } })
    (hsz : items.size ≤ sizeLine) : wpAny (model prog w) A (getItem (.ref t) (.ref sl)) Q E s := by
  have htake : sizeOk (.seq ((items.toList.drop (sIx items.size 0 lo)).take (sIx items.size items.size hi - sIx items.size 0 lo)).toArray) := by
    show ((items.toList.drop (sIx items.size 0 lo)).take (sIx items.size items.size hi - sIx items.size 0 lo)).toArray.size ≤ sizeLine
    rw [List.size_toArray, List.length_take, List.length_drop, Array.length_toList]
    omega
  have hj : sIx items.size items.size hi ≤ items.size := sIx_le _ _ (Nat.le_refl _) hi
  obtain ⟨os, hos, hcs, hds⟩ := id hs
  have hTs : s.TypeIs (.ref sl) "slice" := ⟨os, hos, hcs⟩
  unfold getItem
  try with_reducible refine wpAny_holding ?_
  first | refine wpAny_bind (wpAny_pure ?_) | skip
  refine wpAny_bind (wpAny_sequenceKey ht.typeIs (by decide) ?_)
  refine wpAny_bind (wpAny_callSpecial?_slot (name := Str.ofString "__getitem__") ht.typeIs PyProof.Rows.slot_tuple_getitem
    (wpAny_call_entry PyProof.Rows.slot_tuple_getitem ht.typeIs entry_tuple_getitem ?_ (args_tuple_getitem _ _)))
  show wpAny _ _ (Builtin.Tuple.tupleItemsOf (.ref t) >>= _) _ _ s
  refine wpAny_bind (tupleItemsOf_ ht ?_)
  refine wpAny_bind (wpAny_typeOf hTs ?_)
  rw [if_pos (by decide)]
  refine wpAny_bind (sliceApplied_gen hs pl pu ?_)
  have hno : ¬ ((((sIx items.size 0 lo : Nat) : Int) == 0 && (1 : Int) == 1 && (sIx items.size items.size hi - sIx items.size 0 lo) == items.size) = true) := by
    intro q
    rw [Bool.and_eq_true, Bool.and_eq_true] at q
    have q1 : ((sIx items.size 0 lo : Nat) : Int) = 0 := eq_of_beq q.1.1
    have q2 : sIx items.size items.size hi - sIx items.size 0 lo = items.size := eq_of_beq q.2
    exact hw ⟨by omega, by omega⟩
  show wpAny _ _ (if (((sIx items.size 0 lo : Nat) : Int) == 0 && (1 : Int) == 1 && (sIx items.size items.size hi - sIx items.size 0 lo) == items.size) = true then _ else _) _ _ s
  rw [if_neg hno, pick_gen]
  first
    | exact wpAny_bind (m := Builtin.Tuple.tupleExact _) (wpAny_newObj_type (wpAny_pure ⟨_, rfl, wpAny_pure h⟩) htake)
    | exact wpAny_bind (m := Builtin.Tuple.tupleExact _) (wpAny_newObj_type (wpAny_bind (wpAny_pure (wpAny_pure ⟨_, rfl, wpAny_pure h⟩))) htake)
    | exact wpAny_bind (wpAny_bind (m := Builtin.Tuple.tupleExact _) (wpAny_newObj_type (wpAny_pure (wpAny_pure ⟨_, rfl, wpAny_pure h⟩)) htake))
    | exact wpAny_bind (wpAny_bind (m := Builtin.Tuple.tupleExact _) (wpAny_newObj_type (wpAny_pure ⟨_, rfl, wpAny_pure h⟩) htake))
end
end HT
namespace L2
open PySem PySem.Spec PyProof.Rows
abbrev TO := St → Hp → (Option Int → Hp → Prop) → Prop
def PO (X : Cx) (e : Option Expr) (t : TO) : Prop :=
  ∀ (pins : List (Addr × Obj)) (s : Shared) (σ : St) (H : Hp) (Q : Option Int → Hp → Prop), Inv X pins σ H s → t σ H Q →
    wpAny (model X.prog X.w) X.A (evalPart e X.env) (fun u s' => ∃ o H', Inv X pins σ H' s' ∧ IsPart u o ∧ Q o H') X.xe s
def tNoPart : TO := fun _ H Q => Q none H
def tPart (t : TE) : TO := fun σ H Q => t σ H fun x H1 => ∃ i, x = .int i ∧ Q (some i) H1
section
variable {X : Cx} {e : Expr} {te : TE} {lo hi : Option Expr} {tl th : TO} {pos p2 : Pos}
theorem po_none : PO X none tNoPart := by
  intro pins s σ H Q I h
  rw [evalPart_none]
  exact wpAny_pure ⟨none, H, I, .none, h⟩
theorem po_some (h : PE X e te) : PO X (some e) (tPart te) := by
  intro pins s σ H Q I hw
  rw [evalPart_some]
  refine thn (h pins s σ H _ I hw) fun u s1 ⟨x, H1, I1, r1, q1⟩ => ?_
  obtain ⟨i, rfl, q⟩ := q1
  obtain ⟨t, rfl⟩ := r1
  exact ⟨some i, H1, I1, .int i t, q⟩
def SlR (X : Cx) (r : V → Option Int → Option Int → Hp → VK → Prop) : Prop :=
  ∀ (pins : List (Addr × Obj)) (s : Shared) (σ : St) (H : Hp) (x : V) (v vl vu : Value) (lo hi : Option Int) (sl : Addr) (Q : VK), Inv X pins σ H s → RelV x v → s.heap.IsSliceOf sl vl vu .none → IsPart vl lo → IsPart vu hi → r x lo hi H Q →
    ∃ T id, typeLookup (.type T) "__getitem__" = pure (some (.builtin id)) ∧ s.TypeIs v T ∧ wpAny (model X.prog X.w) X.A (getItem v (.ref sl)) (EP X pins σ Q) X.xe s
theorem SlR.or {r r' : V → Option Int → Option Int → Hp → VK → Prop} (h : SlR X r) (h' : SlR X r') : SlR X (fun x lo hi H Q => r x lo hi H Q ∨ r' x lo hi H Q) := by
  intro pins s σ H x v vl vu lo hi sl Q I rx hs pl pu q
  rcases q with q | q
  · exact h pins s σ H x v vl vu lo hi sl Q I rx hs pl pu q
  · exact h' pins s σ H x v vl vu lo hi sl Q I rx hs pl pu q
def tSl (r : V → Option Int → Option Int → Hp → VK → Prop) (te : TE) (tl th : TO) : TE := fun σ H Q => te σ H fun x H1 => tl σ H1 fun l H2 => th σ H2 fun u H3 => r x l u H3 Q
theorem pe_slice {r : V → Option Int → Option Int → Hp → VK → Prop} (hr : SlR X r) (he : PE X e te) (hl : PO X lo tl) (hu : PO X hi th) : PE X (.Subscript e (.Slice lo hi none p2) pos) (tSl r te tl th) := by
  intro pins s σ H Q I h
  refine Subscript_ (thn (he pins s σ H _ I h) fun v s1 ⟨x, H1, I1, r1, q1⟩ => ?_)
  refine wpAny_Slice (thn (hl pins s1 σ H1 _ I1 q1) fun vl s2 ⟨l, H2, I2, pl, q2⟩ => thn (hu pins s2 σ H2 _ I2 q2) fun vu s3 ⟨u, H3, I3, pu, q3⟩ => ?_)
  rw [evalPart_none]
  refine wpAny_pure ?_
  have I4 : Inv X pins σ H3 { s3 with heap := s3.heap.push { cls := .type "slice", data := .fields #[vl, vu, .none] } } := I3.kept (t' := s3.toks) fun b ob q => Heap.get?_push_of_some _ q
  obtain ⟨T, id, hT, ht, hg⟩ := hr pins { s3 with heap := s3.heap.push { cls := .type "slice", data := .fields #[vl, vu, .none] } } σ H3 x v vl vu l u s3.heap.objs.size Q I4 r1 (Heap.IsSliceOf.new ..) pl pu q3
  show wpAny (model X.prog X.w) X.A (subscriptTail e (.Slice lo hi none p2) v (.ref s3.heap.objs.size)) (EP X pins σ Q) X.xe { s3 with heap := s3.heap.push { cls := .type "slice", data := .fields #[vl, vu, .none] } }
  exact tail_any (ops := [.ref s3.heap.objs.size, v]) ht hT hg (by with_unfolding_all rfl)
def cutV (xs : List V) (lo hi : Option Int) : List V := (xs.drop (HT.sIx xs.length 0 lo)).take (HT.sIx xs.length xs.length hi - HT.sIx xs.length 0 lo)
theorem cutV_length (xs : List V) (lo hi : Option Int) : (cutV xs lo hi).length ≤ xs.length := by
  unfold cutV
  rw [List.length_take, List.length_drop]
  omega
def rSlT (K : PySem.W.Frag) : V → Option Int → Option Int → Hp → VK → Prop := fun x lo hi H Q => ∃ a xs, x = .ref a ∧ SqT K H a xs ∧
  ¬ (HT.sIx xs.length 0 lo = 0 ∧ HT.sIx xs.length xs.length hi = xs.length) ∧ ∀ p, H p = none → Q (.ref p) (upd H p (.tup (cutV xs lo hi)))
theorem sl_tup : SlR X (rSlT X.K) := by
  intro pins s σ H x v vl vu lo hi sl Q I rx hs pl pu h
  obtain ⟨a, xs, rfl, hx, hw, q⟩ := h
  cases rx
  obtain ⟨its, r, ht, hz⟩ := I.tuple hx
  have hlen : its.toArray.size = xs.length := by rw [List.size_toArray]; exact r.length.symm
  refine ⟨"tuple", _, PyProof.Rows.slot_tuple_getitem.lookup, ht.typeIs, ?_⟩
  refine HT.getItem_tuple_cut ht hs pl pu (by rw [hlen]; exact hw) ?_ (by rw [hlen]; exact hz)
  rw [hlen]
  refine ⟨.ref s.heap.objs.size, _, I.laid (t' := s.toks) (o := .tup (cutV xs lo hi)) (fun b ob q => Heap.get?_push_of_some _ q) (Nat.le_refl _) ?_, rfl, q _ (I.hok.fresh (Nat.le_refl _))⟩
  exact ⟨Nat.le_trans (cutV_length xs lo hi) hz, _, (r.drop (HT.sIx xs.length 0 lo)).take (HT.sIx xs.length xs.length hi - HT.sIx xs.length 0 lo), IsTup.new _ _⟩
def rCatT (K : PySem.W.Frag) : R2 := fun x y H Q => ∃ a b xs ys, x = .ref a ∧ y = .ref b ∧ SqT K H a xs ∧ SqT K H b ys ∧ xs ≠ [] ∧ xs.length + ys.length ≤ sizeLine ∧
  (ys = [] → Q (.ref a) H) ∧ (ys ≠ [] → ∀ p, H p = none → Q (.ref p) (upd H p (.tup (xs ++ ys))))
theorem Vals.nil_iff {xs : List V} {us : List Value} (r : Vals xs us) : us = [] ↔ xs = [] := by
  cases r with
  | nil => simp
  | cons _ _ => simp
theorem op_catT : OpR X (binaryOp .Add) (rCatT X.K) := by
  intro pins s σ H x y v u Q I rx ry h
  obtain ⟨a, b, xs, ys, rfl, rfl, ha, hb, hx, hz, q1, q2⟩ := h
  cases rx
  cases ry
  obtain ⟨its, r1, p1, _⟩ := I.tuple ha
  obtain ⟨its2, r2, p2, _⟩ := I.tuple hb
  refine HT.cat_tup p1 p2 (fun z => hx (r1.nil_iff.mp z)) (fun z => ⟨.ref a, H, I, rfl, q1 (r2.nil_iff.mp z)⟩) (fun z => ?_) (by rw [← r1.length, ← r2.length]; exact hz)
  refine ⟨.ref s.heap.objs.size, _, I.laid (t' := s.toks) (o := .tup (xs ++ ys)) (fun b ob q => Heap.get?_push_of_some _ q) (Nat.le_refl _) ?_, rfl, q2 (fun w => z (r2.nil_iff.mpr w)) _ (I.hok.fresh (Nat.le_refl _))⟩
  exact ⟨by rw [List.length_append]; exact hz, _, r1.append r2, IsTup.new _ _⟩
end
end L2
namespace L2
open PySem PySem.Spec PyProof.Rows
def ixN (n : Nat) (i : Int) : Option Nat := if 0 ≤ i then (if i < n then some i.toNat else none) else if -(n : Int) ≤ i then some (i + n).toNat else none
def atI {α : Type} (xs : List α) (i : Int) : Option α := (ixN xs.length i).bind fun j => xs[j]?
theorem ixN_seq {n : Nat} {i : Int} {j : Nat} (h : ixN n i = some j) : seqIndex? i n = some j ∧ j < n ∧ -(n : Int) ≤ i ∧ i < n := by
  unfold ixN at h
  by_cases h0 : 0 ≤ i
  · rw [if_pos h0] at h
    by_cases h1 : i < n
    · rw [if_pos h1] at h
      have e : i.toNat = j := Option.some.inj h
      exact ⟨by rw [seqIndex_of h0 h1, e], by omega, by omega, h1⟩
    · rw [if_neg h1] at h; cases h
  · rw [if_neg h0] at h
    by_cases h1 : -(n : Int) ≤ i
    · rw [if_pos h1] at h
      have e : (i + n).toNat = j := Option.some.inj h
      exact ⟨by rw [seqIndex_neg (by omega) h1, e], by omega, h1, by omega⟩
    · rw [if_neg h1] at h; cases h
theorem atI_get {α : Type} {xs : List α} {i : Int} {v : α} (h : atI xs i = some v) : ∃ j, seqIndex? i xs.length = some j ∧ xs[j]? = some v ∧ j < xs.length ∧ -(xs.length : Int) ≤ i ∧ i < xs.length := by
  unfold atI at h
  cases e : ixN xs.length i with
  | none => rw [e] at h; cases h
  | some j =>
    rw [e] at h
    obtain ⟨h1, h2, h3, h4⟩ := ixN_seq e
    exact ⟨j, h1, h, h2, h3, h4⟩
theorem atI_nat {α : Type} {xs : List α} {j : Nat} {v : α} (h : xs[j]? = some v) : atI xs (j : Int) = some v := by
  have hj : j < xs.length := (List.getElem?_eq_some_iff.mp h).1
  have e : ixN xs.length (j : Int) = some j := by
    unfold ixN
    rw [if_pos (by omega), if_pos (by omega)]; simp
  unfold atI; rw [e]; exact h
theorem atI_last {α : Type} (xs : List α) (v : α) : atI (xs ++ [v]) (-1) = some v := by
  have hl : (xs ++ [v]).length = xs.length + 1 := by simp
  have e : ixN (xs ++ [v]).length (-1) = some xs.length := by
    unfold ixN
    rw [hl, if_neg (by decide), if_pos (by omega)]
    congr 1
    omega
  unfold atI
  rw [e]
  show (xs ++ [v])[xs.length]? = some v
  simp
def PlainIx (b : Expr) : Prop := ∀ o i, subscripted b false o i = operate [o, i] (getItem o i)
def IxR (X : Cx) (r : R2) : Prop :=
  ∀ (value slice : Expr) (pins : List (Addr × Obj)) (s : Shared) (σ : St) (H : Hp) (x y : V) (v u : Value) (Q : VK), Inv X pins σ H s → RelV x v → RelV y u → r x y H Q →
    subscripted slice false v u = operate [v, u] (getItem v u) → wpAny (model X.prog X.w) X.A (subscriptTail value slice v u) (EP X pins σ Q) X.xe s
def MtR (X : Cx) (id : String) (r : V → List V → Hp → VK → Prop) : Prop :=
  ∀ (pins : List (Addr × Obj)) (s : Shared) (σ : St) (H : Hp) (x : V) (xs : List V) (v : Value) (us : List Value) (Q : VK), Inv X pins σ H s → RelV x v → Vals xs us → r x xs H Q →
    wpAny (model X.prog X.w) X.A (call (.builtin id) (v :: us)) (EP X pins σ Q) X.xe s
section
variable {X : Cx} {a b : Expr} {ta tb : TE} {pos : Pos}
theorem IxR.or {r r' : R2} (h : IxR X r) (h' : IxR X r') : IxR X (fun x y H Q => r x y H Q ∨ r' x y H Q) := by
  intro value slice pins s σ H x y v u Q I rx ry q hs
  rcases q with q | q
  · exact h value slice pins s σ H x y v u Q I rx ry q hs
  · exact h' value slice pins s σ H x y v u Q I rx ry q hs
theorem pe_ix {r : R2} (hr : IxR X r) (ha : PE X a ta) (hb : PE X b tb) (hs : PlainIx b) : PE X (.Subscript a b pos) (tOp r ta tb) := by
  intro pins s σ H Q I h
  exact Subscript_ (binT ha hb I h fun v u s2 x y H2 I2 rx ry q => hr a b pins s2 σ H2 x y v u Q I2 rx ry q (hs _ _))
def rIxL (K : PySem.W.Frag) : R2 := fun x y H Q => ∃ p xs i v, x = .ref p ∧ y = .int i ∧ SqL K H p xs ∧ atI xs i = some v ∧ Q v H
def rIxT (K : PySem.W.Frag) : R2 := fun x y H Q => ∃ p xs i v, x = .ref p ∧ y = .int i ∧ SqT K H p xs ∧ atI xs i = some v ∧ Q v H
def rIxS : R2 := fun x y H Q => ∃ z i c, x = .str z ∧ y = .int i ∧ z.length ≤ sizeLine ∧ atI z.cps.toList i = some c ∧ Q (.str ⟨#[c]⟩) H
theorem ix_list : IxR X (rIxL X.K) := by
  intro value slice pins s σ H x y v u Q I rx ry h hs
  obtain ⟨p, xs, i, z, rfl, rfl, hq, he, q⟩ := h
  cases rx
  obtain ⟨t, rfl⟩ := ry
  obtain ⟨its, r, pl, hz⟩ := I.list hq
  obtain ⟨j, h1, h2, h3, h4, h5⟩ := atI_get he
  obtain ⟨w, ew, rw'⟩ := r.get h2
  have hl := r.length
  have hn := line63
  have fin : EP X pins σ Q w s := ⟨z, H, I, rw', q⟩
  by_cases h0 : 0 ≤ i
  · have hj : i.toNat = j := by
      rw [seqIndex_of h0 h5] at h1
      exact Option.some.inj h1
    exact item_listR pl.isList h0 (by omega) (by rw [hj]; simpa using ew) fin hs
  · have hj : (i + (its.toArray.size : Int)).toNat = j := by
      rw [seqIndex_neg (by omega) h4] at h1
      rw [List.size_toArray, ← hl]
      exact Option.some.inj h1
    exact subscriptTail_builtinR (x := w) pl.isList.typeIs slot_list_getitem.lookup
      (wpAny_getItem_list_neg (Q := fun r s' => r = w ∧ EP X pins σ Q r s') pl.isList (by omega) (by rw [List.size_toArray] <;> omega) (by omega) (by rw [hj]; simpa using ew) ⟨rfl, fin⟩) hs
theorem ix_tup : IxR X (rIxT X.K) := by
  intro value slice pins s σ H x y v u Q I rx ry h hs
  obtain ⟨p, xs, i, z, rfl, rfl, hq, he, q⟩ := h
  cases rx
  obtain ⟨t, rfl⟩ := ry
  obtain ⟨its, r, pl, hz⟩ := I.tuple hq
  obtain ⟨j, h1, h2, h3, h4, h5⟩ := atI_get he
  obtain ⟨w, ew, rw'⟩ := r.get h2
  have hl := r.length
  have hn := line63
  have fin : EP X pins σ Q w s := ⟨z, H, I, rw', q⟩
  exact subscriptTail_builtinR (x := w) pl.typeIs slot_tuple_getitem.lookup
    (getItem_tuple (j := j) (Q := fun r s' => r = w ∧ EP X pins σ Q r s') pl (by omega) (by omega) (by rw [List.size_toArray, ← hl]; exact h1) (by simpa using ew) ⟨rfl, fin⟩) hs
theorem ix_str : IxR X rIxS := by
  intro value slice pins s σ H x y v u Q I rx ry h hs
  obtain ⟨z, i, c, rfl, rfl, hz, he, q⟩ := h
  obtain ⟨t, rfl⟩ := rx
  obtain ⟨t', rfl⟩ := ry
  obtain ⟨j, h1, h2, h3, h4, h5⟩ := atI_get he
  have hl : z.cps.toList.length = z.length := by simp [Str.length]
  rw [hl] at h1 h4 h5
  have hn := line63
  exact tail_any (typeIs_str s z t) slot_str_getitem.lookup (getItem_str (c := c) (by
    have e1 : decide (i < -(2 ^ 63 : Int)) = false := decide_eq_false (by omega)
    have e2 : decide (i ≥ 2 ^ 63) = false := decide_eq_false (by omega)
    rw [e1, e2, Bool.or_false]) (by rw [h1]; simpa using h2) ⟨.str ⟨#[c]⟩, H, I.tok _, ⟨_, rfl⟩, q⟩) hs
def rIx (K : PySem.W.Frag) : R2 := fun x y H Q => rIxL K x y H Q ∨ rIxT K x y H Q ∨ rIxS x y H Q
theorem ix_seq : IxR X (rIx X.K) := ix_list.or (ix_tup.or ix_str)
theorem mapSeq_set (its : List Value) (n j : Nat) (u : Value) : Obj.mapSeq (·.setIfInBounds j u) { cls := .type "list", data := .seq its.toArray n } = { cls := .type "list", data := .seq (its.set j u).toArray n } := by
  simp [Obj.mapSeq]
theorem Inv.lst {pins : List (Addr × Obj)} {σ : St} {H : Hp} {s : Shared} {p : Addr} {xs : List V} (I : Inv X pins σ H s) (h : H p = some (.lst xs)) :
    ∃ (its : List Value) (n : Nat), Vals xs its ∧ s.heap.get? p = some { cls := .type "list", data := .seq its.toArray n } ∧ xs.length ≤ sizeLine := by
  obtain ⟨z, its, n, r, e⟩ := I.hok p _ h
  exact ⟨its, n, r, e, z⟩
theorem Inv.lstUpd {pins : List (Addr × Obj)} {σ : St} {H : Hp} {s : Shared} {p : Addr} {xs ys : List V} {its its' : List Value} {n n' : Nat} {f : Obj → Obj} (I : Inv X pins σ H s) (h : H p = some (.lst xs))
    (ho : s.heap.get? p = some { cls := .type "list", data := .seq its.toArray n }) (hf : f { cls := .type "list", data := .seq its.toArray n } = { cls := .type "list", data := .seq its'.toArray n' }) (r : Vals ys its') (hz : ys.length ≤ sizeLine) (t : Nat) :
    Inv X pins σ (upd H p (.lst ys)) { s with heap := s.heap.update p f, toks := t } := by
  have e : (s.heap.update p f).get? p = some { cls := .type "list", data := .seq its'.toArray n' } := by
    rw [Heap.get?_update_self f ho (by rw [hf] <;> rfl), hf]
  refine I.write (x := p) (e := p) (by rw [h]; trivial) (.inl rfl) (fun b u hb q => (Heap.get?_update_other _ _ (Ne.symm hb)).trans q) ⟨_, e⟩ ?_
  exact ⟨hz, its', n', r, e⟩
def rSetL : V → V → V → Hp → (Hp → Prop) → Prop := fun o i v H Q => ∃ p xs k j, o = .ref p ∧ i = .int k ∧ H p = some (.lst xs) ∧ ixN xs.length k = some j ∧ Q (upd H p (.lst (xs.set j v)))
theorem set_list : PSet X rSetL := by
  intro pins s σ H o i v ov iv u Q I ro ri rv h
  obtain ⟨p, xs, k, j, rfl, rfl, hp, hj, q⟩ := h
  cases ro
  obtain ⟨t, rfl⟩ := ri
  obtain ⟨its, n, r, ho, hz⟩ := I.lst hp
  obtain ⟨h1, h2, h3, h4⟩ := ixN_seq hj
  have hl := r.length
  have hn := line63
  have I' : Inv X pins σ (upd H p (.lst (xs.set j v))) { s with heap := s.heap.update p (Obj.mapSeq (·.setIfInBounds j u)) } :=
    I.lstUpd hp ho (mapSeq_set its n j u) (r.set rv j) (by rw [List.length_set]; exact hz) s.toks
  by_cases h0 : 0 ≤ k
  · have hk : k.toNat = j := by
      rw [seqIndex_of h0 h4] at h1
      exact Option.some.inj h1
    exact PySem.W.ki_setAt ho h0 (by omega) (by rw [List.size_toArray, ← hl]; exact h4) (by rw [hk]; exact ⟨_, I', q⟩)
  · have hk : (k + (its.toArray.size : Int)).toNat = j := by
      rw [seqIndex_neg (by omega) h3] at h1
      rw [List.size_toArray, ← hl]
      exact Option.some.inj h1
    exact PySem.W.ki_setBack ho (by omega) (by rw [List.size_toArray, ← hl]; exact h3) (by omega) (by rw [hk]; exact ⟨_, I', q⟩)
theorem slice_bounds (lo hi : Option Int) (n : Nat) : (sliceBounds lo hi none n).1 = ((HT.sIx n 0 lo : Nat) : Int) ∧ (sliceBounds lo hi none n).2.1 = ((HT.sIx n n hi : Nat) : Int) ∧ (sliceBounds lo hi none n).2.2 = 1 := by
  refine ⟨?_, ?_, rfl⟩
  · cases lo with
    | none => simp [sliceBounds, HT.sIx]
    | some i =>
      simp only [sliceBounds, HT.sIx, Option.getD_none, show (1 : Int) > 0 by decide, if_true]
      by_cases h : i < 0
      · simp only [h, if_true] <;> omega
      · simp only [h, if_false] <;> omega
  · cases hi with
    | none => simp [sliceBounds, HT.sIx]
    | some i =>
      simp only [sliceBounds, HT.sIx, Option.getD_none, show (1 : Int) > 0 by decide, if_true]
      by_cases h : i < 0
      · simp only [h, if_true] <;> omega
      · simp only [h, if_false] <;> omega
theorem slicePick_cut (its : List Value) (lo hi : Option Int) : slicePick its.toArray lo hi none = ((its.drop (HT.sIx its.length 0 lo)).take (HT.sIx its.length its.length hi - HT.sIx its.length 0 lo)).toArray := by
  obtain ⟨h1, h2, h3⟩ := slice_bounds lo hi its.toArray.size
  unfold slicePick
  rw [h1, h2, h3]
  simp only [sliceRange_one, pick_run, List.size_toArray] <;> rfl
def rSlL (K : PySem.W.Frag) : V → Option Int → Option Int → Hp → VK → Prop := fun x lo hi H Q => ∃ a xs, x = .ref a ∧ SqL K H a xs ∧ ∀ p, H p = none → Q (.ref p) (upd H p (.lst (cutV xs lo hi)))
theorem sl_list : SlR X (rSlL X.K) := by
  intro pins s σ H x v vl vu lo hi sl Q I rx hs pl pu h
  obtain ⟨a, xs, rfl, hx, q⟩ := h
  cases rx
  obtain ⟨its, r, ht, hz⟩ := I.list hx
  have hlen := r.length
  refine ⟨"list", _, slot_list_getitem.lookup, ht.isList.typeIs, ?_⟩
  refine wpAny_getItem_list_slice ht.isList hs pl pu .none (by simp) ?_ (by rw [List.size_toArray] <;> omega)
  rw [slicePick_cut, ← hlen]
  refine ⟨.ref s.heap.objs.size, _, I.laid (t' := s.toks) (o := .lst (cutV xs lo hi)) (fun b ob q => Heap.get?_push_of_some _ q) (Nat.le_refl _) ?_, rfl, q _ (I.hok.fresh (Nat.le_refl _))⟩
  exact ⟨Nat.le_trans (cutV_length xs lo hi) hz, _, 0, (r.drop (HT.sIx xs.length 0 lo)).take (HT.sIx xs.length xs.length hi - HT.sIx xs.length 0 lo), Heap.get?_push_size _ rfl⟩
def flatV : V → Bool
  | .non => true
  | .bl _ => true
  | .int _ => true
  | .str _ => true
  | _ => false
def eqV : V → V → Bool
  | .non, .non => true
  | .bl a, .bl b => a == b
  | .bl a, .int b => (if a then 1 else 0) == b
  | .int a, .bl b => a == (if b then 1 else 0)
  | .int a, .int b => a == b
  | .str a, .str b => a == b
  | _, _ => false
theorem eqAt_V {A : Around} {s : Shared} {y x : V} {u v : Value} (ry : RelV y u) (rx : RelV x v) (fy : flatV y = true) (fx : flatV x = true) : SeqAt.EqAt A s u v (eqV y x) := by
  cases y with
  | non =>
    cases ry
    cases x with
    | non => cases rx; exact SeqAt.EqAt.same _
    | bl b => cases rx; exact SeqAt.EqAt.none_bool b
    | int b => obtain ⟨t, rfl⟩ := rx; exact SeqAt.EqAt.none_int b t
    | str b => obtain ⟨t, rfl⟩ := rx; exact SeqAt.EqAt.none_str b t
    | _ => exact absurd (show false = true from fx) Bool.false_ne_true
  | bl a =>
    cases ry
    cases x with
    | non => cases rx; exact SeqAt.EqAt.bool_none a
    | bl b => cases rx; exact SeqAt.EqAt.bool_bool a b
    | int b => obtain ⟨t, rfl⟩ := rx; exact SeqAt.EqAt.bool_int a b t
    | str b => obtain ⟨t, rfl⟩ := rx; exact SeqAt.EqAt.bool_str a b t
    | _ => exact absurd (show false = true from fx) Bool.false_ne_true
  | int a =>
    obtain ⟨t', rfl⟩ := ry
    cases x with
    | non => cases rx; exact SeqAt.EqAt.int_none a t'
    | bl b => cases rx; exact SeqAt.EqAt.int_bool a t' b
    | int b => obtain ⟨t, rfl⟩ := rx; exact SeqAt.EqAt.int_int a t' b t
    | str b => obtain ⟨t, rfl⟩ := rx; exact SeqAt.EqAt.int_str a t' b t
    | _ => exact absurd (show false = true from fx) Bool.false_ne_true
  | str a =>
    obtain ⟨t', rfl⟩ := ry
    cases x with
    | non => cases rx; exact SeqAt.EqAt.str_none a t'
    | bl b => cases rx; exact SeqAt.EqAt.str_bool a t' b
    | int b => obtain ⟨t, rfl⟩ := rx; exact SeqAt.EqAt.str_int a t' b t
    | str b => obtain ⟨t, rfl⟩ := rx; exact SeqAt.EqAt.str_str a t' b t
    | _ => exact absurd (show false = true from fx) Bool.false_ne_true
  | _ => exact absurd (show false = true from fy) Bool.false_ne_true
def eqU (x : V) (u : Value) : Bool := match u with
  | .none => eqV .non x
  | .bool b => eqV (.bl b) x
  | .int i _ => eqV (.int i) x
  | .str z _ => eqV (.str z) x
  | _ => false
theorem eqU_of {x y : V} {u : Value} (r : RelV y u) (f : flatV y = true) : eqU x u = eqV y x := by
  cases y with
  | non => cases r; rfl
  | bl b => cases r; rfl
  | int i => obtain ⟨t, rfl⟩ := r; rfl
  | str z => obtain ⟨t, rfl⟩ := r; rfl
  | _ => exact absurd (show false = true from f) Bool.false_ne_true
theorem any_eqU {x : V} : ∀ {xs : List V} {us : List Value}, Vals xs us → xs.all flatV = true → us.any (eqU x) = xs.any fun y => eqV y x
  | _, _, .nil, _ => rfl
  | y :: xs, u :: us, .cons r t, f => by
    rw [List.all_cons, Bool.and_eq_true] at f
    rw [List.any_cons, List.any_cons, eqU_of r f.1, any_eqU t f.2]
theorem mem_eqAt {A : Around} {s : Shared} {x : V} {v : Value} (rx : RelV x v) (fx : flatV x = true) : ∀ {xs : List V} {us : List Value}, Vals xs us → xs.all flatV = true → ∀ u ∈ us, SeqAt.EqAt A s u v (eqU x u)
  | _, _, .nil, _ => fun u hu => by cases hu
  | y :: xs, u :: us, .cons r t, f => fun u' hu => by
    rw [List.all_cons, Bool.and_eq_true] at f
    rcases List.mem_cons.mp hu with rfl | hu
    · rw [eqU_of r f.1]; exact eqAt_V r rx f.1 fx
    · exact mem_eqAt rx fx t f.2 u' hu
def inV (x : V) (xs : List V) : Bool := xs.any fun y => eqV y x
def rIn (K : PySem.W.Frag) (neg : Bool) : R2 := fun x y H Q => ∃ p xs, y = .ref p ∧ (SqL K H p xs ∨ SqT K H p xs) ∧ flatV x = true ∧ xs.all flatV = true ∧ Q (.bl (if neg then !inV x xs else inV x xs)) H
theorem op_in_seq : OpR X (compareOp .In) (rIn X.K false) := by
  intro pins s σ H x y v u Q I rx ry h
  obtain ⟨p, xs, rfl, hq, fx, fs, q⟩ := h
  cases ry
  rcases hq with hq | hq
  · obtain ⟨its, r, pl, hz⟩ := I.list hq
    refine SeqAt.in_listAt (eqU x) pl.isList (fun w hw => mem_eqAt rx fx r fs w (by simpa using hw)) ⟨.bl _, H, I, rfl, ?_⟩
    rw [show its.toArray.any (eqU x) = its.any (eqU x) by simp, any_eqU r fs]
    exact q
  · obtain ⟨its, r, pl, hz⟩ := I.tuple hq
    refine SeqAt.in_tupleAt (eqU x) pl (fun w hw => mem_eqAt rx fx r fs w (by simpa using hw)) ⟨.bl _, H, I, rfl, ?_⟩
    rw [show its.toArray.any (eqU x) = its.any (eqU x) by simp, any_eqU r fs]
    exact q
theorem op_notIn_seq : OpR X (compareOp .NotIn) (rIn X.K true) := by
  intro pins s σ H x y v u Q I rx ry h
  obtain ⟨p, xs, rfl, hq, fx, fs, q⟩ := h
  cases ry
  rcases hq with hq | hq
  · obtain ⟨its, r, pl, hz⟩ := I.list hq
    refine SeqAt.notIn_listAt (eqU x) pl.isList (fun w hw => mem_eqAt rx fx r fs w (by simpa using hw)) ⟨.bl _, H, I, rfl, ?_⟩
    rw [show its.toArray.any (eqU x) = its.any (eqU x) by simp, any_eqU r fs]
    exact q
  · obtain ⟨its, r, pl, hz⟩ := I.tuple hq
    refine SeqAt.notIn_tupleAt (eqU x) pl (fun w hw => mem_eqAt rx fx r fs w (by simpa using hw)) ⟨.bl _, H, I, rfl, ?_⟩
    rw [show its.toArray.any (eqU x) = its.any (eqU x) by simp, any_eqU r fs]
    exact q
theorem op_notIn_str : OpR X (compareOp .NotIn) (fun x y H Q => ∃ i j, x = .str i ∧ y = .str j ∧ Q (.bl (!(!(Builtin.Str.occurrences j i 0 j.length 1).isEmpty))) H) := by
  intro pins s σ H x y v u Q I rx ry h
  obtain ⟨i, j, rfl, rfl, q⟩ := h
  obtain ⟨t, rfl⟩ := rx
  obtain ⟨t', rfl⟩ := ry
  exact notIn_str ⟨.bl _, H, I, rfl, q⟩
theorem call_tuple_of : CallR X (.type "tuple") (fun xs H Q => ∃ p ys, xs = [.ref p] ∧ ((SqL X.K H p ys ∧ ∀ l, H l = none → Q (.ref l) (upd H l (.tup ys))) ∨ (SqT X.K H p ys ∧ Q (.ref p) H))) := by
  intro pins s σ H xs us Q I r h
  obtain ⟨p, ys, rfl, h⟩ := h
  obtain ⟨u, rfl, rx⟩ := vals1 r
  cases rx
  rcases h with ⟨hq, q⟩ | ⟨hq, q⟩
  · obtain ⟨its, r', pl, hz⟩ := I.list hq
    have hlen := r'.length
    refine call_tuple_list pl.isList (fun h' kp => ?_) (by simp only [List.size_toArray] <;> omega)
    have I1 : Inv X pins σ H { s with heap := h' } := I.kept (t' := s.toks) kp
    have I2 : Inv X pins σ (upd H h'.objs.size (.tup ys)) { s with heap := h'.push { cls := .type "tuple", data := .seq its.toArray } } :=
      I1.laid (t' := s.toks) (fun b o e => Heap.get?_push_of_some _ e) (Nat.le_refl _) (show ObjOk X.prog X.w _ _ _ (.tup ys) from ⟨hz, its, r', IsTup.new _ _⟩)
    exact ⟨.ref h'.objs.size, _, I2, rfl, q _ (I1.hok.fresh (Nat.le_refl _))⟩
  · obtain ⟨its, r', pl, hz⟩ := I.tuple hq
    exact call_tuple_same pl ⟨.ref p, H, I, rfl, q⟩
def tyV (K : PySem.W.Frag) (T : String) (x : V) (H : Hp) : Prop := match x with
  | .str _ => T = "str"
  | .int _ => T = "int"
  | .ref p => (T = "list" ∧ ∃ xs, SqL K H p xs) ∨ (T = "tuple" ∧ ∃ o, K.lookup p = some o ∧ o.cls = .type "tuple" ∧ o.dict = none) ∨
      (T = "dict" ∧ ((∃ kvs, H p = some (.dK kvs)) ∨ ∃ kvs, H p = some (.dT kvs))) ∨ (T = "set" ∧ ∃ S n, H p = some (.set S n))
  | _ => False
theorem tyV_is {pins : List (Addr × Obj)} {σ : St} {H : Hp} {s : Shared} {T : String} {x : V} {v : Value} (I : Inv X pins σ H s) (r : RelV x v) (ty : tyV X.K T x H) :
    s.TypeIs v T ∧ ∀ a, v = .ref a → ∃ ob, s.heap.get? a = some ob ∧ ob.dict = none := by
  cases x with
  | str z =>
    obtain ⟨t, rfl⟩ := r
    cases (show T = "str" from ty)
    exact ⟨typeIs_str s z t, fun _ e => nomatch e⟩
  | int i =>
    obtain ⟨t, rfl⟩ := r
    cases (show T = "int" from ty)
    exact ⟨typeIs_int s i t, fun _ e => nomatch e⟩
  | ref p =>
    cases r
    rcases ty with ⟨rfl, xs, hq⟩ | ⟨rfl, o, hk, hc, hd⟩ | ⟨rfl, hk⟩ | ⟨rfl, S, n, hk⟩
    · obtain ⟨its, _, pl, _⟩ := I.list hq
      refine ⟨pl.isList.typeIs, fun a e => ?_⟩
      cases e
      obtain ⟨o, n, e, c, hd, _⟩ := pl
      exact ⟨o, e, hd⟩
    · refine ⟨⟨o, I.kIn p o hk, hc⟩, fun a e => ?_⟩
      cases e
      exact ⟨o, I.kIn _ o hk, hd⟩
    · have z : ∃ o, s.heap.get? p = some o ∧ o.ExactDict := by
        rcases hk with ⟨kvs, hk⟩ | ⟨kvs, hk⟩
        · obtain ⟨_, _, _, _, o, _, _, e, ex, _⟩ := I.hok p _ hk
          exact ⟨o, e, ex⟩
        · obtain ⟨_, _, _, _, o, _, _, e, ex, _⟩ := I.hok p _ hk
          exact ⟨o, e, ex⟩
      obtain ⟨o, e, ex⟩ := z
      refine ⟨⟨o, e, ex.1⟩, fun a e2 => ?_⟩
      cases e2
      exact ⟨o, e, ex.2.1⟩
    · obtain ⟨o, _, _, _, e, ex, _⟩ := I.hok p _ hk
      refine ⟨⟨o, e, ex.1⟩, fun a e2 => ?_⟩
      cases e2
      exact ⟨o, e, ex.2.1⟩
  | _ => exact False.elim ty
def tBM0 (K : PySem.W.Frag) (T : String) (r : V → List V → Hp → VK → Prop) (to : TE) : TE := fun σ H Q => to σ H fun x H1 => tyV K T x H1 ∧ r x [] H1 Q
def tBM (K : PySem.W.Frag) (T : String) (r : V → List V → Hp → VK → Prop) (to : TE) (t : TA) : TE := fun σ H Q => to σ H fun x H1 => tyV K T x H1 ∧ t σ H1 fun xs H2 => r x xs H2 Q
variable {o e : Expr} {es : List Expr} {to : TE} {t : TA} {name : Str} {apos cpos : Pos} {T id : String} {r : V → List V → Hp → VK → Prop}
theorem pe_bm0 (pa : PlainAttrs T) (slot : Slot T name id) (hty : typeOf (.builtin id) = pure (.type "method_descriptor")) (hm : MtR X id r) (ho : PE X o to)
    (hbase : attributeBase o name X.env (eval o X.env) = eval o X.env := by rfl) (hline : (apos.endLine == cpos.line) = true := by rfl) : PE X (.Call (.Attribute o name apos) [] [] cpos) (tBM0 X.K T r to) := by
  intro pins s σ H Q I h
  refine wpAny_Call_method0_late hbase hline (thn (ho pins s σ H _ I h) fun v s1 ⟨x, H1, I1, r1, ty, q1⟩ => ?_)
  obtain ⟨h1, h2⟩ := tyV_is I1 r1 ty
  exact ⟨T, id, pa, slot, hty, h1, h2, Calls.callWith_builtin rfl (PySem.evalArgs_none (hm pins s1 σ H1 x [] v [] Q I1 r1 .nil q1))⟩
theorem pe_bm (pa : PlainAttrs T) (slot : Slot T name id) (hty : typeOf (.builtin id) = pure (.type "method_descriptor")) (hm : MtR X id r) (ho : PE X o to) (ha : PA X (e :: es) t)
    (hbase : attributeBase o name X.env (eval o X.env) = eval o X.env := by rfl)
    (hfew : ((backTo cpos (starEach (e :: es) X.env)).all (fun x => !x.1) && (backToKw cpos (keywordEach [] X.env)).all (fun x => x.1.isSome)
      && decide ((e :: es).length + ([] : List Keyword).length + (if ([] : List Keyword).isEmpty then 0 else 1) < 30)) = true := by rfl)
    (hline : (apos.endLine == cpos.line) = true := by rfl) (hs : starEach (e :: es) X.env = (false, eval e X.env) :: starEach es X.env := by rfl) (hplain : (backTo cpos (starEach es X.env)).any (·.1) = false := by rfl) :
    PE X (.Call (.Attribute o name apos) (e :: es) [] cpos) (tBM X.K T r to t) := by
  intro pins s σ H Q I h
  refine wpAny_Call_method_late hbase hfew hline rfl (thn (ho pins s σ H _ I h) fun v s1 ⟨x, H1, I1, r1, ty, q1⟩ => ?_)
  obtain ⟨h1, h2⟩ := tyV_is I1 r1 ty
  refine ⟨T, id, pa, slot, hty, h1, h2, ?_⟩
  have hA := ha cpos pins s1 σ H1 _ I1 q1
  rw [hs] at hA ⊢
  refine Calls.callWith_builtin (by show (false || (backTo cpos (starEach es X.env)).any (·.1)) = false; rw [hplain] <;> rfl) (Calls.evalArgs_plain ?_)
  exact thn hA fun us s2 ⟨vs, H2, I2, r2, q2⟩ => hm pins s2 σ H2 x vs v us Q I2 r1 r2 q2
end
end L2
namespace L2
open PySem PySem.Spec PyProof.Rows
def MtM (X : Cx) (id : String) (r : V → List V → Hp → VK → Prop) : Prop :=
  ∀ (pins : List (Addr × Obj)) (s : Shared) (σ : St) (H : Hp) (x : V) (xs : List V) (v : Value) (us : List Value) (Q : VK), Inv X pins σ H s → RelV x v → Vals xs us → r x xs H Q →
    wpAny (model X.prog X.w) X.A (call (.builtin id) (v :: us)) (EP X pins σ Q) X.xe s
theorem Vals.one : ∀ {x : V} {us : List Value}, Vals [x] us → ∃ u, us = [u] ∧ RelV x u
  | _, _, .cons r .nil => ⟨_, rfl, r⟩
theorem Vals.rep {xs : List V} {us : List Value} (h : Vals xs us) : ∀ k : Nat, Vals (List.replicate k xs).flatten (List.replicate k us).flatten
  | 0 => .nil
  | k + 1 => by
    rw [List.replicate_succ, List.replicate_succ, List.flatten_cons, List.flatten_cons]
    exact Vals.append h (Vals.rep h k)
theorem foldl_rep (its : List Value) : ∀ (k : Nat) (acc : List Value),
    List.foldl (fun x1 x2 => x1 ++ x2) acc.toArray (List.replicate k its.toArray) = (acc ++ (List.replicate k its).flatten).toArray
  | 0, acc => by simp
  | k + 1, acc => by
    have e : acc.toArray ++ its.toArray = (acc ++ its).toArray := by simp
    have e2 : (acc ++ its) ++ (List.replicate k its).flatten = acc ++ (List.replicate (k + 1) its).flatten := by
      rw [List.replicate_succ, List.flatten_cons, List.append_assoc]
    rw [← e2, ← foldl_rep its k (acc ++ its), ← e, List.replicate_succ, List.foldl_cons]
section
variable {X : Cx} {pins : List (Addr × Obj)} {σ : St} {H : Hp} {s : Shared} {l b : Addr} {xs ys zs : List V}
theorem Inv.lset {its its' : List Value} {n : Nat} {f : Array Value → Array Value} {t' : Nat} (I : Inv X pins σ H s) (hH : H l = some (.lst xs))
    (e : s.heap.get? l = some { cls := .type "list", data := .seq its.toArray n }) (hf : f its.toArray = its'.toArray) (hv : Vals ys its') (hz : ys.length ≤ sizeLine) :
    Inv X pins σ (upd H l (.lst ys)) { s with heap := s.heap.update l (Obj.mapSeq f), toks := t' } := by
  have q := PySem.IsL.update e f
  rw [hf] at q
  refine I.write (x := l) (e := l) (by rw [hH]; exact trivial) (.inl rfl) (fun b' u hb hu => (Heap.get?_update_other s.heap (Obj.mapSeq f) (Ne.symm hb)).trans hu) ⟨_, q⟩ ?_
  exact ⟨hz, its', _, hv, q⟩
theorem Inv.lnew {its : List Value} {t' : Nat} (I : Inv X pins σ H s) (hv : Vals ys its) (hz : ys.length ≤ sizeLine) :
    Inv X pins σ (upd H s.heap.objs.size (.lst ys)) { s with heap := s.heap.push { cls := .type "list", data := .seq its.toArray }, toks := t' } :=
  I.laid (fun _ _ q => Heap.get?_push_of_some _ q) (Nat.le_refl _) ⟨hz, its, 0, hv, Heap.get?_push_size _ rfl⟩
theorem Inv.fresh (I : Inv X pins σ H s) : H s.heap.objs.size = none := I.hok.fresh (Nat.le_refl _)
theorem Inv.lstM (I : Inv X pins σ H s) (hH : H l = some (.lst xs)) : xs.length ≤ sizeLine ∧ ∃ (its : List Value) (n : Nat), Vals xs its ∧ xs.length = its.length ∧ s.heap.get? l = some { cls := .type "list", data := .seq its.toArray n } := by
  obtain ⟨z, its, n, r, e⟩ := I.hok l _ hH
  exact ⟨z, its, n, r, r.length, e⟩
theorem notLongL {n : Nat} (h : n ≤ sizeLine) : Builtin.List.listTooLong n = false := by
  unfold Builtin.List.listTooLong
  exact decide_eq_false (by omega)
end
section
variable {X : Cx}
def rAppend : V → List V → Hp → VK → Prop := fun x vs H Q => ∃ l xs y, x = .ref l ∧ vs = [y] ∧ H l = some (.lst xs) ∧ xs.length < sizeLine ∧ Q .non (upd H l (.lst (xs ++ [y])))
theorem mt_append : MtM X "list.append" rAppend := by
  intro pins s σ H x vs v us Q I rx rv h
  obtain ⟨l, xs, y, rfl, rfl, hH, hz, q⟩ := h
  cases rx
  obtain ⟨u, rfl, ru⟩ := rv.one
  obtain ⟨z, its, n, r, hl, e⟩ := I.lstM hH
  refine call_meets F.slot_list_append ⟨_, e, rfl⟩ F.entry_list_append (F.args_list_append_2 _ _) (PySem.list_append l its.toArray n u (by rw [List.size_toArray]; omega)) ⟨e, ?_⟩
  refine ⟨.non, _, I.lset (its' := its ++ [u]) hH e (by simp) (r.append (.cons ru .nil)) ?_, rfl, q⟩
  rw [List.length_append, List.length_singleton]
  omega
def rExtend : V → List V → Hp → VK → Prop := fun x vs H Q => ∃ l b xs zs, x = .ref l ∧ vs = [.ref b] ∧ H l = some (.lst xs) ∧ H b = some (.lst zs) ∧ xs.length + zs.length ≤ sizeLine ∧ Q .non (upd H l (.lst (xs ++ zs)))
theorem mt_extend : MtM X "list.extend" rExtend := by
  intro pins s σ H x vs v us Q I rx rv h
  obtain ⟨l, b, xs, zs, rfl, rfl, hH, hB, hz, q⟩ := h
  cases rx
  obtain ⟨u, rfl, ru⟩ := rv.one
  cases ru
  obtain ⟨z, its, n, r, hl, e⟩ := I.lstM hH
  obtain ⟨z2, its2, n2, r2, hl2, e2⟩ := I.lstM hB
  have hsz : its.toArray.size + its2.toArray.size ≤ sizeLine := by rw [List.size_toArray, List.size_toArray]; omega
  have hlong : ¬ (!its.toArray.isEmpty && Builtin.List.listTooLong (its.toArray.size + its2.toArray.size)) = true := by
    rw [notLongL hsz, Bool.and_false]
    exact Bool.false_ne_true
  refine call_meets F.slot_list_extend ⟨_, e, rfl⟩ F.entry_list_extend (F.args_list_extend_2 _ _)
    (AutoSeq1.list_extend_list_list_0 l its.toArray n b its2.toArray n2 hlong (by rw [List.size_toArray]; omega) (by omega)) ⟨e, e2, ?_⟩
  refine ⟨.non, _, I.lset (its' := its ++ its2) hH e (by simp) (r.append r2) ?_, rfl, q⟩
  rw [List.length_append]
  omega
def rCat : R2 := fun x y H Q => ∃ l b xs zs, x = .ref l ∧ y = .ref b ∧ H l = some (.lst xs) ∧ H b = some (.lst zs) ∧ xs.length + zs.length ≤ sizeLine ∧ ∀ p, H p = none → Q (.ref p) (upd H p (.lst (xs ++ zs)))
theorem op_cat : OpR X (binaryOp .Add) rCat := by
  intro pins s σ H x y v u Q I rx ry h
  obtain ⟨l, b, xs, zs, rfl, rfl, hH, hB, hz, q⟩ := h
  cases rx
  cases ry
  obtain ⟨z, its, n, r, hl, e⟩ := I.lstM hH
  obtain ⟨z2, its2, n2, r2, hl2, e2⟩ := I.lstM hB
  refine PySem.P.add_list e e2 ?_ (by rw [List.size_toArray, List.size_toArray]; omega)
  have ea : its.toArray ++ its2.toArray = (its ++ its2).toArray := by simp
  rw [ea]
  exact ⟨.ref _, _, I.lnew (t' := s.toks) (r.append r2) (by rw [List.length_append]; omega), rfl, q _ I.fresh⟩
def rRep : R2 := fun x y H Q => ∃ l k xs, x = .ref l ∧ y = .int k ∧ H l = some (.lst xs) ∧ -(2 ^ 63) ≤ k ∧ k < 2 ^ 63 ∧ xs.length * k.toNat ≤ sizeLine ∧
  ∀ p, H p = none → Q (.ref p) (upd H p (.lst (List.replicate k.toNat xs).flatten))
theorem len_rep {α : Type} (xs : List α) (k : Nat) : (List.replicate k xs).flatten.length = k * xs.length := by
  induction k with
  | zero => simp
  | succ k ih => rw [List.replicate_succ, List.flatten_cons, List.length_append, ih, Nat.succ_mul, Nat.add_comm]
theorem op_rep : OpR X (binaryOp .Mult) rRep := by
  intro pins s σ H x y v u Q I rx ry h
  obtain ⟨l, k, xs, rfl, rfl, hH, h1, h2, hz, q⟩ := h
  cases rx
  obtain ⟨t, rfl⟩ := ry
  obtain ⟨z, its, n, r, hl, e⟩ := I.lstM hH
  have hlen : its.toArray.size * k.toNat ≤ sizeLine := by rw [List.size_toArray, ← hl]; exact hz
  have hcap : ¬ its.toArray.size * k.toNat > (2 ^ 63 - 1) / 8 := by
    have : (sizeLine : Nat) ≤ (2 ^ 63 - 1) / 8 := by decide
    omega
  have hfit : ¬ (!Builtin.List.listFitsIndex k) = true := by
    rw [fitsIndex_both h1 h2]
    exact Bool.false_ne_true
  have hlong : ¬ Builtin.List.listTooLong (its.toArray.size * k.toNat) = true := by
    rw [notLongL hlen]
    exact Bool.false_ne_true
  have hnew : List.foldl (fun x1 x2 => x1 ++ x2) #[] (List.replicate (if its.toArray.isEmpty = true then 0 else k.toNat) its.toArray) = (List.replicate k.toNat its).flatten.toArray := by
    have f0 : ∀ m : Nat, List.foldl (fun x1 x2 => x1 ++ x2) #[] (List.replicate m its.toArray) = (List.replicate m its).flatten.toArray := fun m => by
      have := foldl_rep its m []
      rw [List.nil_append] at this
      exact this
    rw [f0]
    cases its with
    | nil => simp
    | cons a r' => rw [if_neg (by simp)]
  refine wpAny_binaryOp_repeat_ref (T := "list") (U := "int") (by decide) ⟨_, e, rfl⟩ (fun s' => typeIs_int s' k t) noFill_list_mul F.fills_int_mul F.slot_int_rmul repeat_list F.slot_int_index.lookup
    (call_meets F.slot_int_rmul (typeIs_int s k t) F.entry_int_rmul (F.args_int_rmul_2 _ _) (int___rmul___int_list k t l its.toArray n)
      ⟨e, rfl, ⟨_, e, rfl⟩, call_meets F.slot_list_mul ⟨_, e, rfl⟩ F.entry_list_mul (F.args_list_mul_2 _ _) (AutoListH.list___mul___list_int_3 l its.toArray n k t hfit hcap hlong) ⟨e, ?_⟩⟩)
  rw [hnew]
  exact ⟨.ref _, _, I.lnew (t' := s.toks) (r.rep k.toNat) (by rw [len_rep, Nat.mul_comm]; exact hz), rfl, q _ I.fresh⟩
end
section
variable {prog : Program} {w : World} {A : Around} {E : Value → Shared → Prop} {s : Shared}
end
section
variable {X : Cx}
end
end L2
namespace Att
open PySem PySem.W PySem.Calls PyProof.Rows
theorem ints_of_wellAll {P : Params} {h : Heap} : ∀ (ns : List Int) (vs : List Value), WellAll P h vs (ns.map WData.int) → IntsAre vs ns := by
  intro ns
  induction ns with
  | nil =>
    intro vs w
    rw [List.map_nil] at w
    cases w
    exact .nil
  | cons n ns ih =>
    intro vs w
    rw [List.map_cons] at w
    cases w with
    | cons a b =>
      cases a
      exact .cons _ _ (ih _ b)
theorem script_of {l : OpenLaw} {n : Nat} (hn : l.most = some n) {P : Params} {h : Heap} {args : List WData} {vals : List Value}
    (hpre : l.row.toRowW.claim.pre args = true) (hwl : WellAll P h vals args) :
    ∃ a vs ns, vals = [Value.ref a] ∧ args = [WData.list (ns.map WData.int)] ∧ h.get? a = some { cls := .type "list", data := .seq vs.toArray } ∧ IntsAre vs ns ∧ ns.length ≤ n := by
  have hsh : WShape.hasAll [] args [.list .int] = true := (pre_splitW hpre).1
  have hc : l.pre.holds [] { args := args } = true := (pre_splitW hpre).2
  obtain ⟨d, r, rfl, h1, h2⟩ := hasAllW_cons hsh
  obtain rfl := hasAllW_nil h2
  obtain ⟨xs, rfl, h3⟩ := hasW_list h1
  obtain ⟨ns, rfl⟩ := items_int h3
  have hlen : ns.length ≤ n := by
    unfold OpenLaw.pre at hc
    have h4 : (WTm.not (.lt (.lit (.int (n : Int))) (.len (.arg 0)))).holds [] { args := [.list (ns.map .int)] } = true := by
      have h4 := (holds_andW hc).1
      rw [hn] at h4
      exact h4
    have h5 := condW_of h4 (w_not (w_lt w_lit (w_len_list (w_arg rfl))))
    rw [List.length_map] at h5
    refine Nat.le_of_not_lt fun q => ?_
    have q' : (n : Int) < ((ns.length : Nat) : Int) := by omega
    first
      | (rw [decide_eq_true q'] at h5; exact absurd h5 (by decide))
      | (simp at h5; omega)
  cases hwl with
  | cons w1 w2 =>
    cases w2
    cases w1 with
    | list ho hall => exact ⟨_, _, ns, rfl, rfl, ho, ints_of_wellAll ns _ hall, hlen⟩
theorem post_true (l : OpenLaw) (args : List WData) : l.row.toRowW.claim.post args (.bool true) args = true :=
  postW_of (r := l.row.toRowW) (X := (true == true))
    (show WShape.has [] (.bool true) .bool = true by first | rfl | decide | simp [WShape.has, WShape.arms, WShape.armsAll])
    (show (WTm.eq .res (.lit (.bool true))).value [] { args := args, res := some (.bool true), after := args } = some (.bool (true == true)) from w_eq_bool (w_res rfl) w_lit) rfl
theorem attach_call {l : OpenLaw} {n : Nat} {q : Program} {loose : List Str} {XP : (Str → Option Value) → Heap → Prop} {YP : World → Heap → Prop} {d : DefRec}
    (hn : l.most = some n) (hdf : d.params.defaults = [])
    (call : ∀ (w : World) (s₀ s₁ : Shared) (mg mb : Str → Option Value) (fa : Addr) (o : Obj) (pm cd doc : Value) (a : Addr) (vs : List Value) (ns : List Int),
      Ground q loose [] XP w s₀ mg mb s₁.heap → YP w s₁.heap →
      s₁.heap.get? fa = some o → o.data = .func (docDef d.name d.params d.body d.scope pm cd doc) → s₁.heap.CodeRec cd d.name → mg d.name = some (.ref fa) →
      s₁.heap.get? a = some { cls := .type "list", data := .seq vs.toArray } → IntsAre vs ns → ns.length ≤ n → s₁.gens = #[] →
      codeAny (model l.prog w) callerA (.call (.ref fa) ⟨[.ref a], []⟩) (fun r s' => r = .ok (.ret (.bool true)) ∧ OldK s₁.heap s'.heap ∧ s'.os = s₁.os ∧ AllBare s'.gens) s₁) :
    WalkO q loose XP YP l.row.toRowW d [] (fun f vs => PySem.call f vs) := by
  intro w s₀ s₁ mg mb G Y fa o pm cd doc dV kV ho hd hcd hD hmg hg args vals as hpre hlay hrd hwl hlo
  obtain rfl : dV = .none := Dflts.none hD hdf
  obtain rfl : kV = .none := Dflts.noKw hD
  obtain ⟨a, vs, ns, rfl, rfl, hobj, hints, hlen⟩ := script_of hn hpre hwl
  refine enter_call (codeAny_mono (call w s₀ s₁ mg mb fa o pm cd doc a vs ns G Y ho (fd_plain hd) hcd hmg hobj hints hlen hg) fun r s' hq => ?_)
  obtain ⟨rfl, h2, h3, h4⟩ := hq
  exact ⟨.inl ⟨.bool true, .bool true, [], rfl, fun _ => rfl, .bool true, post_true l _, fun _ => ⟨List.Pairwise.nil, fun _ hm => (nomatch hm)⟩⟩, h2, h3, h4⟩
section
variable {prog : Program} {w : World} {A : Around} {E : Value → Shared → Prop} {s : Shared} {K : Frag}
end
end Att
namespace L2
open PySem PySem.Spec PyProof.Rows
theorem vals_ints : ∀ {vs : List Value} {ns : List Int}, IntsAre vs ns → Vals (ns.map V.int) vs
  | _, _, .nil => .nil
  | _, _, .cons n t h => .cons ⟨t, rfl⟩ (vals_ints h)
def Only (H : Hp) : Prop := ∀ b, H b = none ∨ ∃ o xs, H b = some (.frz o (.lst xs))
theorem law_call {P : Program} {w : World} {K : PySem.W.Frag} {mg mb : Str → Option Value} {CX : CXT} {k : Nat} {fa a : Addr} {fd : FuncData} {x : Str} {sp : Sp} {s₁ : Shared} {vs : List Value} {ns : List Int}
    (KX : K.In s₁.heap) (hns : s₁.heap.Ns mainGlobals mg) (hb : s₁.heap.Ns builtinsNs mb) (hbb : ∀ x : Str, x ≠ "__name__" → mb x = bootBuiltins x) (hlim : s₁.heap.NoLimit) (hg : s₁.gens = #[])
    (ha : s₁.heap.get? a = some { cls := .type "list", data := .seq vs.toArray }) (hi : IntsAre vs ns) (hl : ns.length ≤ sizeLine) (hr : ∀ b : Heap, Room (b := b) k callerA)
    (F : ∀ base : Heap, K.In base → base.Ns mainGlobals mg → FnOk P w K mg base CX k fa fd [x] sp) (hbind : ∀ (s : Shared) (u : Value), BindsTo s fd ⟨[u], []⟩ [(x, u)])
    (hsp : ∀ H : Hp, Only H → SqL K H a (ns.map V.int) → sp [.ref a] H (fun v _ => v = .bl true) fun _ _ _ => False)
    (hCX : ∀ H e s', CX [] H s₁ (fun _ _ _ => False) e s' → False) :
    codeAny (model P w) callerA (.call (.ref fa) ⟨[.ref a], []⟩) (fun r s' => r = .ok (.ret (.bool true)) ∧ OldK s₁.heap s'.heap ∧ s'.os = s₁.os ∧ AllBare s'.gens) s₁ := by
  have rv := vals_ints hi
  have lenV := hi.length
  have core : ∀ H : Hp, Only H → SqL K H a (ns.map V.int) → HOk P w H s₁.heap → (∀ b, H b ≠ none → b = a) → (H a ≠ none → K.lookup a = none) →
      codeAny (model P w) callerA (.call (.ref fa) ⟨[.ref a], []⟩) (fun r s' => r = .ok (.ret (.bool true)) ∧ OldK s₁.heap s'.heap ∧ s'.os = s₁.os ∧ AllBare s'.gens) s₁ := by
    intro H hO hS hok hA hK
    have base_of : ∀ {b : Addr} {o : Obj}, s₁.heap.get? b = some o → H b = none → (hidT s₁.heap H).get? b = some o := fun e n => hidT_get e n
    have noA : ∀ {b : Addr} {o : Obj} {es : Array DictEntry} {ep : Nat}, s₁.heap.get? b = some o → o.data = .dict es ep → H b = none := fun {b o es ep} e d => by
      cases q : H b with
      | none => rfl
      | some u =>
        have e' : b = a := hA b (by rw [q]; simp)
        subst e'
        rw [ha] at e; cases e
        have d' : Data.seq vs.toArray _ = Data.dict es ep := d
        cases d'
    have nsK : ∀ {b : Addr} {m : Str → Option Value}, s₁.heap.Ns b m → (hidT s₁.heap H).Ns b m := fun {b m} ⟨o, es, ep, e, d, r⟩ => ⟨o, es, ep, base_of e (noA e d), d, r⟩
    have hKb : K.In (hidT s₁.heap H) := fun b o e => base_of (KX b o e) (by
      cases q : H b with
      | none => rfl
      | some u =>
        have e' : b = a := hA b (by rw [q]; simp)
        subst e'
        rw [hK (by rw [q]; simp)] at e; cases e)
    have hM : Mod K mg (hidT s₁.heap H) := ⟨hKb, nsK hns, ⟨mb, nsK hb, hbb⟩, let ⟨mc, h1, h2⟩ := hlim; ⟨mc, nsK h1, h2⟩⟩
    have e0 : Env0 P w K mg (hidT s₁.heap H) callerA [] s₁ H := ⟨rfl, hM, fun b o e => of_hidT e, Nat.le_of_eq (hidT_size _ _), trivial, fun b hb => absurd (show b ∈ ([] : List Addr) from hb) (by simp), hok, .of_eq hg⟩
    refine codeAny_mono ((F _ hKb (nsK hns)).run callerA [] s₁ H ⟨[.ref a], []⟩ [.ref a] [.ref a] _ _ (hr _) e0 (hbind s₁ (.ref a)) (.cons rfl .nil) (hsp H hO hS)) fun r s' h => ?_
    cases r with
    | error e => exact (hCX H e s' h).elim
    | ok fl =>
      cases fl with
      | next => exact False.elim h
      | brk => exact False.elim h
      | cont => exact False.elim h
      | ret u =>
        obtain ⟨v, H', os, bare, un, hok', r', q⟩ := h
        have q' : v = .bl true := q
        subst q'
        obtain rfl : u = Value.bool true := r'
        refine ⟨rfl, OldK.of_keep fun b o e => ?_, os, bare⟩
        cases q : H b with
        | none => exact un.keep b o e q (by intro z; exact absurd (show b ∈ ([] : List Addr) from z) (by simp)) (by simp)
        | some u =>
          rcases hO b with z | ⟨ob, xs, z⟩
          · rw [q] at z; cases z
          · have z2 := un.frzs b ob _ z
            obtain ⟨e1, _⟩ := hok b _ z
            obtain ⟨e2, _⟩ := hok' b _ z2
            rw [e] at e1; cases e1
            exact e2
  cases hk : K.lookup a with
  | some o =>
    have e := KX a o hk
    rw [ha] at e
    cases e
    refine core (fun _ => none) (fun _ => .inl rfl) (.inr ⟨_, vs.toArray, _, hk, rfl, rfl, rfl, by rw [List.size_toArray, lenV]; exact hl, by simpa using rv⟩) (fun b u z => by have z' : (none : Option HO) = some u := z; cases z') (fun b z => absurd rfl z) fun z => absurd rfl z
  | none =>
    refine core (fun b => if b = a then some (.frz { cls := .type "list", data := .seq vs.toArray } (.lst (ns.map V.int))) else none) (fun b => ?_) (.inl (.inr ⟨{ cls := .type "list", data := .seq vs.toArray }, if_pos rfl⟩)) (fun b u z => ?_) (fun b z => ?_) fun _ => hk
    · by_cases hb : b = a
      · exact .inr ⟨_, _, if_pos hb⟩
      · exact .inl (if_neg hb)
    · by_cases hb : b = a
      · have z' := (if_pos hb).symm.trans z
        cases z'
        subst hb
        exact ⟨ha, by rw [List.length_map]; exact hl, vs, _, rv, ha⟩
      · have z' := (if_neg hb).symm.trans z
        cases z'
    · by_cases hb : b = a
      · exact hb
      · exact absurd (if_neg hb) z
end L2
namespace L2
open PySem PySem.Spec PyProof.Rows
theorem walk_of {l : PySem.W.OpenLaw} {n k : Nat} {q : Program} {loose : List Str} {XP : (Str → Option Value) → Heap → Prop} {YP : World → Heap → Prop} {d : DefRec} {K : Params → PySem.W.Frag} {CX : World → CXT} {sp : World → Sp} {x : Str}
    (hn : l.most = some n) (hn2 : n ≤ sizeLine) (hdf : d.params.defaults = []) (hr : ∀ b : Heap, Room (b := b) k callerA)
    (hY : ∀ (w : World) (h : Heap), YP w h → (K w.params).In h)
    (F : ∀ (w : World) (mg : Str → Option Value) (fa : Addr) (h : Heap), (K w.params).In h → h.Ns mainGlobals mg → mg d.name = some (.ref fa) →
      ∃ fd : FuncData, (∀ (s : Shared) (u : Value), BindsTo s fd ⟨[u], []⟩ [(x, u)]) ∧
        ∀ base : Heap, (K w.params).In base → base.Ns mainGlobals mg → FnOk l.prog w (K w.params) mg base (CX w) k fa fd [x] (sp w))
    (hsp : ∀ (w : World) (H : Hp) (a : Addr) (ns : List Int), ns.length ≤ n → Only H → SqL (K w.params) H a (ns.map V.int) → sp w [.ref a] H (fun v _ => v = .bl true) fun _ _ _ => False)
    (hCX : ∀ (w : World) (H : Hp) (s : Shared) (e : Value) (s' : Shared), CX w [] H s (fun _ _ _ => False) e s' → False) :
    PySem.W.WalkO q loose XP YP l.row.toRowW d [] (fun f vs => PySem.call f vs) := by
  refine Att.attach_call hn hdf fun w s₀ s₁ mg mb fa o pm cd doc a vs ns G Y ho hd hcd hmg hobj hints hlen hg => ?_
  have KX := hY w _ Y
  obtain ⟨fd, hb, hF⟩ := F w mg fa _ KX G.T.g hmg
  exact law_call KX G.T.g G.T.b G.T.builtins G.T.nolimit hg hobj hints (Nat.le_trans hlen hn2) hr hF hb (fun H hO hS => hsp w H a ns hlen hO hS) fun H e s' => hCX w H s₁ e s'
end L2
namespace L2
open PySem PySem.Spec PyProof.Rows
def inClass (s : Stmt) (j : Nat) : Stmt := match s with
  | .ClassDef _ _ _ body _ _ _ _ _ _ _ => body.getD j (.Pass ⟨0, 0, 0, 0⟩)
  | _ => .Pass ⟨0, 0, 0, 0⟩
def defArgs (s : Stmt) : Arguments := match s with
  | .FunctionDef _ a _ _ _ _ _ _ _ _ => a
  | _ => { posonlyargs := [], args := [], vararg := none, kwonlyargs := [], kw_defaults := [], kwarg := none, defaults := [] }
def defBody (s : Stmt) : List Stmt := match s with
  | .FunctionDef _ _ b _ _ _ _ _ _ _ => b
  | _ => []
def defScope (s : Stmt) : Scope := match s with
  | .FunctionDef _ _ _ _ _ _ sc _ _ _ => sc
  | _ => { kind := .function, names := [], isGenerator := false, isCoroutine := false }
abbrev CX0 : CXT := fun _ _ _ _ _ _ => False
abbrev E0 : XK := fun _ _ _ => False
theorem pass0 {X : Cx} : Passes CX0 X E0 := fun _ _ _ _ _ _ _ h => h.elim
structure Fun (K : PySem.W.Frag) (x qual : Str) (st : Stmt) (f : Addr) (fd : FuncData) : Prop where
  ex : ∃ (oc : Value) (od : Option Addr) (kV doc pm : Value) (an : Option Addr) (cdv ct : Value) (osl : Array (Option Value)),
    fd = PySem.W.fnOf x qual (defArgs st) (defBody st) (defScope st) .none kV doc pm an cdv ct ∧ K.lookup f = some ⟨oc, od, .func fd, osl⟩ ∧ PySem.W.codeIn K cdv qual = true
  kp : PySem.W.keepIn K (.ref f) = true
section
variable {P : Program} {w : World} {K : PySem.W.Frag} {mg : Str → Option Value} {base : Heap}
theorem Fun.ok {x qual : Str} {st : Stmt} {f : Addr} {fd : FuncData} {N ps : List Str} {k : Nat} {sp : Sp} (F : Fun K x qual st f fd) (S : FnScope N ps (defScope st)) (len : ∀ vs H Q E, sp vs H Q E → vs.length = ps.length)
    (hbody : ∀ (cdv : Value) (A : Around) (outer : List Env) (s : Shared) (H : Hp) (vs : List V) (Q : VK) (E : XK), Room (b := base) k (A.deeper (envOfC qual (defScope st) s.heap.objs.size f cdv)) → sp vs H Q E →
      ∃ t, PSs (cxOf CX0 P w K mg base N qual (defScope st) f cdv A outer s H E).nox (defBody st) t ∧ t { nx := fun _ H' => Q .non H', rt := Q } (start N vs) H) : FnOk P w K mg base CX0 (k + 1) f fd ps sp := by
  obtain ⟨oc, od, kV, doc, pm, an, cdv, ct, osl, rfl, lk, hcd⟩ := F.ex
  refine fn_of lk hcd S len fun A outer s H vs Q E hr hsp => ?_
  obtain ⟨t, h, q⟩ := hbody cdv A outer s H vs Q E hr hsp
  exact ⟨t, h.nox, q⟩
theorem Fun.binds {x qual : Str} {st : Stmt} {f : Addr} {fd : FuncData} {ps : List Str} (F : Fun K x qual st f fd)
    (h : ∀ (kV doc pm : Value) (an : Option Addr) (cdv ct : Value) (us : List Value), us.length = ps.length → bindArgs (PySem.W.fnOf x qual (defArgs st) (defBody st) (defScope st) .none kV doc pm an cdv ct) ⟨us, []⟩ = pure (ps.zip us)) : Binds K fd ps [] := by
  obtain ⟨oc, od, kV, doc, pm, an, cdv, ct, osl, rfl, lk, hcd⟩ := F.ex
  exact .all (h kV doc pm an cdv ct)
theorem fun_mk {x qual : Str} {st : Stmt} {f : Addr} {oc : Value} {od an : Option Addr} {osl : Array (Option Value)} {kV doc pm cdv ct : Value} (l : K.lookup f = some ⟨oc, od, .func (PySem.W.fnOf x qual (defArgs st) (defBody st) (defScope st) .none kV doc pm an cdv ct), osl⟩)
    (c : PySem.W.codeIn K cdv qual = true) (k : PySem.W.keepIn K (.ref f) = true) : Fun K x qual st f (PySem.W.fnOf x qual (defArgs st) (defBody st) (defScope st) .none kV doc pm an cdv ct) := ⟨⟨oc, od, kV, doc, pm, an, cdv, ct, osl, rfl, l, c⟩, k⟩
end
section
variable {X : Cx}
theorem pv (i : Nat) {x : Str} {pos : Pos} (hN : X.N[i]? = some x := by rfl) (hv : Vis X.env.scope x := by first | exact Or.inl rfl | exact Or.inr (Or.inl rfl) | exact Or.inr (Or.inr rfl)) (hd : (x == ("__debug__" : Str)) = false := by decide)
    (hcd : (x == ("__classdict__" : Str)) = false := by decide) : PE X (.Name x pos) (tVar i) := pe_var hN hv hd hcd
end
theorem iteF {A B : Prop} (h : B) : if false = true then A else B := by
  rw [if_neg Bool.false_ne_true]
  exact h
theorem iteT {A B : Prop} (h : A) : if true = true then A else B := by
  rw [if_pos rfl]
  exact h
theorem ite2 {c A B : Prop} [Decidable c] (h1 : c → A) (h2 : ¬ c → B) : if c then A else B := by
  by_cases h : c
  · rw [if_pos h]
    exact h1 h
  · rw [if_neg h]
    exact h2 h
def Same (H H' : Hp) : Prop := ∀ b o, H b = some o → H' b = some o
theorem Same.refl (H : Hp) : Same H H := fun _ _ h => h
theorem Same.trans {H H1 H2 : Hp} (a : Same H H1) (b : Same H1 H2) : Same H H2 := fun c o h => b c o (a c o h)
theorem Same.free {H H' : Hp} (e : Same H H') {l : Addr} (h : H' l = Option.none) : H l = Option.none := by
  cases q : H l with
  | none => rfl
  | some o =>
    rw [e l o q] at h
    cases h
theorem Same.seq {K : PySem.W.Frag} {H H' : Hp} {a : Addr} {xs : List V} (e : Same H H') (h : SqL K H a xs) : SqL K H' a xs := by
  rcases h with (h | ⟨o, h⟩) | h
  · exact .inl (.inl (e _ _ h))
  · exact .inl (.inr ⟨o, e _ _ h⟩)
  · exact .inr h
end L2
set_option Elab.async false
set_option linter.all false
set_option maxRecDepth 100000
set_option maxHeartbeats 4000000
namespace L2
open PySem PySem.Spec PyProof.Rows
theorem part_of {v : Value} {o : Option Int} (p : IsPart v o) : ∃ q : Option (Int × Tok), v = partValue q ∧ q.map (·.1) = o := by
  cases p with
  | none => exact ⟨none, rfl, rfl⟩
  | int i t => exact ⟨some (i, t), rfl, rfl⟩
def rSlS : V → Option Int → Option Int → Hp → VK → Prop := fun x lo hi H Q => ∃ z, x = .str z ∧ z.length ≤ sizeLine ∧ Q (.str (Txt.slice z lo hi)) H
theorem sl_str {X : Cx} : SlR X rSlS := by
  intro pins s σ H x v vl vu lo hi sl Q I rx hs pl pu h
  obtain ⟨z, rfl, hz, q⟩ := h
  obtain ⟨t, rfl⟩ := rx
  obtain ⟨ql, rfl, rfl⟩ := part_of pl
  obtain ⟨qu, rfl, rfl⟩ := part_of pu
  refine ⟨"str", _, F.slot_str_getitem.lookup, typeIs_str _ _ _, ?_⟩
  refine wpAny_getItem_str_slice (l := ql) (u := qu) (st := none) hs rfl ?_
  exact post_val_or_str ⟨Nat.le_trans (Txt.slice_le z _ _) hz, fun t' k => ⟨.str _, H, I.tok _, ⟨t', rfl⟩, q⟩⟩
def Its (x : Str) : It := ⟨fun i _ => i < x.cps.size, fun i H v H' => H' = H ∧ ∃ c, x.cps[i]? = some c ∧ v = .str ⟨#[c]⟩, fun i _ => x.cps.size ≤ i⟩
theorem turn_str {P : Program} {w : World} {K : PySem.W.Frag} {tg : Expr} (x : Str) (t : Tok) (it : Addr) (ty : String) (hty : ty = "str_ascii_iterator" ∨ ty = "str_iterator") :
    Turn P w K tg (Its x) [it] it (fun i h => h.IsStrIter it ty x t i) where
  mem := by simp
  obj := fun i h st b hb => by
    have e : b = it := by simpa using hb
    subst e
    obtain ⟨o, e, c, d⟩ := st
    exact ⟨o, e, fun v z => by rw [d] at z; cases z⟩
  keep := fun i h h' st k => by
    obtain ⟨o, e, r⟩ := st
    exact ⟨o, k it (by simp) o e, r⟩
  item := by
    intro X hP hw hK hc i pins s σ H E I hf st hg
    subst hP hw hK
    obtain ⟨f0, f1, f2, f3, f4, f5⟩ := hf it (by simp)
    have hg' : i < x.cps.size := hg
    have hx : x.cps[i]? = some x.cps[i] := by simp [hg']
    rcases hty with rfl | rfl
    · refine wpAny_pyNext_ascii_item st hx fun h' st' sb => ?_
      have I1 : Inv X pins σ H { s with heap := h', toks := s.toks + 1 } := I.turned (fun b o hb e => (sb.2 b hb).trans e) f0 f1 f3 f4 f5
      obtain ⟨o, e, c, d⟩ := id st'
      exact ⟨_, rfl, go_of (s := { s with heap := h', toks := s.toks + 1 }) e c d (by decide) ⟨.str ⟨#[x.cps[i]]⟩, H, I1, ⟨_, rfl⟩, ⟨rfl, _, hx, rfl⟩, st', fun b hb => (hf b hb).1⟩⟩
    · refine wpAny_pyNext_wide_item st hx fun h' st' sb => ?_
      have I1 : Inv X pins σ H { s with heap := h', toks := s.toks + 1 } := I.turned (fun b o hb e => (sb.2 b hb).trans e) f0 f1 f3 f4 f5
      obtain ⟨o, e, c, d⟩ := id st'
      exact ⟨_, rfl, go_of (s := { s with heap := h', toks := s.toks + 1 }) e c d (by decide) ⟨.str ⟨#[x.cps[i]]⟩, H, I1, ⟨_, rfl⟩, ⟨rfl, _, hx, rfl⟩, st', fun b hb => (hf b hb).1⟩⟩
  done := by
    intro X hP hw hK hc i pins s σ H E I hf st hg
    subst hP hw hK
    obtain ⟨f0, f1, f2, f3, f4, f5⟩ := hf it (by simp)
    have hx : x.cps[i]? = none := by
      have : x.cps.size ≤ i := hg
      simp [this]
    rcases hty with rfl | rfl
    · exact next_ascii_end (I.hnx hc f3) st hx fun h' eb => ⟨rfl, I.turned (t' := s.toks) (fun b o hb e => eb b o hb e) f0 f1 f3 f4 f5⟩
    · exact next_wide_end (I.hnx hc f3) st hx fun h' eb => ⟨rfl, I.turned (t' := s.toks) (fun b o hb e => eb b o hb e) f0 f1 f3 f4 f5⟩
  self := fun _ _ _ _ _ st h => by
    rcases hty with rfl | rfl
    · exact wpAny_pyIter_striter_ascii st h
    · exact wpAny_pyIter_striter_wide st h
theorem pi_str_at {X : Cx} {tg : Expr} {pins : List (Addr × Obj)} {σ : St} {H1 : Hp} {s1 : Shared} {R : It → Hp → Prop} {z : Str} {v : Value} {E : Value → Shared → Prop} (I1 : Inv X pins σ H1 s1) (r1 : RelV (.str z) v) (q : R (Its z) H1) :
    wpAny (model X.prog X.w) X.A (pyIter v) (PIE X pins σ tg R) E s1 := by
  obtain ⟨t, rfl⟩ := r1
  have fp : ∀ (b : Addr), b ∈ [s1.heap.objs.size] → FpOk X pins H1 b := fun b hb => by
    have e : b = s1.heap.objs.size := by simpa using hb
    subst e
    exact I1.fpOk (Nat.le_refl _) (I1.hok.fresh (Nat.le_refl _))
  cases ha : z.cps.all (· < 128)
  · refine wpAny_pyIter_wide ha ?_
    exact ⟨s1.heap.objs.size, [s1.heap.objs.size], _, _, H1, rfl, I1.kept (t' := s1.toks) fun b o e => Heap.get?_push_of_some _ e, turn_str z t _ "str_iterator" (.inr rfl), ⟨_, Heap.get?_push_size _ rfl, rfl, rfl⟩, fp, q⟩
  · refine wpAny_pyIter_ascii ha ?_
    exact ⟨s1.heap.objs.size, [s1.heap.objs.size], _, _, H1, rfl, I1.kept (t' := s1.toks) fun b o e => Heap.get?_push_of_some _ e, turn_str z t _ "str_ascii_iterator" (.inl rfl), ⟨_, Heap.get?_push_size _ rfl, rfl, rfl⟩, fp, q⟩
theorem for_str {x : Str} {g : TG} {tb : TS} {D : Ends} {σ : St} {H : Hp} (Pv : Nat → St → Hp → Prop) (h0 : Pv 0 σ H)
    (hs : ∀ i c σ H, x.cps.toList[i]? = some c → Pv i σ H → g (.str ⟨#[c]⟩) σ H fun σ2 H2 => tb { D with nx := Pv (i + 1), ct := Pv (i + 1), bk := D.nx } σ2 H2) (hd : ∀ σ H, Pv x.cps.toList.length σ H → D.nx σ H) :
    ∃ W : Nat → Nat → St → Hp → Prop, (∃ m, W 0 m σ H) ∧ ∀ i m σ H, W i m σ H →
      ((Its x).stop i H ∧ D.nx σ H) ∨ ((Its x).go i H ∧ ∃ N : St → Hp → Prop, (∀ σ' H', N σ' H' → ∃ m', m' < m ∧ W (i + 1) m' σ' H') ∧ ∀ v H', (Its x).yld i H v H' → g v σ H' fun σ2 H2 => tb { D with nx := N, ct := N, bk := D.nx } σ2 H2) := by
  have hl : x.cps.toList.length = x.cps.size := by simp
  refine ⟨fun i m σ H => m = x.cps.size - i ∧ i ≤ x.cps.size ∧ Pv i σ H, ⟨x.cps.size, by simp, Nat.zero_le _, h0⟩, ?_⟩
  rintro i m σ H ⟨rfl, hi, p⟩
  by_cases hlt : i < x.cps.size
  · refine .inr ⟨hlt, Pv (i + 1), fun σ' H' p' => ⟨x.cps.size - (i + 1), by omega, rfl, hlt, p'⟩, fun v H' y => ?_⟩
    obtain ⟨e, c, hc, rfl⟩ := y
    subst e
    exact hs i c σ _ (by rw [Array.getElem?_toList]; exact hc) p
  · have e : i = x.cps.size := by omega
    subst e
    exact .inl ⟨Nat.le_refl _, hd σ H (by rw [hl]; exact p)⟩
def clos (cells : List (Str × Addr)) : List (Str × NameKind) → List (Str × Addr) → List (Str × Addr)
  | [], acc => acc
  | (n, k) :: r, acc => if k == .free then clos cells r ((n, (cells.lookup n).getD 0) :: acc) else clos cells r acc
theorem closureFor_clos {scope : Scope} {env : Env} (h : ∀ y ∈ scope.names, y.2 = .free → ∃ c, env.cells.lookup y.1 = some c) : closureFor scope env = pure (clos env.cells scope.names []) := by
  have go : ∀ (names : List (Str × NameKind)) (acc : List (Str × Addr)), (∀ y ∈ names, y.2 = .free → ∃ c, env.cells.lookup y.1 = some c) →
      (forIn names acc fun (x : Str × NameKind) (r : List (Str × Addr)) => (if x.2 == NameKind.free then do let a ← cellOf env x.1; pure (ForInStep.yield ((x.1, a) :: r)) else pure (ForInStep.yield r) : Sem (ForInStep (List (Str × Addr))))) = pure (clos env.cells names acc) := by
    intro names
    induction names with
    | nil => intro acc _; rfl
    | cons x r ih =>
      intro acc hx
      obtain ⟨n, k⟩ := x
      rw [List.forIn_cons]
      have hr : ∀ y ∈ r, y.2 = .free → ∃ c, env.cells.lookup y.1 = some c := fun y hy => hx y (List.mem_cons_of_mem _ hy)
      by_cases hk : k = .free
      · subst hk
        obtain ⟨c, hc⟩ := hx (n, .free) List.mem_cons_self rfl
        have hc' : env.cells.lookup n = some c := hc
        have e : cellOf env n = pure c := by unfold cellOf; rw [hc']
        simp only [beq_self_eq_true, if_true, e, pure_bind]
        rw [ih _ hr]
        simp only [clos, beq_self_eq_true, if_true, hc', Option.getD_some]
      · have hb : (k == NameKind.free) = false := by simpa using hk
        simp only [hb, Bool.false_eq_true, if_false, pure_bind]
        rw [ih _ hr]
        simp only [clos, hb, Bool.false_eq_true, if_false]
  have := go scope.names [] h
  unfold closureFor
  first
    | (rw [this]; rfl)
    | (simp only [this, pure_bind]; rfl)
    | simpa using this
theorem clos_lookup {cells : List (Str × Addr)} : ∀ (names : List (Str × NameKind)) (acc : List (Str × Addr)) (y : Str) (c : Addr),
    (∀ z ∈ names, z.2 = .free → ∃ c, cells.lookup z.1 = some c) → (∀ d, acc.lookup y = some d → cells.lookup y = some d) → (clos cells names acc).lookup y = some c → cells.lookup y = some c
  | [], acc, y, c, _, ha, h => ha c h
  | (n, k) :: r, acc, y, c, hx, ha, h => by
    have hr : ∀ z ∈ r, z.2 = .free → ∃ c, cells.lookup z.1 = some c := fun z hz => hx z (List.mem_cons_of_mem _ hz)
    by_cases hk : k = .free
    · subst hk
      simp only [clos, beq_self_eq_true, if_true] at h
      refine clos_lookup r _ y c hr (fun d hd => ?_) h
      by_cases hy : y = n
      · subst hy
        obtain ⟨e, he⟩ := hx (y, .free) List.mem_cons_self rfl
        have he' : cells.lookup y = some e := he
        simp only [List.lookup_cons, beq_self_eq_true, he', Option.getD_some] at hd
        rw [he', hd]
      · have hb : (y == n) = false := by simpa using hy
        simp only [List.lookup_cons, hb] at hd
        exact ha d hd
    · have hb : (k == NameKind.free) = false := by simpa using hk
      simp only [clos, hb, Bool.false_eq_true, if_false] at h
      exact clos_lookup r acc y c hr ha h
theorem clos_keep {cells : List (Str × Addr)} : ∀ (names : List (Str × NameKind)) (acc : List (Str × Addr)) (y : Str), (∃ c, acc.lookup y = some c) → ∃ c, (clos cells names acc).lookup y = some c
  | [], _, _, h => h
  | (n, k) :: r, acc, y, h => by
    by_cases hk : k = .free
    · subst hk
      simp only [clos, beq_self_eq_true, if_true]
      refine clos_keep r _ y ?_
      by_cases hy : y = n
      · subst hy; exact ⟨(cells.lookup y).getD 0, by simp only [List.lookup_cons, beq_self_eq_true]⟩
      · have hb : (y == n) = false := by simpa using hy
        simp only [List.lookup_cons, hb]; exact h
    · have hb : (k == NameKind.free) = false := by simpa using hk
      simp only [clos, hb, Bool.false_eq_true, if_false]
      exact clos_keep r acc y h
theorem clos_has {cells : List (Str × Addr)} : ∀ (names : List (Str × NameKind)) (acc : List (Str × Addr)) (y : Str), (y, NameKind.free) ∈ names → ∃ c, (clos cells names acc).lookup y = some c
  | [], _, _, h => by simp at h
  | (n, k) :: r, acc, y, h => by
    rcases List.mem_cons.mp h with e | h
    · injection e with e1 e2
      subst e1 e2
      simp only [clos, beq_self_eq_true, if_true]
      exact clos_keep r _ y ⟨(cells.lookup y).getD 0, by simp only [List.lookup_cons, beq_self_eq_true]⟩
    · by_cases hk : k = .free
      · rw [hk]
        simp only [clos, beq_self_eq_true, if_true]
        exact clos_has r _ y h
      · have hb : (k == NameKind.free) = false := by simpa using hk
        simp only [clos, hb, Bool.false_eq_true, if_false]
        exact clos_has r _ y h
theorem relabel_kind {env : Env} : ∀ {names : List (Str × NameKind)} {x : Str} {k : NameKind}, (names.map fun (n, k) => if (k == NameKind.free && env.scope.kind == .function && env.kindOf n == some .cell) then (n, NameKind.cell) else (n, k)).lookup x = some k →
    names.lookup x = some k ∨ (k = .cell ∧ names.lookup x = some .free)
  | [], _, _, h => by simp at h
  | (n, j) :: r, x, k, h => by
    have ih := @relabel_kind env r x k
    have h' : List.lookup x ((if (j == NameKind.free && env.scope.kind == .function && env.kindOf n == some .cell) = true then (n, NameKind.cell) else (n, j)) ::
      (r.map fun (n, k) => if (k == NameKind.free && env.scope.kind == .function && env.kindOf n == some .cell) then (n, NameKind.cell) else (n, k))) = some k := h
    cases hx : x == n with
    | true =>
      by_cases hc : (j == NameKind.free && env.scope.kind == .function && env.kindOf n == some .cell) = true
      · rw [if_pos hc] at h'
        simp only [List.lookup_cons, hx] at h' ⊢
        have hj : j = .free := by
          have : (j == NameKind.free) = true := by
            cases q : (j == NameKind.free) with
            | true => rfl
            | false => rw [q] at hc; simp at hc
          simpa using this
        subst hj
        exact .inr ⟨(Option.some.inj h').symm, rfl⟩
      · rw [if_neg hc] at h'
        simp only [List.lookup_cons, hx] at h' ⊢
        exact .inl h'
    | false =>
      have h2 : List.lookup x (r.map fun (n, k) => if (k == NameKind.free && env.scope.kind == .function && env.kindOf n == some .cell) then (n, NameKind.cell) else (n, k)) = some k := by
        by_cases hc : (j == NameKind.free && env.scope.kind == .function && env.kindOf n == some .cell) = true
        · rw [if_pos hc] at h'; simpa only [List.lookup_cons, hx] using h'
        · rw [if_neg hc] at h'; simpa only [List.lookup_cons, hx] using h'
      rcases ih h2 with q | ⟨q1, q2⟩
      · exact .inl (by simpa only [List.lookup_cons, hx] using q)
      · exact .inr ⟨q1, by simpa only [List.lookup_cons, hx] using q2⟩
abbrev cxC (X : Cx) (NC : List Str) (scope : Scope) (C : Addr) (s : Shared) (H : Hp) (ex : List Addr) : Cx :=
  { X with N := NC, s₀ := s, H₀ := H, env := compEnvC scope (clos X.env.cells scope.names []) C X.env, outer := X.stack, stack := X.stack, ex := ex, fn := fun _ => false, pn := [], xe := fun _ _ => False }
def slotsC (nt : Nat) (is : List Nat) (σ : St) : St := List.replicate nt none ++ is.map fun i => (σ[i]?).join
theorem slotsC_len (nt : Nat) (is : List Nat) (σ : St) : (slotsC nt is σ).length = nt + is.length := by simp [slotsC]
def PIf (X : Cx) (ifs : List Expr) (t : TT) : Prop :=
  ∀ (pins : List (Addr × Obj)) (s : Shared) (σ : St) (H : Hp) (Q : Bool → Hp → Prop), Inv X pins σ H s → t σ H Q →
    wpAny (model X.prog X.w) X.A (forIn ifs true fun c r => if r = true then do let ok ← isTrue c X.env (eval c X.env); pure (ForInStep.yield ok) else pure (ForInStep.yield r)) (TP X pins σ Q) X.xe s
def tTrue : TT := fun _ H Q => Q true H
theorem pif_nil {X : Cx} : PIf X [] tTrue := fun _ _ _ H _ I h => wpAny_tests_nil ⟨H, I, h⟩
theorem pif_one {X : Cx} {c : Expr} {t : TT} (h : PT X c t) : PIf X [c] t := fun pins s σ H Q I hw => wpAny_tests_one (h pins s σ H Q I hw)
section
variable {prog : Program} {w : World} {A : Around} {R : Result → Shared → Prop} {s : Shared}
theorem compLoop_any {elt target iter : Expr} {ifs : List Expr} {scope : Scope} {pos : Pos} {it acc : Value} {env : Env} (I : Nat → Shared → Prop)
    (turn : ∀ n s, I n s → wpAny (model prog w) A (pyNext it) (fun r s₁ => match r with
      | none => R (.ok .next) s₁
      | some v => wpAny (model prog w) A (letOwnedTupleGo target it v) (fun _ s₁' => wpAny (model prog w) A (assign target env v) (fun _ s₂ =>
          wpAny (model prog w) A (forIn ifs true fun c r => if r = true then do let ok ← isTrue c env (eval c env); pure (ForInStep.yield ok) else pure (ForInStep.yield r)) (fun ok s₃ =>
            if ok = true then wpAny (model prog w) A (eval elt env) (fun x s₄ =>
              wpAny (model prog w) A (call (.builtin "list.append") [acc, x]) (fun _ s₅ => ∃ m, m < n ∧ I m s₅) (fun _ _ => False) s₄) (fun _ _ => False) s₃
            else ∃ m, m < n ∧ I m s₃) (fun _ _ => False) s₂) (fun _ _ => False) s₁') (fun _ _ => False) s₁) (fun _ _ => False) s)
    (n : Nat) (h : I n s) :
    codeAny (model prog w) A (.compLoop (.ListComp elt [⟨target, iter, ifs, 0⟩] scope pos) 0 it acc env) R s := by
  refine codeAny_loop rfl I (fun n s hI => ?_) n h
  show wpAny _ A ((compTurn (.ListComp elt [⟨target, iter, ifs, 0⟩] scope pos) 0 it acc env).onRaise (fun x => do noteFrame x env; theTreesLotGoes x)) _ _ s
  refine wpAny_noted ?_
  rw [compTurn_list]
  refine wpAny_bind (wpAny_standAt (wpAny_bind (wpAny_mono (turn n s hI) (fun r s₁ h₁ => ?_) fun _ _ h' => h'.elim)))
  cases r with
  | none => exact wpAny_pure h₁
  | some v =>
    refine wpAny_bind (wpAny_mono h₁ (fun _ s₁' h₁' => ?_) fun _ _ h' => h'.elim)
    refine wpAny_bind (wpAny_mono h₁' (fun _ s₂ h₂ => wpAny_bind (wpAny_mono h₂ (fun ok s₃ h₃ => ?_) fun _ _ h' => h'.elim)) fun _ _ h' => h'.elim)
    cases ok with
    | false => exact wpAny_pure ⟨rfl, h₃⟩
    | true =>
      exact wpAny_bind (wpAny_bind (wpAny_mono h₃ (fun x s₄ h₄ => wpAny_bind (wpAny_mono h₄ (fun _ s₅ h₅ => wpAny_pure (wpAny_pure ⟨rfl, h₅⟩)) fun _ _ h' => h'.elim)) fun _ _ h' => h'.elim))
end
def tComp (wi : TI) (nt : Nat) (is : List Nat) (g : TG) (tt : TT) (te : TE) : TE := fun σ H Q => wi σ H fun J H1 => ∃ W : Nat → Nat → List V → Hp → Prop, (∃ m, W 0 m [] H1) ∧ ∀ i m acc H, W i m acc H →
  (J.stop i H ∧ ∀ p, H p = none → Q (.ref p) (upd H p (.lst acc))) ∨
  (J.go i H ∧ acc.length < sizeLine ∧ ∃ N : List V → Hp → Prop, (∀ acc' H', N acc' H' → ∃ m', m' < m ∧ W (i + 1) m' acc' H') ∧ ∀ x H', J.yld i H x H' → g x (slotsC nt is σ) H' fun σ2 H2 => tt σ2 H2 fun b H3 =>
    if b = true then te σ2 H3 fun y H4 => N (acc ++ [y]) H4 else N acc H3)
structure CompSc (X : Cx) (NC : List Str) (nt : Nat) (is : List Nat) (csc : Scope) : Prop where
  kind : csc.kind = .function
  nocell : (csc.names.all fun y => y.2 != .cell) = true
  locs : (csc.names.all fun y => y.2 != .local || csc.names.lookup y.1 == some .local) = true
  frees : (csc.names.all fun y => y.2 != .free || (X.env.kindOf y.1 == some .cell || X.env.kindOf y.1 == some .free)) = true
  len : NC.length = nt + is.length
  slots : (NC.drop nt).map some = is.map fun i => X.N[i]?
  isfree : ((NC.drop nt).all fun y => csc.names.lookup y == some .free) = true
section
variable {X : Cx} {pins : List (Addr × Obj)} {σ : St} {H : Hp} {s : Shared} {NC : List Str} {nt : Nat} {is : List Nat} {csc : Scope}
theorem CompSc.free_kind (S : CompSc X NC nt is csc) {y : Str} (h : (y, NameKind.free) ∈ csc.names) : X.env.kindOf y = some .cell ∨ X.env.kindOf y = some .free := by
  have q := List.all_eq_true.mp S.frees _ h
  simpa using q
theorem CompSc.no_cell (S : CompSc X NC nt is csc) {y : Str} (h : (y, NameKind.cell) ∈ csc.names) : False := by
  have q := List.all_eq_true.mp S.nocell _ h
  simp at q
theorem CompSc.has_cells (S : CompSc X NC nt is csc) (I : Inv X pins σ H s) : ∀ y ∈ csc.names, y.2 = .free → ∃ c, X.env.cells.lookup y.1 = some c := fun y hy e => by
  obtain ⟨n, k⟩ := y
  have e' : k = .free := e
  subst e'
  exact I.ok.has n (S.free_kind hy)
theorem fp_lt {fp : List Addr} (ho : ∀ b ∈ fp, ∃ o, s.heap.get? b = some o) : ∀ b ∈ fp, b < s.heap.objs.size := fun b hb => let ⟨_, e⟩ := ho b hb; Heap.lt_size e
theorem inv_block (S : CompSc X NC nt is csc) (I : Inv X pins σ H s) {fp : List Addr} (hf : ∀ b ∈ fp, FpOk X pins H b) (ho : ∀ b ∈ fp, ∃ o, s.heap.get? b = some o) {h' : Heap} {C : Addr} {m : Str → Option Value} {t' : Nat}
    (hC : s.heap.objs.size ≤ C) (k : ∀ b o, s.heap.get? b = some o → h'.get? b = some o) (hn : h'.Ns C m) : Inv (cxC X NC csc C s H fp) [] (slotsC nt is σ) H { s with heap := h', toks := t' } := by
  have hcells := S.has_cells I
  have hlook : ∀ y c, (clos X.env.cells csc.names []).lookup y = some c → X.env.cells.lookup y = some c := fun y c h => clos_lookup csc.names [] y c hcells (by intro d hd; simp at hd) h
  have hlt := fp_lt ho
  have hfree : ∀ y, csc.names.lookup y = some .free → ∃ c, (clos X.env.cells csc.names []).lookup y = some c := fun y h => clos_has csc.names [] y (PySem.mem_of_lookup h)
  refine ⟨⟨I.ok.mod, S.kind, I.ok.glob, I.ok.blt, hC, fun x y c h1 h2 => I.ok.inj x y c (hlook x c h1) (hlook y c h2), fun x hx => ?_, fun x c h _ => (Bool.false_ne_true h).elim, I.ok.hd, I.ok.frames, .inl rfl,
    fun b hb => ⟨Nat.ne_of_lt (Nat.lt_of_lt_of_le (hlt b hb) hC), fun x c h => (hf b hb).2.2.2.2.1 x c (hlook x c h)⟩, I.bs, Nat.le_trans I.ok.bsz I.sz, fun b o e hb => ?_, fun b hb hs => ?_, I.stack, I.stkFree⟩,
    rfl, I.bare, Un.kept k, ⟨m, hn, fun i x v e1 e2 e3 => ?_⟩, fun x c h => ?_, I.hok.fresh hC, fun x c h => I.freeC x c (hlook x c h), fun p hp => absurd (show p ∈ ([] : List (Addr × Obj)) from hp) (by simp), I.hok.kept k, ?_⟩
  · have hx' : (relabel csc X.env).names.lookup x = some .cell ∨ (relabel csc X.env).names.lookup x = some .free := hx
    rcases hx' with h | h
    · rcases relabel_kind h with q | ⟨_, q⟩
      · exact (S.no_cell (PySem.mem_of_lookup q)).elim
      · exact hfree x q
    · rcases relabel_kind h with q | ⟨q, _⟩
      · exact hfree x q
      · cases q
  · rcases (hf b hb).2.2.2.1 with z | z
    · exact I.ok.noex b o e z
    · exact absurd (Nat.lt_of_lt_of_le (Heap.lt_size e) (Nat.le_trans I.ok.bsz z)) (Nat.lt_irrefl _)
  · rcases List.mem_cons.mp (I.stkSub b hs) with e | e
    · exact (hf b hb).2.1 e
    · exact (hf b hb).2.2.1 e
  · have hi : nt ≤ i := by
      by_cases hi : nt ≤ i
      · exact hi
      · have : (slotsC nt is σ)[i]? = some none := by
          unfold slotsC
          rw [List.getElem?_append_left (by simpa using hi), List.getElem?_replicate, if_pos (by omega)]
        rw [this] at e2; cases e2
    obtain ⟨j, rfl⟩ : ∃ j, i = nt + j := ⟨i - nt, by omega⟩
    have e2' : (is.map fun i => (σ[i]?).join)[j]? = some (some v) := by
      unfold slotsC at e2
      rw [List.getElem?_append_right (by simp)] at e2
      simpa using e2
    rw [List.getElem?_map] at e2'
    cases ej : is[j]? with
    | none => rw [ej] at e2'; cases e2'
    | some i' =>
      rw [ej] at e2'
      have e3' : (σ[i']?).join = some v := Option.some.inj e2'
      have e4 : σ[i']? = some (some v) := by
        cases q : σ[i']? with
        | none => rw [q] at e3'; cases e3'
        | some o => rw [q] at e3'; exact congrArg some e3'
      have e5 : X.N[i']? = some x := by
        have q := congrArg (fun l => l[j]?) S.slots
        simp only [List.getElem?_map, ej, Option.map_some] at q
        have q2 : (NC.drop nt)[j]? = some x := by rw [List.getElem?_drop]; exact e1
        rw [q2] at q
        simpa using q.symm
      have hxfree : csc.names.lookup x = some .free := by
        have q2 : (NC.drop nt)[j]? = some x := by rw [List.getElem?_drop]; exact e1
        have q := List.all_eq_true.mp S.isfree x (List.mem_of_getElem? q2)
        simpa using q
      have hk := S.free_kind (PySem.mem_of_lookup hxfree)
      obtain ⟨m0, _, hl⟩ := I.loc
      obtain ⟨u, r, l⟩ := hl i' x v e5 e4 (hk.elim (fun z => .inr (.inl z)) fun z => .inr (.inr z))
      refine ⟨u, r, ?_⟩
      rcases l with ⟨z, _⟩ | ⟨_, c, hc, hcell⟩
      · rw [z] at hk; rcases hk with q | q <;> cases q
      · obtain ⟨c', hc'⟩ := hfree x hxfree
        have e6 := hlook x c' hc'
        rw [hc] at e6; cases e6
        refine .inr ⟨?_, c, hc', ?_⟩
        · have e3'' : (relabel csc X.env).names.lookup x = some .local ∨ (relabel csc X.env).names.lookup x = some .cell ∨ (relabel csc X.env).names.lookup x = some .free := e3
          rcases e3'' with z | z | z
          · rcases relabel_kind z with q | ⟨q, _⟩
            · rw [hxfree] at q; cases q
            · cases q
          · exact .inl z
          · exact .inr z
        · obtain ⟨o, ho, hd⟩ := hcell
          exact ⟨o, k c o ho, hd⟩
  · obtain ⟨v, o, ho, hd⟩ := I.cell x c (hlook x c h)
    exact ⟨v, o, k c o ho, hd⟩
  · rw [slotsC_len]; exact S.len.symm
theorem inv_behind (I : Inv X pins σ H s) {fp : List Addr} (hf : ∀ b ∈ fp, FpOk X pins H b) {σ' : St} {H' : Hp} {s' : Shared} {C D : Addr} {pins' : List (Addr × Obj)} {acc : List V} {its : List Value} {n : Nat}
    (J : Inv (cxC X NC csc C s H fp) pins' σ' H' s') (hC : s.heap.objs.size ≤ C) (hD : s.heap.objs.size ≤ D) (hDo : s'.heap.get? D = some { cls := .type "list", data := .seq its.toArray n }) (hDn : H' D = none) (hv : Vals acc its)
    (hz : acc.length ≤ sizeLine) : Inv X pins σ (upd H' D (.lst acc)) s' := by
  have hne : ∀ b o, s.heap.get? b = some o → b ≠ D := fun b o e z => absurd (Nat.lt_of_lt_of_le (Heap.lt_size e) (z ▸ hD)) (Nat.lt_irrefl _)
  have hu : Un (frs X.stack) fp H H' s.heap s'.heap := J.base
  refine I.call' (ch := fp) J.os ⟨hu.keep, hu.slot, fun b o e n hx => by rw [upd_ne (hne b o e)]; exact hu.free b o e n hx, hu.there, fun b xs e => ?_, fun b o u e => ?_, fun b ps e => ?_⟩ (fun b u q => ?_) J.bare fun b hb => ?_
  · have q := hu.tups b xs e
    rw [upd_ne (ne_of_none q hDn)]; exact q
  · have q := hu.frzs b o u e
    rw [upd_ne (ne_of_none q hDn)]; exact q
  · obtain ⟨more, q⟩ := hu.tbls b ps e
    exact ⟨more, by rw [upd_ne (ne_of_none q hDn)]; exact q⟩
  · by_cases hb : b = D
    · subst hb
      rw [upd_same] at q; cases q
      exact ⟨hz, its, n, hv, hDo⟩
    · rw [upd_ne hb] at q
      exact (J.hok b u q).stay (fun _ _ _ e => e) (fun c r => by rw [upd_ne (ne_of_none r hDn)]; exact r) fun c xs r => by rw [upd_ne (ne_of_none r hDn)]; exact r
  · obtain ⟨_, f1, f2, f3, f4, f5⟩ := hf b hb
    exact ⟨f3, f1, f4, f5⟩
theorem comp_run {elt tg iter : Expr} {ifs : List Expr} {pos : Pos} {wi : TI} {g : TG} {tt : TT} {te : TE} {Q : VK} {use : Option (Value → Sem Unit)} {QQ : Value → Shared → Prop} {epos : Pos}
    (S : CompSc X NC nt is csc) (hc : X.calm = true) (hi : PI X tg iter wi)
    (hg : ∀ C s H ex, PG (cxC X NC csc C s H ex) tg g) (ht : ∀ C s H ex, PIf (cxC X NC csc C s H ex) ifs tt) (he : ∀ C s H ex, PE (cxC X NC csc C s H ex) elt te)
    (hgk : ∀ x (σ : St) H Q, g x σ H Q → g x σ H fun σ2 H2 => σ2.drop nt = σ.drop nt ∧ Q σ2 H2)
    (I : Inv X pins σ H s) (h : tComp wi nt is g tt te σ H Q)
    (fin : ∀ (s' : Shared) (C D : Addr) (H' : Hp) (m : Str → Option Value), Inv X pins σ H' s' → Q (.ref D) H' → s'.heap.Ns C m → H' C = none → C ≠ X.env.locals → X.s₀.heap.objs.size ≤ C → (∀ x c, X.env.cells.lookup x = some c → c ≠ C) → (∀ p ∈ X.pn ++ pins, p.1 ≠ C) →
      compPost (model X.prog X.w) X.A X.xe use QQ (.ref D) C (.ok .next) s')
    (hs : ∀ x, foldedSetIterable iter X.env x = pure x) :
    wpAny (model X.prog X.w) X.A (comprehension (.ListComp elt [⟨tg, iter, ifs, 0⟩] csc pos) csc X.env epos (newList []) false (eval iter X.env) use) QQ X.xe s := by
  have hcells := S.has_cells I
  have hnames : ∀ x ∈ csc.names, x.2 = .local → csc.names.lookup x.1 = some .local := fun x hx hl => by
    have q := List.all_eq_true.mp S.locs x hx
    simpa [hl] using q
  have hcell : ∀ y ∈ csc.names, y.2 ≠ .cell := fun y hy e => by
    obtain ⟨n, k⟩ := y
    have e' : k = .cell := e
    subst e'
    exact S.no_cell hy
  refine wpAny_comprehension_free (g := ⟨tg, iter, ifs, 0⟩) (gs := []) (cl := clos X.env.cells csc.names []) rfl hs (closureFor_clos hcells) S.kind hnames ?_
  refine thn (hi pins s σ H _ I h) fun v s1 h1 => thn h1 fun itv s2 h2 => ?_
  obtain ⟨it, fp, tn, J, H2, rfl, I2, T, st2, f2, W, ⟨m0, w0⟩, turn⟩ := h2
  have fo : ∀ b ∈ fp, ∃ o, s2.heap.get? b = some o := fun b hb => let ⟨o, e, _⟩ := T.obj 0 _ st2 b hb; ⟨o, e⟩
  have flt := fp_lt fo
  refine wpAny_newObj_type (wpAny_newFunctionEnv hcell (by intro y hy; simp at hy) (fun h₁ hns₁ hsb₁ => ?_) S.kind)
  dsimp only at hns₁ hsb₁ ⊢
  generalize hH2 : s2.heap.push { cls := .type "list", dict := none, data := .seq ([] : List Value).toArray } = P2 at hns₁ hsb₁ ⊢
  have hCs : P2.objs.size = s2.heap.objs.size + 1 := by rw [← hH2, Heap.size_push]
  generalize hCC : P2.objs.size = C at hns₁ hsb₁ hCs ⊢
  generalize hDD : s2.heap.objs.size = D at hCs ⊢
  have hD : s2.heap.objs.size ≤ D := Nat.le_of_eq hDD
  have hC : s2.heap.objs.size ≤ C := by omega
  have hDC : D ≠ C := by omega
  have old : ∀ b o, s2.heap.get? b = some o → h₁.get? b = some o := fun b o e => hsb₁.extBut b o (Nat.ne_of_lt (Nat.lt_of_lt_of_le (Heap.lt_size e) hC)) (Heap.get?_push_of_some _ (hH2 ▸ Heap.get?_push_of_some _ e))
  have accO : h₁.get? D = some { cls := .type "list", data := .seq ([] : List Value).toArray 0 } := by
    refine hsb₁.extBut _ _ hDC (Heap.get?_push_of_some _ ?_)
    rw [← hH2, ← hDD]
    exact Heap.get?_push_size _ rfl
  have Istart : Inv (cxC X NC csc C s2 H2 fp) [] (slotsC nt is σ) H2 { s2 with heap := h₁, toks := s2.toks + ([] : List (Str × Value)).length } := inv_block S I2 f2 fo hC old hns₁
  have HD0 : H2 D = none := I2.hok.fresh hD
  have HC0 : H2 C = none := I2.hok.fresh hC
  have fpY : ∀ {H' : Hp} {pl : List (Addr × Obj)}, (∀ b ∈ fp, H' b = none) → (∀ p ∈ pl, p.1 ∉ fp) → ∀ b ∈ fp, FpOk (cxC X NC csc C s2 H2 fp) pl H' b := fun {H' pl} hn hp b hb => by
    obtain ⟨_, g1, g2, g3, g4, g5⟩ := f2 b hb
    refine ⟨hn b hb, Nat.ne_of_lt (Nat.lt_of_lt_of_le (flt b hb) hC), fun z => ?_, .inl hb, fun x c e => g4 x c (clos_lookup csc.names [] x c hcells (by intro d hd; simp at hd) e), fun p hpp z => ?_⟩
    · rcases List.mem_cons.mp (I2.stkSub b z) with e | e
      · exact g1 e
      · exact g2 e
    · exact hp p (by simpa using hpp) (z ▸ hb)
  have dne : D ∉ fp := fun hb => absurd (flt D hb) (Nat.not_lt.mpr hD)
  have cellD : ∀ {σ' : St} {H' : Hp} {s' : Shared} {pl : List (Addr × Obj)} {its : List Value} {n : Nat}, Inv (cxC X NC csc C s2 H2 fp) pl σ' H' s' → s'.heap.get? D = some { cls := .type "list", data := .seq its.toArray n } →
      ∀ x c, (cxC X NC csc C s2 H2 fp).env.cells.lookup x = some c → c ≠ D := fun {σ' H' s' pl its n} K e x c hx z => by
    obtain ⟨v, o, ho, hd⟩ := K.cell x c hx
    rw [z, e] at ho; cases ho; cases hd
  have loop : ∀ s₃ : Shared, s₃ = { s2 with heap := h₁, toks := s2.toks + ([] : List (Str × Value)).length } →
      codeAny (model X.prog X.w) X.A (.compLoop (.ListComp elt [⟨tg, iter, ifs, 0⟩] csc pos) 0 (.ref it) (.ref D) (compEnvC csc (clos X.env.cells csc.names []) C X.env)) (compPost (model X.prog X.w) X.A X.xe use QQ (.ref D) C) s₃ := by
    rintro s₃ rfl
    refine compLoop_any (fun n s' => ∃ i H' acc its k, Inv (cxC X NC csc C s2 H2 fp) [] (slotsC nt is σ) H' s' ∧ tn i s'.heap ∧ (∀ b ∈ fp, H' b = none) ∧ s'.heap.get? D = some { cls := .type "list", data := .seq its.toArray k } ∧ H' D = none ∧
      Vals acc its ∧ acc.length ≤ sizeLine ∧ W i n acc H') ?_ m0 ⟨0, H2, [], [], 0, Istart, T.keep _ _ _ st2 (fun b hb o e => old b o e), fun b hb => (f2 b hb).1, accO, HD0, .nil, Nat.zero_le _, w0⟩
    rintro n s3 ⟨i, H3, acc, its, k, I3, st3, fr3, o3, n3, v3, z3, w3⟩
    have pinD : Inv (cxC X NC csc C s2 H2 fp) [(D, { cls := .type "list", data := .seq its.toArray k })] (slotsC nt is σ) H3 s3 := I3.pins_of fun p hp => by
      have e : p = (D, { cls := .type "list", data := .seq its.toArray k }) := by simpa using hp
      subst e
      refine ⟨o3, n3, hDC, fun z => ?_, fun v z => by cases z⟩
      rcases List.mem_cons.mp (I2.stkSub D z) with e | e
      · exact absurd I2.lt (Nat.not_lt.mpr (by rw [← e]; exact hD))
      · exact I2.nofs hD e
    have fpD : ∀ p ∈ [((D, { cls := .type "list", data := .seq its.toArray k }) : Addr × Obj)], p.1 ∉ fp := fun p hp => by
      have e : p = (D, { cls := .type "list", data := .seq its.toArray k }) := by simpa using hp
      subst e; exact dne
    rcases turn i n acc H3 w3 with ⟨stop, qn⟩ | ⟨go, hlen, N, hN, step⟩
    · refine thn (T.done (cxC X NC csc C s2 H2 fp) rfl rfl rfl hc i _ s3 _ H3 (fun _ _ => False) pinD (fpY fr3 fpD) st3 stop) fun r s4 ⟨hr, I4⟩ => ?_
      subst hr
      obtain ⟨e4, n4, _⟩ := I4.pin (D, { cls := .type "list", data := .seq its.toArray k }) (List.mem_append_right _ (List.mem_singleton.mpr rfl))
      have J := inv_behind (NC := NC) (csc := csc) I2 f2 I4 hC hD e4 n4 v3 z3
      obtain ⟨m4, hm4, _⟩ := I4.loc
      have nC : H3 C = none := I4.free
      refine fin s4 C D _ m4 J (qn D n4) hm4 (by rw [upd_ne (Ne.symm hDC)]; exact nC) (fun z => absurd I2.lt (Nat.not_lt.mpr (by rw [← z]; exact hC))) (Nat.le_trans I2.sz hC) (fun x c e z => ?_) fun p hp z => ?_
      · obtain ⟨v, o, ho, _⟩ := I2.cell x c e
        exact absurd (Heap.lt_size ho) (Nat.not_lt.mpr (by rw [z]; exact hC))
      · exact absurd (Heap.lt_size (I2.pin p hp).1) (Nat.not_lt.mpr (by rw [z]; exact hC))
    · refine thn (T.item (cxC X NC csc C s2 H2 fp) rfl rfl rfl hc i _ s3 _ H3 (fun _ _ => False) pinD (fpY fr3 fpD) st3 go) fun r s4 ⟨u, hr, h4⟩ => ?_
      subst hr
      refine thn h4 fun _ s5 ⟨x, H5, I5, r5, y5, st5, fr5⟩ => ?_
      have I5' := I5.pinned (fpY fr5 fpD) (T.obj _ _ st5)
      refine thn (hg C s2 H2 fp _ s5 _ H5 x u _ I5' r5 (hgk _ _ _ _ (step x H5 y5))) fun _ s6 ⟨σ6, H6, I6, d6, q6⟩ => ?_
      refine thn (ht C s2 H2 fp _ s6 σ6 H6 _ I6 q6) fun ok s7 ⟨H7, I7, q7⟩ => ?_
      have tnk : ∀ {σ' : St} {H' : Hp} {s' : Shared}, Inv (cxC X NC csc C s2 H2 fp) ([(D, { cls := .type "list", data := .seq its.toArray k })] ++ pinsAt fp s5.heap) σ' H' s' →
          tn (i + 1) s'.heap ∧ (∀ b ∈ fp, H' b = none) ∧ s'.heap.get? D = some { cls := .type "list", data := .seq its.toArray k } ∧ H' D = none := fun {σ' H' s'} K => by
        refine ⟨T.keep _ _ _ st5 fun b hb o e => (K.pin (b, o) (List.mem_append_right _ (List.mem_append_right _ (mem_pinsAt hb e)))).1, fun b hb => ?_, ?_, ?_⟩
        · obtain ⟨o, e, d⟩ := T.obj _ _ st5 b hb
          exact (K.pin (b, o) (List.mem_append_right _ (List.mem_append_right _ (mem_pinsAt hb e)))).2.1
        · exact (K.pin (D, { cls := .type "list", data := .seq its.toArray k }) (List.mem_append_right _ (List.mem_append_left _ (List.mem_singleton.mpr rfl)))).1
        · exact (K.pin (D, { cls := .type "list", data := .seq its.toArray k }) (List.mem_append_right _ (List.mem_append_left _ (List.mem_singleton.mpr rfl)))).2.1
      have reset : ∀ {σ' : St} {H' : Hp} {s' : Shared} {pl : List (Addr × Obj)}, σ'.drop nt = (slotsC nt is σ).drop nt → Inv (cxC X NC csc C s2 H2 fp) pl σ' H' s' → Inv (cxC X NC csc C s2 H2 fp) [] (slotsC nt is σ) H' s' := fun {σ' H' s' pl} hd K => by
        have K0 : Inv (cxC X NC csc C s2 H2 fp) [] σ' H' s' := K.pins_of fun p hp => absurd hp (by simp)
        refine K0.weak ?_ fun j v hj => ?_
        · rw [slotsC_len, K.len]; exact S.len.symm
        · by_cases hjn : j < nt
          · exfalso
            unfold slotsC at hj
            rw [List.getElem?_append_left (by simpa using hjn), List.getElem?_replicate, if_pos hjn] at hj
            cases hj
          · have q := congrArg (fun l => l[j - nt]?) hd
            simp only [List.getElem?_drop] at q
            rw [show nt + (j - nt) = j by omega] at q
            rw [q]; exact hj
      cases ok with
      | false =>
        obtain ⟨m', lt, w7⟩ : ∃ m', m' < n ∧ W (i + 1) m' acc H7 := hN _ _ q7
        obtain ⟨t7, f7, e7, n7⟩ := tnk I7
        exact ⟨m', lt, i + 1, H7, acc, its, k, reset d6 I7, t7, f7, e7, n7, v3, z3, w7⟩
      | true =>
        have q7' : te σ6 H7 fun y H4 => N (acc ++ [y]) H4 := q7
        refine thn (he C s2 H2 fp _ s7 σ6 H7 _ I7 q7') fun u8 s8 ⟨y, H8, I8, r8, qN⟩ => ?_
        obtain ⟨m', lt, w8⟩ := hN _ _ qN
        obtain ⟨t8, f8, e8, n8⟩ := tnk I8
        have I8r := reset d6 I8
        have hl := v3.length
        refine call_meets F.slot_list_append ⟨_, e8, rfl⟩ F.entry_list_append (F.args_list_append_2 _ _) (PySem.list_append D its.toArray k u8 (by rw [List.size_toArray]; omega)) ⟨e8, ?_⟩
        have q := PySem.IsL.update e8 (fun a => a.push u8)
        have hq : (its.toArray.push u8) = (its ++ [u8]).toArray := by simp
        rw [hq] at q
        have kk : ∀ b o, b ≠ D → s8.heap.get? b = some o → (s8.heap.update D (Obj.mapSeq fun a => a.push u8)).get? b = some o := fun b o hb e => (Heap.get?_update_other s8.heap _ (Ne.symm hb)).trans e
        refine ⟨m', lt, i + 1, H8, acc ++ [y], its ++ [u8], _, I8r.turned (t' := s8.toks) kk n8 hDC (.inr hD) (cellD I8r e8) (fun p hp => absurd (show p ∈ ([] : List (Addr × Obj)) from hp) (by simp)), T.keep _ _ _ t8 (fun b hb o e => kk b o (fun z => dne (z ▸ hb)) e), f8, q, n8, v3.append (.cons r8 .nil), ?_, w8⟩
        rw [List.length_append, List.length_singleton]
        omega
  exact codeAny_compStart_list (loop _ rfl) (T.self X.A 0 _ _ _ (T.keep _ _ _ st2 (fun b hb o e => old b o e)) (loop _ rfl))
theorem gName_keep {i nt : Nat} (hi : i < nt) : ∀ x (σ : St) (H : Hp) Q, gName i x σ H Q → gName i x σ H fun σ2 H2 => σ2.drop nt = σ.drop nt ∧ Q σ2 H2 := fun x σ H Q h => ⟨List.drop_set_of_lt hi, h⟩
theorem pe_comp {elt tg iter : Expr} {ifs : List Expr} {pos : Pos} {wi : TI} {g : TG} {tt : TT} {te : TE} (nt : Nat) (is : List Nat) (NC : List Str)
    (S : CompSc X NC nt is csc) (hc : X.calm = true) (hi : PI X tg iter wi)
    (hg : ∀ C s H ex, PG (cxC X NC csc C s H ex) tg g) (hgk : ∀ x (σ : St) H Q, g x σ H Q → g x σ H fun σ2 H2 => σ2.drop nt = σ.drop nt ∧ Q σ2 H2)
    (ht : ∀ C s H ex, PIf (cxC X NC csc C s H ex) ifs tt) (he : ∀ C s H ex, PE (cxC X NC csc C s H ex) elt te)
    (hs : ∀ x, foldedSetIterable iter X.env x = pure x := by intro _; rfl) : PE X (.ListComp elt [⟨tg, iter, ifs, 0⟩] csc pos) (tComp wi nt is g tt te) := by
  intro pins s σ H Q I h
  rw [eval_ListComp]
  refine comp_run S hc hi hg ht he hgk I h (fun s' C D H' m J q hm hC hL hz hcl hp => ⟨m, hm, fun h' hsb => ?_⟩) hs
  exact ⟨.ref D, H', J.turned (t' := s'.toks) (fun b o hb e => hsb.extBut b o hb e) hC hL (.inr hz) hcl hp, rfl, q⟩
theorem ps_setComp {i : Nat} {y : Str} {elt tg iter : Expr} {ifs : List Expr} {pos spos py : Pos} {wi : TI} {g : TG} {tt : TT} {te : TE} (nt : Nat) (is : List Nat) (NC : List Str) (hN : X.N.Nodup) (hy : X.N[i]? = some y) (hyl : X.env.scope.names.lookup y = some .local)
    (S : CompSc X NC nt is csc) (hc : X.calm = true) (hi : PI X tg iter wi)
    (hg : ∀ C s H ex, PG (cxC X NC csc C s H ex) tg g) (hgk : ∀ x (σ : St) H Q, g x σ H Q → g x σ H fun σ2 H2 => σ2.drop nt = σ.drop nt ∧ Q σ2 H2)
    (ht : ∀ C s H ex, PIf (cxC X NC csc C s H ex) ifs tt) (he : ∀ C s H ex, PE (cxC X NC csc C s H ex) elt te)
    (hsw : swapsWith (.ListComp elt [⟨tg, iter, ifs, 0⟩] csc pos) (some (.Name y py)) spos.line X.env = pure true := by rfl)
    (hs : ∀ x, foldedSetIterable iter X.env x = pure x := by intro _; rfl) : PS X (.Assign [.Name y py] (.ListComp elt [⟨tg, iter, ifs, 0⟩] csc pos) spos) (tAsg (tComp wi nt is g tt te) (gName i)) := by
  intro pins s σ H D I h
  rw [exec_Assign_Name_used _ _ _ _ hsw]
  refine wpAny_bind (wpAny_standAt (wpAny_bind ?_))
  show wpAny _ X.A (do let _ ← comprehension (.ListComp elt [⟨tg, iter, ifs, 0⟩] csc pos) csc X.env _ (newList []) false (eval iter X.env) (some (assign (.Name y py) X.env))) _ _ s
  refine wpAny_bind (thn (comp_run (QQ := fun _ s' => SP X pins D .next s') S hc hi hg ht he hgk I h (fun s' C Da H' m J q hm hC hL hz hcl hp => ?_) hs) fun _ s' hq => wpAny_pure (wpAny_pure hq))
  show wpAny _ X.A (assign (.Name y py) X.env (.ref Da)) _ _ _
  refine wpAny_assign_Name (store_ok2 J hN hy (.inl hyl) (v := .ref Da) rfl (fun s'' J' ⟨a, hsb, ha⟩ => ⟨m, hm.sameBut hsb (fun z => ?_), fun h3 hs3 => ?_⟩) (.inr hyl))
  · rcases ha with e | e
    · exact hL (z.trans e)
    · exact hcl y a e z.symm
  · exact ⟨_, H', J'.turned (t' := s''.toks) (fun b o hb e => hs3.extBut b o hb e) hC hL (.inr hz) hcl hp, q⟩
end
section
variable {K : PySem.W.Frag} {nt : Nat} {is : List Nat} {g : TG} {tt : TT} {te : TE} {σ : St} {H : Hp} {Q : VK}
def CompW (J : It) (nt : Nat) (is : List Nat) (g : TG) (tt : TT) (te : TE) (σ : St) (H : Hp) (Q : VK) : Prop := ∃ W : Nat → Nat → List V → Hp → Prop, (∃ m, W 0 m [] H) ∧ ∀ i m acc H, W i m acc H →
  (J.stop i H ∧ ∀ p, H p = none → Q (.ref p) (upd H p (.lst acc))) ∨
  (J.go i H ∧ acc.length < sizeLine ∧ ∃ N : List V → Hp → Prop, (∀ acc' H', N acc' H' → ∃ m', m' < m ∧ W (i + 1) m' acc' H') ∧ ∀ x H', J.yld i H x H' → g x (slotsC nt is σ) H' fun σ2 H2 => tt σ2 H2 fun b H3 =>
    if b = true then te σ2 H3 fun y H4 => N (acc ++ [y]) H4 else N acc H3)
theorem tComp_eq {wi : TI} : tComp wi nt is g tt te σ H Q = wi σ H fun J H1 => CompW J nt is g tt te σ H1 Q := rfl
theorem comp_gen {J : It} {n : Nat} (Pv : Nat → List V → Hp → Prop) (h0 : Pv 0 [] H)
    (hgo : ∀ i acc H, i < n → Pv i acc H → J.go i H ∧ acc.length < sizeLine ∧ ∀ x H', J.yld i H x H' → g x (slotsC nt is σ) H' fun σ2 H2 => tt σ2 H2 fun b H3 => if b = true then te σ2 H3 fun y H4 => Pv (i + 1) (acc ++ [y]) H4 else Pv (i + 1) acc H3)
    (hst : ∀ acc H, Pv n acc H → J.stop n H ∧ ∀ p, H p = none → Q (.ref p) (upd H p (.lst acc))) : CompW J nt is g tt te σ H Q := by
  refine ⟨fun i m acc H => m = n - i ∧ i ≤ n ∧ Pv i acc H, ⟨n, by simp, Nat.zero_le _, h0⟩, ?_⟩
  rintro i m acc H ⟨rfl, hi, p⟩
  by_cases hlt : i < n
  · obtain ⟨h1, h2, h3⟩ := hgo i acc H hlt p
    exact .inr ⟨h1, h2, Pv (i + 1), fun acc' H' q => ⟨n - (i + 1), by omega, rfl, hlt, q⟩, h3⟩
  · have e : i = n := by omega
    subst e
    exact .inl (hst acc H p)
theorem comp_range {lo : Int} {n : Nat} (Pv : Nat → List V → Hp → Prop) (h0 : Pv 0 [] H)
    (hs : ∀ i acc H, i < n → Pv i acc H → acc.length < sizeLine ∧ g (.int (lo + i)) (slotsC nt is σ) H fun σ2 H2 => tt σ2 H2 fun b H3 => if b = true then te σ2 H3 fun y H4 => Pv (i + 1) (acc ++ [y]) H4 else Pv (i + 1) acc H3)
    (hd : ∀ acc H, Pv n acc H → ∀ p, H p = none → Q (.ref p) (upd H p (.lst acc))) : CompW (Itr lo n) nt is g tt te σ H Q := by
  refine comp_gen (n := n) Pv h0 (fun i acc H hi p => ?_) fun acc H p => ⟨Nat.le_refl _, hd acc H p⟩
  obtain ⟨h1, h2⟩ := hs i acc H hi p
  refine ⟨hi, h1, fun x H' y => ?_⟩
  obtain ⟨rfl, rfl⟩ := y
  exact h2
theorem comp_str {z : Str} (Pv : Nat → List V → Hp → Prop) (h0 : Pv 0 [] H)
    (hs : ∀ i c acc H, z.cps.toList[i]? = some c → Pv i acc H → acc.length < sizeLine ∧ g (.str ⟨#[c]⟩) (slotsC nt is σ) H fun σ2 H2 => tt σ2 H2 fun b H3 => if b = true then te σ2 H3 fun y H4 => Pv (i + 1) (acc ++ [y]) H4 else Pv (i + 1) acc H3)
    (hd : ∀ acc H, Pv z.cps.toList.length acc H → ∀ p, H p = none → Q (.ref p) (upd H p (.lst acc))) : CompW (Its z) nt is g tt te σ H Q := by
  have hl : z.cps.toList.length = z.cps.size := by simp
  refine comp_gen (n := z.cps.toList.length) Pv h0 (fun i acc H hi p => ?_) fun acc H p => ⟨Nat.le_of_eq hl.symm, hd acc H p⟩
  have hx : z.cps.toList[i]? = some z.cps.toList[i] := by simp [hi]
  obtain ⟨h1, h2⟩ := hs i _ acc H hx p
  refine ⟨(by show i < z.cps.size; omega), h1, fun x H' y => ?_⟩
  obtain ⟨rfl, c, hc, rfl⟩ := y
  rw [← Array.getElem?_toList, hx] at hc
  cases hc
  exact h2
theorem comp_list {a : Addr} {xs : List V} (Pv : Nat → List V → Hp → Prop) (h0 : Pv 0 [] H) (hl : ∀ i acc H, i ≤ xs.length → Pv i acc H → SqL K H a xs)
    (hs : ∀ i x acc H, xs[i]? = some x → Pv i acc H → acc.length < sizeLine ∧ g x (slotsC nt is σ) H fun σ2 H2 => tt σ2 H2 fun b H3 => if b = true then te σ2 H3 fun y H4 => Pv (i + 1) (acc ++ [y]) H4 else Pv (i + 1) acc H3)
    (hd : ∀ acc H, Pv xs.length acc H → ∀ p, H p = none → Q (.ref p) (upd H p (.lst acc))) : CompW (Itl K a) nt is g tt te σ H Q := by
  refine comp_gen (n := xs.length) Pv h0 (fun i acc H hi p => ?_) fun acc H p => ⟨⟨xs, hl _ _ _ (Nat.le_refl _) p, Nat.le_refl _⟩, hd acc H p⟩
  have hx : xs[i]? = some xs[i] := by simp [hi]
  have q := hl i acc H (Nat.le_of_lt hi) p
  obtain ⟨h1, h2⟩ := hs i _ acc H hx p
  refine ⟨⟨xs, _, q, hx⟩, h1, fun x H' y => ?_⟩
  obtain ⟨rfl, y⟩ := y
  have e := y xs q
  rw [hx] at e
  cases e
  exact h2
end
section
variable {X : Cx}
theorem call_all (hc : X.calm = true) : CallR X (.builtin "all") (fun xs H Q => ∃ (p : Addr) (bs : List Bool), xs = [.ref p] ∧ SqL X.K H p (bs.map V.bl) ∧ Q (.bl (bs.all id)) H) := by
  intro pins s σ H xs us Q I r h
  obtain ⟨p, bs, rfl, hq, q⟩ := h
  obtain ⟨u, rfl, rx⟩ := vals1 r
  cases rx
  obtain ⟨its, rv, pl, hz⟩ := I.list hq
  have hlen : bs.length = its.length := by have := rv.length; simpa using this
  refine call_all_walk (wpAny_pyIter_list pl.isList ?_)
  have hne : p ≠ s.heap.objs.size := by
    obtain ⟨o, _, e, _⟩ := pl
    exact Nat.ne_of_lt (Heap.lt_size e)
  obtain ⟨cs, ck, Wk⟩ := walks_list (prog := X.prog) (w := X.w) (A := X.A.in1) (I.ok.hd hc) s.heap.objs.size p hne (I.nob (.inr I.sz)) its.toArray
  refine ⟨s.heap.objs.size, _, _, _, _, _, fun i => bs.getD i false, rfl, Wk, ⟨⟨⟨_, Heap.get?_push_size _ rfl, rfl, rfl⟩, pl.isList.push _⟩, fun a _ o e => Heap.get?_push_of_some _ (I.bk a o e)⟩, ?_, fun h' tk hk => ?_⟩
  · intro i v s' Q' E' hP hQ'
    have hv : its[i]? = some v := by simpa using hP
    have hi : i < bs.length := by rw [hlen]; exact (List.getElem?_eq_some_iff.mp hv).1
    obtain ⟨v', hv', rv'⟩ := rv.get (i := i) (x := V.bl bs[i]) (by simp [hi])
    rw [hv] at hv'; cases hv'
    cases (show v = Value.bool bs[i] from rv')
    have e : bs.getD i false = bs[i] := by simp [hi]
    have hQ2 : Q' (bs.getD i false) s' := hQ'
    rw [e] at hQ2
    exact wpAny_truthy_bool hQ2
  · have e : ((List.range its.toArray.size).all fun i => bs.getD i false) = bs.all id := by
      rw [List.size_toArray, ← hlen]
      rw [Bool.eq_iff_iff, List.all_eq_true, List.all_eq_true]
      constructor
      · intro h x hx
        obtain ⟨i, hi, rfl⟩ := List.mem_iff_getElem.mp hx
        have := h i (List.mem_range.mpr hi)
        simpa [hi] using this
      · intro h i hi
        have hi' := List.mem_range.mp hi
        have := h bs[i] (List.getElem_mem hi')
        simpa [hi'] using this
    rw [e]
    refine ⟨.bl (bs.all id), H, ?_, rfl, q⟩
    exact I.kept (t' := tk) fun b o e => hk b o (fun z => absurd (Heap.lt_size e) (Nat.not_lt.mpr (Nat.le_of_eq (List.mem_singleton.mp z).symm))) (Heap.get?_push_of_some _ e)
theorem strsAre_of : ∀ {ys : List Str} {us : List Value}, Vals (ys.map V.str) us → StrsAre us ys
  | [], _, r => by rw [List.map_nil] at r; cases r; exact .nil
  | y :: ys, _, r => by
    rw [List.map_cons] at r
    cases r with
    | cons r1 r2 =>
      obtain ⟨t, rfl⟩ := r1
      exact .cons y t (strsAre_of r2)
def rJoin (K : PySem.W.Frag) : V → List V → Hp → VK → Prop := fun x vs H Q => ∃ (sep : Str) (p : Addr) (ys : List Str), x = .str sep ∧ vs = [.ref p] ∧ SqL K H p (ys.map V.str) ∧ (ys.map (·.length)).sum + ys.length * sep.length ≤ 16777216 ∧ Q (.str (Txt.join sep ys)) H
theorem mt_join : MtR X "str.join" (rJoin X.K) := by
  intro pins s σ H x vs v us Q I rx rv h
  obtain ⟨sep, p, ys, rfl, rfl, hq, hz, q⟩ := h
  obtain ⟨t, rfl⟩ := rx
  obtain ⟨u, rfl, ru⟩ := vals1 rv
  cases ru
  obtain ⟨its, r', pl, _⟩ := I.list hq
  exact join_list pl.isList (by simpa using strsAre_of r') hz fun t' k => ⟨.str _, H, I.tok _, ⟨t', rfl⟩, q⟩
def rInst (K : PySem.W.Frag) (T : String) : List V → Hp → VK → Prop := fun vs H Q => ∃ x t b, vs = [x, .ty T] ∧ TyOf K H x t ∧ PySem.W.kitOne K t (.type T) = some b ∧ Q (.bl b) H
theorem call_inst {T : String} : CallR X (.builtin "isinstance") (rInst X.K T) := by
  intro pins s σ H xs us Q I r h
  obtain ⟨x, t, b, rfl, ty, e, q⟩ := h
  obtain ⟨u, u2, rfl, rx, r2⟩ := vals2 r
  cases (show u2 = Value.type T from r2)
  exact isinst_ok I rx ty e fun tk => ⟨.bl b, H, I.tok tk, rfl, q⟩
end
end L2
set_option Elab.async false
set_option linter.all false
set_option maxRecDepth 100000
set_option maxHeartbeats 4000000
namespace L2
open PySem PySem.Spec PyProof.Rows
section
variable {X : Cx} {tg l : Expr} {tl : TE} {a : Expr} {pos : Pos} {tA : TT}
theorem op_modP : OpR X (binaryOp .Mod) (rI (fun _ j => 0 < j) fun i j => .int (i % j)) := op_mod
theorem op_fdivP : OpR X (binaryOp .FloorDiv) (rI CDiv fun i j => .int (i / j)) := op_fdiv
def rAddS : R2 := fun x y H Q => ∃ i j, x = .str i ∧ y = .str j ∧ i.length + j.length ≤ sizeLine ∧ Q (.str (i ++ j)) H
def rAddA (K : PySem.W.Frag) : R2 := fun x y H Q => rI0 (fun i j => .int (i + j)) x y H Q ∨ (rAddS x y H Q ∨ (rCat x y H Q ∨ rCatT K x y H Q))
theorem opA_add (K : PySem.W.Frag) (hK : X.K = K := by rfl) : OpR X (binaryOp .Add) (rAddA K) := hK ▸ (OpR.or op_add (OpR.or op_add_str (OpR.or op_cat op_catT)) : OpR X (binaryOp .Add) (rAddA X.K))
def rMulA : R2 := fun x y H Q => rI CMul (fun i j => .int (i * j)) x y H Q ∨ rRep x y H Q
theorem opA_mul : OpR X (binaryOp .Mult) rMulA := OpR.or op_mul op_rep
def rLtS : R2 := fun x y H Q => ∃ i j, x = .str i ∧ y = .str j ∧ Q (.bl (decide (i.cps.toList < j.cps.toList))) H
def rLtA : R2 := fun x y H Q => rI0 (fun i j => .bl (decide (i < j))) x y H Q ∨ rLtS x y H Q
theorem opA_lt : OpR X (compareOp .Lt) rLtA := OpR.or op_lt op_lt_str
def inS (i j : Str) : Bool := !(Builtin.Str.occurrences j i 0 j.length 1).isEmpty
def rInS (neg : Bool) : R2 := fun x y H Q => ∃ i j, x = .str i ∧ y = .str j ∧ Q (.bl (if neg then !inS i j else inS i j)) H
def rInA (K : PySem.W.Frag) (neg : Bool) : R2 := fun x y H Q => rInS neg x y H Q ∨ rIn K neg x y H Q
theorem opA_in (K : PySem.W.Frag) (hK : X.K = K := by rfl) : OpR X (compareOp .In) (rInA K false) := hK ▸ (OpR.or op_in_str op_in_seq : OpR X (compareOp .In) (rInA X.K false))
theorem opA_notin (K : PySem.W.Frag) (hK : X.K = K := by rfl) : OpR X (compareOp .NotIn) (rInA K true) := hK ▸ (OpR.or op_notIn_str op_notIn_seq : OpR X (compareOp .NotIn) (rInA X.K true))
def rSlA (K : PySem.W.Frag) : V → Option Int → Option Int → Hp → VK → Prop := fun x lo hi H Q => rSlS x lo hi H Q ∨ (rSlL K x lo hi H Q ∨ rSlT K x lo hi H Q)
theorem slA (K : PySem.W.Frag) (hK : X.K = K := by rfl) : SlR X (rSlA K) := hK ▸ (SlR.or sl_str (SlR.or sl_list sl_tup) : SlR X (rSlA X.K))
theorem ixA (K : PySem.W.Frag) (hK : X.K = K := by rfl) : IxR X (rIx K) := hK ▸ (ix_seq : IxR X (rIx X.K))
def iAnyV (K : PySem.W.Frag) (x : V) (H : Hp) (R : It → Hp → Prop) : Prop := (∃ z, x = .str z ∧ R (Its z) H) ∨ (∃ a, x = .ref a ∧ (∃ xs, SqL K H a xs) ∧ R (Itl K a) H) ∨ (∃ a, x = .ref a ∧ (∃ xs, SqT K H a xs) ∧ R (Itt K a) H)
def iAny (K : PySem.W.Frag) (tl : TE) : TI := fun σ H R => tl σ H fun x H1 => iAnyV K x H1 R
theorem pi_any (K : PySem.W.Frag) (hl : PE X l tl) (hK : X.K = K := by rfl) : PI X tg l (iAny K tl) := by
  subst hK
  intro pins s σ H R I h
  refine thn (hl pins s σ H _ I h) fun v s1 ⟨x, H1, I1, r1, q1⟩ => ?_
  rcases q1 with ⟨z, rfl, q⟩ | ⟨a, rfl, hq, q⟩ | ⟨a, rfl, hq, q⟩
  · exact pi_str_at I1 r1 q
  · obtain ⟨xs, hq⟩ := hq
    cases r1
    obtain ⟨its, rv, p, hz⟩ := I1.list hq
    refine wpAny_pyIter_list p.isList ?_
    refine ⟨s1.heap.objs.size, [s1.heap.objs.size], _, _, H1, rfl, I1.kept (t' := s1.toks) fun b o e => Heap.get?_push_of_some _ e, turn_list a _, ⟨_, Heap.get?_push_size _ rfl, rfl, rfl⟩, fun b hb => ?_, q⟩
    have e : b = s1.heap.objs.size := by simpa using hb
    subst e
    exact I1.fpOk (Nat.le_refl _) (I1.hok.fresh (Nat.le_refl _))
  · obtain ⟨xs, hq⟩ := hq
    cases r1
    obtain ⟨its, rv, p, hz⟩ := I1.tuple hq
    refine wpAny_pyIter_tuple (show s1.heap.IsTuple a its.toArray from p) ?_
    refine ⟨s1.heap.objs.size, [s1.heap.objs.size], _, _, H1, rfl, I1.kept (t' := s1.toks) fun b o e => Heap.get?_push_of_some _ e, turn_tuple a _, ⟨_, Heap.get?_push_size _ rfl, rfl, rfl⟩, fun b hb => ?_, q⟩
    have e : b = s1.heap.objs.size := by simpa using hb
    subst e
    exact I1.fpOk (Nat.le_refl _) (I1.hok.fresh (Nat.le_refl _))
end
section
variable {X : Cx} {o e : Expr} {es : List Expr} {to : TE} {t : TA} {name : Str} {apos cpos : Pos} {T iid : String} {r : V → List V → Hp → VK → Prop}
def rLen (K : PySem.W.Frag) : List V → Hp → VK → Prop := fun xs H Q => ∃ x n, xs = [x] ∧ LenV K x H n ∧ Q (.int n) H
theorem callA_len (K : PySem.W.Frag) (hK : X.K = K := by rfl) : CallR X (.builtin "len") (rLen K) := hK ▸ (call_len : CallR X (.builtin "len") (rLen X.K))
def rAll (K : PySem.W.Frag) : List V → Hp → VK → Prop := fun xs H Q => ∃ (p : Addr) (bs : List Bool), xs = [.ref p] ∧ SqL K H p (bs.map V.bl) ∧ Q (.bl (bs.all id)) H
theorem callA_all (K : PySem.W.Frag) (hc : X.calm = true) (hK : X.K = K := by rfl) : CallR X (.builtin "all") (rAll K) := hK ▸ (call_all hc : CallR X (.builtin "all") (rAll X.K))
def rTupleOf (K : PySem.W.Frag) : List V → Hp → VK → Prop := fun xs H Q => ∃ p ys, xs = [.ref p] ∧ ((SqL K H p ys ∧ ∀ l, H l = none → Q (.ref l) (upd H l (.tup ys))) ∨ (SqT K H p ys ∧ Q (.ref p) H))
theorem callA_tuple (K : PySem.W.Frag) (hK : X.K = K := by rfl) : CallR X (.type "tuple") (rTupleOf K) := hK ▸ (call_tuple_of : CallR X (.type "tuple") (rTupleOf X.K))
def rListOf (K : PySem.W.Frag) : List V → Hp → VK → Prop := fun xs H Q => ∃ p ys, xs = [.ref p] ∧ (SqL K H p ys ∨ SqT K H p ys) ∧ ∀ l, H l = none → Q (.ref l) (upd H l (.lst ys))
def rIntOf : List V → Hp → VK → Prop := fun xs H Q => (∃ i, xs = [.int i] ∧ Q (.int i) H) ∨ ∃ k, xs = [.bl k] ∧ Q (.int (if k then 1 else 0)) H
theorem callA_int : CallR X (.type "int") rIntOf := call_int1
theorem pe_bmA (K : PySem.W.Frag) (pa : PlainAttrs T) (slot : Slot T name iid) (hty : typeOf (.builtin iid) = pure (.type "method_descriptor")) (hm : MtR X iid r) (ho : PE X o to) (ha : PA X (e :: es) t) (hK : X.K = K := by rfl)
    (hbase : attributeBase o name X.env (eval o X.env) = eval o X.env := by rfl)
    (hfew : ((backTo cpos (starEach (e :: es) X.env)).all (fun x => !x.1) && (backToKw cpos (keywordEach [] X.env)).all (fun x => x.1.isSome)
      && decide ((e :: es).length + ([] : List Keyword).length + (if ([] : List Keyword).isEmpty then 0 else 1) < 30)) = true := by rfl)
    (hline : (apos.endLine == cpos.line) = true := by rfl) (hs : starEach (e :: es) X.env = (false, eval e X.env) :: starEach es X.env := by rfl) (hplain : (backTo cpos (starEach es X.env)).any (·.1) = false := by rfl) :
    PE X (.Call (.Attribute o name apos) (e :: es) [] cpos) (tBM K T r to t) := hK ▸ pe_bm pa slot hty hm ho ha hbase hfew hline hs hplain
end
section
variable {K : PySem.W.Frag} {g : TG} {tb : TS} {D : Ends} {σ : St} {H : Hp}
def ForW (J : It) (g : TG) (tb : TS) (D : Ends) (σ : St) (H : Hp) : Prop := ∃ W : Nat → Nat → St → Hp → Prop, (∃ m, W 0 m σ H) ∧ ∀ i m σ H, W i m σ H →
  (J.stop i H ∧ D.nx σ H) ∨ (J.go i H ∧ ∃ N : St → Hp → Prop, (∀ σ' H', N σ' H' → ∃ m', m' < m ∧ W (i + 1) m' σ' H') ∧ ∀ x H', J.yld i H x H' → g x σ H' fun σ2 H2 => tb { D with nx := N, ct := N, bk := D.nx } σ2 H2)
theorem tFor_eq {wi : TI} : tFor wi g tb D σ H = wi σ H fun J H1 => ForW J g tb D σ H1 := rfl
theorem forW_list {a : Addr} {xs : List V} (Pv : Nat → St → Hp → Prop) (h0 : Pv 0 σ H) (hl : ∀ i σ H, i ≤ xs.length → Pv i σ H → SqL K H a xs)
    (hs : ∀ i x σ H, xs[i]? = some x → Pv i σ H → g x σ H fun σ2 H2 => tb { D with nx := Pv (i + 1), ct := Pv (i + 1), bk := D.nx } σ2 H2) (hd : ∀ σ H, Pv xs.length σ H → D.nx σ H) : ForW (Itl K a) g tb D σ H := for_list Pv h0 hl hs hd
theorem forW_tup {a : Addr} {xs : List V} (Pv : Nat → St → Hp → Prop) (h0 : Pv 0 σ H) (hl : ∀ i σ H, i ≤ xs.length → Pv i σ H → SqT K H a xs)
    (hs : ∀ i x σ H, xs[i]? = some x → Pv i σ H → g x σ H fun σ2 H2 => tb { D with nx := Pv (i + 1), ct := Pv (i + 1), bk := D.nx } σ2 H2) (hd : ∀ σ H, Pv xs.length σ H → D.nx σ H) : ForW (Itt K a) g tb D σ H := for_tup Pv h0 hl hs hd
theorem forW_range {lo : Int} {n : Nat} (Pv : Nat → St → Hp → Prop) (h0 : Pv 0 σ H)
    (hs : ∀ i σ H, i < n → Pv i σ H → g (.int (lo + i)) σ H fun σ2 H2 => tb { D with nx := Pv (i + 1), ct := Pv (i + 1), bk := D.nx } σ2 H2) (hd : ∀ σ H, Pv n σ H → D.nx σ H) : ForW (Itr lo n) g tb D σ H := for_range Pv h0 hs hd
theorem forW_str {x : Str} (Pv : Nat → St → Hp → Prop) (h0 : Pv 0 σ H)
    (hs : ∀ i c σ H, x.cps.toList[i]? = some c → Pv i σ H → g (.str ⟨#[c]⟩) σ H fun σ2 H2 => tb { D with nx := Pv (i + 1), ct := Pv (i + 1), bk := D.nx } σ2 H2) (hd : ∀ σ H, Pv x.cps.toList.length σ H → D.nx σ H) : ForW (Its x) g tb D σ H := for_str Pv h0 hs hd
end
theorem sz1000 {n : Nat} (h : n ≤ 100000) : n ≤ sizeLine := Nat.le_trans h (by rw [sizeLine_eq]; decide)
theorem sz1000' {n : Nat} (h : n ≤ 100000) : n < sizeLine := Nat.lt_of_le_of_lt h (by rw [sizeLine_eq]; decide)
theorem same_new {H : Hp} {p : Addr} (h : H p = none) (o : HO) : Same H (upd H p o) := fun b u q => by rw [upd_ne (ne_of_none q h)]; exact q
theorem Same.seqT {K : PySem.W.Frag} {H H' : Hp} {a : Addr} {xs : List V} (e : Same H H') (h : SqT K H a xs) : SqT K H' a xs := by
  rcases h with (h | ⟨o, h⟩) | h
  · exact .inl (.inl (e _ _ h))
  · exact .inl (.inr ⟨o, e _ _ h⟩)
  · exact .inr h
theorem atI_some {α : Type} {xs : List α} {i : Int} (h0 : 0 ≤ i) (h1 : i < xs.length) : ∃ v, v ∈ xs ∧ atI xs i = some v := by
  have hk : i.toNat < xs.length := by omega
  have e : i = ((i.toNat : Nat) : Int) := by omega
  refine ⟨xs[i.toNat], List.getElem_mem hk, ?_⟩
  have q : atI xs ((i.toNat : Nat) : Int) = some xs[i.toNat] := atI_nat (by simp [hk])
  rw [← e] at q
  exact q
theorem atI_getD {α : Type} {xs : List α} {i : Int} {d : α} (h0 : 0 ≤ i) (h1 : i < xs.length) : atI xs i = some (xs.getD i.toNat d) := by
  have hk : i.toNat < xs.length := by omega
  have e : i = ((i.toNat : Nat) : Int) := by omega
  have q : atI xs ((i.toNat : Nat) : Int) = some xs[i.toNat] := atI_nat (by simp [hk])
  rw [← e] at q
  rw [q]; simp [hk]
def spLaw (K : PySem.W.Frag) : Sp := fun vs H Q _ => ∃ (a : Addr) (ns : List Int), vs = [.ref a] ∧ SqL K H a (ns.map V.int) ∧ ns.length ≤ 63 ∧ ∀ H', Q (.bl true) H'
end L2
set_option Elab.async false
set_option linter.all false
set_option maxRecDepth 100000
set_option maxHeartbeats 4000000
namespace L2
open PySem PySem.Spec PyProof.Rows
section
variable {K : PySem.W.Frag} {H : Hp} {Q : VK} {σ : St} {D : Ends} {ta tb tc te : TE} {tt tA tB' : TT} {t u : TS} {g : TG} {r : R2} {tl : TA} {v0 v1 v2 v3 v4 v5 v6 v7 v8 v9 v10 v11 : V}
  {o0 o1 o2 o3 o4 o5 o6 o7 o8 o9 o10 o11 : Option V} {rr : St}
theorem w_v0 : tVar 0 (some v0 :: rr) H Q = Q v0 H := by simp [tVar]
theorem w_v1 : tVar 1 (o0 :: some v1 :: rr) H Q = Q v1 H := by simp [tVar]
theorem w_v2 : tVar 2 (o0 :: o1 :: some v2 :: rr) H Q = Q v2 H := by simp [tVar]
theorem w_v3 : tVar 3 (o0 :: o1 :: o2 :: some v3 :: rr) H Q = Q v3 H := by simp [tVar]
theorem w_v4 : tVar 4 (o0 :: o1 :: o2 :: o3 :: some v4 :: rr) H Q = Q v4 H := by simp [tVar]
theorem w_v5 : tVar 5 (o0 :: o1 :: o2 :: o3 :: o4 :: some v5 :: rr) H Q = Q v5 H := by simp [tVar]
theorem w_v6 : tVar 6 (o0 :: o1 :: o2 :: o3 :: o4 :: o5 :: some v6 :: rr) H Q = Q v6 H := by simp [tVar]
theorem w_v7 : tVar 7 (o0 :: o1 :: o2 :: o3 :: o4 :: o5 :: o6 :: some v7 :: rr) H Q = Q v7 H := by simp [tVar]
theorem w_v8 : tVar 8 (o0 :: o1 :: o2 :: o3 :: o4 :: o5 :: o6 :: o7 :: some v8 :: rr) H Q = Q v8 H := by simp [tVar]
theorem w_v9 : tVar 9 (o0 :: o1 :: o2 :: o3 :: o4 :: o5 :: o6 :: o7 :: o8 :: some v9 :: rr) H Q = Q v9 H := by simp [tVar]
theorem w_v10 : tVar 10 (o0 :: o1 :: o2 :: o3 :: o4 :: o5 :: o6 :: o7 :: o8 :: o9 :: some v10 :: rr) H Q = Q v10 H := by simp [tVar]
theorem w_v11 : tVar 11 (o0 :: o1 :: o2 :: o3 :: o4 :: o5 :: o6 :: o7 :: o8 :: o9 :: o10 :: some v11 :: rr) H Q = Q v11 H := by simp [tVar]
theorem w_c {v : V} : tC v σ H Q = Q v H := rfl
theorem w_seq : tSeq t u D σ H = t { D with nx := u D } σ H := rfl
theorem w_ifS : tIfS tt t u D σ H = tt σ H fun b H1 => if b = true then t D σ H1 else u D σ H1 := rfl
theorem w_next : tNext D σ H = D.nx σ H := rfl
theorem w_ret : tRet te D σ H = te σ H D.rt := rfl
theorem w_drop : tDrop te D σ H = te σ H fun _ H1 => D.nx σ H1 := rfl
theorem w_asg : tAsg te g D σ H = te σ H fun x H1 => g x σ H1 D.nx := rfl
theorem w_gName {i : Nat} {x : V} {Qs : St → Hp → Prop} : gName i x σ H Qs = Qs (σ.set i (some x)) H := rfl
theorem w_op : tOp r ta tb σ H Q = ta σ H fun x H1 => tb σ H1 fun y H2 => r x y H2 Q := rfl
theorem w_un {f : V → Hp → VK → Prop} : tUn f ta σ H Q = ta σ H fun x H1 => f x H1 Q := rfl
variable {Qb : Bool → Hp → Prop} {Qs : List V → Hp → Prop}
theorem w_test : tTest te σ H Qb = te σ H fun x H' => ∃ k, x = .bl k ∧ Qb k H' := rfl
theorem w_B : tB te σ H Qb = te σ H fun x H' => ∃ k, x = .bl k ∧ Qb k H' := rfl
theorem w_bl {b : Bool} {P : Bool → Prop} : (∃ k, V.bl b = .bl k ∧ P k) = P b := by
  refine propext ⟨fun ⟨k, e, h⟩ => ?_, fun h => ⟨b, rfl, h⟩⟩
  cases e; exact h
theorem w_blA {b : Bool} {P : Bool → Prop} {P2 : Bool → Prop} : (∃ k, V.bl b = .bl k ∧ if k = true then P k else P2 k) = if b = true then P b else P2 b := w_bl
theorem w_and : tAnd tA tB' σ H Qb = tA σ H fun c H1 => if c = true then tB' σ H1 Qb else Qb false H1 := rfl
theorem w_or : tOr tA tB' σ H Qb = tA σ H fun c H1 => if c = true then Qb true H1 else tB' σ H1 Qb := rfl
theorem w_not : tNot tA σ H Qb = tA σ H fun c H1 => Qb (!c) H1 := rfl
theorem w_andV : tAndV ta tb σ H Q = ta σ H fun x H1 => ∃ c, x = .bl c ∧ if c = true then tb σ H1 Q else Q (.bl false) H1 := rfl
theorem w_notV : tNotV ta σ H Q = ta σ H fun x H1 => ∃ c, x = .bl c ∧ Q (.bl (!c)) H1 := rfl
theorem w_true : tTrue σ H Qb = Qb true H := rfl
theorem w_nil : tNil σ H Qs = Qs [] H := rfl
theorem w_cons : tCons ta tl σ H Qs = ta σ H fun x H1 => tl σ H1 fun xs H2 => Qs (x :: xs) H2 := rfl
theorem w_tup : tTup tl σ H Q = tl σ H fun xs H1 => xs.length ≤ sizeLine ∧ ∀ p, H1 p = none → Q (.ref p) (upd H1 p (.tup xs)) := rfl
theorem w_lst : tLst tl σ H Q = tl σ H fun xs H1 => xs.length ≤ sizeLine ∧ ∀ p, H1 p = none → Q (.ref p) (upd H1 p (.lst xs)) := rfl
theorem w_call {sp : Sp} {dvs : List V} {E : XK} : tCall sp dvs E tl σ H Q = tl σ H fun vs H1 => sp (vs ++ dvs) H1 Q E := rfl
theorem w_CB {f : List V → Hp → VK → Prop} : tCB f tl σ H Q = tl σ H fun vs H1 => f vs H1 Q := rfl
theorem w_BM {T : String} {f : V → List V → Hp → VK → Prop} : tBM K T f te tl σ H Q = te σ H fun x H1 => tyV K T x H1 ∧ tl σ H1 fun xs H2 => f x xs H2 Q := rfl
theorem w_ty_str {T : String} {x : Str} : tyV K T (.str x) H = (T = "str") := rfl
theorem w_ty_list {T : String} {p : Addr} (h : T = "list") : tyV K T (.ref p) H = ∃ xs, SqL K H p xs := by
  subst h
  refine propext ⟨fun h => ?_, fun h => .inl ⟨rfl, h⟩⟩
  rcases h with ⟨_, h⟩ | ⟨h, _⟩ | ⟨h, _⟩ | ⟨h, _⟩
  · exact h
  · exact absurd h (by decide)
  · exact absurd h (by decide)
  · exact absurd h (by decide)
variable {tlo thi : TO} {Qo : Option Int → Hp → Prop}
theorem w_sl {f : V → Option Int → Option Int → Hp → VK → Prop} : tSl f te tlo thi σ H Q = te σ H fun x H1 => tlo σ H1 fun l H2 => thi σ H2 fun u H3 => f x l u H3 Q := rfl
theorem w_noPart : tNoPart σ H Qo = Qo none H := rfl
theorem w_part : tPart te σ H Qo = te σ H fun x H1 => ∃ i, x = .int i ∧ Qo (some i) H1 := rfl
theorem w_int {i : Int} {P : Int → Prop} : (∃ k, V.int i = .int k ∧ P k) = P i := by
  refine propext ⟨fun ⟨k, e, h⟩ => ?_, fun h => ⟨i, rfl, h⟩⟩
  cases e; exact h
variable {i j : Int} {x y : Str} {b c : Bool} {p q : Addr} {gi : Int → Int → V} {C : Int → Int → Prop}
theorem w_rI0 : rI0 gi (.int i) (.int j) H Q = Q (gi i j) H := by
  refine propext ⟨fun ⟨_, _, e1, e2, h⟩ => ?_, fun h => ⟨i, j, rfl, rfl, h⟩⟩
  cases e1; cases e2; exact h
theorem w_rI : rI C gi (.int i) (.int j) H Q = (C i j ∧ Q (gi i j) H) := by
  refine propext ⟨fun ⟨_, _, e1, e2, h⟩ => ?_, fun h => ⟨i, j, rfl, rfl, h⟩⟩
  cases e1; cases e2; exact h
theorem w_addI : rAddA K (.int i) (.int j) H Q = Q (.int (i + j)) H := by
  unfold rAddA
  rw [w_rI0]
  refine propext ⟨fun h => ?_, .inl⟩
  rcases h with h | ⟨_, _, e, _⟩ | ⟨_, _, _, _, e, _⟩ | ⟨_, _, _, _, e, _⟩
  · exact h
  all_goals cases e
theorem w_addS : rAddA K (.str x) (.str y) H Q = (x.length + y.length ≤ sizeLine ∧ Q (.str (x ++ y)) H) := by
  refine propext ⟨fun h => ?_, fun h => .inr (.inl ⟨x, y, rfl, rfl, h⟩)⟩
  rcases h with ⟨_, _, e, _⟩ | ⟨_, _, e1, e2, h⟩ | ⟨_, _, _, _, e, _⟩ | ⟨_, _, _, _, e, _⟩
  · cases e
  · cases e1; cases e2; exact h
  all_goals cases e
theorem w_mulI : rMulA (.int i) (.int j) H Q = (CMul i j ∧ Q (.int (i * j)) H) := by
  unfold rMulA
  rw [w_rI]
  refine propext ⟨fun h => ?_, .inl⟩
  rcases h with h | ⟨_, _, _, e, _⟩
  · exact h
  · cases e
theorem w_neI : rNe (.int i) (.int j) H Q = Q (.bl (!decide (i = j))) H := by
  refine propext ⟨fun ⟨_, h⟩ => by simpa using h, fun h => ⟨rfl, by simpa using h⟩⟩
theorem w_neS : rNe (.str x) (.str y) H Q = Q (.bl (!decide (x = y))) H := by
  refine propext ⟨fun ⟨_, h⟩ => by simpa using h, fun h => ⟨rfl, by simpa using h⟩⟩
theorem w_ltI : rLtA (.int i) (.int j) H Q = Q (.bl (decide (i < j))) H := by
  unfold rLtA
  rw [w_rI0]
  refine propext ⟨fun h => ?_, .inl⟩
  rcases h with h | ⟨_, _, e, _⟩
  · exact h
  · cases e
theorem w_inS : rInA K false (.str x) (.str y) H Q = Q (.bl (inS x y)) H := by
  refine propext ⟨fun h => ?_, fun h => .inl ⟨x, y, rfl, rfl, h⟩⟩
  rcases h with ⟨_, _, e1, e2, h⟩ | ⟨_, _, e, _⟩
  · cases e1; cases e2; exact h
  · cases e
theorem w_notinS : rInA K true (.str x) (.str y) H Q = Q (.bl (!inS x y)) H := by
  refine propext ⟨fun h => ?_, fun h => .inl ⟨x, y, rfl, rfl, h⟩⟩
  rcases h with ⟨_, _, e1, e2, h⟩ | ⟨_, _, e, _⟩
  · cases e1; cases e2; exact h
  · cases e
theorem w_inR {v : V} : rInA K false v (.ref p) H Q = ∃ xs, (SqL K H p xs ∨ SqT K H p xs) ∧ flatV v = true ∧ xs.all flatV = true ∧ Q (.bl (inV v xs)) H := by
  refine propext ⟨fun h => ?_, fun ⟨xs, h⟩ => .inr ⟨p, xs, rfl, h⟩⟩
  rcases h with ⟨_, _, _, e2, _⟩ | ⟨_, xs, e, h⟩
  · cases e2
  · cases e; exact ⟨xs, h⟩
theorem w_notinR {v : V} : rInA K true v (.ref p) H Q = ∃ xs, (SqL K H p xs ∨ SqT K H p xs) ∧ flatV v = true ∧ xs.all flatV = true ∧ Q (.bl (!inV v xs)) H := by
  refine propext ⟨fun h => ?_, fun ⟨xs, h⟩ => .inr ⟨p, xs, rfl, h⟩⟩
  rcases h with ⟨_, _, _, e2, _⟩ | ⟨_, xs, e, h⟩
  · cases e2
  · cases e; exact ⟨xs, h⟩
theorem w_ixS : rIx K (.str x) (.int i) H Q = (x.length ≤ sizeLine ∧ ∃ c, atI x.cps.toList i = some c ∧ Q (.str ⟨#[c]⟩) H) := by
  refine propext ⟨fun h => ?_, fun ⟨h1, c, h2, h3⟩ => .inr (.inr ⟨x, i, c, rfl, rfl, h1, h2, h3⟩)⟩
  rcases h with ⟨_, _, _, _, e, _⟩ | ⟨_, _, _, _, e, _⟩ | ⟨_, _, c, e1, e2, h1, h2, h3⟩
  · cases e
  · cases e
  · cases e1; cases e2; exact ⟨h1, c, h2, h3⟩
theorem w_ixR : rIx K (.ref p) (.int i) H Q = ∃ xs, (SqL K H p xs ∨ SqT K H p xs) ∧ ∃ v, atI xs i = some v ∧ Q v H := by
  refine propext ⟨fun h => ?_, fun ⟨xs, h, v, e, q⟩ => ?_⟩
  · rcases h with ⟨_, xs, _, v, e1, e2, h1, h2, h3⟩ | ⟨_, xs, _, v, e1, e2, h1, h2, h3⟩ | ⟨_, _, _, e, _⟩
    · cases e1; cases e2; exact ⟨xs, .inl h1, v, h2, h3⟩
    · cases e1; cases e2; exact ⟨xs, .inr h1, v, h2, h3⟩
    · cases e
  · rcases h with h | h
    · exact .inl ⟨p, xs, i, v, rfl, rfl, h, e, q⟩
    · exact .inr (.inl ⟨p, xs, i, v, rfl, rfl, h, e, q⟩)
theorem w_lenS : rLen K [.str x] H Q = (x.length ≤ sizeLine ∧ Q (.int x.length) H) := by
  refine propext ⟨fun ⟨_, n, e, h, q⟩ => ?_, fun ⟨h, q⟩ => ⟨_, _, rfl, ⟨h, rfl⟩, q⟩⟩
  cases e
  obtain ⟨h1, rfl⟩ := h
  exact ⟨h1, q⟩
theorem w_lenR : rLen K [.ref p] H Q = ∃ xs, (SqL K H p xs ∨ SqT K H p xs) ∧ Q (.int (xs.length : Nat)) H := by
  refine propext ⟨fun ⟨_, n, e, h, q⟩ => ?_, fun ⟨xs, h, q⟩ => ?_⟩
  · cases e
    rcases h with ⟨xs, h, rfl⟩ | ⟨xs, h, rfl⟩
    · exact ⟨xs, .inl h, q⟩
    · exact ⟨xs, .inr h, q⟩
  · rcases h with h | h
    · exact ⟨_, _, rfl, .inl ⟨xs, h, rfl⟩, q⟩
    · exact ⟨_, _, rfl, .inr ⟨xs, h, rfl⟩, q⟩
theorem w_slS {lo hi : Option Int} : rSlA K (.str x) lo hi H Q = (x.length ≤ sizeLine ∧ Q (.str (Txt.slice x lo hi)) H) := by
  refine propext ⟨fun h => ?_, fun h => .inl ⟨x, rfl, h⟩⟩
  rcases h with ⟨_, e, h⟩ | ⟨_, _, e, _⟩ | ⟨_, _, e, _⟩
  · cases e; exact h
  · cases e
  · cases e
theorem w_all : rAll K [.ref p] H Q = ∃ bs : List Bool, SqL K H p (bs.map V.bl) ∧ Q (.bl (bs.all id)) H := by
  refine propext ⟨fun ⟨_, bs, e, h⟩ => ?_, fun ⟨bs, h⟩ => ⟨p, bs, rfl, h⟩⟩
  cases e; exact ⟨bs, h⟩
theorem w_join {sep : Str} : rJoin K (.str sep) [.ref p] H Q = ∃ ys : List Str, SqL K H p (ys.map V.str) ∧ (ys.map (·.length)).sum + ys.length * sep.length ≤ 16777216 ∧ Q (.str (Txt.join sep ys)) H := by
  refine propext ⟨fun ⟨_, _, ys, e1, e2, h⟩ => ?_, fun ⟨ys, h⟩ => ⟨sep, p, ys, rfl, rfl, h⟩⟩
  cases e1; cases e2; exact ⟨ys, h⟩
theorem w_intB {b : Bool} : rIntOf [.bl b] H Q = Q (.int (if b then 1 else 0)) H := by
  refine propext ⟨fun h => ?_, fun h => .inr ⟨b, rfl, h⟩⟩
  rcases h with ⟨_, e, _⟩ | ⟨_, e, h⟩
  · cases e
  · cases e; exact h
theorem w_intI : rIntOf [.int i] H Q = Q (.int i) H := by
  refine propext ⟨fun h => ?_, fun h => .inl ⟨i, rfl, h⟩⟩
  rcases h with ⟨_, e, h⟩ | ⟨_, e, _⟩
  · cases e; exact h
  · cases e
variable {R : It → Hp → Prop}
theorem w_itS : iAnyV K (.str x) H R = R (Its x) H := by
  refine propext ⟨fun h => ?_, fun h => .inl ⟨x, rfl, h⟩⟩
  rcases h with ⟨_, e, h⟩ | ⟨_, e, _⟩ | ⟨_, e, _⟩
  · cases e; exact h
  · cases e
  · cases e
theorem w_itR : iAnyV K (.ref p) H R = (((∃ xs, SqL K H p xs) ∧ R (Itl K p) H) ∨ ((∃ xs, SqT K H p xs) ∧ R (Itt K p) H)) := by
  refine propext ⟨fun h => ?_, fun h => ?_⟩
  · rcases h with ⟨_, e, _⟩ | ⟨_, e, h⟩ | ⟨_, e, h⟩
    · cases e
    · cases e; exact .inl h
    · cases e; exact .inr h
  · rcases h with h | h
    · exact .inr (.inl ⟨p, rfl, h⟩)
    · exact .inr (.inr ⟨p, rfl, h⟩)
theorem w_iAny : iAny K te σ H R = te σ H fun x H1 => iAnyV K x H1 R := rfl
theorem w_rng1 : iRng1 tl σ H R = tl σ H fun vs H1 => ∃ j : Int, vs = [.int j] ∧ -(2 ^ 62) ≤ j ∧ j < 2 ^ 62 ∧ R (Itr 0 j.toNat) H1 := rfl
theorem w_rngI {P : Int → Prop} : (∃ j : Int, [V.int i] = [.int j] ∧ P j) = P i := by
  refine propext ⟨fun ⟨_, e, h⟩ => ?_, fun h => ⟨i, rfl, h⟩⟩
  cases e; exact h
end
end L2
set_option Elab.async false
set_option linter.all false
set_option maxRecDepth 100000
set_option maxHeartbeats 4000000
namespace L2
open PySem PySem.Spec PyProof.Rows
section
variable {K : PySem.W.Frag} {H : Hp} {Q : VK} {σ : St} {D : Ends} {ta tb tc te ti to : TE} {i j : Int} {x y : Str} {p q : Addr} {v : V} {T : String} {lo hi : Option Int}
theorem w_ints2 {P : Int → Int → Prop} : (∃ i' j', [V.int i, V.int j] = [V.int i', V.int j'] ∧ P i' j') = P i j := by
  refine propext ⟨fun ⟨_, _, e, h⟩ => ?_, fun h => ⟨i, j, rfl, h⟩⟩
  cases e; exact h
theorem w_tupleOf : rTupleOf K [.ref p] H Q = ∃ ys, (SqL K H p ys ∧ ∀ l, H l = none → Q (.ref l) (upd H l (.tup ys))) ∨ (SqT K H p ys ∧ Q (.ref p) H) := by
  refine propext ⟨fun ⟨_, ys, e, h⟩ => ?_, fun ⟨ys, h⟩ => ⟨p, ys, rfl, h⟩⟩
  cases e; exact ⟨ys, h⟩
theorem w_listOf : rListOf K [.ref p] H Q = ∃ ys, (SqL K H p ys ∨ SqT K H p ys) ∧ ∀ l, H l = none → Q (.ref l) (upd H l (.lst ys)) := by
  refine propext ⟨fun ⟨_, ys, e, h⟩ => ?_, fun ⟨ys, h⟩ => ⟨p, ys, rfl, h⟩⟩
  cases e; exact ⟨ys, h⟩
theorem w_append : rAppend (.ref p) [v] H Q = ∃ xs, H p = some (.lst xs) ∧ xs.length < sizeLine ∧ Q .non (upd H p (.lst (xs ++ [v]))) := by
  refine propext ⟨fun ⟨_, xs, _, e1, e2, h⟩ => ?_, fun ⟨xs, h⟩ => ⟨p, xs, v, rfl, rfl, h⟩⟩
  cases e1; cases e2; exact ⟨xs, h⟩
theorem w_extend : rExtend (.ref p) [.ref q] H Q = ∃ xs zs, H p = some (.lst xs) ∧ H q = some (.lst zs) ∧ xs.length + zs.length ≤ sizeLine ∧ Q .non (upd H p (.lst (xs ++ zs))) := by
  refine propext ⟨fun ⟨_, _, xs, zs, e1, e2, h⟩ => ?_, fun ⟨xs, zs, h⟩ => ⟨p, q, xs, zs, rfl, rfl, h⟩⟩
  cases e1; cases e2; exact ⟨xs, zs, h⟩
theorem w_setL {Qh : Hp → Prop} : rSetL (.ref p) (.int i) v H Qh = ∃ xs j, H p = some (.lst xs) ∧ ixN xs.length i = some j ∧ Qh (upd H p (.lst (xs.set j v))) := by
  refine propext ⟨fun ⟨_, xs, _, j, e1, e2, h⟩ => ?_, fun ⟨xs, j, h⟩ => ⟨p, xs, i, j, rfl, rfl, h⟩⟩
  cases e1; cases e2; exact ⟨xs, j, h⟩
theorem w_gSub {t : TSet} {Qs : St → Hp → Prop} : gSub to ti t v σ H Qs = to σ H fun o H1 => ti σ H1 fun i H2 => t o i v H2 fun H3 => Qs σ H3 := rfl
theorem w_instInt : rInst K T [.int i, .ty T] H Q = ∃ b, PySem.W.kitOne K (.type "int") (.type T) = some b ∧ Q (.bl b) H := by
  refine propext ⟨fun ⟨_, _, b, e, t, h⟩ => ?_, fun ⟨b, h⟩ => ⟨_, _, b, rfl, .int i, h⟩⟩
  cases e; cases t; exact ⟨b, h⟩
theorem w_instStr : rInst K T [.str x, .ty T] H Q = ∃ b, PySem.W.kitOne K (.type "str") (.type T) = some b ∧ Q (.bl b) H := by
  refine propext ⟨fun ⟨_, _, b, e, t, h⟩ => ?_, fun ⟨b, h⟩ => ⟨_, _, b, rfl, .str x, h⟩⟩
  cases e; cases t; exact ⟨b, h⟩
theorem w_slR : rSlA K (.ref p) lo hi H Q = ∃ xs, (SqL K H p xs ∧ ∀ q, H q = none → Q (.ref q) (upd H q (.lst (cutV xs lo hi)))) ∨
    (SqT K H p xs ∧ ¬ (HT.sIx xs.length 0 lo = 0 ∧ HT.sIx xs.length xs.length hi = xs.length) ∧ ∀ q, H q = none → Q (.ref q) (upd H q (.tup (cutV xs lo hi)))) := by
  refine propext ⟨fun h => ?_, fun ⟨xs, h⟩ => ?_⟩
  · rcases h with ⟨_, e, _⟩ | ⟨_, xs, e, h⟩ | ⟨_, xs, e, h⟩
    · cases e
    · cases e; exact ⟨xs, .inl h⟩
    · cases e; exact ⟨xs, .inr h⟩
  · rcases h with h | h
    · exact .inr (.inl ⟨p, xs, rfl, h⟩)
    · exact .inr (.inr ⟨p, xs, rfl, h⟩)
theorem w_catR : rAddA K (.ref p) (.ref q) H Q = ∃ xs zs, (H p = some (.lst xs) ∧ H q = some (.lst zs) ∧ xs.length + zs.length ≤ sizeLine ∧ ∀ r, H r = none → Q (.ref r) (upd H r (.lst (xs ++ zs)))) ∨
    (SqT K H p xs ∧ SqT K H q zs ∧ xs ≠ [] ∧ xs.length + zs.length ≤ sizeLine ∧ (zs = [] → Q (.ref p) H) ∧ (zs ≠ [] → ∀ r, H r = none → Q (.ref r) (upd H r (.tup (xs ++ zs))))) := by
  refine propext ⟨fun h => ?_, fun ⟨xs, zs, h⟩ => ?_⟩
  · rcases h with ⟨_, _, e, _⟩ | ⟨_, _, e, _⟩ | ⟨_, _, xs, zs, e1, e2, h⟩ | ⟨_, _, xs, zs, e1, e2, h⟩
    · cases e
    · cases e
    · cases e1; cases e2; exact ⟨xs, zs, .inl h⟩
    · cases e1; cases e2; exact ⟨xs, zs, .inr h⟩
  · rcases h with h | h
    · exact .inr (.inr (.inl ⟨p, q, xs, zs, rfl, rfl, h⟩))
    · exact .inr (.inr (.inr ⟨p, q, xs, zs, rfl, rfl, h⟩))
end
theorem mtR_append {X : Cx} : MtR X "list.append" rAppend := mt_append
theorem Same.upd {H0 H : Hp} {p : Addr} {o : HO} (s : Same H0 H) (h : H0 p = none) : Same H0 (upd H p o) := fun b u q => by rw [upd_ne (ne_of_none q h)]; exact s b u q
theorem keep1 {H : Hp} {p a : Addr} {o u : HO} (hn : H p = none) (h : H a = some u) : upd H p o a = some u := by rw [upd_ne (ne_of_none h hn)]; exact h
inductive Bi where | and | or | thn
  deriving DecidableEq
def Bi.txt : Bi → Str | .and => "and" | .or => "or" | .thn => "then"
def qtx : Bool → Str | true => "all" | false => "some"
inductive Stm where
  | is (w : Str) (ts : List Str) | fls | neg (A : Stm) | bi (o : Bi) (A B : Stm) | qu (q : Bool) (X : Str) (A : Stm)
  deriving DecidableEq
namespace Stm
def deep : Stm → Nat
  | .is _ _ => 1 | .fls => 1 | .neg A => A.deep + 1 | .bi _ A B => max A.deep B.deep + 1 | .qu _ _ A => A.deep + 1
def size : Stm → Nat
  | .is _ _ => 1 | .fls => 1 | .neg A => A.size + 1 | .bi _ A B => A.size + B.size + 1 | .qu _ _ A => A.size + 1
def parts : Stm → List Stm
  | .is _ _ => [] | .fls => [] | .neg A => [A] | .bi _ A B => [A, B] | .qu _ _ A => [A]
def tag : Stm → Str
  | .is _ _ => "is" | .fls => "false" | .neg _ => "not" | .bi o _ _ => o.txt | .qu q _ _ => qtx q
theorem deep_pos (S : Stm) : 1 ≤ S.deep := by cases S <;> simp [deep]
end Stm
def smallS : Str := "abcdefghijklmnopqrstuvwxyz"
def greatS : Str := "ABCDEFGHIJKLMNOPQRSTUVWXYZ"
def sofS : Str := "abcdefghijklmnopqrstuvwxyz0123456789"
def keptW : List Str := ["not", "and", "or", "then", "all", "some", "false"]
def Nm (f x : Str) : Prop := ∃ c r, x.cps.toList = c :: r ∧ c ∈ f.cps.toList ∧ (∀ d ∈ r, d ∈ sofS.cps.toList) ∧ r.length ≤ 7 ∧ x ∉ keptW
def Stm.Ok : Stm → Prop
  | .is w ts => Nm smallS w ∧ ts.length ≤ 3 ∧ ∀ t ∈ ts, Nm smallS t ∨ Nm greatS t
  | .fls => True
  | .neg A => A.Ok
  | .bi _ A B => A.Ok ∧ B.Ok
  | .qu _ X A => Nm greatS X ∧ A.Ok
theorem Nm.len {f x : Str} (h : Nm f x) : x.length ≤ 8 ∧ 1 ≤ x.length := by
  obtain ⟨c, r, e, _, _, h, _⟩ := h
  have : x.length = x.cps.toList.length := by simp [Str.length]
  rw [this, e, List.length_cons]
  omega
def RepS (K : PySem.W.Frag) (H : Hp) : Stm → V → Prop
  | .is w ts, v => ∃ a b, v = .ref a ∧ SqT K H a [.str "is", .str w, .ref b] ∧ SqT K H b (ts.map V.str)
  | .fls, v => ∃ a, v = .ref a ∧ SqT K H a [.str "false"]
  | .neg A, v => ∃ a u, v = .ref a ∧ SqT K H a [.str "not", u] ∧ RepS K H A u
  | .bi o A B, v => ∃ a u u', v = .ref a ∧ SqT K H a [.str o.txt, u, u'] ∧ RepS K H A u ∧ RepS K H B u'
  | .qu q X A, v => ∃ a u, v = .ref a ∧ SqT K H a [.str (qtx q), .str X, u] ∧ RepS K H A u
theorem RepS.same {K : PySem.W.Frag} {H H' : Hp} (e : Same H H') : ∀ {S : Stm} {v : V}, RepS K H S v → RepS K H' S v
  | .is _ _, _, ⟨a, b, h1, h2, h3⟩ => ⟨a, b, h1, e.seqT h2, e.seqT h3⟩
  | .fls, _, ⟨a, h1, h2⟩ => ⟨a, h1, e.seqT h2⟩
  | .neg _, _, ⟨a, u, h1, h2, h3⟩ => ⟨a, u, h1, e.seqT h2, RepS.same e h3⟩
  | .bi _ _ _, _, ⟨a, u, u', h1, h2, h3, h4⟩ => ⟨a, u, u', h1, e.seqT h2, RepS.same e h3, RepS.same e h4⟩
  | .qu _ _ _, _, ⟨a, u, h1, h2, h3⟩ => ⟨a, u, h1, e.seqT h2, RepS.same e h3⟩
abbrev RepL (K : PySem.W.Frag) (H : Hp) : List Stm → List V → Prop := Paired (RepS K H)
theorem RepL.get {K : PySem.W.Frag} {H : Hp} : ∀ {Ss : List Stm} {vs : List V} {i : Nat} {v : V}, RepL K H Ss vs → vs[i]? = some v → ∃ S, Ss[i]? = some S ∧ RepS K H S v
  | _, _, _, _, .nil, e => by simp at e
  | _, _, 0, _, .cons r _, e => by simp at e; subst e; exact ⟨_, rfl, r⟩
  | _, _, i + 1, x, .cons _ t, e => by
    obtain ⟨u, h1, h2⟩ := RepL.get (i := i) (v := x) t (by simpa using e)
    exact ⟨u, by simpa using h1, h2⟩
def cellI (ns : List Int) (k : Int) : Int := if k < (ns.length : Int) then ns.getD k.toNat 0 else 0
def spCell (K : PySem.W.Frag) : Sp := fun vs H Q _ => ∃ (a : Addr) (ns : List Int) (k : Int), vs = [.ref a, .int k] ∧ SqL K H a (ns.map V.int) ∧ 0 ≤ k ∧ Q (.int (cellI ns k)) H
def mixedI (ns : List Int) (k : Int) : Int :=
  let c := if 0 < ns.length then ns.getD (k % (ns.length : Int)).toNat 0 else 0
  (c + 7919 * k) * 48271 % 2147483647 * ((c + 7919 * k) * 48271 % 2147483647) % 2147483647
def spMixed (K : PySem.W.Frag) : Sp := fun vs H Q _ => ∃ (a : Addr) (ns : List Int) (k : Int), vs = [.ref a, .int k] ∧ SqL K H a (ns.map V.int) ∧ 0 ≤ k ∧ k < 100000 ∧ Q (.int (mixedI ns k)) H
def spSignBy : Sp := fun vs H Q _ => ∃ n f, vs = [.int n, .str f] ∧ 0 < f.length ∧ f.length ≤ 1000 ∧ ∀ c ∈ f.cps.toList, Q (.str ⟨#[c]⟩) H
def spNameBy : Sp := fun vs H Q _ => ∃ n f t, vs = [.int n, .str f, .int t] ∧ (f = smallS ∨ f = greatS) ∧ ∀ x H', Same H H' → Nm f x → Q (.str x) H'
def spSmallBy (K : PySem.W.Frag) : Sp := fun vs H Q _ => ∃ n b, vs = [.int n, .int b] ∧ ∀ S v H', Same H H' → RepS K H' S v → S.Ok → S.deep = 1 → S.size = 1 → Q v H'
def spWrapped (K : PySem.W.Frag) : Sp := fun vs H Q _ => ∃ v n u b A B, vs = [v, .int n, u, .int b] ∧ RepS K H A v ∧ RepS K H B u ∧ A.Ok ∧ B.Ok ∧
  ∀ S w H', Same H H' → RepS K H' S w → S.Ok → S.deep ≤ max A.deep B.deep + 1 → S.size ≤ A.size + B.size + 1 → Q w H'
def spStmtBy (K : PySem.W.Frag) : Sp := fun vs H Q _ => ∃ (a : Addr) (ns : List Int) (k m : Int), vs = [.ref a, .int k, .int m] ∧ SqL K H a (ns.map V.int) ∧ 0 ≤ k ∧ k ≤ 800 ∧ 0 ≤ m ∧ m ≤ 39 ∧
  ∀ S v H', Same H H' → RepS K H' S v → S.Ok → S.deep ≤ 40 → S.size ≤ 500 → Q v H'
def spManyBy : Sp := fun vs H Q _ => ∃ c, vs = [.int c] ∧ ∀ m, 0 ≤ m → m ≤ 39 → Q (.int m) H
theorem cps_inj {x y : Str} (h : x.cps.toList = y.cps.toList) : x = y := by
  cases x; cases y
  simpa using h
theorem cps_append' (x y : Str) : (x ++ y).cps.toList = x.cps.toList ++ y.cps.toList := by
  rw [Str.cps_append]; simp
theorem len_cps (x : Str) : x.cps.toList.length = x.length := by simp [Str.length]
theorem join_signs : ∀ cs : List Nat, (Txt.join "" (cs.map fun c => (⟨#[c]⟩ : Str))).cps.toList = cs := by
  intro cs
  show (Builtin.Str.glued "" _).cps.toList = cs
  rw [StrLaws.glued_eq_join]
  induction cs with
  | nil => rfl
  | cons c r ih =>
    cases r with
    | nil => rfl
    | cons d r =>
      show ((⟨#[c]⟩ : Str) ++ "" ++ Str.join "" _).cps.toList = _
      rw [cps_append', cps_append', ih]
      rfl
theorem range_ix (p q : Int) (a b : Nat) (hp : p = a) (hq : q = b) : sliceRange p q 1 = (List.range (b - a)).map fun k => a + k := by
  subst hp hq
  unfold sliceRange
  simp only [show (1 : Int) > 0 by decide, if_true]
  by_cases hab : a < b
  · rw [if_pos (by omega)]
    have e : (((b : Int) - a + 1 - 1) / 1).toNat = b - a := by omega
    rw [e]
    refine List.map_congr_left fun k _ => ?_
    omega
  · rw [if_neg (by omega), show b - a = 0 by omega]
    rfl
theorem slice_ix (lo hi : Option Int) (n : Nat) : Builtin.Str.strSliceIndices lo hi 1 n = (List.range (HT.sIx n n hi - HT.sIx n 0 lo)).map fun k => HT.sIx n 0 lo + k := by
  have cl : ∀ (v : Int) (d : Nat), max 0 (min (if v < 0 then v + (n : Int) else v) (n : Int)) = ((HT.sIx n d (some v) : Nat) : Int) := fun v d => by
    rw [← HT.clip_eq]; split <;> omega
  refine range_ix _ _ _ _ ?_ ?_
  · cases lo with
    | none => rfl
    | some v => exact cl v 0
  · cases hi with
    | none => rfl
    | some v => exact cl v n
theorem slice_cps (x : Str) (lo hi : Option Int) : (Txt.slice x lo hi).cps.toList = (x.cps.toList.drop (HT.sIx x.length 0 lo)).take (HT.sIx x.length x.length hi - HT.sIx x.length 0 lo) := by
  have hl := len_cps x
  have ha : HT.sIx x.length 0 lo ≤ x.length := HT.sIx_le _ 0 (Nat.zero_le _) lo
  have hb : HT.sIx x.length x.length hi ≤ x.length := HT.sIx_le _ _ (Nat.le_refl _) hi
  unfold Txt.slice
  rw [slice_ix]
  generalize HT.sIx x.length 0 lo = a at *
  generalize HT.sIx x.length x.length hi = b at *
  split
  · rename_i h
    simp at h
    have : a = 0 ∧ b = x.length ∨ x.length = 0 := by omega
    rcases this with ⟨rfl, rfl⟩ | h0
    · rw [List.drop_zero, Nat.sub_zero, List.take_of_length_le (by omega)]
    · have : x.cps.toList = [] := List.eq_nil_of_length_eq_zero (by omega)
      rw [this]; simp
  · by_cases hab : a ≤ b
    · have h := StrLaws.picks x.cps.toList (b - a) a (by rw [hl]; omega)
      rw [← h]
      simp only [List.toList_toArray]
      congr 1
      funext k
      simp
    · rw [show b - a = 0 by omega]; simp
theorem slice_to (x : Str) (n : Nat) : (Txt.slice x none (some (n : Int))).cps.toList = x.cps.toList.take n := by
  have hl := len_cps x
  rw [slice_cps, HT.sIx_nat, HT.sIx_none, List.drop_zero, Nat.sub_zero, ← hl, List.take_eq_take_iff]
  simp
theorem slice_from (x : Str) (n : Nat) : (Txt.slice x (some (n : Int)) none).cps.toList = x.cps.toList.drop n := by
  have hl := len_cps x
  rw [slice_cps, HT.sIx_nat, HT.sIx_none]
  rw [List.take_of_length_le (by rw [List.length_drop]; omega)]
  by_cases h : n ≤ x.length
  · rw [Nat.min_eq_left h]
  · rw [List.drop_eq_nil_of_le (by omega), List.drop_eq_nil_of_le (by omega)]
theorem pickC {x : Str} {i : Int} {P : Nat → Prop} (h : 0 < x.length) (k : ∀ c ∈ x.cps.toList, P c) : ∃ c, atI x.cps.toList (i % (x.length : Int)) = some c ∧ P c := by
  have e := len_cps x
  obtain ⟨c, hc', hc⟩ := atI_some (xs := x.cps.toList) (i := i % (x.length : Int)) (Int.emod_nonneg _ (by omega)) (by rw [e]; exact Int.emod_lt_of_pos _ (by omega))
  exact ⟨c, hc, k c hc'⟩
theorem cdiv {i j : Int} (h : 0 < j := by decide) (h2 : j < 1073741824 := by decide) : CDiv i j := ⟨h, h2⟩
theorem cmulL {i j : Int} (h : -(2 ^ 64) < i ∧ i < 2 ^ 64 := by decide) : CMul i j := .inl h
theorem cmulR {i j : Int} (h : -(2 ^ 64) < j ∧ j < 2 ^ 64 := by decide) : CMul i j := .inr h
theorem atI_ints {ns : List Int} {i : Int} (h0 : 0 ≤ i) (h1 : i < (ns.length : Int)) : atI (ns.map V.int) i = some (.int (ns.getD i.toNat 0)) := by
  have hk : i.toNat < ns.length := by omega
  rw [atI_getD (d := .int 0) h0 (by simpa using h1)]
  simp [hk]
theorem pickS {ts : List Str} {i : Int} (h0 : 0 ≤ i) (h1 : i < (ts.length : Int)) : ∃ z, z ∈ ts ∧ atI (ts.map V.str) i = some (.str z) := by
  have hk : i.toNat < ts.length := by omega
  refine ⟨ts[i.toNat], List.getElem_mem hk, ?_⟩
  rw [atI_getD (d := .non) h0 (by simpa using h1)]
  simp [hk]
theorem pickI {ts : List Int} {i : Int} (h0 : 0 ≤ i) (h1 : i < (ts.length : Int)) : ∃ z, z ∈ ts ∧ atI (ts.map V.int) i = some (.int z) := by
  have hk : i.toNat < ts.length := by omega
  refine ⟨ts[i.toNat], List.getElem_mem hk, ?_⟩
  rw [atI_getD (d := .non) h0 (by simpa using h1)]
  simp [hk]
theorem ixN_in {n : Nat} {i : Int} (h0 : 0 ≤ i) (h1 : i < n) : ixN n i = some i.toNat := by
  unfold ixN; rw [if_pos h0, if_pos h1]
theorem signs_len : ∀ cs : List Nat, ((cs.map fun c => (⟨#[c]⟩ : Str)).map (·.length)).sum = cs.length
  | [] => rfl
  | c :: r => by rw [List.map_cons, List.map_cons, List.sum_cons, signs_len r, List.length_cons]; show 1 + _ = _; omega
theorem inS_one (c : Nat) (x : Str) : inS ⟨#[c]⟩ x = decide (c ∈ x.cps.toList) := StrLaws.found_one x c
theorem inV_strs (x : Str) : ∀ ts : List Str, inV (.str x) (ts.map V.str) = decide (x ∈ ts)
  | [] => by simp [inV]
  | t :: ts => by
    have ih := inV_strs x ts
    unfold inV at ih ⊢
    rw [List.map_cons, List.any_cons, ih]
    have e : eqV (V.str t) (V.str x) = decide (x = t) := by
      show (t == x) = decide (x = t)
      by_cases h : x = t
      · subst h; simp
      · have h' : ¬ t = x := fun e => h e.symm
        simp [h, h']
    rw [e]
    simp
theorem flat_strs (ts : List Str) : (ts.map V.str).all flatV = true := by
  rw [List.all_map, List.all_eq_true]; intro t _; rfl
def GoodS (f : Str) (cs : List Nat) : Prop := ∃ c r, cs = c :: r ∧ c ∈ f.cps.toList ∧ (∀ d ∈ r, d ∈ sofS.cps.toList) ∧ r.length ≤ 7
theorem good_0 {f : Str} {cs : List Nat} {c0 c1 : Nat} (hl : 1 ≤ cs.length) (hl' : cs.length ≤ 8) (hcs : ∀ c ∈ cs, c ∈ sofS.cps.toList) (h1 : c1 ∈ f.cps.toList) : GoodS f ((cs.set 0 c0).set 0 c1) := by
  cases cs with
  | nil => simp at hl
  | cons d r => exact ⟨c1, r, rfl, h1, fun e he => hcs e (List.mem_cons_of_mem _ he), by simpa using hl'⟩
theorem good_n {f : Str} {cs : List Nat} {c0 c1 j : Nat} (hj : j ≠ 0) (hl : 1 ≤ cs.length) (hl' : cs.length ≤ 8) (hcs : ∀ c ∈ cs, c ∈ sofS.cps.toList) (h0 : c0 ∈ f.cps.toList) (h1 : c1 ∈ sofS.cps.toList) : GoodS f ((cs.set 0 c0).set j c1) := by
  cases cs with
  | nil => simp at hl
  | cons d r =>
    cases j with
    | zero => exact absurd rfl hj
    | succ j =>
      refine ⟨c0, r.set j c1, rfl, h0, fun e he => ?_, by simpa using hl'⟩
      rcases List.mem_or_eq_of_mem_set he with he | rfl
      · exact hcs e (List.mem_cons_of_mem _ he)
      · exact h1
theorem small_sof : ∀ c ∈ smallS.cps.toList, c ∈ sofS.cps.toList := by decide +kernel
theorem kept_small : ∀ z ∈ keptW, 1 ≤ z.length ∧ z.length ≤ 5 ∧ ∀ c ∈ z.cps.toList, c ∈ smallS.cps.toList := by decide +kernel
theorem kept_pre : ∀ z ∈ keptW, ∀ y ∈ keptW, y.cps.toList.take z.length = z.cps.toList → y = z := by decide +kernel
theorem kept_last : ∀ y ∈ keptW, y.cps.toList.getLast? ≠ some 48 := by decide +kernel
theorem nm_plain {f x : Str} {cs : List Nat} (g : GoodS f cs) (e : x.cps.toList = cs) (h : x ∉ keptW) : Nm f x := by
  obtain ⟨c, r, rfl, h1, h2, h3⟩ := g
  exact ⟨c, r, e, h1, h2, h3, h⟩
theorem nm_nought {f x y : Str} {cs : List Nat} (g : GoodS f cs) (e : x.cps.toList = cs) (h : x ∈ keptW) (ey : y = x ++ "0") : Nm f y := by
  obtain ⟨c, r, rfl, h1, h2, h3⟩ := g
  have hl := (kept_small x h).2.1
  rw [← len_cps, e, List.length_cons] at hl
  have e2 : y.cps.toList = c :: (r ++ [48]) := by
    rw [ey, cps_append', e]; rfl
  refine ⟨c, r ++ [48], e2, h1, fun d hd => ?_, by rw [List.length_append, List.length_singleton]; omega, fun hy => ?_⟩
  · rcases List.mem_append.mp hd with q | q
    · exact h2 d q
    · rw [List.mem_singleton.mp q]; decide +kernel
  · refine kept_last y hy ?_
    rw [e2, ← List.cons_append, List.getLast?_concat]
theorem nm_begun {x y z : Str} {cs : List Nat} (g : GoodS smallS cs) (e : x.cps.toList = cs) (h : z ∈ keptW) (ey : y = Txt.slice (z ++ x) none (some 8)) : Nm smallS y := by
  obtain ⟨c, r, rfl, h1, h2, h3⟩ := g
  obtain ⟨k1, k2, k3⟩ := kept_small z h
  have lz := len_cps z
  have e2 : y.cps.toList = (z.cps.toList ++ c :: r).take 8 := by
    rw [ey]
    have := slice_to (z ++ x) 8
    rw [show ((8 : Nat) : Int) = 8 from rfl] at this
    rw [this, cps_append', e]
  have e3 : y.cps.toList = z.cps.toList ++ (c :: r).take (8 - z.length) := by
    rw [e2, List.take_append, List.take_of_length_le (by omega), lz]
  obtain ⟨m, hm⟩ : ∃ m, 8 - z.length = m + 1 := ⟨7 - z.length, by omega⟩
  rw [hm, List.take_succ_cons] at e3
  cases hz : z.cps.toList with
  | nil => rw [hz] at lz; simp at lz; omega
  | cons d q =>
    rw [hz] at e3 k3 lz
    refine ⟨d, q ++ c :: r.take m, e3, k3 d List.mem_cons_self, fun b hb => ?_, ?_, fun hy => ?_⟩
    · rcases List.mem_append.mp hb with hb | hb
      · exact small_sof b (k3 b (List.mem_cons_of_mem _ hb))
      · rcases List.mem_cons.mp hb with rfl | hb
        · exact small_sof b h1
        · exact h2 b (List.mem_of_mem_take hb)
    · rw [List.length_append, List.length_cons, List.length_take]
      simp at lz
      omega
    · have q1 := kept_pre z h y hy (by rw [e3, hz, ← lz]; simp)
      have q2 := congrArg List.length e3
      rw [q1, hz] at q2
      simp at q2
theorem part_deep {S A : Stm} {i : Nat} (h : S.parts[i]? = some A) : A.deep < S.deep := by
  have m := List.mem_of_getElem? h
  cases S with
  | is w ts => simp [Stm.parts] at m
  | fls => simp [Stm.parts] at m
  | neg B => simp [Stm.parts] at m; subst m; simp [Stm.deep]
  | bi o B C => simp [Stm.parts] at m; rcases m with rfl | rfl <;> simp only [Stm.deep] <;> omega
  | qu q X B => simp [Stm.parts] at m; subst m; simp [Stm.deep]
def spPartsL (K : PySem.W.Frag) : Sp := fun vs H Q _ => ∃ v S, vs = [v] ∧ RepS K H S v ∧ ∀ p us H', Same H H' → H' p = some (.lst us) → RepL K H' S.parts us → Q (.ref p) H'
theorem bi_is (o : Bi) : ¬ o.txt = "is" := by cases o <;> decide +kernel
theorem bi_false (o : Bi) : ¬ o.txt = "false" := by cases o <;> decide +kernel
theorem bi_not (o : Bi) : ¬ o.txt = "not" := by cases o <;> decide +kernel
theorem bi_all (o : Bi) : ¬ o.txt = "all" := by cases o <;> decide +kernel
theorem bi_some (o : Bi) : ¬ o.txt = "some" := by cases o <;> decide +kernel
theorem qu_is (q : Bool) : ¬ qtx q = "is" := by cases q <;> decide +kernel
theorem qu_false (q : Bool) : ¬ qtx q = "false" := by cases q <;> decide +kernel
theorem qu_not (q : Bool) : ¬ qtx q = "not" := by cases q <;> decide +kernel
end L2
set_option Elab.async false
set_option linter.all false
set_option maxRecDepth 100000
set_option maxHeartbeats 4000000
namespace L2
open PySem PySem.Spec PyProof.Rows
section
variable {X : Cx} {K : PySem.W.Frag} {H : Hp} {Q : VK} {p q : Addr}
def rJoinA (K : PySem.W.Frag) : V → List V → Hp → VK → Prop := fun x vs H Q => ∃ (sep : Str) (p : Addr) (ys : List Str), x = .str sep ∧ vs = [.ref p] ∧ (SqL K H p (ys.map V.str) ∨ SqT K H p (ys.map V.str)) ∧ (ys.map (·.length)).sum + ys.length * sep.length ≤ 16777216 ∧ Q (.str (Txt.join sep ys)) H
theorem mt_joinA : MtR X "str.join" (rJoinA X.K) := by
  intro pins s σ H x vs v us Q I rx rv h
  obtain ⟨sep, p, ys, rfl, rfl, hq, hz, q⟩ := h
  rcases hq with hq | hq
  · exact mt_join pins s σ H _ _ v us Q I rx rv ⟨sep, p, ys, rfl, rfl, hq, hz, q⟩
  · obtain ⟨t, rfl⟩ := rx
    obtain ⟨u, rfl, ru⟩ := vals1 rv
    cases ru
    obtain ⟨its, r', pl, _⟩ := I.tuple hq
    exact join_tuple pl (by simpa using strsAre_of r') hz fun t' k => ⟨.str _, H, I.tok _, ⟨t', rfl⟩, q⟩
theorem mtB_join (K : PySem.W.Frag) (hK : X.K = K := by rfl) : MtR X "str.join" (rJoinA K) := hK ▸ (mt_joinA : MtR X "str.join" (rJoinA X.K))
theorem w_joinA {sep : Str} : rJoinA K (.str sep) [.ref p] H Q = ∃ ys : List Str, (SqL K H p (ys.map V.str) ∨ SqT K H p (ys.map V.str)) ∧ (ys.map (·.length)).sum + ys.length * sep.length ≤ 16777216 ∧ Q (.str (Txt.join sep ys)) H := by
  refine propext ⟨fun ⟨_, _, ys, e1, e2, h⟩ => ?_, fun ⟨ys, h⟩ => ⟨sep, p, ys, rfl, rfl, h⟩⟩
  cases e1; cases e2; exact ⟨ys, h⟩
end
inductive EqD (K : PySem.W.Frag) (H : Hp) : Nat → V → V → Bool → Prop
  | flat {n : Nat} {x y : V} (hx : flatV x = true) (hy : flatV y = true) : EqD K H n x y (eqV x y)
  | tups {n : Nat} {a b : Addr} {xs ys : List V} (e : Nat → Bool) (ha : SqT K H a xs) (hb : SqT K H b ys) (he : ∀ (j : Nat) x y, xs[j]? = some x → ys[j]? = some y → EqD K H n x y (e j)) :
      EqD K H (n + 1) (.ref a) (.ref b) ((List.range (min xs.length ys.length)).all e && xs.length == ys.length)
  | lsts {n : Nat} {a b : Addr} {xs ys : List V} (e : Nat → Bool) (ha : SqL K H a xs) (hb : SqL K H b ys) (hl : xs.length = ys.length) (he : ∀ (j : Nat) x y, xs[j]? = some x → ys[j]? = some y → EqD K H n x y (e j)) :
      EqD K H (n + 1) (.ref a) (.ref b) ((List.range xs.length).all e)
  | lstsN {n : Nat} {a b : Addr} {xs ys : List V} (ha : SqL K H a xs) (hb : SqL K H b ys) (hl : xs.length ≠ ys.length) : EqD K H (n + 1) (.ref a) (.ref b) false
  | strTup {n : Nat} {a : Addr} {x : Str} {xs : List V} (ha : SqT K H a xs) : EqD K H (n + 1) (.str x) (.ref a) false
  | tupStr {n : Nat} {a : Addr} {x : Str} {xs : List V} (ha : SqT K H a xs) : EqD K H (n + 1) (.ref a) (.str x) false
  | nonTup {n : Nat} {a : Addr} {xs : List V} (ha : SqT K H a xs) : EqD K H (n + 1) .non (.ref a) false
  | tupNon {n : Nat} {a : Addr} {xs : List V} (ha : SqT K H a xs) : EqD K H (n + 1) (.ref a) .non false
section
variable {X : Cx} {pins : List (Addr × Obj)} {σ : St} {H : Hp} {s : Shared}
theorem eqV_self {x : V} (h : flatV x = true) : eqV x x = true := by
  cases x <;> simp_all [flatV, eqV]
theorem EqD.self (I : Inv X pins σ H s) {n : Nat} {x y : V} {b : Bool} (h : EqD X.K H n x y b) : x = y → b = true := by
  induction h with
  | flat hx hy => rintro rfl; exact eqV_self hx
  | @tups n a b xs ys e ha hb he ih =>
    intro q
    cases q
    have := I.tuple_inj ha hb
    subst this
    rw [Bool.and_eq_true]
    refine ⟨List.all_eq_true.mpr fun j hj => ?_, by simp⟩
    have hj' : j < xs.length := by simpa using hj
    exact ih j xs[j] xs[j] (by simp [hj']) (by simp [hj']) rfl
  | @lsts n a b xs ys e ha hb hl he ih =>
    intro q
    cases q
    have := I.list_inj ha hb
    subst this
    refine List.all_eq_true.mpr fun j hj => ?_
    have hj' : j < xs.length := by simpa using hj
    exact ih j xs[j] xs[j] (by simp [hj']) (by simp [hj']) rfl
  | lstsN ha hb hl =>
    intro q
    cases q
    exact absurd (congrArg List.length (I.list_inj ha hb)) hl
  | strTup => intro q; cases q
  | tupStr => intro q; cases q
  | nonTup => intro q; cases q
  | tupNon => intro q; cases q
theorem getD_some {xs : List V} {its : List Value} (r : Vals xs its) {j : Nat} (h : j < its.toArray.size) : ∃ x, xs[j]? = some x ∧ RelV x its.toArray[j] := by
  have h' : j < its.length := by simpa using h
  have hx : j < xs.length := by rw [r.length]; exact h'
  obtain ⟨u, e, ru⟩ := r.get (i := j) (x := xs[j]) (by simp [hx])
  have : its[j]? = some its[j] := by simp [h']
  rw [this] at e
  cases e
  exact ⟨xs[j], by simp [hx], by simpa using ru⟩
theorem EqD.at (I : Inv X pins σ H s) {n : Nat} {x y : V} {b : Bool} (h : EqD X.K H n x y b) : ∀ {A : Around} {u v : Value}, A.units + n < cLine → RelV x u → RelV y v →
    SeqAt.EqAt A s u v b ∧ ((flatV x = false ∨ flatV y = false) → SeqAt.RcAt A s u v b) := by
  induction h with
  | flat hx hy =>
    intro A u v _ ru rv
    exact ⟨eqAt_V ru rv hx hy, fun e => by rw [hx, hy] at e; simp at e⟩
  | @tups n a b xs ys e ha hb he ih =>
    intro A u v hu ru rv
    cases ru; cases rv
    obtain ⟨its, r1, p1, _⟩ := I.tuple ha
    obtain ⟨its2, r2, p2, _⟩ := I.tuple hb
    have l1 : its.toArray.size = xs.length := by rw [List.size_toArray]; exact r1.length.symm
    have l2 : its2.toArray.size = ys.length := by rw [List.size_toArray]; exact r2.length.symm
    have rc : SeqAt.RcAt A s (.ref a) (.ref b) ((List.range (min xs.length ys.length)).all e && xs.length == ys.length) := by
      have := SeqAt.RcAt.tuples (A := A) (e := e) p1 p2 (by omega) (fun j h1 h2 => by
        obtain ⟨x, ex, rx⟩ := getD_some r1 h1
        obtain ⟨y, ey, ry⟩ := getD_some r2 h2
        exact (ih j x y ex ey (A := A.in1) (by show A.units + 1 + n < cLine; omega) rx ry).1)
      rw [l1, l2] at this
      exact this
    refine ⟨?_, fun _ => rc⟩
    by_cases hab : a = b
    · subst hab
      have := EqD.self I (.tups e ha hb he) rfl
      rw [this]
      exact SeqAt.EqAt.same _
    · exact SeqAt.EqAt.of_refs hab rc
  | @lsts n a b xs ys e ha hb hl he ih =>
    intro A u v hu ru rv
    cases ru; cases rv
    obtain ⟨its, r1, p1, _⟩ := I.list ha
    obtain ⟨its2, r2, p2, _⟩ := I.list hb
    have l1 : its.toArray.size = xs.length := by rw [List.size_toArray]; exact r1.length.symm
    have l2 : its2.toArray.size = ys.length := by rw [List.size_toArray]; exact r2.length.symm
    have rc : SeqAt.RcAt A s (.ref a) (.ref b) ((List.range xs.length).all e) := by
      have := SeqAt.RcAt.lists (A := A) (e := e) p1.isList p2.isList (by omega) (by omega) (fun j h1 h2 => by
        obtain ⟨x, ex, rx⟩ := getD_some r1 h1
        obtain ⟨y, ey, ry⟩ := getD_some r2 h2
        exact (ih j x y ex ey (A := A.in1) (by show A.units + 1 + n < cLine; omega) rx ry).1)
      rw [l1] at this
      exact this
    refine ⟨?_, fun _ => rc⟩
    by_cases hab : a = b
    · subst hab
      have := EqD.self I (.lsts e ha hb hl he) rfl
      rw [this]
      exact SeqAt.EqAt.same _
    · exact SeqAt.EqAt.of_refs hab rc
  | @lstsN n a b xs ys ha hb hl =>
    intro A u v hu ru rv
    cases ru; cases rv
    obtain ⟨its, r1, p1, _⟩ := I.list ha
    obtain ⟨its2, r2, p2, _⟩ := I.list hb
    have l1 : its.toArray.size = xs.length := by rw [List.size_toArray]; exact r1.length.symm
    have l2 : its2.toArray.size = ys.length := by rw [List.size_toArray]; exact r2.length.symm
    have rc := SeqAt.RcAt.lists_lengths (A := A) p1.isList p2.isList (by rw [l1, l2]; simpa using hl) (by omega)
    refine ⟨?_, fun _ => rc⟩
    by_cases hab : a = b
    · subst hab
      exact absurd (congrArg List.length (I.list_inj ha hb)) hl
    · exact SeqAt.EqAt.of_refs hab rc
  | strTup ha =>
    intro A u v hu ru rv
    cases rv; obtain ⟨t, rfl⟩ := ru
    obtain ⟨its, r1, p1, _⟩ := I.tuple ha
    exact ⟨SeqAt.EqAt.str_tuple _ _ p1 (by omega), fun _ => SeqAt.RcAt.str_tuple _ _ p1 (by omega)⟩
  | tupStr ha =>
    intro A u v hu ru rv
    cases ru; obtain ⟨t, rfl⟩ := rv
    obtain ⟨its, r1, p1, _⟩ := I.tuple ha
    exact ⟨SeqAt.EqAt.tuple_str _ _ p1 (by omega), fun _ => SeqAt.RcAt.tuple_str _ _ p1 (by omega)⟩
  | nonTup ha =>
    intro A u v hu ru rv
    cases rv; cases ru
    obtain ⟨its, r1, p1, _⟩ := I.tuple ha
    exact ⟨SeqAt.EqAt.none_tuple p1 (by omega), fun _ => SeqAt.RcAt.none_tuple p1 (by omega)⟩
  | tupNon ha =>
    intro A u v hu ru rv
    cases ru; cases rv
    obtain ⟨its, r1, p1, _⟩ := I.tuple ha
    exact ⟨SeqAt.EqAt.tuple_none p1 (by omega), fun _ => SeqAt.RcAt.tuple_none p1 (by omega)⟩
end
section
variable {X : Cx} {K : PySem.W.Frag} {H : Hp} {Q : VK} {p q : Addr} {i j : Int} {x y : Str}
def rEqD (K : PySem.W.Frag) : R2 := fun x y H Q => ∃ d b, d ≤ 60 ∧ (flatV x = false ∨ flatV y = false) ∧ EqD K H d x y b ∧ Q (.bl b) H
theorem op_eqD (hu : X.A.units + 64 < cLine) : OpR X (compareOp .Eq) (rEqD X.K) := by
  intro pins s σ H x y v u Q I rx ry h
  obtain ⟨d, b, hd, e, h, k⟩ := h
  exact (h.at I (A := X.A) (by omega) rx ry).2 e X.prog X.w X.xe _ ⟨.bl b, H, I, rfl, k⟩
def rEqB (K : PySem.W.Frag) : R2 := fun x y H Q => rEq x y H Q ∨ rEqD K x y H Q
theorem opB_eq (K : PySem.W.Frag) (hu : X.A.units + 64 < cLine) (hK : X.K = K := by rfl) : OpR X (compareOp .Eq) (rEqB K) := hK ▸ (OpR.or op_eq (op_eqD hu) : OpR X (compareOp .Eq) (rEqB X.K))
theorem w_eqIB : rEqB K (.int i) (.int j) H Q = Q (.bl (decide (i = j))) H := by
  refine propext ⟨fun h => ?_, fun h => .inl ⟨rfl, by simpa using h⟩⟩
  rcases h with ⟨_, h⟩ | ⟨_, _, _, e, _⟩
  · simpa using h
  · rcases e with e | e <;> cases e
theorem w_eqSB : rEqB K (.str x) (.str y) H Q = Q (.bl (decide (x = y))) H := by
  refine propext ⟨fun h => ?_, fun h => .inl ⟨rfl, by simpa using h⟩⟩
  rcases h with ⟨_, h⟩ | ⟨_, _, _, e, _⟩
  · simpa using h
  · rcases e with e | e <;> cases e
theorem w_eqR_ {u : V} : rEqB K (.ref p) u H Q = ∃ d b, d ≤ 60 ∧ EqD K H d (.ref p) u b ∧ Q (.bl b) H := by
  refine propext ⟨fun h => ?_, fun ⟨d, b, hd, h, k⟩ => .inr ⟨d, b, hd, .inl rfl, h, k⟩⟩
  rcases h with ⟨e, _⟩ | ⟨d, b, hd, _, h, k⟩
  · cases u <;> cases e
  · exact ⟨d, b, hd, h, k⟩
theorem w_eq_R {u : V} : rEqB K u (.ref p) H Q = ∃ d b, d ≤ 60 ∧ EqD K H d u (.ref p) b ∧ Q (.bl b) H := by
  refine propext ⟨fun h => ?_, fun ⟨d, b, hd, h, k⟩ => .inr ⟨d, b, hd, .inr rfl, h, k⟩⟩
  rcases h with ⟨e, _⟩ | ⟨d, b, hd, _, h, k⟩
  · cases u <;> cases e
  · exact ⟨d, b, hd, h, k⟩
inductive TyB (K : PySem.W.Frag) (H : Hp) : V → Value → Prop where
  | of {x : V} {t : Value} (h : TyOf K H x t) : TyB K H x t
  | tup {a : Addr} {xs : List V} (h : SqT K H a xs) : TyB K H (.ref a) (.type "tuple")
  | lst {a : Addr} {xs : List V} (h : SqL K H a xs) : TyB K H (.ref a) (.type "list")
def rInstB (K : PySem.W.Frag) (T : String) : List V → Hp → VK → Prop := fun vs H Q => ∃ x t b, vs = [x, .ty T] ∧ TyB K H x t ∧ PySem.W.kitOne K t (.type T) = some b ∧ Q (.bl b) H
theorem call_instB {T : String} : CallR X (.builtin "isinstance") (rInstB X.K T) := by
  intro pins s σ H xs us Q I r h
  obtain ⟨x, t, b, rfl, ty, e, q⟩ := h
  cases ty with
  | of ty => exact call_inst pins s σ H _ us Q I r ⟨x, t, b, rfl, ty, e, q⟩
  | tup hq =>
    obtain ⟨u, u2, rfl, rx, r2⟩ := vals2 r
    cases (show u2 = Value.type T from r2)
    cases rx
    obtain ⟨its, _, ⟨o, h1, h2, _⟩, _⟩ := I.tuple hq
    exact PySem.W.kia_one PySem.W.kitx_tuple I.kIn ⟨o, h1, h2⟩ e (fun z => nomatch z) fun tk => ⟨.bl b, H, I.tok tk, rfl, q⟩
  | lst hq =>
    obtain ⟨u, u2, rfl, rx, r2⟩ := vals2 r
    cases (show u2 = Value.type T from r2)
    cases rx
    obtain ⟨its, _, pl, _⟩ := I.list hq
    obtain ⟨o, h1, h2, _⟩ := pl.isList
    exact PySem.W.kia_one PySem.W.kitx_list I.kIn ⟨o, h1, h2⟩ e (fun z => nomatch z) fun tk => ⟨.bl b, H, I.tok tk, rfl, q⟩
theorem callB_inst (K : PySem.W.Frag) (T : String) (hK : X.K = K := by rfl) : CallR X (.builtin "isinstance") (rInstB K T) := hK ▸ (call_instB : CallR X (.builtin "isinstance") (rInstB X.K T))
theorem w_instIntB {T : String} : rInstB K T [.int i, .ty T] H Q = ∃ b, PySem.W.kitOne K (.type "int") (.type T) = some b ∧ Q (.bl b) H := by
  refine propext ⟨fun ⟨_, _, b, e, t, h⟩ => ?_, fun ⟨b, h⟩ => ⟨_, _, b, rfl, .of (.int i), h⟩⟩
  cases e
  rcases t with t | t | t
  cases t; exact ⟨b, h⟩
theorem w_instStrB {T : String} : rInstB K T [.str x, .ty T] H Q = ∃ b, PySem.W.kitOne K (.type "str") (.type T) = some b ∧ Q (.bl b) H := by
  refine propext ⟨fun ⟨_, _, b, e, t, h⟩ => ?_, fun ⟨b, h⟩ => ⟨_, _, b, rfl, .of (.str x), h⟩⟩
  cases e
  rcases t with t | t | t
  cases t; exact ⟨b, h⟩
theorem w_instRB {T : String} : rInstB K T [.ref p, .ty T] H Q = ∃ t b, TyB K H (.ref p) t ∧ PySem.W.kitOne K t (.type T) = some b ∧ Q (.bl b) H := by
  refine propext ⟨fun ⟨_, t, b, e, ty, h⟩ => ?_, fun ⟨t, b, ty, h⟩ => ⟨_, t, b, rfl, ty, h⟩⟩
  cases e; exact ⟨t, b, ty, h⟩
end
def Stm.txt : Stm → Str
  | .is w ts => if ts.length = 0 then w else w ++ "(" ++ Txt.join ", " ts ++ ")"
  | .fls => "false"
  | .neg A => "not " ++ A.txt
  | .bi o A B => "(" ++ A.txt ++ " " ++ o.txt ++ " " ++ B.txt ++ ")"
  | .qu q X A => qtx q ++ " " ++ X ++ " " ++ A.txt
theorem terms_sum : ∀ {ts : List Str}, (∀ t ∈ ts, t.length ≤ 8) → (ts.map (·.length)).sum ≤ 8 * ts.length
  | [], _ => by simp
  | t :: ts, h => by
    have h1 := h t List.mem_cons_self
    have h2 := terms_sum fun x hx => h x (List.mem_cons_of_mem _ hx)
    rw [List.map_cons, List.sum_cons, List.length_cons]
    omega
theorem join_len (sep : Str) (ts : List Str) : (Txt.join sep ts).length ≤ (ts.map (·.length)).sum + ts.length * sep.length := by
  have h := StrLaws.join_length_le sep ts
  rw [← StrLaws.glued_eq_join] at h
  exact h
theorem Stm.Ok.term8 {w : Str} {ts : List Str} (h : (Stm.is w ts).Ok) : ∀ t ∈ ts, t.length ≤ 8 := fun t ht => (h.2.2 t ht).elim (fun q => q.len.1) fun q => q.len.1
theorem bi_len (o : Bi) : o.txt.length ≤ 4 := by cases o <;> decide +kernel
theorem qu_len (q : Bool) : (qtx q).length ≤ 4 := by cases q <;> decide +kernel
theorem l1 : ("(" : Str).length = 1 := by decide +kernel
theorem l2 : (")" : Str).length = 1 := by decide +kernel
theorem l3 : (" " : Str).length = 1 := by decide +kernel
theorem l4 : (", " : Str).length = 2 := by decide +kernel
theorem l5 : ("not " : Str).length = 4 := by decide +kernel
theorem l6 : ("false" : Str).length = 5 := by decide +kernel
theorem Stm.txt_len : ∀ {S : Stm}, S.Ok → S.txt.length ≤ 40 * S.size
  | .is w ts, h => by
    have hw := h.1.len.1
    have hs := terms_sum h.term8
    have hj := join_len ", " ts
    have h3 := h.2.1
    rw [l4] at hj
    simp only [Stm.txt, Stm.size]
    split
    · omega
    · simp only [Str.length_append, l1, l2]; omega
  | .fls, _ => by simp only [Stm.txt, Stm.size, l6]; decide
  | .neg A, h => by
    have := Stm.txt_len (S := A) h
    simp only [Stm.txt, Stm.size, Str.length_append, l5]; omega
  | .bi o A B, h => by
    have h1 := Stm.txt_len (S := A) h.1
    have h2 := Stm.txt_len (S := B) h.2
    have h3 := bi_len o
    simp only [Stm.txt, Stm.size, Str.length_append, l1, l2, l3]; omega
  | .qu q X A, h => by
    have h1 := Stm.txt_len (S := A) h.2
    have h2 := h.1.len.1
    have h3 := qu_len q
    simp only [Stm.txt, Stm.size, Str.length_append, l3]; omega
def spOfC (K : PySem.W.Frag) (C : Stm → Prop) (f : Stm → V) (d : Nat) : Sp := fun vs H Q _ => ∃ v S, vs = [v] ∧ RepS K H S v ∧ C S ∧ S.deep ≤ d ∧ ∀ H', Same H H' → Q (f S) H'
end L2
set_option Elab.async false
set_option linter.all false
set_option maxRecDepth 100000
set_option maxHeartbeats 4000000
namespace L2
open PySem PySem.Spec PyProof.Rows
open PySem.Builtin PySem.Builtin.Str
section
variable {X : Cx}
def rIs (f : Str → Bool) : V → List V → Hp → VK → Prop := fun x vs H Q => ∃ z, x = .str z ∧ vs = [] ∧ Q (.bl (f z)) H
theorem mt_is {id : String} {f : Str → Bool} (h : ∀ {x : Str} {t : Tok} {Q : Value → Shared → Prop} {s : Shared}, Q (.bool (f x)) s → wpAny (model X.prog X.w) X.A (call (.builtin id) [.str x t]) Q X.xe s) : MtR X id (rIs f) := by
  intro pins s σ H x vs v us Q I rx rv ⟨z, e1, e2, q⟩
  subst e1 e2
  obtain ⟨t, rfl⟩ := (show ∃ t, v = Value.str z t from rx)
  cases rv
  exact h ⟨.bl _, H, I, rfl, q⟩
theorem mt_isalnum : MtR X "str.isalnum" (rIs Txt.isalnum) := mt_is fun h => SC.isalnum h
def rIs2 (f : Str → Str → Bool) : V → List V → Hp → VK → Prop := fun x vs H Q => ∃ z y, x = .str z ∧ vs = [.str y] ∧ Q (.bl (f z y)) H
def rStrip : V → List V → Hp → VK → Prop := fun x vs H Q => ∃ z, x = .str z ∧ vs = [] ∧ z.length ≤ sizeLine ∧ Q (.str (Txt.strip z)) H
theorem valsSp : ∀ (l : List (Str × Tok)), Vals ((l.map (·.1)).map V.str) (strValues l)
  | [] => .nil
  | (x, t) :: r => .cons ⟨t, rfl⟩ (valsSp r)
theorem split1x {prog : Program} {w : World} {A : Around} {E : Value → Shared → Prop} {s : Shared} {x y : Str} {t u : Tok} {Q : Value → Shared → Prop} (hy : (y.length == 0) = false)
    (hq : ∀ (its : List Value) tk, Vals ((Txt.split x y).map V.str) its → Q (.ref s.heap.objs.size) { s with heap := s.heap.push { cls := .type "list", data := .seq its.toArray }, toks := tk })
    (hsz : x.length ≤ sizeLine) (hsz2 : (partsBetween x (occurrences x y 0 x.length (x.length + 1)) y.length).length ≤ sizeLine) :
    wpAny (model prog w) A (call (.builtin "str.split") [.str x t, .str y u]) Q E s := by
  cases h1 : (decide (x.length < y.length) || decide (strKind x < strKind y))
  · cases hf : (occurrences x y 0 x.length (x.length + 1)).isEmpty
    · refine call_meets F.slot_str_split (typeIs_str _ _ _) F.entry_str_split (F.args_str_split_2 _ _) (meets_str_split_sep x y t u h1 hy hf hsz hsz2) ?_
      show wants Q E _ { s with toks := _, heap := s.heap.push { cls := .type "list", data := .seq (strsFrom s.toks (partsBetween x (occurrences x y 0 x.length (x.length + 1)) y.length)).toArray } }
      rw [strsFrom_eq]
      refine hq _ _ ?_
      have e : (numbered s.toks (partsBetween x (occurrences x y 0 x.length (x.length + 1)) y.length)).map (·.1) = Txt.split x y := (numbered_texts _ _).trans ((if_neg (ne_true_of_eq_false h1)).trans (if_neg (ne_true_of_eq_false hf))).symm
      rw [← e]
      exact valsSp _
    · refine call_meets F.slot_str_split (typeIs_str _ _ _) F.entry_str_split (F.args_str_split_2 _ _) (meets_str_split_not_found x y t u h1 hy hf) ?_
      have e : [x] = Txt.split x y := ((if_neg (ne_true_of_eq_false h1)).trans (if_pos hf)).symm
      refine hq [.str x t] s.toks ?_
      rw [← e]
      exact .cons ⟨t, rfl⟩ .nil
  · refine call_meets F.slot_str_split (typeIs_str _ _ _) F.entry_str_split (F.args_str_split_2 _ _) (meets_str_split_cannot_occur x y t u h1) ?_
    have e : [x] = Txt.split x y := (if_pos h1).symm
    refine hq [.str x t] s.toks ?_
    rw [← e]
    exact .cons ⟨t, rfl⟩ .nil
def rSplit : V → List V → Hp → VK → Prop := fun x vs H Q => ∃ z y, x = .str z ∧ vs = [.str y] ∧ y ≠ Str.empty ∧ z.length ≤ 1000000 ∧ ∀ p, H p = none → Q (.ref p) (upd H p (.lst ((Txt.split z y).map V.str)))
theorem split_len (x y : Str) : (Txt.split x y).length ≤ x.length + 2 := by
  unfold Txt.split
  split
  · simp
  · split
    · simp
    · rw [length_partsBetween]
      have := StrLaws.occ_length_le x y 0 x.length (x.length + 1)
      omega
theorem mt_split : MtR X "str.split" rSplit := by
  intro pins s σ H x vs v us Q I rx rv ⟨z, y, e1, e2, hy, hz, q⟩
  subst e1 e2
  obtain ⟨t, rfl⟩ := (show ∃ t, v = Value.str z t from rx)
  obtain ⟨u, rfl, ru⟩ := vals1 rv
  obtain ⟨t', rfl⟩ := (show ∃ t, u = Value.str y t from ru)
  have hy' : (y.length == 0) = false := by
    cases e : (y.length == 0) with
    | false => rfl
    | true =>
      have h0 : y.length = 0 := by simpa using e
      have : y.cps.size = 0 := h0
      have : y.cps = #[] := Array.eq_empty_of_size_eq_zero this
      obtain ⟨c⟩ := y
      simp only at this
      subst this
      exact absurd rfl hy
  refine split1x hy' (fun its tk hv => ⟨.ref _, _, I.lnew hv (by rw [List.length_map]; have := split_len z y; rw [sizeLine_eq]; omega), rfl, q _ I.fresh⟩) (by rw [sizeLine_eq]; omega) ?_
  rw [length_partsBetween]
  have := StrLaws.occ_length_le z y 0 z.length (z.length + 1)
  rw [sizeLine_eq]
  omega
def timesS (z : Str) (n : Nat) : Str := ⟨(List.replicate n z.cps).foldl (· ++ ·) #[]⟩
theorem timesS_0 (z : Str) : timesS z 0 = Str.empty := rfl
theorem timesS_1 (z : Str) : timesS z 1 = z := by
  unfold timesS
  simp
theorem fold_empty (n : Nat) : (List.replicate n (#[] : Array Nat)).foldl (· ++ ·) #[] = #[] := by
  induction n with
  | zero => rfl
  | succ n ih => rw [List.replicate_succ, List.foldl_cons]; simpa using ih
theorem foldl_size : ∀ (l : List (Array Nat)) (acc : Array Nat), (l.foldl (· ++ ·) acc).size = acc.size + (l.map Array.size).sum
  | [], acc => by simp
  | a :: l, acc => by rw [List.foldl_cons, foldl_size l]; simp; omega
theorem timesS_len (z : Str) (n : Nat) : (timesS z n).length = n * z.length := by
  show ((List.replicate n z.cps).foldl (· ++ ·) #[]).size = n * z.cps.size
  rw [foldl_size]
  simp
def rMulS : R2 := fun x y H Q => ∃ z n, x = .str z ∧ y = .int n ∧ n < 1000 ∧ -1000 < n ∧ z.length ≤ 1000 ∧ Q (.str (timesS z n.toNat)) H
theorem op_mulS : OpR X (binaryOp .Mult) rMulS := by
  intro pins s σ H x y v u Q I rx ry ⟨z, n, e1, e2, h1, h2, hz, q⟩
  subst e1 e2
  obtain ⟨t, rfl⟩ := (show ∃ t, v = Value.str z t from rx)
  obtain ⟨t', rfl⟩ := (show ∃ t, u = Value.int n t from ry)
  have hm : z.length * n.toNat ≤ 1000000 := Nat.le_trans (Nat.mul_le_mul hz (show n.toNat ≤ 1000 by omega)) (by decide)
  refine PySem.P.mul_str (by rw [decide_eq_false (by omega), decide_eq_false (by omega)]; rfl) (fun hn _ => ?_) (fun _ _ => ?_) ?_
  · intro hgt
    have : (1000 : Int) ≤ (2 ^ 63 - 1) / n := Int.le_ediv_of_mul_le (by omega) (by omega)
    omega
  · unfold tooLong sizeLine
    exact decide_eq_false (by omega)
  · by_cases hn : n < 1
    · rw [if_pos hn]
      have e : n.toNat = 0 := by omega
      rw [e, timesS_0] at q
      exact ⟨by decide, .str _, H, I.tok _, ⟨_, rfl⟩, q⟩
    · rw [if_neg hn]
      by_cases h3 : (n == 1 || z.length == 0) = true
      · rw [if_pos h3]
        have e : timesS z n.toNat = z := by
          rcases Bool.or_eq_true_iff.mp h3 with e | e
          · have : n = 1 := by simpa using e
            subst this
            exact timesS_1 z
          · have h0 : z.length = 0 := by simpa using e
            have : z.cps = #[] := Array.eq_empty_of_size_eq_zero h0
            obtain ⟨c⟩ := z
            simp only at this
            subst this
            unfold timesS
            rw [fold_empty]
        rw [e] at q
        exact ⟨.str _, H, I, ⟨_, rfl⟩, q⟩
      · rw [if_neg h3]
        refine ⟨?_, .str _, H, I.tok _, ⟨_, rfl⟩, q⟩
        have := timesS_len z n.toNat
        show (timesS z n.toNat).length ≤ sizeLine
        rw [this, sizeLine_eq, Nat.mul_comm]
        omega
end
section
variable {K : PySem.W.Frag} {H : Hp} {Q : VK} {x y : Str} {f : Str → Bool} {g : Str → Str → Bool}
theorem w_mulS {n : Int} : rMulS (.str x) (.int n) H Q = (n < 1000 ∧ -1000 < n ∧ x.length ≤ 1000 ∧ Q (.str (timesS x n.toNat)) H) := propext ⟨fun ⟨_, _, e, e', h⟩ => by cases e; cases e'; exact h, fun h => ⟨x, n, rfl, rfl, h⟩⟩
theorem w_is : rIs f (.str x) [] H Q = Q (.bl (f x)) H := propext ⟨fun ⟨_, e, _, h⟩ => by cases e; exact h, fun h => ⟨x, rfl, rfl, h⟩⟩
theorem w_is2 : rIs2 g (.str x) [.str y] H Q = Q (.bl (g x y)) H := propext ⟨fun ⟨_, _, e, e', h⟩ => by cases e; cases e'; exact h, fun h => ⟨x, y, rfl, rfl, h⟩⟩
theorem w_strip : rStrip (.str x) [] H Q = (x.length ≤ sizeLine ∧ Q (.str (Txt.strip x)) H) := propext ⟨fun ⟨_, e, _, h⟩ => by cases e; exact h, fun h => ⟨x, rfl, rfl, h⟩⟩
theorem w_split : rSplit (.str x) [.str y] H Q = (y ≠ Str.empty ∧ x.length ≤ 1000000 ∧ ∀ p, H p = none → Q (.ref p) (upd H p (.lst ((Txt.split x y).map V.str)))) := propext ⟨fun ⟨_, _, e, e', h⟩ => by cases e; cases e'; exact h, fun h => ⟨x, y, rfl, rfl, h⟩⟩
end
end L2
namespace L2
open PySem PySem.Spec PyProof.Rows
section
variable {X : Cx} {o : Expr} {name : Str} {to : TE} {T iid : String} {r : V → List V → Hp → VK → Prop} {apos cpos : Pos}
theorem pe_bmA0 (K : PySem.W.Frag) (pa : PlainAttrs T) (slot : Slot T name iid) (hty : typeOf (.builtin iid) = pure (.type "method_descriptor")) (hm : MtR X iid r) (ho : PE X o to) (hK : X.K = K := by rfl)
    (hbase : attributeBase o name X.env (eval o X.env) = eval o X.env := by rfl) (hline : (apos.endLine == cpos.line) = true := by rfl) : PE X (.Call (.Attribute o name apos) [] [] cpos) (tBM0 K T r to) := hK ▸ pe_bm0 pa slot hty hm ho hbase hline
theorem w_BM0 {K : PySem.W.Frag} {σ : St} {H : Hp} {Q : VK} : tBM0 K T r to σ H Q = to σ H fun x H1 => tyV K T x H1 ∧ r x [] H1 Q := rfl
end
end L2
set_option Elab.async false
set_option linter.all false
set_option maxRecDepth 100000
set_option maxHeartbeats 4000000
namespace L2
open PySem PySem.Spec PyProof.Rows
def LocIs (X : Cx) (h : Heap) (x : Str) (u : Value) : Prop := ∃ m, h.Ns X.env.locals m ∧ m x = some u
section
variable {X : Cx} {pins : List (Addr × Obj)} {σ : St} {H : Hp} {s : Shared}
theorem store_exact {M : Model} {A : Around} {E : Value → Shared → Prop} {i : Nat} {x : Str} {v : V} {u : Value} {Q : Unit → Shared → Prop} (I : Inv X pins σ H s) (hN : X.N.Nodup) (hi : X.N[i]? = some x) (hk : X.env.scope.names.lookup x = some .local) (r : RelV v u)
    (h : ∀ h' tk, s.toks ≤ tk → Inv X pins (σ.set i (some v)) H { s with heap := h', toks := tk } → LocIs X h' x u → Heap.SameBut X.env.locals s.heap h' → Q () { s with heap := h', toks := tk }) : wpAny M A (storeName X.env x u) Q E s := by
  obtain ⟨m, hn, hl⟩ := id I.loc
  have hcls : (X.env.scope.kind == .class || (X.env.scope.kind == .module && X.env.locals != X.env.globals)) = false := by rw [I.ok.kind]; rfl
  have hiσ : i < σ.length := by rw [I.len]; exact (List.getElem?_eq_some_iff.mp hi).1
  have cne := I.cne
  have sL : ∀ b o, X.s₀.heap.get? b = some o → b ≠ X.env.locals := fun b o q => Nat.ne_of_lt (Nat.lt_of_lt_of_le (Heap.lt_size q) I.ok.above)
  refine wpAny_storeName_local hk hn (fun h' hn' hs => ?_) hcls
  refine h h' (s.toks + 1) (Nat.le_succ _) ⟨I.ok, I.os, I.bare, ⟨fun b o q n hb hx => ?_, fun b o q n hb hx => ?_, I.base.free, fun b o q hx => ?_, I.base.tups, I.base.frzs, I.base.tbls⟩, ⟨_, hn', fun j y v' e1 e2 e3 => ?_⟩, fun y c e => ?_, I.free, I.freeC, fun p hp => ?_, ?_, by simpa using I.len⟩ ⟨_, hn', by simp⟩ hs
  · exact (hs.2 b (sL b o q)).trans (I.base.keep b o q n hb hx)
  · obtain ⟨sl, e1⟩ := I.base.slot b o q n hb hx
    exact ⟨sl, (hs.2 b (sL b o q)).trans e1⟩
  · obtain ⟨o', e1⟩ := I.base.there b o q hx
    exact ⟨o', (hs.2 b (sL b o q)).trans e1⟩
  · by_cases hj : j = i
    · subst hj
      rw [hi] at e1; cases e1
      rw [List.getElem?_set_self hiσ] at e2
      cases e2
      exact ⟨u, r, .inl ⟨hk, by simp⟩⟩
    · rw [List.getElem?_set_ne (Ne.symm hj)] at e2
      obtain ⟨u', r', q⟩ := hl j y v' e1 e2 e3
      refine ⟨u', r', ?_⟩
      rcases q with ⟨k, e⟩ | ⟨k, c, e, z⟩
      · refine .inl ⟨k, ?_⟩
        have : y ≠ x := fun e => hj (nodup_ix hN e1 (e ▸ hi))
        simp [this, e]
      · exact .inr ⟨k, c, e, z.sameBut hs (cne y c e)⟩
  · obtain ⟨w', z⟩ := I.cell y c e
    exact ⟨w', z.sameBut hs (cne y c e)⟩
  · obtain ⟨e, n, ne, nf, d⟩ := I.pin p hp
    exact ⟨(hs.2 p.1 ne).trans e, n, ne, nf, d⟩
  · intro b ob q
    refine (I.hok b ob q).stay (fun c w' hc k => (hs.2 c ?_).trans k) (fun _ q => q) fun _ _ q => q
    rintro rfl
    rcases hc with rfl | hc
    · rw [I.free] at q; cases q
    · rw [I.free] at hc; cases hc
theorem loc_val {j : Nat} {x : Str} {z : Str} (I : Inv X pins σ H s) (hj : X.N[j]? = some x) (hk : X.env.scope.names.lookup x = some .local) (e : σ[j]? = some (some (.str z))) : ∃ t, LocIs X s.heap x (.str z t) := by
  obtain ⟨m, hn, hl⟩ := I.loc
  obtain ⟨u, r, l⟩ := hl j x _ hj e (.inl hk)
  obtain ⟨t, rfl⟩ := (show ∃ t, u = Value.str z t from r)
  rcases l with ⟨_, hm⟩ | ⟨k, _⟩
  · exact ⟨t, m, hn, hm⟩
  · rcases k with k | k
    · exact absurd (hk.symm.trans k) (by decide)
    · exact absurd (hk.symm.trans k) (by decide)
theorem ld_loc {s' : Shared} {M : Model} {A : Around} {E : Value → Shared → Prop} {x : Str} {u : Value} {pos : Pos} {Q : Value → Shared → Prop} (I : Inv X pins σ H s) (hk : X.env.scope.names.lookup x = some .local) (l : LocIs X s'.heap x u) (h : Q u s') (hd : (x == ("__debug__" : Str)) = false) :
    wpAny M A (eval (.Name x pos) X.env) Q E s' := by
  obtain ⟨m, hn, hm⟩ := l
  exact wpAny_Name (wpAny_loadName_local I.ok.kind hk hn hm h) hd
theorem add_fresh {prog : Program} {w : World} {A : Around} {E : Value → Shared → Prop} {s : Shared} {x y : Str} {t u : Tok} {Q : Value → Shared → Prop} (hx : x.length ≠ 0) (hy : y.length ≠ 0) (hl : (x ++ y).length ≤ sizeLine) (h : Q (.str (x ++ y) s.toks) { s with toks := s.toks + 1 }) :
    wpAny (model prog w) A (binaryOp .Add (.str x t) (.str y u)) Q E s := by
  refine PySem.P.add_str ?_
  rw [if_neg (by simpa using hx), if_neg (by simpa using hy)]
  exact ⟨hl, h⟩
theorem repl_body {jn : Nat} {sp sg a b c x : Str} {t : Tok} {D : Ends} {p1 p2 p3 p4 p5 p6 p7 p8 p9 p10 p11 : Pos} {k1 k2 : Nat} (I : Inv X pins σ H s) (hN : X.N.Nodup) (hj : X.N[jn]? = some sp) (hks : X.env.scope.names.lookup sp = some .local) (hkg : X.env.scope.names.lookup sg = some .local)
    (lg : LocIs X s.heap sg (.str c t)) (ht : 1 ≤ t) (ht2 : t < s.toks) (e : σ[jn]? = some (some (.str x))) (ha : a.length ≠ 0) (hc : c.length ≠ 0) (hb : b.length ≠ 0) (hx : x.length ≤ 1000000) (hz : (a ++ c ++ b).length ≤ 10) (ne : (c == a ++ c ++ b) = false)
    (q : D.nx (σ.set jn (some (.str (Txt.replace x c (a ++ c ++ b))))) H) (hd1 : (sp == ("__debug__" : Str)) = false) (hd2 : (sg == ("__debug__" : Str)) = false)
    (hsw : swapsWith (.Call (.Attribute (.Name sp p3) "replace" p4) [.Name sg p5, .BinOp (.BinOp (.Constant (.str a) k1 p6) .Add (.Name sg p7) p8) .Add (.Constant (.str b) k2 p9) p10] [] p11) (some (.Name sp p2)) p1.line X.env = pure false)
    (hbase : attributeBase (.Name sp p3) "replace" X.env (eval (.Name sp p3) X.env) = eval (.Name sp p3) X.env)
    (hfew : ((backTo p11 (starEach [.Name sg p5, .BinOp (.BinOp (.Constant (.str a) k1 p6) .Add (.Name sg p7) p8) .Add (.Constant (.str b) k2 p9) p10] X.env)).all (fun x => !x.1) && (backToKw p11 (keywordEach [] X.env)).all (fun x => x.1.isSome)
      && decide (([.Name sg p5, .BinOp (.BinOp (.Constant (.str a) k1 p6) .Add (.Name sg p7) p8) .Add (.Constant (.str b) k2 p9) p10] : List Expr).length + ([] : List Keyword).length + (if ([] : List Keyword).isEmpty then 0 else 1) < 30)) = true)
    (hline : (p4.endLine == p11.line) = true)
    (hs1 : starEach [.Name sg p5, .BinOp (.BinOp (.Constant (.str a) k1 p6) .Add (.Name sg p7) p8) .Add (.Constant (.str b) k2 p9) p10] X.env = [(false, eval (.Name sg p5) X.env), (false, eval (.BinOp (.BinOp (.Constant (.str a) k1 p6) .Add (.Name sg p7) p8) .Add (.Constant (.str b) k2 p9) p10) X.env)]) :
    wpAny (model X.prog X.w) X.A (exec (.Assign [.Name sp p2] (.Call (.Attribute (.Name sp p3) "replace" p4) [.Name sg p5, .BinOp (.BinOp (.Constant (.str a) k1 p6) .Add (.Name sg p7) p8) .Add (.Constant (.str b) k2 p9) p10] [] p11) p1) X.env) (SP X pins D) X.xe s := by
  obtain ⟨tx, lx⟩ := loc_val I hj hks e
  have l1 : (a ++ c).length ≤ sizeLine := by
    have := strLen_append (a ++ c) b
    rw [sizeLine_eq]; omega
  have n1 : (a ++ c).length ≠ 0 := by rw [strLen_append]; omega
  refine wpAny_Assign_Name ?_ hsw
  refine wpAny_Call_method_late hbase hfew hline rfl (ld_loc I hks lx ?_ hd1)
  refine ⟨"str", "str.replace", F.plainAttrs_str, F.slot_str_replace, F.type_str_replace, typeIs_str _ _ _, (fun _ z => nomatch z), ?_⟩
  rw [hs1]
  refine Calls.callWith_builtin rfl (Calls.evalArgs_plain ?_)
  refine Calls.spliced_cons (ld_loc I hkg lg ?_ hd2)
  refine Calls.spliced_cons (wpAny_BinOp (wpAny_BinOp (Calls.Constant_str ?_)))
  refine ld_loc (s' := { s with toks := s.toks + 1 }) I hkg lg ?_ hd2
  refine add_fresh ha hc l1 ?_
  refine Calls.Constant_str ?_
  refine add_fresh n1 hb (by rw [sizeLine_eq]; omega) ?_
  refine Calls.spliced_nil ?_
  refine SC.replace (Nat.ne_of_gt ht) (Nat.succ_ne_zero _) (Nat.ne_of_lt (Nat.lt_of_lt_of_le ht2 (Nat.le_add_right _ 3))) ne ?_ fun t' k => ?_
  · have : (x.length + 1) * (a ++ c ++ b).length ≤ 1000001 * 10 := Nat.mul_le_mul (by omega) hz
    omega
  · exact store_ok (v := .str (Txt.replace x c (a ++ c ++ b))) (I.tok k) hN hj (.inl hks) ⟨t', rfl⟩ (fun s2 I2 => ⟨_, H, I2, q⟩) (.inr hks)
end
end L2
namespace L2
open PySem PySem.Spec PyProof.Rows
def PS1 (X : Cx) (st : Stmt) (t : TS) : Prop :=
  ∀ (pins : List (Addr × Obj)) (s : Shared) (σ : St) (H : Hp) (D : Ends), 1 ≤ s.toks → Inv X pins σ H s → t D σ H → wpAny (model X.prog X.w) X.A (exec st X.env) (SP X pins D) X.xe s
def replS (a b : Str) (x : Str) (c : Nat) : Str := Txt.replace x ⟨#[c]⟩ (a ++ ⟨#[c]⟩ ++ b)
def tRepl (jn gn : Nat) (a b : Str) (ti : TE) : TS := fun D σ H => ti σ H fun v H1 => ∃ z x, v = .str z ∧ σ[jn]? = some (some (.str x)) ∧ (z.cps.all (· < 128)) = true ∧
  (∀ k, k ≤ z.cps.size → ((z.cps.toList.take k).foldl (replS a b) x).length ≤ 1000000) ∧ (∀ c ∈ z.cps.toList, ((⟨#[c]⟩ : Str) == a ++ ⟨#[c]⟩ ++ b) = false) ∧
  ∀ σ' : St, σ'[jn]? = some (some (.str (z.cps.toList.foldl (replS a b) x))) → (∀ m, m ≠ jn → m ≠ gn → σ'[m]? = σ[m]?) → σ'.length = σ.length → D.nx σ' H1
section
variable {X : Cx}
theorem ps_repl {jn gn : Nat} {sp sg a b : Str} {p0 p1 p2 p3 p4 p5 p6 p7 p8 p9 p10 p11 pos : Pos} {k1 k2 : Nat} {iter : Expr} {ti : TE} (hp : PassesOwn (model X.prog X.w) X.A X.env X.xe) (hcalm : X.calm = true) (hN : X.N.Nodup) (hj : X.N[jn]? = some sp) (hg : X.N[gn]? = some sg) (hjg : jn ≠ gn)
    (hks : X.env.scope.names.lookup sp = some .local) (hkg : X.env.scope.names.lookup sg = some .local) (hi : PE X iter ti) (ha : a.length ≠ 0) (hb : b.length ≠ 0) (ha2 : a.length ≤ 4) (hb2 : b.length ≤ 4) (hd1 : (sp == ("__debug__" : Str)) = false := by decide) (hd2 : (sg == ("__debug__" : Str)) = false := by decide)
    (hsw : swapsWith (.Call (.Attribute (.Name sp p3) "replace" p4) [.Name sg p5, .BinOp (.BinOp (.Constant (.str a) k1 p6) .Add (.Name sg p7) p8) .Add (.Constant (.str b) k2 p9) p10] [] p11) (some (.Name sp p2)) p1.line X.env = pure false := by rfl)
    (hbase : attributeBase (.Name sp p3) "replace" X.env (eval (.Name sp p3) X.env) = eval (.Name sp p3) X.env := by rfl)
    (hfew : ((backTo p11 (starEach [.Name sg p5, .BinOp (.BinOp (.Constant (.str a) k1 p6) .Add (.Name sg p7) p8) .Add (.Constant (.str b) k2 p9) p10] X.env)).all (fun x => !x.1) && (backToKw p11 (keywordEach [] X.env)).all (fun x => x.1.isSome)
      && decide (([.Name sg p5, .BinOp (.BinOp (.Constant (.str a) k1 p6) .Add (.Name sg p7) p8) .Add (.Constant (.str b) k2 p9) p10] : List Expr).length + ([] : List Keyword).length + (if ([] : List Keyword).isEmpty then 0 else 1) < 30)) = true := by rfl)
    (hline : (p4.endLine == p11.line) = true := by rfl)
    (hs1 : starEach [.Name sg p5, .BinOp (.BinOp (.Constant (.str a) k1 p6) .Add (.Name sg p7) p8) .Add (.Constant (.str b) k2 p9) p10] X.env = [(false, eval (.Name sg p5) X.env), (false, eval (.BinOp (.BinOp (.Constant (.str a) k1 p6) .Add (.Name sg p7) p8) .Add (.Constant (.str b) k2 p9) p10) X.env)] := by rfl)
    (hs : ∀ x, foldedSetIterable iter X.env x = pure x := by intro _; rfl) :
    PS1 X (.For (.Name sg p0) iter [.Assign [.Name sp p2] (.Call (.Attribute (.Name sp p3) "replace" p4) [.Name sg p5, .BinOp (.BinOp (.Constant (.str a) k1 p6) .Add (.Name sg p7) p8) .Add (.Constant (.str b) k2 p9) p10] [] p11) p1] [] pos) (tRepl jn gn a b ti) := by
  intro pins s σ H D ht I h
  refine wpAny_For (wpAny_with_toks ht (wpAny_mono (hi pins s σ H _ I h) (fun v s1 ⟨xv, H1, I1, r1, z, x, hz, hx, hasc, hlen, hne, q⟩ ht1 => ?_) (fun _ _ y _ => y))) hs
  subst hz
  obtain ⟨tz, rfl⟩ := (show ∃ t, v = Value.str z t from r1)
  refine wpAny_pyIter_ascii hasc ?_
  have hf0 : FpOk X pins H1 s1.heap.objs.size := I1.fpOk (Nat.le_refl _) (I1.hok.fresh (Nat.le_refl _))
  have hjl : jn < σ.length := by rw [I.len]; exact (List.getElem?_eq_some_iff.mp hj).1
  have hgl : gn < σ.length := by rw [I.len]; exact (List.getElem?_eq_some_iff.mp hg).1
  refine codeAny_forLoop_any (fun n s' => ∃ i σ', Inv X pins σ' H1 s' ∧ s'.heap.IsStrIter s1.heap.objs.size "str_ascii_iterator" z tz i ∧ i ≤ z.cps.size ∧ n = z.cps.size - i ∧ 1 ≤ s'.toks ∧
      σ'[jn]? = some (some (.str ((z.cps.toList.take i).foldl (replS a b) x))) ∧ (∀ m, m ≠ jn → m ≠ gn → σ'[m]? = σ[m]?) ∧ σ'.length = σ.length) ?_ z.cps.size
    ⟨0, σ, I1.kept (t' := s1.toks) (fun b o e => Heap.get?_push_of_some _ e), ⟨_, Heap.get?_push_size _ rfl, rfl, rfl⟩, Nat.zero_le _, rfl, ht1, by simpa using hx, fun _ _ _ => rfl, rfl⟩
  rintro n s3 ⟨i, σ3, I3, st3, hi3, hn3, ht3, ej, em, el⟩
  obtain ⟨f0, f1, f2, f3, f4, f5⟩ := hf0
  by_cases hlt : i < z.cps.size
  · have hc : z.cps[i]? = some z.cps[i] := by simp [hlt]
    refine wpAny_passesOwn hp (wpAny_pyNext_ascii_item st3 hc fun h4 st4 sb4 => ?_)
    have I4 : Inv X pins σ3 H1 { s3 with heap := h4, toks := s3.toks + 1 } := I3.turned (fun b o hb e => (sb4.2 b hb).trans e) f0 f1 f3 f4 f5
    obtain ⟨o4, e4, c4, d4⟩ := id st4
    refine wpAny_passesOwn hp (go_of (s := { s3 with heap := h4, toks := s3.toks + 1 }) e4 c4 d4 (by decide) ?_)
    refine wpAny_passesOwn hp (wpAny_assign_Name ?_)
    have hf : ∀ b ∈ [s1.heap.objs.size], FpOk X pins H1 b := fun b hb => by
      have e : b = s1.heap.objs.size := by simpa using hb
      subst e
      exact ⟨f0, f1, f2, f3, f4, f5⟩
    have I4' := I4.pinned hf (fun b hb => by
      have e : b = s1.heap.objs.size := by simpa using hb
      subst e
      exact ⟨o4, e4, fun v z => by rw [d4] at z; cases z⟩)
    refine store_exact (v := .str ⟨#[z.cps[i]]⟩) I4' hN hg hkg ⟨_, rfl⟩ fun h5 tk5 ht5 I5 l5 sb5 => ?_
    have ht5' : s3.toks + 1 ≤ tk5 := ht5
    have ej5 : (σ3.set gn (some (V.str ⟨#[z.cps[i]]⟩)))[jn]? = some (some (.str ((z.cps.toList.take i).foldl (replS a b) x))) := by
      rw [List.getElem?_set_ne (Ne.symm hjg)]; exact ej
    have hct : z.cps.toList[i]? = some z.cps[i] := by simp [hlt]
    have hl1 : (a ++ (⟨#[z.cps[i]]⟩ : Str) ++ b).length ≤ 10 := by
      rw [strLen_append, strLen_append]
      have : (⟨#[z.cps[i]]⟩ : Str).length = 1 := rfl
      omega
    have body := repl_body (s := { s3 with heap := h5, toks := tk5 }) (D := { nx := fun σ' H' => H' = H1 ∧ σ' = (σ3.set gn (some (V.str ⟨#[z.cps[i]]⟩))).set jn (some (.str (replS a b ((z.cps.toList.take i).foldl (replS a b) x) z.cps[i]))), rt := fun _ _ => False })
      (p1 := p1) (p2 := p2) (p3 := p3) (p4 := p4) (p5 := p5) (p6 := p6) (p7 := p7) (p8 := p8) (p9 := p9) (p10 := p10) (p11 := p11) (k1 := k1) (k2 := k2) (a := a) (b := b)
      I5 hN hj hks hkg l5 ht3 (show s3.toks < tk5 from ht5') ej5 ha (by show (1 : Nat) ≠ 0; decide) hb (hlen i hi3) hl1 (hne _ (List.mem_of_getElem? hct)) ⟨rfl, rfl⟩ hd1 hd2 hsw hbase hfew hline hs1
    refine wpAny_passesOwn hp (wpAny_with_toks (n := 1) (by show 1 ≤ tk5; omega) (wpAny_execs_cons (wpAny_mono body (fun f s6 q6 => ?_) fun _ _ y _ => y)))
    cases f with
    | next =>
      obtain ⟨σ6, H6, I6, e6, e6'⟩ := q6
      subst e6 e6'
      refine wpAny_execs_nil fun ht6 => ?_
      have hpin := (I6.pin (s1.heap.objs.size, o4) (List.mem_append_right _ (List.mem_append_right _ (mem_pinsAt (h := h4) (List.mem_singleton.mpr rfl) e4)))).1
      refine ⟨z.cps.size - (i + 1), by omega, i + 1, _, I6.unpinned, ⟨o4, hpin, c4, d4⟩, hlt, rfl, ht6, ?_, fun m h1 h2 => ?_, by simp [el]⟩
      · rw [List.getElem?_set_self (by simp [el, hjl])]
        have e : List.take (i + 1) z.cps.toList = List.take i z.cps.toList ++ [z.cps[i]] := by rw [List.take_succ, hct]; rfl
        rw [e, List.foldl_append]
        rfl
      · rw [List.getElem?_set_ne (Ne.symm h1), List.getElem?_set_ne (Ne.symm h2)]
        exact em m h1 h2
    | ret v => obtain ⟨_, _, _, _, _, z⟩ := q6; exact z.elim
    | brk => obtain ⟨_, _, _, z⟩ := q6; exact z.elim
    | cont => obtain ⟨_, _, _, z⟩ := q6; exact z.elim
  · have e : i = z.cps.size := by omega
    subst e
    refine wpAny_passesOwn hp (next_ascii_end (I3.hnx hcalm f3) st3 (by simp) fun h4 eb => ?_)
    have I4 : Inv X pins σ3 H1 { s3 with heap := h4 } := I3.turned (t' := s3.toks) (fun b o hb e => eb b o hb e) f0 f1 f3 f4 f5
    have ee : List.take z.cps.size z.cps.toList = z.cps.toList := List.take_of_length_le (by simp)
    rw [ee] at ej
    exact wpAny_execs_nil ⟨σ3, H1, I4, q σ3 ej em el⟩
end
end L2
set_option Elab.async false
set_option linter.all false
set_option maxRecDepth 100000
set_option maxHeartbeats 4000000
namespace L2
open PySem PySem.Spec PyProof.Rows
def Phi (b0 : Heap) (C : Addr) (cls : Value) (vs : Array Value) : Prop := cls = .ref C ∧ ∃ a0, vs[0]? = some a0 ∧ ∃ c, vs[2]? = some c ∧ Chn b0.get? c
theorem Phi.set {b0 : Heap} {C : Addr} {cls x : Value} {vs : Array Value} (p : Phi b0 C cls vs) : Phi b0 C cls (vs.setIfInBounds 1 x) := by
  obtain ⟨rfl, a0, h0, c, h2, hc⟩ := p
  exact ⟨rfl, a0, by rw [Array.getElem?_setIfInBounds_ne (by decide)]; exact h0, c, by rw [Array.getElem?_setIfInBounds_ne (by decide)]; exact h2, hc⟩
def TrP (h base : Heap) (e : Addr) (φ : Value → Array Value → Prop) (fl : Value) : Prop :=
  ∃ oe vs T oT ts, h.get? e = some oe ∧ φ oe.cls vs ∧ oe.data = .fields vs ∧ vs[1]? = some (.ref T) ∧ base.get? T = none ∧ T ≠ e ∧ h.get? T = some oT ∧ oT.data = .fields ts ∧ ts[3]? = some fl
section
variable {M : Model} {A : Around} {E : Value → Shared → Prop} {s : Shared} {base : Heap} {env : Env} {outer l : List Env} {L e : Addr} {φ : Value → Array Value → Prop} {Q : Unit → Shared → Prop}
theorem entryP {oe : Obj} {vs : Array Value} {head : Value} {hadNext : Bool} (hφ : ∀ c vs x, φ c vs → φ c (vs.setIfInBounds 1 x)) (hfr : A.frames = some (env :: outer)) (hl : s.heap.FunFrames base (env :: outer)) (hf : env.frame = some L) (he : s.heap.get? e = some oe) (hkb : base.StaysIn s.heap) (hen : base.get? e = none)
    (hd : oe.data = .fields vs) (hsz : 1 < vs.size) (h0 : φ oe.cls vs) (h : ∀ h', base.StaysIn h' → h'.FunFrames base (env :: outer) → TrP h' base e φ (rawInt L) → s.heap.UpToSlots h' → Q () { s with heap := h' }) :
    wpAny M A (do let a ← frameOf env; let pl ← entryPlaceOf L hadNext; let b ← EntryCells.newEntry head a .none (rawInt L) .none pl; setField (.ref e) 1 b) Q E s := by
  have hene : e ∉ (env :: outer).filterMap (·.frame) := fun hm => by obtain ⟨_, o, ho, hnf⟩ := hl.mem hm; rw [he] at ho; cases ho; exact hnf vs hd
  refine wpAny_bind (wpAny_frameOf_fun hfr hl hf fun h₁ hs₁ => wpAny_bind (wpAny_entryPlaceOf fun pl hpl => ?_)); unfold EntryCells.newEntry newFields
  refine wpAny_bind (wpAny_newObj_type ?_ (hpl.sizeOk5 _ _ _ _ _)); have he₁ : h₁.get? e = some oe := (hs₁.2.1 e hene).trans he
  have kb₁ : base.StaysIn h₁ := fun b o hbo => (hs₁.2.1 b fun hm => by rw [(hl.mem hm).1] at hbo; cases hbo).trans (hkb b o hbo); have hTe : h₁.objs.size ≠ e := Nat.ne_of_gt (Heap.lt_size he₁)
  generalize hN : ({ cls := .type "traceback", dict := none, data := .fields ([head, .ref L, .none, rawInt L, .none] ++ (if pl.isEmpty then List.replicate 6 Value.none else pl)).toArray } : Obj) = NT
  have hNd : ∃ ts, NT.data = .fields ts ∧ ts[3]? = some (rawInt L) := ⟨_, by rw [← hN], by first | (simp; done) | (rcases hpl with rfl | ⟨_, _, _, _, _, _, _, rfl⟩ <;> simp)⟩
  obtain ⟨ts, hNd, h3⟩ := hNd; have hNf : NT.isFreed = false := Obj.isFreed_of_fields hNd
  have he₂ := Heap.get?_push_of_some (h := h₁) NT he₁; refine wpAny_setField he₂ hd hsz ?_; have hd₃ := Obj.data_mapFields hd (·.setIfInBounds 1 (Value.ref h₁.objs.size))
  have he₃ := Heap.get?_update_self (Obj.mapFields (·.setIfInBounds 1 (Value.ref h₁.objs.size))) he₂ (Obj.isFreed_of_fields hd₃)
  have keep : ∀ b o, b ≠ e → h₁.get? b = some o → ((h₁.push NT).update e (Obj.mapFields (·.setIfInBounds 1 (Value.ref h₁.objs.size)))).get? b = some o := fun b o hbe hb => by rw [Heap.get?_update_other _ _ (Ne.symm hbe)]; exact Heap.get?_push_of_some _ hb
  have noR : ∀ b o, s.heap.get? b = some o → (∀ vs, o.data ≠ .fields vs) → b ≠ e := fun b o hb hnf q => by rw [q, he] at hb; cases hb; exact hnf vs hd
  refine h _ (fun b o hbo => keep b o (fun q => by rw [q, hen] at hbo; cases hbo) (kb₁ b o hbo)) (hl.of_keeps fun b o hb hnf => ?_) ⟨_, _, h₁.objs.size, _, ts, he₃, ?_, hd₃, by simp [hsz], kb₁.fresh, hTe, (Heap.get?_update_other _ _ (Ne.symm hTe)).trans (Heap.get?_push_size h₁ hNf), hNd, h3⟩ fun b o hb hnf => ?_
  · obtain ⟨sl, hs⟩ := hs₁.2.2 b o hb; exact ⟨_, keep b _ (noR b o hb hnf) hs, rfl⟩
  · rw [Obj.cls_mapFields]; exact hφ _ _ _ h0
  · obtain ⟨sl, hs⟩ := hs₁.2.2 b o hb; exact ⟨sl, keep b _ (noR b o hb hnf) hs⟩
theorem noteP (hφ : ∀ c vs x, φ c vs → φ c (vs.setIfInBounds 1 x)) (hfr : A.frames = some (env :: outer)) (hl : s.heap.FunFrames base (env :: outer)) (hf : env.frame = some L) (ht : TrP s.heap base e φ .none) (hkb : base.StaysIn s.heap) (hen : base.get? e = none)
    (h : ∀ h', base.StaysIn h' → h'.FunFrames base (env :: outer) → TrP h' base e φ (rawInt L) → s.heap.UpToSlots h' → Q () { s with heap := h' }) : wpAny M A (noteFrame (.ref e) env) Q E s := by
  obtain ⟨oe, vs, T, oT, ts, he, h0, hd, h1, hnT, hTe, hT, hdT, h3⟩ := ht
  unfold noteFrame; simp only [hf]; refine wpAny_bind (wpAny_field he hd h1 ?_); rw [if_pos (show (Value.ref T != Value.none) = true from by simp)]
  refine wpAny_bind (wpAny_field hT hdT h3 ?_); rw [if_neg (show ¬ ((Value.none == rawInt L) = true) from by simp [rawInt])]; refine wpAny_bind (wpAny_setField hT hdT (Array.getElem?_eq_some_iff.mp h3).1 ?_)
  have other : ∀ b, b ≠ T → (s.heap.update T (Obj.mapFields (·.setIfInBounds 3 Value.none))).get? b = s.heap.get? b := fun b hb => Heap.get?_update_other _ _ (Ne.symm hb)
  have noR : ∀ b o, s.heap.get? b = some o → (∀ vs, o.data ≠ .fields vs) → b ≠ T := fun b o hb hnf q => by rw [q, hT] at hb; cases hb; exact hnf ts hdT
  refine entryP hφ hfr (hl.of_keeps fun b o hb hnf => ⟨o, (other b (noR b o hb hnf)).trans hb, rfl⟩) hf ((other e (Ne.symm hTe)).trans he) (fun b o hbo => (other b fun q => by rw [q, hnT] at hbo; cases hbo).trans (hkb b o hbo)) hen hd (Array.getElem?_eq_some_iff.mp h1).1 h0
    fun h' x1 x2 x3 x4 => h h' x1 x2 x3 fun b o hb hnf => x4 b o ((other b (noR b o hb hnf)).trans hb) hnf
theorem flightP {fl : Value} (hkb : base.StaysIn s.heap) (hl : s.heap.FunFrames base l) (ht : TrP s.heap base e φ fl)
    (h : ∀ h', base.StaysIn h' → h'.FunFrames base l → TrP h' base e φ .none → (∀ b o, s.heap.get? b = some o → (∀ vs, o.data ≠ .fields vs) → h'.get? b = some o) → Q () { s with heap := h' }) : wpAny M A (setFlight (.ref e) none) Q E s := by
  obtain ⟨oe, vs, T, oT, ts, he, h0, hd, h1, hnT, hTe, hT, hdT, h3⟩ := ht
  have hsz3 : 3 < ts.size := (Array.getElem?_eq_some_iff.mp h3).1
  have other : ∀ b, b ≠ T → (s.heap.update T (Obj.mapFields (·.setIfInBounds 3 ((none : Option Addr).elim Value.none fun f => rawInt f)))).get? b = s.heap.get? b := fun b hb => Heap.get?_update_other _ _ (Ne.symm hb)
  have noR : ∀ b o, s.heap.get? b = some o → (∀ vs, o.data ≠ .fields vs) → b ≠ T := fun b o hb hnf q => by rw [q, hT] at hb; cases hb; exact hnf ts hdT
  unfold setFlight; refine wpAny_bind (wpAny_field he hd h1 ?_); rw [if_pos (show (Value.ref T != Value.none) = true from by simp)]
  refine wpAny_setField hT hdT hsz3 (h _ (fun b o hbo => (other b fun q => by rw [q, hnT] at hbo; cases hbo).trans (hkb b o hbo)) (hl.of_keeps fun b o hb hnf => ⟨o, (other b (noR b o hb hnf)).trans hb, rfl⟩) ?_ fun b o hb hnf => (other b (noR b o hb hnf)).trans hb)
  exact ⟨oe, vs, T, _, _, (other e (Ne.symm hTe)).trans he, h0, hd, h1, hnT, hTe, Heap.get?_update_self _ hT (Obj.isFreed_of_fields (Obj.data_mapFields hdT _)), Obj.data_mapFields hdT _, by simp [hsz3]⟩
theorem againP (hf : env.frame = some L) (ht : TrP s.heap base e φ (rawInt L)) (h : Q () s) : wpAny M A (noteFrame (.ref e) env) Q E s := by
  obtain ⟨oe, vs, T, oT, ts, he, h0, hd, h1, hnT, hTe, hT, hdT, h3⟩ := ht
  unfold noteFrame; simp only [hf]; refine wpAny_bind (wpAny_field he hd h1 ?_); rw [if_pos (show (Value.ref T != Value.none) = true from by simp)]
  refine wpAny_bind (wpAny_field hT hdT h3 ?_); rw [if_pos (show (rawInt L == rawInt L) = true from by simp)]; exact wpAny_pure h
end
def Air (b0 h : Heap) (e C : Addr) (fl : Option Value) (l : List Addr) : Prop :=
  ∃ oe vs a0, h.get? e = some oe ∧ oe.cls = .ref C ∧ oe.data = .fields vs ∧ (vs[0]? = some a0 ∧ ∃ c, vs[2]? = some c ∧ Chn b0.get? c) ∧
    match fl with
    | none => l = [e] ∧ vs[1]? = some .none
    | some f => ∃ T oT ts, l = [e, T] ∧ vs[1]? = some (.ref T) ∧ T ≠ e ∧ h.get? T = some oT ∧ oT.data = .fields ts ∧ ts[3]? = some f
theorem Air.flds {b0 h : Heap} {e C : Addr} {fl : Option Value} {l : List Addr} (a : Air b0 h e C fl l) : ∀ b ∈ l, ∃ o vs, h.get? b = some o ∧ o.data = .fields vs := by
  intro b hb
  obtain ⟨oe, vs, a0, h1, h2, h3, h4, h5⟩ := a
  cases fl with
  | none =>
    obtain ⟨rfl, _⟩ := h5
    obtain rfl := List.mem_singleton.mp hb
    exact ⟨oe, vs, h1, h3⟩
  | some f =>
    obtain ⟨T, oT, ts, rfl, q1, q2, q3, q4, q5⟩ := h5
    rcases List.mem_cons.mp hb with rfl | hb
    · exact ⟨oe, vs, h1, h3⟩
    · obtain rfl := List.mem_singleton.mp hb
      exact ⟨oT, ts, q3, q4⟩
theorem Air.first {b0 h : Heap} {e C : Addr} {fl : Option Value} {l : List Addr} (a : Air b0 h e C fl l) : e ∈ l := by
  obtain ⟨oe, vs, a0, h1, h2, h3, h4, h5⟩ := a
  cases fl with
  | none => obtain ⟨rfl, _⟩ := h5; exact List.mem_singleton.mpr rfl
  | some f => obtain ⟨T, oT, ts, rfl, _⟩ := h5; exact List.mem_cons_self ..
theorem ObjOk.there {P : Program} {w : World} {H : Hp} {h : Heap} {a : Addr} {o : HO} (x : ObjOk P w H h a o) : ∃ ob, h.get? a = some ob := by
  cases o with
  | lst xs => obtain ⟨_, _, _, _, e⟩ := x; exact ⟨_, e⟩
  | tup xs => obtain ⟨_, _, _, p⟩ := x; obtain ⟨o, e, _⟩ := p; exact ⟨_, e⟩
  | dK kvs => obtain ⟨_, _, _, _, o, _, _, e, _⟩ := x; exact ⟨_, e⟩
  | dT kvs => obtain ⟨_, _, _, _, o, _, _, e, _⟩ := x; exact ⟨_, e⟩
  | set S n => obtain ⟨o, _, _, _, e, _⟩ := x; exact ⟨_, e⟩
  | ins C dx fs => obtain ⟨_, _, _, e, _⟩ := x; exact ⟨_, e⟩
  | own y => obtain ⟨_, e⟩ := x; exact ⟨_, e⟩
  | xd fs => obtain ⟨_, ⟨_, _, _, e, _⟩, _⟩ := x; exact ⟨_, e⟩
  | rng lo hi => obtain ⟨_, _, _, e⟩ := x; exact ⟨_, e⟩
  | frz ob u => obtain ⟨e, _⟩ := x; exact ⟨_, e⟩
  | tbl ps => exact ⟨_, (show h.get? a = some _ from x)⟩
  | met f y => exact ⟨_, (show h.get? a = some _ from x)⟩
  | ext φ => obtain ⟨_, ⟨_, e⟩, _⟩ := x; exact ⟨_, e⟩
structure Fnc (X : Cx) : Prop where
  stk : X.stack = X.env :: X.outer
  fr : X.env.frame = some X.env.locals
  ex : X.ex = []
theorem fnc_of {CX : CXT} {P : Program} {w : World} {K : PySem.W.Frag} {mg : Str → Option Value} {base : Heap} {N : List Str} {qual : Str} {scope : Scope} {f : Addr} {cd : Value} {A : Around} {outer : List Env} {s : Shared} {H : Hp} {E : XK} :
    Fnc (cxOf CX P w K mg base N qual scope f cd A outer s H E) := ⟨rfl, rfl, rfl⟩
theorem Fnc.wish {X : Cx} (F : Fnc X) (E : Value → Shared → Prop) : Fnc (X.wish E) := ⟨F.stk, F.fr, F.ex⟩
theorem rebase {h b b' : Heap} {l : List Env} (x : h.FunFrames b l) (n : ∀ a ∈ frs l, b'.get? a = none) : h.FunFrames b' l := by
  induction l with
  | nil => trivial
  | cons env rest ih =>
    obtain ⟨hk, ⟨L, o, hf, hn, ho, hd⟩, hr⟩ := x
    refine ⟨hk, ⟨L, o, hf, n L (by unfold frs; rw [List.filterMap_cons, hf]; exact List.mem_cons_self ..), ho, hd⟩, ih hr fun a ha => n a ?_⟩
    unfold frs at ha ⊢
    rw [List.filterMap_cons, hf]
    exact List.mem_cons_of_mem _ ha
def bsOf (X : Cx) (h : Heap) (l : List Addr) : Heap := PySem.W.hideAll h (l ++ frs X.stack)
section
variable {X : Cx} {σ : St} {H : Hp} {s : Shared} {l : List Addr} {e C : Addr} {fl : Option Value}
theorem bs_stay : (bsOf X s.heap l).StaysIn s.heap := fun b o e => PySem.W.of_hideAll _ e
theorem bs_none {b : Addr} (h : b ∈ l) : (bsOf X s.heap l).get? b = none := PySem.W.hideAll_none _ (List.mem_append_left _ h)
theorem bs_get {b : Addr} {o : Obj} (h : s.heap.get? b = some o) (n : b ∉ l) (n' : b ∉ frs X.stack) : (bsOf X s.heap l).get? b = some o :=
  PySem.W.hideAll_get _ h fun z => (List.mem_append.mp z).elim n n'
theorem bs_fun (I : Inv X [] σ H s) : s.heap.FunFrames (bsOf X s.heap l) X.stack := rebase I.stack fun a ha => PySem.W.hideAll_none _ (List.mem_append_right _ ha)
theorem land (F : Fnc X) (I : Inv X [] σ H s) (hl : ∀ b ∈ l, X.s₀.heap.get? b = none ∧ H b = none ∧ ∀ p ∈ X.pn, p.1 ≠ b) (hf : ∀ b ∈ l, ∃ o vs, s.heap.get? b = some o ∧ o.data = .fields vs) {h' : Heap}
    (st : (bsOf X s.heap l).StaysIn h') (up : s.heap.UpToSlots h') : Inv X [] σ H { s with heap := h' } := by
  have frD : ∀ b ∈ frs X.stack, ∃ o, s.heap.get? b = some o ∧ ∀ vs, o.data ≠ .fields vs := fun b hb => (I.stack.mem hb).2
  have nin : ∀ b ∈ l, b ∉ frs X.stack := fun b hb hz => by
    obtain ⟨o, vs, h1, h2⟩ := hf b hb
    obtain ⟨o', h1', h2'⟩ := frD b hz
    rw [h1] at h1'; cases h1'
    exact h2' vs h2
  have keep : ∀ b o, s.heap.get? b = some o → b ∉ l → b ∉ frs X.stack → h'.get? b = some o := fun b o q n n' => st b o (bs_get q n n')
  have any : ∀ b o, s.heap.get? b = some o → b ∉ l → ∃ sl, h'.get? b = some { o with slots := sl } := fun b o q n => by
    by_cases hb : b ∈ frs X.stack
    · obtain ⟨o', h1, h2⟩ := frD b hb
      rw [q] at h1; cases h1
      exact up b o q h2
    · exact ⟨o.slots, keep b o q n hb⟩
  have s0l : ∀ b o, X.s₀.heap.get? b = some o → b ∉ l := fun b o q z => by rw [(hl b z).1] at q; cases q
  have nex : ∀ b, b ∉ X.ex := fun b => by rw [F.ex]; simp
  have subf : ∀ b o, X.s₀.heap.get? b = some o → b ∉ X.fs → b ∉ frs X.stack := fun b o q n z => by
    rcases List.mem_cons.mp (I.stkSub b z) with e | e
    · exact absurd (Nat.lt_of_lt_of_le (Heap.lt_size q) I.ok.above) (by rw [← e]; exact Nat.lt_irrefl _)
    · exact n e
  have nL : X.env.locals ∉ l := fun z => by
    obtain ⟨o, vs, h1, h2⟩ := hf _ z
    obtain ⟨m, ⟨o', es, ep, h1', h2', _⟩, _⟩ := I.loc
    rw [h1] at h1'; cases h1'
    rw [h2] at h2'; cases h2'
  have nC : ∀ x c, X.env.cells.lookup x = some c → c ∉ l := fun x c q z => by
    obtain ⟨o, vs, h1, h2⟩ := hf _ z
    obtain ⟨v, o', h1', h2'⟩ := I.cell x c q
    rw [h1] at h1'; cases h1'
    rw [h2] at h2'; cases h2'
  have cellK : ∀ x c, X.env.cells.lookup x = some c → ∀ v, s.heap.IsCell c v → h'.IsCell c v := fun x c q v ⟨o, ho, hd⟩ => by
    obtain ⟨sl, k⟩ := any c o ho (nC x c q)
    exact ⟨_, k, hd⟩
  refine ⟨I.ok, I.os, I.bare, ⟨fun b o q n hb hx => ?_, fun b o q n hb hx => ?_, fun b o q n hx => I.base.free b o q n hx, fun b o q hx => ?_, I.base.tups, I.base.frzs, I.base.tbls⟩, ?_, fun x c q => ?_, I.free, I.freeC, fun p hp => ?_, ?_, I.len⟩
  · exact keep b o (I.base.keep b o q n hb hx) (s0l b o q) (subf b o q hb)
  · obtain ⟨sl, k⟩ := I.base.slot b o q n hb hx
    obtain ⟨sl', k'⟩ := any b _ k (s0l b o q)
    exact ⟨sl', k'⟩
  · obtain ⟨o', k⟩ := I.base.there b o q hx
    obtain ⟨sl', k'⟩ := any b _ k (s0l b o q)
    exact ⟨_, k'⟩
  · obtain ⟨m, ⟨o, es, ep, ho, hd, r⟩, hlk⟩ := I.loc
    obtain ⟨sl, k⟩ := any _ o ho nL
    refine ⟨m, ⟨_, es, ep, k, hd, r⟩, fun i x v e1 e2 e3 => ?_⟩
    obtain ⟨u, r, lk⟩ := hlk i x v e1 e2 e3
    refine ⟨u, r, ?_⟩
    rcases lk with lk | ⟨k, c, e, z⟩
    · exact .inl lk
    · exact .inr ⟨k, c, e, cellK x c e _ z⟩
  · obtain ⟨v, z⟩ := I.cell x c q
    exact ⟨v, cellK x c q v z⟩
  · obtain ⟨e1, n, ne, nf, d⟩ := I.pin p hp
    refine ⟨keep p.1 p.2 e1 (fun z => (hl p.1 z).2.2 p (by simpa using hp) rfl) fun z => ?_, n, ne, nf, d⟩
    rcases List.mem_cons.mp (I.stkSub p.1 z) with q | q
    · exact ne q
    · exact nf q
  · refine fun a o q => (I.hok a o q).stay (fun b u hb k => ?_) (fun _ q => q) fun _ _ q => q
    have hb' : H b ≠ none := by
      rcases hb with z | z
      · rw [z, q]; simp
      · rw [z]; simp
    exact keep b u k (fun z => hb' (hl b z).2.1) fun z => hb' (I.stkFree b z)
theorem land_tr (F : Fnc X) (I : Inv X [] σ H s) (hl : ∀ b ∈ l, X.s₀.heap.get? b = none ∧ H b = none ∧ ∀ p ∈ X.pn, p.1 ≠ b) (hel : e ∈ l) {h' : Heap} {f : Value}
    (fn : h'.FunFrames (bsOf X s.heap l) X.stack) (ht : TrP h' (bsOf X s.heap l) e (Phi X.base C) f) :
    ∃ l', Air X.base h' e C (some f) l' ∧ ∀ b ∈ l', X.s₀.heap.get? b = none ∧ H b = none ∧ ∀ p ∈ X.pn, p.1 ≠ b := by
  obtain ⟨oe, vs, T, oT, ts, he, hφ, hd, h1, hnT, hTe, hT, hdT, h3⟩ := ht
  have nfr : T ∉ frs X.stack := fun z => by
    obtain ⟨_, o, q1, q2⟩ := fn.mem z
    rw [hT] at q1; cases q1
    exact q2 ts hdT
  have tfree : ∀ o, s.heap.get? T = some o → T ∈ l := fun o q => by
    refine Classical.byContradiction fun n => ?_
    rw [bs_get q n nfr] at hnT; cases hnT
  refine ⟨[e, T], ⟨oe, vs, _, he, hφ.1, hd, ⟨hφ.2.choose_spec.1, hφ.2.choose_spec.2⟩, T, oT, ts, rfl, h1, hTe, hT, hdT, h3⟩, fun b hb => ?_⟩
  rcases List.mem_cons.mp hb with rfl | hb
  · exact hl _ hel
  · obtain rfl := List.mem_singleton.mp hb
    refine ⟨?_, ?_, fun p hp z => ?_⟩
    · cases q : X.s₀.heap.get? b with
      | none => rfl
      | some o =>
        obtain ⟨o', k⟩ := I.base.there b o q (by rw [F.ex]; simp)
        have := (hl b (tfree o' k)).1
        rw [q] at this; cases this
    · cases q : H b with
      | none => rfl
      | some o =>
        obtain ⟨o', k⟩ := (I.hok b o q).there
        have := (hl b (tfree o' k)).2.1
        rw [q] at this; cases this
    · obtain ⟨e1, _⟩ := I.pin p (by simpa using hp)
      rw [z] at e1
      exact (hl b (tfree _ e1)).2.2 p hp z
end
def XG (X : Cx) (G : Addr → St → Hp → Prop) (fl : Option Value) (u : Value) (s : Shared) : Prop :=
  ∃ e C l σ H, u = .ref e ∧ Inv X [] σ H s ∧ Air X.base s.heap e C fl l ∧ (∀ b ∈ l, X.s₀.heap.get? b = none ∧ H b = none ∧ ∀ p ∈ X.pn, p.1 ≠ b) ∧ G C σ H
def XF (X : Cx) (G : Addr → St → Hp → Prop) (u : Value) (s : Shared) : Prop :=
  ∃ fl, (fl = none ∨ fl = some .none ∨ fl = some (rawInt X.env.locals)) ∧ XG X G fl u s
def CXX (P : Program) (w : World) (b0 : Heap) : CXT := fun outer H s E u s' =>
  ∃ e C l H', u = .ref e ∧ E (.ref C) none H' ∧ s'.os = s.os ∧ AllBare s'.gens ∧ Un (frs outer) [] H H' s.heap s'.heap ∧ HOk P w H' s'.heap ∧ Air b0 s'.heap e C (some .none) l ∧ ∀ b ∈ l, s.heap.get? b = none ∧ H' b = none
section
variable {X : Cx} {G : Addr → St → Hp → Prop} {u : Value} {s : Shared}
theorem frames_of (F : Fnc X) {σ : St} {H : Hp} {pins : List (Addr × Obj)} (I : Inv X pins σ H s) : X.A.frames = some (X.env :: X.outer) := by rw [← F.stk]; exact I.ok.frames
theorem XF.note (F : Fnc X) {M : Model} {E : Value → Shared → Prop} {Q : Unit → Shared → Prop} (x : XF X G u s) (h : ∀ s', XG X G (some (rawInt X.env.locals)) u s' → Q () s') : wpAny M X.A (noteFrame u X.env) Q E s := by
  obtain ⟨fl, hfl, e, C, l, σ, H, rfl, I, a, hl, g⟩ := x
  have a' := a
  obtain ⟨oe, vs, a0, h1, h2, h3, h4, h5⟩ := a
  have fr := frames_of F I
  have fn : s.heap.FunFrames (bsOf X s.heap l) (X.env :: X.outer) := by rw [← F.stk]; exact bs_fun I
  have hen : (bsOf X s.heap l).get? e = none := bs_none a'.first
  have ph : Phi X.base C oe.cls vs := ⟨h2, a0, h4.1, h4.2⟩
  have fin : ∀ h', (bsOf X s.heap l).StaysIn h' → h'.FunFrames (bsOf X s.heap l) (X.env :: X.outer) → TrP h' (bsOf X s.heap l) e (Phi X.base C) (rawInt X.env.locals) → s.heap.UpToSlots h' → Q () { s with heap := h' } := fun h' k1 k2 k3 k4 => by
    rw [← F.stk] at k2
    obtain ⟨l', b1, b2⟩ := land_tr F I hl a'.first k2 k3
    exact h _ ⟨e, C, l', σ, H, rfl, land F I hl a'.flds k1 k4, b1, b2, g⟩
  rcases hfl with rfl | rfl | rfl
  · obtain ⟨rfl, h5⟩ := h5
    unfold noteFrame
    simp only [F.fr]
    refine wpAny_bind (wpAny_field h1 h3 h5 ?_)
    rw [if_neg (by decide)]
    exact entryP (fun _ _ _ p => p.set) fr fn F.fr h1 bs_stay hen h3 (Array.getElem?_eq_some_iff.mp h5).1 ph fin
  · obtain ⟨T, oT, ts, rfl, q1, q2, q3, q4, q5⟩ := h5
    exact noteP (fun _ _ _ p => p.set) fr fn F.fr ⟨oe, vs, T, oT, ts, h1, ph, h3, q1, bs_none (by simp), q2, q3, q4, q5⟩ bs_stay hen fin
  · obtain ⟨T, oT, ts, rfl, q1, q2, q3, q4, q5⟩ := h5
    refine againP (base := bsOf X s.heap [e, T]) (φ := Phi X.base C) F.fr ⟨oe, vs, T, oT, ts, h1, ph, h3, q1, bs_none (by simp), q2, q3, q4, q5⟩ ?_
    exact h _ ⟨e, C, _, σ, H, rfl, I, a', hl, g⟩
theorem XG.off (F : Fnc X) {M : Model} {A : Around} {E : Value → Shared → Prop} {Q : Unit → Shared → Prop} {f : Value} (x : XG X G (some f) u s) (h : ∀ s', XG X G (some .none) u s' → Q () s') : wpAny M A (setFlight u none) Q E s := by
  obtain ⟨e, C, l, σ, H, rfl, I, a, hl, g⟩ := x
  have a' := a
  obtain ⟨oe, vs, a0, h1, h2, h3, h4, h5⟩ := a
  obtain ⟨T, oT, ts, rfl, q1, q2, q3, q4, q5⟩ := h5
  have fn : s.heap.FunFrames (bsOf X s.heap [e, T]) X.stack := bs_fun I
  refine flightP (base := bsOf X s.heap [e, T]) (l := X.stack) (φ := Phi X.base C) (fl := f) bs_stay fn ⟨oe, vs, T, oT, ts, h1, ⟨h2, a0, h4.1, h4.2⟩, h3, q1, bs_none (by simp), q2, q3, q4, q5⟩ fun h' k1 k2 k3 k4 => ?_
  obtain ⟨l', b1, b2⟩ := land_tr F I hl a'.first k2 k3
  exact h _ ⟨e, C, l', σ, H, rfl, land F I hl a'.flds k1 (fun b o q n => ⟨o.slots, k4 b o q n⟩), b1, b2, g⟩
theorem XF.leaves (F : Fnc X) {E : XK} {EE : Value → Shared → Prop} (x : XF X G u s) (hG : ∀ C σ H, G C σ H → E (.ref C) none H) :
    wpAny (model X.prog X.w) X.A (leaving X.env u) (fun _ s'' => CXX X.prog X.w X.base X.outer X.H₀ X.s₀ E u s'') EE s := by
  unfold leaving
  refine wpAny_bind (x.note F fun s1 x1 => x1.off F fun s2 x2 => ?_)
  obtain ⟨e, C, l, σ, H, rfl, I, a, hl, g⟩ := x2
  refine ⟨e, C, l, H, rfl, hG C σ H g, I.os, I.bare, ?_, I.hok, a, fun b hb => ⟨(hl b hb).1, (hl b hb).2.1⟩⟩
  have b := I.base
  rw [F.ex] at b
  exact b
theorem XF.comes (F : Fnc X) {pins : List (Addr × Obj)} {σ : St} {H : Hp} {s' : Shared} (I : Inv X pins σ H s) (h : CXX X.prog X.w X.base X.stack H s (fun c _ H' => ∃ C, c = .ref C ∧ G C σ H') u s') : XF X G u s' := by
  obtain ⟨e, C, l, H', rfl, ⟨C', hc, g⟩, ho, hb, un, hok, a, hl⟩ := h
  cases hc
  have J : Inv X pins σ H' s' := I.call' (ch := []) ho un hok hb (fun b z => absurd z (by simp))
  refine ⟨_, .inr (.inl rfl), e, C, l, σ, H', rfl, J.pins_of fun p hp => (nomatch hp), a, fun b hb => ⟨?_, (hl b hb).2, fun p hp z => ?_⟩, g⟩
  rotate_left
  · obtain ⟨e1, _⟩ := I.pin p (List.mem_append_left _ hp)
    rw [z, (hl b hb).1] at e1; cases e1
  · cases q : X.s₀.heap.get? b with
    | none => rfl
    | some o =>
      obtain ⟨o', k⟩ := I.base.there b o q (by rw [F.ex]; simp)
      rw [(hl b hb).1] at k; cases k
end
def Out (X : Cx) (G : Addr → St → Hp → Prop) : Prop := ∀ u s, XF X G u s → X.xe u s
theorem out_of {P : Program} {w : World} {K : PySem.W.Frag} {mg : Str → Option Value} {base : Heap} {N : List Str} {qual : Str} {scope : Scope} {f : Addr} {cd : Value} {A : Around} {outer : List Env} {s : Shared} {H : Hp} {E : XK} :
    Out (cxOf (CXX P w base) P w K mg base N qual scope f cd A outer s H E) (fun C _ H' => E (.ref C) none H') := fun u s' x =>
  x.leaves fnc_of (E := E) fun _ _ _ g => g
theorem passes_of {P : Program} {w : World} {K : PySem.W.Frag} {mg : Str → Option Value} {base : Heap} {N : List Str} {qual : Str} {scope : Scope} {f : Addr} {cd : Value} {A : Around} {outer : List Env} {s : Shared} {H : Hp} {E : XK} {CX : CXT} :
    let X := cxOf CX P w K mg base N qual scope f cd A outer s H E
    PassesOwn (model X.prog X.w) X.A X.env X.xe := by
  intro X u s' h
  exact PassesOwn.leaving (Q₁ := fun u s'' => CX outer H s E u s'') u s' h
def xnames : List Str := ["__init__", "__getattribute__", "__getattr__", "__class__"]
inductive TailX (h : Heap) (bmB : List Value) : List Value → Prop
  | base : TailX h bmB bmB
  | own {A : Addr} {c0 : Value} {dd : Option Addr} {cd : ClassData} {sl : Array (Option Value)} {mA : Str → Option Value} {tl : List Value} :
      h.get? A = some { cls := c0, dict := dd, data := .cls cd, slots := sl } → h.Ns cd.ns mA → (∀ n ∈ xnames, mA n = none) → TailX h bmB tl → TailX h bmB (.ref A :: tl)
theorem TailX.tail {h : Heap} {bmB tl : List Value} (T : TailX h bmB tl) : OwnTail h bmB tl := by
  induction T with
  | base => exact .base
  | own hA hN hq _ ih => exact .own hA hN (hq _ (.head _)) ih
def XCls (K : PySem.W.Frag) (mg : Str → Option Value) (x : Str) (C : Addr) (ch : List Addr) (bm : List Value) (newId : String) : Prop := mg x = some (.ref C) ∧ ∀ h : Heap, K.In h →
  ∃ N nm q bs hdct sn sub ab col dd k0 k1 k2 k3 k5 mN, h.get? C = some (excClassObj nm q C N bs (ch.map Value.ref ++ bm) hdct sn sub ab col dd k0 k1 k2 k3 k5 newId) ∧ h.Ns N mN ∧ (∀ n ∈ xnames, mN n = none) ∧ TailX h bm (ch.map Value.ref ++ bm)
section
variable {X : Cx} {G : Addr → St → Hp → Prop}
theorem XF.made (F : Fnc X) {pins : List (Addr × Obj)} {σ : St} {H : Hp} {s : Shared} {h' : Heap} {e C : Addr} {oe : Obj} {vs : Array Value} {a0 : Value} (I : Inv X pins σ H s) (hk : ∀ b o, s.heap.get? b = some o → h'.get? b = some o) (hn : s.heap.get? e = none) (he : h'.get? e = some oe) (hc : oe.cls = .ref C)
    (hd : oe.data = .fields vs) (h0 : vs[0]? = some a0) (h1 : vs[1]? = some .none) (h2 : ∃ c, vs[2]? = some c ∧ Chn X.base.get? c) (g : G C σ H) : XF X G (.ref e) { s with heap := h' } := by
  have J : Inv X pins σ H { s with heap := h', toks := s.toks } := I.kept hk
  refine ⟨none, .inl rfl, e, C, [e], σ, H, rfl, J.pins_of fun p hp => ?_, ⟨_, _, _, he, hc, hd, ⟨h0, h2⟩, rfl, h1⟩, fun b hb => ?_, g⟩
  · exact nomatch hp
  · obtain rfl := List.mem_singleton.mp hb
    refine ⟨?_, ?_, fun p hp z => ?_⟩
    · cases q : X.s₀.heap.get? b with
      | none => rfl
      | some o =>
        obtain ⟨o', k⟩ := I.base.there b o q (by rw [F.ex]; simp)
        rw [hn] at k; cases k
    · cases q : H b with
      | none => rfl
      | some o =>
        obtain ⟨o', k⟩ := (I.hok b o q).there
        rw [hn] at k; cases k
    · obtain ⟨e1, _⟩ := I.pin p (List.mem_append_left _ hp)
      rw [z, hn] at e1; cases e1
section
variable {prog : Program} {w : World} {A : Around} {E : Value → Shared → Prop} {env : Env} {nm q : Str} {C N : Addr} {bs bm : List Value} {hdct : Bool} {sn : List Str} {sub : List Value} {ab : Bool} {col : Option Bool} {dd : Option Addr} {k0 k1 k2 k3 k5 : Option Value} {newId : String}
theorem raise_made {b : Addr → Option Obj} {s : Shared} {x : Sem Value} {Q : Flow → Shared → Prop} (hbase : bm.contains (.type "BaseException") = true) (hn : Hnd b A)
    (h : wpAny (model prog w) A x (fun v s₁ => ∃ e t, v = .ref e ∧ s₁.heap.get? C = some (excClassObj nm q C N bs bm hdct sn sub ab col dd k0 k1 k2 k3 k5 newId) ∧ s₁.heap.get? e = some { cls := .ref C, data := .fields #[.ref t, .none, .none, .none, .bool false, .none] } ∧
      (∀ a o, b a = some o → s₁.heap.get? a = some o) ∧ b e = none ∧ ∀ hp, hp = s₁.heap ∨ (∃ c, Chn b c ∧ hp = s₁.heap.update e (Obj.mapFields (·.setIfInBounds 2 c))) → E (.ref e) { s₁ with heap := hp }) E s) :
    wpAny (model prog w) A (raiseStmt env (some x) none) Q E s := by
  have hcB : (Value.ref C :: bm).contains (.type "BaseException") = true := by rw [List.contains_cons, hbase, Bool.or_true]
  unfold raiseStmt; refine wpAny_bind (wpAny_mono h (fun v s₁ h₁ => ?_) fun _ _ x => x)
  obtain ⟨e, t, rfl, hC, he, kb, hb, hE⟩ := h₁; obtain ⟨hp, g, d, tk, os⟩ := s₁
  repeat (first | with_reducible refine wpAny_loadPart_at he ?_ | with_reducible refine wpAny_loadPart_at hC ?_ | (with_reducible refine wpAny_isSubtype_exc hC ?_; rw [hcB]) | wp_step)
  exact raise_ok hn kb hb he rfl (show 2 < 6 by decide) hE
theorem raise_call {B initId : String} {bmB : List Value} {b : Addr → Option Obj} {s : Shared} (F : ExcBaseFacts B newId initId bmB) {mN : Str → Option Value} {x : Str} {np cpos pos : Pos} {args : List Expr} {Q : Flow → Shared → Prop} (hbase : bm.contains (.type "BaseException") = true) (hn : Hnd b A) (hplain : (backTo cpos (starEach args env)).any (·.1) = false) (hni : mN "__init__" = none)
    (h : wpAny (model prog w) A (eval (.Name x np) env) (fun f s₁ => f = .ref C ∧ wpAny (model prog w) A (evalArgs (.ref C) true (backTo cpos (starEach args env)) [])
      (fun a s₂ => a.kw = [] ∧ a.pos.length ≤ sizeLine ∧ s₂.heap.get? C = some (excClassObj nm q C N bs bm hdct sn sub ab col dd k0 k1 k2 k3 k5 newId) ∧ s₂.heap.Ns N mN ∧ OwnTail s₂.heap bmB bm ∧ (∀ a o, b a = some o → s₂.heap.get? a = some o) ∧
        ∀ h' e t, (∀ a o, s₂.heap.get? a = some o → h'.get? a = some o) → s₂.heap.get? e = none → (∃ c, Chn b c ∧ h'.get? e = some { cls := .ref C, data := .fields #[.ref t, .none, c, .none, .bool false, .none] }) → E (.ref e) { s₂ with heap := h' }) E s₁) E s) :
    wpAny (model prog w) A (exec (.Raise (some (.Call (.Name x np) args [] cpos)) none pos) env) Q E s := by
  rw [arm_exec_Raise]
  first
    | refine wpAny_bind (wpAny_standAt (raise_made (C := C) (nm := nm) (q := q) (N := N) (bs := bs) (bm := bm) (hdct := hdct) (sn := sn) (sub := sub) (ab := ab) (col := col) (dd := dd) (k0 := k0) (k1 := k1) (k2 := k2) (k3 := k3) (k5 := k5) (newId := newId) hbase hn (wpAny_bind (wpAny_mono (wpAny_Call_ofName (wpAny_mono h (fun f s₁ h₁ => ?_) fun _ _ x => x)) (fun v s₃ h₃ => wpAny_bind (wpAny_standAt (wpAny_pure h₃))) fun _ _ x => x))))
    | (simp only [evalOpt, Option.map]; refine wpAny_bind (wpAny_standAt (raise_made (C := C) (nm := nm) (q := q) (N := N) (bs := bs) (bm := bm) (hdct := hdct) (sn := sn) (sub := sub) (ab := ab) (col := col) (dd := dd) (k0 := k0) (k1 := k1) (k2 := k2) (k3 := k3) (k5 := k5) (newId := newId) hbase hn (wpAny_bind (wpAny_mono (wpAny_Call_ofName (wpAny_mono h (fun f s₁ h₁ => ?_) fun _ _ x => x)) (fun v s₃ h₃ => wpAny_bind (wpAny_standAt (wpAny_pure h₃))) fun _ _ x => x)))))
  obtain ⟨rfl, h₁⟩ := h₁; unfold callWith; refine wpAny_bind (wpAny_holding (wpAny_mono h₁ (fun a s₂ h₂ => wpAny_bind (wpAny_standAt ?_)) fun _ _ x => x))
  obtain ⟨apos, akw⟩ := a; obtain ⟨hkw, hlen, hC, hN, T, kb, h₂⟩ := h₂; obtain rfl : akw = [] := hkw; obtain ⟨hp, g, d, tk, os⟩ := s₂
  simp only [hplain]; refine wpAny_bind (wpAny_keeperOf_exc hC ?_); refine wpAny_bind (wpAny_call_exc_subT (hrest := hlen) F T hC hN hni fun h' e hm => wpAny_bind (wpAny_holding (wpAny_point (wpAny_pure ?_))))
  obtain ⟨t, ht, _, _⟩ := hm.there
  have bn : b e = none := by
    cases z : b e with
    | none => rfl
    | some o => have := kb e o z; rw [hm.new] at this; cases this
  refine ⟨e, t, rfl, hm.keeps _ _ hC, ht, fun a o z => hm.keeps _ _ (kb a o z), bn, fun hp' hh => ?_⟩
  rcases hh with rfl | ⟨c, hc, rfl⟩
  · exact h₂ _ e t hm.keeps hm.new ⟨_, .nil, ht⟩
  · refine h₂ _ e t (fun a o z => ?_) hm.new ⟨c, hc, Heap.get?_update_self _ ht rfl⟩
    rw [Heap.get?_update_other _ _ (fun y => by rw [← y, hm.new] at z; cases z)]; exact hm.keeps a o z
end
theorem ps_raise {x : Str} {C : Addr} {ch : List Addr} {B newId initId : String} {bm : List Value} {e₀ : Expr} {rest : List Expr} {t : TA} {np cpos pos : Pos} (F : Fnc X) (hc : X.calm = true) (ho : Out X G) (O : XCls X.K X.mg x C ch bm newId) (FB : ExcBaseFacts B newId initId bm)
    (hg : Gl X x) (ha : PA X (e₀ :: rest) t) (he : starEach (e₀ :: rest) X.env = (false, eval e₀ X.env) :: starEach rest X.env := by rfl)
    (hpl : (backTo cpos (starEach rest X.env)).any (·.1) = false := by rfl) (hd : (x == ("__debug__" : Str)) = false := by decide) :
    PS X (.Raise (some (.Call (.Name x np) (e₀ :: rest) [] cpos)) none pos) (fun D σ H => t σ H fun vs H1 => vs.length ≤ sizeLine ∧ G C σ H1) := by
  intro pins s σ H D I h
  obtain ⟨N, nm, q, bs, hdct, sn, sub, ab, col, dd, k0, k1, k2, k3, k5, mN, hC, hN, hni', T'⟩ := O.2 _ I.mod.kin
  have hni : mN "__init__" = none := hni' _ (.head _)
  have T := T'.tail
  refine raise_call (C := C) (nm := nm) (q := q) (N := N) (bs := bs) (bm := ch.map Value.ref ++ bm) (hdct := hdct) (sn := sn) (sub := sub) (ab := ab) (col := col) (dd := dd) (k0 := k0) (k1 := k1) (k2 := k2) (k3 := k3) (k5 := k5)
    FB (mN := mN) (T.hasType FB.hasBase) (I.ok.hd hc) (by rw [he]; show (false || (backTo cpos (starEach rest X.env)).any (·.1)) = false; rw [hpl]; rfl) hni (ld_glob I hg O.1 ⟨rfl, ?_⟩ hd)
  have ha' := ha cpos pins s σ H _ I h
  rw [he] at ha' ⊢
  refine Calls.evalArgs_plain (wpAny_mono ha' (fun vs s₂ ⟨xs, H1, I1, r1, z, g⟩ => ⟨rfl, ?_, I1.bk _ _ hC, hN.keeps I1.bk, T.keeps I1.bk, I1.bk, fun h' e t k n ⟨c, hc', q⟩ => ho _ _ (XF.made F I1 k n q rfl rfl rfl rfl ⟨c, rfl, hc'⟩ g)⟩) fun _ _ y => y)
  show vs.length ≤ sizeLine
  rw [← r1.length]; exact z
end
def tCallX (sp : Sp) (dvs : List V) (G : Addr → St → Hp → Prop) (t : TA) : TE := fun σ H Q => t σ H fun vs H1 => sp (vs ++ dvs) H1 Q (fun c _ H' => ∃ C, c = .ref C ∧ G C σ H')
section
variable {X : Cx} {G : Addr → St → Hp → Prop} {k : Nat} {f : Addr} {fd : FuncData} {ps : List Str} {sp : Sp} {dvs : List V} {ds : List Value} {x : Str} {p pos : Pos} {e : Expr} {es : List Expr} {t : TA}
theorem pe_callX (Fn : Fnc X) (ho : Out X G) (F : FnOk X.prog X.w X.K X.mg X.base (CXX X.prog X.w X.base) k f fd ps sp) (hr : Room (b := X.base) k X.A) (hg : Gl X x) (hm : X.mg x = some (.ref f)) (hk : PySem.W.keepIn X.K (.ref f) = true) (hb : Binds X.K fd ps ds) (hd : Vals dvs ds)
    (ha : PA X (e :: es) t) (hdb : (x == ("__debug__" : Str)) = false := by decide) (he : starEach (e :: es) X.env = (false, eval e X.env) :: starEach es X.env := by rfl) (hpl : (backTo pos (starEach es X.env)).any (·.1) = false := by rfl) :
    PE X (.Call (.Name x p) (e :: es) [] pos) (tCallX sp dvs G t) := by
  intro pins s σ H Q I h
  refine wpAny_Call_Name_kw (ld_glob I hg hm ?_ hdb)
  refine PySem.W.callWith_K (h₀ := X.base) I.ok.mod.kin hk (thn (ha pos pins s σ H _ I h) fun us s1 ⟨vs, H1, I1, r, q⟩ => ⟨I1.kIn, ?_⟩) he hpl
  have r2 : Vals (vs ++ dvs) (us ++ ds) := r.append hd
  have hl : (us ++ ds).length = ps.length := by rw [← r2.length]; exact F.len _ _ _ _ q
  refine wpAny_call (codeAny_mono (F.run X.A X.stack s1 H1 ⟨us, []⟩ (us ++ ds) (vs ++ dvs) Q _ hr I1.env0 (hb s1 us I1.kIn hl) r2 q) fun r s' hq => ?_)
  cases r with
  | error e => exact ho _ _ (XF.comes Fn I1 hq)
  | ok fl =>
    cases fl with
    | ret u => exact I1.after hq
    | next => exact False.elim hq
    | brk => exact False.elim hq
    | cont => exact False.elim hq
end
end L2
namespace L2
open PySem PySem.Spec PyProof.Rows
abbrev Cx.at (X : Cx) (pins : List (Addr × Obj)) (E : Value → Shared → Prop) : Cx := { X with pn := X.pn ++ pins, xe := E }
abbrev Cx.sui (X : Cx) (pins : List (Addr × Obj)) (e : Addr) : Cx := { X with pn := X.pn ++ pins, A := X.A.mark (some (.ref e)), calm := false, xe := fun _ _ => False }
section
variable {X : Cx} {pins : List (Addr × Obj)} {σ : St} {H : Hp} {s : Shared} {E : Value → Shared → Prop} {e : Addr}
theorem Cx.Ok.at (ok : X.Ok) : (X.at pins E).Ok :=
  ⟨ok.mod, ok.kind, ok.glob, ok.blt, ok.above, ok.inj, ok.has, ok.cab, ok.hd, ok.frames, ok.stk, ok.exf, ok.bs, ok.bsz, ok.noex, ok.exfs, ok.funs, ok.frf⟩
theorem Cx.Ok.unat (ok : (X.at pins E).Ok) : X.Ok :=
  ⟨ok.mod, ok.kind, ok.glob, ok.blt, ok.above, ok.inj, ok.has, ok.cab, ok.hd, ok.frames, ok.stk, ok.exf, ok.bs, ok.bsz, ok.noex, ok.exfs, ok.funs, ok.frf⟩
theorem Cx.Ok.sui (ok : X.Ok) : (X.sui pins e).Ok :=
  ⟨ok.mod, ok.kind, ok.glob, ok.blt, ok.above, ok.inj, ok.has, ok.cab, (fun z => nomatch z), ok.frames, ok.stk, ok.exf, ok.bs, ok.bsz, ok.noex, ok.exfs, ok.funs, ok.frf⟩
theorem Inv.at (I : Inv X pins σ H s) (E : Value → Shared → Prop) : Inv (X.at pins E) [] σ H s := ⟨I.ok.at, I.os, I.bare, I.base, I.loc, I.cell, I.free, I.freeC, fun p hp => I.pin p (by simpa using hp), I.hok, I.len⟩
theorem Inv.unat (I : Inv (X.at pins E) [] σ H s) : Inv X pins σ H s := ⟨I.ok.unat, I.os, I.bare, I.base, I.loc, I.cell, I.free, I.freeC, fun p hp => I.pin p (by simpa using hp), I.hok, I.len⟩
theorem Inv.sui (I : Inv X pins σ H s) (e : Addr) : Inv (X.sui pins e) [] σ H s := ⟨I.ok.sui, I.os, I.bare, I.base, I.loc, I.cell, I.free, I.freeC, fun p hp => I.pin p (by simpa using hp), I.hok, I.len⟩
theorem Inv.unsui (ok : X.Ok) (I : Inv (X.sui pins e) [] σ H s) : Inv X pins σ H s := ⟨ok, I.os, I.bare, I.base, I.loc, I.cell, I.free, I.freeC, fun p hp => I.pin p (by simpa using hp), I.hok, I.len⟩
theorem SP.unat {D : Ends} {f : Flow} {s' : Shared} (h : SP (X.at pins E) [] D f s') : SP X pins D f s' := by
  cases f with
  | next => obtain ⟨σ', H', I, q⟩ := h; exact ⟨σ', H', I.unat, q⟩
  | brk => obtain ⟨σ', H', I, q⟩ := h; exact ⟨σ', H', I.unat, q⟩
  | cont => obtain ⟨σ', H', I, q⟩ := h; exact ⟨σ', H', I.unat, q⟩
  | ret u => obtain ⟨v, σ', H', I, r, q⟩ := h; exact ⟨v, σ', H', I.unat, r, q⟩
end
def Apart (X : Cx) (pins : List (Addr × Obj)) (H : Hp) (l : List Addr) : Prop := ∀ b ∈ l, X.s₀.heap.get? b = none ∧ H b = none ∧ ∀ p ∈ X.pn ++ pins, p.1 ≠ b
def PH (X : Cx) (hs : List ExceptHandler) (th : Addr → TS) : Prop :=
  ∀ (pins : List (Addr × Obj)) (s : Shared) (σ : St) (H : Hp) (D : Ends) (e C : Addr) (l : List Addr), Inv X pins σ H s → Air X.base s.heap e C (some .none) l → Apart X pins H l → th C D σ H →
    wpAny (model X.prog X.w) X.A (handleBy (.ref e) X.env hs) (SP X pins D) X.xe s
def tTry (tb : (Addr → St → Hp → Prop) → TS) (th : Addr → TS) (te : TS) : TS := fun D σ H => ∃ G : Addr → St → Hp → Prop, tb G { D with nx := te D } σ H ∧ ∀ C σ' H', G C σ' H' → th C D σ' H'
def SubX (K : PySem.W.Frag) (C D : Addr) (b : Bool) : Prop := ∀ h : Heap, K.In h →
  (∃ nm q N bs bm hdct sn sub ab col dd k0 k1 k2 k3 k5 newId, h.get? C = some (excClassObj nm q C N bs bm hdct sn sub ab col dd k0 k1 k2 k3 k5 newId) ∧ (Value.ref C :: bm).contains (.ref D) = b) ∧
  (∃ nm q N bs bm hdct sn sub ab col dd k0 k1 k2 k3 k5 newId, h.get? D = some (excClassObj nm q D N bs bm hdct sn sub ab col dd k0 k1 k2 k3 k5 newId) ∧ (Value.ref D :: bm).contains (.type "BaseException") = true)
theorem matches_own {M : Model} {A : Around} {E : Value → Shared → Prop} {s : Shared} {K : PySem.W.Frag} {C D e : Addr} {b : Bool} {oe : Obj} {Q : Bool → Shared → Prop} (S : SubX K C D b) (X : K.In s.heap) (he : s.heap.get? e = some oe) (hcls : oe.cls = .ref C) (hq : Q b s) :
    wpAny M A (excMatches (.ref e) (.ref D)) Q E s := by
  obtain ⟨⟨nm, q, N, bs, bm, hdct, sn, sub, ab, col, dd, k0, k1, k2, k3, k5, newId, hC, hc⟩, ⟨nm', q', N', bs', bm', hdct', sn', sub', ab', col', dd', k0', k1', k2', k3', k5', newId', hD, hd⟩⟩ := S _ X
  obtain ⟨h, g, d, t, os⟩ := s
  have f := tc_notTuple
  unfold excMatches
  repeat (first | (with_reducible refine wpAny_loadPart_at he ?_; rw [hcls]) | with_reducible refine wpAny_loadPart_at hD ?_ | (with_reducible refine wpAny_isSubtype_exc hD ?_; rw [hd]) | (with_reducible refine wpAny_isSubtype_exc hC ?_; rw [hc]) | wp_step)
  cases b <;> (first | exact hq | (wp_walk; exact hq))
end L2
namespace L2
open PySem PySem.Spec PyProof.Rows
section
variable {X : Cx}
theorem ld_suite {pins : List (Addr × Obj)} {σ : St} {H : Hp} {s : Shared} {x : Str} {D e : Addr} {np : Pos} {E : Value → Shared → Prop} {Q : Value → Shared → Prop} (I : Inv X pins σ H s) (hg : Gl X x) (hm : X.mg x = some (.ref D)) (h : Q (.ref D) s)
    (hd : (x == ("__debug__" : Str)) = false) : wpAny (model X.prog X.w) (X.A.mark (some (.ref e))) (eval (.Name x np) X.env) Q E s :=
  ld_glob (X := X.sui pins e) (I.sui e) hg hm h hd
theorem unbind_ok {pins : List (Addr × Obj)} {σ : St} {H : Hp} {s : Shared} {A : Around} {M : Model} {i : Nat} {n : Str} {pos : Pos} {E : Value → Shared → Prop} {Q : Unit → Shared → Prop} (I : Inv X pins σ H s) (hN : X.N.Nodup) (hi : X.N[i]? = some n) (hk : X.env.scope.names.lookup n = some .local)
    (h : ∀ s', Inv X pins (σ.set i none) H s' → Q () s') : wpAny M A (do bindName X.env n .none; unbindBehindTheSuite X.env n pos) Q E s := by
  obtain ⟨m, hn, hl⟩ := id I.loc
  have hcls : (X.env.scope.kind == .class || (X.env.scope.kind == .module && X.env.locals != X.env.globals)) = false := by rw [I.ok.kind]; rfl
  refine wpAny_nameGoes_keeps hk hn hcls fun h' v hn' hs => ?_
  have cne := I.cne
  have sL : ∀ b o, X.s₀.heap.get? b = some o → b ≠ X.env.locals := fun b o q => Nat.ne_of_lt (Nat.lt_of_lt_of_le (Heap.lt_size q) I.ok.above)
  have hiσ : i < σ.length := by rw [I.len]; exact (List.getElem?_eq_some_iff.mp hi).1
  refine h _ ⟨I.ok, I.os, I.bare, ⟨fun b o q n hb hx => ?_, fun b o q n hb hx => ?_, I.base.free, fun b o q hx => ?_, I.base.tups, I.base.frzs, I.base.tbls⟩, ⟨_, hn', fun j y v' e1 e2 e3 => ?_⟩, fun y c e => ?_, I.free, I.freeC, fun p hp => ?_, ?_, by simpa using I.len⟩
  · exact (hs.2 b (sL b o q)).trans (I.base.keep b o q n hb hx)
  · obtain ⟨sl, e1⟩ := I.base.slot b o q n hb hx
    exact ⟨sl, (hs.2 b (sL b o q)).trans e1⟩
  · obtain ⟨o', e1⟩ := I.base.there b o q hx
    exact ⟨o', (hs.2 b (sL b o q)).trans e1⟩
  · by_cases hj : j = i
    · subst hj
      rw [List.getElem?_set_self hiσ] at e2
      cases e2
    · rw [List.getElem?_set_ne (Ne.symm hj)] at e2
      obtain ⟨u', r', q⟩ := hl j y v' e1 e2 e3
      refine ⟨u', r', ?_⟩
      rcases q with ⟨k, e⟩ | ⟨k, c, e, z⟩
      · refine .inl ⟨k, ?_⟩
        have : y ≠ n := fun e => hj (nodup_ix hN e1 (e ▸ hi))
        simp [this, e]
      · exact .inr ⟨k, c, e, z.sameBut hs (cne y c e)⟩
  · obtain ⟨w', z⟩ := I.cell y c e
    exact ⟨w', z.sameBut hs (cne y c e)⟩
  · obtain ⟨e, n, ne, nf, d⟩ := I.pin p hp
    exact ⟨(hs.2 p.1 ne).trans e, n, ne, nf, d⟩
  · intro b ob q
    refine (I.hok b ob q).stay (fun c w' hc k => (hs.2 c ?_).trans k) (fun _ q => q) fun _ _ q => q
    rintro rfl
    rcases hc with rfl | hc
    · rw [I.free] at q; cases q
    · rw [I.free] at hc; cases hc
def ExcO (e C : Addr) : HO := .ext fun h => ∃ o vs, h.get? e = some o ∧ o.cls = .ref C ∧ o.data = .fields vs
theorem Inv.adopt {pins : List (Addr × Obj)} {σ : St} {H : Hp} {s : Shared} {e C : Addr} {o : Obj} {vs : Array Value} (I : Inv X pins σ H s) (he : s.heap.get? e = some o) (hc : o.cls = .ref C) (hd : o.data = .fields vs)
    (h0 : X.s₀.heap.get? e = none) (hH : H e = none) (hp : ∀ p ∈ X.pn ++ pins, p.1 ≠ e) : Inv X pins σ (upd H e (ExcO e C)) s := by
  have ne : ∀ b, b ≠ e → upd H e (ExcO e C) b = H b := fun b n => upd_ne n
  have s0 : ∀ b o, X.s₀.heap.get? b = some o → b ≠ e := fun b o q z => by rw [z, h0] at q; cases q
  have hin : ∀ b u, H b = some u → b ≠ e := fun b u q z => by rw [z, hH] at q; cases q
  refine ⟨I.ok, I.os, I.bare, ⟨I.base.keep, I.base.slot, fun b o q n hx => ?_, I.base.there, fun b xs q => ?_, fun b o u q => ?_, fun b ps q => ?_⟩, I.loc, I.cell, ?_, fun x c q => ?_, fun p hp' => ?_, fun b u q => ?_, I.len⟩
  · rw [ne b (s0 b o q)]; exact I.base.free b o q n hx
  · have k := I.base.tups b xs q; rw [ne b (hin b _ k)]; exact k
  · have k := I.base.frzs b o u q; rw [ne b (hin b _ k)]; exact k
  · obtain ⟨m, k⟩ := I.base.tbls b ps q; exact ⟨m, by rw [ne b (hin b _ k)]; exact k⟩
  · rw [ne]
    · exact I.free
    · intro z
      obtain ⟨m, ⟨o', es, ep, h1', h2', _⟩, _⟩ := I.loc
      rw [z, he] at h1'; cases h1'
      rw [hd] at h2'; cases h2'
  · rw [ne]
    · exact I.freeC x c q
    · intro z
      obtain ⟨v, o', h1', h2'⟩ := I.cell x c q
      rw [z, he] at h1'; cases h1'
      rw [hd] at h2'; cases h2'
  · obtain ⟨e1, n, nl, nf, d⟩ := I.pin p hp'
    exact ⟨e1, by rw [ne _ (hp p hp')]; exact n, nl, nf, d⟩
  · by_cases z : b = e
    · subst z
      rw [upd_same] at q; cases q
      exact ⟨⟨o, vs, he, hc, hd⟩, ⟨o, he⟩, fun h1 h2 ⟨o', vs', q1, q2, q3⟩ k => ⟨o', vs', k _ q1, q2, q3⟩⟩
    · rw [ne b z] at q
      refine (I.hok b u q).stay (fun _ _ _ k => k) (fun c k => ?_) fun c xs k => ?_
      · rw [ne c (hin c _ k)]; exact k
      · rw [ne c (hin c _ k)]; exact k
theorem ph_as {x n : Str} {i : Nat} {D : Addr} {np pos : Pos} {b₀ : Stmt} {suite : List Stmt} {rest : List ExceptHandler} {ts : TS} {tr : Addr → TS} (F : Fnc X) (hN : X.N.Nodup) (hi : X.N[i]? = some n) (hk : X.env.scope.names.lookup n = some .local) (hg : Gl X x) (hm : X.mg x = some (.ref D)) (hs : ∀ pins e, PSs (X.sui pins e) (b₀ :: suite) ts) (hr : PH X rest tr)
    (hd : (x == ("__debug__" : Str)) = false := by decide) :
    PH X (.ExceptHandler (some (.Name x np)) (some n) (b₀ :: suite) pos :: rest) (fun C W σ H => ∃ b, SubX X.K C D b ∧ if b = true then ∀ e, H e = none →
      ts { nx := fun σ' H' => W.nx (σ'.set i none) H', rt := W.rt, bk := fun σ' H' => W.bk (σ'.set i none) H', ct := fun σ' H' => W.ct (σ'.set i none) H' } (σ.set i (some (.ref e))) (upd H e (ExcO e C)) else tr C W σ H) := by
  intro pins s σ H W e C l I a hl ⟨b, S, h⟩
  have a' := a
  obtain ⟨oe, vs, a0, h1, h2, h3, h4, h5⟩ := a
  refine wpAny_handleBy_cons (codeAny_handlers_test (ld_suite I hg hm ?_ hd)) (by intro q; cases q)
  refine matches_own S I.kIn h1 h2 ?_
  cases b with
  | false => exact hr pins s σ H W e C l I a' hl (by simpa using h)
  | true =>
    have F' : Fnc (X.sui pins e) := ⟨F.stk, F.fr, F.ex⟩
    have h := (show ∀ e, H e = none → _ from by simpa using h)
    refine codeAny_handlers_suite_as ?_
    refine XG.off (X := X.sui pins e) (G := fun C' σ' H' => C' = C ∧ σ' = σ ∧ H' = H) F' ⟨e, C, l, σ, H, rfl, I.sui e, a', fun b hb => hl b hb, rfl, rfl, rfl⟩ fun s2 x2 => ?_
    obtain ⟨e2, C2, l2, σ2, H2, he, J, a2, hl2, rfl, rfl, rfl⟩ := x2
    cases he
    obtain ⟨q1, q2, q3⟩ := hl2 e a2.first
    obtain ⟨oe2, vs2, a02, r1, r2, r3, _⟩ := a2
    have J2 := J.adopt r1 r2 r3 q1 q2 (by simpa using q3)
    refine store_ok (X := X.sui pins e) (v := .ref e) J2 hN hi (.inl hk) rfl (fun s3 J3 => ?_) (.inr hk)
    refine wpAny_mono (hs pins e [] s3 _ _ _ J3 (h e q2)) (fun f s4 q => ?_) fun _ _ z => z.elim
    cases f with
    | next => obtain ⟨σ', H', J4, q⟩ := q; exact unbind_ok (J4.unsui I.ok) hN hi hk fun s5 J5 => ⟨_, _, J5, q⟩
    | brk => obtain ⟨σ', H', J4, q⟩ := q; exact unbind_ok (J4.unsui I.ok) hN hi hk fun s5 J5 => ⟨_, _, J5, q⟩
    | cont => obtain ⟨σ', H', J4, q⟩ := q; exact unbind_ok (J4.unsui I.ok) hN hi hk fun s5 J5 => ⟨_, _, J5, q⟩
    | ret u => obtain ⟨v, σ', H', J4, r, q⟩ := q; exact unbind_ok (J4.unsui I.ok) hN hi hk fun s5 J5 => ⟨v, _, _, J5, r, q⟩
theorem ph_nil : PH X [] (fun _ _ _ _ => False) := fun _ _ _ _ _ _ _ _ _ _ _ h => h.elim
end
end L2
namespace L2
open PySem PySem.Spec PyProof.Rows
theorem lookX {M : Model} {A : Around} {E : Value → Shared → Prop} {h : Heap} {g : Array GenState} {d : Drawn} {t : Nat} {os : OsState} {bmB tl : List Value} {n : Str} {y : Option Value} {Q : Option Value → Shared → Prop} (hn : n ∈ xnames) (T : TailX h bmB tl) (hrest : lookupAlong bmB n = pure y) (hq : Q y ⟨h, g, d, t, os⟩) :
    wpAny M A (lookupAlong tl n) Q E ⟨h, g, d, t, os⟩ := by
  induction T with
  | base => rw [hrest]; exact wpAny_pure hq
  | own hA hN hni _ ih =>
    rw [lookupAlong_cons]
    refine wpAny_bind (wpAny_classOwn_cls hA hN ?_)
    rw [hni n hn]
    exact ih
section
variable {prog : Program} {w : World} {A : Around} {E : Value → Shared → Prop} {h : Heap} {g : Array GenState} {d : Drawn} {t : Nat} {os : OsState} {a : Addr} {o : Obj} {vs : Array Value}
  {nm q : Str} {C N : Addr} {bs bm bmB : List Value} {hdct : Bool} {sn : List Str} {sub : List Value} {ab : Bool} {col : Option Bool} {dd : Option Addr} {k0 k1 k2 k3 k5 : Option Value} {B newId : String} {mN : Str → Option Value}
theorem typeLookX {M : Model} {n : Str} {y : Option Value} {Q : Option Value → Shared → Prop} (hn : n ∈ xnames)
    (hC : h.get? C = some (excClassObj nm q C N bs bm hdct sn sub ab col dd k0 k1 k2 k3 k5 newId)) (hN : h.Ns N mN) (hmN : ∀ n ∈ xnames, mN n = none) (T : TailX h bmB bm) (hbm : mroOf (.type B) = pure bmB)
    (hB : typeLookup (.type B) n = pure y) (hq : Q y ⟨h, g, d, t, os⟩) : wpAny M A (typeLookup (.ref C) n) Q E ⟨h, g, d, t, os⟩ := by
  have hrest : lookupAlong bmB n = pure y := by rw [typeLookup_eq, hbm] at hB; exact hB
  rw [typeLookup_eq]
  refine wpAny_bind (wpAny_mroOf_exc hC ?_)
  rw [lookupAlong_cons]
  refine wpAny_bind (wpAny_classOwn_exc hC hN ?_)
  rw [hmN n hn]
  exact lookX hn T hrest hq
structure XBase (B : String) (bmB : List Value) : Prop extends ExcAttrBase B bmB where
  lkC : typeLookup (.type B) "__class__" = pure (some (.builtin "object.__class__"))
  hasObj : bmB.contains (.type "object") = true
theorem classX_get {R : Result → Shared → Prop} (FB : XBase B bmB) (hC : h.get? C = some (excClassObj nm q C N bs bm hdct sn sub ab col dd k0 k1 k2 k3 k5 newId)) (T : TailX h bmB bm)
    (hx : h.get? a = some o) (hc : o.cls = .ref C) (hd : o.data = .fields vs) (hq : R (.ok (.ret (.ref C))) ⟨h, g, d, t, os⟩) :
    codeAny (model prog w) A (.call (.builtin "getset_descriptor.__get__") ⟨[.builtin "object.__class__", .ref a, .ref C], []⟩) R ⟨h, g, d, t, os⟩ := by
  have hT5 : (⟨h, g, d, t, os⟩ : Shared).TypeIs (.builtin "object.__class__") "getset_descriptor" := F.typeOf_object_class
  have hcB : (Value.ref C :: bm).contains (.type (".".intercalate ("object.__class__".cutAt '.').dropLast)) = true := by
    rw [F.owner_object_class, List.contains_cons, T.tail.hasType FB.hasObj]; rfl
  refine codeAny_call_builtin F.slot_gs_get.plain F.entry_gs_get (F.slot_gs_get.check _ _ _ _ _ _ _ _ hT5 (F.args_gs_get _ _ _) ?_)
  repeat (any_goals (first | assumption | (with_reducible refine wpAny_loadPart_at hx ?_; rw [hc]) | (with_reducible refine wpAny_isSubtype_exc hC ?_; rw [hcB]) | wp_step))
  refine ⟨Code.quiet_builtin _ (by decide +kernel), codeAny_builtin F.entry_object_class ?_⟩
  repeat (any_goals (first | assumption | (with_reducible refine wpAny_loadPart_at hx ?_; rw [hc]) | wp_step))
theorem classX_check {M : Model} {nameV : Value} {Q : Unit → Shared → Prop} (FB : XBase B bmB) (hC : h.get? C = some (excClassObj nm q C N bs bm hdct sn sub ab col dd k0 k1 k2 k3 k5 newId)) (T : TailX h bmB bm)
    (hx : h.get? a = some o) (hc : o.cls = .ref C) (hq : Q () ⟨h, g, d, t, os⟩) : wpAny M A (checkBuiltinCall "BaseException.__getattribute__" ⟨[.ref a, nameV], []⟩) Q E ⟨h, g, d, t, os⟩ := by
  have hk : builtinKind "BaseException.__getattribute__" = some .slot := by decide +kernel
  have hsplit : splitId "BaseException.__getattribute__" = some ("BaseException", "__getattribute__") := by decide +kernel
  have hcB : (Value.ref C :: bm).contains (.type "BaseException") = true := by rw [List.contains_cons, T.tail.hasType FB.hasBase]; rfl
  have ha := F.args_bexc_ga (.ref a) nameV
  simp only [checkBuiltinCall, hk, hsplit]
  refine wpAny_bind ?_
  · unfold isInstance
    repeat (first | (with_reducible refine wpAny_loadPart_at hx ?_; rw [hc]) | (with_reducible refine wpAny_isSubtype_exc hC ?_; rw [hcB]) | wp_step)
    exact hq
theorem classX_entry {tk : Tok} {Q : Fin → Shared → Prop} (FB : XBase B bmB) (hC : h.get? C = some (excClassObj nm q C N bs bm hdct sn sub ab col dd k0 k1 k2 k3 k5 newId)) (hN : h.Ns N mN)
    (hmN : ∀ n ∈ xnames, mN n = none) (T : TailX h bmB bm) (hx : h.get? a = some o) (hc : o.cls = .ref C) (hd : o.data = .fields vs) (hq : Q (.done (.ret (.ref C))) ⟨h, g, d, t, os⟩) :
    wpAny (model prog w) A (Builtin.«object.__getattribute__» ⟨[.ref a, .str "__class__" tk], []⟩) Q E ⟨h, g, d, t, os⟩ := by
  have hT5 : (⟨h, g, d, t, os⟩ : Shared).TypeIs (.builtin "object.__class__") "getset_descriptor" := F.typeOf_object_class
  have f5 := F.typeOf_object_class
  have f6 := F.slot_gs_get.lookup
  have f7 := F.slot_gs_set.lookup
  have hmA : ("__class__" : Str) ∈ xnames := .tail _ (.tail _ (.tail _ (.head _)))
  repeat (any_goals (first | assumption | (with_reducible refine wpAny_loadPart_at hx ?_; rw [hc]) | with_reducible refine typeLookX hmA hC hN hmN T FB.mro FB.lkC ?_ | wp_step))
  refine classX_get FB hC T hx hc hd ?_
  repeat (any_goals (first | assumption | wp_step))
theorem classX_call {tk : Tok} {R : Result → Shared → Prop} (FB : XBase B bmB) (hC : h.get? C = some (excClassObj nm q C N bs bm hdct sn sub ab col dd k0 k1 k2 k3 k5 newId)) (hN : h.Ns N mN)
    (hmN : ∀ n ∈ xnames, mN n = none) (T : TailX h bmB bm) (hx : h.get? a = some o) (hc : o.cls = .ref C) (hd : o.data = .fields vs) (hq : R (.ok (.ret (.ref C))) ⟨h, g, d, t, os⟩) :
    codeAny (model prog w) A (.call (.builtin "BaseException.__getattribute__") ⟨[.ref a, .str "__class__" tk], []⟩) R ⟨h, g, d, t, os⟩ :=
  codeAny_call_builtin FB.ga.plain F.entry_bexc_ga (classX_check FB hC T hx hc (classX_entry FB hC hN hmN T hx hc hd hq))
theorem classX_by {tk : Tok} {Q : Value → Shared → Prop} (FB : XBase B bmB) (hC : h.get? C = some (excClassObj nm q C N bs bm hdct sn sub ab col dd k0 k1 k2 k3 k5 newId)) (hN : h.Ns N mN)
    (hmN : ∀ n ∈ xnames, mN n = none) (T : TailX h bmB bm) (hx : h.get? a = some o) (hc : o.cls = .ref C) (hd : o.data = .fields vs) (hq : Q (.ref C) ⟨h, g, d, t, os⟩) :
    wpAny (model prog w) A (getAttrBy (.ref a) (.str "__class__" tk) false) Q E ⟨h, g, d, t, os⟩ := by
  have f3 := FB.ga.bind (.ref a)
  have hx2 : (Value.builtin "BaseException.__getattribute__" == Value.builtin "object.__getattribute__") = false := by decide +kernel
  have hx1 : (onTheHeap (Value.ref C) && Value.builtin "BaseException.__getattribute__" == Value.builtin "object.__getattribute__") = false := by rw [hx2]; rfl
  have hm1 : ("__getattribute__" : Str) ∈ xnames := .tail _ (.head _)
  have hm2 : ("__getattr__" : Str) ∈ xnames := .tail _ (.tail _ (.head _))
  repeat (any_goals (first | assumption | (with_reducible refine wpAny_loadPart_at hx ?_; rw [hc]) | with_reducible refine typeLookX hm1 hC hN hmN T FB.mro FB.ga.lookup ?_ | with_reducible refine typeLookX hm2 hC hN hmN T FB.mro FB.noGetattr ?_ | wp_step))
  refine classX_call FB hC hN hmN T hx hc hd ?_
  repeat (any_goals (first | assumption | wp_step))
theorem classX_attr {Q : Option Value → Shared → Prop} (FB : XBase B bmB) (hC : h.get? C = some (excClassObj nm q C N bs bm hdct sn sub ab col dd k0 k1 k2 k3 k5 newId)) (hN : h.Ns N mN)
    (hmN : ∀ n ∈ xnames, mN n = none) (T : TailX h bmB bm) (hx : h.get? a = some o) (hc : o.cls = .ref C) (hd : o.data = .fields vs) (hq : Q (some (.ref C)) ⟨h, g, d, t + 1, os⟩) :
    wpAny (model prog w) A (getAttr? (.ref a) "__class__") Q E ⟨h, g, d, t, os⟩ := by
  unfold getAttr? getAttrBy?
  repeat (any_goals (first | assumption | with_reducible apply classX_by FB hC hN hmN T hx hc hd | wp_step))
end
end L2
namespace L2
open PySem PySem.Spec PyProof.Rows
theorem xbase_ValueError : XBase "ValueError" [.type "ValueError", .type "Exception", .type "BaseException", .type "object"] :=
  { PySem.F.attrBase_ValueError with lkC := by rw [typeLookup_type, builtinLookup_eq_fast]; kernel_rfl, hasObj := by decide }
theorem kitx_exc {K : PySem.W.Frag} {mg : Str → Option Value} {x : Str} {C e : Addr} {ch : List Addr} {B newId : String} {bm : List Value} (FB : XBase B bm) (O : XCls K mg x C ch bm newId) :
    PySem.W.KitX K (.ref e) (.ref C) (fun h => ∃ o vs, h.get? e = some o ∧ o.cls = .ref C ∧ o.data = .fields vs) where
  ty := fun M h X ⟨o, vs, h1, h2, h3⟩ => h2 ▸ (PySem.W.Looks.ld h1).andThen .now
  it := fun M h X _ => by
    obtain ⟨N, nm, q, bs, hdct, sn, sub, ab, col, dd, k0, k1, k2, k3, k5, mN, hC, hN, hni', T'⟩ := O.2 _ X
    intro A' Q' E' s' k q
    unfold isType loadHead
    exact wpAny_bind (wpAny_loadPart (k _ _ hC) (wpAny_pure q))
  ne := fun h tp dd' its n sl X htp => by
    obtain ⟨N, nm, q, bs, hdct, sn, sub, ab, col, dd, k0, k1, k2, k3, k5, mN, hC, hN, hni', T'⟩ := O.2 _ X
    refine Bool.eq_false_iff.mpr fun q => ?_
    have e : C = tp := Value.ref.inj (beq_iff_eq.mp q)
    subst e
    have z := congrArg Obj.cls (Option.some.inj (hC.symm.trans htp))
    exact absurd (Value.type.inj z) (by decide)
  ca := fun {prog w A E Q s} X ⟨o, vs, h1, h2, h3⟩ hq => by
    obtain ⟨N, nm, q, bs, hdct, sn, sub, ab, col, dd, k0, k1, k2, k3, k5, mN, hC, hN, hni', T'⟩ := O.2 _ X
    obtain ⟨hh, g, d, t, os⟩ := s
    exact classX_attr FB hC hN hni' T' h1 h2 h3 hq
def XKnown (K : PySem.W.Frag) (C : Addr) : Prop := ∃ mg x ch bm newId B, XBase B bm ∧ XCls K mg x C ch bm newId
def rInstX (K : PySem.W.Frag) : List V → Hp → VK → Prop := fun vs H Q => ∃ e c C b, vs = [.ref e, c] ∧ H e = some (ExcO e C) ∧ XKnown K C ∧ ((∃ D, c = .ref D ∧ PySem.W.kitOne K (.ref C) (.ref D) = some b) ∨ ∃ T, c = .ty T ∧ PySem.W.kitOne K (.ref C) (.type T) = some b) ∧ Q (.bl b) H
theorem call_instX {X : Cx} : CallR X (.builtin "isinstance") (rInstX X.K) := by
  intro pins s σ H xs us Q I r ⟨e, c, C, b, hv, he, ⟨mg, x, ch, bm, newId, B, FB, O⟩, hk, q⟩
  subst hv
  obtain ⟨u, u', rfl, ru, ru'⟩ := vals2 r
  cases (show u = Value.ref e from ru)
  have p : ∃ o vs, s.heap.get? e = some o ∧ o.cls = .ref C ∧ o.data = .fields vs := (I.hok e _ he).1
  rcases hk with ⟨D, rfl, k⟩ | ⟨T, rfl, k⟩
  · cases (show u' = Value.ref D from ru')
    exact PySem.W.kia_one (kitx_exc FB O) I.kIn p k (fun z => nomatch z) fun tk => ⟨.bl b, H, I.tok tk, rfl, q⟩
  · cases (show u' = Value.type T from ru')
    exact PySem.W.kia_one (kitx_exc FB O) I.kIn p k (fun z => nomatch z) fun tk => ⟨.bl b, H, I.tok tk, rfl, q⟩
theorem callX_inst {X : Cx} (K : PySem.W.Frag) (hK : X.K = K := by rfl) : CallR X (.builtin "isinstance") (rInstX K) := hK ▸ call_instX
structure RoomH (k : Nat) (A : Around) : Prop where
  dp : A.depth + 3 * k + 5 < recursionLimit
  un : A.units + 16 * k + 200 < cLine
structure FnOkH (P : Program) (w : World) (K : PySem.W.Frag) (mg : Str → Option Value) (base : Heap) (k : Nat) (f : Addr) (fd : FuncData) (ps : List Str) (sp : Sp) : Prop where
  len : ∀ vs H Q E, sp vs H Q E → vs.length = ps.length
  run : ∀ (A : Around) (outer : List Env) (s : Shared) (H : Hp) (args : Args) (us : List Value) (vs : List V) (Q : VK), RoomH k A → Env0 P w K mg base A outer s H → BindsTo s fd args (ps.zip us) → Vals vs us → sp vs H Q E0 →
    codeAny (model P w) A (.call (.ref f) args) (CR CX0 outer P w H s Q E0) s
theorem Fun.okX {P : Program} {w : World} {K : PySem.W.Frag} {mg : Str → Option Value} {base : Heap} {x qual : Str} {st : Stmt} {f : Addr} {fd : FuncData} {N ps : List Str} {k : Nat} {sp : Sp} (F : Fun K x qual st f fd) (S : FnScope N ps (defScope st)) (len : ∀ vs H Q E, sp vs H Q E → vs.length = ps.length)
    (hbody : ∀ (cdv : Value) (A : Around) (outer : List Env) (s : Shared) (H : Hp) (vs : List V) (Q : VK) (E : XK), Room (b := base) k (A.deeper (envOfC qual (defScope st) s.heap.objs.size f cdv)) → sp vs H Q E →
      ∃ t, PSs (cxOf (CXX P w base) P w K mg base N qual (defScope st) f cdv A outer s H E) (defBody st) t ∧ t { nx := fun _ H' => Q .non H', rt := Q } (start N vs) H) : FnOk P w K mg base (CXX P w base) (k + 1) f fd ps sp := by
  obtain ⟨oc, od, kV, doc, pm, an, cdv, ct, osl, rfl, lk, hcd⟩ := F.ex
  exact fn_of lk hcd S len fun A outer s H vs Q E hr hsp => hbody cdv A outer s H vs Q E hr hsp
section
variable {X : Cx} {k : Nat} {f : Addr} {fd : FuncData} {ps : List Str} {sp : Sp} {dvs : List V} {ds : List Value} {x : Str} {p pos : Pos} {e : Expr} {es : List Expr} {t : TA}
end
end L2
namespace L2
open PySem PySem.Spec PyProof.Rows
structure CNs (K : PySem.W.Frag) (N : Addr) : Prop where
  ok : ∃ oc od es ep sl, K.lookup N = some ⟨oc, od, .dict (List.toArray es) ep, sl⟩ ∧ (es.all fun e => match e.key with | .str _ _ => true | _ => false) = true
  n1 : PySem.W.nsIn K N "__init__" = some none
  n2 : PySem.W.nsIn K N "__getattribute__" = some none
  n3 : PySem.W.nsIn K N "__getattr__" = some none
  n4 : PySem.W.nsIn K N "__class__" = some none
theorem CNs.quiet {K : PySem.W.Frag} {h : Heap} {N : Addr} (c : CNs K N) (X : K.In h) : h.Ns N (h.nsMap N) ∧ ∀ n ∈ xnames, h.nsMap N n = none := by
  have ok : PySem.W.nsOkIn K N = true := by
    obtain ⟨oc, od, es, ep, sl, e, q⟩ := c.ok
    unfold PySem.W.nsOkIn
    rw [e]
    exact (List.all_toArray (l := es)).trans q
  refine ⟨.of_isNs (PySem.W.isNs_of_in X ok), fun n hn => PySem.W.nsMap_none_of_in X ok ?_⟩
  simp only [xnames, List.mem_cons, List.not_mem_nil, or_false] at hn
  rcases hn with rfl | rfl | rfl | rfl
  · exact c.n1
  · exact c.n2
  · exact c.n3
  · exact c.n4
section
variable {K : PySem.W.Frag} {mg : Str → Option Value} {x nm q nm' q' : Str} {C D N N' : Addr} {bm bs bs' bm' : List Value} {hdct hdct' : Bool} {sn sn' : List Str} {sub sub' : List Value} {ab ab' : Bool} {col col' : Option Bool} {dd dd' : Option Addr} {k0 k1 k2 k3 k5 k0' k1' k2' k3' k5' : Option Value} {newId newId' : String} {b : Bool}
theorem xcls0 (m : mg x = some (.ref C)) (l : K.lookup C = some (excClassObj nm q C N bs bm hdct sn sub ab col dd k0 k1 k2 k3 k5 newId)) (c : CNs K N) : XCls K mg x C [] bm newId :=
  ⟨m, fun h X => ⟨N, nm, q, bs, hdct, sn, sub, ab, col, dd, k0, k1, k2, k3, k5, _, X _ _ l, (c.quiet X).1, (c.quiet X).2, .base⟩⟩
theorem xcls1 (m : mg x = some (.ref C)) (l : K.lookup C = some (excClassObj nm q C N bs (.ref D :: bm) hdct sn sub ab col dd k0 k1 k2 k3 k5 newId)) (c : CNs K N)
    (l' : K.lookup D = some (excClassObj nm' q' D N' bs' bm hdct' sn' sub' ab' col' dd' k0' k1' k2' k3' k5' newId')) (c' : CNs K N') : XCls K mg x C [D] bm newId :=
  ⟨m, fun h X => ⟨N, nm, q, bs, hdct, sn, sub, ab, col, dd, k0, k1, k2, k3, k5, _, X _ _ l, (c.quiet X).1, (c.quiet X).2, .own (X _ _ l') (c'.quiet X).1 (c'.quiet X).2 .base⟩⟩
theorem subx_of (l : K.lookup C = some (excClassObj nm q C N bs bm hdct sn sub ab col dd k0 k1 k2 k3 k5 newId)) (l' : K.lookup D = some (excClassObj nm' q' D N' bs' bm' hdct' sn' sub' ab' col' dd' k0' k1' k2' k3' k5' newId'))
    (hb : bm'.contains (.type "BaseException") = true) (e : PySem.W.mroIn K C (.ref D) = some b) : SubX K C D b := by
  intro h X
  refine ⟨⟨nm, q, N, bs, bm, hdct, sn, sub, ab, col, dd, k0, k1, k2, k3, k5, newId, X _ _ l, ?_⟩, ⟨nm', q', N', bs', bm', hdct', sn', sub', ab', col', dd', k0', k1', k2', k3', k5', newId', X _ _ l', ?_⟩⟩
  · unfold PySem.W.mroIn PySem.W.clsIn at e
    rw [l] at e
    exact Option.some.inj e
  · rw [List.contains_cons, hb, Bool.or_true]
theorem known_of {ch : List Addr} (O : XCls K mg x C ch [.type "ValueError", .type "Exception", .type "BaseException", .type "object"] newId) : XKnown K C := ⟨mg, x, ch, _, newId, _, xbase_ValueError, O⟩
end
end L2
set_option Elab.async false
set_option linter.all false
set_option maxRecDepth 100000
set_option maxHeartbeats 4000000
namespace L2
open PySem PySem.Spec PyProof.Rows
abbrev TJ := Str → St → Hp → (Str → Hp → Prop) → Prop
def PJ (X : Cx) (es : List Expr) (t : TJ) : Prop :=
  ∀ (pins : List (Addr × Obj)) (s : Shared) (σ : St) (H : Hp) (acc : Str) (Q : Str → Hp → Prop), Inv X pins σ H s → t acc σ H Q → Joins (model X.prog X.w) X.A X.xe (evalEach es X.env) acc (fun out s₁ => ∃ H', Inv X pins σ H' s₁ ∧ Q out H') s
section
variable {X : Cx} {e v : Expr} {es : List Expr} {te : TE} {tr : TJ} {pos : Pos}
def tFs (tj : TJ) : TE := fun σ H Q => tj Str.empty σ H fun out H1 => out.length ≤ sizeLine ∧ Q (.str out) H1
theorem pe_fstr {v1 v2 : Expr} {rest : List Expr} {tj : TJ} (h : PJ X (v1 :: v2 :: rest) tj) : PE X (.JoinedStr (v1 :: v2 :: rest) pos) (tFs tj) := by
  intro pins s σ H Q I hq
  refine wpAny_JoinedStr ?_
  have k := h pins s σ H Str.empty _ I hq
  have mono : ∀ (l : List (Sem Value)) (acc : Str) (Q1 Q2 : Str → Shared → Prop) (s : Shared), (∀ o s, Q1 o s → Q2 o s) → Joins (model X.prog X.w) X.A X.xe l acc Q1 s → Joins (model X.prog X.w) X.A X.xe l acc Q2 s := by
    intro l
    induction l with
    | nil => intro acc Q1 Q2 s hm h; exact hm _ _ h
    | cons x r ih => intro acc Q1 Q2 s hm h; exact thn h fun v s1 ⟨y, t, e, hl, q⟩ => ⟨y, t, e, hl, ih _ _ _ _ hm q⟩
  exact mono _ _ _ _ _ (fun o s1 ⟨H', I', hl, q⟩ => ⟨hl, .str o, H', I'.tok _, ⟨_, rfl⟩, q⟩) k
end
theorem repr_fits {y : Str} (h : ∀ c ∈ y.cps.toList, c < 1114112) {n : Nat} (hn : 10 * y.length + 2 ≤ n) : (PySem.reprText y).length ≤ n :=
  Nat.le_trans (PySem.StrLaws.reprText_len y fun c hc => Nat.lt_trans (h c hc) (by decide)) hn
end L2
namespace L2
open PySem PySem.Spec PyProof.Rows
section
variable {σ : St} {H : Hp} {Q : VK} {D : Ends} {te : TE} {tr : TJ} {acc y : Str} {i : Int} {R : Str → Hp → Prop} {G : Addr → St → Hp → Prop} {sp : Sp} {dvs : List V} {t : TA}
theorem w_exStr {p : Str → Prop} : (∃ y', V.str y = V.str y' ∧ p y') = p y := propext ⟨fun ⟨_, e, h⟩ => by cases e; exact h, fun h => ⟨y, rfl, h⟩⟩
theorem w_orStr {p : Str → Prop} {q : Int → Prop} : ((∃ y', V.str y = V.str y' ∧ p y') ∨ ∃ i, V.str y = V.int i ∧ q i) = p y := propext ⟨fun h => by rcases h with ⟨_, e, h⟩ | ⟨_, e, _⟩ <;> cases e; exact h, fun h => .inl ⟨y, rfl, h⟩⟩
theorem w_orInt {p : Str → Prop} {q : Int → Prop} : ((∃ y', V.int i = V.str y' ∧ p y') ∨ ∃ j, V.int i = V.int j ∧ q j) = q i := propext ⟨fun h => by rcases h with ⟨_, e, _⟩ | ⟨_, e, h⟩ <;> cases e; exact h, fun h => .inr ⟨i, rfl, h⟩⟩
theorem w_callX : tCallX sp dvs G t σ H Q = t σ H fun vs H1 => sp (vs ++ dvs) H1 Q (fun c _ H' => ∃ C, c = .ref C ∧ G C σ H') := rfl
theorem w_try {tb : (Addr → St → Hp → Prop) → TS} {th : Addr → TS} {te : TS} : tTry tb th te D σ H = ∃ G : Addr → St → Hp → Prop, tb G { D with nx := te D } σ H ∧ ∀ C σ' H', G C σ' H' → th C D σ' H' := rfl
end
end L2
namespace L2
open PySem PySem.Spec PyProof.Rows
abbrev TM := St → Hp → (Hp → Prop) → Prop
def PMp (X : Cx) (e : Expr) (t : TM) : Prop :=
  ∀ (pins : List (Addr × Obj)) (s : Shared) (σ : St) (H : Hp) (R : Hp → Prop), Inv X pins σ H s → t σ H R → wpAny (model X.prog X.w) X.A (eval e X.env) (fun u s' => ∃ y t H', u = .str y t ∧ y.length ≤ 1000000 ∧ Inv X pins σ H' s' ∧ R H') X.xe s
def PM (X : Cx) (es : List Expr) (t : TM) : Prop :=
  ∀ (pins : List (Addr × Obj)) (s : Shared) (σ : St) (H : Hp) (acc : Str) (m : Nat) (R : Hp → Prop), Inv X pins σ H s → acc.length ≤ m → m + 1000000 * es.length ≤ 10000000 → t σ H R →
    Joins (model X.prog X.w) X.A X.xe (evalEach es X.env) acc (fun out s₁ => ∃ H', Inv X pins σ H' s₁ ∧ out.length ≤ 10000000 ∧ R H') s
section
variable {X : Cx} {e v : Expr} {es : List Expr} {te : TE} {tp tr : TM} {pos : Pos}
def tM0 : TM := fun _ H R => R H
def tMc (tp tr : TM) : TM := fun σ H R => tp σ H fun H1 => tr σ H1 R
theorem pm_nil : PM X [] tM0 := fun pins s σ H acc m R I ha hm h => ⟨H, I, by simp at hm; omega, h⟩
theorem pm_cons (he : PMp X e tp) (hr : PM X es tr) (hs : evalEach (e :: es) X.env = eval e X.env :: evalEach es X.env := by rfl) : PM X (e :: es) (tMc tp tr) := by
  intro pins s σ H acc m R I ha hm h
  rw [hs]
  simp only [List.length_cons] at hm
  refine thn (he pins s σ H _ I h) fun u s1 ⟨y, t, H1, hu, hy, I1, q⟩ => ?_
  subst hu
  have hl : (acc ++ y).length ≤ m + 1000000 := by rw [strLen_append]; omega
  have hz : (acc ++ y).length ≤ sizeLine := by have e := sizeLine_eq; omega
  exact ⟨y, t, rfl, hz, hr pins s1 σ H1 (acc ++ y) (m + 1000000) R I1 hl (by omega) q⟩
theorem pm_str {x : Str} {j : Nat} (h : x.length ≤ 1000000 := by decide) : PMp X (.Constant (.str x) j pos) tM0 := fun pins s σ H R I q => Calls.Constant_str ⟨x, _, H, rfl, h, I.tok _, q⟩
def tMr (te : TE) : TM := fun σ H R => te σ H fun x H1 => ((∃ y, x = .str y ∧ y.length ≤ 99000 ∧ (∀ c ∈ y.cps.toList, c < 1114112)) ∨ ∃ i : Int, x = .int i ∧ i.natAbs.log2 < 900) ∧ R H1
theorem pm_r (h : PE X v te) : PMp X (.FormattedValue v 114 none pos) (tMr te) := by
  intro pins s σ H R I hq
  refine wpAny_FormattedValue_repr (thn (h pins s σ H _ I hq) fun u s1 ⟨x, H1, I1, r, q, k⟩ => ?_)
  rcases q with ⟨y, rfl, hl, hc⟩ | ⟨i, rfl, hi⟩
  · obtain ⟨t, rfl⟩ := (show ∃ t, u = Value.str y t from r)
    have hl : (PySem.reprText y).length ≤ 1000000 := repr_fits hc (by omega)
    refine pyReprObj_str ?_ (Nat.le_trans hl (by rw [sizeLine_eq]; decide))
    exact wpAny_formatField_str ⟨_, _, H1, rfl, hl, I1.tok _, k⟩ ⟨_, _, H1, rfl, hl, I1.tok _, k⟩ (Nat.le_trans hl (by rw [sizeLine_eq]; decide))
  · obtain ⟨t, rfl⟩ := (show ∃ t, u = Value.int i t from r)
    have hl : (Str.ofString (toString i)).length ≤ 1000000 := by
      have e := int_text_length_le (k := 900) (by decide) hi
      rw [PySem.ofString_length]; omega
    refine pyReprObj_int (by omega) ?_
    exact wpAny_formatField_str ⟨_, _, H1, rfl, hl, I1.tok _, k⟩ ⟨_, _, H1, rfl, hl, I1.tok _, k⟩ (Nat.le_trans hl (by rw [sizeLine_eq]; decide))
def tMv (te : TE) : TM := fun σ H R => te σ H fun x H1 => ((∃ y, x = .str y ∧ y.length ≤ 1000000) ∨ ∃ i : Int, x = .int i ∧ i.natAbs.log2 < 900) ∧ R H1
theorem pm_v (h : PE X v te) : PMp X (.FormattedValue v (-1) none pos) (tMv te) := by
  intro pins s σ H R I hq
  refine wpAny_FormattedValue_plain (thn (h pins s σ H _ I hq) fun u s1 ⟨x, H1, I1, r, q, k⟩ => ?_)
  rcases q with ⟨y, rfl, hl⟩ | ⟨i, rfl, hi⟩
  · obtain ⟨t, rfl⟩ := (show ∃ t, u = Value.str y t from r)
    exact wpAny_formatField_str ⟨_, _, H1, rfl, hl, I1, k⟩ ⟨_, _, H1, rfl, hl, I1.tok _, k⟩ (Nat.le_trans hl (by rw [sizeLine_eq]; decide))
  · obtain ⟨t, rfl⟩ := (show ∃ t, u = Value.int i t from r)
    have hl : (Str.ofString (toString i)).length ≤ 1000000 := by
      have e := int_text_length_le (k := 900) (by decide) hi
      rw [PySem.ofString_length]; omega
    exact wpAny_formatField_int (by omega) ⟨_, _, H1, rfl, hl, I1.tok _, k⟩
def tMsg (tm : TM) : TE := fun σ H Q => tm σ H fun H1 => ∀ out : Str, out.length ≤ 10000000 → Q (.str out) H1
theorem pe_msg {v1 v2 : Expr} {rest : List Expr} {tm : TM} (h : PM X (v1 :: v2 :: rest) tm) (hn : (v1 :: v2 :: rest).length ≤ 10 := by decide) : PE X (.JoinedStr (v1 :: v2 :: rest) pos) (tMsg tm) := by
  intro pins s σ H Q I hq
  refine wpAny_JoinedStr ?_
  have k := h pins s σ H Str.empty 0 _ I (Nat.le_refl _) (by omega) hq
  have mono : ∀ (l : List (Sem Value)) (acc : Str) (Q1 Q2 : Str → Shared → Prop) (s : Shared), (∀ o s, Q1 o s → Q2 o s) → Joins (model X.prog X.w) X.A X.xe l acc Q1 s → Joins (model X.prog X.w) X.A X.xe l acc Q2 s := by
    intro l
    induction l with
    | nil => intro acc Q1 Q2 s hm h; exact hm _ _ h
    | cons x r ih => intro acc Q1 Q2 s hm h; exact thn h fun v s1 ⟨y, t, e, hl, q⟩ => ⟨y, t, e, hl, ih _ _ _ _ hm q⟩
  exact mono _ _ _ _ _ (fun o s1 ⟨H', I', hl, q⟩ => ⟨Nat.le_trans hl (by rw [sizeLine_eq]; decide), .str o, H', I'.tok _, ⟨_, rfl⟩, q o hl⟩) k
end
section
variable {σ : St} {H : Hp} {Q : VK} {te : TE} {tp tr tm : TM} {R : Hp → Prop} {y : Str} {i : Int}
theorem w_msg : tMsg tm σ H Q = tm σ H fun H1 => ∀ out : Str, out.length ≤ 10000000 → Q (.str out) H1 := rfl
theorem w_m0 : tM0 σ H R = R H := rfl
theorem w_mc : tMc tp tr σ H R = tp σ H fun H1 => tr σ H1 R := rfl
theorem w_mr : tMr te σ H R = te σ H fun x H1 => ((∃ y, x = .str y ∧ y.length ≤ 99000 ∧ (∀ c ∈ y.cps.toList, c < 1114112)) ∨ ∃ i : Int, x = .int i ∧ i.natAbs.log2 < 900) ∧ R H1 := rfl
theorem w_mv : tMv te σ H R = te σ H fun x H1 => ((∃ y, x = .str y ∧ y.length ≤ 1000000) ∨ ∃ i : Int, x = .int i ∧ i.natAbs.log2 < 900) ∧ R H1 := rfl
end
end L2
set_option Elab.async false
set_option linter.all false
set_option maxRecDepth 100000
set_option maxHeartbeats 4000000
namespace L2
open PySem PySem.Spec PyProof.Rows
section
variable {X : Cx} {G : Addr → St → Hp → Prop} {k : Nat} {f C : Addr} {fd : FuncData} {ps : List Str} {sp : Sp} {dvs : List V} {ds : List Value} {x m : Str} {p pos apos : Pos} {e o : Expr} {es : List Expr} {ta : TE} {t : TA}
theorem run_fnX (Fn : Fnc X) (ho : Out X G) {pins : List (Addr × Obj)} {σ : St} {H : Hp} {s : Shared} {Q : VK} {us : List Value} {vs : List V} (F : FnOk X.prog X.w X.K X.mg X.base (CXX X.prog X.w X.base) k f fd ps sp) (hr : Room (b := X.base) k X.A) (hb : Binds X.K fd ps ds) (hd : Vals dvs ds)
    (I : Inv X pins σ H s) (r : Vals vs us) (h : sp (vs ++ dvs) H Q (fun c _ H' => ∃ C, c = .ref C ∧ G C σ H')) : wpAny (model X.prog X.w) X.A (call (.ref f) us) (EP X pins σ Q) X.xe s := by
  have r2 : Vals (vs ++ dvs) (us ++ ds) := r.append hd
  have hl : (us ++ ds).length = ps.length := by rw [← r2.length]; exact F.len _ _ _ _ h
  refine wpAny_call (codeAny_mono (F.run X.A X.stack s H ⟨us, []⟩ (us ++ ds) (vs ++ dvs) Q _ hr I.env0 (hb s us I.kIn hl) r2 h) fun r s' hq => ?_)
  cases r with
  | error e => exact ho _ _ (XF.comes Fn I hq)
  | ok fl =>
    cases fl with
    | ret u => exact I.after hq
    | next => exact False.elim hq
    | brk => exact False.elim hq
    | cont => exact False.elim hq
def tMethX (C : Addr) (m : Str) (sp : Sp) (dvs : List V) (G : Addr → St → Hp → Prop) (ta : TE) (t : TA) : TE := fun σ H Q => ta σ H fun x H1 => ∃ a dx fs, x = .ref a ∧ H1 a = some (.ins C dx fs) ∧ fs.lookup m = none ∧
  t σ H1 fun vs H2 => sp (x :: (vs ++ dvs)) H2 Q (fun c _ H' => ∃ C, c = .ref C ∧ G C σ H')
theorem pe_methX {pl : Sem Bool} (Fn : Fnc X) (ho : Out X G) (he : PE X o ta) (c : Cls X.K C) (hm : Meth X.K C m f) (F : FnOk X.prog X.w X.K X.mg X.base (CXX X.prog X.w X.base) k f fd ps sp) (hr : Room (b := X.base) k X.A) (hb : Binds X.K fd ps ds) (hd : Vals dvs ds) (ha : PA X (e :: es) t)
    (hst : starEach (e :: es) X.env = (false, eval e X.env) :: starEach es X.env := by rfl) (hpl : (backTo pos (starEach es X.env)).any (·.1) = false := by rfl)
    (ht : eval (.Call (.Attribute o m apos) (e :: es) [] pos) X.env = (do
      let ov ← eval o X.env
      standAt apos.atName
      let (f, first) ← holding [ov] (getMethod ov m pl)
      callWith pos f first (backTo pos (starEach (e :: es) X.env)) (backToKw pos (keywordEach [] X.env))) := by rfl) :
    PE X (.Call (.Attribute o m apos) (e :: es) [] pos) (tMethX C m sp dvs G ta t) := by
  intro pins s σ H Q I h
  refine PySem.W.methodCall_KW (pl := pl) (thn (he pins s σ H _ I h) fun u s1 ⟨x, H1, I1, rx, a, dx, fs, ex, ea, l, q⟩ => ?_) ht
  subst ex
  obtain rfl : u = Value.ref a := rx
  refine getmeth_ok I1 ea c hm l ?_
  refine PySem.W.callWith_K (first := [.ref a]) (h₀ := X.base) I.ok.mod.kin hm.kp (thn (ha pos pins s1 σ H1 _ I1 q) fun us s2 ⟨vs, H2, I2, r, q2⟩ => ⟨I2.kIn, ?_⟩) hst hpl
  exact run_fnX Fn ho (us := .ref a :: us) (vs := .ref a :: vs) F hr hb hd I2 (.cons rfl r) q2
end
section
variable {K : PySem.W.Frag} {σ : St} {H : Hp} {Q : VK} {D : Ends} {ta tv : TE} {t : TA} {f m : Str} {p C : Addr} {sp : Sp} {dvs : List V} {E : XK} {G : Addr → St → Hp → Prop} {rd : V → V → Hp → VK → Prop}
theorem w_fld : tFld K ta f σ H Q = ta σ H fun x H1 => ∃ a C dx fs v, x = .ref a ∧ H1 a = some (.ins C dx fs) ∧ Cls K C ∧ NoAttr K C f ∧ fs.lookup f = some v ∧ Q v H1 := rfl
theorem w_sfld : sFld K ta tv f D σ H = tv σ H fun y H1 => ta σ H1 fun x H2 => ∃ a C dx fs, x = .ref a ∧ H2 a = some (.ins C dx fs) ∧ Cls K C ∧ NoAttr K C f ∧ fs.length < 1000 ∧ D.nx σ (upd H2 a (.ins C dx (putF f y fs))) := rfl
theorem w_meth : tMeth C m sp dvs E ta t σ H Q = ta σ H fun x H1 => ∃ a dx fs, x = .ref a ∧ H1 a = some (.ins C dx fs) ∧ fs.lookup m = none ∧ t σ H1 fun vs H2 => sp (x :: (vs ++ dvs)) H2 Q E := rfl
theorem w_methX : tMethX C m sp dvs G ta t σ H Q = ta σ H fun x H1 => ∃ a dx fs, x = .ref a ∧ H1 a = some (.ins C dx fs) ∧ fs.lookup m = none ∧ t σ H1 fun vs H2 => sp (x :: (vs ++ dvs)) H2 Q (fun c _ H' => ∃ C, c = .ref C ∧ G C σ H') := rfl
theorem w_make : tMake C sp dvs E t σ H Q = t σ H fun vs H1 => ∀ x dx, H1 x = none → H1 dx = none → dx ≠ x → sp (.ref x :: (vs ++ dvs)) (upd (upd H1 dx (.own x)) x (.ins C dx [])) (fun v H2 => v = .non ∧ Q (.ref x) H2) E := rfl
end
end L2
set_option Elab.async false
set_option linter.all false
set_option maxRecDepth 100000
set_option maxHeartbeats 4000000
namespace L2
open PySem PySem.Spec PyProof.Rows
def PE1 (X : Cx) (e : Expr) (t : TE) : Prop :=
  ∀ (pins : List (Addr × Obj)) (s : Shared) (σ : St) (H : Hp) (Q : VK), 1 ≤ s.toks → Inv X pins σ H s → t σ H Q → wpAny (model X.prog X.w) X.A (eval e X.env) (EP X pins σ Q) X.xe s
def PA1 (X : Cx) (es : List Expr) (t : TA) : Prop :=
  ∀ (pos : Pos) (pins : List (Addr × Obj)) (s : Shared) (σ : St) (H : Hp) (Q : List V → Hp → Prop), 1 ≤ s.toks → Inv X pins σ H s → t σ H Q → wpAny (model X.prog X.w) X.A (spliced (backTo pos (starEach es X.env))) (AP X pins σ Q) X.xe s
def PSs1 (X : Cx) (st : List Stmt) (t : TS) : Prop :=
  ∀ (pins : List (Addr × Obj)) (s : Shared) (σ : St) (H : Hp) (D : Ends), 1 ≤ s.toks → Inv X pins σ H s → t D σ H → wpAny (model X.prog X.w) X.A (execs st X.env) (SP X pins D) X.xe s
section
variable {X : Cx} {e : Expr} {es : List Expr} {st : Stmt} {rest : List Stmt} {te : TE} {ta : TA} {t u : TS} {pos : Pos}
theorem PE.up (h : PE X e te) : PE1 X e te := fun pins s σ H Q _ => h pins s σ H Q
theorem PA.up (h : PA X es ta) : PA1 X es ta := fun pos pins s σ H Q _ => h pos pins s σ H Q
theorem PS.up (h : PS X st t) : PS1 X st t := fun pins s σ H D _ => h pins s σ H D
theorem thn1 {α : Type} {x : Sem α} {Q Q' : α → Shared → Prop} {M : Model} {A : Around} {E : Value → Shared → Prop} {s : Shared} (ht : 1 ≤ s.toks) (h : wpAny M A x Q E s) (hQ : ∀ a s', 1 ≤ s'.toks → Q a s' → Q' a s') : wpAny M A x Q' E s :=
  wpAny_with_toks ht (wpAny_mono h (fun a s' q h1 => hQ a s' h1 q) fun _ _ y _ => y)
theorem pss_cons1 (h1 : PS1 X st t) (h2 : PSs1 X rest u) : PSs1 X (st :: rest) (tSeq t u) := by
  intro pins s σ H D ht I h
  refine wpAny_execs_cons (thn1 ht (h1 pins s σ H { D with nx := u D } ht I h) fun f s1 ht1 q => ?_)
  cases f with
  | next =>
    obtain ⟨σ', H', I', q⟩ := q
    exact h2 pins s1 σ' H' D ht1 I' q
  | ret v => exact q
  | brk => exact q
  | cont => exact q
theorem pss_one1 (h1 : PS1 X st t) : PSs1 X [st] t := by
  intro pins s σ H D ht I h
  refine wpAny_execs_cons (thn (h1 pins s σ H D ht I h) fun f s1 q => ?_)
  cases f with
  | next => obtain ⟨σ', H', I', q⟩ := q; exact wpAny_execs_nil ⟨σ', H', I', q⟩
  | ret v => exact q
  | brk => exact q
  | cont => exact q
theorem ps_set1 {i : Nat} {x : Str} {pos' : Pos} (hN : X.N.Nodup) (hi : X.N[i]? = some x) (hx : Loc X.env.scope x) (he : PE1 X e te) (hs : swapsWith e (some (.Name x pos')) pos.line X.env = pure false := by rfl) (hf : X.fn x = true ∨ X.env.scope.names.lookup x = some .local := by first | exact .inl rfl | exact .inr rfl | assumption) :
    PS1 X (.Assign [.Name x pos'] e pos) (tAsg te (gName i)) := by
  intro pins s σ H D ht I h
  refine wpAny_Assign_Name (thn (he pins s σ H _ ht I h) fun v s1 ⟨y, H1, I1, r1, q1⟩ => ?_) hs
  exact store_ok I1 hN hi hx r1 (fun s2 I2 => ⟨_, H1, I2, q1⟩) hf
theorem pa_cons1 (he : PE1 X e te) (hr : PA1 X es ta) (hs : starEach (e :: es) X.env = (false, eval e X.env) :: starEach es X.env := by rfl) : PA1 X (e :: es) (tCons te ta) := by
  intro pos pins s σ H Q ht I h
  rw [hs]
  show wpAny _ _ (spliced ((false, eval e X.env) :: backTo pos (starEach es X.env))) _ _ s
  refine Calls.spliced_cons (thn1 ht (he pins s σ H _ ht I h) fun u s1 ht1 ⟨x, H1, I1, r1, q1⟩ => ?_)
  exact thn (hr pos pins s1 σ H1 _ ht1 I1 q1) fun us s2 ⟨xs, H2, I2, r2, q2⟩ => ⟨x :: xs, H2, I2, .cons r1 r2, q2⟩
end
structure FnOk1 (P : Program) (w : World) (K : PySem.W.Frag) (mg : Str → Option Value) (base : Heap) (CX : CXT) (k : Nat) (f : Addr) (fd : FuncData) (ps : List Str) (sp : Sp) : Prop where
  len : ∀ vs H Q E, sp vs H Q E → vs.length = ps.length
  run : ∀ (A : Around) (outer : List Env) (s : Shared) (H : Hp) (args : Args) (us : List Value) (vs : List V) (Q : VK) (E : XK), 1 ≤ s.toks → Room (b := base) k A → Env0 P w K mg base A outer s H → BindsTo s fd args (ps.zip us) → Vals vs us → sp vs H Q E →
    codeAny (model P w) A (.call (.ref f) args) (CR CX outer P w H s Q E) s
theorem fn_of1 {CX : CXT} {P : Program} {w : World} {K : PySem.W.Frag} {mg : Str → Option Value} {base : Heap} {k : Nat} {f : Addr} {name qual : Str} {params : Arguments} {body : List Stmt} {scope : Scope} {dV kV doc pm cdv ct oc : Value} {an od : Option Addr}
    {osl : Array (Option Value)} {N ps : List Str} {sp : Sp} (lk : K.lookup f = some ⟨oc, od, .func (PySem.W.fnOf name qual params body scope dV kV doc pm an cdv ct), osl⟩) (hcd : PySem.W.codeIn K cdv qual = true) (S : FnScope N ps scope)
    (len : ∀ vs H Q E, sp vs H Q E → vs.length = ps.length)
    (hbody : ∀ (A : Around) (outer : List Env) (s : Shared) (H : Hp) (vs : List V) (Q : VK) (E : XK), Room (b := base) k (A.deeper (envOfC qual scope s.heap.objs.size f cdv)) → sp vs H Q E →
      ∃ t, PSs1 (cxOf CX P w K mg base N qual scope f cdv A outer s H E) body t ∧ t { nx := fun _ H' => Q .non H', rt := Q } (start N vs) H) :
    FnOk1 P w K mg base CX (k + 1) f (PySem.W.fnOf name qual params body scope dV kV doc pm an cdv ct) ps sp := by
  refine ⟨len, fun A outer s H args us vs Q E ht hr e0 hb r hsp => ?_⟩
  have hl := len _ _ _ _ hsp
  have KX : K.In s.heap := e0.mod.kin.keeps fun b o e => (e0.bs b o e).1
  have lim : s.heap.NoLimit := e0.mod.nolimit.keeps fun b o e => (e0.bs b o e).1
  have hkind : ∀ y ∈ ps.zip us, scope.names.lookup y.1 = some .local ∨ (scope.names.lookup y.1 = some .cell ∧ ((cellsFrom (s.heap.objs.size + 1) scope.names []).lookup y.1).isSome = true) := fun ⟨n, v⟩ hy => by
    rcases S.par n (List.of_mem_zip hy).1 with q | q
    · exact .inl q
    · exact .inr ⟨q, PySem.W.cellsFrom_some _ _ _ (.inl q)⟩
  refine codeAny_call_function hr.depth (KX _ _ lk) rfl S.co S.gen rfl (PySem.W.codeRec_of KX hcd) (hb _ _ _ _ ?_)
  refine wpAny_with_toks ht (wpAny_newFunctionEnv_cells S.kind hkind fun env he s1 x ht1 => ?_)
  subst he
  refine ⟨lim.keeps x.toInCall.keep, codeAny_func ?_⟩
  obtain ⟨t, htm, hq⟩ := hbody A outer s H vs Q E (hr.deeper _) hsp
  have I : Inv (cxOf CX P w K mg base N qual scope f cdv A outer s H E) [] (start N vs) H s1 := inv_start S hr.hd e0 hl r x
  refine wpAny_mono (htm [] s1 (start N vs) H _ ht1 I hq) (fun fl s' hs => ?_) fun e s' hs => hs
  have fin : ∀ {σ' : St} {H' : Hp} {v : V} {u : Value}, Inv (cxOf CX P w K mg base N qual scope f cdv A outer s H E) [] σ' H' s' → RelV v u → Q v H' → CE outer P w H s Q u s' :=
    fun {σ' H' v u} J rv q => ⟨v, H', J.os, J.bare, J.base, J.hok, rv, q⟩
  cases fl with
  | ret u =>
    obtain ⟨v, σ', H', J, rv, q⟩ := hs
    exact fin J rv q
  | next =>
    obtain ⟨σ', H', J, q⟩ := hs
    exact fin (v := V.non) (u := Value.none) J rfl q
  | brk =>
    obtain ⟨_, _, _, q⟩ := hs
    exact False.elim q
  | cont =>
    obtain ⟨_, _, _, q⟩ := hs
    exact False.elim q
theorem PSs1.nox {X : Cx} {st : List Stmt} {t : TS} (h : PSs1 X.nox st t) : PSs1 X st t := fun pins s σ H D ht I hw =>
  wpAny_mono (h pins s σ H D ht (I.wish _) hw) (fun _ _ q => SP.unwish q) fun _ _ z => z.elim
theorem Fun.ok1 {P : Program} {w : World} {K : PySem.W.Frag} {mg : Str → Option Value} {base : Heap} {x qual : Str} {st : Stmt} {f : Addr} {fd : FuncData} {N ps : List Str} {k : Nat} {sp : Sp} (F : Fun K x qual st f fd) (S : FnScope N ps (defScope st)) (len : ∀ vs H Q E, sp vs H Q E → vs.length = ps.length)
    (hbody : ∀ (cdv : Value) (A : Around) (outer : List Env) (s : Shared) (H : Hp) (vs : List V) (Q : VK) (E : XK), Room (b := base) k (A.deeper (envOfC qual (defScope st) s.heap.objs.size f cdv)) → sp vs H Q E →
      ∃ t, PSs1 (cxOf CX0 P w K mg base N qual (defScope st) f cdv A outer s H E).nox (defBody st) t ∧ t { nx := fun _ H' => Q .non H', rt := Q } (start N vs) H) : FnOk1 P w K mg base CX0 (k + 1) f fd ps sp := by
  obtain ⟨oc, od, kV, doc, pm, an, cdv, ct, osl, rfl, lk, hcd⟩ := F.ex
  refine fn_of1 lk hcd S len fun A outer s H vs Q E hr hsp => ?_
  obtain ⟨t, h, q⟩ := hbody cdv A outer s H vs Q E hr hsp
  exact ⟨t, h.nox, q⟩
section
variable {X : Cx} {CX : CXT} {k : Nat} {f C : Addr} {fd : FuncData} {ps : List Str} {sp : Sp} {dvs : List V} {ds : List Value} {E : XK} {x : Str} {p pos : Pos} {e : Expr} {es : List Expr} {t : TA}
end
end L2
namespace L2
open PySem PySem.Spec PyProof.Rows
section
variable {X : Cx} {CX : CXT} {k : Nat} {f C : Addr} {fd : FuncData} {ps : List Str} {sp : Sp} {dvs : List V} {ds : List Value} {E : XK} {x : Str} {p pos : Pos} {e : Expr} {es : List Expr} {te : TE} {t : TA} {tt u : TS} {st : Stmt} {rest : List Stmt}
theorem pe_make1 (M : Mk X.K C f) (F : FnOk X.prog X.w X.K X.mg X.base CX k f fd ps sp) (hr : Room (b := X.base) (k + 1) X.A) (hg : Gl X x) (hm : X.mg x = some (.ref C)) (hb : Binds X.K fd ps ds) (hd : Vals dvs ds) (hx : Passes CX X E)
    (ha : PA1 X (e :: es) t) (hdb : (x == ("__debug__" : Str)) = false := by decide) (he : starEach (e :: es) X.env = (false, eval e X.env) :: starEach es X.env := by rfl) (hpl : (backTo pos (starEach es X.env)).any (·.1) = false := by rfl) :
    PE1 X (.Call (.Name x p) (e :: es) [] pos) (tMake C sp dvs E t) := by
  intro pins s σ H Q ht I h
  refine wpAny_Call_Name_kw (ld_glob I hg hm ?_ hdb)
  refine PySem.W.callWith_K (h₀ := X.base) I.ok.mod.kin M.kp (thn (ha pos pins s σ H _ ht I h) fun us s1 ⟨vs, H1, I1, r, q⟩ => ⟨I1.kIn, ?_⟩) he hpl
  exact run_make M F hr hb hd hx I1 r q
theorem ps_try1 {body orelse : List Stmt} {h₀ : ExceptHandler} {hs : List ExceptHandler} {tb : (Addr → St → Hp → Prop) → TS} {th : Addr → TS} {te : TS} (F : Fnc X)
    (hb : ∀ G pins E, Fnc (X.at pins E) → Out (X.at pins E) G → PassesOwn (model X.prog X.w) X.A X.env E → PSs1 (X.at pins E) body (tb G)) (hh : PH X (h₀ :: hs) th) (he : PSs X orelse te) :
    PS1 X (.Try body (h₀ :: hs) orelse [] pos) (tTry tb th te) := by
  intro pins s σ H D ht I ⟨G, h1, h2⟩
  refine wpAny_Try_except ?_
  have F' : ∀ E, Fnc (X.at pins E) := fun E => ⟨F.stk, F.fr, F.ex⟩
  refine wpAny_mono (hb G pins (fun u s₁ => wpAny (model X.prog X.w) X.A (noteFrame u X.env) (fun _ s₂ => wpAny (model X.prog X.w) X.A (setFlight u none) (fun _ s₃ => wpAny (model X.prog X.w) X.A (handleBy u X.env (h₀ :: hs)) (SP X pins D) X.xe s₃) X.xe s₂) X.xe s₁) (F' _) ?_ ?_ [] s σ H { D with nx := te D } ht (I.at _) h1) (fun f s₁ hs => ?_) fun _ _ y => y
  · intro u s₁ x
    refine XF.note (X := X.at pins _) (F' _) x fun s2 x2 => ?_
    refine XG.off (X := X.at pins _) (F' _) x2 fun s3 x3 => ?_
    obtain ⟨e, C, l, σ', H', rfl, J, a, hl, g⟩ := x3
    exact hh pins s3 σ' H' D e C l J.unat a (fun b hb => hl b hb) (h2 C σ' H' g)
  · exact PassesOwn.looking (K := fun u s₂ => wpAny (model X.prog X.w) X.A (setFlight u none) (fun _ s₃ => wpAny (model X.prog X.w) X.A (handleBy u X.env (h₀ :: hs)) (SP X pins D) X.xe s₃) X.xe s₂)
  · cases f with
    | next =>
      obtain ⟨σ', H', J, q⟩ := hs
      exact he pins s₁ σ' H' D J.unat q
    | brk => exact SP.unat hs
    | cont => exact SP.unat hs
    | ret u => exact SP.unat hs
def PAb (X : Cx) (es : List Expr) (t : TA) : Prop :=
  ∀ (pos : Pos) (pins : List (Addr × Obj)) (s : Shared) (σ : St) (H : Hp) (Q : List V → Hp → Prop), Inv X pins σ H s → t σ H Q → wpAny (model X.prog X.w) X.A (spliced (backTo pos (starEach es X.env))) (fun us s' => 1 ≤ s'.toks ∧ AP X pins σ Q us s') X.xe s
def PSb (X : Cx) (st : Stmt) (t : TS) : Prop :=
  ∀ (pins : List (Addr × Obj)) (s : Shared) (σ : St) (H : Hp) (D : Ends), Inv X pins σ H s → t D σ H → wpAny (model X.prog X.w) X.A (exec st X.env) (fun f s' => 1 ≤ s'.toks ∧ SP X pins D f s') X.xe s
def PEb (X : Cx) (e : Expr) (t : TE) : Prop :=
  ∀ (pins : List (Addr × Obj)) (s : Shared) (σ : St) (H : Hp) (Q : VK), Inv X pins σ H s → t σ H Q → wpAny (model X.prog X.w) X.A (eval e X.env) (fun u s' => 1 ≤ s'.toks ∧ EP X pins σ Q u s') X.xe s
theorem keepT {α : Type} {x : Sem α} {Q : α → Shared → Prop} {M : Model} {A : Around} {E : Value → Shared → Prop} {s : Shared} (ht : 1 ≤ s.toks) (h : wpAny M A x Q E s) : wpAny M A x (fun a s' => 1 ≤ s'.toks ∧ Q a s') E s := thn1 ht h fun _ _ h1 q => ⟨h1, q⟩
theorem pa_int_b {i : Int} {j : Nat} {q : Pos} (hr : PA X es t) (hs : starEach (.Constant (.int i) j q :: es) X.env = (false, eval (.Constant (.int i) j q) X.env) :: starEach es X.env := by rfl) : PAb X (.Constant (.int i) j q :: es) (tCons (tC (.int i)) t) := by
  intro pos pins s σ H Q I h
  rw [hs]
  show wpAny _ _ (spliced ((false, eval (.Constant (.int i) j q) X.env) :: backTo pos (starEach es X.env))) _ _ s
  refine Calls.spliced_cons (wpAny_Constant_int ?_)
  exact thn (keepT (by show 1 ≤ s.toks + 1; omega) (hr pos pins { s with toks := s.toks + 1 } σ H _ (I.tok _) h)) fun us s2 ⟨h1, xs, H2, I2, r2, q2⟩ => ⟨h1, .int i :: xs, H2, I2, .cons ⟨_, rfl⟩ r2, q2⟩
theorem pa_cons_b (he : PE X e te) (hr : PAb X es t) (hs : starEach (e :: es) X.env = (false, eval e X.env) :: starEach es X.env := by rfl) : PAb X (e :: es) (tCons te t) := by
  intro pos pins s σ H Q I h
  rw [hs]
  show wpAny _ _ (spliced ((false, eval e X.env) :: backTo pos (starEach es X.env))) _ _ s
  refine Calls.spliced_cons (thn (he pins s σ H _ I h) fun u s1 ⟨x, H1, I1, r1, q1⟩ => ?_)
  exact thn (hr pos pins s1 σ H1 _ I1 q1) fun us s2 ⟨h1, xs, H2, I2, r2, q2⟩ => ⟨h1, x :: xs, H2, I2, .cons r1 r2, q2⟩
theorem pe_call_b (F : FnOk X.prog X.w X.K X.mg X.base CX k f fd ps sp) (hr : Room (b := X.base) k X.A) (hg : Gl X x) (hm : X.mg x = some (.ref f)) (hk : PySem.W.keepIn X.K (.ref f) = true) (hb : Binds X.K fd ps ds) (hd : Vals dvs ds) (hx : Passes CX X E)
    (ha : PAb X (e :: es) t) (hdb : (x == ("__debug__" : Str)) = false := by decide) (he : starEach (e :: es) X.env = (false, eval e X.env) :: starEach es X.env := by rfl) (hpl : (backTo pos (starEach es X.env)).any (·.1) = false := by rfl) :
    PEb X (.Call (.Name x p) (e :: es) [] pos) (tCall sp dvs E t) := by
  intro pins s σ H Q I h
  refine wpAny_Call_Name_kw (ld_glob I hg hm ?_ hdb)
  refine PySem.W.callWith_K (h₀ := X.base) I.ok.mod.kin hk (thn (ha pos pins s σ H _ I h) fun us s1 ⟨h1, vs, H1, I1, r, q⟩ => ⟨I1.kIn, ?_⟩) he hpl
  exact keepT h1 (run_fn F hr hb hd hx I1 r q)
theorem ps_set_b {i : Nat} {pos' : Pos} (hN : X.N.Nodup) (hi : X.N[i]? = some x) (hx : Loc X.env.scope x) (he : PEb X e te) (hs : swapsWith e (some (.Name x pos')) pos.line X.env = pure false := by rfl) (hf : X.fn x = true ∨ X.env.scope.names.lookup x = some .local := by first | exact .inl rfl | exact .inr rfl | assumption) :
    PSb X (.Assign [.Name x pos'] e pos) (tAsg te (gName i)) := by
  intro pins s σ H D I h
  refine wpAny_Assign_Name (thn (he pins s σ H _ I h) fun v s1 ⟨h1, y, H1, I1, r1, q1⟩ => ?_) hs
  exact keepT h1 (store_ok I1 hN hi hx r1 (fun s2 I2 => ⟨_, H1, I2, q1⟩) hf)
theorem pss_cons_b (h1 : PSb X st tt) (h2 : PSs1 X rest u) : PSs X (st :: rest) (tSeq tt u) := by
  intro pins s σ H D I h
  refine wpAny_execs_cons (thn (h1 pins s σ H { D with nx := u D } I h) fun f s1 ⟨ht1, q⟩ => ?_)
  cases f with
  | next =>
    obtain ⟨σ', H', I', q⟩ := q
    exact h2 pins s1 σ' H' D ht1 I' q
  | ret v => exact q
  | brk => exact q
  | cont => exact q
end
end L2
set_option Elab.async false
set_option linter.all false
set_option maxRecDepth 100000
set_option maxHeartbeats 4000000
namespace L2
open PySem PySem.Spec PyProof.Rows
def putC (c : Nat) (z l : List Nat) : List Nat := l.flatMap fun d => if d = c then z else [d]
theorem putC_append (c : Nat) (z a b : List Nat) : putC c z (a ++ b) = putC c z a ++ putC c z b := by unfold putC; rw [List.flatMap_append]
theorem putC_free (c : Nat) (z : List Nat) : ∀ l : List Nat, c ∉ l → putC c z l = l
  | [], _ => rfl
  | k :: r, h => by
    have h1 : ¬ k = c := fun e => h (e ▸ List.mem_cons_self ..)
    have h2 : c ∉ r := fun m => h (List.mem_cons_of_mem _ m)
    have ih := putC_free c z r h2
    unfold putC at ih ⊢
    rw [List.flatMap_cons, if_neg h1, ih]
    rfl
theorem putC_one (c : Nat) (z : List Nat) : putC c z [c] = z := by simp [putC]
theorem putC_join (c : Nat) (z : Str) : ∀ parts : List Str, (∀ p ∈ parts, c ∉ p.cps.toList) → putC c z.cps.toList (Str.join ⟨#[c]⟩ parts).cps.toList = (Str.join z parts).cps.toList
  | [], _ => rfl
  | [p], h => putC_free c _ _ (h p (List.mem_singleton.mpr rfl))
  | p :: q :: r, h => by
    have ih := putC_join c z (q :: r) fun a ha => h a (List.mem_cons_of_mem _ ha)
    show putC c z.cps.toList (p ++ ⟨#[c]⟩ ++ Str.join ⟨#[c]⟩ (q :: r)).cps.toList = (p ++ z ++ Str.join z (q :: r)).cps.toList
    simp only [Str.cps_append, Array.toList_append]
    rw [putC_append, putC_append, ih, putC_free c _ _ (h p (List.mem_cons_self ..))]
    show p.cps.toList ++ putC c z.cps.toList [c] ++ _ = _
    rw [putC_one]
theorem replace_any (x z : Str) (c : Nat) : (Txt.replace x ⟨#[c]⟩ z).cps.toList = putC c z.cps.toList x.cps.toList := by
  rw [StrLaws.replace_one, ← putC_join c z _ (StrLaws.split_free x c), StrLaws.join_split]
theorem len_list (x : Str) : x.length = x.cps.toList.length := by simp [Str.length]
theorem replS_list (a b x : Str) (c : Nat) : (replS a b x c).cps.toList = putC c (a.cps.toList ++ [c] ++ b.cps.toList) x.cps.toList := by
  unfold replS
  rw [replace_any]
  simp [Str.cps_append]
theorem join_cons (c : Nat) (p : Str) : ∀ {r : List Str}, r ≠ [] → (Str.join ⟨#[c]⟩ (p :: r)).cps.toList = p.cps.toList ++ c :: (Str.join ⟨#[c]⟩ r).cps.toList
  | [], h => absurd rfl h
  | q :: r, _ => by
    show (p ++ ⟨#[c]⟩ ++ Str.join ⟨#[c]⟩ (q :: r)).cps.toList = _
    simp [Str.cps_append]
theorem str_ext {a b : Str} (h : a.cps.toList = b.cps.toList) : a = b := by
  obtain ⟨⟨a⟩⟩ := a
  obtain ⟨⟨b⟩⟩ := b
  simp at h
  rw [h]
theorem split_ne (x y : Str) : Txt.split x y ≠ [] := by
  unfold Txt.split
  split
  · simp
  · split
    · simp
    · intro h
      have := congrArg List.length h
      rw [length_partsBetween] at this
      simp at this
end L2
set_option Elab.async false
set_option linter.all false
set_option maxRecDepth 100000
set_option maxHeartbeats 4000000
namespace L2
open PySem PySem.Spec PyProof.Rows
def flushW (acc : List Nat) : List (List Nat) := if acc = [] then [] else [acc]
def wd (acc : List Nat) : List Nat → List (List Nat)
  | [] => flushW acc
  | c :: r => if c = 32 then flushW acc ++ wd [] r else wd (acc ++ [c]) r
theorem wd_free : ∀ (p acc r : List Nat), 32 ∉ p → wd acc (p ++ r) = wd (acc ++ p) r
  | [], acc, r, _ => by simp
  | c :: p, acc, r, h => by
    have h1 : c ≠ 32 := fun e => h (e ▸ List.mem_cons_self ..)
    have h2 : 32 ∉ p := fun m => h (List.mem_cons_of_mem _ m)
    show (if c = 32 then _ else wd (acc ++ [c]) (p ++ r)) = _
    rw [if_neg h1, wd_free p (acc ++ [c]) r h2]
    simp
theorem wd_join : ∀ {parts : List Str}, parts ≠ [] → (∀ p ∈ parts, 32 ∉ p.cps.toList) → wd [] (Str.join " " parts).cps.toList = (parts.filter fun r : Str => !decide (r = "")).map fun r => r.cps.toList
  | [], h, _ => absurd rfl h
  | [p], _, h => by
    have e := wd_free p.cps.toList [] [] (h p (List.mem_singleton.mpr rfl))
    rw [List.append_nil, List.nil_append] at e
    show wd [] p.cps.toList = _
    rw [e]
    by_cases hz : p = ""
    · subst hz; rfl
    · have : p.cps.toList ≠ [] := fun e => hz (str_ext e)
      simp [wd, flushW, this, hz]
  | p :: q :: r, _, h => by
    have ih := wd_join (parts := q :: r) (by simp) fun a ha => h a (List.mem_cons_of_mem _ ha)
    have e : (Str.join " " (p :: q :: r)).cps.toList = p.cps.toList ++ 32 :: (Str.join " " (q :: r)).cps.toList := join_cons 32 p (by simp)
    rw [e, wd_free _ _ _ (h p (List.mem_cons_self ..)), List.nil_append]
    show (if (32 : Nat) = 32 then flushW p.cps.toList ++ wd [] _ else _) = _
    rw [if_pos rfl, ih]
    by_cases hz : p = ""
    · subst hz; rfl
    · have : p.cps.toList ≠ [] := fun e => hz (str_ext e)
      rw [List.filter_cons_of_pos (a := p) (l := q :: r) (by simp [hz]), List.map_cons]
      unfold flushW
      rw [if_neg this]
      rfl
theorem split_words (x : Str) : ((Txt.split x " ").filter fun r : Str => !decide (r = "")).map (fun r => r.cps.toList) = wd [] x.cps.toList := by
  have h := wd_join (split_ne x " ") (fun p hp => StrLaws.split_free x 32 p hp)
  have e : Str.join " " (Txt.split x " ") = x := StrLaws.join_split x " "
  rw [e] at h
  exact h.symm
def sgn (c : Nat) : Prop := c = 40 ∨ c = 41 ∨ c = 44
instance (c : Nat) : Decidable (sgn c) := by unfold sgn; infer_instance
def padL (l : List Nat) : List Nat := l.flatMap fun c => if sgn c then [32, c, 32] else [c]
theorem padL_of (l : List Nat) : putC 44 [32, 44, 32] (putC 41 [32, 41, 32] (putC 40 [32, 40, 32] l)) = padL l := by
  induction l with
  | nil => rfl
  | cons c r ih =>
    have e : ∀ (k : Nat) (z a b : List Nat), putC k z (a ++ b) = putC k z a ++ putC k z b := putC_append
    show putC 44 _ (putC 41 _ (putC 40 _ ([c] ++ r))) = (if sgn c then [32, c, 32] else [c]) ++ padL r
    rw [e, e, e, ih]
    congr 1
    by_cases h0 : c = 40
    · subst h0; rfl
    · by_cases h1 : c = 41
      · subst h1; rfl
      · by_cases h2 : c = 44
        · subst h2; rfl
        · have : ¬ sgn c := by unfold sgn; omega
          rw [if_neg this]
          simp [putC, h0, h1, h2]
def wG (acc l : List Nat) : List (List Nat) := wd acc (padL l)
theorem wG_nil (acc : List Nat) : wG acc [] = flushW acc := rfl
theorem wG_blank (acc r : List Nat) : wG acc (32 :: r) = flushW acc ++ wG [] r := by
  show wd acc ((if sgn 32 then _ else [32]) ++ padL r) = _
  rw [if_neg (by decide)]
  show (if (32 : Nat) = 32 then flushW acc ++ wd [] (padL r) else _) = _
  rw [if_pos rfl]; rfl
theorem wG_sign {c : Nat} (h : sgn c) (acc r : List Nat) : wG acc (c :: r) = flushW acc ++ [c] :: wG [] r := by
  show wd acc ((if sgn c then [32, c, 32] else [c]) ++ padL r) = _
  rw [if_pos h]
  have hc : c ≠ 32 := by rcases h with rfl | rfl | rfl <;> decide
  show (if (32 : Nat) = 32 then flushW acc ++ wd [] (c :: 32 :: padL r) else _) = _
  rw [if_pos rfl]
  show flushW acc ++ (if c = 32 then _ else wd [c] (32 :: padL r)) = _
  rw [if_neg hc]
  show flushW acc ++ (if (32 : Nat) = 32 then flushW [c] ++ wd [] (padL r) else _) = _
  rw [if_pos rfl]
  rfl
theorem wG_run {c : Nat} (h : ¬ sgn c) (h2 : c ≠ 32) (acc r : List Nat) : wG acc (c :: r) = wG (acc ++ [c]) r := by
  show wd acc ((if sgn c then _ else [c]) ++ padL r) = _
  rw [if_neg h]
  show (if c = 32 then _ else wd (acc ++ [c]) (padL r)) = _
  rw [if_neg h2]; rfl
def Run (c : Nat) : Prop := ¬ sgn c ∧ c ≠ 32
theorem wG_word : ∀ (p acc r : List Nat), (∀ c ∈ p, Run c) → wG acc (p ++ r) = wG (acc ++ p) r
  | [], acc, r, _ => by simp
  | c :: p, acc, r, h => by
    have h1 := h c (List.mem_cons_self ..)
    rw [List.cons_append, wG_run h1.1 h1.2, wG_word p (acc ++ [c]) r fun d hd => h d (List.mem_cons_of_mem _ hd)]
    simp
def Stop (l : List Nat) : Prop := l = [] ∨ ∃ c r, l = c :: r ∧ (c = 32 ∨ sgn c)
theorem wG_stop {l : List Nat} (h : Stop l) (acc : List Nat) : wG acc l = flushW acc ++ wG [] l := by
  rcases h with rfl | ⟨c, r, rfl, rfl | h⟩
  · simp [wG_nil, flushW]
  · rw [wG_blank, wG_blank]; simp [flushW]
  · rw [wG_sign h, wG_sign h]; simp [flushW]
theorem wG_tok {p l : List Nat} (hp : p ≠ []) (h : ∀ c ∈ p, Run c) (hl : Stop l) : wG [] (p ++ l) = p :: wG [] l := by
  rw [wG_word p [] l h, List.nil_append, wG_stop hl]
  simp [flushW, hp]
def RunW (x : Str) : Prop := x.cps.toList ≠ [] ∧ ∀ c ∈ x.cps.toList, Run c
def RunS : Stm → Prop
  | .is w us => RunW w ∧ ∀ u ∈ us, RunW u
  | .fls => True
  | .neg A => RunS A
  | .bi _ A B => RunS A ∧ RunS B
  | .qu _ X A => RunW X ∧ RunS A
theorem wG_W {x : Str} (h : RunW x) {l : List Nat} (hl : Stop l) : wG [] (x.cps.toList ++ l) = x.cps.toList :: wG [] l := wG_tok h.1 h.2 hl
theorem stop_blank (r : List Nat) : Stop (32 :: r) := .inr ⟨32, r, rfl, .inl rfl⟩
theorem stop_sign {c : Nat} (h : sgn c) (r : List Nat) : Stop (c :: r) := .inr ⟨c, r, rfl, .inr h⟩
theorem wG_b (r : List Nat) : wG [] (32 :: r) = wG [] r := by rw [wG_blank]; rfl
theorem wG_s {c : Nat} (h : sgn c) (r : List Nat) : wG [] (c :: r) = [c] :: wG [] r := by rw [wG_sign h]; rfl
end L2
set_option Elab.async false
set_option linter.all false
set_option maxRecDepth 100000
set_option maxHeartbeats 4000000
namespace L2
open PySem PySem.Spec PyProof.Rows
inductive Dt where
  | int (i : Int) | str (x : Str) | non | tup (l : List Dt) | lst (l : List Dt)
mutual
def Dt.beq : Dt → Dt → Bool
  | .int i, .int j => i == j
  | .str x, .str y => decide (x = y)
  | .non, .non => true
  | .tup l, .tup m => Dt.beqs l m
  | .lst l, .lst m => Dt.beqs l m
  | _, _ => false
def Dt.beqs : List Dt → List Dt → Bool
  | [], [] => true
  | a :: l, b :: m => Dt.beq a b && Dt.beqs l m
  | _, _ => false
end
mutual
theorem Dt.beq_iff : ∀ a b : Dt, Dt.beq a b = true ↔ a = b
  | .int i, b => by cases b <;> simp [Dt.beq]
  | .str x, b => by cases b <;> simp [Dt.beq]
  | .non, b => by cases b <;> simp [Dt.beq]
  | .tup l, b => by cases b with
    | tup m => simp only [Dt.beq, Dt.tup.injEq]; exact Dt.beqs_iff l m
    | _ => simp [Dt.beq]
  | .lst l, b => by cases b with
    | lst m => simp only [Dt.beq, Dt.lst.injEq]; exact Dt.beqs_iff l m
    | _ => simp [Dt.beq]
theorem Dt.beqs_iff : ∀ l m : List Dt, Dt.beqs l m = true ↔ l = m
  | [], m => by cases m <;> simp [Dt.beqs]
  | a :: l, m => by cases m with
    | nil => simp [Dt.beqs]
    | cons b m => simp only [Dt.beqs, Bool.and_eq_true, List.cons.injEq]; rw [Dt.beq_iff a b, Dt.beqs_iff l m]
end
instance : DecidableEq Dt := fun a b => if h : Dt.beq a b = true then isTrue ((Dt.beq_iff a b).mp h) else isFalse fun e => h ((Dt.beq_iff a b).mpr e)
theorem Dt.beq_dec (a b : Dt) : Dt.beq a b = decide (a = b) := by
  by_cases h : a = b
  · rw [decide_eq_true h]; exact (Dt.beq_iff a b).mpr h
  · rw [decide_eq_false h]; exact Bool.eq_false_iff.mpr fun e => h ((Dt.beq_iff a b).mp e)
theorem Dt.beqs_all : ∀ (l m : List Dt) (e : Nat → Bool), (∀ (j : Nat) a b, l[j]? = some a → m[j]? = some b → e j = Dt.beq a b) → ((List.range (min l.length m.length)).all e && l.length == m.length) = Dt.beqs l m
  | [], [], e, _ => by simp [Dt.beqs]
  | [], b :: m, e, _ => by simp [Dt.beqs]
  | a :: l, [], e, _ => by simp [Dt.beqs]
  | a :: l, b :: m, e, h => by
    have ih := Dt.beqs_all l m (fun j => e (j + 1)) fun j x y h1 h2 => h (j + 1) x y (by simpa using h1) (by simpa using h2)
    have h0 := h 0 a b rfl rfl
    simp only [Dt.beqs]
    rw [← ih, ← h0]
    simp only [List.length_cons]
    rw [show min (l.length + 1) (m.length + 1) = min l.length m.length + 1 by omega, List.range_succ_eq_map]
    simp only [List.all_cons, List.all_map]
    have : ((l.length + 1 == m.length + 1) : Bool) = (l.length == m.length) := by simp
    rw [this, Bool.and_assoc]
    rfl
mutual
def Dt.dep : Dt → Nat
  | .tup l => Dt.deps l + 1
  | .lst l => Dt.deps l + 1
  | _ => 0
def Dt.deps : List Dt → Nat
  | [] => 0
  | a :: l => max (Dt.dep a) (Dt.deps l)
end
theorem Dt.dep_mem : ∀ {l : List Dt} {j : Nat} {a : Dt}, l[j]? = some a → Dt.dep a ≤ Dt.deps l
  | [], j, a, h => by simp at h
  | b :: l, 0, a, h => by simp at h; subst h; simp only [Dt.deps]; omega
  | b :: l, j + 1, a, h => by have := Dt.dep_mem (l := l) (j := j) (a := a) (by simpa using h); simp only [Dt.deps]; omega
inductive RepD (K : PySem.W.Frag) (H : Hp) : Dt → V → Prop
  | int (i : Int) : RepD K H (.int i) (.int i)
  | str (x : Str) : RepD K H (.str x) (.str x)
  | non : RepD K H .non .non
  | tup {a : Addr} {xs : List V} {l : List Dt} (h : SqT K H a xs) (hl : l.length = xs.length) (hr : ∀ (j : Nat) d x, l[j]? = some d → xs[j]? = some x → RepD K H d x) : RepD K H (.tup l) (.ref a)
  | lst {a : Addr} {xs : List V} {l : List Dt} (h : SqL K H a xs) (hl : l.length = xs.length) (hr : ∀ (j : Nat) d x, l[j]? = some d → xs[j]? = some x → RepD K H d x) : RepD K H (.lst l) (.ref a)
theorem isL {X : Cx} {pins : List (Addr × Obj)} {σ : St} {H : Hp} {s : Shared} {a : Addr} {xs : List V} (I : Inv X pins σ H s) (h : SqL X.K H a xs) : ∃ its : List Value, Vals xs its ∧ s.heap.IsList a its.toArray := by
  obtain ⟨its, r, p, _⟩ := I.list h
  exact ⟨its, r, p.isList⟩
theorem isT {X : Cx} {pins : List (Addr × Obj)} {σ : St} {H : Hp} {s : Shared} {a : Addr} {xs : List V} (I : Inv X pins σ H s) (h : SqT X.K H a xs) : ∃ its : List Value, Vals xs its ∧ s.heap.IsTuple a its.toArray := by
  obtain ⟨its, r, p, _⟩ := I.tuple h
  exact ⟨its, r, p⟩
section
variable {X : Cx} {pins : List (Addr × Obj)} {σ : St} {H : Hp} {s : Shared}
theorem RepD.inj (I : Inv X pins σ H s) {d : Dt} {x : V} (h : RepD X.K H d x) : ∀ {d' : Dt}, RepD X.K H d' x → d = d' := by
  induction h with
  | int i => intro d' h; cases h; rfl
  | str x => intro d' h; cases h; rfl
  | non => intro d' h; cases h; rfl
  | @tup a xs l h hl hr ih =>
    intro d' h'
    cases h' with
    | @tup _ xs' l' h' hl' hr' =>
      obtain rfl := I.tuple_inj h h'
      congr 1
      apply List.ext_getElem?
      intro j
      by_cases hj : j < l.length
      · have e1 : l[j]? = some l[j] := by simp [hj]
        have e2 : xs[j]? = some xs[j] := by simp
        have hj' : j < l'.length := by omega
        have e3 : l'[j]? = some l'[j] := by simp [hj']
        rw [e1, e3, ih j _ _ e1 e2 (hr' j _ _ e3 e2)]
      · rw [List.getElem?_eq_none (by omega), List.getElem?_eq_none (by omega)]
    | @lst _ xs' l' h' hl' hr' =>
      obtain ⟨_, _, p⟩ := isT I h
      obtain ⟨_, _, q⟩ := isL I h'
      exact absurd rfl (SeqAt.ne_of_list_tuple q p)
  | @lst a xs l h hl hr ih =>
    intro d' h'
    cases h' with
    | @lst _ xs' l' h' hl' hr' =>
      obtain rfl := I.list_inj h h'
      congr 1
      apply List.ext_getElem?
      intro j
      by_cases hj : j < l.length
      · have e1 : l[j]? = some l[j] := by simp [hj]
        have e2 : xs[j]? = some xs[j] := by simp
        have hj' : j < l'.length := by omega
        have e3 : l'[j]? = some l'[j] := by simp [hj']
        rw [e1, e3, ih j _ _ e1 e2 (hr' j _ _ e3 e2)]
      · rw [List.getElem?_eq_none (by omega), List.getElem?_eq_none (by omega)]
    | @tup _ xs' l' h' hl' hr' =>
      obtain ⟨_, _, p⟩ := isL I h
      obtain ⟨_, _, q⟩ := isT I h'
      exact absurd rfl (SeqAt.ne_of_list_tuple p q)
theorem RepD.at (I : Inv X pins σ H s) {d : Dt} {x : V} (h : RepD X.K H d x) : ∀ {d' : Dt} {y : V}, RepD X.K H d' y → ∀ {A : Around} {u v : Value}, A.units + Dt.dep d < cLine → RelV x u → RelV y v →
    SeqAt.RcAt A s u v (Dt.beq d d') ∧ SeqAt.EqAt A s u v (Dt.beq d d') := by
  induction h with
  | int i =>
    intro d' y h' A u v hu ru rv
    obtain ⟨t, rfl⟩ := ru
    cases h' with
    | int j => obtain ⟨t', rfl⟩ := rv; exact ⟨SeqAt.RcAt.int_int _ _ _ _, SeqAt.EqAt.int_int _ _ _ _⟩
    | str z => obtain ⟨t', rfl⟩ := rv; exact ⟨SeqAt.RcAt.int_str _ _ _ _, SeqAt.EqAt.int_str _ _ _ _⟩
    | non => cases rv; exact ⟨SeqAt.RcAt.int_none _ _, SeqAt.EqAt.int_none _ _⟩
    | tup h => cases rv; obtain ⟨_, _, p⟩ := isT I h; exact ⟨SeqAt.RcAt.int_tuple _ _ p (by omega), SeqAt.EqAt.int_tuple _ _ p (by omega)⟩
    | lst h => cases rv; obtain ⟨_, _, p⟩ := isL I h; exact ⟨SeqAt.RcAt.int_list _ _ p (by omega), SeqAt.EqAt.int_list _ _ p (by omega)⟩
  | str z =>
    intro d' y h' A u v hu ru rv
    obtain ⟨t, rfl⟩ := ru
    cases h' with
    | int j => obtain ⟨t', rfl⟩ := rv; exact ⟨SeqAt.RcAt.str_int _ _ _ _, SeqAt.EqAt.str_int _ _ _ _⟩
    | str z' =>
      obtain ⟨t', rfl⟩ := rv
      have e : (z == z') = Dt.beq (.str z) (.str z') := by simp only [Dt.beq]; rw [Bool.beq_eq_decide_eq]
      rw [← e]; exact ⟨SeqAt.RcAt.str_str _ _ _ _, SeqAt.EqAt.str_str _ _ _ _⟩
    | non => cases rv; exact ⟨SeqAt.RcAt.str_none _ _, SeqAt.EqAt.str_none _ _⟩
    | tup h => cases rv; obtain ⟨_, _, p⟩ := isT I h; exact ⟨SeqAt.RcAt.str_tuple _ _ p (by omega), SeqAt.EqAt.str_tuple _ _ p (by omega)⟩
    | lst h => cases rv; obtain ⟨_, _, p⟩ := isL I h; exact ⟨SeqAt.RcAt.str_list _ _ p (by omega), SeqAt.EqAt.str_list _ _ p (by omega)⟩
  | non =>
    intro d' y h' A u v hu ru rv
    cases ru
    cases h' with
    | int j => obtain ⟨t', rfl⟩ := rv; exact ⟨SeqAt.RcAt.none_int _ _, SeqAt.EqAt.none_int _ _⟩
    | str z' => obtain ⟨t', rfl⟩ := rv; exact ⟨SeqAt.RcAt.none_str _ _, SeqAt.EqAt.none_str _ _⟩
    | non => cases rv; exact ⟨SeqAt.RcAt.none_none, SeqAt.EqAt.same _⟩
    | tup h => cases rv; obtain ⟨_, _, p⟩ := isT I h; exact ⟨SeqAt.RcAt.none_tuple p (by omega), SeqAt.EqAt.none_tuple p (by omega)⟩
    | lst h => cases rv; obtain ⟨_, _, p⟩ := isL I h; exact ⟨SeqAt.RcAt.none_list p (by omega), SeqAt.EqAt.none_list p (by omega)⟩
  | @tup a xs l h hl hr ih =>
    intro d' y h' A u v hu ru rv
    have h0 := h'
    cases ru
    obtain ⟨its, r1, p1⟩ := isT I h
    cases h' with
    | int j => obtain ⟨t', rfl⟩ := rv; exact ⟨SeqAt.RcAt.tuple_int _ _ p1 (by omega), SeqAt.EqAt.tuple_int _ _ p1 (by omega)⟩
    | str z' => obtain ⟨t', rfl⟩ := rv; exact ⟨SeqAt.RcAt.tuple_str _ _ p1 (by omega), SeqAt.EqAt.tuple_str _ _ p1 (by omega)⟩
    | non => cases rv; exact ⟨SeqAt.RcAt.tuple_none p1 (by omega), SeqAt.EqAt.tuple_none p1 (by omega)⟩
    | lst h2 => cases rv; obtain ⟨_, _, p2⟩ := isL I h2; exact ⟨SeqAt.RcAt.tuple_list p1 p2 (by omega), SeqAt.EqAt.tuple_list p1 p2 (by omega)⟩
    | @tup b ys m h2 hl2 hr2 =>
      cases rv
      obtain ⟨its2, r2, p2⟩ := isT I h2
      have l1 : its.toArray.size = xs.length := by rw [List.size_toArray]; exact r1.length.symm
      have l2 : its2.toArray.size = ys.length := by rw [List.size_toArray]; exact r2.length.symm
      have rc : SeqAt.RcAt A s (.ref a) (.ref b) (Dt.beq (.tup l) (.tup m)) := by
        have hd : Dt.dep (.tup l) = Dt.deps l + 1 := by simp only [Dt.dep]
        rw [hd] at hu
        have := SeqAt.RcAt.tuples (A := A) (e := fun j => match l[j]?, m[j]? with | some x, some y => Dt.beq x y | _, _ => true) p1 p2 (by omega) (fun j h1 h2 => by
          obtain ⟨x, ex, rx⟩ := getD_some r1 h1
          obtain ⟨y, ey, ry⟩ := getD_some r2 h2
          have j1 : j < l.length := by omega
          have j2 : j < m.length := by omega
          have e1 : l[j]? = some l[j] := by simp [j1]
          have e2 : m[j]? = some m[j] := by simp [j2]
          rw [e1, e2]
          exact (ih j _ _ e1 ex (hr2 j _ _ e2 ey) (A := A.in1) (by show A.units + 1 + _ < cLine; have := Dt.dep_mem e1; omega) rx ry).2)
        rw [l1, l2, ← hl, ← hl2, Dt.beqs_all l m _ (fun j x y h1 h2 => by simp only [h1, h2])] at this
        simp only [Dt.beq]
        exact this
      refine ⟨rc, ?_⟩
      by_cases hab : a = b
      · subst hab
        rw [(Dt.beq_iff _ _).mpr ((RepD.tup h hl hr).inj I h0)]
        exact SeqAt.EqAt.same _
      · exact SeqAt.EqAt.of_refs hab rc
  | @lst a xs l h hl hr ih =>
    intro d' y h' A u v hu ru rv
    have h0 := h'
    cases ru
    obtain ⟨its, r1, p1⟩ := isL I h
    cases h' with
    | int j => obtain ⟨t', rfl⟩ := rv; exact ⟨SeqAt.RcAt.list_int _ _ p1 (by omega), SeqAt.EqAt.list_int _ _ p1 (by omega)⟩
    | str z' => obtain ⟨t', rfl⟩ := rv; exact ⟨SeqAt.RcAt.list_str _ _ p1 (by omega), SeqAt.EqAt.list_str _ _ p1 (by omega)⟩
    | non => cases rv; exact ⟨SeqAt.RcAt.list_none p1 (by omega), SeqAt.EqAt.list_none p1 (by omega)⟩
    | tup h2 => cases rv; obtain ⟨_, _, p2⟩ := isT I h2; exact ⟨SeqAt.RcAt.list_tuple p1 p2 (by omega), SeqAt.EqAt.list_tuple p1 p2 (by omega)⟩
    | @lst b ys m h2 hl2 hr2 =>
      cases rv
      obtain ⟨its2, r2, p2⟩ := isL I h2
      have l1 : its.toArray.size = xs.length := by rw [List.size_toArray]; exact r1.length.symm
      have l2 : its2.toArray.size = ys.length := by rw [List.size_toArray]; exact r2.length.symm
      have rc : SeqAt.RcAt A s (.ref a) (.ref b) (Dt.beq (.lst l) (.lst m)) := by
        have hd : Dt.dep (.lst l) = Dt.deps l + 1 := by simp only [Dt.dep]
        rw [hd] at hu
        simp only [Dt.beq]
        by_cases hlen : l.length = m.length
        · have := SeqAt.RcAt.lists (A := A) (e := fun j => match l[j]?, m[j]? with | some x, some y => Dt.beq x y | _, _ => true) p1 p2 (by omega) (by omega) (fun j h1 h2 => by
            obtain ⟨x, ex, rx⟩ := getD_some r1 h1
            obtain ⟨y, ey, ry⟩ := getD_some r2 h2
            have j1 : j < l.length := by omega
            have j2 : j < m.length := by omega
            have e1 : l[j]? = some l[j] := by simp [j1]
            have e2 : m[j]? = some m[j] := by simp [j2]
            rw [e1, e2]
            exact (ih j _ _ e1 ex (hr2 j _ _ e2 ey) (A := A.in1) (by show A.units + 1 + _ < cLine; have := Dt.dep_mem e1; omega) rx ry).2)
          have q := Dt.beqs_all l m (fun j => match l[j]?, m[j]? with | some x, some y => Dt.beq x y | _, _ => true) (fun j x y h1 h2 => by simp only [h1, h2])
          rw [← q]
          have q1 : (l.length == m.length) = true := by simpa using hlen
          have q2 : min l.length m.length = its.toArray.size := by omega
          rw [q1, Bool.and_true, q2]
          exact this
        · have q : Dt.beqs l m = false := Bool.eq_false_iff.mpr fun e => hlen (congrArg List.length ((Dt.beqs_iff l m).mp e))
          rw [q]
          exact SeqAt.RcAt.lists_lengths p1 p2 (by rw [l1, l2]; simp; omega) (by omega)
      refine ⟨rc, ?_⟩
      by_cases hab : a = b
      · subst hab
        rw [(Dt.beq_iff _ _).mpr ((RepD.lst h hl hr).inj I h0)]
        exact SeqAt.EqAt.same _
      · exact SeqAt.EqAt.of_refs hab rc
theorem RepD.ne (I : Inv X pins σ H s) {d d' : Dt} {x y : V} (h : RepD X.K H d x) (h' : RepD X.K H d' y) {A : Around} {u v : Value} (hu : A.units + Dt.dep d < cLine) (ru : RelV x u) (rv : RelV y v) :
    SeqAt.RcNeAt A s u v (!Dt.beq d d') := by
  cases h with
  | int i =>
    obtain ⟨t, rfl⟩ := ru
    cases h' with
    | int j => obtain ⟨t', rfl⟩ := rv; exact SeqAt.RcNeAt.int_int _ _ _ _
    | str z => obtain ⟨t', rfl⟩ := rv; exact SeqAt.RcNeAt.int_str _ _ _ _
    | non => cases rv; exact SeqAt.RcNeAt.int_none _ _
    | tup h => cases rv; obtain ⟨_, _, p⟩ := isT I h; exact SeqAt.RcNeAt.int_tuple _ _ p (by omega)
    | lst h => cases rv; obtain ⟨_, _, p⟩ := isL I h; exact SeqAt.RcNeAt.int_list _ _ p (by omega)
  | str z =>
    obtain ⟨t, rfl⟩ := ru
    cases h' with
    | int j => obtain ⟨t', rfl⟩ := rv; exact SeqAt.RcNeAt.str_int _ _ _ _
    | str z' =>
      obtain ⟨t', rfl⟩ := rv
      have e : (z == z') = Dt.beq (.str z) (.str z') := by simp only [Dt.beq]; rw [Bool.beq_eq_decide_eq]
      rw [← e]; exact SeqAt.RcNeAt.str_str _ _ _ _
    | non => cases rv; exact SeqAt.RcNeAt.str_none _ _
    | tup h => cases rv; obtain ⟨_, _, p⟩ := isT I h; exact SeqAt.RcNeAt.str_tuple _ _ p (by omega)
    | lst h => cases rv; obtain ⟨_, _, p⟩ := isL I h; exact SeqAt.RcNeAt.str_list _ _ p (by omega)
  | non =>
    cases ru
    cases h' with
    | int j => obtain ⟨t', rfl⟩ := rv; exact SeqAt.RcNeAt.none_int _ _
    | str z' => obtain ⟨t', rfl⟩ := rv; exact SeqAt.RcNeAt.none_str _ _
    | non => cases rv; exact SeqAt.RcNeAt.none_none
    | tup h => cases rv; obtain ⟨_, _, p⟩ := isT I h; exact SeqAt.RcNeAt.none_tuple p (by omega)
    | lst h => cases rv; obtain ⟨_, _, p⟩ := isL I h; exact SeqAt.RcNeAt.none_list p (by omega)
  | @tup a xs l h hl hr =>
    cases ru
    obtain ⟨its, r1, p1⟩ := isT I h
    cases h' with
    | int j => obtain ⟨t', rfl⟩ := rv; exact SeqAt.RcNeAt.tuple_int _ _ p1 (by omega)
    | str z' => obtain ⟨t', rfl⟩ := rv; exact SeqAt.RcNeAt.tuple_str _ _ p1 (by omega)
    | non => cases rv; exact SeqAt.RcNeAt.tuple_none p1 (by omega)
    | lst h2 => cases rv; obtain ⟨_, _, p2⟩ := isL I h2; exact SeqAt.RcNeAt.tuple_list p1 p2 (by omega)
    | @tup b ys m h2 hl2 hr2 =>
      cases rv
      obtain ⟨its2, r2, p2⟩ := isT I h2
      have l1 : its.toArray.size = xs.length := by rw [List.size_toArray]; exact r1.length.symm
      have l2 : its2.toArray.size = ys.length := by rw [List.size_toArray]; exact r2.length.symm
      have hd : Dt.dep (.tup l) = Dt.deps l + 1 := by simp only [Dt.dep]
      rw [hd] at hu
      have := SeqAt.RcNeAt.tuples (A := A) (e := fun j => match l[j]?, m[j]? with | some x, some y => Dt.beq x y | _, _ => true) p1 p2 (by omega) (fun j h1 h2 => by
        obtain ⟨x, ex, rx⟩ := getD_some r1 h1
        obtain ⟨y, ey, ry⟩ := getD_some r2 h2
        have j1 : j < l.length := by omega
        have j2 : j < m.length := by omega
        have e1 : l[j]? = some l[j] := by simp [j1]
        have e2 : m[j]? = some m[j] := by simp [j2]
        rw [e1, e2]
        exact (RepD.at I (hr j _ _ e1 ex) (hr2 j _ _ e2 ey) (A := A.in1) (by show A.units + 1 + _ < cLine; have := Dt.dep_mem e1; omega) rx ry).2)
      rw [l1, l2, ← hl, ← hl2, Dt.beqs_all l m _ (fun j x y h1 h2 => by simp only [h1, h2])] at this
      simp only [Dt.beq]
      exact this
  | @lst a xs l h hl hr =>
    cases ru
    obtain ⟨its, r1, p1⟩ := isL I h
    cases h' with
    | int j => obtain ⟨t', rfl⟩ := rv; exact SeqAt.RcNeAt.list_int _ _ p1 (by omega)
    | str z' => obtain ⟨t', rfl⟩ := rv; exact SeqAt.RcNeAt.list_str _ _ p1 (by omega)
    | non => cases rv; exact SeqAt.RcNeAt.list_none p1 (by omega)
    | tup h2 => cases rv; obtain ⟨_, _, p2⟩ := isT I h2; exact SeqAt.RcNeAt.list_tuple p1 p2 (by omega)
    | @lst b ys m h2 hl2 hr2 =>
      cases rv
      obtain ⟨its2, r2, p2⟩ := isL I h2
      have l1 : its.toArray.size = xs.length := by rw [List.size_toArray]; exact r1.length.symm
      have l2 : its2.toArray.size = ys.length := by rw [List.size_toArray]; exact r2.length.symm
      have hd : Dt.dep (.lst l) = Dt.deps l + 1 := by simp only [Dt.dep]
      rw [hd] at hu
      simp only [Dt.beq]
      by_cases hlen : l.length = m.length
      · have := SeqAt.RcNeAt.lists (A := A) (e := fun j => match l[j]?, m[j]? with | some x, some y => Dt.beq x y | _, _ => true) p1 p2 (by omega) (by omega) (fun j h1 h2 => by
          obtain ⟨x, ex, rx⟩ := getD_some r1 h1
          obtain ⟨y, ey, ry⟩ := getD_some r2 h2
          have j1 : j < l.length := by omega
          have j2 : j < m.length := by omega
          have e1 : l[j]? = some l[j] := by simp [j1]
          have e2 : m[j]? = some m[j] := by simp [j2]
          rw [e1, e2]
          exact (RepD.at I (hr j _ _ e1 ex) (hr2 j _ _ e2 ey) (A := A.in1) (by show A.units + 1 + _ < cLine; have := Dt.dep_mem e1; omega) rx ry).2)
        have q := Dt.beqs_all l m (fun j => match l[j]?, m[j]? with | some x, some y => Dt.beq x y | _, _ => true) (fun j x y h1 h2 => by simp only [h1, h2])
        rw [← q]
        have q1 : (l.length == m.length) = true := by simpa using hlen
        have q2 : min l.length m.length = its.toArray.size := by omega
        rw [q1, Bool.and_true, q2]
        exact this
      · have q : Dt.beqs l m = false := Bool.eq_false_iff.mpr fun e => hlen (congrArg List.length ((Dt.beqs_iff l m).mp e))
        rw [q]
        exact SeqAt.RcNeAt.lists_lengths p1 p2 (by rw [l1, l2]; simp; omega) (by omega)
theorem RepD.mem (I : Inv X pins σ H s) {d : Dt} {x : V} {l : List Dt} {xs : List V} {its : List Value} (hx : RepD X.K H d x) (hl : l.length = xs.length) (hr : ∀ (j : Nat) d x, l[j]? = some d → xs[j]? = some x → RepD X.K H d x)
    (r : Vals xs its) {A : Around} {v : Value} (hu : ∀ a ∈ l, A.units + Dt.dep a < cLine) (rv : RelV x v) :
    ∃ e : Value → Bool, (∀ u ∈ its, SeqAt.EqAt A s u v (e u)) ∧ its.any e = decide (d ∈ l) := by
  classical
  have item : ∀ u ∈ its, ∃ (j : Nat) (y : V) (a : Dt), its[j]? = some u ∧ xs[j]? = some y ∧ l[j]? = some a ∧ RelV y u := fun u hm => by
    obtain ⟨j, hj, e⟩ := List.getElem_of_mem hm
    have hx' : j < xs.length := by rw [r.length]; exact hj
    have hl' : j < l.length := by omega
    obtain ⟨u', e', ru⟩ := r.get (i := j) (x := xs[j]) (by simp [hx'])
    have : its[j]? = some u := by simp [hj, e]
    rw [this] at e'; cases e'
    exact ⟨j, xs[j], l[j], this, by simp [hx'], by simp [hl'], ru⟩
  refine ⟨fun u => decide (∃ y, RelV y u ∧ RepD X.K H d y), fun u hm => ?_, ?_⟩
  · obtain ⟨j, y, a, _, hy, ha, ru⟩ := item u hm
    have ry := hr j a y ha hy
    have e : decide (∃ y, RelV y u ∧ RepD X.K H d y) = Dt.beq a d := by
      rw [Dt.beq_dec]
      congr 1
      refine propext ⟨fun ⟨y', r1, r2⟩ => ?_, fun z => ⟨y, ru, z ▸ ry⟩⟩
      obtain rfl := ru.inj r1
      exact ry.inj I r2
    show SeqAt.EqAt A s u v (decide (∃ y, RelV y u ∧ RepD X.K H d y))
    rw [e]
    exact (ry.at I hx (hu a (List.mem_of_getElem? ha)) ru rv).2
  · apply Bool.eq_iff_iff.mpr
    simp only [List.any_eq_true, decide_eq_true_eq]
    constructor
    · rintro ⟨u, hm, y', r1, r2⟩
      obtain ⟨j, y, a, _, hy, ha, ru⟩ := item u hm
      obtain rfl := ru.inj r1
      have := (hr j a y ha hy).inj I r2
      subst this
      exact List.mem_of_getElem? ha
    · intro hm
      obtain ⟨j, hj, e⟩ := List.getElem_of_mem hm
      have hx' : j < xs.length := by omega
      obtain ⟨u, hu', ru⟩ := r.get (i := j) (x := xs[j]) (by simp [hx'])
      exact ⟨u, List.mem_of_getElem? hu', xs[j], ru, e ▸ hr j l[j] xs[j] (by simp [hj]) (by simp [hx'])⟩
end
section
variable {X : Cx} {K : PySem.W.Frag} {H : Hp} {Q : VK}
def rEqT (K : PySem.W.Frag) : R2 := fun x y H Q => ∃ d d', RepD K H d x ∧ RepD K H d' y ∧ Dt.dep d ≤ 60 ∧ Q (.bl (decide (d = d'))) H
def rNeT (K : PySem.W.Frag) : R2 := fun x y H Q => ∃ d d', RepD K H d x ∧ RepD K H d' y ∧ Dt.dep d ≤ 60 ∧ Q (.bl (!decide (d = d'))) H
theorem op_eqT (hu : X.A.units + 64 < cLine) : OpR X (compareOp .Eq) (rEqT X.K) := by
  intro pins s σ H x y v u Q I rx ry ⟨d, d', h, h', hd, q⟩
  exact (h.at I h' (A := X.A) (by omega) rx ry).1 X.prog X.w X.xe _ ⟨.bl _, H, I, rfl, by rw [Dt.beq_dec]; exact q⟩
theorem op_neT (hu : X.A.units + 64 < cLine) : OpR X (compareOp .NotEq) (rNeT X.K) := by
  intro pins s σ H x y v u Q I rx ry ⟨d, d', h, h', hd, q⟩
  exact (h.ne I h' (A := X.A) (by omega) rx ry) X.prog X.w X.xe _ ⟨.bl _, H, I, rfl, by rw [Dt.beq_dec]; exact q⟩
def rInT (K : PySem.W.Frag) (neg : Bool) : R2 := fun x y H Q => ∃ d l, RepD K H d x ∧ (RepD K H (.tup l) y ∨ RepD K H (.lst l) y) ∧ Dt.deps l ≤ 60 ∧ Q (.bl (if neg then !decide (d ∈ l) else decide (d ∈ l))) H
theorem Dt.deps_mem {l : List Dt} {a : Dt} (h : a ∈ l) : Dt.dep a ≤ Dt.deps l := by
  obtain ⟨j, hj, e⟩ := List.getElem_of_mem h
  exact Dt.dep_mem (j := j) (by simp [hj, e])
theorem op_inT (hu : X.A.units + 64 < cLine) : OpR X (compareOp .In) (rInT X.K false) := by
  intro pins s σ H x y v u Q I rx ry ⟨d, l, h, h', hd, q⟩
  rcases h' with h' | h'
  · cases h' with
    | @tup a xs _ hq hl hr =>
      cases ry
      obtain ⟨its, r, p⟩ := isT I hq
      obtain ⟨e, he, ha⟩ := RepD.mem I h hl hr r (A := X.A.in1) (fun a hm => by show X.A.units + 1 + _ < cLine; have := Dt.deps_mem hm; omega) rx
      refine SeqAt.in_tupleAt e p (fun w hw => he w (by simpa using hw)) ⟨.bl _, H, I, rfl, ?_⟩
      rw [show its.toArray.any e = its.any e by simp, ha]
      exact q
  · cases h' with
    | @lst a xs _ hq hl hr =>
      cases ry
      obtain ⟨its, r, p⟩ := isL I hq
      obtain ⟨e, he, ha⟩ := RepD.mem I h hl hr r (A := X.A.in1) (fun a hm => by show X.A.units + 1 + _ < cLine; have := Dt.deps_mem hm; omega) rx
      refine SeqAt.in_listAt e p (fun w hw => he w (by simpa using hw)) ⟨.bl _, H, I, rfl, ?_⟩
      rw [show its.toArray.any e = its.any e by simp, ha]
      exact q
theorem op_notInT (hu : X.A.units + 64 < cLine) : OpR X (compareOp .NotIn) (rInT X.K true) := by
  intro pins s σ H x y v u Q I rx ry ⟨d, l, h, h', hd, q⟩
  rcases h' with h' | h'
  · cases h' with
    | @tup a xs _ hq hl hr =>
      cases ry
      obtain ⟨its, r, p⟩ := isT I hq
      obtain ⟨e, he, ha⟩ := RepD.mem I h hl hr r (A := X.A.in1) (fun a hm => by show X.A.units + 1 + _ < cLine; have := Dt.deps_mem hm; omega) rx
      refine SeqAt.notIn_tupleAt e p (fun w hw => he w (by simpa using hw)) ⟨.bl _, H, I, rfl, ?_⟩
      rw [show its.toArray.any e = its.any e by simp, ha]
      exact q
  · cases h' with
    | @lst a xs _ hq hl hr =>
      cases ry
      obtain ⟨its, r, p⟩ := isL I hq
      obtain ⟨e, he, ha⟩ := RepD.mem I h hl hr r (A := X.A.in1) (fun a hm => by show X.A.units + 1 + _ < cLine; have := Dt.deps_mem hm; omega) rx
      refine SeqAt.notIn_listAt e p (fun w hw => he w (by simpa using hw)) ⟨.bl _, H, I, rfl, ?_⟩
      rw [show its.toArray.any e = its.any e by simp, ha]
      exact q
end
end L2
namespace L2
open PySem PySem.Spec PyProof.Rows
namespace Stm
end Stm
section
variable {X : Cx}
def rEqC (K : PySem.W.Frag) : R2 := fun x y H Q => rEq x y H Q ∨ rEqT K x y H Q
def rNeC (K : PySem.W.Frag) : R2 := fun x y H Q => rNe x y H Q ∨ rNeT K x y H Q
def rInC (K : PySem.W.Frag) (neg : Bool) : R2 := fun x y H Q => rInA K neg x y H Q ∨ rInT K neg x y H Q
theorem opC_eq (K : PySem.W.Frag) (hu : X.A.units + 64 < cLine) (hK : X.K = K := by rfl) : OpR X (compareOp .Eq) (rEqC K) := hK ▸ (OpR.or op_eq (op_eqT hu) : OpR X (compareOp .Eq) (rEqC X.K))
theorem opC_ne (K : PySem.W.Frag) (hu : X.A.units + 64 < cLine) (hK : X.K = K := by rfl) : OpR X (compareOp .NotEq) (rNeC K) := hK ▸ (OpR.or op_ne (op_neT hu) : OpR X (compareOp .NotEq) (rNeC X.K))
theorem opC_in (K : PySem.W.Frag) (hu : X.A.units + 64 < cLine) (hK : X.K = K := by rfl) : OpR X (compareOp .In) (rInC K false) := hK ▸ (OpR.or (opA_in X.K) (op_inT hu) : OpR X (compareOp .In) (rInC X.K false))
theorem opC_notin (K : PySem.W.Frag) (hu : X.A.units + 64 < cLine) (hK : X.K = K := by rfl) : OpR X (compareOp .NotIn) (rInC K true) := hK ▸ (OpR.or (opA_notin X.K) (op_notInT hu) : OpR X (compareOp .NotIn) (rInC X.K true))
end
end L2
namespace L2
open PySem PySem.Spec PyProof.Rows
section
variable {K : PySem.W.Frag} {H : Hp} {Q : VK} {i j : Int} {x y : Str} {p q : Addr} {u : V} {neg : Bool}
theorem RepD.of_int {d : Dt} (h : RepD K H d (.int i)) : d = .int i := by cases h; rfl
theorem RepD.of_str {d : Dt} (h : RepD K H d (.str x)) : d = .str x := by cases h; rfl
theorem w_eqIC : rEqC K (.int i) (.int j) H Q = Q (.bl (decide (i = j))) H := by
  refine propext ⟨fun h => ?_, fun h => .inl ⟨rfl, by simpa using h⟩⟩
  rcases h with ⟨_, h⟩ | ⟨d, d', h1, h2, _, h⟩
  · simpa using h
  · rw [h1.of_int, h2.of_int] at h; simpa using h
theorem w_eqSC : rEqC K (.str x) (.str y) H Q = Q (.bl (decide (x = y))) H := by
  refine propext ⟨fun h => ?_, fun h => .inl ⟨rfl, by simpa using h⟩⟩
  rcases h with ⟨_, h⟩ | ⟨d, d', h1, h2, _, h⟩
  · simpa using h
  · rw [h1.of_str, h2.of_str] at h; simpa using h
theorem w_neIC : rNeC K (.int i) (.int j) H Q = Q (.bl (!decide (i = j))) H := by
  refine propext ⟨fun h => ?_, fun h => .inl ⟨rfl, by simpa using h⟩⟩
  rcases h with ⟨_, h⟩ | ⟨d, d', h1, h2, _, h⟩
  · simpa using h
  · rw [h1.of_int, h2.of_int] at h; simpa using h
theorem w_neSC : rNeC K (.str x) (.str y) H Q = Q (.bl (!decide (x = y))) H := by
  refine propext ⟨fun h => ?_, fun h => .inl ⟨rfl, by simpa using h⟩⟩
  rcases h with ⟨_, h⟩ | ⟨d, d', h1, h2, _, h⟩
  · simpa using h
  · rw [h1.of_str, h2.of_str] at h; simpa using h
theorem w_eqRC : rEqC K (.ref p) u H Q = ∃ d d', RepD K H d (.ref p) ∧ RepD K H d' u ∧ Dt.dep d ≤ 60 ∧ Q (.bl (decide (d = d'))) H := by
  refine propext ⟨fun h => ?_, fun h => .inr h⟩
  rcases h with ⟨e, _⟩ | h
  · cases u <;> cases e
  · exact h
theorem w_eqCR : rEqC K u (.ref p) H Q = ∃ d d', RepD K H d u ∧ RepD K H d' (.ref p) ∧ Dt.dep d ≤ 60 ∧ Q (.bl (decide (d = d'))) H := by
  refine propext ⟨fun h => ?_, fun h => .inr h⟩
  rcases h with ⟨e, _⟩ | h
  · cases u <;> cases e
  · exact h
theorem w_neRC : rNeC K (.ref p) u H Q = ∃ d d', RepD K H d (.ref p) ∧ RepD K H d' u ∧ Dt.dep d ≤ 60 ∧ Q (.bl (!decide (d = d'))) H := by
  refine propext ⟨fun h => ?_, fun h => .inr h⟩
  rcases h with ⟨e, _⟩ | h
  · cases u <;> cases e
  · exact h
theorem w_neCR : rNeC K u (.ref p) H Q = ∃ d d', RepD K H d u ∧ RepD K H d' (.ref p) ∧ Dt.dep d ≤ 60 ∧ Q (.bl (!decide (d = d'))) H := by
  refine propext ⟨fun h => ?_, fun h => .inr h⟩
  rcases h with ⟨e, _⟩ | h
  · cases u <;> cases e
  · exact h
theorem w_inCS : rInC K false (.str x) (.str y) H Q = Q (.bl (inS x y)) H := by
  refine propext ⟨fun h => ?_, fun h => .inl (.inl ⟨x, y, rfl, rfl, h⟩)⟩
  rcases h with (⟨_, _, e1, e2, h⟩ | ⟨_, _, e, _⟩) | ⟨_, _, _, h, _⟩
  · cases e1; cases e2; exact h
  · cases e
  · rcases h with h | h <;> cases h
theorem w_notinCS : rInC K true (.str x) (.str y) H Q = Q (.bl (!inS x y)) H := by
  refine propext ⟨fun h => ?_, fun h => .inl (.inl ⟨x, y, rfl, rfl, h⟩)⟩
  rcases h with (⟨_, _, e1, e2, h⟩ | ⟨_, _, e, _⟩) | ⟨_, _, _, h, _⟩
  · cases e1; cases e2; exact h
  · cases e
  · rcases h with h | h <;> cases h
theorem w_inCR : rInC K neg u (.ref p) H Q = (rIn K neg u (.ref p) H Q ∨ rInT K neg u (.ref p) H Q) := by
  refine propext ⟨fun h => ?_, fun h => ?_⟩
  · rcases h with (⟨_, _, _, e2, _⟩ | h) | h
    · cases e2
    · exact .inl h
    · exact .inr h
  · rcases h with h | h
    · exact .inl (.inr h)
    · exact .inr h
end
end L2
set_option Elab.async false
set_option linter.all false
set_option maxRecDepth 100000
set_option maxHeartbeats 4000000
namespace L2
open PySem PySem.Spec PyProof.Rows
section
variable {X : Cx}
def rAny (K : PySem.W.Frag) : List V → Hp → VK → Prop := fun xs H Q => ∃ (p : Addr) (bs : List Bool), xs = [.ref p] ∧ SqL K H p (bs.map V.bl) ∧ Q (.bl (bs.any id)) H
theorem w_any {K : PySem.W.Frag} {p : Addr} {H : Hp} {Q : VK} : rAny K [.ref p] H Q = ∃ bs : List Bool, SqL K H p (bs.map V.bl) ∧ Q (.bl (bs.any id)) H := by
  refine propext ⟨fun ⟨_, bs, e, h⟩ => ?_, fun ⟨bs, h⟩ => ⟨p, bs, rfl, h⟩⟩
  cases e; exact ⟨bs, h⟩
def rSum (K : PySem.W.Frag) : List V → Hp → VK → Prop := fun xs H Q => ∃ (p : Addr) (ns : List Int), xs = [.ref p] ∧ SqL K H p (ns.map V.int) ∧ Q (.int ns.sum) H
theorem w_sum {K : PySem.W.Frag} {p : Addr} {H : Hp} {Q : VK} : rSum K [.ref p] H Q = ∃ ns : List Int, SqL K H p (ns.map V.int) ∧ Q (.int ns.sum) H := by
  refine propext ⟨fun ⟨_, bs, e, h⟩ => ?_, fun ⟨bs, h⟩ => ⟨p, bs, rfl, h⟩⟩
  cases e; exact ⟨bs, h⟩
end
end L2
namespace L2
open PySem PySem.Spec PyProof.Rows
section
variable {K : PySem.W.Frag} {σ : St} {H : Hp} {Q : VK} {D : Ends} {ta tb tc te : TE} {r r' : R2} {i n : Nat} {ti : TIp} {g : TG} {gs : TGs} {v : V} {vs : List V} {R : St → Hp → Prop} {f : Int → Int → Int} {a b : Int}
theorem w_ipI : ipI f (.int a) (.int b) H Q = Q (.int (f a b)) H := propext ⟨fun ⟨_, _, e, e', h⟩ => by cases e; cases e'; exact h, fun h => ⟨a, b, rfl, rfl, h⟩⟩
theorem w_gTup {p : Addr} : gTup K n gs (.ref p) σ H R = ∃ xs, SqT K H p xs ∧ xs.length = n ∧ gs xs σ H R := propext ⟨fun ⟨_, xs, e, h⟩ => by cases e; exact ⟨xs, h⟩, fun ⟨xs, h⟩ => ⟨p, xs, rfl, h⟩⟩
theorem w_gCons : gCons g gs (v :: vs) σ H R = g v σ H fun σ' H' => gs vs σ' H' R := propext ⟨fun ⟨_, _, e, h⟩ => by cases e; exact h, fun h => ⟨v, vs, rfl, h⟩⟩
end
end L2
set_option Elab.async false
set_option linter.all false
set_option maxRecDepth 100000
set_option maxHeartbeats 4000000
namespace HT
open PySem PyProof.Rows
section
variable {prog : Program} {w : World} {A : Around} {E : Value → Shared → Prop} {s : Shared}
end
end HT
namespace L2
open PySem PySem.Spec PyProof.Rows
section
variable {X : Cx}
def rSlT2 (K : PySem.W.Frag) : V → Option Int → Option Int → Hp → VK → Prop := fun x lo hi H Q => ∃ a xs, x = .ref a ∧ SqT K H a xs ∧ ∀ q H', Same H H' → SqT K H' q (cutV xs lo hi) → Q (.ref q) H'
def rSlB (K : PySem.W.Frag) : V → Option Int → Option Int → Hp → VK → Prop := fun x lo hi H Q => rSlS x lo hi H Q ∨ (rSlL K x lo hi H Q ∨ rSlT2 K x lo hi H Q)
def rCatT2 (K : PySem.W.Frag) : R2 := fun x y H Q => ∃ a b xs ys, x = .ref a ∧ y = .ref b ∧ SqT K H a xs ∧ SqT K H b ys ∧ xs.length + ys.length ≤ sizeLine ∧ ∀ q H', Same H H' → SqT K H' q (xs ++ ys) → Q (.ref q) H'
def rAddB (K : PySem.W.Frag) : R2 := fun x y H Q => rI0 (fun i j => .int (i + j)) x y H Q ∨ (rAddS x y H Q ∨ (rCat x y H Q ∨ rCatT2 K x y H Q))
end
section
variable {K : PySem.W.Frag} {σ : St} {H : Hp} {Q : VK} {D : Ends} {p q : Addr} {x y : Str} {i j : Int} {lo hi : Option Int} {a b : Bool} {tc : TT} {tb : TS} {ta : TA} {te : TE} {R : It → Hp → Prop}
theorem w_slSB : rSlB K (.str x) lo hi H Q = (x.length ≤ sizeLine ∧ Q (.str (Txt.slice x lo hi)) H) := by
  refine propext ⟨fun h => ?_, fun ⟨h, k⟩ => .inl ⟨x, rfl, h, k⟩⟩
  rcases h with ⟨_, e, h⟩ | ⟨_, _, e, _⟩ | ⟨_, _, e, _⟩
  · cases e; exact h
  · cases e
  · cases e
theorem w_slRB : rSlB K (.ref p) lo hi H Q = ∃ xs, (SqL K H p xs ∧ ∀ q, H q = none → Q (.ref q) (upd H q (.lst (cutV xs lo hi)))) ∨
    (SqT K H p xs ∧ ∀ q H', Same H H' → SqT K H' q (cutV xs lo hi) → Q (.ref q) H') := by
  refine propext ⟨fun h => ?_, fun ⟨xs, h⟩ => ?_⟩
  · rcases h with ⟨_, e, _⟩ | ⟨_, xs, e, h⟩ | ⟨_, xs, e, h⟩
    · cases e
    · cases e; exact ⟨xs, .inl h⟩
    · cases e; exact ⟨xs, .inr h⟩
  · rcases h with h | h
    · exact .inr (.inl ⟨p, xs, rfl, h⟩)
    · exact .inr (.inr ⟨p, xs, rfl, h⟩)
theorem w_addSB : rAddB K (.str x) (.str y) H Q = (x.length + y.length ≤ sizeLine ∧ Q (.str (x ++ y)) H) := by
  refine propext ⟨fun h => ?_, fun ⟨h, k⟩ => .inr (.inl ⟨x, y, rfl, rfl, h, k⟩)⟩
  rcases h with ⟨_, _, e, _⟩ | ⟨_, _, e1, e2, h⟩ | ⟨_, _, _, _, e, _⟩ | ⟨_, _, _, _, e, _⟩
  · cases e
  · cases e1; cases e2; exact h
  · cases e
  · cases e
theorem w_catRB : rAddB K (.ref p) (.ref q) H Q = ∃ xs zs, (H p = some (.lst xs) ∧ H q = some (.lst zs) ∧ xs.length + zs.length ≤ sizeLine ∧ ∀ r, H r = none → Q (.ref r) (upd H r (.lst (xs ++ zs)))) ∨
    (SqT K H p xs ∧ SqT K H q zs ∧ xs.length + zs.length ≤ sizeLine ∧ ∀ r H', Same H H' → SqT K H' r (xs ++ zs) → Q (.ref r) H') := by
  refine propext ⟨fun h => ?_, fun ⟨xs, zs, h⟩ => ?_⟩
  · rcases h with ⟨_, _, e, _⟩ | ⟨_, _, e, _⟩ | ⟨_, _, xs, zs, e1, e2, h⟩ | ⟨_, _, xs, zs, e1, e2, h⟩
    · cases e
    · cases e
    · cases e1; cases e2; exact ⟨xs, zs, .inl h⟩
    · cases e1; cases e2; exact ⟨xs, zs, .inr h⟩
  · rcases h with h | h
    · exact .inr (.inr (.inl ⟨p, q, xs, zs, rfl, rfl, h⟩))
    · exact .inr (.inr (.inr ⟨p, q, xs, zs, rfl, rfl, h⟩))
theorem w_instBlB {T : String} : rInstB K T [.bl a, .ty T] H Q = ∃ c, PySem.W.kitOne K (.type "bool") (.type T) = some c ∧ Q (.bl c) H := by
  refine propext ⟨fun ⟨_, _, b, e, t, h⟩ => ?_, fun ⟨b, h⟩ => ⟨_, _, b, rfl, .of (.bl a), h⟩⟩
  cases e
  rcases t with t | t | t
  cases t; exact ⟨b, h⟩
theorem w_eqBl : rEq (.bl a) (.bl b) H Q = Q (.bl (decide (a = b))) H := by
  refine propext ⟨fun ⟨_, h⟩ => ?_, fun h => ⟨rfl, ?_⟩⟩
  · rw [dec_bl] at h; exact h
  · rw [dec_bl]; exact h
theorem w_neBl : rNe (.bl a) (.bl b) H Q = Q (.bl (!decide (a = b))) H := by
  refine propext ⟨fun ⟨_, h⟩ => ?_, fun h => ⟨rfl, ?_⟩⟩
  · rw [dec_bl] at h; exact h
  · rw [dec_bl]; exact h
theorem w_eqBlB : rEqB K (.bl a) (.bl b) H Q = Q (.bl (decide (a = b))) H := by
  refine propext ⟨fun h => ?_, fun h => .inl (w_eqBl ▸ h)⟩
  rcases h with h | ⟨d, b, hd, h, _⟩
  · rw [w_eqBl] at h; exact h
  · rcases h with h | h <;> cases h
theorem w_eqBlC : rEqC K (.bl a) (.bl b) H Q = Q (.bl (decide (a = b))) H := by
  refine propext ⟨fun h => ?_, fun h => .inl (w_eqBl ▸ h)⟩
  rcases h with h | ⟨d, d', h, _⟩
  · rw [w_eqBl] at h; exact h
  · cases h
theorem w_neBlC : rNeC K (.bl a) (.bl b) H Q = Q (.bl (!decide (a = b))) H := by
  refine propext ⟨fun h => ?_, fun h => .inl (w_neBl ▸ h)⟩
  rcases h with h | ⟨d, d', h, _⟩
  · rw [w_neBl] at h; exact h
  · cases h
theorem w_while : tWhile tc tb D σ H = ∃ W : Nat → St → Hp → Prop, (∃ m, W m σ H) ∧ ∀ m σ H, W m σ H →
  tc σ H fun b H1 => if b = true then ∃ N : St → Hp → Prop, (∀ σ' H', N σ' H' → ∃ m', m' < m ∧ W m' σ' H') ∧ tb { D with nx := N, ct := N, bk := D.nx } σ H1 else D.nx σ H1 := rfl
theorem w_ltS : rLtA (.str x) (.str y) H Q = Q (.bl (decide (x.cps.toList < y.cps.toList))) H := by
  refine propext ⟨fun h => ?_, fun h => .inr ⟨x, y, rfl, rfl, h⟩⟩
  rcases h with ⟨_, _, e, _⟩ | ⟨_, _, e1, e2, h⟩
  · cases e
  · cases e1; cases e2; exact h
end
end L2
set_option Elab.async false
set_option linter.all false
set_option maxRecDepth 100000
set_option maxHeartbeats 4000000
namespace L2
open PySem PySem.Spec PyProof.Rows
def PH1 (X : Cx) (hs : List ExceptHandler) (th : Addr → TS) : Prop :=
  ∀ (pins : List (Addr × Obj)) (s : Shared) (σ : St) (H : Hp) (D : Ends) (e C : Addr) (l : List Addr), 1 ≤ s.toks → Inv X pins σ H s → Air X.base s.heap e C (some .none) l → Apart X pins H l → th C D σ H →
    wpAny (model X.prog X.w) X.A (handleBy (.ref e) X.env hs) (SP X pins D) X.xe s
def Sut (X : Cx) (oe : Obj) : Prop := ∃ vs c, oe.data = .fields vs ∧ vs[2]? = some c ∧ Chn X.base.get? c
section
variable {X : Cx}
theorem ps_tryH {body orelse : List Stmt} {h₀ : ExceptHandler} {hs : List ExceptHandler} {pos : Pos} {tb : (Addr → St → Hp → Prop) → TS} {th : Addr → TS} {te : TS} (F : Fnc X)
    (hb : ∀ G pins E, Fnc (X.at pins E) → Out (X.at pins E) G → PassesOwn (model X.prog X.w) X.A X.env E → PSs1 (X.at pins E) body (tb G)) (hh : PH1 X (h₀ :: hs) th) (he : PSs X orelse te) :
    PS1 X (.Try body (h₀ :: hs) orelse [] pos) (tTry tb th te) := by
  intro pins s σ H D ht I ⟨G, h1, h2⟩
  refine wpAny_Try_except ?_
  have F' : ∀ E, Fnc (X.at pins E) := fun E => ⟨F.stk, F.fr, F.ex⟩
  refine wpAny_with_toks ht (wpAny_mono (hb G pins (fun u s₁ => wpAny (model X.prog X.w) X.A (noteFrame u X.env) (fun _ s₂ => 1 ≤ s₂.toks → wpAny (model X.prog X.w) X.A (setFlight u none) (fun _ s₃ => wpAny (model X.prog X.w) X.A (handleBy u X.env (h₀ :: hs)) (SP X pins D) X.xe s₃) X.xe s₂) X.xe s₁) (F' _) ?_ ?_ [] s σ H { D with nx := te D } ht (I.at _) h1) (fun f s₁ hs _ => ?_)
    fun u s₁ y h1 => wpAny_with_toks h1 (wpAny_mono y (fun _ _ k h2 => k h2) fun _ _ k _ => k))
  · intro u s₁ x
    refine XF.note (X := X.at pins _) (F' _) x fun s2 x2 h2' => ?_
    refine wpAny_with_toks h2' (XG.off (X := X.at pins _) (F' _) x2 fun s3 x3 h3 => ?_)
    obtain ⟨e, C, l, σ', H', rfl, J, a, hl, g⟩ := x3
    exact hh pins s3 σ' H' D e C l h3 J.unat a (fun b hb => hl b hb) (h2 C σ' H' g)
  · exact PassesOwn.looking (K := fun u s₂ => 1 ≤ s₂.toks → wpAny (model X.prog X.w) X.A (setFlight u none) (fun _ s₃ => wpAny (model X.prog X.w) X.A (handleBy u X.env (h₀ :: hs)) (SP X pins D) X.xe s₃) X.xe s₂)
  · cases f with
    | next =>
      obtain ⟨σ', H', J, q⟩ := hs
      exact he pins s₁ σ' H' D J.unat q
    | brk => exact SP.unat hs
    | cont => exact SP.unat hs
    | ret u => exact SP.unat hs
theorem SP.less {pins : List (Addr × Obj)} {p : Addr × Obj} {e : Addr} (ok : X.Ok) {D : Ends} {f : Flow} {s' : Shared} (h : SP (X.sui (pins ++ [p]) e) [] D f s') : SP X pins D f s' := by
  have k : ∀ {σ' : St} {H' : Hp}, Inv (X.sui (pins ++ [p]) e) [] σ' H' s' → Inv X pins σ' H' s' := fun I => (I.unsui ok).pins_of fun q hq => (I.unsui ok).pin q (List.mem_append_right _ (List.mem_append_left _ hq))
  cases f with
  | next => obtain ⟨σ', H', I, q⟩ := h; exact ⟨σ', H', k I, q⟩
  | brk => obtain ⟨σ', H', I, q⟩ := h; exact ⟨σ', H', k I, q⟩
  | cont => obtain ⟨σ', H', I, q⟩ := h; exact ⟨σ', H', k I, q⟩
  | ret u => obtain ⟨v, σ', H', I, r, q⟩ := h; exact ⟨v, σ', H', k I, r, q⟩
theorem ph_clsH {x : Str} {D : Addr} {np pos : Pos} {b₀ : Stmt} {suite : List Stmt} {rest : List ExceptHandler} {ts : TS} {tr : Addr → TS} (F : Fnc X) (hg : Gl X x) (hm : X.mg x = some (.ref D)) (hs : ∀ pins e oe, Sut X oe → PSs1 (X.sui (pins ++ [(e, oe)]) e) (b₀ :: suite) ts) (hr : PH1 X rest tr)
    (hd : (x == ("__debug__" : Str)) = false := by decide) :
    PH1 X (.ExceptHandler (some (.Name x np)) none (b₀ :: suite) pos :: rest) (fun C W σ H => ∃ b, SubX X.K C D b ∧ if b = true then ts W σ H else tr C W σ H) := by
  intro pins s σ H W e C l ht I a hl ⟨b, S, h⟩
  have a' := a
  obtain ⟨oe, vs, a0, h1, h2, h3, h4, h5⟩ := a
  refine wpAny_handleBy_cons (codeAny_handlers_test (ld_suite I hg hm ?_ hd)) (by intro q; cases q)
  refine matches_own S I.kIn h1 h2 ?_
  cases b with
  | false => exact hr pins s σ H W e C l ht I a' hl (by simpa using h)
  | true =>
    have F' : Fnc (X.sui pins e) := ⟨F.stk, F.fr, F.ex⟩
    refine codeAny_handlers_suite ?_
    refine wpAny_with_toks ht (XG.off (X := X.sui pins e) (G := fun C' σ' H' => C' = C ∧ σ' = σ ∧ H' = H) F' ⟨e, C, l, σ, H, rfl, I.sui e, a', fun b hb => hl b hb, rfl, rfl, rfl⟩ fun s2 x2 ht2 => ?_)
    obtain ⟨e2, C2, l2, σ2, H2, he, J, a2, hl2, rfl, rfl, rfl⟩ := x2
    cases he
    obtain ⟨q1, q2, q3⟩ := hl2 e a2.first
    obtain ⟨oe2, vs2, a02, r1, r2, r3, r4, _⟩ := a2
    have J0 : Inv X pins σ2 H2 s2 := J.unsui I.ok
    have ne : e ≠ X.env.locals := fun z => by
      obtain ⟨m, ⟨o', es, ep, h1', h2', _⟩, _⟩ := J0.loc
      rw [← z, r1] at h1'; cases h1'
      rw [r3] at h2'; cases h2'
    have nf : e ∉ X.fs := fun z => by
      have z' : e ∈ frs X.stack := by rw [F.stk]; unfold frs; rw [List.filterMap_cons, F.fr]; exact List.mem_cons_of_mem _ z
      obtain ⟨_, o', k1, k2⟩ := J0.stack.mem z'
      rw [r1] at k1; cases k1
      exact k2 _ r3
    have J1 : Inv X (pins ++ [(e, oe2)]) σ2 H2 s2 := J0.pins_of fun p hp => by
      rcases List.mem_append.mp hp with z | z
      · exact J0.pin p (List.mem_append_right _ z)
      · obtain rfl := List.mem_singleton.mp z
        exact ⟨r1, q2, ne, nf, fun v z => by rw [r3] at z; cases z⟩
    refine wpAny_mono (hs pins e oe2 ⟨_, _, r3, r4.2.choose_spec⟩ [] s2 σ2 H2 W ht2 (J1.sui e) (by simpa using h)) (fun f s3 q => SP.less I.ok q) fun _ _ z => z.elim
theorem ph_nil1 : PH1 X [] (fun _ _ _ _ => False) := fun _ _ _ _ _ _ _ _ _ _ _ _ h => h.elim
def more (b h : Heap) (e : Addr) : Heap := PySem.W.hideAll h ((List.range h.objs.size).filter fun a => decide (b.get? a = none) && decide (a ≠ e))
theorem more_of {b h : Heap} {e a : Addr} {o : Obj} (q : (more b h e).get? a = some o) : h.get? a = some o ∧ (b.get? a ≠ none ∨ a = e) := by
  have k := PySem.W.of_hideAll _ q
  refine ⟨k, Classical.byContradiction fun n => ?_⟩
  have n1 : b.get? a = none := Classical.byContradiction fun z => n (.inl z)
  have n2 : a ≠ e := fun z => n (.inr z)
  have : (more b h e).get? a = none := PySem.W.hideAll_none _ (List.mem_filter.mpr ⟨List.mem_range.mpr (Heap.lt_size k), by simp [n1, n2]⟩)
  rw [q] at this; cases this
theorem more_base {b h : Heap} {e a : Addr} {o : Obj} (k : b.get? a = some o) (q : h.get? a = some o) : (more b h e).get? a = some o := PySem.W.hideAll_get _ q fun z => by
  have := (List.mem_filter.mp z).2
  simp [k] at this
theorem more_self {b h : Heap} {e : Addr} {o : Obj} (q : h.get? e = some o) : (more b h e).get? e = some o := PySem.W.hideAll_get _ q fun z => by
  have := (List.mem_filter.mp z).2
  simp at this
variable {k : Nat} {f : Addr} {fd : FuncData} {ps : List Str} {sp : Sp} {dvs : List V} {ds : List Value} {x : Str} {p pos : Pos} {e : Expr} {es : List Expr} {t : TA}
theorem pe_callS {pn : List (Addr × Obj)} {ex : Addr} {oe : Obj} (Fn : Fnc X) (St : Sut X oe) (F : ∀ b : Heap, FnOk1 X.prog X.w X.K X.mg b CX0 k f fd ps sp) (hr : Room (b := X.base) k X.A) (hg : Gl (X.sui (pn ++ [(ex, oe)]) ex) x) (hm : X.mg x = some (.ref f)) (hk : PySem.W.keepIn X.K (.ref f) = true) (hb : Binds X.K fd ps ds) (hd : Vals dvs ds)
    (ha : PA1 (X.sui (pn ++ [(ex, oe)]) ex) (e :: es) t) (hdb : (x == ("__debug__" : Str)) = false := by decide) (he : starEach (e :: es) X.env = (false, eval e X.env) :: starEach es X.env := by rfl) (hpl : (backTo pos (starEach es X.env)).any (·.1) = false := by rfl) :
    PE1 (X.sui (pn ++ [(ex, oe)]) ex) (.Call (.Name x p) (e :: es) [] pos) (tCall sp dvs E0 t) := by
  intro pins s σ H Q ht I h
  refine wpAny_Call_Name_kw (ld_glob I hg hm ?_ hdb)
  refine PySem.W.callWith_K (h₀ := X.base) I.ok.mod.kin hk (thn1 ht (ha pos pins s σ H _ ht I h) fun us s1 ht1 ⟨vs, H1, I1, r, q⟩ => ⟨I1.kIn, ?_⟩) he hpl
  have r2 : Vals (vs ++ dvs) (us ++ ds) := r.append hd
  have hl : (us ++ ds).length = ps.length := by rw [← r2.length]; exact (F X.base).len _ _ _ _ q
  obtain ⟨e1, e2, e3, e4, e5⟩ := I1.pin (ex, oe) (List.mem_append_left _ (List.mem_append_right _ (List.mem_append_right _ List.mem_cons_self)))
  have up : ∀ a o, X.base.get? a = some o → (more X.base s1.heap ex).get? a = some o := fun a o q => more_base q (I1.bk a o q)
  have e0 := I1.env0
  have bs' : ∀ a o, (more X.base s1.heap ex).get? a = some o → s1.heap.get? a = some o ∧ H1 a = none := fun a o q => by
    obtain ⟨k1, k2⟩ := more_of q
    refine ⟨k1, ?_⟩
    rcases k2 with k2 | rfl
    · cases z : X.base.get? a with
      | none => exact absurd z k2
      | some o' => exact (I1.bs a o' z).2
    · exact e2
  have md : Mod X.K X.mg (more X.base s1.heap ex) := ⟨I1.ok.mod.kin.keeps up, I1.ok.mod.glob.keeps up, by obtain ⟨mb, h1, h2⟩ := I1.ok.mod.blt; exact ⟨mb, h1.keeps up, h2⟩, I1.ok.mod.nolimit.keeps up⟩
  have fr' : ∀ a ∈ frs X.stack, (more X.base s1.heap ex).get? a = none := fun a ha' => by
    cases z : (more X.base s1.heap ex).get? a with
    | none => rfl
    | some o =>
      rcases (more_of z).2 with k2 | rfl
      · exact absurd (e0.funs.mem ha').1 k2
      · rw [Fn.stk] at ha'
        unfold frs at ha'
        rw [List.filterMap_cons, Fn.fr] at ha'
        rcases List.mem_cons.mp ha' with z | z
        · exact absurd z e3
        · exact absurd z e4
  have env' : Env0 X.prog X.w X.K X.mg (more X.base s1.heap ex) (X.A.mark (some (.ref ex))) X.stack s1 H1 := ⟨e0.frames, md, bs', Nat.le_of_eq (PySem.W.hideAll_size _ _), rebase e0.funs fr', e0.frf, e0.hok, e0.bare⟩
  have hr' : Room (b := more X.base s1.heap ex) k (X.A.mark (some (.ref ex))) := by
    obtain ⟨vs', c, d1, d2, d3⟩ := St
    exact ⟨fun v q => by cases q; exact ⟨⟨ex, rfl⟩, .cons (more_self e1) d1 d2 (d3.mono up)⟩, hr.dp, hr.un, hr.gd⟩
  refine wpAny_call (codeAny_mono ((F _).run _ X.stack s1 H1 ⟨us, []⟩ (us ++ ds) (vs ++ dvs) Q E0 ht1 hr' env' (hb s1 us I1.kIn hl) r2 q) fun r s' hq => ?_)
  cases r with
  | error e => exact False.elim hq
  | ok fl =>
    cases fl with
    | ret u => exact I1.after hq
    | next => exact False.elim hq
    | brk => exact False.elim hq
    | cont => exact False.elim hq
theorem pe_callX1 {G : Addr → St → Hp → Prop} (Fn : Fnc X) (ho : Out X G) (F : FnOk1 X.prog X.w X.K X.mg X.base (CXX X.prog X.w X.base) k f fd ps sp) (hr : Room (b := X.base) k X.A) (hg : Gl X x) (hm : X.mg x = some (.ref f)) (hk : PySem.W.keepIn X.K (.ref f) = true) (hb : Binds X.K fd ps ds) (hd : Vals dvs ds)
    (ha : PA1 X (e :: es) t) (hdb : (x == ("__debug__" : Str)) = false := by decide) (he : starEach (e :: es) X.env = (false, eval e X.env) :: starEach es X.env := by rfl) (hpl : (backTo pos (starEach es X.env)).any (·.1) = false := by rfl) :
    PE1 X (.Call (.Name x p) (e :: es) [] pos) (tCallX sp dvs G t) := by
  intro pins s σ H Q ht I h
  refine wpAny_Call_Name_kw (ld_glob I hg hm ?_ hdb)
  refine PySem.W.callWith_K (h₀ := X.base) I.ok.mod.kin hk (thn1 ht (ha pos pins s σ H _ ht I h) fun us s1 ht1 ⟨vs, H1, I1, r, q⟩ => ⟨I1.kIn, ?_⟩) he hpl
  have r2 : Vals (vs ++ dvs) (us ++ ds) := r.append hd
  have hl : (us ++ ds).length = ps.length := by rw [← r2.length]; exact F.len _ _ _ _ q
  refine wpAny_call (codeAny_mono (F.run X.A X.stack s1 H1 ⟨us, []⟩ (us ++ ds) (vs ++ dvs) Q _ ht1 hr I1.env0 (hb s1 us I1.kIn hl) r2 q) fun r s' hq => ?_)
  cases r with
  | error e => exact ho _ _ (XF.comes Fn I1 hq)
  | ok fl =>
    cases fl with
    | ret u => exact I1.after hq
    | next => exact False.elim hq
    | brk => exact False.elim hq
    | cont => exact False.elim hq
end
theorem Fun.okX1 {P : Program} {w : World} {K : PySem.W.Frag} {mg : Str → Option Value} {base : Heap} {x qual : Str} {st : Stmt} {f : Addr} {fd : FuncData} {N ps : List Str} {k : Nat} {sp : Sp} (F : Fun K x qual st f fd) (S : FnScope N ps (defScope st)) (len : ∀ vs H Q E, sp vs H Q E → vs.length = ps.length)
    (hbody : ∀ (cdv : Value) (A : Around) (outer : List Env) (s : Shared) (H : Hp) (vs : List V) (Q : VK) (E : XK), Room (b := base) k (A.deeper (envOfC qual (defScope st) s.heap.objs.size f cdv)) → sp vs H Q E →
      ∃ t, PSs1 (cxOf (CXX P w base) P w K mg base N qual (defScope st) f cdv A outer s H E) (defBody st) t ∧ t { nx := fun _ H' => Q .non H', rt := Q } (start N vs) H) : FnOk1 P w K mg base (CXX P w base) (k + 1) f fd ps sp := by
  obtain ⟨oc, od, kV, doc, pm, an, cdv, ct, osl, rfl, lk, hcd⟩ := F.ex
  exact fn_of1 lk hcd S len fun A outer s H vs Q E hr hsp => hbody cdv A outer s H vs Q E hr hsp
end L2
namespace L2
open PySem PySem.Spec PyProof.Rows
theorem ps_ret1 {X : Cx} {e : Expr} {te : TE} {pos : Pos} (he : PE1 X e te) : PS1 X (.Return (some e) pos) (tRet te) := fun pins s σ H D ht I h =>
  wpAny_Return_some (thn (he pins s σ H _ ht I h) fun v s1 ⟨x, H1, I1, r1, q1⟩ => ⟨x, σ, H1, I1, r1, q1⟩)
theorem ps_expr1 {X : Cx} {e : Expr} {te : TE} {pos : Pos} (he : PE1 X e te) (hs : swapsWith e none pos.line X.env = pure false := by rfl) : PS1 X (.Expr e pos) (tDrop te) := fun pins s σ H D ht I h =>
  wpAny_Expr_any (thn (he pins s σ H _ ht I h) fun v s1 ⟨x, H1, I1, r1, q1⟩ => ⟨σ, H1, I1, q1⟩) I.quiet hs
end L2
set_option Elab.async false
set_option linter.all false
set_option maxRecDepth 100000
set_option maxHeartbeats 4000000
namespace L2
open PySem PySem.Spec PyProof.Rows PySem.SeqAt
section
variable {X : Cx} {K : PySem.W.Frag} {p : Addr} {H : Hp} {Q : VK}
def rIndexS (K : PySem.W.Frag) : V → List V → Hp → VK → Prop := fun x vs H Q => ∃ (p : Addr) (ts : List Str) (z : Str), x = .ref p ∧ vs = [.str z] ∧ SqL K H p (ts.map V.str) ∧ z ∈ ts ∧ ts.length ≤ 1000 ∧ Q (.int ((ts.idxOf z : Nat) : Int)) H
theorem mt_indexS : MtR X "list.index" (rIndexS X.K) := by
  intro pins s σ H x vs v us Q I rx rv h
  obtain ⟨p, ts, z, rfl, rfl, hq, hz, hl, q⟩ := h
  cases rx
  obtain ⟨u, rfl, ⟨t, rfl⟩⟩ := rv.one
  obtain ⟨its, r, pl, _⟩ := I.list hq
  obtain ⟨⟨cls, dd, data, sl⟩, ho, hc, n, hd⟩ := pl.isList
  simp only at hc hd
  subst hc hd
  have hlen : its.length = ts.length := by have := r.length; simpa using this.symm
  have hj : ts.idxOf z < ts.length := List.idxOf_lt_length_iff.mpr hz
  have at' : ∀ (i : Nat) (hi : i < its.length), ∃ t', its[i] = .str (ts[i]'(by omega)) t' := fun i hi => by
    obtain ⟨w', ew, rw'⟩ := r.get (i := i) (x := .str (ts[i]'(by omega))) (by rw [List.getElem?_map, List.getElem?_eq_getElem (by omega)]; rfl)
    rw [List.getElem?_eq_getElem hi] at ew
    cases ew
    exact rw'
  let e : Value → Bool := fun v => match v with | .str y _ => y == z | _ => false
  refine call_meets PySem.F.slot_list_index ⟨_, ho, rfl⟩ PySem.F.entry_list_index (PySem.F.args_list_index_2 _ _)
    (list_indexAt p its.toArray n dd sl (.str z t) e (ts.idxOf z) (by simpa [hlen] using hj) (by omega) ?_ ?_) ⟨ho, fun y hy => ?_, ⟨.int _, H, I.tok _, ⟨s.toks, rfl⟩, q⟩⟩
  · obtain ⟨t', et⟩ := at' (ts.idxOf z) (by omega)
    show e its[ts.idxOf z] = true
    rw [et]
    show (ts[ts.idxOf z] == z) = true
    simp
  · intro j hjs hlt
    obtain ⟨t', et⟩ := at' j (by simpa using hjs)
    show e its[j] = false
    rw [et]
    show (ts[j] == z) = false
    simpa using List.not_of_lt_findIdx hlt
  · have hy' : y ∈ its := by simpa using hy
    obtain ⟨j, hj', rfl⟩ := List.mem_iff_getElem.mp hy'
    obtain ⟨t', et⟩ := at' j hj'
    rw [et]
    exact EqAt.str_str _ _ _ _
variable {K : PySem.W.Frag} {Q : VK} {p : Addr}
theorem mtA_index (K : PySem.W.Frag) (hK : X.K = K := by rfl) : MtR X "list.index" (rIndexS K) := hK ▸ mt_indexS
theorem w_index {z : Str} : rIndexS K (.ref p) [.str z] H Q = ∃ ts : List Str, SqL K H p (ts.map V.str) ∧ z ∈ ts ∧ ts.length ≤ 1000 ∧ Q (.int ((ts.idxOf z : Nat) : Int)) H := by
  refine propext ⟨fun ⟨_, ts, _, e1, e2, h⟩ => ?_, fun ⟨ts, h⟩ => ⟨p, ts, z, rfl, rfl, h⟩⟩
  cases e1; cases e2; exact ⟨ts, h⟩
variable {k : Int}
theorem w_mulR6 : rMulA (.ref p) (.int k) H Q = ∃ xs, H p = some (.lst xs) ∧ -(2 ^ 63) ≤ k ∧ k < 2 ^ 63 ∧ xs.length * k.toNat ≤ sizeLine ∧ ∀ q, H q = none → Q (.ref q) (upd H q (.lst (List.replicate k.toNat xs).flatten)) := by
  refine propext ⟨fun h => ?_, fun ⟨xs, h⟩ => .inr ⟨p, k, xs, rfl, rfl, h⟩⟩
  rcases h with ⟨_, _, e, _⟩ | ⟨_, _, xs, e1, e2, h⟩
  · cases e
  · cases e1; cases e2; exact ⟨xs, h⟩
end
end L2
set_option Elab.async false
set_option linter.all false
set_option maxRecDepth 100000
set_option maxHeartbeats 4000000
namespace K06
open PySem L2
def top (i : Nat) : Stmt := PySem.Challenge.pw_boxproof_k06_what_is_read.main.body.getD i (.Pass ⟨0, 0, 0, 0⟩)
abbrev s_runs_in : Stmt := top 5
abbrev s_begins_and_goes_on : Stmt := top 14
abbrev s_is_name : Stmt := top 15
abbrev s_is_letter : Stmt := top 16
abbrev s_is_word : Stmt := top 17
abbrev s_runs_of : Stmt := top 24
abbrev s_read : Stmt := top 26
abbrev s_take_statement : Stmt := top 27
abbrev s_take_letter : Stmt := top 28
abbrev s_take_pair : Stmt := top 29
abbrev s_take_terms : Stmt := top 30
abbrev s_take_term : Stmt := top 31
abbrev s_cell_at_L : Stmt := top 33
abbrev s_mixed_L : Stmt := top 34
abbrev s_sign_by_L : Stmt := top 35
abbrev s_name_by_L : Stmt := top 36
abbrev s_small_by_L : Stmt := top 37
abbrev s_wrapped_L : Stmt := top 38
abbrev s_statement_by_L : Stmt := top 39
abbrev s_many_by_L : Stmt := top 40
abbrev s_written_L : Stmt := top 41
abbrev s_tokens_L : Stmt := top 42
abbrev s_parts_L : Stmt := top 43
abbrev s_is_built_L : Stmt := top 44
abbrev s_is_right_L : Stmt := top 45
abbrev s_fit_L : Stmt := top 46
abbrev s_spoilt_L : Stmt := top 47
abbrev s_joined_L : Stmt := top 48
abbrev s_refused_right_L : Stmt := top 49
abbrev s_law : Stmt := top 50
abbrev s_Runs_init : Stmt := inClass (top 25) 0
abbrev s_Runs_ahead : Stmt := inClass (top 25) 1
abbrev s_Runs_take : Stmt := inClass (top 25) 2
abbrev s_Runs_want : Stmt := inClass (top 25) 3
set_option genInjectivity false in
set_option genSizeOf false in
structure Defs where
  (a_runs_in : Addr) (d_runs_in : FuncData)
  (a_begins_and_goes_on : Addr) (d_begins_and_goes_on : FuncData)
  (a_is_name : Addr) (d_is_name : FuncData)
  (a_is_letter : Addr) (d_is_letter : FuncData)
  (a_is_word : Addr) (d_is_word : FuncData)
  (a_runs_of : Addr) (d_runs_of : FuncData)
  (a_read : Addr) (d_read : FuncData)
  (a_take_statement : Addr) (d_take_statement : FuncData)
  (a_take_letter : Addr) (d_take_letter : FuncData)
  (a_take_pair : Addr) (d_take_pair : FuncData)
  (a_take_terms : Addr) (d_take_terms : FuncData)
  (a_take_term : Addr) (d_take_term : FuncData)
  (a_cell_at_L : Addr) (d_cell_at_L : FuncData)
  (a_mixed_L : Addr) (d_mixed_L : FuncData)
  (a_sign_by_L : Addr) (d_sign_by_L : FuncData)
  (a_name_by_L : Addr) (d_name_by_L : FuncData)
  (a_small_by_L : Addr) (d_small_by_L : FuncData)
  (a_wrapped_L : Addr) (d_wrapped_L : FuncData)
  (a_statement_by_L : Addr) (d_statement_by_L : FuncData)
  (a_many_by_L : Addr) (d_many_by_L : FuncData)
  (a_written_L : Addr) (d_written_L : FuncData)
  (a_tokens_L : Addr) (d_tokens_L : FuncData)
  (a_parts_L : Addr) (d_parts_L : FuncData)
  (a_is_built_L : Addr) (d_is_built_L : FuncData)
  (a_is_right_L : Addr) (d_is_right_L : FuncData)
  (a_fit_L : Addr) (d_fit_L : FuncData)
  (a_spoilt_L : Addr) (d_spoilt_L : FuncData)
  (a_joined_L : Addr) (d_joined_L : FuncData)
  (a_refused_right_L : Addr) (d_refused_right_L : FuncData)
  (a_law : Addr) (d_law : FuncData)
  (a_Runs_init : Addr) (d_Runs_init : FuncData)
  (a_Runs_ahead : Addr) (d_Runs_ahead : FuncData)
  (a_Runs_take : Addr) (d_Runs_take : FuncData)
  (a_Runs_want : Addr) (d_Runs_want : FuncData)
  (k_KEPT_WORDS : Addr)
  (k_PAIRS : Addr)
  (k_QUANTIFIERS : Addr)
  (x_BoxError : Addr)
  (x_NoStatement : Addr)
  (x_NoName : Addr)
  (C_Runs : Addr)
set_option genInjectivity false in
set_option genSizeOf false in
structure Tx (K : PySem.W.Frag) (mg : Str → Option Value) (D : Defs) : Prop where
  F_runs_in : Fun K "runs_in" "runs_in" s_runs_in D.a_runs_in D.d_runs_in
  m_runs_in : mg "runs_in" = some (.ref D.a_runs_in)
  b_runs_in : Binds K D.d_runs_in ["row"] []
  F_begins_and_goes_on : Fun K "begins_and_goes_on" "begins_and_goes_on" s_begins_and_goes_on D.a_begins_and_goes_on D.d_begins_and_goes_on
  m_begins_and_goes_on : mg "begins_and_goes_on" = some (.ref D.a_begins_and_goes_on)
  b_begins_and_goes_on : Binds K D.d_begins_and_goes_on ["text", "first_signs"] []
  F_is_name : Fun K "is_name" "is_name" s_is_name D.a_is_name D.d_is_name
  m_is_name : mg "is_name" = some (.ref D.a_is_name)
  b_is_name : Binds K D.d_is_name ["text"] []
  F_is_letter : Fun K "is_letter" "is_letter" s_is_letter D.a_is_letter D.d_is_letter
  m_is_letter : mg "is_letter" = some (.ref D.a_is_letter)
  b_is_letter : Binds K D.d_is_letter ["text"] []
  F_is_word : Fun K "is_word" "is_word" s_is_word D.a_is_word D.d_is_word
  m_is_word : mg "is_word" = some (.ref D.a_is_word)
  b_is_word : Binds K D.d_is_word ["text"] []
  F_runs_of : Fun K "runs_of" "runs_of" s_runs_of D.a_runs_of D.d_runs_of
  m_runs_of : mg "runs_of" = some (.ref D.a_runs_of)
  b_runs_of : Binds K D.d_runs_of ["text"] []
  F_read : Fun K "read" "read" s_read D.a_read D.d_read
  m_read : mg "read" = some (.ref D.a_read)
  b_read : Binds K D.d_read ["text"] []
  F_take_statement : Fun K "take_statement" "take_statement" s_take_statement D.a_take_statement D.d_take_statement
  m_take_statement : mg "take_statement" = some (.ref D.a_take_statement)
  b_take_statement : Binds K D.d_take_statement ["runs", "room"] []
  F_take_letter : Fun K "take_letter" "take_letter" s_take_letter D.a_take_letter D.d_take_letter
  m_take_letter : mg "take_letter" = some (.ref D.a_take_letter)
  b_take_letter : Binds K D.d_take_letter ["runs"] []
  F_take_pair : Fun K "take_pair" "take_pair" s_take_pair D.a_take_pair D.d_take_pair
  m_take_pair : mg "take_pair" = some (.ref D.a_take_pair)
  b_take_pair : Binds K D.d_take_pair ["runs", "room"] []
  F_take_terms : Fun K "take_terms" "take_terms" s_take_terms D.a_take_terms D.d_take_terms
  m_take_terms : mg "take_terms" = some (.ref D.a_take_terms)
  b_take_terms : Binds K D.d_take_terms ["runs"] []
  F_take_term : Fun K "take_term" "take_term" s_take_term D.a_take_term D.d_take_term
  m_take_term : mg "take_term" = some (.ref D.a_take_term)
  b_take_term : Binds K D.d_take_term ["runs"] []
  F_cell_at_L : Fun K "_law_cell_at" "_law_cell_at" s_cell_at_L D.a_cell_at_L D.d_cell_at_L
  m_cell_at_L : mg "_law_cell_at" = some (.ref D.a_cell_at_L)
  b_cell_at_L : Binds K D.d_cell_at_L ["_law_script", "_law_k"] []
  F_mixed_L : Fun K "_law_mixed" "_law_mixed" s_mixed_L D.a_mixed_L D.d_mixed_L
  m_mixed_L : mg "_law_mixed" = some (.ref D.a_mixed_L)
  b_mixed_L : Binds K D.d_mixed_L ["_law_script", "_law_k"] []
  F_sign_by_L : Fun K "_law_sign_by" "_law_sign_by" s_sign_by_L D.a_sign_by_L D.d_sign_by_L
  m_sign_by_L : mg "_law_sign_by" = some (.ref D.a_sign_by_L)
  b_sign_by_L : Binds K D.d_sign_by_L ["_law_number", "_law_signs"] []
  F_name_by_L : Fun K "_law_name_by" "_law_name_by" s_name_by_L D.a_name_by_L D.d_name_by_L
  m_name_by_L : mg "_law_name_by" = some (.ref D.a_name_by_L)
  b_name_by_L : Binds K D.d_name_by_L ["_law_number", "_law_firsts", "_law_turn"] []
  F_small_by_L : Fun K "_law_small_by" "_law_small_by" s_small_by_L D.a_small_by_L D.d_small_by_L
  m_small_by_L : mg "_law_small_by" = some (.ref D.a_small_by_L)
  b_small_by_L : Binds K D.d_small_by_L ["_law_number", "_law_base"] []
  F_wrapped_L : Fun K "_law_wrapped" "_law_wrapped" s_wrapped_L D.a_wrapped_L D.d_wrapped_L
  m_wrapped_L : mg "_law_wrapped" = some (.ref D.a_wrapped_L)
  b_wrapped_L : Binds K D.d_wrapped_L ["_law_ka", "_law_number", "_law_other", "_law_base"] []
  F_statement_by_L : Fun K "_law_statement_by" "_law_statement_by" s_statement_by_L D.a_statement_by_L D.d_statement_by_L
  m_statement_by_L : mg "_law_statement_by" = some (.ref D.a_statement_by_L)
  b_statement_by_L : Binds K D.d_statement_by_L ["_law_script", "_law_at", "_law_many"] []
  F_many_by_L : Fun K "_law_many_by" "_law_many_by" s_many_by_L D.a_many_by_L D.d_many_by_L
  m_many_by_L : mg "_law_many_by" = some (.ref D.a_many_by_L)
  b_many_by_L : Binds K D.d_many_by_L ["_law_cell"] []
  F_written_L : Fun K "_law_written" "_law_written" s_written_L D.a_written_L D.d_written_L
  m_written_L : mg "_law_written" = some (.ref D.a_written_L)
  b_written_L : Binds K D.d_written_L ["_law_ka"] []
  F_tokens_L : Fun K "_law_tokens" "_law_tokens" s_tokens_L D.a_tokens_L D.d_tokens_L
  m_tokens_L : mg "_law_tokens" = some (.ref D.a_tokens_L)
  b_tokens_L : Binds K D.d_tokens_L ["_law_text"] []
  F_parts_L : Fun K "_law_parts" "_law_parts" s_parts_L D.a_parts_L D.d_parts_L
  m_parts_L : mg "_law_parts" = some (.ref D.a_parts_L)
  b_parts_L : Binds K D.d_parts_L ["_law_ka"] []
  F_is_built_L : Fun K "_law_is_built" "_law_is_built" s_is_built_L D.a_is_built_L D.d_is_built_L
  m_is_built_L : mg "_law_is_built" = some (.ref D.a_is_built_L)
  b_is_built_L : Binds K D.d_is_built_L ["_law_text", "_law_firsts"] []
  F_is_right_L : Fun K "_law_is_right" "_law_is_right" s_is_right_L D.a_is_right_L D.d_is_right_L
  m_is_right_L : mg "_law_is_right" = some (.ref D.a_is_right_L)
  b_is_right_L : Binds K D.d_is_right_L ["_law_ka"] []
  F_fit_L : Fun K "_law_fit" "_law_fit" s_fit_L D.a_fit_L D.d_fit_L
  m_fit_L : mg "_law_fit" = some (.ref D.a_fit_L)
  b_fit_L : Binds K D.d_fit_L ["_law_ka", "_law_room"] []
  F_spoilt_L : Fun K "_law_spoilt" "_law_spoilt" s_spoilt_L D.a_spoilt_L D.d_spoilt_L
  m_spoilt_L : mg "_law_spoilt" = some (.ref D.a_spoilt_L)
  b_spoilt_L : Binds K D.d_spoilt_L ["_law_tokens_here", "_law_cell", "_law_word"] []
  F_joined_L : Fun K "_law_joined" "_law_joined" s_joined_L D.a_joined_L D.d_joined_L
  m_joined_L : mg "_law_joined" = some (.ref D.a_joined_L)
  b_joined_L : Binds K D.d_joined_L ["_law_tokens_here", "_law_script", "_law_tight"] []
  F_refused_right_L : Fun K "_law_refused_right" "_law_refused_right" s_refused_right_L D.a_refused_right_L D.d_refused_right_L
  m_refused_right_L : mg "_law_refused_right" = some (.ref D.a_refused_right_L)
  b_refused_right_L : Binds K D.d_refused_right_L ["_law_text"] []
  F_law : Fun K "law" "law" s_law D.a_law D.d_law
  m_law : mg "law" = some (.ref D.a_law)
  b_law : Binds K D.d_law ["_law_script"] []
  F_Runs_init : Fun K "__init__" "Runs.__init__" s_Runs_init D.a_Runs_init D.d_Runs_init
  h_Runs_init : Meth K D.C_Runs "__init__" D.a_Runs_init
  b_Runs_init : Binds K D.d_Runs_init ["self", "runs"] []
  F_Runs_ahead : Fun K "ahead" "Runs.ahead" s_Runs_ahead D.a_Runs_ahead D.d_Runs_ahead
  h_Runs_ahead : Meth K D.C_Runs "ahead" D.a_Runs_ahead
  b_Runs_ahead : Binds K D.d_Runs_ahead ["self"] []
  F_Runs_take : Fun K "take" "Runs.take" s_Runs_take D.a_Runs_take D.d_Runs_take
  h_Runs_take : Meth K D.C_Runs "take" D.a_Runs_take
  b_Runs_take : Binds K D.d_Runs_take ["self"] []
  F_Runs_want : Fun K "want" "Runs.want" s_Runs_want D.a_Runs_want D.d_Runs_want
  h_Runs_want : Meth K D.C_Runs "want" D.a_Runs_want
  b_Runs_want : Binds K D.d_Runs_want ["self", "wanted"] []
  c_SMALL : ∃ t, mg "SMALL" = some (.str "abcdefghijklmnopqrstuvwxyz" t)
  c_GREAT : ∃ t, mg "GREAT" = some (.str "ABCDEFGHIJKLMNOPQRSTUVWXYZ" t)
  c_SMALL_OR_FIGURE : ∃ t, mg "SMALL_OR_FIGURE" = some (.str "abcdefghijklmnopqrstuvwxyz0123456789" t)
  c_KEPT_WORDS : mg "KEPT_WORDS" = some (.ref D.k_KEPT_WORDS)
  q_KEPT_WORDS : ∀ H, SqT K H D.k_KEPT_WORDS [V.str "not", V.str "and", V.str "or", V.str "then", V.str "all", V.str "some", V.str "false"]
  c_MOST_SIGNS : ∃ t, mg "MOST_SIGNS" = some (.int 8 t)
  c_PAIRS : mg "PAIRS" = some (.ref D.k_PAIRS)
  q_PAIRS : ∀ H, SqT K H D.k_PAIRS [V.str "and", V.str "or", V.str "then"]
  c_QUANTIFIERS : mg "QUANTIFIERS" = some (.ref D.k_QUANTIFIERS)
  q_QUANTIFIERS : ∀ H, SqT K H D.k_QUANTIFIERS [V.str "all", V.str "some"]
  c_RUN_SIGNS : ∃ t, mg "RUN_SIGNS" = some (.str "abcdefghijklmnopqrstuvwxyzABCDEFGHIJKLMNOPQRSTUVWXYZ0123456789" t)
  c_SINGLE_SIGNS : ∃ t, mg "SINGLE_SIGNS" = some (.str "()," t)
  c_END : ∃ t, mg "END" = some (.str "" t)
  c_MOST_TERMS : ∃ t, mg "MOST_TERMS" = some (.int 3 t)
  c_MOST_DEEP : ∃ t, mg "MOST_DEEP" = some (.int 40 t)
  z_ValueError : mg "ValueError" = none
  z_all : mg "all" = none
  z_int : mg "int" = none
  z_isinstance : mg "isinstance" = none
  z_len : mg "len" = none
  z_range : mg "range" = none
  z_str : mg "str" = none
  z_tuple : mg "tuple" = none
  x_BoxError : XCls K mg "BoxError" D.x_BoxError [] [.type "ValueError", .type "Exception", .type "BaseException", .type "object"] "ValueError.__new__"
  x_NoStatement : XCls K mg "NoStatement" D.x_NoStatement [D.x_BoxError] [.type "ValueError", .type "Exception", .type "BaseException", .type "object"] "ValueError.__new__"
  x_NoName : XCls K mg "NoName" D.x_NoName [D.x_BoxError] [.type "ValueError", .type "Exception", .type "BaseException", .type "object"] "ValueError.__new__"
  m_Runs : mg "Runs" = some (.ref D.C_Runs)
  cl_Runs : Cls K D.C_Runs
  mk_Runs : Mk K D.C_Runs D.a_Runs_init
  n_Runs_runs : NoAttr K D.C_Runs "runs"
  n_Runs_place : NoAttr K D.C_Runs "place"
  v_NoStatement_BoxError : SubX K D.x_NoStatement D.x_BoxError true
  i_NoStatement_BoxError : PySem.W.kitOne K (.ref D.x_NoStatement) (.ref D.x_BoxError) = some true
  v_NoStatement_NoStatement : SubX K D.x_NoStatement D.x_NoStatement true
  i_NoStatement_NoStatement : PySem.W.kitOne K (.ref D.x_NoStatement) (.ref D.x_NoStatement) = some true
  v_NoStatement_NoName : SubX K D.x_NoStatement D.x_NoName false
  i_NoStatement_NoName : PySem.W.kitOne K (.ref D.x_NoStatement) (.ref D.x_NoName) = some false
  i_NoStatement_ValueError : PySem.W.kitOne K (.ref D.x_NoStatement) (.type "ValueError") = some true
theorem Tx.g_SMALL {K : PySem.W.Frag} {mg : Str → Option Value} {D : Defs} (T : Tx K mg D) {X : Cx} {pos : Pos} (h : Gl X "SMALL") (hm : X.mg = mg := by rfl) : PE X (.Name "SMALL" pos) (tC (.str "abcdefghijklmnopqrstuvwxyz")) := by
  obtain ⟨t, e⟩ := T.c_SMALL
  exact pe_glob h (hm ▸ e) ⟨t, rfl⟩
theorem Tx.g_GREAT {K : PySem.W.Frag} {mg : Str → Option Value} {D : Defs} (T : Tx K mg D) {X : Cx} {pos : Pos} (h : Gl X "GREAT") (hm : X.mg = mg := by rfl) : PE X (.Name "GREAT" pos) (tC (.str "ABCDEFGHIJKLMNOPQRSTUVWXYZ")) := by
  obtain ⟨t, e⟩ := T.c_GREAT
  exact pe_glob h (hm ▸ e) ⟨t, rfl⟩
theorem Tx.g_SMALL_OR_FIGURE {K : PySem.W.Frag} {mg : Str → Option Value} {D : Defs} (T : Tx K mg D) {X : Cx} {pos : Pos} (h : Gl X "SMALL_OR_FIGURE") (hm : X.mg = mg := by rfl) : PE X (.Name "SMALL_OR_FIGURE" pos) (tC (.str "abcdefghijklmnopqrstuvwxyz0123456789")) := by
  obtain ⟨t, e⟩ := T.c_SMALL_OR_FIGURE
  exact pe_glob h (hm ▸ e) ⟨t, rfl⟩
theorem Tx.g_KEPT_WORDS {K : PySem.W.Frag} {mg : Str → Option Value} {D : Defs} (T : Tx K mg D) {X : Cx} {pos : Pos} (h : Gl X "KEPT_WORDS") (hm : X.mg = mg := by rfl) : PE X (.Name "KEPT_WORDS" pos) (tC (.ref D.k_KEPT_WORDS)) := pe_glob h (hm ▸ T.c_KEPT_WORDS) rfl
theorem Tx.g_MOST_SIGNS {K : PySem.W.Frag} {mg : Str → Option Value} {D : Defs} (T : Tx K mg D) {X : Cx} {pos : Pos} (h : Gl X "MOST_SIGNS") (hm : X.mg = mg := by rfl) : PE X (.Name "MOST_SIGNS" pos) (tC (.int 8)) := by
  obtain ⟨t, e⟩ := T.c_MOST_SIGNS
  exact pe_glob h (hm ▸ e) ⟨t, rfl⟩
theorem Tx.g_PAIRS {K : PySem.W.Frag} {mg : Str → Option Value} {D : Defs} (T : Tx K mg D) {X : Cx} {pos : Pos} (h : Gl X "PAIRS") (hm : X.mg = mg := by rfl) : PE X (.Name "PAIRS" pos) (tC (.ref D.k_PAIRS)) := pe_glob h (hm ▸ T.c_PAIRS) rfl
theorem Tx.g_QUANTIFIERS {K : PySem.W.Frag} {mg : Str → Option Value} {D : Defs} (T : Tx K mg D) {X : Cx} {pos : Pos} (h : Gl X "QUANTIFIERS") (hm : X.mg = mg := by rfl) : PE X (.Name "QUANTIFIERS" pos) (tC (.ref D.k_QUANTIFIERS)) := pe_glob h (hm ▸ T.c_QUANTIFIERS) rfl
theorem Tx.g_RUN_SIGNS {K : PySem.W.Frag} {mg : Str → Option Value} {D : Defs} (T : Tx K mg D) {X : Cx} {pos : Pos} (h : Gl X "RUN_SIGNS") (hm : X.mg = mg := by rfl) : PE X (.Name "RUN_SIGNS" pos) (tC (.str "abcdefghijklmnopqrstuvwxyzABCDEFGHIJKLMNOPQRSTUVWXYZ0123456789")) := by
  obtain ⟨t, e⟩ := T.c_RUN_SIGNS
  exact pe_glob h (hm ▸ e) ⟨t, rfl⟩
theorem Tx.g_SINGLE_SIGNS {K : PySem.W.Frag} {mg : Str → Option Value} {D : Defs} (T : Tx K mg D) {X : Cx} {pos : Pos} (h : Gl X "SINGLE_SIGNS") (hm : X.mg = mg := by rfl) : PE X (.Name "SINGLE_SIGNS" pos) (tC (.str "(),")) := by
  obtain ⟨t, e⟩ := T.c_SINGLE_SIGNS
  exact pe_glob h (hm ▸ e) ⟨t, rfl⟩
theorem Tx.g_END {K : PySem.W.Frag} {mg : Str → Option Value} {D : Defs} (T : Tx K mg D) {X : Cx} {pos : Pos} (h : Gl X "END") (hm : X.mg = mg := by rfl) : PE X (.Name "END" pos) (tC (.str "")) := by
  obtain ⟨t, e⟩ := T.c_END
  exact pe_glob h (hm ▸ e) ⟨t, rfl⟩
theorem Tx.g_MOST_TERMS {K : PySem.W.Frag} {mg : Str → Option Value} {D : Defs} (T : Tx K mg D) {X : Cx} {pos : Pos} (h : Gl X "MOST_TERMS") (hm : X.mg = mg := by rfl) : PE X (.Name "MOST_TERMS" pos) (tC (.int 3)) := by
  obtain ⟨t, e⟩ := T.c_MOST_TERMS
  exact pe_glob h (hm ▸ e) ⟨t, rfl⟩
theorem Tx.g_MOST_DEEP {K : PySem.W.Frag} {mg : Str → Option Value} {D : Defs} (T : Tx K mg D) {X : Cx} {pos : Pos} (h : Gl X "MOST_DEEP") (hm : X.mg = mg := by rfl) : PE X (.Name "MOST_DEEP" pos) (tC (.int 40)) := by
  obtain ⟨t, e⟩ := T.c_MOST_DEEP
  exact pe_glob h (hm ▸ e) ⟨t, rfl⟩
theorem sc_runs_in : FnScope ["row"] ["row"] (defScope s_runs_in) := ⟨rfl, rfl, rfl, by decide +kernel, rfl, by decide +kernel, by decide +kernel⟩
theorem sc_begins_and_goes_on : FnScope ["text", "first_signs"] ["text", "first_signs"] (defScope s_begins_and_goes_on) := ⟨rfl, rfl, rfl, by decide +kernel, rfl, by decide +kernel, by decide +kernel⟩
theorem sc_is_name : FnScope ["text"] ["text"] (defScope s_is_name) := ⟨rfl, rfl, rfl, by decide +kernel, rfl, by decide +kernel, by decide +kernel⟩
theorem sc_is_letter : FnScope ["text"] ["text"] (defScope s_is_letter) := ⟨rfl, rfl, rfl, by decide +kernel, rfl, by decide +kernel, by decide +kernel⟩
theorem sc_is_word : FnScope ["text"] ["text"] (defScope s_is_word) := ⟨rfl, rfl, rfl, by decide +kernel, rfl, by decide +kernel, by decide +kernel⟩
theorem sc_runs_of : FnScope ["text", "sign", "spaced"] ["text"] (defScope s_runs_of) := ⟨rfl, rfl, rfl, by decide +kernel, rfl, by decide +kernel, by decide +kernel⟩
theorem sc_read : FnScope ["text", "runs", "found"] ["text"] (defScope s_read) := ⟨rfl, rfl, rfl, by decide +kernel, rfl, by decide +kernel, by decide +kernel⟩
theorem sc_take_statement : FnScope ["runs", "room", "run", "letter"] ["runs", "room"] (defScope s_take_statement) := ⟨rfl, rfl, rfl, by decide +kernel, rfl, by decide +kernel, by decide +kernel⟩
theorem sc_take_letter : FnScope ["runs", "run"] ["runs"] (defScope s_take_letter) := ⟨rfl, rfl, rfl, by decide +kernel, rfl, by decide +kernel, by decide +kernel⟩
theorem sc_take_pair : FnScope ["runs", "room", "first", "joint", "second"] ["runs", "room"] (defScope s_take_pair) := ⟨rfl, rfl, rfl, by decide +kernel, rfl, by decide +kernel, by decide +kernel⟩
theorem sc_take_terms : FnScope ["runs", "terms"] ["runs"] (defScope s_take_terms) := ⟨rfl, rfl, rfl, by decide +kernel, rfl, by decide +kernel, by decide +kernel⟩
theorem sc_take_term : FnScope ["runs", "run"] ["runs"] (defScope s_take_term) := ⟨rfl, rfl, rfl, by decide +kernel, rfl, by decide +kernel, by decide +kernel⟩
theorem sc_cell_at_L : FnScope ["_law_script", "_law_k"] ["_law_script", "_law_k"] (defScope s_cell_at_L) := ⟨rfl, rfl, rfl, by decide +kernel, rfl, by decide +kernel, by decide +kernel⟩
theorem sc_mixed_L : FnScope ["_law_script", "_law_k", "_law_cell", "_law_number"] ["_law_script", "_law_k"] (defScope s_mixed_L) := ⟨rfl, rfl, rfl, by decide +kernel, rfl, by decide +kernel, by decide +kernel⟩
theorem sc_sign_by_L : FnScope ["_law_number", "_law_signs"] ["_law_number", "_law_signs"] (defScope s_sign_by_L) := ⟨rfl, rfl, rfl, by decide +kernel, rfl, by decide +kernel, by decide +kernel⟩
theorem sc_name_by_L : FnScope ["_law_number", "_law_firsts", "_law_turn", "_law_some", "_law_size", "_law_at", "_law_signs", "_law_text", "_law_kept"] ["_law_number", "_law_firsts", "_law_turn"] (defScope s_name_by_L) := ⟨rfl, rfl, rfl, by decide +kernel, rfl, by decide +kernel, by decide +kernel⟩
theorem sc_small_by_L : FnScope ["_law_number", "_law_base", "_law_terms", "_law_k", "_law_rest", "_law_word"] ["_law_number", "_law_base"] (defScope s_small_by_L) := ⟨rfl, rfl, rfl, by decide +kernel, rfl, by decide +kernel, by decide +kernel⟩
theorem sc_wrapped_L : FnScope ["_law_ka", "_law_number", "_law_other", "_law_base", "_law_kind", "_law_sign", "_law_letter"] ["_law_ka", "_law_number", "_law_other", "_law_base"] (defScope s_wrapped_L) := ⟨rfl, rfl, rfl, by decide +kernel, rfl, by decide +kernel, by decide +kernel⟩
theorem sc_statement_by_L : FnScope ["_law_script", "_law_at", "_law_many", "_law_base", "_law_ka", "_law_k", "_law_number", "_law_other", "_law_j", "_law_beside"] ["_law_script", "_law_at", "_law_many"] (defScope s_statement_by_L) := ⟨rfl, rfl, rfl, by decide +kernel, rfl, by decide +kernel, by decide +kernel⟩
theorem sc_many_by_L : FnScope ["_law_cell"] ["_law_cell"] (defScope s_many_by_L) := ⟨rfl, rfl, rfl, by decide +kernel, rfl, by decide +kernel, by decide +kernel⟩
theorem sc_written_L : FnScope ["_law_ka"] ["_law_ka"] (defScope s_written_L) := ⟨rfl, rfl, rfl, by decide +kernel, rfl, by decide +kernel, by decide +kernel⟩
theorem sc_tokens_L : FnScope ["_law_text", "_law_found", "_law_run", "_law_sign"] ["_law_text"] (defScope s_tokens_L) := ⟨rfl, rfl, rfl, by decide +kernel, rfl, by decide +kernel, by decide +kernel⟩
theorem sc_parts_L : FnScope ["_law_ka"] ["_law_ka"] (defScope s_parts_L) := ⟨rfl, rfl, rfl, by decide +kernel, rfl, by decide +kernel, by decide +kernel⟩
theorem sc_is_built_L : FnScope ["_law_text", "_law_firsts", "_law_sign"] ["_law_text", "_law_firsts"] (defScope s_is_built_L) := ⟨rfl, rfl, rfl, by decide +kernel, rfl, by decide +kernel, by decide +kernel⟩
theorem sc_is_right_L : FnScope ["_law_ka", "_law_term", "_law_big"] ["_law_ka"] (defScope s_is_right_L) := ⟨rfl, rfl, rfl, by decide +kernel, rfl, by decide +kernel, by decide +kernel⟩
theorem sc_fit_L : FnScope ["_law_ka", "_law_room", "_law_sizes", "_law_signs", "_law_part"] ["_law_ka", "_law_room"] (defScope s_fit_L) := ⟨rfl, rfl, rfl, by decide +kernel, rfl, by decide +kernel, by decide +kernel⟩
theorem sc_spoilt_L : FnScope ["_law_tokens_here", "_law_cell", "_law_word", "_law_at", "_law_some", "_law_odd", "_law_marks", "_law_places"] ["_law_tokens_here", "_law_cell", "_law_word"] (defScope s_spoilt_L) := ⟨rfl, rfl, rfl, by decide +kernel, rfl, by decide +kernel, by decide +kernel⟩
theorem sc_joined_L : FnScope ["_law_tokens_here", "_law_script", "_law_tight", "_law_text", "_law_k", "_law_far"] ["_law_tokens_here", "_law_script", "_law_tight"] (defScope s_joined_L) := ⟨rfl, rfl, rfl, by decide +kernel, rfl, by decide +kernel, by decide +kernel⟩
theorem sc_refused_right_L : FnScope ["_law_text", "e"] ["_law_text"] (defScope s_refused_right_L) := ⟨rfl, rfl, rfl, by decide +kernel, rfl, by decide +kernel, by decide +kernel⟩
theorem sc_law : FnScope ["_law_script", "_law_ka", "_law_word", "_law_tight", "_law_tokens_here", "_law_text", "_law_k", "_law_odd", "_law_found"] ["_law_script"] (defScope s_law) := ⟨rfl, rfl, rfl, by decide +kernel, rfl, by decide +kernel, by decide +kernel⟩
theorem sc_Runs_init : FnScope ["self", "runs"] ["self", "runs"] (defScope s_Runs_init) := ⟨rfl, rfl, rfl, by decide +kernel, rfl, by decide +kernel, by decide +kernel⟩
theorem sc_Runs_ahead : FnScope ["self"] ["self"] (defScope s_Runs_ahead) := ⟨rfl, rfl, rfl, by decide +kernel, rfl, by decide +kernel, by decide +kernel⟩
theorem sc_Runs_take : FnScope ["self", "run"] ["self"] (defScope s_Runs_take) := ⟨rfl, rfl, rfl, by decide +kernel, rfl, by decide +kernel, by decide +kernel⟩
theorem sc_Runs_want : FnScope ["self", "wanted", "run"] ["self", "wanted"] (defScope s_Runs_want) := ⟨rfl, rfl, rfl, by decide +kernel, rfl, by decide +kernel, by decide +kernel⟩
end K06
set_option Elab.async false
set_option linter.all false
set_option maxRecDepth 100000
set_option maxHeartbeats 4000000
namespace K06
open PySem L2
seal PE PS PSs PA PT PW PG PI PO PIf OpR UnR CallR IxR SlR MtR MtM PSet PH PM PMp PE1 PA1 PS1 PSs1 PAb PSb PEb
local macro_rules | `(tactic| walk_at "bpW") => `(tactic| simp only [↓w_v0, ↓w_v1, ↓w_v2, ↓w_v3, ↓w_v4, ↓w_v5, ↓w_v6, ↓w_v7, ↓w_v8, ↓w_v9, ↓w_v10, ↓w_v11, ↓w_c, ↓w_seq, ↓w_ifS, ↓w_next, ↓w_ret, ↓w_drop, ↓w_asg, ↓w_gName, ↓w_op, ↓w_un, ↓w_test, ↓w_B, ↓w_bl, ↓w_and, ↓w_or, ↓w_not, ↓w_andV, ↓w_notV, ↓w_true, ↓w_nil, ↓w_cons, ↓w_tup, ↓w_lst, ↓w_call, ↓w_CB, ↓w_BM, ↓w_ty_str, ↓w_ty_list, ↓w_sl, ↓w_noPart, ↓w_part, ↓w_int, ↓w_rI0, ↓w_rI, ↓w_addI, ↓w_addS, ↓w_mulI, ↓w_neI, ↓w_neS, ↓w_ltI, ↓w_inS, ↓w_notinS, ↓w_inR, ↓w_notinR, ↓w_ixS, ↓w_ixR, ↓w_lenS, ↓w_lenR, ↓w_slS, ↓w_all, ↓w_join, ↓w_intB, ↓w_intI, ↓w_itS, ↓w_itR, ↓w_iAny, ↓w_rng1, ↓w_rngI, ↓w_ints2, ↓w_tupleOf, ↓w_listOf, ↓w_append, ↓w_extend, ↓w_setL, ↓w_gSub, ↓w_instInt, ↓w_instStr, ↓w_slR, ↓w_catR, ↓w_joinA, ↓w_eqIB, ↓w_eqSB, ↓w_eqR_, ↓w_eq_R, ↓w_instIntB, ↓w_instStrB, ↓w_instRB, ↓tFor_eq, ↓tComp_eq, ↓List.set_cons_zero, ↓List.set_cons_succ, ↓List.nil_append, ↓List.cons_append, ↓List.append_nil, ↓reduceIte, Bool.false_eq_true, decide_eq_true_eq, Bool.not_eq_true', decide_eq_false_iff_not, ↓w_callX, ↓w_try, ↓w_msg, ↓w_m0, ↓w_mc, ↓w_mr, ↓w_mv, ↓w_exStr, ↓w_orStr, ↓w_orInt, ↓w_eqIC, ↓w_eqSC, ↓w_eqRC, ↓w_eqCR, ↓w_neIC, ↓w_neSC, ↓w_neRC, ↓w_neCR, ↓w_inCS, ↓w_notinCS, ↓w_inCR, ↓w_is, ↓w_is2, ↓w_strip, ↓w_split, ↓w_mulS, ↓w_BM0, ↓w_fld, ↓w_sfld, ↓w_meth, ↓w_methX, ↓w_make, ↓w_any, ↓w_sum, ↓w_ipI, ↓w_gTup, ↓w_gCons, ↓w_instBlB, ↓w_eqBlB, ↓w_neBl, ↓w_eqBlC, ↓w_neBlC, ↓w_while, ↓w_ltS, ↓w_index, ↓w_mulR6])
local macro_rules | `(tactic| walk_at "S") => `(tactic| simp only [L2.start, List.map_cons, List.map_nil, List.length_cons, List.length_nil, Nat.reduceAdd, Nat.reduceSub, List.replicate_succ, List.replicate_zero, List.cons_append, List.nil_append, List.append_nil, Nat.zero_add, Nat.sub_self])
local macro_rules | `(tactic| walk_at "o") => `(tactic| first | exact Or.inl (by rfl) | exact Or.inr (by rfl))
local macro_rules | `(tactic| walk_at "") => `(tactic| walk_at "bpW")
section
variable {P : Program} {w : World} {K : PySem.W.Frag} {mg : Str → Option Value} {base0 : Heap} {D : Defs}
def sof : Str := "abcdefghijklmnopqrstuvwxyz0123456789"
def tailOk (x : Str) : Bool := (Txt.slice x (some 1) none).cps.toList.all fun c => inS ⟨#[c]⟩ sof
def base (x f : Str) : Bool := if x = "" then false else if (8 : Int) < x.length then false else if inS ⟨#[x.cps.toList.headD 0]⟩ f then tailOk x else false
def keptV : List V := [V.str "not", V.str "and", V.str "or", V.str "then", V.str "all", V.str "some", V.str "false"]
theorem head_at {x : Str} (h : ¬ x = "") : atI x.cps.toList 0 = some (x.cps.toList.headD 0) := by
  have e : x.cps.toList ≠ [] := fun e => h (by
    obtain ⟨c⟩ := x
    have : c = #[] := by simpa using e
    subst this
    rfl)
  cases q : x.cps.toList with
  | nil => exact absurd q e
  | cons c r => exact atI_nat (j := 0) rfl
def spBase : Sp := fun vs H Q _ => ∃ x f, vs = [.str x, .str f] ∧ x.length ≤ 90000 ∧ ∀ H', Same H H' → Q (.bl (base x f)) H'
def sp1 (r : Str → Bool) : Sp := fun vs H Q _ => ∃ x, vs = [.str x] ∧ x.length ≤ 90000 ∧ ∀ H', Same H H' → Q (.bl (r x)) H'
theorem ok_begins (T : Tx K mg D) : FnOk P w K mg base0 CX0 1 D.a_begins_and_goes_on D.d_begins_and_goes_on ["text", "first_signs"] spBase := by
  refine T.F_begins_and_goes_on.ok sc_begins_and_goes_on (fun vs H Q E h => ?_) (fun cdv A outer s H vs Q E hr h => ?_)
  · obtain ⟨x, f, rfl, _⟩ := h; rfl
  obtain ⟨x, f, rfl, hx, k⟩ := h
  have hu := hr.units
  refine ⟨_, (pss_cons (ps_if (PW.pt (pw_or (pt_cmpR (opC_eq K hu) (pv 0) pe_str (nomark _)) (pw_or (pt_cmpR op_gt (pe_callB (callA_len K) (by rfl) T.z_len PySem.boot_len (pa_cons (pv 0) pa_nil)) (T.g_MOST_SIGNS (by rfl)) (nomark _)) (pw_or1 (pt_cmpR (opC_notin K hu) (pe_ix (ixA K) (pv 0) pe_int (fun _ _ => rfl)) (pv 1) (by rfl)))))) (pss_one (ps_ret pe_bl)) pss_nil)
    (pss_one (ps_ret (pe_callB (callA_all K (by rfl)) (by rfl) T.z_all (by rfl) (pa_cons (pe_comp 1 [] ["sign"] ⟨by rfl, by rfl, by rfl, by rfl, by rfl, by rfl, by rfl⟩ (by rfl) (pi_any K (pe_slice (slA K) (pv 0) (po_some pe_int) po_none)) (fun _ _ _ _ => pg_name (i := 0) (show List.Nodup (["sign"] : List Str) by decide +kernel) (by rfl) (Or.inl (by rfl)) (Or.inr (by rfl))) (gName_keep (by decide)) (fun _ _ _ _ => pif_nil) (fun _ _ _ _ => (pe_cmpR (opC_in K hu) (pv 0) (T.g_SMALL_OR_FIGURE (by rfl)) (by rfl)))) pa_nil))))), ?_⟩
  walk_at "S"
  walk_at ""
  have hz : x.length ≤ sizeLine := sz1000 (by omega)
  have kf : base x f = false → Q (.bl false) H := fun e => by have q := k H (Same.refl H); rw [e] at q; exact q
  refine ite2 (fun c => kf (by unfold base; rw [if_pos c])) fun c => ⟨hz, ite2 (fun c2 => kf (by unfold base; rw [if_neg c, if_pos c2])) fun c2 => ⟨hz, _, head_at c, ?_⟩⟩
  refine ite2 (fun c3 => kf (by unfold base; rw [if_neg c, if_neg c2, if_neg (by rw [c3]; exact Bool.false_ne_true)])) fun c3 => ⟨hz, ?_⟩
  have c3' : inS ⟨#[x.cps.toList.headD 0]⟩ f = true := by simpa using c3
  have hb : base x f = tailOk x := by unfold base; rw [if_neg c, if_neg c2, if_pos c3']
  have hlen : (Txt.slice x (some 1) none).cps.toList.length ≤ 90000 := Nat.le_trans (Nat.le_of_eq (by simp [Str.length])) (Nat.le_trans (Txt.slice_le x (some 1) none) hx)
  refine comp_str (fun i acc H2 => H2 = H ∧ acc = ((Txt.slice x (some 1) none).cps.toList.take i).map fun c => V.bl (inS ⟨#[c]⟩ sof)) ⟨rfl, by simp⟩ (fun i c acc H2 hi hp => ?_) fun acc H2 hp p hn => ?_
  · obtain ⟨rfl, rfl⟩ := hp
    have hil : i < (Txt.slice x (some 1) none).cps.toList.length := (List.getElem?_eq_some_iff.mp hi).1
    refine ⟨sz1000' (by rw [List.length_map, List.length_take]; omega), ?_⟩
    simp only [slotsC, List.replicate_succ, List.replicate_zero, List.map_nil, List.nil_append, List.cons_append]
    walk_at ""
    refine ⟨trivial, ?_⟩
    rw [List.take_add_one, hi]
    simp [sof]
  · obtain ⟨rfl, rfl⟩ := hp
    walk_at ""
    refine ⟨(Txt.slice x (some 1) none).cps.toList.map fun c => inS ⟨#[c]⟩ sof, SqL.of (by rw [upd_same, List.take_of_length_le (Nat.le_refl _), List.map_map]; rfl), ?_⟩
    have q := k _ (same_new hn (.lst (((Txt.slice x (some 1) none).cps.toList.take (Txt.slice x (some 1) none).cps.toList.length).map fun c => V.bl (inS ⟨#[c]⟩ sof))))
    rw [hb] at q
    have e : ((Txt.slice x (some 1) none).cps.toList.map fun c => inS ⟨#[c]⟩ sof).all id = tailOk x := by unfold tailOk; rw [List.all_map]; rfl
    rw [e]
    exact q
theorem ok_name (T : Tx K mg D) : FnOk P w K mg base0 CX0 2 D.a_is_name D.d_is_name ["text"] (sp1 fun x => base x "abcdefghijklmnopqrstuvwxyz" && !inV (.str x) keptV) := by
  have G_begins_and_goes_on := ok_begins (P := P) (w := w) (base0 := base0) T
  refine T.F_is_name.ok sc_is_name (fun vs H Q E h => ?_) (fun cdv A outer s H vs Q E hr h => ?_)
  · obtain ⟨x, rfl, _⟩ := h; rfl
  obtain ⟨x, rfl, hx, k⟩ := h
  have hu := hr.units
  have hr_begins_and_goes_on : Room 1 _ := hr.mono (by decide)
  refine ⟨_, (pss_one (ps_ret (pe_and (pe_call G_begins_and_goes_on hr_begins_and_goes_on (by rfl) T.m_begins_and_goes_on T.F_begins_and_goes_on.kp T.b_begins_and_goes_on .nil pass0 (pa_cons (pv 0) (pa_cons (T.g_SMALL (by rfl)) pa_nil))) (pe_one (pe_cmpR (opC_notin K hu) (pv 0) (T.g_KEPT_WORDS (by rfl)) (by rfl)))))), ?_⟩
  walk_at "S"
  walk_at ""
  refine ⟨x, _, rfl, hx, fun H' hs => ?_⟩
  walk_at ""
  have q : Q (.bl (base x "abcdefghijklmnopqrstuvwxyz" && !inV (.str x) keptV)) H' := k H' hs
  cases e : base x "abcdefghijklmnopqrstuvwxyz" with
  | false => rw [e] at q; exact iteF q
  | true => rw [e] at q; exact iteT (.inl ⟨_, _, rfl, .inr (T.q_KEPT_WORDS _), rfl, by decide, q⟩)
theorem ok_word (T : Tx K mg D) : FnOk P w K mg base0 CX0 3 D.a_is_word D.d_is_word ["text"] (sp1 fun x => base x "abcdefghijklmnopqrstuvwxyz" && !inV (.str x) keptV) := by
  have G_is_name := ok_name (P := P) (w := w) (base0 := base0) T
  refine T.F_is_word.ok sc_is_word (fun vs H Q E h => ?_) (fun cdv A outer s H vs Q E hr h => ?_)
  · obtain ⟨x, rfl, _⟩ := h; rfl
  obtain ⟨x, rfl, hx, k⟩ := h
  have hu := hr.units
  have hr_is_name : Room 2 _ := hr.mono (by decide)
  refine ⟨_, (pss_one (ps_ret (pe_call G_is_name hr_is_name (by rfl) T.m_is_name T.F_is_name.kp T.b_is_name .nil pass0 (pa_cons (pv 0) pa_nil)))), ?_⟩
  walk_at "S"
  walk_at ""
  exact ⟨x, rfl, hx, k⟩
theorem ok_letter (T : Tx K mg D) : FnOk P w K mg base0 CX0 2 D.a_is_letter D.d_is_letter ["text"] (sp1 fun x => base x "ABCDEFGHIJKLMNOPQRSTUVWXYZ") := by
  have G_begins_and_goes_on := ok_begins (P := P) (w := w) (base0 := base0) T
  refine T.F_is_letter.ok sc_is_letter (fun vs H Q E h => ?_) (fun cdv A outer s H vs Q E hr h => ?_)
  · obtain ⟨x, rfl, _⟩ := h; rfl
  obtain ⟨x, rfl, hx, k⟩ := h
  have hu := hr.units
  have hr_begins_and_goes_on : Room 1 _ := hr.mono (by decide)
  refine ⟨_, (pss_one (ps_ret (pe_call G_begins_and_goes_on hr_begins_and_goes_on (by rfl) T.m_begins_and_goes_on T.F_begins_and_goes_on.kp T.b_begins_and_goes_on .nil pass0 (pa_cons (pv 0) (pa_cons (T.g_GREAT (by rfl)) pa_nil))))), ?_⟩
  walk_at "S"
  walk_at ""
  exact ⟨x, _, rfl, hx, k⟩
def spRunsIn : Sp := fun vs H Q _ => ∃ z : Str, vs = [.str z] ∧ z.length ≤ 1000000 ∧ ∀ p H', Same H H' → H p = none → H' p = some (.lst (((Txt.split z " ").filter fun r : Str => !decide (r = "")).map V.str)) → Q (.ref p) H'
theorem ok_runs_in (T : Tx K mg D) : FnOk P w K mg base0 CX0 1 D.a_runs_in D.d_runs_in ["row"] spRunsIn := by
  refine T.F_runs_in.ok sc_runs_in (fun vs H Q E h => ?_) (fun cdv A outer s H vs Q E hr h => ?_)
  · obtain ⟨z, rfl, _⟩ := h; rfl
  obtain ⟨z, rfl, hpl, k⟩ := h
  have hu := hr.units
  refine ⟨_, (pss_one (ps_ret (pe_comp 1 [] ["run"] ⟨by rfl, by rfl, by rfl, by rfl, by rfl, by rfl, by rfl⟩ (by rfl) (pi_any K (pe_bmA K PySem.F.plainAttrs_str PySem.F.slot_str_split PySem.F.type_str_split mt_split (pv 0) (pa_cons pe_str pa_nil))) (fun _ _ _ _ => pg_name (i := 0) (show List.Nodup (["run"] : List Str) by decide +kernel) (by rfl) (Or.inl (by rfl)) (Or.inr (by rfl))) (gName_keep (by decide)) (fun _ _ _ _ => pif_one (pt_cmpR (opC_ne K hu) (pv 0) pe_str (nomark _))) (fun _ _ _ _ => (pv 0))))), ?_⟩
  walk_at "S"
  walk_at ""
  refine ⟨trivial, by decide, by omega, fun p hp => .inl ⟨⟨_, SqL.of upd_same⟩, ?_⟩⟩
  have hsz : (Txt.split (z) " ").length ≤ 1000002 := Nat.le_trans (split_len _ _) (by omega)
  refine comp_list (xs := (Txt.split (z) " ").map V.str) (fun i acc Hc => Hc = upd H p (.lst ((Txt.split (z) " ").map V.str)) ∧ acc = (((Txt.split (z) " ").take i).filter fun r : Str => !decide (r = "")).map V.str) ⟨rfl, rfl⟩ (fun i acc Hc _ h => h.1 ▸ SqL.of upd_same) (fun i v acc Hc hv h => ?_) fun acc Hc h p2 hp2 => ?_
  · obtain ⟨rfl, rfl⟩ := h
    rw [List.getElem?_map] at hv
    cases hr : (Txt.split (z) " ")[i]? with
    | none => rw [hr] at hv; cases hv
    | some r =>
      rw [hr] at hv
      cases hv
      have e : List.take (i + 1) (Txt.split (z) " ") = List.take i (Txt.split (z) " ") ++ [r] := by rw [List.take_succ, hr]; rfl
      refine ⟨?_, ?_⟩
      · rw [List.length_map]
        refine Nat.lt_of_le_of_lt (List.length_filter_le _ _) ?_
        rw [List.length_take, sizeLine_eq]
        omega
      · simp only [slotsC, L2.start, List.map_cons, List.map_nil, List.length_cons, List.length_nil, Nat.reduceAdd, Nat.reduceSub, List.replicate_succ, List.replicate_zero, List.cons_append, List.nil_append, List.append_nil, Nat.zero_add, Nat.sub_self]
        walk_at ""
        rw [e, List.filter_append]
        refine ite2 (fun c => ?_) fun c => ?_
        · have : [r].filter (fun r : Str => !decide (r = "")) = [r] := by simp [c]
          rw [this, List.map_append]
          exact ⟨trivial, rfl⟩
        · have : [r].filter (fun r : Str => !decide (r = "")) = [] := by simp [c]
          rw [this, List.append_nil]
          exact ⟨trivial, rfl⟩
  · obtain ⟨rfl, rfl⟩ := h
    rw [List.length_map, List.take_length] at *
    refine k p2 _ ?_ ?_ upd_same
    · exact ((Same.refl _).upd hp).trans ((Same.refl _).upd hp2)
    · exact ((Same.refl _).upd hp : Same H _).free hp2
def okSign (c : Nat) : Bool := c == 32 || inS ⟨#[c]⟩ "()," || inS ⟨#[c]⟩ "abcdefghijklmnopqrstuvwxyzABCDEFGHIJKLMNOPQRSTUVWXYZ0123456789"
def padS (x : Str) : Str := (Str.ofString "(),").cps.toList.foldl (replS " " " ") x
def runsS (x : Str) : List Str := (Txt.split (padS x) " ").filter fun r : Str => !decide (r = "")
theorem repl_up (y : Str) (c : Nat) : y.length ≤ (replS " " " " y c).length := by
  rw [len_list, len_list (replS _ _ _ _), replS_list]
  generalize y.cps.toList = l
  induction l with
  | nil => simp
  | cons d r ih =>
    have e : ∀ z : List Nat, putC c z (d :: r) = (if d = c then z else [d]) ++ putC c z r := fun z => rfl
    rw [e, List.length_append, List.length_cons]
    have : 1 ≤ (if d = c then (Str.ofString " ").cps.toList ++ [c] ++ (Str.ofString " ").cps.toList else [d]).length := by
      split
      · simp; omega
      · simp
    omega
theorem fold_ge : ∀ (l : List Nat) (y : Str), y.length ≤ (l.foldl (replS " " " ") y).length
  | [], y => Nat.le_refl _
  | c :: r, y => Nat.le_trans (repl_up y c) (fold_ge r _)
theorem fold_up : ∀ (l : List Nat) (y : Str) (k : Nat), ((l.take k).foldl (replS " " " ") y).length ≤ (l.foldl (replS " " " ") y).length
  | [], y, k => by simp
  | c :: r, y, 0 => fold_ge (c :: r) y
  | c :: r, y, k + 1 => fold_up r (replS " " " " y c) k
theorem padS_len (x : Str) : (padS x).length ≤ 3 * x.length := by
  have e : padS x = replS " " " " (replS " " " " (replS " " " " x 40) 41) 44 := rfl
  have e2 : (padS x).cps.toList = padL x.cps.toList := by
    rw [e, replS_list, replS_list, replS_list]
    exact padL_of _
  rw [len_list, e2, len_list x]
  generalize x.cps.toList = l
  induction l with
  | nil => simp [padL]
  | cons d r ih =>
    have e : padL (d :: r) = (if sgn d then [32, d, 32] else [d]) ++ padL r := rfl
    rw [e, List.length_append, List.length_cons]
    have : (if sgn d then [32, d, 32] else [d]).length ≤ 3 := by split <;> simp
    omega
def spRunsOf (D : Defs) : Sp := fun vs H Q E => ∃ x : Str, vs = [.str x] ∧ x.length ≤ 90000 ∧ (∀ c ∈ x.cps.toList, c < 1114112) ∧
  (x.cps.toList.all okSign = true → ∀ p H', Same H H' → H p = none → H' p = some (.lst ((runsS x).map V.str)) → Q (.ref p) H') ∧ (x.cps.toList.all okSign = false → ∀ H', E (.ref D.x_NoStatement) none H')
theorem ok_runs_of (T : Tx K mg D) : FnOk1 P w K mg base0 (CXX P w base0) 2 D.a_runs_of D.d_runs_of ["text"] (spRunsOf D) := by
  have G_runs_in := ok_runs_in (P := P) (w := w) (base0 := base0) T
  refine T.F_runs_of.okX1 sc_runs_of (fun vs H Q E h => ?_) (fun cdv A outer s H vs Q E hr h => ?_)
  · obtain ⟨x, rfl, _⟩ := h; rfl
  obtain ⟨x, rfl, hl, hcp, k, kE⟩ := h
  have hu := hr.units
  have hr_runs_in : Room 1 _ := hr.mono (by decide)
  refine ⟨_, (pss_cons1 (PS.up (ps_for passes_of (by rfl) (pi_any K (pv 0)) (pg_name (i := 1) sc_runs_of.nd (by rfl) (by walk_at "o"))
      (pss_one (ps_if (PW.pt (pw_and (pt_cmpR (opC_ne K hu) (pv 1) pe_str (nomark _)) (pw_and (pt_cmpR (opC_notin K hu) (pv 1) (T.g_SINGLE_SIGNS (by rfl)) (by rfl)) (pw_and1 (pt_cmpR (opC_notin K hu) (pv 1) (T.g_RUN_SIGNS (by rfl)) (by rfl)))))) (pss_one (ps_raise fnc_of (by rfl) out_of T.x_NoStatement PySem.F.excBase_ValueError (by rfl) (pa_cons (pe_msg (pm_cons pm_str (pm_cons (pm_r (pv 1)) pm_nil))) pa_nil))) pss_nil))))
    (pss_cons1 (PS.up (ps_set (i := 2) sc_runs_of.nd (by rfl) (by walk_at "o") (pv 0)))
    (pss_cons1 (ps_repl (jn := 2) (gn := 1) passes_of (by rfl) sc_runs_of.nd (by rfl) (by rfl) (by decide) (by rfl) (by rfl) (T.g_SINGLE_SIGNS (by rfl)) (by decide) (by decide) (by decide) (by decide))
    (pss_one1 (PS.up (ps_ret (pe_call G_runs_in hr_runs_in (by rfl) T.m_runs_in T.F_runs_in.kp T.b_runs_in .nil pass0 (pa_cons (pv 2) pa_nil)))))))), ?_⟩
  walk_at "S"
  walk_at ""
  refine forW_str (Pv := fun i σ' H' => H' = H ∧ (∀ c ∈ x.cps.toList.take i, okSign c = true) ∧ ∃ u, σ' = [some (.str x), u, none]) ⟨rfl, by simp, _, rfl⟩ (fun i c σ' H' hc hP => ?_) fun σ' H' hP => ?_
  · obtain ⟨rfl, hok, u, rfl⟩ := hP
    have hcm : c ∈ x.cps.toList := List.mem_of_getElem? hc
    have nx : okSign c = true → ∀ d ∈ x.cps.toList.take (i + 1), okSign d = true := fun z d hd => by
      rw [List.take_succ, hc] at hd
      rcases List.mem_append.mp hd with q | q
      · exact hok d q
      · have : d = c := by simpa using q
        rw [this]; exact z
    walk_at ""
    refine ite2 (fun c1 => ite2 (fun c2 => ite2 (fun c3 => ?_) fun c3 => ⟨trivial, nx ?_, _, rfl⟩) fun c2 => ⟨trivial, nx ?_, _, rfl⟩) fun c1 => ⟨trivial, nx ?_, _, rfl⟩
    · refine ⟨⟨by show 1 ≤ 99000; decide, fun d hd => ?_⟩, fun out _ => ⟨sz1000 (show 1 ≤ 100000 by decide), kE ?_ _⟩⟩
      · have : d = c := by simpa using hd
        rw [this]; exact hcp c hcm
      · rw [List.all_eq_false]
        refine ⟨c, hcm, fun z => ?_⟩
        unfold okSign at z
        rw [c2, c3, Bool.or_false, Bool.or_false] at z
        have : c = 32 := by simpa using z
        subst this
        exact c1 rfl
    · unfold okSign; rw [eq_true_of_ne_false c3]; simp
    · unfold okSign; rw [eq_true_of_ne_false c2]; simp
    · have : c = 32 := by
        have := Classical.not_not.mp c1
        have e : [c] = [32] := congrArg (fun z : Str => z.cps.toList) this
        exact (List.cons.inj e).1
      unfold okSign; rw [this]; rfl
  · obtain ⟨rfl, hok, u, rfl⟩ := hP
    have hall : x.cps.toList.all okSign = true := List.all_eq_true.mpr fun c hc => hok c (by rw [List.take_of_length_le (Nat.le_refl _)]; exact hc)
    walk_at ""
    unfold tRepl
    rw [w_c]
    have hpl : (padS x).length ≤ 1000000 := by have := padS_len x; omega
    refine ⟨Str.ofString "(),", x, rfl, rfl, by decide +kernel, fun k hk => Nat.le_trans (fold_up _ x k) hpl, by decide, fun σ' e1 e2 e3 => ?_⟩
    match σ', e3 with
    | [a0, a1, a2], _ =>
      obtain rfl : a2 = some (.str (padS x)) := Option.some.inj e1
      walk_at ""
      exact ⟨padS x, rfl, hpl, fun p H2 s2 hp h2 => k hall p H2 s2 hp h2⟩
end
section
variable {P : Program} {w : World} {K : PySem.W.Frag} {mg : Str → Option Value} {base0 : Heap} {D : Defs}
def RunsAt (D : Defs) (H : Hp) (r : Addr) (ts : List Str) (i : Nat) : Prop := ∃ dx l, H r = some (.ins D.C_Runs dx [("runs", .ref l), ("place", .int i)]) ∧ H l = some (.lst (ts.map V.str))
def SameX (r : Addr) (H H' : Hp) : Prop := ∀ b o, b ≠ r → H b = some o → H' b = some o
theorem SameX.trans {r : Addr} {H H1 H2 : Hp} (a : SameX r H H1) (b : SameX r H1 H2) : SameX r H H2 := fun c o n h => b c o n (a c o n h)
theorem Same.x {r : Addr} {H H' : Hp} (a : Same H H') : SameX r H H' := fun b o _ h => a b o h
theorem RunsAt.same {D : Defs} {H H' : Hp} {r : Addr} {ts : List Str} {i : Nat} (h : RunsAt D H r ts i) (e : Same H H') : RunsAt D H' r ts i := by
  obtain ⟨dx, l, h1, h2⟩ := h
  exact ⟨dx, l, e _ _ h1, e _ _ h2⟩
def spAhead (D : Defs) : Sp := fun vs H Q _ => ∃ r ts i t, vs = [.ref r] ∧ RunsAt D H r ts i ∧ ts[i]? = some t ∧ Q (.str t) H
theorem ok_ahead (T : Tx K mg D) : FnOk P w K mg base0 CX0 1 D.a_Runs_ahead D.d_Runs_ahead ["self"] (spAhead D) := by
  refine T.F_Runs_ahead.ok sc_Runs_ahead (fun vs H Q E h => ?_) (fun cdv A outer s H vs Q E hr h => ?_)
  · obtain ⟨r, ts, i, t, rfl, _⟩ := h; rfl
  obtain ⟨r, ts, i, t, rfl, ⟨dx, l, h1, h2⟩, ht, k⟩ := h
  have hu := hr.units
  refine ⟨_, (pss_one (ps_ret (pe_ix (ixA K) (pe_fld (pv 0) (by rfl)) (pe_fld (pv 0) (by rfl)) (fun _ _ => rfl)))), ?_⟩
  walk_at "S"
  walk_at ""
  refine ⟨r, _, dx, _, .ref l, rfl, h1, T.cl_Runs, T.n_Runs_runs, rfl, r, _, dx, _, .int i, rfl, h1, T.cl_Runs, T.n_Runs_place, rfl, ?_⟩
  walk_at ""
  exact ⟨_, .inl (SqL.of h2), _, atI_nat (by rw [List.getElem?_map, ht]; rfl), k⟩
def spTake (D : Defs) : Sp := fun vs H Q _ => ∃ r ts i t, vs = [.ref r] ∧ RunsAt D H r ts i ∧ ts[i]? = some t ∧ ∀ H', RunsAt D H' r ts (i + 1) → SameX r H H' → Q (.str t) H'
theorem ok_take (T : Tx K mg D) : FnOk P w K mg base0 CX0 1 D.a_Runs_take D.d_Runs_take ["self"] (spTake D) := by
  refine T.F_Runs_take.ok sc_Runs_take (fun vs H Q E h => ?_) (fun cdv A outer s H vs Q E hr h => ?_)
  · obtain ⟨r, ts, i, t, rfl, _⟩ := h; rfl
  obtain ⟨r, ts, i, t, rfl, ⟨dx, l, h1, h2⟩, ht, k⟩ := h
  have hu := hr.units
  refine ⟨_, (pss_cons (ps_set (i := 1) sc_Runs_take.nd (by rfl) (by walk_at "o") (pe_ix (ixA K) (pe_fld (pv 0) (by rfl)) (pe_fld (pv 0) (by rfl)) (fun _ _ => rfl)))
    (pss_cons (ps_fldaug (pv 0) pe_int in_add)
    (pss_one (ps_ret (pv 1))))), ?_⟩
  walk_at "S"
  walk_at ""
  refine ⟨r, _, dx, _, .ref l, rfl, h1, T.cl_Runs, T.n_Runs_runs, rfl, r, _, dx, _, .int i, rfl, h1, T.cl_Runs, T.n_Runs_place, rfl, ?_⟩
  walk_at ""
  refine ⟨_, .inl (SqL.of h2), _, atI_nat (by rw [List.getElem?_map, ht]; rfl), ?_⟩
  have nlr : l ≠ r := ne_of h2 h1 (by intro z; cases z)
  refine ⟨_, rfl, r, _, dx, _, .int i, rfl, h1, T.cl_Runs, T.n_Runs_place, rfl, _, _, rfl, rfl, dx, _, h1, by show 2 < 1000; decide, _, rfl, k _ ⟨dx, l, ?_, ?_⟩ ?_⟩
  · rw [upd_same]; rfl
  · rw [upd_ne nlr]; exact h2
  · intro b o nb hb; rw [upd_ne nb]; exact hb
def spWant (D : Defs) : Sp := fun vs H Q E => ∃ r ts i t u, vs = [.ref r, .str t] ∧ RunsAt D H r ts i ∧ ts[i]? = some u ∧ (u.length ≤ 90000 ∧ ∀ c ∈ u.cps.toList, c < 1114112) ∧ (t.length ≤ 90000 ∧ ∀ c ∈ t.cps.toList, c < 1114112) ∧
  (u = t → ∀ H', RunsAt D H' r ts (i + 1) → SameX r H H' → Q .non H') ∧ (u ≠ t → ∀ H', E (.ref D.x_NoStatement) none H')
theorem ok_want (T : Tx K mg D) : FnOk P w K mg base0 (CXX P w base0) 2 D.a_Runs_want D.d_Runs_want ["self", "wanted"] (spWant D) := by
  have G_Runs_take := ok_take (P := P) (w := w) (base0 := base0) T
  refine T.F_Runs_want.okX sc_Runs_want (fun vs H Q E h => ?_) (fun cdv A outer s H vs Q E hr h => ?_)
  · obtain ⟨r, ts, i, t, u, rfl, _⟩ := h; rfl
  obtain ⟨r, ts, i, t, u, rfl, hR, ht, hu1, ht1, k, kE⟩ := h
  have hR0 := hR
  obtain ⟨dx, l, h1, h2⟩ := hR0
  have hu := hr.units
  have hr_Runs_take : Room 1 _ := hr.mono (by decide)
  refine ⟨_, (pss_cons (ps_set (i := 2) sc_Runs_want.nd (by rfl) (by walk_at "o") (pe_meth0 (pv 0) T.cl_Runs T.h_Runs_take G_Runs_take hr_Runs_take T.b_Runs_take .nil pass0))
    (pss_one (ps_if (pt_cmpR (opC_ne K hu) (pv 2) (pv 1) (nomark _)) (pss_one (ps_raise fnc_of (by rfl) out_of T.x_NoStatement PySem.F.excBase_ValueError (by rfl) (pa_cons (pe_msg (pm_cons (pm_r (pv 1)) (pm_cons pm_str (pm_cons (pm_r (pv 2)) pm_nil)))) pa_nil))) pss_nil))), ?_⟩
  walk_at "S"
  walk_at ""
  refine ⟨r, dx, _, rfl, h1, rfl, r, ts, i, u, rfl, hR, ht, fun H' hR' hS => ?_⟩
  walk_at ""
  refine ite2 (fun c => ?_) fun c => k (Classical.not_not.mp c) H' hR' hS
  exact ⟨⟨by omega, ht1.2⟩, ⟨by omega, hu1.2⟩, fun out _ => ⟨sz1000 (show 1 ≤ 100000 by decide), kE c _⟩⟩
def spInit (D : Defs) : Sp := fun vs H Q _ => ∃ (r l dx : Addr) (ts : List Str), vs = [.ref r, .ref l] ∧ H r = some (.ins D.C_Runs dx []) ∧ H l = some (.lst (ts.map V.str)) ∧ ts.length ≤ 100000 ∧ ∀ H', RunsAt D H' r (ts ++ [Str.ofString ""]) 0 → SameX r H H' → Q .non H'
theorem ok_init (T : Tx K mg D) : FnOk P w K mg base0 CX0 1 D.a_Runs_init D.d_Runs_init ["self", "runs"] (spInit D) := by
  refine T.F_Runs_init.ok sc_Runs_init (fun vs H Q E h => ?_) (fun cdv A outer s H vs Q E hr h => ?_)
  · obtain ⟨r, l, dx, ts, rfl, _⟩ := h; rfl
  obtain ⟨r, l, dx, ts, rfl, h1, h2, hl, k⟩ := h
  have hu := hr.units
  refine ⟨_, (pss_cons (ps_fld (pv 0) (pe_op (opA_add K) (pv 1) (pe_lst (pa_cons (T.g_END (by rfl)) pa_nil))) (by rfl))
    (pss_one (ps_fld (pv 0) pe_int (by rfl)))), ?_⟩
  walk_at "S"
  walk_at ""
  refine ⟨by decide, fun p hp => ?_⟩
  have nlp : l ≠ p := ne_of_none h2 hp
  have nrp : r ≠ p := ne_of_none h1 hp
  have nlr : l ≠ r := ne_of h2 h1 (by intro z; cases z)
  refine ⟨_, _, .inl ⟨by rw [upd_ne nlp]; exact h2, upd_same, by rw [List.length_map, sizeLine_eq]; show ts.length + 1 ≤ _; omega, fun q hq => ?_⟩⟩
  have nqp : q ≠ p := by rintro rfl; rw [upd_same] at hq; cases hq
  have hHq : H q = none := by rw [upd_ne nqp] at hq; exact hq
  have nrq : r ≠ q := ne_of_none h1 hHq
  refine ⟨r, _, dx, [], rfl, by rw [upd_ne nrq, upd_ne nrp]; exact h1, T.cl_Runs, T.n_Runs_runs, by decide, ?_⟩
  (try walk_at "")
  refine ⟨r, _, dx, _, rfl, upd_same, T.cl_Runs, T.n_Runs_place, by show 1 < 1000; decide, ?_⟩
  (try walk_at "")
  refine k _ ⟨dx, q, ?_, ?_⟩ ?_
  · rw [upd_same]; rfl
  · rw [upd_ne (Ne.symm nrq), upd_ne (Ne.symm nrq), upd_same, List.map_append]; rfl
  · intro b o nb hb
    rw [upd_ne nb, upd_ne nb, upd_ne (ne_of_none hb hHq), upd_ne (ne_of_none hb hp)]
    exact hb
def TL (t : Str) : Prop := t.length ≤ 90000 ∧ ∀ c ∈ t.cps.toList, c < 1114112
def letB (t : Str) : Bool := base t "ABCDEFGHIJKLMNOPQRSTUVWXYZ"
def termB (t : Str) : Bool := (base t "abcdefghijklmnopqrstuvwxyz" && !inV (.str t) keptV) || letB t
def spLet (D : Defs) : Sp := fun vs H Q E => ∃ r ts i t, vs = [.ref r] ∧ RunsAt D H r ts i ∧ ts[i]? = some t ∧ TL t ∧ (letB t = true → ∀ H', RunsAt D H' r ts (i + 1) → SameX r H H' → Q (.str t) H') ∧ (letB t = false → ∀ H', E (.ref D.x_NoStatement) none H')
theorem ok_take_letter (T : Tx K mg D) : FnOk P w K mg base0 (CXX P w base0) 3 D.a_take_letter D.d_take_letter ["runs"] (spLet D) := by
  have G_Runs_take := ok_take (P := P) (w := w) (base0 := base0) T
  have G_is_letter := ok_letter (P := P) (w := w) (base0 := base0) T
  refine T.F_take_letter.okX sc_take_letter (fun vs H Q E h => ?_) (fun cdv A outer s H vs Q E hr h => ?_)
  · obtain ⟨r, ts, i, t, rfl, _⟩ := h; rfl
  obtain ⟨r, ts, i, t, rfl, hR, ht, hl, k, kE⟩ := h
  have hR0 := hR
  obtain ⟨dx, l, h1, h2⟩ := hR0
  have hu := hr.units
  have hr_Runs_take : Room 1 _ := hr.mono (by decide)
  have hr_is_letter : Room 2 _ := hr.mono (by decide)
  refine ⟨_, (pss_cons (ps_set (i := 1) sc_take_letter.nd (by rfl) (by walk_at "o") (pe_meth0 (pv 0) T.cl_Runs T.h_Runs_take G_Runs_take hr_Runs_take T.b_Runs_take .nil pass0))
    (pss_cons (ps_if (pt_not (pt_val (pe_call G_is_letter hr_is_letter (by rfl) T.m_is_letter T.F_is_letter.kp T.b_is_letter .nil pass0 (pa_cons (pv 1) pa_nil)))) (pss_one (ps_raise fnc_of (by rfl) out_of T.x_NoStatement PySem.F.excBase_ValueError (by rfl) (pa_cons (pe_msg (pm_cons pm_str (pm_cons (pm_r (pv 1)) pm_nil))) pa_nil))) pss_nil)
    (pss_one (ps_ret (pv 1))))), ?_⟩
  walk_at "S"
  walk_at ""
  refine ⟨r, dx, _, rfl, h1, rfl, r, ts, i, t, rfl, hR, ht, fun H' hR' hS => ?_⟩
  walk_at ""
  refine ⟨t, rfl, hl.1, fun H2 hs2 => ?_⟩
  (try walk_at "")
  exact ite2 (fun c => ⟨⟨Nat.le_trans hl.1 (by decide), hl.2⟩, fun out _ => ⟨sz1000 (show 1 ≤ 100000 by decide), kE c _⟩⟩) fun c => k (eq_true_of_ne_false c) H2 (hR'.same hs2) (hS.trans (Same.x hs2))
def spTerm (D : Defs) : Sp := fun vs H Q E => ∃ r ts i t, vs = [.ref r] ∧ RunsAt D H r ts i ∧ ts[i]? = some t ∧ TL t ∧ (termB t = true → ∀ H', RunsAt D H' r ts (i + 1) → SameX r H H' → Q (.str t) H') ∧ (termB t = false → ∀ H', E (.ref D.x_NoStatement) none H')
theorem ok_take_term (T : Tx K mg D) : FnOk P w K mg base0 (CXX P w base0) 3 D.a_take_term D.d_take_term ["runs"] (spTerm D) := by
  have G_Runs_take := ok_take (P := P) (w := w) (base0 := base0) T
  have G_is_letter := ok_letter (P := P) (w := w) (base0 := base0) T
  have G_is_name := ok_name (P := P) (w := w) (base0 := base0) T
  refine T.F_take_term.okX sc_take_term (fun vs H Q E h => ?_) (fun cdv A outer s H vs Q E hr h => ?_)
  · obtain ⟨r, ts, i, t, rfl, _⟩ := h; rfl
  obtain ⟨r, ts, i, t, rfl, hR, ht, hl, k, kE⟩ := h
  have hR0 := hR
  obtain ⟨dx, l, h1, h2⟩ := hR0
  have hu := hr.units
  have hr_Runs_take : Room 1 _ := hr.mono (by decide)
  have hr_is_letter : Room 2 _ := hr.mono (by decide)
  have hr_is_name : Room 2 _ := hr.mono (by decide)
  refine ⟨_, (pss_cons (ps_set (i := 1) sc_take_term.nd (by rfl) (by walk_at "o") (pe_meth0 (pv 0) T.cl_Runs T.h_Runs_take G_Runs_take hr_Runs_take T.b_Runs_take .nil pass0))
    (pss_cons (ps_if (PW.pt (pw_and (pt_not (pt_val (pe_call G_is_name hr_is_name (by rfl) T.m_is_name T.F_is_name.kp T.b_is_name .nil pass0 (pa_cons (pv 1) pa_nil)))) (pw_and1 (pt_not (pt_val (pe_call G_is_letter hr_is_letter (by rfl) T.m_is_letter T.F_is_letter.kp T.b_is_letter .nil pass0 (pa_cons (pv 1) pa_nil))))))) (pss_one (ps_raise fnc_of (by rfl) out_of T.x_NoStatement PySem.F.excBase_ValueError (by rfl) (pa_cons (pe_msg (pm_cons pm_str (pm_cons (pm_r (pv 1)) pm_nil))) pa_nil))) pss_nil)
    (pss_one (ps_ret (pv 1))))), ?_⟩
  walk_at "S"
  walk_at ""
  refine ⟨r, dx, _, rfl, h1, rfl, r, ts, i, t, rfl, hR, ht, fun H' hR' hS => ?_⟩
  walk_at ""
  refine ⟨t, rfl, hl.1, fun H2 hs2 => ?_⟩
  (try walk_at "")
  refine ite2 (fun c => ?_) fun c => ?_
  · have c' : (base t "abcdefghijklmnopqrstuvwxyz" && !inV (.str t) keptV) = false := c
    refine ⟨t, rfl, hl.1, fun H3 hs3 => ?_⟩
    (try walk_at "")
    refine ite2 (fun c2 => ⟨⟨Nat.le_trans hl.1 (by decide), hl.2⟩, fun out _ => ⟨sz1000 (show 1 ≤ 100000 by decide), kE (by unfold termB letB; rw [c', c2]; rfl) _⟩⟩) fun c2 => k (by unfold termB letB; rw [eq_true_of_ne_false c2, Bool.or_true]) H3 (hR'.same (hs2.trans hs3)) (hS.trans (Same.x (hs2.trans hs3)))
  · have c' : (base t "abcdefghijklmnopqrstuvwxyz" && !inV (.str t) keptV) = true := eq_true_of_ne_false c
    exact k (by unfold termB; rw [c', Bool.true_or]) H2 (hR'.same hs2) (hS.trans (Same.x hs2))
end
section
variable {P : Program} {w : World} {K : PySem.W.Frag} {mg : Str → Option Value} {base0 : Heap} {D : Defs}
def WF (l : List Str) : Prop := ∃ rs, l = rs ++ [Str.ofString ""] ∧ ∀ r ∈ rs, r ≠ Str.ofString ""
theorem WF.ne {l : List Str} (h : WF l) : ∃ t l', l = t :: l' := by
  obtain ⟨rs, rfl, _⟩ := h
  cases rs with
  | nil => exact ⟨_, _, rfl⟩
  | cons r rs => exact ⟨_, _, rfl⟩
theorem WF.tl {t : Str} {l : List Str} (h : WF (t :: l)) (n : t ≠ Str.ofString "") : WF l := by
  obtain ⟨rs, e, k⟩ := h
  cases rs with
  | nil => exact absurd (List.cons.inj e).1 n
  | cons r rs => exact ⟨rs, (List.cons.inj e).2, fun x hx => k x (List.mem_cons_of_mem _ hx)⟩
theorem at_drop {ts l : List Str} {i : Nat} {t : Str} (h : ts.drop i = t :: l) : ts[i]? = some t ∧ ts.drop (i + 1) = l ∧ i < ts.length := by
  have e : ts[i]? = some t := by have := congrArg List.head? h; simpa using this
  exact ⟨e, by rw [← List.drop_drop, h]; rfl, (List.getElem?_eq_some_iff.mp e).1⟩
def pMore : List Str → Option (List Str × List Str)
  | c :: t :: l => if c = Str.ofString "," then (if termB t = true then (pMore l).map fun p => (t :: p.1, p.2) else none) else some ([], c :: t :: l)
  | l => some ([], l)
theorem pMore_stop {c : Str} {l : List Str} (h : c ≠ Str.ofString ",") : pMore (c :: l) = some ([], c :: l) := by
  cases l with
  | nil => rfl
  | cons t l => unfold pMore; rw [if_neg h]
theorem pMore_go {t : Str} {l : List Str} : pMore (Str.ofString "," :: t :: l) = if termB t = true then (pMore l).map fun p => (t :: p.1, p.2) else none := by
  show (if Str.ofString "," = Str.ofString "," then _ else _) = _
  rw [if_pos rfl]
def clos (acc : List Str) : Option (List Str × List Str) → Option (List Str × List Str)
  | some (us, c :: l) => if c = Str.ofString ")" then (if (acc ++ us).length ≤ 3 then some (acc ++ us, l) else none) else none
  | _ => none
theorem clos_map {acc : List Str} {t : Str} : ∀ {m : Option (List Str × List Str)}, clos acc (m.map fun p => (t :: p.1, p.2)) = clos (acc ++ [t]) m
  | none => rfl
  | some (us, []) => rfl
  | some (us, c :: l) => by simp [clos, List.append_assoc]
def pTerms : List Str → Option (List Str × List Str)
  | o :: t :: l => if o = Str.ofString "(" then (if termB t = true then clos [t] (pMore l) else none) else some ([], o :: t :: l)
  | l => some ([], l)
theorem pTerms_no {o : Str} {l : List Str} (h : o ≠ Str.ofString "(") : pTerms (o :: l) = some ([], o :: l) := by
  cases l with
  | nil => rfl
  | cons t l =>
    show (if o = Str.ofString "(" then _ else some ([], o :: t :: l)) = _
    rw [if_neg h]
theorem tl_lits : TL (Str.ofString "(") ∧ TL (Str.ofString ")") ∧ TL (Str.ofString ",") ∧ TL (Str.ofString "") := by unfold TL; decide +kernel
theorem termB_ne {t : Str} (h : termB t = true) : t ≠ Str.ofString "" := by
  rintro rfl
  exact absurd h (by decide +kernel)
def spTerms (K : PySem.W.Frag) (D : Defs) : Sp := fun vs H Q E => ∃ (r : Addr) (ts : List Str) (i : Nat), vs = [.ref r] ∧ RunsAt D H r ts i ∧ ts.length ≤ 100000 ∧ (∀ t ∈ ts, TL t) ∧ WF (ts.drop i) ∧
  (∀ us l, pTerms (ts.drop i) = some (us, l) → ∀ p H' j, SqT K H' p (us.map V.str) → RunsAt D H' r ts j → ts.drop j = l → SameX r H H' → Q (.ref p) H') ∧ (pTerms (ts.drop i) = none → ∀ H', E (.ref D.x_NoStatement) none H')
theorem ok_take_terms (T : Tx K mg D) : FnOk P w K mg base0 (CXX P w base0) 4 D.a_take_terms D.d_take_terms ["runs"] (spTerms K D) := by
  have G_Runs_ahead := ok_ahead (P := P) (w := w) (base0 := base0) T
  have G_Runs_want := ok_want (P := P) (w := w) (base0 := base0) T
  have G_take_term := ok_take_term (P := P) (w := w) (base0 := base0) T
  refine T.F_take_terms.okX sc_take_terms (fun vs H Q E h => ?_) (fun cdv A outer s H vs Q E hr h => ?_)
  · obtain ⟨r, ts, i, rfl, _⟩ := h; rfl
  obtain ⟨r, ts, i, rfl, hR, hn, hTL, hW, k, kE⟩ := h
  have hR0 := hR
  obtain ⟨dx, l, h1, h2⟩ := hR0
  have hu := hr.units
  have hr_Runs_ahead : Room 1 _ := hr.mono (by decide)
  have hr_Runs_want : Room 2 _ := hr.mono (by decide)
  have hr_take_term : Room 3 _ := hr.mono (by decide)
  have tl : ∀ {j : Nat} {t : Str}, ts[j]? = some t → TL t := fun h => hTL _ (List.mem_of_getElem? h)
  refine ⟨_, (pss_cons (ps_if (pt_cmpR (opC_ne K hu) (pe_meth0 (pv 0) T.cl_Runs T.h_Runs_ahead G_Runs_ahead hr_Runs_ahead T.b_Runs_ahead .nil pass0) pe_str (nomark _)) (pss_one (ps_ret (pe_tup pa_nil))) pss_nil)
    (pss_cons (ps_expr (pe_methX fnc_of out_of (pv 0) T.cl_Runs T.h_Runs_want G_Runs_want hr_Runs_want T.b_Runs_want .nil (pa_cons pe_str pa_nil)))
    (pss_cons (ps_set (i := 1) sc_take_terms.nd (by rfl) (by walk_at "o") (pe_lst (pa_cons (pe_callX fnc_of out_of G_take_term hr_take_term (by rfl) T.m_take_term T.F_take_term.kp T.b_take_term .nil (pa_cons (pv 0) pa_nil)) pa_nil)))
    (pss_cons (ps_while passes_of (pt_cmpR (opC_eq K hu) (pe_meth0 (pv 0) T.cl_Runs T.h_Runs_ahead G_Runs_ahead hr_Runs_ahead T.b_Runs_ahead .nil pass0) pe_str (nomark _)) (pss_cons (ps_expr (pe_methX fnc_of out_of (pv 0) T.cl_Runs T.h_Runs_want G_Runs_want hr_Runs_want T.b_Runs_want .nil (pa_cons pe_str pa_nil)))
    (pss_one (ps_expr (pe_bmA K PySem.F.plainAttrs_list PySem.F.slot_list_append PySem.F.type_list_append mtR_append (pv 1) (pa_cons (pe_callX fnc_of out_of G_take_term hr_take_term (by rfl) T.m_take_term T.F_take_term.kp T.b_take_term .nil (pa_cons (pv 0) pa_nil)) pa_nil))))))
    (pss_cons (ps_expr (pe_methX fnc_of out_of (pv 0) T.cl_Runs T.h_Runs_want G_Runs_want hr_Runs_want T.b_Runs_want .nil (pa_cons pe_str pa_nil)))
    (pss_cons (ps_if (pt_cmpR op_gt (pe_callB (callA_len K) (by rfl) T.z_len PySem.boot_len (pa_cons (pv 1) pa_nil)) (T.g_MOST_TERMS (by rfl)) (nomark _)) (pss_one (ps_raise fnc_of (by rfl) out_of T.x_NoStatement PySem.F.excBase_ValueError (by rfl) (pa_cons (pe_msg (pm_cons pm_str (pm_cons (pm_v (T.g_MOST_TERMS (by rfl))) (pm_cons pm_str pm_nil)))) pa_nil))) pss_nil)
    (pss_one (ps_ret (pe_callTy (callA_tuple K) (by rfl) T.z_tuple (by rfl) (pa_cons (pv 1) pa_nil)))))))))), ?_⟩
  walk_at "S"
  walk_at ""
  obtain ⟨o, l1, e0⟩ := hW.ne
  obtain ⟨a0, d0, _⟩ := at_drop e0
  refine ⟨r, dx, _, rfl, h1, rfl, r, ts, i, o, rfl, hR, a0, ?_⟩
  (try walk_at "")
  refine ite2 (fun c => ?_) fun c => ?_
  · refine ⟨by decide, fun p hp => k [] (o :: l1) (by rw [e0]; exact pTerms_no c) p _ i (SqT.of upd_same) (hR.same (same_new hp _)) e0 (Same.x (same_new hp _))⟩
  obtain rfl : o = Str.ofString "(" := Classical.not_not.mp c
  refine ⟨r, dx, _, rfl, h1, rfl, r, ts, i, _, _, rfl, hR, a0, tl a0, tl_lits.1, fun _ H1 hR1 hS1 => ?_, fun z => absurd rfl z⟩
  (try walk_at "")
  have hW1 : WF l1 := by rw [e0] at hW; exact hW.tl (by decide)
  obtain ⟨t, l2, rfl⟩ := hW1.ne
  obtain ⟨a1, d1, lt1⟩ := at_drop d0
  have ep : pTerms (ts.drop i) = if termB t = true then clos [t] (pMore l2) else none := by
    rw [e0]
    show (if Str.ofString "(" = Str.ofString "(" then (if termB t = true then clos [t] (pMore l2) else none) else some ([], Str.ofString "(" :: t :: l2)) = _
    rw [if_pos rfl]
  refine ⟨r, ts, i + 1, t, rfl, hR1, a1, tl a1, fun hb H2 hR2 hS2 => ?_, fun hb H' => ⟨_, rfl, kE (by rw [ep, if_neg (by rw [hb]; decide)]) H'⟩⟩
  rw [if_pos hb] at ep
  refine ⟨by show 1 ≤ sizeLine; decide, fun p hp => ?_⟩
  have hpr : r ≠ p := by obtain ⟨_, _, a, _⟩ := hR2; exact ne_of_none a hp
  have hW2 : WF l2 := hW1.tl (termB_ne hb)
  refine ⟨fun m σ' H' => ∃ (j : Nat) (acc : List Str), acc.length < j ∧ j ≤ ts.length ∧ m = ts.length - j ∧ σ' = [some (.ref r), some (.ref p)] ∧ H' p = some (.lst (acc.map V.str)) ∧ RunsAt D H' r ts j ∧ SameX r H H' ∧ WF (ts.drop j) ∧ pTerms (ts.drop i) = clos acc (pMore (ts.drop j)), ⟨_, i + 1 + 1, [t], by show 1 < i + 1 + 1; omega, lt1, rfl, rfl, ?_, hR2.same (same_new hp _), (hS1.trans hS2).trans (Same.x (same_new hp _)), by rw [d1]; exact hW2, by rw [d1]; exact ep⟩, ?_⟩
  · rw [upd_same]; rfl
  rintro m σ' H' ⟨j, acc, hal, hjl, rfl, rfl, hp', hR', hS', hW', ep'⟩
  have hR0' := hR'
  obtain ⟨dx', l', q1, q2⟩ := hR0'
  (try walk_at "")
  obtain ⟨c, l3, e3⟩ := hW'.ne
  obtain ⟨a3, d3, lt3⟩ := at_drop e3
  refine ⟨r, dx', _, rfl, q1, rfl, r, ts, j, c, rfl, hR', a3, ?_⟩
  (try walk_at "")
  refine ite2 (fun cc => ?_) fun cc => ?_
  · subst cc
    have hW3 : WF l3 := by rw [e3] at hW'; exact hW'.tl (by decide)
    obtain ⟨u, l4, rfl⟩ := hW3.ne
    obtain ⟨a4, d4, lt4⟩ := at_drop d3
    rw [e3, pMore_go] at ep'
    refine ⟨fun σ2 H5 => ∃ acc', acc'.length < j + 1 + 1 ∧ σ2 = [some (.ref r), some (.ref p)] ∧ H5 p = some (.lst (acc'.map V.str)) ∧ RunsAt D H5 r ts (j + 1 + 1) ∧ SameX r H H5 ∧ WF l4 ∧ pTerms (ts.drop i) = clos acc' (pMore l4), fun σ2 H5 ⟨acc', z1, z2, z3, z4, z5, z6, z7⟩ => ⟨ts.length - (j + 1 + 1), by omega, j + 1 + 1, acc', z1, lt4, rfl, z2, z3, z4, z5, by rw [d4]; exact z6, by rw [d4]; exact z7⟩, r, dx', _, rfl, q1, rfl, r, ts, j, _, _, rfl, hR', a3, tl a3, tl_lits.2.2.1, fun _ H3 hR3 hS3 => ?_, fun z => absurd rfl z⟩
    have hp3 := hS3 p _ (Ne.symm hpr) hp'
    refine ⟨⟨_, SqL.of hp3⟩, r, ts, j + 1, u, rfl, hR3, a4, tl a4, fun hb' H4 hR4 hS4 => ?_, fun hb' H' => ⟨_, rfl, kE (by rw [ep', if_neg (by rw [hb']; decide)]; rfl) H'⟩⟩
    rw [if_pos hb', clos_map] at ep'
    have hp4 := hS4 p _ (Ne.symm hpr) hp3
    refine ⟨_, hp4, by rw [List.length_map, sizeLine_eq]; omega, acc ++ [u], by rw [List.length_append, List.length_singleton]; omega, rfl, ?_, ?_, ?_, hW3.tl (termB_ne hb'), ep'⟩
    · rw [upd_same, List.map_append]; rfl
    · obtain ⟨dx4, l4', b1, b2⟩ := hR4
      have nl : l4' ≠ p := by
        rintro rfl
        rw [b2] at hp4
        have := congrArg List.length (HO.lst.inj (Option.some.inj hp4))
        rw [List.length_map, List.length_map] at this
        omega
      exact ⟨dx4, l4', by rw [upd_ne hpr]; exact b1, by rw [upd_ne nl]; exact b2⟩
    · intro b o nb hb
      have hb4 := ((hS'.trans hS3).trans hS4) b o nb hb
      have nbp : b ≠ p := by
        rintro rfl
        have hb2 := (hS1.trans hS2) b o nb hb
        rw [hp] at hb2; cases hb2
      rw [upd_ne nbp]; exact hb4
  · rw [e3, pMore_stop cc] at ep'
    have ep2 : pTerms (ts.drop i) = if c = Str.ofString ")" then (if acc.length ≤ 3 then some (acc, l3) else none) else none := by rw [ep']; simp [clos]
    (try walk_at "")
    refine ⟨r, dx', _, rfl, q1, rfl, r, ts, j, _, c, rfl, hR', a3, tl a3, tl_lits.2.1, fun ec H3 hR3 hS3 => ?_, fun ec H' => ⟨_, rfl, kE (by rw [ep2, if_neg ec]) H'⟩⟩
    rw [if_pos ec] at ep2
    have hp3 := hS3 p _ (Ne.symm hpr) hp'
    refine ⟨_, .inl (SqL.of hp3), ?_⟩
    refine ite2 (fun c3 => ?_) fun c3 => ?_
    · rw [List.length_map] at c3
      exact ⟨by decide, fun out _ => ⟨sz1000 (show 1 ≤ 100000 by decide), kE (by rw [ep2, if_neg (by omega)]) _⟩⟩
    · rw [List.length_map] at c3
      rw [if_pos (by omega)] at ep2
      exact ⟨_, .inl ⟨SqL.of hp3, fun p2 hp2 => k acc l3 ep2 p2 _ (j + 1) (SqT.of upd_same) (RunsAt.same hR3 (same_new hp2 _)) d3 ((hS'.trans hS3).trans (Same.x (same_new hp2 _)))⟩⟩
end
section
variable {P : Program} {w : World} {K : PySem.W.Frag} {mg : Str → Option Value} {base0 : Heap} {D : Defs}
def wordB (t : Str) : Bool := base t "abcdefghijklmnopqrstuvwxyz" && !inV (.str t) keptV
def commas : List Str → List Str
  | [] => []
  | [u] => [u]
  | u :: v :: us => u :: "," :: commas (v :: us)
def toks : Stm → List Str
  | .is w us => w :: (if us = [] then [] else (Str.ofString "(") :: commas us ++ [Str.ofString ")"])
  | .fls => [Str.ofString "false"]
  | .neg A => Str.ofString "not" :: toks A
  | .bi o A B => Str.ofString "(" :: (toks A ++ o.txt :: (toks B ++ [Str.ofString ")"]))
  | .qu q X A => qtx q :: X :: toks A
def TokOk : Stm → Prop
  | .is w us => wordB w = true ∧ us.length ≤ 3 ∧ ∀ u ∈ us, termB u = true
  | .fls => True
  | .neg A => TokOk A
  | .bi _ A B => TokOk A ∧ TokOk B
  | .qu _ X A => letB X = true ∧ TokOk A
def cmT (us : List Str) : List Str := us.flatMap fun u => [Str.ofString ",", u]
theorem commas_is : ∀ (t : Str) (us : List Str), commas (t :: us) = t :: cmT us
  | t, [] => rfl
  | t, u :: us => by
    have := commas_is u us
    show t :: "," :: commas (u :: us) = _
    rw [this]; rfl
theorem pMore_toks : ∀ (l us r : List Str), pMore l = some (us, r) → (∀ u ∈ us, termB u = true) ∧ l = cmT us ++ r
  | [], us, r, h => by cases h; exact ⟨by simp, rfl⟩
  | [c], us, r, h => by cases h; exact ⟨by simp, rfl⟩
  | c :: t :: l, us, r, h => by
    by_cases hc : c = Str.ofString ","
    · subst hc
      rw [pMore_go] at h
      by_cases hb : termB t = true
      · rw [if_pos hb] at h
        cases e : pMore l with
        | none => rw [e] at h; cases h
        | some p =>
          rw [e] at h
          cases h
          obtain ⟨k1, k2⟩ := pMore_toks l p.1 p.2 e
          refine ⟨fun u hu => ?_, by rw [k2]; rfl⟩
          rcases List.mem_cons.mp hu with rfl | hu
          · exact hb
          · exact k1 u hu
      · rw [if_neg hb] at h; cases h
    · rw [pMore_stop hc] at h
      cases h
      exact ⟨by simp, rfl⟩
theorem clos_some {acc us r : List Str} : ∀ {m : Option (List Str × List Str)}, clos acc m = some (us, r) → ∃ vs, m = some (vs, Str.ofString ")" :: r) ∧ us = acc ++ vs ∧ us.length ≤ 3
  | none, h => by cases h
  | some (vs, []), h => by cases h
  | some (vs, c :: l), h => by
    have h' : (if c = Str.ofString ")" then (if (acc ++ vs).length ≤ 3 then some (acc ++ vs, l) else none) else none) = some (us, r) := h
    by_cases hc : c = Str.ofString ")"
    · rw [if_pos hc] at h'
      by_cases hl : (acc ++ vs).length ≤ 3
      · rw [if_pos hl] at h'
        cases h'
        exact ⟨vs, by rw [hc], rfl, hl⟩
      · rw [if_neg hl] at h'; cases h'
    · rw [if_neg hc] at h'; cases h'
theorem pTerms_toks : ∀ (l us r : List Str), pTerms l = some (us, r) → us.length ≤ 3 ∧ (∀ u ∈ us, termB u = true) ∧ l = (if us = [] then [] else (Str.ofString "(") :: commas us ++ [Str.ofString ")"]) ++ r
  | [], us, r, h => by cases h; exact ⟨by simp, by simp, rfl⟩
  | [c], us, r, h => by cases h; exact ⟨by simp, by simp, rfl⟩
  | o :: t :: l, us, r, h => by
    by_cases ho : o = Str.ofString "("
    · subst ho
      have h' : (if termB t = true then clos [t] (pMore l) else none) = some (us, r) := h
      by_cases hb : termB t = true
      · rw [if_pos hb] at h'
        obtain ⟨vs, e, rfl, hl⟩ := clos_some h'
        obtain ⟨k1, k2⟩ := pMore_toks _ _ _ e
        refine ⟨hl, fun u hu => ?_, ?_⟩
        · rcases List.mem_cons.mp hu with rfl | hu
          · exact hb
          · exact k1 u hu
        · rw [if_neg (by simp), k2]
          show _ = (Str.ofString "(" :: commas (t :: vs) ++ [Str.ofString ")"]) ++ r
          rw [commas_is]
          simp
      · rw [if_neg hb] at h'; cases h'
    · rw [pTerms_no ho] at h
      cases h
      exact ⟨by simp, by simp, rfl⟩
def pQ (q : Bool) (rec : List Str → Option (Stm × List Str)) : List Str → Option (Stm × List Str)
  | X :: l => if letB X = true then (rec l).map fun p => (.qu q X p.1, p.2) else none
  | [] => none
def biOf (t : Str) : Option Bi := if t = Bi.and.txt then some .and else if t = Bi.or.txt then some .or else if t = Bi.thn.txt then some .thn else none
def pEnd (o : Bi) (A : Stm) : Option (Stm × List Str) → Option (Stm × List Str)
  | some (B, c :: l) => if c = Str.ofString ")" then some (.bi o A B, l) else none
  | _ => none
def pMid (rec : List Str → Option (Stm × List Str)) : Option (Stm × List Str) → Option (Stm × List Str)
  | some (A, j :: l) => match biOf j with
    | some o => pEnd o A (rec l)
    | none => none
  | _ => none
def pStep (rec : List Str → Option (Stm × List Str)) : List Str → Option (Stm × List Str)
  | [] => none
  | f :: l => if f = Str.ofString "false" then some (.fls, l) else if f = Str.ofString "not" then (rec l).map fun p => (.neg p.1, p.2) else if f = qtx true then pQ true rec l else if f = qtx false then pQ false rec l
    else if f = Str.ofString "(" then pMid rec (rec l) else if wordB f = true then (pTerms l).map fun p => (.is f p.1, p.2) else none
theorem pStep_cons {rec : List Str → Option (Stm × List Str)} {f : Str} {l : List Str} : pStep rec (f :: l) = if f = Str.ofString "false" then some (.fls, l) else if f = Str.ofString "not" then (rec l).map fun p => (.neg p.1, p.2) else if f = qtx true then pQ true rec l else if f = qtx false then pQ false rec l
    else if f = Str.ofString "(" then pMid rec (rec l) else if wordB f = true then (pTerms l).map fun p => (.is f p.1, p.2) else none := rfl
def pStm : Nat → List Str → Option (Stm × List Str)
  | 0, _ => none
  | n + 1, l => pStep (pStm n) l
theorem biOf_some {t : Str} {o : Bi} (h : biOf t = some o) : t = o.txt := by
  unfold biOf at h
  repeat (split at h; · rename_i e; cases h; exact e)
  cases h
theorem pStep_ok {n : Nat} {rec : List Str → Option (Stm × List Str)} (ih : ∀ l S r, rec l = some (S, r) → TokOk S ∧ S.deep ≤ n ∧ l = toks S ++ r) : ∀ l S r, pStep rec l = some (S, r) → TokOk S ∧ S.deep ≤ n + 1 ∧ l = toks S ++ r
  | [], S, r, h => by cases h
  | f :: l, S, r, h => by
    have pq : ∀ q, f = qtx q → pQ q rec l = some (S, r) → TokOk S ∧ S.deep ≤ n + 1 ∧ f :: l = toks S ++ r := fun q ef h => by
      cases l with
      | nil => cases h
      | cons X l =>
        have h' : (if letB X = true then (rec l).map fun p => (Stm.qu q X p.1, p.2) else none) = some (S, r) := h
        by_cases hb : letB X = true
        · rw [if_pos hb] at h'
          cases e : rec l with
          | none => rw [e] at h'; cases h'
          | some p =>
            rw [e] at h'
            cases h'
            obtain ⟨k1, k2, k3⟩ := ih _ _ _ e
            exact ⟨⟨hb, k1⟩, by simp only [Stm.deep]; omega, by rw [ef, k3]; rfl⟩
        · rw [if_neg hb] at h'; cases h'
    rw [pStep_cons] at h
    split at h
    · rename_i ef
      cases h
      exact ⟨trivial, by simp only [Stm.deep]; omega, by rw [ef]; rfl⟩
    split at h
    · rename_i ef
      cases e : rec l with
      | none => rw [e] at h; cases h
      | some p =>
        rw [e] at h
        cases h
        obtain ⟨k1, k2, k3⟩ := ih _ _ _ e
        exact ⟨k1, by simp only [Stm.deep]; omega, by rw [ef, k3]; rfl⟩
    split at h
    · rename_i ef; exact pq true ef h
    split at h
    · rename_i ef; exact pq false ef h
    split at h
    · rename_i ef
      cases e : rec l with
      | none => rw [e] at h; cases h
      | some p =>
        obtain ⟨A, l1⟩ := p
        rw [e] at h
        cases l1 with
        | nil => cases h
        | cons j l1 =>
          cases eo : biOf j with
          | none => simp only [pMid, eo] at h; cases h
          | some o =>
            simp only [pMid, eo] at h
            cases e2 : rec l1 with
            | none => rw [e2] at h; cases h
            | some p =>
              obtain ⟨B, l2⟩ := p
              rw [e2] at h
              cases l2 with
              | nil => cases h
              | cons c l2 =>
                have h' : (if c = Str.ofString ")" then some (Stm.bi o A B, l2) else none) = some (S, r) := h
                by_cases hc : c = Str.ofString ")"
                · rw [if_pos hc] at h'
                  cases h'
                  obtain ⟨k1, k2, k3⟩ := ih _ _ _ e
                  obtain ⟨q1, q2, q3⟩ := ih _ _ _ e2
                  refine ⟨⟨k1, q1⟩, by simp only [Stm.deep]; omega, ?_⟩
                  rw [ef, k3, q3, hc, biOf_some eo]
                  simp [toks]
                · rw [if_neg hc] at h'; cases h'
    split at h
    · rename_i hb
      cases e : pTerms l with
      | none => rw [e] at h; cases h
      | some p =>
        rw [e] at h
        cases h
        obtain ⟨k1, k2, k3⟩ := pTerms_toks _ _ _ e
        refine ⟨⟨hb, k1, k2⟩, by simp only [Stm.deep]; omega, ?_⟩
        show f :: l = (f :: _) ++ p.2
        rw [List.cons_append, ← k3]
    · cases h
theorem pStm_ok : ∀ (n : Nat) (l : List Str) (S : Stm) (r : List Str), pStm n l = some (S, r) → TokOk S ∧ S.deep ≤ n ∧ l = toks S ++ r
  | 0, l, S, r, h => by cases h
  | n + 1, l, S, r, h => pStep_ok (pStm_ok n) l S r h
theorem letB_ne {t : Str} (h : letB t = true) : t ≠ Str.ofString "" := by rintro rfl; exact absurd h (by decide +kernel)
theorem wordB_ne {t : Str} (h : wordB t = true) : t ≠ Str.ofString "" := by rintro rfl; exact absurd h (by decide +kernel)
theorem toks_ne : ∀ {S : Stm}, TokOk S → ∀ t ∈ toks S, t ≠ Str.ofString ""
  | .is w us, h, t, ht => by
    rcases List.mem_cons.mp ht with rfl | ht
    · exact wordB_ne h.1
    · cases us with
      | nil => cases ht
      | cons u us =>
        rw [if_neg (by simp), commas_is] at ht
        simp only [List.cons_append, List.mem_cons, List.mem_append, cmT, List.mem_flatMap, List.not_mem_nil, or_false] at ht
        rcases ht with rfl | rfl | ⟨x, hx, rfl | rfl⟩ | rfl
        · decide
        · exact termB_ne (h.2.2 _ List.mem_cons_self)
        · decide
        · exact termB_ne (h.2.2 _ (List.mem_cons_of_mem _ hx))
        · decide
  | .fls, _, t, ht => by rw [List.mem_singleton.mp ht]; decide
  | .neg A, h, t, ht => by
    rcases List.mem_cons.mp ht with rfl | ht
    · decide
    · exact toks_ne (S := A) h t ht
  | .bi o A B, h, t, ht => by
    simp only [toks, List.mem_cons, List.mem_append, List.not_mem_nil, or_false] at ht
    rcases ht with rfl | ht | rfl | ht | rfl
    · decide
    · exact toks_ne (S := A) h.1 t ht
    · cases o <;> decide
    · exact toks_ne (S := B) h.2 t ht
    · decide
  | .qu q X A, h, t, ht => by
    rcases List.mem_cons.mp ht with rfl | ht
    · cases q <;> decide
    rcases List.mem_cons.mp ht with rfl | ht
    · exact letB_ne h.1
    · exact toks_ne (S := A) h.2 t ht
theorem WF.app : ∀ {a l : List Str}, WF (a ++ l) → (∀ t ∈ a, t ≠ Str.ofString "") → WF l
  | [], _, h, _ => h
  | t :: a, l, h, k => WF.app (a := a) (WF.tl h (k t List.mem_cons_self)) fun x hx => k x (List.mem_cons_of_mem _ hx)
theorem pStm_wf {n : Nat} {l r : List Str} {S : Stm} (h : pStm n l = some (S, r)) (w : WF l) : WF r := by
  obtain ⟨k1, _, k3⟩ := pStm_ok n l S r h
  rw [k3] at w
  exact w.app (toks_ne k1)
end
section
variable {P : Program} {w : World} {K : PySem.W.Frag} {mg : Str → Option Value} {base0 : Heap} {D : Defs}
theorem SqT.sameX {K : PySem.W.Frag} {H H' : Hp} {r a C dx : Addr} {fs : List (Str × V)} {xs : List V} (e : SameX r H H') (hr : H r = some (.ins C dx fs)) (h : SqT K H a xs) : SqT K H' a xs := by
  rcases h with h | h
  · have na : a ≠ r := by
      rintro rfl
      rcases h with h | ⟨o, h⟩
      · rw [hr] at h; cases h
      · rw [hr] at h; cases h
    rcases h with h | ⟨o, h⟩
    · exact .inl (.inl (e _ _ na h))
    · exact .inl (.inr ⟨o, e _ _ na h⟩)
  · exact .inr h
theorem RepS.sameX {K : PySem.W.Frag} {H H' : Hp} {r C dx : Addr} {fs : List (Str × V)} (e : SameX r H H') (hr : H r = some (.ins C dx fs)) : ∀ {S : Stm} {v : V}, RepS K H S v → RepS K H' S v
  | .is _ _, _, ⟨a, b, h1, h2, h3⟩ => ⟨a, b, h1, SqT.sameX e hr h2, SqT.sameX e hr h3⟩
  | .fls, _, ⟨a, h1, h2⟩ => ⟨a, h1, SqT.sameX e hr h2⟩
  | .neg _, _, ⟨a, u, h1, h2, h3⟩ => ⟨a, u, h1, SqT.sameX e hr h2, RepS.sameX e hr h3⟩
  | .bi _ _ _, _, ⟨a, u, u', h1, h2, h3, h4⟩ => ⟨a, u, u', h1, SqT.sameX e hr h2, RepS.sameX e hr h3, RepS.sameX e hr h4⟩
  | .qu _ _ _, _, ⟨a, u, h1, h2, h3⟩ => ⟨a, u, h1, SqT.sameX e hr h2, RepS.sameX e hr h3⟩
def spTS (K : PySem.W.Frag) (D : Defs) (d : Nat) : Sp := fun vs H Q E => ∃ (r : Addr) (ts : List Str) (i n : Nat), vs = [.ref r, .int n] ∧ n < d ∧ RunsAt D H r ts i ∧ ts.length ≤ 100000 ∧ (∀ t ∈ ts, TL t) ∧ WF (ts.drop i) ∧
  (∀ S l, pStm n (ts.drop i) = some (S, l) → ∀ v H' j, RepS K H' S v → RunsAt D H' r ts j → ts.drop j = l → SameX r H H' → Q v H') ∧ (pStm n (ts.drop i) = none → ∀ H', E (.ref D.x_NoStatement) none H')
def spTP (K : PySem.W.Frag) (D : Defs) (d : Nat) : Sp := fun vs H Q E => ∃ (r : Addr) (ts : List Str) (i n : Nat), vs = [.ref r, .int n] ∧ n < d ∧ RunsAt D H r ts i ∧ ts.length ≤ 100000 ∧ (∀ t ∈ ts, TL t) ∧ WF (ts.drop i) ∧
  (∀ S l, pMid (pStm n) (pStm n (ts.drop i)) = some (S, l) → ∀ v H' j, RepS K H' S v → RunsAt D H' r ts j → ts.drop j = l → SameX r H H' → Q v H') ∧ (pMid (pStm n) (pStm n (ts.drop i)) = none → ∀ H', E (.ref D.x_NoStatement) none H')
theorem ok_pair (T : Tx K mg D) (d : Nat) (G_take_statement : FnOk P w K mg base0 (CXX P w base0) (2 * d + 5) D.a_take_statement D.d_take_statement ["runs", "room"] (spTS K D d)) :
    FnOk P w K mg base0 (CXX P w base0) (2 * d + 6) D.a_take_pair D.d_take_pair ["runs", "room"] (spTP K D d) := by
  have G_Runs_take := ok_take (P := P) (w := w) (base0 := base0) T
  have G_Runs_want := ok_want (P := P) (w := w) (base0 := base0) T
  refine T.F_take_pair.okX sc_take_pair (fun vs H Q E h => ?_) (fun cdv A outer s H vs Q E hr h => ?_)
  · obtain ⟨r, ts, i, n, rfl, _⟩ := h; rfl
  obtain ⟨r, ts, i, n, rfl, hnd, hR, hn, hTL, hW, k, kE⟩ := h
  have hu := hr.units
  have hr_take_statement : Room (2 * d + 5) _ := hr
  have hr_Runs_take : Room 1 _ := hr.mono (by omega)
  have hr_Runs_want : Room 2 _ := hr.mono (by omega)
  have tl : ∀ {j : Nat} {t : Str}, ts[j]? = some t → TL t := fun h => hTL _ (List.mem_of_getElem? h)
  refine ⟨_, (pss_cons (ps_set (i := 2) sc_take_pair.nd (by rfl) (by walk_at "o") (pe_callX fnc_of out_of G_take_statement hr_take_statement (by rfl) T.m_take_statement T.F_take_statement.kp T.b_take_statement .nil (pa_cons (pv 0) (pa_cons (pv 1) pa_nil))))
    (pss_cons (ps_set (i := 3) sc_take_pair.nd (by rfl) (by walk_at "o") (pe_meth0 (pv 0) T.cl_Runs T.h_Runs_take G_Runs_take hr_Runs_take T.b_Runs_take .nil pass0))
    (pss_cons (ps_if (pt_cmpR (opC_notin K hu) (pv 3) (T.g_PAIRS (by rfl)) (by rfl)) (pss_one (ps_raise fnc_of (by rfl) out_of T.x_NoStatement PySem.F.excBase_ValueError (by rfl) (pa_cons (pe_msg (pm_cons pm_str (pm_cons (pm_r (pv 3)) pm_nil))) pa_nil))) pss_nil)
    (pss_cons (ps_set (i := 4) sc_take_pair.nd (by rfl) (by walk_at "o") (pe_callX fnc_of out_of G_take_statement hr_take_statement (by rfl) T.m_take_statement T.F_take_statement.kp T.b_take_statement .nil (pa_cons (pv 0) (pa_cons (pv 1) pa_nil))))
    (pss_cons (ps_expr (pe_methX fnc_of out_of (pv 0) T.cl_Runs T.h_Runs_want G_Runs_want hr_Runs_want T.b_Runs_want .nil (pa_cons pe_str pa_nil)))
    (pss_one (ps_ret (pe_tup (pa_cons (pv 3) (pa_cons (pv 2) (pa_cons (pv 4) pa_nil))))))))))), ?_⟩
  walk_at "S"
  walk_at ""
  refine ⟨r, ts, i, n, rfl, hnd, hR, hn, hTL, hW, fun SA l1 eA va H1 j1 ra hR1 dj1 hS1 => ?_, fun e H' => ⟨_, rfl, kE (by rw [e]; rfl) H'⟩⟩
  (try walk_at "")
  have hW1 : WF l1 := pStm_wf eA hW
  obtain ⟨o, l2, rfl⟩ := hW1.ne
  obtain ⟨a1, d1, lt1⟩ := at_drop dj1
  have hR1' := hR1
  obtain ⟨dx1, m1, c1, b1⟩ := hR1'
  refine ⟨r, dx1, _, rfl, c1, rfl, r, ts, _, o, rfl, hR1, a1, fun H2 hR2 hS2 => ?_⟩
  (try walk_at "")
  refine .inl ⟨_, _, rfl, .inr (T.q_PAIRS _), rfl, by decide, ?_⟩
  refine ⟨_, rfl, ?_⟩
  have hin : inV (.str o) [V.str "and", V.str "or", V.str "then"] = (biOf o).isSome := by
    unfold biOf
    simp only [inV, List.any_cons, List.any_nil, eqV, Bool.or_false]
    by_cases e1 : o = Bi.and.txt
    · subst e1; rfl
    by_cases e2 : o = Bi.or.txt
    · subst e2; rfl
    by_cases e3 : o = Bi.thn.txt
    · subst e3; rfl
    rw [if_neg e1, if_neg e2, if_neg e3]
    simp
    exact ⟨fun z => e1 z.symm, fun z => e2 z.symm, fun z => e3 z.symm⟩
  cases eo : biOf o with
  | none =>
    rw [eo] at hin
    refine ite2 (fun c => ?_) fun c => absurd (show (!inV (.str o) [V.str "and", V.str "or", V.str "then"]) = true by rw [hin]; rfl) c
    exact ⟨⟨Nat.le_trans (tl a1).1 (by decide), (tl a1).2⟩, fun out _ => ⟨sz1000 (show 1 ≤ 100000 by decide), kE (by rw [eA]; simp only [pMid, eo]) _⟩⟩
  | some o' =>
    rw [eo] at hin
    refine ite2 (fun c => ?_) fun _ => ?_
    · exfalso
      have c' : (!inV (.str o) [V.str "and", V.str "or", V.str "then"]) = true := c
      rw [hin] at c'; cases c'
    have eM : pMid (pStm n) (pStm n (ts.drop i)) = pEnd o' SA (pStm n l2) := by rw [eA]; simp only [pMid, eo]
    have hW2 : WF l2 := hW1.tl (by rw [biOf_some eo]; cases o' <;> decide)
    refine ⟨r, ts, j1 + 1, n, rfl, hnd, hR2, hn, hTL, by rw [d1]; exact hW2, fun SB l3 eB vb H3 j3 rb hR3 dj3 hS3 => ?_, fun e H' => ⟨_, rfl, kE (by rw [eM, ← d1, e]; rfl) H'⟩⟩
    rw [d1] at eB
    rw [eB] at eM
    have hW3 : WF l3 := pStm_wf eB hW2
    obtain ⟨c, l4, rfl⟩ := hW3.ne
    obtain ⟨a3, d3, lt3⟩ := at_drop dj3
    have hR3' := hR3
    obtain ⟨dx3, m3, c3, b3⟩ := hR3'
    have eM' : pMid (pStm n) (pStm n (ts.drop i)) = if c = Str.ofString ")" then some (.bi o' SA SB, l4) else none := eM
    refine ⟨r, dx3, _, rfl, c3, rfl, r, ts, _, _, c, rfl, hR3, a3, tl a3, tl_lits.2.1, fun ec H4 hR4 hS4 => ?_, fun ec H' => ⟨_, rfl, kE (by rw [eM', if_neg ec]) H'⟩⟩
    rw [if_pos ec] at eM'
    obtain rfl := biOf_some eo
    refine ⟨by show 3 ≤ sizeLine; decide, fun p hp => k _ _ eM' _ _ (j3 + 1) ⟨p, va, vb, rfl, SqT.of upd_same, ?_, ?_⟩ (hR4.same (same_new hp _)) d3 ?_⟩
    · obtain ⟨dx2, m2, c2, b2⟩ := hR2
      exact (RepS.sameX hS4 c3 (RepS.sameX hS3 c2 (RepS.sameX hS2 c1 ra))).same (same_new hp _)
    · exact (RepS.sameX hS4 c3 rb).same (same_new hp _)
    · exact (((hS1.trans hS2).trans hS3).trans hS4).trans (Same.x (same_new hp _))
theorem ok_ts (T : Tx K mg D) : ∀ d, FnOk P w K mg base0 (CXX P w base0) (2 * d + 5) D.a_take_statement D.d_take_statement ["runs", "room"] (spTS K D d)
  | 0 => ⟨fun vs H Q E h => by obtain ⟨r, ts, i, n, rfl, _⟩ := h; rfl, fun A outer s H args us vs Q E _ _ _ _ h => by
      obtain ⟨r, ts, i, n, _, hn, _⟩ := h
      exact absurd hn (Nat.not_lt_zero _)⟩
  | d + 1 => by
    have G_take_statement := ok_ts T d
    have G_take_pair := ok_pair T d G_take_statement
    have G_Runs_take := ok_take (P := P) (w := w) (base0 := base0) T
    have G_take_letter := ok_take_letter (P := P) (w := w) (base0 := base0) T
    have G_take_terms := ok_take_terms (P := P) (w := w) (base0 := base0) T
    have G_is_word := ok_word (P := P) (w := w) (base0 := base0) T
    refine (T.F_take_statement.okX (k := 2 * d + 6) sc_take_statement (fun vs H Q E h => ?_) (fun cdv A outer s H vs Q E hr h => ?_) : FnOk P w K mg base0 (CXX P w base0) (2 * d + 6 + 1) _ _ _ _)
    · obtain ⟨r, ts, i, n, rfl, _⟩ := h; rfl
    obtain ⟨r, ts, i, n, rfl, hnd, hR, hn, hTL, hW, k, kE⟩ := h
    have hu := hr.units
    have hr_take_statement : Room (2 * d + 5) _ := hr.mono (by omega)
    have hr_take_pair : Room (2 * d + 6) _ := hr
    have hr_Runs_take : Room 1 _ := hr.mono (by omega)
    have hr_take_letter : Room 3 _ := hr.mono (by omega)
    have hr_take_terms : Room 4 _ := hr.mono (by omega)
    have hr_is_word : Room 3 _ := hr.mono (by omega)
    have hR' := hR
    obtain ⟨dx, l, h1, h2⟩ := hR'
    have tl : ∀ {j : Nat} {t : Str}, ts[j]? = some t → TL t := fun h => hTL _ (List.mem_of_getElem? h)
    refine ⟨_, (pss_cons (ps_if (pt_cmpR (opC_eq K hu) (pv 1) pe_int (nomark _)) (pss_one (ps_raise fnc_of (by rfl) out_of T.x_NoStatement PySem.F.excBase_ValueError (by rfl) (pa_cons (pe_msg (pm_cons pm_str (pm_cons (pm_v (T.g_MOST_DEEP (by rfl))) (pm_cons pm_str pm_nil)))) pa_nil))) pss_nil)
    (pss_cons (ps_set (i := 2) sc_take_statement.nd (by rfl) (by walk_at "o") (pe_meth0 (pv 0) T.cl_Runs T.h_Runs_take G_Runs_take hr_Runs_take T.b_Runs_take .nil pass0))
    (pss_cons (ps_if (pt_cmpR (opC_eq K hu) (pv 2) pe_str (nomark _)) (pss_one (ps_ret (pe_tup (pa_cons pe_str pa_nil)))) pss_nil)
    (pss_cons (ps_if (pt_cmpR (opC_eq K hu) (pv 2) pe_str (nomark _)) (pss_one (ps_ret (pe_tup (pa_cons pe_str (pa_cons (pe_callX fnc_of out_of G_take_statement hr_take_statement (by rfl) T.m_take_statement T.F_take_statement.kp T.b_take_statement .nil (pa_cons (pv 0) (pa_cons (pe_op op_sub (pv 1) pe_int) pa_nil))) pa_nil))))) pss_nil)
    (pss_cons (ps_if (pt_cmpR (opC_in K hu) (pv 2) (T.g_QUANTIFIERS (by rfl)) (by rfl)) (pss_cons (ps_set (i := 3) sc_take_statement.nd (by rfl) (by walk_at "o") (pe_callX fnc_of out_of G_take_letter hr_take_letter (by rfl) T.m_take_letter T.F_take_letter.kp T.b_take_letter .nil (pa_cons (pv 0) pa_nil)))
    (pss_one (ps_ret (pe_tup (pa_cons (pv 2) (pa_cons (pv 3) (pa_cons (pe_callX fnc_of out_of G_take_statement hr_take_statement (by rfl) T.m_take_statement T.F_take_statement.kp T.b_take_statement .nil (pa_cons (pv 0) (pa_cons (pe_op op_sub (pv 1) pe_int) pa_nil))) pa_nil))))))) pss_nil)
    (pss_cons (ps_if (pt_cmpR (opC_eq K hu) (pv 2) pe_str (nomark _)) (pss_one (ps_ret (pe_callX fnc_of out_of G_take_pair hr_take_pair (by rfl) T.m_take_pair T.F_take_pair.kp T.b_take_pair .nil (pa_cons (pv 0) (pa_cons (pe_op op_sub (pv 1) pe_int) pa_nil))))) pss_nil)
    (pss_cons (ps_if (pt_val (pe_call G_is_word hr_is_word (by rfl) T.m_is_word T.F_is_word.kp T.b_is_word .nil pass0 (pa_cons (pv 2) pa_nil))) (pss_one (ps_ret (pe_tup (pa_cons pe_str (pa_cons (pv 2) (pa_cons (pe_callX fnc_of out_of G_take_terms hr_take_terms (by rfl) T.m_take_terms T.F_take_terms.kp T.b_take_terms .nil (pa_cons (pv 0) pa_nil)) pa_nil)))))) pss_nil)
    (pss_one (ps_raise fnc_of (by rfl) out_of T.x_NoStatement PySem.F.excBase_ValueError (by rfl) (pa_cons (pe_msg (pm_cons pm_str (pm_cons (pm_r (pv 2)) pm_nil))) pa_nil)))))))))), ?_⟩
    walk_at "S"
    walk_at ""
    refine ite2 (fun c => ?_) fun c => ?_
    · have hn0 : n = 0 := by omega
      subst hn0
      exact ⟨by decide, fun out _ => ⟨sz1000 (show 1 ≤ 100000 by decide), kE rfl _⟩⟩
    obtain ⟨m, rfl⟩ : ∃ m, n = m + 1 := ⟨n - 1, by omega⟩
    obtain ⟨f, l1, e0⟩ := hW.ne
    obtain ⟨a0, d0, lt0⟩ := at_drop e0
    have eP : pStm (m + 1) (ts.drop i) = pStep (pStm m) (f :: l1) := by rw [e0]; rfl
    refine ⟨r, dx, _, rfl, h1, rfl, r, ts, i, f, rfl, hR, a0, fun H1 hR1 hS1 => ?_⟩
    (try walk_at "")
    have en : ((m + 1 : Nat) : Int) - 1 = (m : Int) := by omega
    rw [en]
    rw [pStep_cons] at eP
    refine ite2 (fun c1 => ?_) fun c1 => ?_
    · rw [if_pos c1] at eP
      exact ⟨by show 1 ≤ sizeLine; decide, fun p hp => k _ _ eP _ _ (i + 1) ⟨p, rfl, SqT.of upd_same⟩ (hR1.same (same_new hp _)) d0 (hS1.trans (Same.x (same_new hp _)))⟩
    rw [if_neg c1] at eP
    refine ite2 (fun c2 => ?_) fun c2 => ?_
    · rw [if_pos c2] at eP
      have hW1 : WF l1 := by rw [e0] at hW; exact hW.tl (by rw [c2]; decide)
      refine ⟨r, ts, i + 1, m, rfl, by omega, hR1, hn, hTL, by rw [d0]; exact hW1, fun SA l2 eA va H2 j2 ra hR2 dj2 hS2 => ?_, fun e H' => ⟨_, rfl, kE (by rw [eP, ← d0, e]; rfl) H'⟩⟩
      rw [d0] at eA
      rw [eA] at eP
      exact ⟨by show 2 ≤ sizeLine; decide, fun p hp => k _ _ eP _ _ j2 ⟨p, va, rfl, SqT.of upd_same, ra.same (same_new hp _)⟩ (hR2.same (same_new hp _)) dj2 ((hS1.trans hS2).trans (Same.x (same_new hp _)))⟩
    rw [if_neg c2] at eP
    refine .inl ⟨_, _, rfl, .inr (T.q_QUANTIFIERS _), rfl, by decide, _, rfl, ?_⟩
    refine ite2 (fun c3 => ?_) fun c3 => ?_
    · obtain ⟨q, rfl⟩ : ∃ q, f = qtx q := by
        have c' : inV (.str f) [V.str "all", V.str "some"] = true := c3
        simp only [inV, List.any_cons, List.any_nil, eqV, Bool.or_false, Bool.or_eq_true, beq_iff_eq] at c'
        rcases c' with c' | c'
        · exact ⟨true, c'.symm⟩
        · exact ⟨false, c'.symm⟩
      have eP2 : pStm (m + 1) (ts.drop i) = pQ q (pStm m) l1 := by
        rw [eP]
        cases q with
        | true => rw [if_pos rfl]
        | false => rw [if_neg (by decide), if_pos rfl]
      have hW1 : WF l1 := by rw [e0] at hW; exact hW.tl (by cases q <;> decide)
      obtain ⟨X, l2, rfl⟩ := hW1.ne
      obtain ⟨a1, d1, lt1⟩ := at_drop d0
      have eP3 : pStm (m + 1) (ts.drop i) = if letB X = true then (pStm m l2).map fun p => (.qu q X p.1, p.2) else none := eP2
      refine ⟨r, ts, i + 1, X, rfl, hR1, a1, tl a1, fun hb H2 hR2 hS2 => ?_, fun hb H' => ⟨_, rfl, kE (by rw [eP3, if_neg (by rw [hb]; decide)]) H'⟩⟩
      rw [if_pos hb] at eP3
      refine ⟨r, ts, i + 1 + 1, m, rfl, by omega, hR2, hn, hTL, by rw [d1]; exact hW1.tl (letB_ne hb), fun SA l3 eA va H3 j3 ra hR3 dj3 hS3 => ?_, fun e H' => ⟨_, rfl, kE (by rw [eP3, ← d1, e]; rfl) H'⟩⟩
      rw [d1] at eA
      rw [eA] at eP3
      exact ⟨by show 3 ≤ sizeLine; decide, fun p hp => k _ _ eP3 _ _ j3 ⟨p, va, rfl, SqT.of upd_same, ra.same (same_new hp _)⟩ (hR3.same (same_new hp _)) dj3 (((hS1.trans hS2).trans hS3).trans (Same.x (same_new hp _)))⟩
    have n1 : f ≠ qtx true := fun z => c3 (by rw [z]; decide)
    have n2 : f ≠ qtx false := fun z => c3 (by rw [z]; decide)
    rw [if_neg n1, if_neg n2] at eP
    refine ite2 (fun c4 => ?_) fun c4 => ?_
    · rw [if_pos c4] at eP
      have hW1 : WF l1 := by rw [e0] at hW; exact hW.tl (by rw [c4]; decide)
      refine ⟨r, ts, i + 1, m, rfl, by omega, hR1, hn, hTL, by rw [d0]; exact hW1, fun S l2 eS v H2 j2 rv hR2 dj2 hS2 => ?_, fun e H' => ⟨_, rfl, kE (by rw [eP, ← d0, e]) H'⟩⟩
      rw [d0] at eS
      exact k S l2 (by rw [eP, eS]) v H2 j2 rv hR2 dj2 (hS1.trans hS2)
    rw [if_neg c4] at eP
    refine ⟨f, rfl, (tl a0).1, fun H2 hs2 => ⟨_, rfl, ite2 (fun c5 => ?_) fun c5 => ?_⟩⟩
    · have c5' : wordB f = true := c5
      rw [if_pos c5'] at eP
      have hW1 : WF l1 := by rw [e0] at hW; exact hW.tl (wordB_ne c5')
      refine ⟨r, ts, i + 1, rfl, hR1.same hs2, hn, hTL, by rw [d0]; exact hW1, fun us l2 eU p H3 j3 hq hR3 dj3 hS3 => ?_, fun e H' => ⟨_, rfl, kE (by rw [eP, ← d0, e]; rfl) H'⟩⟩
      rw [d0] at eU
      rw [eU] at eP
      exact ⟨by show 3 ≤ sizeLine; decide, fun p2 hp2 => k _ _ eP _ _ j3 ⟨p2, p, rfl, SqT.of upd_same, (same_new hp2 _).seqT hq⟩ (hR3.same (same_new hp2 _)) dj3 (((hS1.trans (Same.x hs2)).trans hS3).trans (Same.x (same_new hp2 _)))⟩
    · have c5' : ¬ wordB f = true := c5
      rw [if_neg c5'] at eP
      exact ⟨⟨Nat.le_trans (tl a0).1 (by decide), (tl a0).2⟩, fun out _ => ⟨sz1000 (show 1 ≤ 100000 by decide), kE eP _⟩⟩
end
section
variable {P : Program} {w : World} {K : PySem.W.Frag} {mg : Str → Option Value} {base0 : Heap} {D : Defs}
def readS (x : Str) : Option Stm := if x.cps.toList.all okSign = true then (match pStm 40 (runsS x ++ [Str.ofString ""]) with
  | some (S, c :: _) => if c = Str.ofString "" then some S else none
  | _ => none) else none
theorem pad_list (x : Str) : (padS x).cps.toList = padL x.cps.toList := by
  have e : padS x = replS " " " " (replS " " " " (replS " " " " x 40) 41) 44 := rfl
  rw [e, replS_list, replS_list, replS_list]
  exact padL_of _
theorem runs_map (x : Str) : (runsS x).map (fun r => r.cps.toList) = wG [] x.cps.toList := by
  unfold runsS
  rw [split_words, pad_list]
  rfl
theorem flush_fits (acc : List Nat) : (∀ p ∈ flushW acc, p = acc) ∧ (flushW acc).length ≤ 1 ∧ ((flushW acc).map List.length).sum = acc.length := by
  unfold flushW
  split
  · rename_i e; subst e; simp
  · simp
theorem wG_fits : ∀ (l acc : List Nat), (∀ p ∈ wG acc l, ∀ c ∈ p, c ∈ acc ∨ c ∈ l) ∧ (wG acc l).length ≤ 2 * l.length + 1 ∧ ((wG acc l).map List.length).sum ≤ acc.length + l.length
  | [], acc => by
    rw [wG_nil]
    obtain ⟨f1, f2, f3⟩ := flush_fits acc
    exact ⟨fun p hp c hc => .inl (by rw [← f1 p hp]; exact hc), by simpa using f2, by rw [f3]; simp⟩
  | d :: r, acc => by
    obtain ⟨f1, f2, f3⟩ := flush_fits acc
    by_cases hs : sgn d
    · obtain ⟨i1, i2, i3⟩ := wG_fits r []
      rw [wG_sign hs]
      refine ⟨fun p hp c hc => ?_, by simp only [List.length_append, List.length_cons]; omega, by simp only [List.map_append, List.map_cons, List.sum_append, List.sum_cons, f3, List.length_cons, List.length_nil] at i3 ⊢; omega⟩
      rcases List.mem_append.mp hp with q | q
      · exact .inl (by rw [← f1 p q]; exact hc)
      rcases List.mem_cons.mp q with rfl | q
      · rw [List.mem_singleton.mp hc]; exact .inr List.mem_cons_self
      · rcases i1 p q c hc with z | z
        · cases z
        · exact .inr (List.mem_cons_of_mem _ z)
    by_cases hb : d = 32
    · subst hb
      obtain ⟨i1, i2, i3⟩ := wG_fits r []
      rw [wG_blank]
      refine ⟨fun p hp c hc => ?_, by simp only [List.length_append, List.length_cons]; omega, by simp only [List.map_append, List.sum_append, f3, List.length_cons, List.length_nil] at i3 ⊢; omega⟩
      rcases List.mem_append.mp hp with q | q
      · exact .inl (by rw [← f1 p q]; exact hc)
      · rcases i1 p q c hc with z | z
        · cases z
        · exact .inr (List.mem_cons_of_mem _ z)
    · obtain ⟨i1, i2, i3⟩ := wG_fits r (acc ++ [d])
      rw [wG_run hs hb]
      refine ⟨fun p hp c hc => ?_, by simp only [List.length_cons]; omega, by simp only [List.length_append, List.length_cons, List.length_nil] at i3 ⊢; omega⟩
      rcases i1 p hp c hc with z | z
      · rcases List.mem_append.mp z with z | z
        · exact .inl z
        · rw [List.mem_singleton.mp z]; exact .inr List.mem_cons_self
      · exact .inr (List.mem_cons_of_mem _ z)
theorem runs_sum (x : Str) : ((runsS x).map fun r => r.length).sum ≤ x.length ∧ (runsS x).length ≤ 2 * x.length + 1 := by
  obtain ⟨_, i2, i3⟩ := wG_fits x.cps.toList []
  rw [← runs_map] at i2 i3
  rw [List.map_map] at i3
  have e : (List.length ∘ fun r : Str => r.cps.toList) = fun r : Str => r.length := funext fun r => (len_list r).symm
  rw [e] at i3
  rw [List.length_map] at i2
  rw [len_list]
  exact ⟨by simpa using i3, i2⟩
theorem sum_mem {l : List Str} {t : Str} (h : t ∈ l) : t.length ≤ (l.map fun r => r.length).sum := by
  induction l with
  | nil => cases h
  | cons a l ih =>
    rw [List.map_cons, List.sum_cons]
    rcases List.mem_cons.mp h with rfl | h
    · omega
    · have := ih h; omega
theorem runs_tl {x : Str} (h : x.length ≤ 40000) (hc : ∀ c ∈ x.cps.toList, c < 1114112) : ∀ t ∈ runsS x ++ [Str.ofString ""], TL t := fun t ht => by
  rcases List.mem_append.mp ht with q | q
  · refine ⟨Nat.le_trans (sum_mem q) (Nat.le_trans (runs_sum x).1 (by omega)), fun c hc' => ?_⟩
    have q' : t.cps.toList ∈ wG [] x.cps.toList := by rw [← runs_map]; exact List.mem_map.mpr ⟨t, q, rfl⟩
    rcases (wG_fits x.cps.toList []).1 _ q' c hc' with z | z
    · cases z
    · exact hc c z
  · rw [List.mem_singleton.mp q]; exact tl_lits.2.2.2
theorem runs_wf (x : Str) : WF (runsS x ++ [Str.ofString ""]) := ⟨runsS x, rfl, fun r hr => by
  unfold runsS at hr
  have := (List.mem_filter.mp hr).2
  simpa using this⟩
def spRead (K : PySem.W.Frag) (D : Defs) : Sp := fun vs H Q E => ∃ x : Str, vs = [.str x] ∧ x.length ≤ 40000 ∧ (∀ c ∈ x.cps.toList, c < 1114112) ∧
  (∀ S, readS x = some S → ∀ v H', RepS K H' S v → Same H H' → Q v H') ∧ (readS x = none → ∀ H', E (.ref D.x_NoStatement) none H')
theorem ok_read (T : Tx K mg D) : FnOk1 P w K mg base0 (CXX P w base0) 89 D.a_read D.d_read ["text"] (spRead K D) := by
  have G_runs_of := ok_runs_of (P := P) (w := w) (base0 := base0) T
  have G_Runs_init := ok_init (P := P) (w := w) (base0 := base0) T
  have G_Runs_want := ok_want (P := P) (w := w) (base0 := base0) T
  have G_take_statement : FnOk P w K mg base0 (CXX P w base0) 87 D.a_take_statement D.d_take_statement ["runs", "room"] (spTS K D 41) := ok_ts (P := P) (w := w) (base0 := base0) T 41
  refine T.F_read.okX1 sc_read (fun vs H Q E h => ?_) (fun cdv A outer s H vs Q E hr h => ?_)
  · obtain ⟨x, rfl, _⟩ := h; rfl
  obtain ⟨x, rfl, hl, hc, k, kE⟩ := h
  have hu := hr.units
  have hr_runs_of : Room 2 _ := hr.mono (by decide)
  have hr_Runs_init : Room 2 _ := hr.mono (by decide)
  have hr_Runs_want : Room 2 _ := hr.mono (by decide)
  have hr_take_statement : Room 87 _ := hr.mono (by decide)
  refine ⟨_, (pss_cons1 (ps_set1 (i := 1) sc_read.nd (by rfl) (by walk_at "o") (pe_make1 T.mk_Runs G_Runs_init hr_Runs_init (by rfl) T.m_Runs T.b_Runs_init .nil pass0 (pa_cons1 (pe_callX1 fnc_of out_of G_runs_of hr_runs_of (by rfl) T.m_runs_of T.F_runs_of.kp T.b_runs_of .nil (pa_cons1 (PE.up (pv 0)) (PA.up pa_nil))) (PA.up pa_nil))))
    (pss_cons1 (PS.up (ps_set (i := 2) sc_read.nd (by rfl) (by walk_at "o") (pe_callX fnc_of out_of G_take_statement hr_take_statement (by rfl) T.m_take_statement T.F_take_statement.kp T.b_take_statement .nil (pa_cons (pv 1) (pa_cons (T.g_MOST_DEEP (by rfl)) pa_nil)))))
    (pss_cons1 (PS.up (ps_expr (pe_methX fnc_of out_of (pv 1) T.cl_Runs T.h_Runs_want G_Runs_want hr_Runs_want T.b_Runs_want .nil (pa_cons (T.g_END (by rfl)) pa_nil))))
    (pss_one1 (PS.up (ps_ret (pv 2))))))), ?_⟩
  walk_at "S"
  walk_at ""
  refine ⟨x, rfl, by omega, hc, fun hx p H1 s1 hp0 hp1 => ?_, fun hx H' => ⟨_, rfl, kE (by unfold readS; rw [if_neg (by rw [hx]; decide)]) H'⟩⟩
  have er : readS x = (match pStm 40 (runsS x ++ [Str.ofString ""]) with | some (S, c :: _) => if c = Str.ofString "" then some S else none | _ => none) := by unfold readS; rw [if_pos hx]
  (try walk_at "")
  intro r dx hr0 hdx hne
  have npr : p ≠ r := ne_of_none hp1 hr0
  have npd : p ≠ dx := ne_of_none hp1 hdx
  have hlr := (runs_sum x).2
  refine ⟨r, p, dx, runsS x, rfl, upd_same, by rw [upd_ne npr, upd_ne npd]; exact hp1, by omega, fun H2 hR2 hS2 => ⟨rfl, ?_⟩⟩
  (try walk_at "")
  refine ⟨r, runsS x ++ [Str.ofString ""], 0, 40, rfl, by omega, hR2, by rw [List.length_append, List.length_singleton]; omega, runs_tl hl hc, runs_wf x, fun S l eS v H3 j rv hR3 dj hS3 => ?_, fun e H' => ⟨_, rfl, kE (by rw [er]; have e' : pStm 40 (runsS x ++ [Str.ofString ""]) = none := e; rw [e']) H'⟩⟩
  have eS' : pStm 40 (runsS x ++ [Str.ofString ""]) = some (S, l) := eS
  rw [eS'] at er
  (try walk_at "")
  have hW : WF l := pStm_wf eS' (runs_wf x)
  obtain ⟨u, l', rfl⟩ := hW.ne
  obtain ⟨a3', d3, lt3⟩ := at_drop dj
  have hR3' := hR3
  obtain ⟨dx3, l3, a3, b3⟩ := hR3'
  have tlu : TL u := runs_tl hl hc _ (List.mem_of_getElem? a3')
  have er' : readS x = if u = Str.ofString "" then some S else none := er
  refine ⟨r, dx3, _, rfl, a3, rfl, r, _, _, _, u, rfl, hR3, a3', tlu, tl_lits.2.2.2, fun eu H4 hR4 hS4 => ?_, fun eu H' => ⟨_, rfl, kE (by rw [er', if_neg eu]) H'⟩⟩
  rw [if_pos eu] at er'
  (try walk_at "")
  refine k S er' v H4 (RepS.sameX hS4 a3 rv) fun b o hb => ?_
  have hb1 := s1 b o hb
  have nbr : b ≠ r := ne_of_none hb1 hr0
  have nbd : b ≠ dx := ne_of_none hb1 hdx
  exact hS4 b o nbr (hS3 b o nbr (hS2 b o nbr (by rw [upd_ne nbr, upd_ne nbd]; exact hb1)))
end
section
variable {P : Program} {w : World} {K : PySem.W.Frag} {mg : Str → Option Value} {base0 : Heap} {D : Defs}
def spRef : Sp := fun vs H Q _ => ∃ x : Str, vs = [.str x] ∧ x.length ≤ 40000 ∧ (∀ c ∈ x.cps.toList, c < 1114112) ∧ readS x = none ∧ ∀ H', Q (.bl true) H'
theorem ok_refused (T : Tx K mg D) : FnOk1 P w K mg base0 CX0 90 D.a_refused_right_L D.d_refused_right_L ["_law_text"] spRef := by
  have G_read := ok_read (P := P) (w := w) (base0 := base0) T
  refine T.F_refused_right_L.ok1 sc_refused_right_L (fun vs H Q E h => ?_) (fun cdv A outer s H vs Q E hr h => ?_)
  · obtain ⟨x, rfl, _⟩ := h; rfl
  obtain ⟨x, rfl, hl, hc, hn, k⟩ := h
  have hu := hr.units
  have hr_read : Room 89 _ := hr.mono (by decide)
  refine ⟨_, (pss_cons1 (ps_try1 (Fnc.wish fnc_of _) (fun G pins E Fn ho hp => (pss_one1 (ps_expr1 (pe_callX1 Fn ho G_read hr_read (by rfl) T.m_read T.F_read.kp T.b_read .nil (pa_cons1 (PE.up (pv 0)) (PA.up pa_nil)))))) (ph_as (i := 1) (Fnc.wish fnc_of _) sc_refused_right_L.nd (by rfl) (by rfl) (by rfl) T.x_BoxError.1 (fun pins e => (pss_one (ps_ret (pe_and (pe_callB (callX_inst K) (by rfl) T.z_isinstance (by rfl) (pa_cons (pv 1) (pa_cons (pe_bltn (v := .ty "ValueError") (by rfl) T.z_ValueError (by rfl) (by rfl)) pa_nil))) (pe_and (pe_callB (callX_inst K) (by rfl) T.z_isinstance (by rfl) (pa_cons (pv 1) (pa_cons (pe_glob (v := .ref D.x_NoStatement) (by rfl) T.x_NoStatement.1 rfl) pa_nil))) (pe_one (pe_not (pe_callB (callX_inst K) (by rfl) T.z_isinstance (by rfl) (pa_cons (pv 1) (pa_cons (pe_glob (v := .ref D.x_NoName) (by rfl) T.x_NoName.1 rfl) pa_nil)))))))))) ph_nil) pss_nil)
    (pss_one1 (PS.up (ps_ret pe_bl)))), ?_⟩
  walk_at "S"
  walk_at ""
  refine ⟨fun C σ' H' => C = D.x_NoStatement ∧ σ' = [some (.str x), none], ?_, ?_⟩
  · (try walk_at "")
    refine ⟨x, rfl, hl, hc, fun S e => ?_, fun _ H' => ⟨_, rfl, rfl, trivial⟩⟩
    rw [hn] at e; cases e
  rintro C σ' H' ⟨rfl, rfl⟩
  refine ⟨true, T.v_NoStatement_BoxError, ?_⟩
  rw [if_pos rfl]
  intro e he
  (try walk_at "")
  refine ⟨e, _, D.x_NoStatement, true, rfl, upd_same, known_of T.x_NoStatement, .inr ⟨_, rfl, T.i_NoStatement_ValueError⟩, _, rfl, ?_⟩
  rw [if_pos rfl]
  (try walk_at "")
  refine ⟨e, _, D.x_NoStatement, true, rfl, upd_same, known_of T.x_NoStatement, .inl ⟨_, rfl, T.i_NoStatement_NoStatement⟩, _, rfl, ?_⟩
  rw [if_pos rfl]
  (try walk_at "")
  exact ⟨e, _, D.x_NoStatement, false, rfl, upd_same, known_of T.x_NoStatement, .inl ⟨_, rfl, T.i_NoStatement_NoName⟩, _, rfl, k _⟩
end
section
variable {P : Program} {w : World} {K : PySem.W.Frag} {mg : Str → Option Value} {base0 : Heap} {D : Defs}
theorem run_lits : RunW "false" ∧ RunW "not" ∧ (∀ o : Bi, RunW o.txt) ∧ ∀ q : Bool, RunW (qtx q) := by
  have h : ∀ x : Str, x ∈ ([Str.ofString "false", Str.ofString "not", Str.ofString "and", Str.ofString "or", Str.ofString "then", Str.ofString "all", Str.ofString "some"] : List Str) → RunW x := by
    intro x hx
    simp only [List.mem_cons, List.not_mem_nil, or_false] at hx
    unfold RunW L2.Run sgn
    rcases hx with rfl | rfl | rfl | rfl | rfl | rfl | rfl <;> decide
  exact ⟨h _ (by simp), h _ (by simp), fun o => by cases o <;> exact h _ (by simp [Bi.txt]), fun q => by cases q <;> exact h _ (by simp [qtx])⟩
theorem join_words : ∀ {us : List Str}, us ≠ [] → (∀ u ∈ us, RunW u) → ∀ {l : List Nat}, Stop l → wG [] ((Txt.join ", " us).cps.toList ++ l) = (commas us).map (fun r => r.cps.toList) ++ wG [] l
  | [], h, _, _, _ => absurd rfl h
  | [u], _, h, l, hl => by
    show wG [] (u.cps.toList ++ l) = _
    rw [wG_W (h u (List.mem_singleton.mpr rfl)) hl]
    rfl
  | u :: v :: us, _, h, l, hl => by
    have ih := join_words (us := v :: us) (by simp) (fun a ha => h a (List.mem_cons_of_mem _ ha)) hl
    have e : (Txt.join ", " (u :: v :: us)).cps.toList ++ l = u.cps.toList ++ 44 :: 32 :: ((Txt.join ", " (v :: us)).cps.toList ++ l) := by
      have e2 : Txt.join ", " (u :: v :: us) = Str.join ", " (u :: v :: us) := StrLaws.glued_eq_join _ _
      have e3 : Txt.join ", " (v :: us) = Str.join ", " (v :: us) := StrLaws.glued_eq_join _ _
      rw [e2, e3]
      show (u ++ ", " ++ Str.join ", " (v :: us)).cps.toList ++ l = _
      simp [Str.cps_append, show (Str.ofString ", ").cps.toList = [44, 32] from rfl]
    rw [e, wG_W (h u (List.mem_cons_self ..)) (stop_sign (by unfold sgn; omega) _), wG_s (by unfold sgn; omega), wG_b, ih]
    rfl
theorem txt_words : ∀ {S : Stm}, RunS S → ∀ {l : List Nat}, Stop l → wG [] (S.txt.cps.toList ++ l) = (toks S).map (fun r => r.cps.toList) ++ wG [] l
  | .is wd us, h, l, hl => by
    by_cases hz : us = []
    · subst hz
      show wG [] (wd.cps.toList ++ l) = _
      rw [wG_W h.1 hl]
      simp [toks]
    · have hn : ¬ us.length = 0 := by simpa using hz
      have e : (Stm.is wd us).txt.cps.toList ++ l = wd.cps.toList ++ 40 :: ((Txt.join ", " us).cps.toList ++ 41 :: l) := by
        simp only [Stm.txt]
        rw [if_neg hn]
        simp [Str.cps_append, show (Str.ofString "(").cps.toList = [40] from rfl, show (Str.ofString ")").cps.toList = [41] from rfl]
      rw [e, wG_W h.1 (stop_sign (by unfold sgn; omega) _), wG_s (by unfold sgn; omega), join_words hz h.2 (stop_sign (by unfold sgn; omega) _), wG_s (by unfold sgn; omega)]
      simp [toks, hz, show (Str.ofString "(").cps.toList = [40] from rfl, show (Str.ofString ")").cps.toList = [41] from rfl]
  | .fls, _, l, hl => by
    show wG [] ((Str.ofString "false").cps.toList ++ l) = _
    rw [wG_W run_lits.1 hl]; rfl
  | .neg A, h, l, hl => by
    have ih := txt_words (S := A) h hl
    have e : (Stm.neg A).txt.cps.toList ++ l = (Str.ofString "not").cps.toList ++ 32 :: (A.txt.cps.toList ++ l) := by
      simp only [Stm.txt]
      simp [Str.cps_append, show (Str.ofString "not ").cps.toList = (Str.ofString "not").cps.toList ++ [32] from rfl]
    rw [e, wG_W run_lits.2.1 (stop_blank _), wG_b, ih]; rfl
  | .bi o A B, h, l, hl => by
    have ihA := txt_words (S := A) h.1 (l := 32 :: (o.txt.cps.toList ++ 32 :: (B.txt.cps.toList ++ 41 :: l))) (stop_blank _)
    have ihB := txt_words (S := B) h.2 (l := 41 :: l) (stop_sign (by unfold sgn; omega) _)
    have e : (Stm.bi o A B).txt.cps.toList ++ l = 40 :: (A.txt.cps.toList ++ 32 :: (o.txt.cps.toList ++ 32 :: (B.txt.cps.toList ++ 41 :: l))) := by
      simp only [Stm.txt]
      simp [Str.cps_append, show (Str.ofString "(").cps.toList = [40] from rfl, show (Str.ofString ")").cps.toList = [41] from rfl, show (Str.ofString " ").cps.toList = [32] from rfl]
    rw [e, wG_s (by unfold sgn; omega), ihA, wG_b, wG_W (run_lits.2.2.1 o) (stop_blank _), wG_b, ihB, wG_s (by unfold sgn; omega)]
    simp [toks, show (Str.ofString "(").cps.toList = [40] from rfl, show (Str.ofString ")").cps.toList = [41] from rfl]
  | .qu q X A, h, l, hl => by
    have ih := txt_words (S := A) h.2 hl
    have e : (Stm.qu q X A).txt.cps.toList ++ l = (qtx q).cps.toList ++ 32 :: (X.cps.toList ++ 32 :: (A.txt.cps.toList ++ l)) := by
      simp only [Stm.txt]
      simp [Str.cps_append, show (Str.ofString " ").cps.toList = [32] from rfl]
    rw [e, wG_W (run_lits.2.2.2 q) (stop_blank _), wG_b, wG_W h.1 (stop_blank _), wG_b, ih]; rfl
theorem map_inj {l m : List Str} (h : l.map (fun r => r.cps.toList) = m.map (fun r => r.cps.toList)) : l = m := by
  induction l generalizing m with
  | nil => cases m with
    | nil => rfl
    | cons _ _ => simp at h
  | cons a l ih => cases m with
    | nil => simp at h
    | cons b m => simp only [List.map_cons, List.cons.injEq] at h; rw [str_ext h.1, ih h.2]
theorem nm_kept {f x : Str} (h : Nm f x) : inV (.str x) keptV = false := by
  obtain ⟨c, r, e, hc, hr, hl, hk⟩ := h
  cases q : inV (.str x) keptV with
  | false => rfl
  | true =>
    exfalso
    apply hk
    simp only [inV, keptV, List.any_cons, List.any_nil, eqV, Bool.or_false, Bool.or_eq_true, beq_iff_eq] at q
    simp only [keptW, List.mem_cons, List.mem_nil_iff, or_false]
    rcases q with q | q | q | q | q | q | q <;> simp [q]
theorem nm_run {f x : Str} (hf : ∀ c ∈ f.cps.toList, L2.Run c) (h : Nm f x) : RunW x := by
  obtain ⟨c, r, e, hc, hr, hl, _⟩ := h
  have hs : ∀ c ∈ sofS.cps.toList, L2.Run c := by unfold L2.Run sgn; decide +kernel
  refine ⟨by rw [e]; simp, fun d hd => ?_⟩
  rw [e] at hd
  rcases List.mem_cons.mp hd with rfl | hd
  · exact hf _ hc
  · exact hs d (hr d hd)
theorem small_run : ∀ c ∈ smallS.cps.toList, L2.Run c := by unfold L2.Run sgn; decide +kernel
theorem great_run : ∀ c ∈ greatS.cps.toList, L2.Run c := by unfold L2.Run sgn; decide +kernel
theorem base_nm {f x : Str} (h : base x f = true) (hk : x ∉ keptW) : Nm f x := by
  unfold base at h
  split at h
  · cases h
  rename_i h0
  split at h
  · cases h
  rename_i h8
  split at h
  · rename_i hh
    cases e : x.cps.toList with
    | nil =>
      exfalso
      apply h0
      obtain ⟨c⟩ := x
      have : c = #[] := by simpa using e
      subst this; rfl
    | cons c r =>
      have hl : x.length = r.length + 1 := by rw [len_list, e]; rfl
      refine ⟨c, r, e, ?_, fun d hd => ?_, by omega, hk⟩
      · rw [inS_one, e] at hh; simpa using hh
      · unfold tailOk at h
        have es : (Txt.slice x (some 1) none).cps.toList = r := by
          have := slice_from x 1
          rw [e] at this
          simpa using this
        rw [es, List.all_eq_true] at h
        have := h d hd
        rw [inS_one] at this
        exact of_decide_eq_true this
  · cases h
theorem kept_mem {x : Str} (h : inV (.str x) keptV = false) : x ∉ keptW := fun m => by
  simp only [keptW, List.mem_cons, List.mem_nil_iff, or_false] at m
  rcases m with rfl | rfl | rfl | rfl | rfl | rfl | rfl <;> exact absurd h (by decide +kernel)
theorem word_nm {x : Str} (h : wordB x = true) : Nm smallS x := by
  unfold wordB at h
  rw [Bool.and_eq_true] at h
  exact base_nm h.1 (kept_mem (by simpa using h.2))
theorem let_nm {x : Str} (h : letB x = true) : Nm greatS x := by
  refine base_nm h fun m => ?_
  simp only [keptW, List.mem_cons, List.mem_nil_iff, or_false] at m
  rcases m with rfl | rfl | rfl | rfl | rfl | rfl | rfl <;> exact absurd h (by decide +kernel)
theorem term_nm {x : Str} (h : termB x = true) : Nm smallS x ∨ Nm greatS x := by
  unfold termB at h
  rw [Bool.or_eq_true] at h
  rcases h with h | h
  · exact .inl (word_nm h)
  · exact .inr (let_nm h)
theorem tok_ok : ∀ {S : Stm}, TokOk S → S.Ok
  | .is _ _, h => ⟨word_nm h.1, h.2.1, fun u hu => term_nm (h.2.2 u hu)⟩
  | .fls, _ => trivial
  | .neg A, h => tok_ok (S := A) h
  | .bi _ A B, h => ⟨tok_ok (S := A) h.1, tok_ok (S := B) h.2⟩
  | .qu _ _ A, h => ⟨let_nm h.1, tok_ok (S := A) h.2⟩
theorem ok_run : ∀ {S : Stm}, S.Ok → RunS S
  | .is wd us, h => ⟨nm_run small_run h.1, fun u hu => (h.2.2 u hu).elim (nm_run small_run) (nm_run great_run)⟩
  | .fls, _ => trivial
  | .neg A, h => ok_run (S := A) h
  | .bi _ A B, h => ⟨ok_run (S := A) h.1, ok_run (S := B) h.2⟩
  | .qu _ X A, h => ⟨nm_run great_run h.1, ok_run (S := A) h.2⟩
def okC (c : Nat) : Prop := c < 128 ∧ okSign c = true
theorem okC_lits : (∀ c ∈ smallS.cps.toList, okC c) ∧ (∀ c ∈ greatS.cps.toList, okC c) ∧ (∀ c ∈ sofS.cps.toList, okC c) ∧ okC 32 ∧ okC 40 ∧ okC 41 ∧ okC 44 := by unfold okC; decide +kernel
def okT (x : Str) : Prop := ∀ c ∈ x.cps.toList, okC c
theorem okT_app {x y : Str} (hx : okT x) (hy : okT y) : okT (x ++ y) := fun c hc => by
  simp only [Str.cps_append, Array.toList_append, List.mem_append] at hc
  rcases hc with hc | hc
  · exact hx c hc
  · exact hy c hc
theorem nm_okT {f x : Str} (hf : ∀ c ∈ f.cps.toList, okC c) (h : Nm f x) : okT x := by
  obtain ⟨c, r, e, hc, hr, hl, _⟩ := h
  intro d hd
  rw [e] at hd
  rcases List.mem_cons.mp hd with rfl | hd
  · exact hf _ hc
  · exact okC_lits.2.2.1 d (hr d hd)
theorem okT_join : ∀ {us : List Str}, (∀ u ∈ us, okT u) → okT (Txt.join ", " us)
  | [], _ => fun c hc => (List.not_mem_nil (show c ∈ [] from hc)).elim
  | [u], h => h u (List.mem_singleton.mpr rfl)
  | u :: v :: us, h => by
    have e2 : Txt.join ", " (u :: v :: us) = Str.join ", " (u :: v :: us) := StrLaws.glued_eq_join _ _
    have e3 : Txt.join ", " (v :: us) = Str.join ", " (v :: us) := StrLaws.glued_eq_join _ _
    have ih := okT_join (us := v :: us) fun a ha => h a (List.mem_cons_of_mem _ ha)
    rw [e3] at ih
    rw [e2]
    show okT (u ++ ", " ++ Str.join ", " (v :: us))
    exact okT_app (okT_app (h u (List.mem_cons_self ..)) (by unfold okT okC; decide +kernel)) ih
theorem okT_txt : ∀ {S : Stm}, S.Ok → okT S.txt
  | .is wd us, h => by
    have hw : okT wd := nm_okT okC_lits.1 h.1
    have hu : ∀ u ∈ us, okT u := fun u hu => (h.2.2 u hu).elim (nm_okT okC_lits.1) (nm_okT okC_lits.2.1)
    simp only [Stm.txt]
    split
    · exact hw
    · exact okT_app (okT_app (okT_app hw (by unfold okT okC; decide +kernel)) (okT_join hu)) (by unfold okT okC; decide +kernel)
  | .fls, _ => by unfold okT okC; decide +kernel
  | .neg A, h => by simp only [Stm.txt]; exact okT_app (by unfold okT okC; decide +kernel) (okT_txt (S := A) h)
  | .bi o A B, h => by
    have ho : okT o.txt := by cases o <;> (unfold okT okC; decide +kernel)
    have hb : okT (Str.ofString " ") := by unfold okT okC; decide +kernel
    simp only [Stm.txt]
    exact okT_app (okT_app (okT_app (okT_app (okT_app (okT_app (by unfold okT okC; decide +kernel) (okT_txt h.1)) hb) ho) hb) (okT_txt h.2)) (by unfold okT okC; decide +kernel)
  | .qu q X A, h => by
    have hq : okT (qtx q) := by cases q <;> (unfold okT okC; decide +kernel)
    have hb : okT (Str.ofString " ") := by unfold okT okC; decide +kernel
    simp only [Stm.txt]
    exact okT_app (okT_app (okT_app (okT_app hq hb) (nm_okT okC_lits.2.1 h.1)) hb) (okT_txt h.2)
end
section
variable {P : Program} {w : World} {K : PySem.W.Frag} {mg : Str → Option Value} {base0 : Heap} {D : Defs}
theorem alnum_tab : ∀ c, c < 128 → okSign c = true → Txt.isalnum ⟨#[c]⟩ = !(decide (sgn c) || decide (c = 32)) := by decide +kernel
def spTokens : Sp := fun vs H Q _ => ∃ x : Str, vs = [.str x] ∧ (∀ c ∈ x.cps.toList, c < 128 ∧ okSign c = true) ∧ x.length ≤ 4000000 ∧ ∀ p H' (ts : List Str), Same H H' → H p = none → H' p = some (.lst (ts.map V.str)) → ts.map (fun r => r.cps.toList) = wG [] x.cps.toList → Q (.ref p) H'
theorem ok_tokens (T : Tx K mg D) : FnOk P w K mg base0 CX0 1 D.a_tokens_L D.d_tokens_L ["_law_text"] spTokens := by
  refine T.F_tokens_L.ok sc_tokens_L (fun vs H Q E h => ?_) (fun cdv A outer s H vs Q E hr h => ?_)
  · obtain ⟨x, rfl, _⟩ := h; rfl
  obtain ⟨x, rfl, hx, hl, k⟩ := h
  have hu := hr.units
  refine ⟨_, (pss_cons (ps_set (i := 1) sc_tokens_L.nd (by rfl) (by walk_at "o") (pe_lst pa_nil))
    (pss_cons (ps_set (i := 2) sc_tokens_L.nd (by rfl) (by walk_at "o") pe_str)
    (pss_cons (ps_for PassesOwn.never (by rfl) (pi_any K (pv 0)) (pg_name (i := 3) sc_tokens_L.nd (by rfl) (by walk_at "o"))
      (pss_one (ps_if (pt_val (pe_bmA0 K PySem.F.plainAttrs_str PySem.F.slot_str_isalnum PySem.F.type_str_isalnum mt_isalnum (pv 3))) (pss_one (ps_set (i := 2) sc_tokens_L.nd (by rfl) (by walk_at "o") (pe_op (opA_add K) (pv 2) (pv 3)))) (pss_cons (ps_set (i := 1) sc_tokens_L.nd (by rfl) (by walk_at "o") (pe_op (opA_add K) (pv 1) (pe_comp 1 [] ["_law_one"] ⟨by rfl, by rfl, by rfl, by rfl, by rfl, by rfl, by rfl⟩ (by rfl) (pi_any K (pe_lst (pa_cons (pv 2) (pa_cons (pv 3) pa_nil)))) (fun _ _ _ _ => pg_name (i := 0) (show List.Nodup (["_law_one"] : List Str) by decide +kernel) (by rfl) (Or.inl (by rfl)) (Or.inr (by rfl))) (gName_keep (by decide)) (fun _ _ _ _ => pif_one (PW.pt (pw_and (pt_cmpR (opC_ne K hu) (pv 0) pe_str (nomark _)) (pw_and1 (pt_cmpR (opC_ne K hu) (pv 0) pe_str (nomark _)))))) (fun _ _ _ _ => (pv 0)))))
    (pss_one (ps_set (i := 2) sc_tokens_L.nd (by rfl) (by walk_at "o") pe_str))))))
    (pss_one (ps_ret (pe_op (opA_add K) (pv 1) (pe_comp 1 [] ["_law_one"] ⟨by rfl, by rfl, by rfl, by rfl, by rfl, by rfl, by rfl⟩ (by rfl) (pi_any K (pe_lst (pa_cons (pv 2) pa_nil))) (fun _ _ _ _ => pg_name (i := 0) (show List.Nodup (["_law_one"] : List Str) by decide +kernel) (by rfl) (Or.inl (by rfl)) (Or.inr (by rfl))) (gName_keep (by decide)) (fun _ _ _ _ => pif_one (pt_cmpR (opC_ne K hu) (pv 0) pe_str (nomark _))) (fun _ _ _ _ => (pv 0))))))))), ?_⟩
  walk_at "S"
  walk_at ""
  refine ⟨by decide, fun p0 hp0 => ?_⟩
  have drop_at : ∀ {i c : Nat}, x.cps.toList[i]? = some c → x.cps.toList.drop i = c :: x.cps.toList.drop (i + 1) := fun {i c} h => by
    have hi := (List.getElem?_eq_some_iff.mp h)
    rw [List.drop_eq_getElem_cons hi.1, hi.2]
  refine forW_str (Pv := fun i σ' H' => Same H H' ∧ ∃ q run fs sg, σ' = [some (.str x), some (.ref q), some (.str run), sg] ∧ H q = none ∧ H' q = some (.lst (fs.map V.str)) ∧ fs.map (fun r : Str => r.cps.toList) ++ wG run.cps.toList (x.cps.toList.drop i) = wG [] x.cps.toList ∧ run.length ≤ i ∧ fs.length ≤ 2 * i ∧ i ≤ x.cps.toList.length ∧ ∀ c ∈ run.cps.toList, L2.Run c)
    ⟨same_new hp0 _, p0, "", [], none, rfl, hp0, upd_same, rfl, Nat.le_refl _, Nat.zero_le _, Nat.zero_le _, fun c hc => (List.not_mem_nil (show c ∈ [] from hc)).elim⟩ (fun i c σ' H' hc hP => ?_) fun σ' H' hP => ?_
  · obtain ⟨hS, q, run, fs, sg, rfl, hq, hq', hw, hrl, hfl, hil, hrun⟩ := hP
    have hil2 : i < x.cps.toList.length := (List.getElem?_eq_some_iff.mp hc).1
    have hxl : x.cps.toList.length ≤ 4000000 := by rw [← len_list]; exact hl
    have hcc := hx c (List.mem_of_getElem? hc)
    have ha := alnum_tab c hcc.1 hcc.2
    walk_at ""
    rw [drop_at hc] at hw
    have sl1 : (⟨#[c]⟩ : Str).length = 1 := rfl
    refine ⟨trivial, ite2 (fun ca => ?_) fun ca => ?_⟩
    · rw [ha] at ca
      have hr' : L2.Run c := by
        simp at ca
        exact ⟨ca.1, ca.2⟩
      refine ⟨by rw [sizeLine_eq]; omega, hS, q, _, fs, _, rfl, hq, hq', ?_, by rw [strLen_append, sl1]; omega, by omega, hil2, ?_⟩
      · rw [wG_run hr'.1 hr'.2] at hw
        simpa [Str.cps_append] using hw
      · intro d hd
        simp [Str.cps_append] at hd
        rcases hd with hd | rfl
        · exact hrun d (by simpa using hd)
        · exact hr'
    · have hnr : sgn c ∨ c = 32 := by
        rw [ha] at ca
        simp at ca
        by_cases h : sgn c
        · exact .inl h
        · exact .inr (ca h)
      have hr1 : run ≠ " " := by
        rintro rfl
        exact (hrun 32 (by decide)).2 rfl
      let keep : Str → Bool := fun r => !decide (r = "") && !decide (r = " ")
      refine ⟨by show 2 ≤ sizeLine; decide, fun p hp => .inl ⟨⟨_, SqL.of upd_same⟩, ?_⟩⟩
      have nqp : q ≠ p := ne_of_none hq' hp
      refine comp_list (xs := [run, (⟨#[c]⟩ : Str)].map V.str) (fun j acc Hc => Hc = upd H' p (.lst ([run, (⟨#[c]⟩ : Str)].map V.str)) ∧ acc = (([run, (⟨#[c]⟩ : Str)].take j).filter keep).map V.str) ⟨rfl, rfl⟩ (fun j acc Hc _ h => h.1 ▸ SqL.of upd_same) (fun j v acc Hc hv h => ?_) fun acc Hc h p2 hp2 => ?_
      · obtain ⟨rfl, rfl⟩ := h
        rw [List.getElem?_map] at hv
        cases hr : [run, (⟨#[c]⟩ : Str)][j]? with
        | none => rw [hr] at hv; cases hv
        | some r =>
          rw [hr] at hv
          cases hv
          have e : List.take (j + 1) [run, (⟨#[c]⟩ : Str)] = List.take j [run, (⟨#[c]⟩ : Str)] ++ [r] := by rw [List.take_succ, hr]; rfl
          refine ⟨?_, ?_⟩
          · rw [List.length_map]
            refine Nat.lt_of_le_of_lt (List.length_filter_le _ _) ?_
            rw [List.length_take, sizeLine_eq]
            exact Nat.lt_of_le_of_lt (Nat.min_le_right _ _) (by show 2 < 16777216; decide)
          · simp only [slotsC, L2.start, List.map_cons, List.map_nil, List.length_cons, List.length_nil, Nat.reduceAdd, Nat.reduceSub, List.replicate_succ, List.replicate_zero, List.cons_append, List.nil_append, List.append_nil, Nat.zero_add, Nat.sub_self]
            walk_at ""
            rw [e, List.filter_append]
            refine ite2 (fun c1 => ite2 (fun c2 => ?_) fun c2 => ?_) fun c1 => ?_
            · have : [r].filter keep = [r] := by simp [keep, c1, c2]
              rw [this, List.map_append]
              exact ⟨trivial, rfl⟩
            · have : [r].filter keep = [] := by simp [keep, c1] at c2 ⊢; exact c2
              rw [this, List.append_nil]
              exact ⟨trivial, rfl⟩
            · have : [r].filter keep = [] := by simp [keep] at c1 ⊢; intro h; exact absurd c1 h
              rw [this, List.append_nil]
              exact ⟨trivial, rfl⟩
      · obtain ⟨rfl, rfl⟩ := h
        have nqp2 : q ≠ p2 := by rintro rfl; rw [upd_ne nqp, hq'] at hp2; cases hp2
        (try walk_at "")
        have hfk : ([run, (⟨#[c]⟩ : Str)].filter keep).map (fun r : Str => r.cps.toList) = flushW run.cps.toList ++ (if c = 32 then [] else [[c]]) := by
          have k1 : keep run = !decide (run = "") := by simp [keep, hr1]
          have k2 : keep ⟨#[c]⟩ = !decide (c = 32) := by
            have a1 : ¬ (⟨#[c]⟩ : Str) = Str.ofString "" := by intro e; have := congrArg (fun s : Str => s.cps.toList) e; cases this
            have a2 : ((⟨#[c]⟩ : Str) = Str.ofString " ") ↔ c = 32 := ⟨fun e => by have := congrArg (fun s : Str => s.cps.toList) e; cases this; rfl, fun e => by subst e; rfl⟩
            simp [keep, a1, a2]
          have k3 : (run = Str.ofString "") ↔ run.cps.toList = [] := ⟨fun e => by subst e; rfl, fun e => str_ext e⟩
          rw [List.filter_cons, List.filter_cons, List.filter_nil, k1, k2]
          unfold flushW
          by_cases h1 : run.cps.toList = [] <;> by_cases h2 : c = 32 <;> simp [h1, h2, k3]
        refine ⟨_, _, .inl ⟨by rw [upd_ne nqp2, upd_ne nqp]; exact hq', upd_same, ?_, fun r2 hr2 => ?_⟩⟩
        · rw [List.length_map, List.length_map, sizeLine_eq]
          have := List.length_filter_le keep (List.take ([run, (⟨#[c]⟩ : Str)].map V.str).length [run, (⟨#[c]⟩ : Str)])
          have e2 : (List.take ([run, (⟨#[c]⟩ : Str)].map V.str).length [run, (⟨#[c]⟩ : Str)]).length = 2 := rfl
          omega
        · have hS3 := hS.trans ((same_new hp (.lst ([run, (⟨#[c]⟩ : Str)].map V.str))).trans (same_new hp2 (.lst ((List.filter keep (List.take ([run, (⟨#[c]⟩ : Str)].map V.str).length [run, (⟨#[c]⟩ : Str)])).map V.str))))
          refine ⟨hS3.trans (same_new hr2 _), r2, "", fs ++ [run, (⟨#[c]⟩ : Str)].filter keep, _, rfl, hS3.free hr2, by rw [upd_same, List.map_append]; rfl, ?_, Nat.zero_le _, ?_, hil2, fun c hc => (List.not_mem_nil (show c ∈ [] from hc)).elim⟩
          · rw [List.map_append, hfk, List.append_assoc]
            rw [← hw]
            congr 1
            rcases hnr with h | h
            · rw [wG_sign h, if_neg (by rcases h with rfl | rfl | rfl <;> decide)]
              simp
              rfl
            · subst h
              rw [wG_blank, if_pos rfl]
              simp
              rfl
          · rw [List.length_append]
            have := List.length_filter_le keep [run, (⟨#[c]⟩ : Str)]
            have e2 : [run, (⟨#[c]⟩ : Str)].length = 2 := rfl
            omega
  · obtain ⟨hS, q, run, fs, sg, rfl, hq, hq', hw, hrl, hfl, hil, hrun⟩ := hP
    have hxl : x.cps.toList.length ≤ 4000000 := by rw [← len_list]; exact hl
    rw [List.drop_length, wG_nil] at hw
    walk_at ""
    let keep : Str → Bool := fun r => !decide (r = "")
    refine ⟨by show 1 ≤ sizeLine; decide, fun p hp => .inl ⟨⟨_, SqL.of upd_same⟩, ?_⟩⟩
    have nqp : q ≠ p := ne_of_none hq' hp
    refine comp_list (xs := [run].map V.str) (fun j acc Hc => Hc = upd H' p (.lst ([run].map V.str)) ∧ acc = (([run].take j).filter keep).map V.str) ⟨rfl, rfl⟩ (fun j acc Hc _ h => h.1 ▸ SqL.of upd_same) (fun j v acc Hc hv h => ?_) fun acc Hc h p2 hp2 => ?_
    · obtain ⟨rfl, rfl⟩ := h
      rw [List.getElem?_map] at hv
      cases hr : [run][j]? with
      | none => rw [hr] at hv; cases hv
      | some r =>
        rw [hr] at hv
        cases hv
        have e : List.take (j + 1) [run] = List.take j [run] ++ [r] := by rw [List.take_succ, hr]; rfl
        refine ⟨?_, ?_⟩
        · rw [List.length_map]
          refine Nat.lt_of_le_of_lt (List.length_filter_le _ _) ?_
          rw [List.length_take, sizeLine_eq]
          exact Nat.lt_of_le_of_lt (Nat.min_le_right _ _) (by show 1 < 16777216; decide)
        · simp only [slotsC, L2.start, List.map_cons, List.map_nil, List.length_cons, List.length_nil, Nat.reduceAdd, Nat.reduceSub, List.replicate_succ, List.replicate_zero, List.cons_append, List.nil_append, List.append_nil, Nat.zero_add, Nat.sub_self]
          walk_at ""
          rw [e, List.filter_append]
          refine ite2 (fun c1 => ?_) fun c1 => ?_
          · have : [r].filter keep = [r] := by simp [keep, c1]
            rw [this, List.map_append]
            exact ⟨trivial, rfl⟩
          · have : [r].filter keep = [] := by simp [keep] at c1 ⊢; exact c1
            rw [this, List.append_nil]
            exact ⟨trivial, rfl⟩
    · obtain ⟨rfl, rfl⟩ := h
      have nqp2 : q ≠ p2 := by rintro rfl; rw [upd_ne nqp, hq'] at hp2; cases hp2
      (try walk_at "")
      have hfk : ([run].filter keep).map (fun r : Str => r.cps.toList) = flushW run.cps.toList := by
        have k3 : (run = Str.ofString "") ↔ run.cps.toList = [] := ⟨fun e => by subst e; rfl, fun e => str_ext e⟩
        unfold flushW
        by_cases h1 : run.cps.toList = [] <;> simp [keep, h1, k3]
      refine ⟨_, _, .inl ⟨by rw [upd_ne nqp2, upd_ne nqp]; exact hq', upd_same, ?_, fun r2 hr2 => ?_⟩⟩
      · rw [List.length_map, List.length_map, sizeLine_eq]
        have := List.length_filter_le keep (List.take ([run].map V.str).length [run])
        have e2 : (List.take ([run].map V.str).length [run]).length = 1 := rfl
        omega
      · have hS3 := hS.trans ((same_new hp (.lst ([run].map V.str))).trans (same_new hp2 (.lst ((List.filter keep (List.take ([run].map V.str).length [run])).map V.str))))
        refine k r2 _ (fs ++ [run].filter keep) (hS3.trans (same_new hr2 _)) (hS3.free hr2) (by rw [upd_same, List.map_append]; rfl) ?_
        rw [List.map_append, hfk]
        exact hw
end
section
variable {P : Program} {w : World} {K : PySem.W.Frag} {mg : Str → Option Value} {base0 : Heap} {D : Defs}
theorem ok_cell_at_L (T : Tx K mg D) : FnOk P w K mg base0 CX0 1 D.a_cell_at_L D.d_cell_at_L ["_law_script", "_law_k"] (spCell K) := by
  refine T.F_cell_at_L.ok sc_cell_at_L (fun vs H Q E h => ?_) (fun cdv A outer s H vs Q E hr h => ?_)
  · obtain ⟨a, ns, n, rfl, _⟩ := h; rfl
  obtain ⟨a, ns, n, rfl, hS, h0, k⟩ := h
  have hu := hr.units
  refine ⟨_, (pss_cons (ps_if (pt_cmpR opA_lt (pv 1) (pe_callB (callA_len K) (by rfl) T.z_len PySem.boot_len (pa_cons (pv 0) pa_nil)) (nomark _)) (pss_one (ps_ret (pe_ix (ixA K) (pv 0) (pv 1) (fun _ _ => rfl)))) pss_nil)
    (pss_one (ps_ret pe_int))), ?_⟩
  walk_at "S"
  walk_at ""
  refine ⟨_, .inl hS, ?_⟩
  unfold cellI at k
  rw [List.length_map]
  refine ite2 (fun c => ?_) fun c => ?_
  · rw [if_pos c] at k
    exact ⟨_, .inl hS, _, atI_ints h0 c, k⟩
  · rw [if_neg c] at k; exact k
theorem ok_mixed_L (T : Tx K mg D) : FnOk P w K mg base0 CX0 1 D.a_mixed_L D.d_mixed_L ["_law_script", "_law_k"] (spMixed K) := by
  refine T.F_mixed_L.ok sc_mixed_L (fun vs H Q E h => ?_) (fun cdv A outer s H vs Q E hr h => ?_)
  · obtain ⟨a, ns, n, rfl, _⟩ := h; rfl
  obtain ⟨a, ns, n, rfl, hS, h0, h1, k⟩ := h
  have hu := hr.units
  refine ⟨_, (pss_cons (ps_set (i := 2) sc_mixed_L.nd (by rfl) (by walk_at "o") pe_int)
    (pss_cons (ps_if (pt_cmpR op_gt (pe_callB (callA_len K) (by rfl) T.z_len PySem.boot_len (pa_cons (pv 0) pa_nil)) pe_int (nomark _)) (pss_one (ps_set (i := 2) sc_mixed_L.nd (by rfl) (by walk_at "o") (pe_ix (ixA K) (pv 0) (pe_op op_modP (pv 1) (pe_callB (callA_len K) (by rfl) T.z_len PySem.boot_len (pa_cons (pv 0) pa_nil))) (fun _ _ => rfl)))) pss_nil)
    (pss_cons (ps_set (i := 3) sc_mixed_L.nd (by rfl) (by walk_at "o") (pe_op op_modP (pe_op opA_mul (pe_op (opA_add K) (pv 2) (pe_op opA_mul pe_int (pv 1))) pe_int) pe_int))
    (pss_one (ps_ret (pe_op op_modP (pe_op opA_mul (pv 3) (pv 3)) pe_int)))))), ?_⟩
  walk_at "S"
  walk_at ""
  have hm : CMul 7919 n := cmulL
  have fin : ∀ c : Int, c = (if 0 < ns.length then ns.getD (n % (ns.length : Int)).toNat 0 else 0) → CMul (c + 7919 * n) 48271 ∧ (0 : Int) < 2147483647 ∧ CMul ((c + 7919 * n) * 48271 % 2147483647) ((c + 7919 * n) * 48271 % 2147483647) ∧ (0 : Int) < 2147483647 ∧
      Q (V.int ((c + 7919 * n) * 48271 % 2147483647 * ((c + 7919 * n) * 48271 % 2147483647) % 2147483647)) H := fun c e =>
    ⟨cmulR, by decide, .inl ⟨by omega, by omega⟩, by decide, by subst e; exact k⟩
  have hl : (ns.map V.int).length = ns.length := List.length_map _
  refine ⟨_, .inl hS, ite2 (fun c => ?_) fun c => ⟨hm, fin 0 (if_neg (by rw [hl] at c; omega)).symm⟩⟩
  rw [hl] at c
  refine ⟨_, .inl hS, by rw [hl]; exact c, _, .inl hS, _, atI_ints (Int.emod_nonneg _ (by rw [hl]; omega)) (by rw [hl]; exact Int.emod_lt_of_pos _ c), hm, ?_⟩
  walk_at ""
  exact fin _ (by rw [if_pos (by omega), hl])
theorem ok_sign_by_L (T : Tx K mg D) : FnOk P w K mg base0 CX0 1 D.a_sign_by_L D.d_sign_by_L ["_law_number", "_law_signs"] spSignBy := by
  refine T.F_sign_by_L.ok sc_sign_by_L (fun vs H Q E h => ?_) (fun cdv A outer s H vs Q E hr h => ?_)
  · obtain ⟨n, f, rfl, _⟩ := h; rfl
  obtain ⟨n, f, rfl, h0, h1, k⟩ := h
  have hu := hr.units
  refine ⟨_, (pss_one (ps_ret (pe_ix (ixA K) (pv 1) (pe_op op_modP (pv 0) (pe_callB (callA_len K) (by rfl) T.z_len PySem.boot_len (pa_cons (pv 1) pa_nil))) (fun _ _ => rfl)))), ?_⟩
  walk_at "S"
  walk_at ""
  exact ⟨sz1000 (by omega), by omega, sz1000 (by omega), pickC h0 k⟩
theorem ok_name_by_L (T : Tx K mg D) : FnOk P w K mg base0 CX0 2 D.a_name_by_L D.d_name_by_L ["_law_number", "_law_firsts", "_law_turn"] spNameBy := by
  have G_sign_by_L := ok_sign_by_L (P := P) (w := w) (base0 := base0) T
  refine T.F_name_by_L.ok sc_name_by_L (fun vs H Q E h => ?_) (fun cdv A outer s H vs Q E hr h => ?_)
  · obtain ⟨n, f, t, rfl, _⟩ := h; rfl
  obtain ⟨n, f, t, rfl, hf, k⟩ := h
  have hu := hr.units
  have hr_sign_by_L : Room 1 _ := hr.mono (by decide)
  refine ⟨_, (pss_cons (ps_set (i := 3) sc_name_by_L.nd (by rfl) (by walk_at "o") pe_str)
    (pss_cons (ps_set (i := 4) sc_name_by_L.nd (by rfl) (by walk_at "o") (pe_op (opA_add K) pe_int (pe_op op_modP (pv 0) pe_int)))
    (pss_cons (ps_set (i := 5) sc_name_by_L.nd (by rfl) (by walk_at "o") (pe_op op_modP (pe_op op_fdivP (pv 0) pe_int) (pv 4)))
    (pss_cons (ps_setComp (i := 6) 1 [0, 3] ["_law_k", "_law_number", "_law_some"] sc_name_by_L.nd (by rfl) (by rfl) ⟨by rfl, by rfl, by rfl, by rfl, by rfl, by rfl, by rfl⟩ (by rfl) (pi_range1 (by rfl) T.z_range (pa_cons (pv 4) pa_nil)) (fun _ _ _ _ => pg_name (i := 0) (show List.Nodup (["_law_k", "_law_number", "_law_some"] : List Str) by decide +kernel) (by rfl) (Or.inl (by rfl)) (Or.inr (by rfl))) (gName_keep (by decide)) (fun _ _ _ _ => pif_nil) (fun _ _ _ _ => (pe_call G_sign_by_L hr_sign_by_L (by rfl) T.m_sign_by_L T.F_sign_by_L.kp T.b_sign_by_L .nil pass0 (pa_cons (pe_op (opA_add K) (pe_op op_fdivP (pv 1) pe_int) (pe_op opA_mul pe_int (pv 0))) (pa_cons (pv 2) pa_nil)))))
    (pss_cons (ps_asg (pe_call G_sign_by_L hr_sign_by_L (by rfl) T.m_sign_by_L T.F_sign_by_L.kp T.b_sign_by_L .nil pass0 (pa_cons (pe_op op_fdivP (pv 0) pe_int) (pa_cons (pv 1) pa_nil))) (pg_sub (pv 6) pe_int set_list))
    (pss_cons (ps_if (pt_cmpR (opB_eq K hu) (pv 5) pe_int (nomark _)) (pss_one (ps_asg (pe_call G_sign_by_L hr_sign_by_L (by rfl) T.m_sign_by_L T.F_sign_by_L.kp T.b_sign_by_L .nil pass0 (pa_cons (pe_op (opA_add K) (pe_op op_fdivP (pv 0) pe_int) (pv 2)) (pa_cons (pv 1) pa_nil))) (pg_sub (pv 6) pe_int set_list))) (pss_one (ps_asg (pe_call G_sign_by_L hr_sign_by_L (by rfl) T.m_sign_by_L T.F_sign_by_L.kp T.b_sign_by_L .nil pass0 (pa_cons (pe_op (opA_add K) (pe_op (opA_add K) (pe_op op_fdivP (pv 0) pe_int) (pe_op opA_mul pe_int (pv 5))) (pv 2)) (pa_cons (pv 3) pa_nil))) (pg_sub (pv 6) (pv 5) set_list))))
    (pss_cons (ps_set (i := 7) sc_name_by_L.nd (by rfl) (by walk_at "o") (pe_bmA K PySem.F.plainAttrs_str PySem.F.slot_str_join PySem.F.type_str_join (mtB_join K) pe_str (pa_cons (pv 6) pa_nil)))
    (pss_cons (ps_set (i := 8) sc_name_by_L.nd (by rfl) (by walk_at "o") (pe_lst (pa_cons pe_str (pa_cons pe_str (pa_cons pe_str (pa_cons pe_str (pa_cons pe_str (pa_cons pe_str (pa_cons pe_str pa_nil)))))))))
    (pss_cons (ps_if (PW.pt (pw_and (pt_cmpR (opB_eq K hu) (pe_ix (ixA K) (pv 1) pe_int (fun _ _ => rfl)) pe_str (nomark _)) (pw_and1 (pt_cmpR (opB_eq K hu) (pe_op op_modP (pe_op op_fdivP (pv 0) pe_int) pe_int) pe_int (nomark _))))) (pss_one (ps_ret (pe_slice (slA K) (pe_op (opA_add K) (pe_ix (ixA K) (pv 8) (pe_op op_modP (pe_op op_fdivP (pv 0) pe_int) pe_int) (fun _ _ => rfl)) (pv 7)) po_none (po_some pe_int)))) pss_nil)
    (pss_cons (ps_if (pt_cmpR (opA_in K) (pv 7) (pv 8) (by rfl)) (pss_one (ps_ret (pe_op (opA_add K) (pv 7) pe_str))) pss_nil)
    (pss_one (ps_ret (pv 7))))))))))))), ?_⟩
  walk_at "S"
  walk_at ""
  have hfl : 0 < f.length ∧ f.length ≤ 1000 := by rcases hf with rfl | rfl <;> decide +kernel
  have e8 : 0 ≤ n % 8 := Int.emod_nonneg _ (by decide)
  have e8' : n % 8 < 8 := Int.emod_lt_of_pos _ (by decide)
  generalize hsz : 1 + n % 8 = sz
  have hat0 : 0 ≤ n / 8 % sz := Int.emod_nonneg _ (by omega)
  have hat1 : n / 8 % sz < sz := Int.emod_lt_of_pos _ (by omega)
  generalize n / 8 % sz = pl at hat0 hat1
  refine ⟨by decide, cdiv, by omega, by omega, by omega, ?_⟩
  refine comp_range (fun i acc H2 => H2 = H ∧ ∃ cs : List Nat, acc = cs.map (fun c => V.str ⟨#[c]⟩) ∧ cs.length = i ∧ ∀ c ∈ cs, c ∈ sofS.cps.toList) ⟨rfl, [], rfl, rfl, by simp⟩ (fun i acc H2 hi hp => ?_) fun acc H2 hp p hn => ?_
  · obtain ⟨rfl, cs, rfl, rfl, hcs⟩ := hp
    refine ⟨sz1000' (by rw [List.length_map]; omega), ?_⟩
    simp only [slotsC, List.replicate_succ, List.replicate_zero, List.map_cons, List.map_nil, List.nil_append, List.cons_append, List.getElem?_cons_zero, List.getElem?_cons_succ, Option.join_some]
    walk_at ""
    refine ⟨cdiv, cmulL, _, _, rfl, by decide +kernel, by decide +kernel, fun c hc => ⟨rfl, cs ++ [c], by simp, by simp, fun d hd => ?_⟩⟩
    rcases List.mem_append.mp hd with q | q
    · exact hcs d q
    · rw [List.mem_singleton.mp q]; exact hc
  obtain ⟨rfl, cs, rfl, hl, hcs⟩ := hp
  have hl1 : 1 ≤ cs.length := by omega
  have hl8 : cs.length ≤ 8 := by omega
  refine ⟨cdiv, _, _, rfl, hfl.1, hfl.2, fun c0 hc0 => ?_⟩
  walk_at ""
  refine ⟨_, 0, upd_same, ixN_in (by decide) (by rw [List.length_map]; omega), ?_⟩
  refine ite2 (fun hpl => ⟨cdiv, _, _, rfl, hfl.1, hfl.2, fun c1 hc1 => ?_⟩) fun hpl => ⟨cdiv, cmulL, _, _, rfl, by decide +kernel, by decide +kernel, fun c1 hc1 => ?_⟩
  all_goals (walk_at "")
  · refine ⟨_, 0, upd_same, ixN_in (by decide) (by rw [List.length_set, List.length_map]; omega), trivial, ?_⟩
    have g := good_0 (f := f) (c0 := c0) hl1 hl8 hcs hc1
    have em : ((cs.map fun c => V.str ⟨#[c]⟩).set 0 (V.str ⟨#[c0]⟩)).set 0 (V.str ⟨#[c1]⟩) = ((cs.set 0 c0).set 0 c1).map fun c => V.str ⟨#[c]⟩ := by simp only [List.map_set]
    have hlen : ((cs.set 0 c0).set 0 c1).length ≤ 8 := by simpa using hl8
    generalize (cs.set 0 c0).set 0 c1 = cs' at g em hlen
    simp only [upd_upd, em]
    have s5 : Same H2 (upd H2 p (HO.lst (cs'.map fun c => V.str ⟨#[c]⟩))) := same_new hn _
    generalize hH5 : upd H2 p (HO.lst (cs'.map fun c => V.str ⟨#[c]⟩)) = H5 at s5
    clear em
    refine ⟨cs'.map fun c => ⟨#[c]⟩, .inl (SqL.of (by rw [← hH5, upd_same, List.map_map]; rfl)), by rw [signs_len]; show cs'.length + _ * 0 ≤ _; omega, (by show 7 ≤ sizeLine; decide), fun p1 hp1 => ?_⟩
    have ex := join_signs cs'
    generalize Txt.join "" (cs'.map fun c => (⟨#[c]⟩ : Str)) = x at ex
    have hx8 : x.length ≤ 8 := by rw [← len_cps, ex]; exact hlen
    have s6 := s5.trans (same_new hp1 (.lst (keptW.map V.str)))
    have tl : ∃ xs, (SqL K (upd H5 p1 (.lst (keptW.map V.str))) p1 xs ∨ SqT K (upd H5 p1 (.lst (keptW.map V.str))) p1 xs) ∧ flatV (V.str x) = true ∧ xs.all flatV = true ∧
        if inV (V.str x) xs = true then x.length + (Str.ofString "0").length ≤ sizeLine ∧ Q (V.str (x ++ "0")) (upd H5 p1 (.lst (keptW.map V.str))) else Q (V.str x) (upd H5 p1 (.lst (keptW.map V.str))) := by
      refine ⟨_, .inl (SqL.of upd_same), rfl, flat_strs _, ?_⟩
      rw [inV_strs]
      refine ite2 (fun c => ?_) fun c => ?_
      · exact ⟨sz1000 (by have : (Str.ofString "0").length = 1 := rfl; omega), k _ _ s6 (nm_nought g ex (of_decide_eq_true c) rfl)⟩
      · exact k _ _ s6 (nm_plain g ex fun q => c (decide_eq_true q))
    refine ⟨sz1000 (by omega), ?_⟩
    rcases hf with rfl | rfl
    · refine ⟨97, by decide +kernel, ?_⟩
      rw [if_pos (by decide +kernel)]
      refine ⟨cdiv, by decide, ite2 (fun _ => ⟨cdiv, by decide, _, .inl (SqL.of upd_same), ?_⟩) fun _ => tl⟩
      obtain ⟨z, hz, ez⟩ := pickS (ts := keptW) (i := n / 4096 % 7) (Int.emod_nonneg _ (by decide)) (Int.emod_lt_of_pos _ (by decide))
      have hz5 := (kept_small z hz).2.1
      have hzx := Str.length_append z x
      refine ⟨_, ez, ?_⟩
      walk_at ""
      exact ⟨sz1000 (by omega), sz1000 (by omega), k _ _ s6 (nm_begun g ex hz rfl)⟩
    · refine ⟨65, by decide +kernel, ?_⟩
      rw [if_neg (by decide +kernel)]
      exact tl
  · refine ⟨_, pl.toNat, upd_same, ixN_in hat0 (by rw [List.length_set, List.length_map]; omega), trivial, ?_⟩
    have g := good_n (f := f) (c0 := c0) (j := pl.toNat) (by omega) hl1 hl8 hcs hc0 hc1
    have em : ((cs.map fun c => V.str ⟨#[c]⟩).set 0 (V.str ⟨#[c0]⟩)).set pl.toNat (V.str ⟨#[c1]⟩) = ((cs.set 0 c0).set pl.toNat c1).map fun c => V.str ⟨#[c]⟩ := by simp only [List.map_set]
    have hlen : ((cs.set 0 c0).set pl.toNat c1).length ≤ 8 := by simpa using hl8
    generalize (cs.set 0 c0).set pl.toNat c1 = cs' at g em hlen
    simp only [upd_upd, em]
    have s5 : Same H2 (upd H2 p (HO.lst (cs'.map fun c => V.str ⟨#[c]⟩))) := same_new hn _
    generalize hH5 : upd H2 p (HO.lst (cs'.map fun c => V.str ⟨#[c]⟩)) = H5 at s5
    clear em
    refine ⟨cs'.map fun c => ⟨#[c]⟩, .inl (SqL.of (by rw [← hH5, upd_same, List.map_map]; rfl)), by rw [signs_len]; show cs'.length + _ * 0 ≤ _; omega, (by show 7 ≤ sizeLine; decide), fun p1 hp1 => ?_⟩
    have ex := join_signs cs'
    generalize Txt.join "" (cs'.map fun c => (⟨#[c]⟩ : Str)) = x at ex
    have hx8 : x.length ≤ 8 := by rw [← len_cps, ex]; exact hlen
    have s6 := s5.trans (same_new hp1 (.lst (keptW.map V.str)))
    have tl : ∃ xs, (SqL K (upd H5 p1 (.lst (keptW.map V.str))) p1 xs ∨ SqT K (upd H5 p1 (.lst (keptW.map V.str))) p1 xs) ∧ flatV (V.str x) = true ∧ xs.all flatV = true ∧
        if inV (V.str x) xs = true then x.length + (Str.ofString "0").length ≤ sizeLine ∧ Q (V.str (x ++ "0")) (upd H5 p1 (.lst (keptW.map V.str))) else Q (V.str x) (upd H5 p1 (.lst (keptW.map V.str))) := by
      refine ⟨_, .inl (SqL.of upd_same), rfl, flat_strs _, ?_⟩
      rw [inV_strs]
      refine ite2 (fun c => ?_) fun c => ?_
      · exact ⟨sz1000 (by have : (Str.ofString "0").length = 1 := rfl; omega), k _ _ s6 (nm_nought g ex (of_decide_eq_true c) rfl)⟩
      · exact k _ _ s6 (nm_plain g ex fun q => c (decide_eq_true q))
    refine ⟨sz1000 (by omega), ?_⟩
    rcases hf with rfl | rfl
    · refine ⟨97, by decide +kernel, ?_⟩
      rw [if_pos (by decide +kernel)]
      refine ⟨cdiv, by decide, ite2 (fun _ => ⟨cdiv, by decide, _, .inl (SqL.of upd_same), ?_⟩) fun _ => tl⟩
      obtain ⟨z, hz, ez⟩ := pickS (ts := keptW) (i := n / 4096 % 7) (Int.emod_nonneg _ (by decide)) (Int.emod_lt_of_pos _ (by decide))
      have hz5 := (kept_small z hz).2.1
      have hzx := Str.length_append z x
      refine ⟨_, ez, ?_⟩
      walk_at ""
      exact ⟨sz1000 (by omega), sz1000 (by omega), k _ _ s6 (nm_begun g ex hz rfl)⟩
    · refine ⟨65, by decide +kernel, ?_⟩
      rw [if_neg (by decide +kernel)]
      exact tl
end
section
variable {P : Program} {w : World} {K : PySem.W.Frag} {mg : Str → Option Value} {base0 : Heap} {D : Defs}
theorem ok_small_by_L (T : Tx K mg D) : FnOk P w K mg base0 CX0 3 D.a_small_by_L D.d_small_by_L ["_law_number", "_law_base"] (spSmallBy K) := by
  have G_name_by_L := ok_name_by_L (P := P) (w := w) (base0 := base0) T
  refine T.F_small_by_L.ok sc_small_by_L (fun vs H Q E h => ?_) (fun cdv A outer s H vs Q E hr h => ?_)
  · obtain ⟨n, b, rfl, _⟩ := h; rfl
  obtain ⟨n, b, rfl, k⟩ := h
  have hu := hr.units
  have hr_name_by_L : Room 2 _ := hr.mono (by decide)
  refine ⟨_, (pss_cons (ps_if (pt_cmpR (opB_eq K hu) (pe_op op_modP (pv 0) pe_int) pe_int (nomark _)) (pss_one (ps_ret (pe_tup (pa_cons pe_str pa_nil)))) pss_nil)
    (pss_cons (ps_set (i := 2) sc_small_by_L.nd (by rfl) (by walk_at "o") (pe_lst pa_nil))
    (pss_cons (ps_for PassesOwn.never (by rfl) (pi_range1 (by rfl) T.z_range (pa_cons (pe_op op_modP (pe_op op_fdivP (pv 0) pe_int) pe_int) pa_nil)) (pg_name (i := 3) sc_small_by_L.nd (by rfl) (by walk_at "o"))
      (pss_cons (ps_set (i := 4) sc_small_by_L.nd (by rfl) (by walk_at "o") (pe_op op_modP (pe_op op_fdivP (pe_op op_fdivP (pv 0) pe_int) (pe_ix (ixA K) (pe_lst (pa_cons pe_int (pa_cons pe_int (pa_cons pe_int pa_nil)))) (pv 3) (fun _ _ => rfl))) pe_int))
    (pss_one (ps_if (pt_cmpR (opB_eq K hu) (pe_op op_modP (pv 4) pe_int) pe_int (nomark _)) (pss_one (ps_expr (pe_bmA K PySem.F.plainAttrs_list PySem.F.slot_list_append PySem.F.type_list_append mtR_append (pv 2) (pa_cons (pe_call G_name_by_L hr_name_by_L (by rfl) T.m_name_by_L T.F_name_by_L.kp T.b_name_by_L .nil pass0 (pa_cons (pv 1) (pa_cons pe_str (pa_cons (pe_op op_fdivP (pv 4) pe_int) pa_nil)))) pa_nil)))) (pss_one (ps_expr (pe_bmA K PySem.F.plainAttrs_list PySem.F.slot_list_append PySem.F.type_list_append mtR_append (pv 2) (pa_cons (pe_call G_name_by_L hr_name_by_L (by rfl) T.m_name_by_L T.F_name_by_L.kp T.b_name_by_L .nil pass0 (pa_cons (pe_op op_fdivP (pv 1) (pe_ix (ixA K) (pe_lst (pa_cons pe_int (pa_cons pe_int pa_nil))) (pe_op op_modP (pv 3) pe_int) (fun _ _ => rfl))) (pa_cons pe_str (pa_cons (pe_op op_fdivP (pv 4) pe_int) pa_nil)))) pa_nil))))))))
    (pss_cons (ps_set (i := 5) sc_small_by_L.nd (by rfl) (by walk_at "o") (pe_call G_name_by_L hr_name_by_L (by rfl) T.m_name_by_L T.F_name_by_L.kp T.b_name_by_L .nil pass0 (pa_cons (pe_op op_fdivP (pv 1) pe_int) (pa_cons pe_str (pa_cons (pe_op op_modP (pe_op op_fdivP (pv 0) pe_int) pe_int) pa_nil)))))
    (pss_one (ps_ret (pe_tup (pa_cons pe_str (pa_cons (pv 5) (pa_cons (pe_callTy (callA_tuple K) (by rfl) T.z_tuple (by rfl) (pa_cons (pv 2) pa_nil)) pa_nil)))))))))), ?_⟩
  walk_at "S"
  walk_at ""
  refine ⟨by decide, ite2 (fun _ => ⟨(by show 1 ≤ sizeLine; decide), fun p hp => ?_⟩) fun _ => ⟨(by show 0 ≤ sizeLine; decide), fun p hp => ⟨cdiv, by decide, by omega, by omega, ?_⟩⟩⟩
  · exact k .fls _ _ (same_new hp _) ⟨p, rfl, SqT.of upd_same⟩ trivial rfl rfl
  have h4 : 0 ≤ n / 9 % 4 := Int.emod_nonneg _ (by decide)
  have h4' : n / 9 % 4 < 4 := Int.emod_lt_of_pos _ (by decide)
  generalize n / 9 % 4 = q at h4 h4'
  refine forW_range (fun i σ H2 => Same H H2 ∧ ∃ ts : List Str, H2 p = some (.lst (ts.map V.str)) ∧ ts.length = i ∧ (∀ t ∈ ts, Nm smallS t ∨ Nm greatS t) ∧ ∃ o3 o4, σ = [some (V.int n), some (V.int b), some (V.ref p), o3, o4, none]) ⟨same_new hp _, [], upd_same, rfl, by simp, none, none, rfl⟩ (fun i σ H2 hi hv => ?_) fun σ H2 hv => ?_
  · obtain ⟨s2, ts, ep, rfl, ht, o3, o4, rfl⟩ := hv
    walk_at ""
    refine ⟨cdiv, (by show 3 ≤ sizeLine; decide), fun p1 hp1 => ⟨_, .inl (SqL.of upd_same), ?_⟩⟩
    obtain ⟨z, hz, ez⟩ := pickI (ts := [1, 8, 64]) (i := 0 + (ts.length : Int)) (by omega) (by show _ < (3 : Int); omega)
    have hz' : 0 < z ∧ z < 1073741824 := by simp only [List.mem_cons, List.not_mem_nil, or_false] at hz; rcases hz with rfl | rfl | rfl <;> decide
    have add : ∀ (x : Str) (H3 : Hp), Nm smallS x ∨ Nm greatS x → Same (upd H2 p1 (.lst [V.int 1, V.int 8, V.int 64])) H3 → ∃ xs, H3 p = some (.lst xs) ∧ xs.length < sizeLine ∧ xs = ts.map V.str ∧ Same H (upd H3 p (.lst (xs ++ [V.str x]))) ∧
        ∃ ts' : List Str, upd H3 p (.lst (xs ++ [V.str x])) p = some (.lst (ts'.map V.str)) ∧ ts'.length = ts.length + 1 ∧ ∀ t ∈ ts', Nm smallS t ∨ Nm greatS t := fun x H3 nx s3 => by
      refine ⟨_, s3 _ _ (keep1 hp1 ep), sz1000' (by rw [List.length_map]; omega), rfl, Same.upd (s2.trans ((same_new hp1 _).trans s3)) hp, ts ++ [x], by rw [upd_same, List.map_append]; rfl, by simp, fun t h => ?_⟩
      rcases List.mem_append.mp h with h | h
      · exact ht t h
      · rw [List.mem_singleton.mp h]; exact nx
    refine ⟨_, ez, ?_⟩
    walk_at ""
    refine ⟨hz', by decide, by decide, ite2 (fun _ => ⟨⟨_, SqL.of (keep1 hp1 ep)⟩, cdiv, _, _, _, rfl, .inr rfl, fun x H3 s3 nx => ?_⟩) fun _ => ⟨⟨_, SqL.of (keep1 hp1 ep)⟩, (by show 2 ≤ sizeLine; decide), fun p2 hp2 => ⟨by decide, _, .inl (SqL.of upd_same), ?_⟩⟩⟩
    · obtain ⟨xs, a1, a2, rfl, a4, a5⟩ := add x H3 (.inr nx) s3
      (try walk_at "")
      obtain ⟨ts', b1, b2, b3⟩ := a5
      exact ⟨_, a1, a2, a4, ts', b1, b2, b3, _, _, rfl⟩
    · obtain ⟨y, hy, ey⟩ := pickI (ts := [3, 7]) (i := (0 + (ts.length : Int)) % 2) (Int.emod_nonneg _ (by decide)) (Int.emod_lt_of_pos _ (by decide))
      have hy' : 0 < y ∧ y < 1073741824 := by simp only [List.mem_cons, List.not_mem_nil, or_false] at hy; rcases hy with rfl | rfl <;> decide
      refine ⟨_, ey, ?_⟩
      walk_at ""
      refine ⟨hy', cdiv, _, _, _, rfl, .inl rfl, fun x H3 s3 nx => ?_⟩
      obtain ⟨xs, a1, a2, rfl, a4, a5⟩ := add x H3 (.inl nx) ((same_new hp2 _).trans s3)
      (try walk_at "")
      obtain ⟨ts', b1, b2, b3⟩ := a5
      exact ⟨_, a1, a2, a4, ts', b1, b2, b3, _, _, rfl⟩
  · obtain ⟨s2, ts, ep, hl, ht, o3, o4, rfl⟩ := hv
    walk_at ""
    refine ⟨cdiv, cdiv, by decide, _, _, _, rfl, .inl rfl, fun x H3 s3 nx => ?_⟩
    walk_at ""
    refine ⟨_, .inl ⟨SqL.of (s3 _ _ ep), fun l hl' => ⟨(by show 3 ≤ sizeLine; decide), fun p2 hp2 => ?_⟩⟩⟩
    exact k (.is x ts) _ _ (s2.trans (s3.trans ((same_new hl' _).trans (same_new hp2 _)))) ⟨p2, l, rfl, SqT.of upd_same, SqT.of (keep1 hp2 upd_same)⟩ ⟨nx, by omega, ht⟩ rfl rfl
theorem ok_wrapped_L (T : Tx K mg D) : FnOk P w K mg base0 CX0 3 D.a_wrapped_L D.d_wrapped_L ["_law_ka", "_law_number", "_law_other", "_law_base"] (spWrapped K) := by
  have G_name_by_L := ok_name_by_L (P := P) (w := w) (base0 := base0) T
  refine T.F_wrapped_L.ok sc_wrapped_L (fun vs H Q E h => ?_) (fun cdv A outer s H vs Q E hr h => ?_)
  · obtain ⟨v, n, u, b, A, B, rfl, _⟩ := h; rfl
  obtain ⟨v, n, u, b, SA, SB, rfl, rA, rB, oA, oB, k⟩ := h
  have hu := hr.units
  have hr_name_by_L : Room 2 _ := hr.mono (by decide)
  refine ⟨_, (pss_cons (ps_set (i := 4) sc_wrapped_L.nd (by rfl) (by walk_at "o") (pe_op op_modP (pv 1) pe_int))
    (pss_cons (ps_if (pt_cmpR opA_lt (pv 4) pe_int (nomark _)) (pss_one (ps_ret (pe_tup (pa_cons pe_str (pa_cons (pv 0) pa_nil))))) pss_nil)
    (pss_cons (ps_if (pt_cmpR opA_lt (pv 4) pe_int (nomark _)) (pss_cons (ps_set (i := 5) sc_wrapped_L.nd (by rfl) (by walk_at "o") (pe_ix (ixA K) (pe_lst (pa_cons pe_str (pa_cons pe_str (pa_cons pe_str pa_nil)))) (pe_op op_sub (pv 4) pe_int) (fun _ _ => rfl)))
    (pss_cons (ps_if (pt_cmpR (opB_eq K hu) (pe_op op_modP (pe_op op_fdivP (pv 1) pe_int) pe_int) pe_int (nomark _)) (pss_one (ps_ret (pe_tup (pa_cons (pv 5) (pa_cons (pv 2) (pa_cons (pv 0) pa_nil)))))) pss_nil)
    (pss_one (ps_ret (pe_tup (pa_cons (pv 5) (pa_cons (pv 0) (pa_cons (pv 2) pa_nil)))))))) pss_nil)
    (pss_cons (ps_set (i := 6) sc_wrapped_L.nd (by rfl) (by walk_at "o") (pe_call G_name_by_L hr_name_by_L (by rfl) T.m_name_by_L T.F_name_by_L.kp T.b_name_by_L .nil pass0 (pa_cons (pv 3) (pa_cons pe_str (pa_cons (pe_op op_modP (pe_op op_fdivP (pv 1) pe_int) pe_int) pa_nil)))))
    (pss_one (ps_ret (pe_tup (pa_cons (pe_ix (ixA K) (pe_lst (pa_cons pe_str (pa_cons pe_str pa_nil))) (pe_op op_modP (pv 4) pe_int) (fun _ _ => rfl)) (pa_cons (pv 6) (pa_cons (pv 0) pa_nil)))))))))), ?_⟩
  walk_at "S"
  walk_at ""
  have h8 : 0 ≤ n % 8 := Int.emod_nonneg _ (by decide)
  have h8' : n % 8 < 8 := Int.emod_lt_of_pos _ (by decide)
  refine ⟨by decide, ite2 (fun _ => ⟨(by show 2 ≤ sizeLine; decide), fun p hp => ?_⟩) fun c1 => ite2 (fun c2 => ⟨(by show 3 ≤ sizeLine; decide), fun p hp => ⟨_, .inl (SqL.of upd_same), ?_⟩⟩) fun c2 => ⟨cdiv, by decide, _, _, _, rfl, .inr rfl, fun x H1 s1 nx => ⟨(by show 2 ≤ sizeLine; decide), fun p hp => ⟨by decide, _, .inl (SqL.of upd_same), ?_⟩⟩⟩⟩
  · exact k (.neg SA) _ _ (same_new hp _) ⟨p, v, rfl, SqT.of upd_same, rA.same (same_new hp _)⟩ oA (by simp only [Stm.deep]; omega) (by simp only [Stm.size]; omega)
  · obtain ⟨z, hz, ez⟩ := pickS (ts := ["and", "or", "then"]) (i := n % 8 - 2) (by omega) (by show _ < (3 : Int); omega)
    obtain ⟨o, rfl⟩ : ∃ o : Bi, z = o.txt := by
      simp only [List.mem_cons, List.not_mem_nil, or_false] at hz
      rcases hz with rfl | rfl | rfl
      · exact ⟨.and, rfl⟩
      · exact ⟨.or, rfl⟩
      · exact ⟨.thn, rfl⟩
    refine ⟨_, ez, cdiv, by decide, ite2 (fun _ => ⟨(by show 3 ≤ sizeLine; decide), fun p1 hp1 => ?_⟩) fun _ => ⟨(by show 3 ≤ sizeLine; decide), fun p1 hp1 => ?_⟩⟩
    · have sm := (same_new hp (.lst [V.str "and", V.str "or", V.str "then"])).trans (same_new hp1 (.tup [V.str o.txt, u, v]))
      exact k (.bi o SB SA) _ _ sm ⟨p1, u, v, rfl, SqT.of upd_same, rB.same sm, rA.same sm⟩ ⟨oB, oA⟩ (by simp only [Stm.deep]; omega) (by simp only [Stm.size]; omega)
    · have sm := (same_new hp (.lst [V.str "and", V.str "or", V.str "then"])).trans (same_new hp1 (.tup [V.str o.txt, v, u]))
      exact k (.bi o SA SB) _ _ sm ⟨p1, v, u, rfl, SqT.of upd_same, rA.same sm, rB.same sm⟩ ⟨oA, oB⟩ (by simp only [Stm.deep]; omega) (by simp only [Stm.size]; omega)
  · obtain ⟨z, hz, ez⟩ := pickS (ts := ["all", "some"]) (i := n % 8 % 2) (Int.emod_nonneg _ (by decide)) (Int.emod_lt_of_pos _ (by decide))
    obtain ⟨q, rfl⟩ : ∃ q : Bool, z = qtx q := by
      simp only [List.mem_cons, List.not_mem_nil, or_false] at hz
      rcases hz with rfl | rfl
      · exact ⟨true, rfl⟩
      · exact ⟨false, rfl⟩
    refine ⟨_, ez, (by show 3 ≤ sizeLine; decide), fun p1 hp1 => ?_⟩
    have sm := s1.trans ((same_new hp (.lst [V.str "all", V.str "some"])).trans (same_new hp1 (.tup [V.str (qtx q), V.str x, v])))
    exact k (.qu q x SA) _ _ sm ⟨p1, v, rfl, SqT.of upd_same, rA.same sm⟩ ⟨nx, oA⟩ (by simp only [Stm.deep]; omega) (by simp only [Stm.size]; omega)
theorem ok_many_by_L (T : Tx K mg D) : FnOk P w K mg base0 CX0 1 D.a_many_by_L D.d_many_by_L ["_law_cell"] spManyBy := by
  refine T.F_many_by_L.ok sc_many_by_L (fun vs H Q E h => ?_) (fun cdv A outer s H vs Q E hr h => ?_)
  · obtain ⟨c, rfl, _⟩ := h; rfl
  obtain ⟨c, rfl, k⟩ := h
  have hu := hr.units
  refine ⟨_, (pss_cons (ps_if (pt_cmpR (opB_eq K hu) (pe_op op_modP (pv 0) pe_int) pe_int (nomark _)) (pss_one (ps_ret pe_int)) pss_nil)
    (pss_one (ps_ret (pe_op op_modP (pe_op op_modP (pv 0) pe_int) pe_int)))), ?_⟩
  walk_at "S"
  walk_at ""
  refine ⟨by decide, ite2 (fun _ => k _ (by decide) (by decide)) fun _ => ⟨by decide, by decide, k _ (Int.emod_nonneg _ (by decide)) (Int.le_of_lt (Int.lt_of_lt_of_le (Int.emod_lt_of_pos _ (by decide)) (by decide)))⟩⟩
end
section
variable {P : Program} {w : World} {K : PySem.W.Frag} {mg : Str → Option Value} {base0 : Heap} {D : Defs}
theorem ok_statement_by_L (T : Tx K mg D) : FnOk P w K mg base0 CX0 4 D.a_statement_by_L D.d_statement_by_L ["_law_script", "_law_at", "_law_many"] (spStmtBy K) := by
  have G_mixed_L := ok_mixed_L (P := P) (w := w) (base0 := base0) T
  have G_small_by_L := ok_small_by_L (P := P) (w := w) (base0 := base0) T
  have G_wrapped_L := ok_wrapped_L (P := P) (w := w) (base0 := base0) T
  refine T.F_statement_by_L.ok sc_statement_by_L (fun vs H Q E h => ?_) (fun cdv A outer s H vs Q E hr h => ?_)
  · obtain ⟨a, ns, n, m, rfl, _⟩ := h; rfl
  obtain ⟨a, ns, n, m, rfl, hS, h0, h1, h2, h3, k⟩ := h
  have hu := hr.units
  have hr_mixed_L : Room 1 _ := hr.mono (by decide)
  have hr_small_by_L : Room 3 _ := hr.mono (by decide)
  have hr_wrapped_L : Room 3 _ := hr.mono (by decide)
  refine ⟨_, (pss_cons (ps_set (i := 3) sc_statement_by_L.nd (by rfl) (by walk_at "o") (pe_call G_mixed_L hr_mixed_L (by rfl) T.m_mixed_L T.F_mixed_L.kp T.b_mixed_L .nil pass0 (pa_cons (pv 0) (pa_cons (pv 1) pa_nil))))
    (pss_cons (ps_set (i := 4) sc_statement_by_L.nd (by rfl) (by walk_at "o") (pe_call G_small_by_L hr_small_by_L (by rfl) T.m_small_by_L T.F_small_by_L.kp T.b_small_by_L .nil pass0 (pa_cons (pe_call G_mixed_L hr_mixed_L (by rfl) T.m_mixed_L T.F_mixed_L.kp T.b_mixed_L .nil pass0 (pa_cons (pv 0) (pa_cons (pe_op (opA_add K) (pv 1) pe_int) pa_nil))) (pa_cons (pv 3) pa_nil))))
    (pss_cons (ps_for PassesOwn.never (by rfl) (pi_range1 (by rfl) T.z_range (pa_cons (pv 2) pa_nil)) (pg_name (i := 5) sc_statement_by_L.nd (by rfl) (by walk_at "o"))
      (pss_cons (ps_set (i := 6) sc_statement_by_L.nd (by rfl) (by walk_at "o") (pe_call G_mixed_L hr_mixed_L (by rfl) T.m_mixed_L T.F_mixed_L.kp T.b_mixed_L .nil pass0 (pa_cons (pv 0) (pa_cons (pe_op (opA_add K) (pe_op (opA_add K) (pv 1) pe_int) (pe_op opA_mul pe_int (pv 5))) pa_nil))))
    (pss_cons (ps_set (i := 7) sc_statement_by_L.nd (by rfl) (by walk_at "o") (pe_call G_small_by_L hr_small_by_L (by rfl) T.m_small_by_L T.F_small_by_L.kp T.b_small_by_L .nil pass0 (pa_cons (pe_call G_mixed_L hr_mixed_L (by rfl) T.m_mixed_L T.F_mixed_L.kp T.b_mixed_L .nil pass0 (pa_cons (pv 0) (pa_cons (pe_op (opA_add K) (pe_op (opA_add K) (pv 1) pe_int) (pe_op opA_mul pe_int (pv 5))) pa_nil))) (pa_cons (pv 3) pa_nil))))
    (pss_cons (ps_for PassesOwn.never (by rfl) (pi_range1 (by rfl) T.z_range (pa_cons (pe_ix (ixA K) (pe_lst (pa_cons pe_int (pa_cons (pe_callTy callA_int (by rfl) T.z_int (by rfl) (pa_cons (pe_cmpR opA_lt (pv 2) pe_int (nomark _)) pa_nil)) (pa_cons pe_int (pa_cons (pe_op opA_mul pe_int (pe_callTy callA_int (by rfl) T.z_int (by rfl) (pa_cons (pe_cmpR opA_lt (pv 2) pe_int (nomark _)) pa_nil))) pa_nil))))) (pe_op op_modP (pe_op op_fdivP (pv 6) pe_int) pe_int) (fun _ _ => rfl)) pa_nil)) (pg_name (i := 8) sc_statement_by_L.nd (by rfl) (by walk_at "o"))
      (pss_cons (ps_set (i := 9) sc_statement_by_L.nd (by rfl) (by walk_at "o") (pe_call G_small_by_L hr_small_by_L (by rfl) T.m_small_by_L T.F_small_by_L.kp T.b_small_by_L .nil pass0 (pa_cons (pe_call G_mixed_L hr_mixed_L (by rfl) T.m_mixed_L T.F_mixed_L.kp T.b_mixed_L .nil pass0 (pa_cons (pv 0) (pa_cons (pe_op (opA_add K) (pe_op (opA_add K) (pe_op (opA_add K) (pv 1) pe_int) (pe_op opA_mul pe_int (pv 5))) (pe_op opA_mul pe_int (pv 8))) pa_nil))) (pa_cons (pv 3) pa_nil))))
    (pss_one (ps_set (i := 7) sc_statement_by_L.nd (by rfl) (by walk_at "o") (pe_call G_wrapped_L hr_wrapped_L (by rfl) T.m_wrapped_L T.F_wrapped_L.kp T.b_wrapped_L .nil pass0 (pa_cons (pv 7) (pa_cons (pe_call G_mixed_L hr_mixed_L (by rfl) T.m_mixed_L T.F_mixed_L.kp T.b_mixed_L .nil pass0 (pa_cons (pv 0) (pa_cons (pe_op (opA_add K) (pe_op (opA_add K) (pe_op (opA_add K) (pv 1) pe_int) (pe_op opA_mul pe_int (pv 5))) (pe_op opA_mul pe_int (pv 8))) pa_nil))) (pa_cons (pv 9) (pa_cons (pv 3) pa_nil)))))))))
    (pss_one (ps_set (i := 4) sc_statement_by_L.nd (by rfl) (by walk_at "o") (pe_call G_wrapped_L hr_wrapped_L (by rfl) T.m_wrapped_L T.F_wrapped_L.kp T.b_wrapped_L .nil pass0 (pa_cons (pv 4) (pa_cons (pv 6) (pa_cons (pv 7) (pa_cons (pv 3) pa_nil)))))))))))
    (pss_one (ps_ret (pv 4)))))), ?_⟩
  walk_at "S"
  walk_at ""
  refine ⟨a, ns, _, rfl, hS, h0, by omega, a, ns, _, rfl, hS, by omega, by omega, _, _, rfl, fun S0 v0 H1 s1 r1 o1 d1 z1 => ⟨by omega, by omega, ?_⟩⟩
  generalize mixedI ns n = x
  obtain ⟨d0, hd0⟩ : ∃ d0 : Nat, d0 = if m < 30 then 6 else 1 := ⟨_, rfl⟩
  have hd1 : 1 ≤ d0 := by rw [hd0]; split <;> omega
  have hdm : (m.toNat : Nat) + d0 ≤ 40 := by rw [hd0]; split <;> omega
  refine forW_range (fun i σ H2 => Same H H2 ∧ ∃ S v, RepS K H2 S v ∧ S.Ok ∧ S.deep ≤ i + d0 ∧ S.size ≤ 12 * i + 1 ∧ ∃ o5 o6 o7 o8 o9, σ = [some (V.ref a), some (V.int n), some (V.int m), some (V.int x), some v, o5, o6, o7, o8, o9])
    ⟨s1, S0, v0, r1, o1, by omega, by omega, none, none, none, none, none, rfl⟩ (fun i σ H2 hi hv => ?_) fun σ H2 hv => ?_
  · obtain ⟨s2, S, v, rS, oS, dS, zS, o5, o6, o7, o8, o9, rfl⟩ := hv
    have hi' : (i : Int) < m := by omega
    walk_at ""
    refine ⟨cmulL, a, ns, _, rfl, s2.seq hS, by omega, by omega, ?_⟩
    walk_at ""
    refine ⟨cmulL, a, ns, _, rfl, s2.seq hS, by omega, by omega, ?_⟩
    walk_at ""
    refine ⟨_, _, rfl, fun S2 v2 H3 s3 r3 o3 d3 z3 => ?_⟩
    walk_at ""
    refine ⟨cmulL, (by show 4 ≤ sizeLine; decide), fun p hp => ⟨cdiv, by decide, _, .inl (SqL.of upd_same), ?_⟩⟩
    generalize mixedI ns (n + 2 + 3 * (0 + (i : Int))) = y
    obtain ⟨z, hz, ez⟩ := pickI (ts := [0, if m < 30 then 1 else 0, 0, 5 * if m < 30 then 1 else 0]) (i := y / 64 % 4) (Int.emod_nonneg _ (by decide)) (Int.emod_lt_of_pos _ (by decide))
    have hz1 : 0 ≤ z ∧ z + 1 ≤ (d0 : Int) := by
      simp only [List.mem_cons, List.not_mem_nil, or_false] at hz
      rw [hd0]
      rcases hz with rfl | rfl | rfl | rfl <;> split <;> constructor <;> decide
    have hz5 : z ≤ 5 := by
      have : d0 ≤ 6 := by rw [hd0]; split <;> omega
      omega
    refine ⟨_, ez, ?_⟩
    walk_at ""
    refine ⟨by omega, by omega, ?_⟩
    have s3' := s2.trans (s3.trans (same_new hp (.lst [V.int 0, V.int (if m < 30 then 1 else 0), V.int 0, V.int (5 * if m < 30 then 1 else 0)])))
    have s3'' := s3.trans (same_new hp (.lst [V.int 0, V.int (if m < 30 then 1 else 0), V.int 0, V.int (5 * if m < 30 then 1 else 0)]))
    refine forW_range (fun j σ H4 => Same H H4 ∧ RepS K H4 S v ∧ ∃ S4 v4, RepS K H4 S4 v4 ∧ S4.Ok ∧ S4.deep ≤ j + 1 ∧ S4.size ≤ 2 * j + 1 ∧ ∃ o8 o9, σ = [some (V.ref a), some (V.int n), some (V.int m), some (V.int x), some v, some (V.int (0 + (i : Int))), some (V.int y), some v4, o8, o9])
      ⟨s3', rS.same s3'', S2, v2, r3.same (same_new hp _), o3, by omega, by omega, _, _, rfl⟩ (fun j σ H4 hj hv => ?_) fun σ H4 hv => ?_
    · obtain ⟨s4, rS4, S4, v4, r4, o4, d4, z4, o8, o9, rfl⟩ := hv
      walk_at ""
      refine ⟨cmulL, cmulL, a, ns, _, rfl, s4.seq hS, by omega, by omega, ?_⟩
      walk_at ""
      refine ⟨_, _, rfl, fun S5 v5 H5 s5 r5 o5 d5 z5 => ?_⟩
      walk_at ""
      refine ⟨cmulL, cmulL, a, ns, _, rfl, (s4.trans s5).seq hS, by omega, by omega, ?_⟩
      walk_at ""
      refine ⟨_, _, _, _, S4, S5, rfl, r4.same s5, r5, o4, o5, fun S6 v6 H6 s6 r6 o6 d6 z6 => ?_⟩
      walk_at ""
      exact ⟨s4.trans (s5.trans s6), rS4.same (s5.trans s6), S6, v6, r6, o6, by omega, by omega, _, _, rfl⟩
    · obtain ⟨s4, rS4, S4, v4, r4, o4, d4, z4, o8, o9, rfl⟩ := hv
      walk_at ""
      refine ⟨_, _, _, _, S, S4, rfl, rS4, r4, oS, o4, fun S6 v6 H6 s6 r6 o6 d6 z6 => ?_⟩
      walk_at ""
      exact ⟨s4.trans s6, S6, v6, r6, o6, by omega, by omega, _, _, _, _, _, rfl⟩
  · obtain ⟨s2, S, v, rS, oS, dS, zS, o5, o6, o7, o8, o9, rfl⟩ := hv
    walk_at ""
    exact k S v H2 s2 rS oS (by omega) (by omega)
end
section
variable {P : Program} {w : World} {K : PySem.W.Frag} {mg : Str → Option Value} {base0 : Heap} {D : Defs}
theorem szM {n : Nat} (h : n ≤ 10000000) : n ≤ sizeLine := Nat.le_trans h (by rw [sizeLine_eq]; decide)
theorem ok_written_L (T : Tx K mg D) : ∀ d : Nat, FnOk P w K mg base0 CX0 (d + 2) D.a_written_L D.d_written_L ["_law_ka"] (spOfC K (fun S => S.Ok ∧ S.size ≤ 90000) (fun S => .str S.txt) d)
  | 0 => by
    refine T.F_written_L.ok sc_written_L (fun vs H Q E h => ?_) (fun cdv A outer s H vs Q E hr h => ?_)
    · obtain ⟨v, S, rfl, _⟩ := h; rfl
    · obtain ⟨v, S, rfl, _, _, h, _⟩ := h
      have := S.deep_pos
      omega
  | d + 1 => by
    have G_written_L := ok_written_L T d
    refine T.F_written_L.ok sc_written_L (fun vs H Q E h => ?_) (fun cdv A outer s H vs Q E hr h => ?_)
    · obtain ⟨v, S, rfl, _⟩ := h; rfl
    obtain ⟨v, S, rfl, rS, ⟨oS, zS⟩, hd, k⟩ := h
    have hu := hr.units
    have hr_written_L : Room (d + 2) _ := hr
    refine ⟨_, (pss_cons (ps_if (PW.pt (pw_and (pt_cmpR (opB_eq K hu) (pe_ix (ixA K) (pv 0) pe_int (fun _ _ => rfl)) pe_str (nomark _)) (pw_and1 (pt_cmpR op_gt (pe_callB (callA_len K) (by rfl) T.z_len PySem.boot_len (pa_cons (pe_ix (ixA K) (pv 0) pe_int (fun _ _ => rfl)) pa_nil)) pe_int (nomark _))))) (pss_one (ps_ret (pe_op (opA_add K) (pe_op (opA_add K) (pe_op (opA_add K) (pe_ix (ixA K) (pv 0) pe_int (fun _ _ => rfl)) pe_str) (pe_bmA K PySem.F.plainAttrs_str PySem.F.slot_str_join PySem.F.type_str_join (mtB_join K) pe_str (pa_cons (pe_ix (ixA K) (pv 0) pe_int (fun _ _ => rfl)) pa_nil))) pe_str))) pss_nil)
    (pss_cons (ps_if (pt_cmpR (opB_eq K hu) (pe_ix (ixA K) (pv 0) pe_int (fun _ _ => rfl)) pe_str (nomark _)) (pss_one (ps_ret (pe_ix (ixA K) (pv 0) pe_int (fun _ _ => rfl)))) pss_nil)
    (pss_cons (ps_if (pt_cmpR (opB_eq K hu) (pe_ix (ixA K) (pv 0) pe_int (fun _ _ => rfl)) pe_str (nomark _)) (pss_one (ps_ret (pe_op (opA_add K) pe_str (pe_call G_written_L hr_written_L (by rfl) T.m_written_L T.F_written_L.kp T.b_written_L .nil pass0 (pa_cons (pe_ix (ixA K) (pv 0) pe_int (fun _ _ => rfl)) pa_nil))))) pss_nil)
    (pss_cons (ps_if (PW.pt (pw_or (pt_cmpR (opB_eq K hu) (pe_ix (ixA K) (pv 0) pe_int (fun _ _ => rfl)) pe_str (nomark _)) (pw_or1 (pt_cmpR (opB_eq K hu) (pe_ix (ixA K) (pv 0) pe_int (fun _ _ => rfl)) pe_str (nomark _))))) (pss_one (ps_ret (pe_op (opA_add K) (pe_op (opA_add K) (pe_op (opA_add K) (pe_op (opA_add K) (pe_ix (ixA K) (pv 0) pe_int (fun _ _ => rfl)) pe_str) (pe_ix (ixA K) (pv 0) pe_int (fun _ _ => rfl))) pe_str) (pe_call G_written_L hr_written_L (by rfl) T.m_written_L T.F_written_L.kp T.b_written_L .nil pass0 (pa_cons (pe_ix (ixA K) (pv 0) pe_int (fun _ _ => rfl)) pa_nil))))) pss_nil)
    (pss_cons (ps_if (pt_cmpR (opB_eq K hu) (pe_ix (ixA K) (pv 0) pe_int (fun _ _ => rfl)) pe_str (nomark _)) (pss_one (ps_ret pe_str)) pss_nil)
    (pss_one (ps_ret (pe_op (opA_add K) (pe_op (opA_add K) (pe_op (opA_add K) (pe_op (opA_add K) (pe_op (opA_add K) (pe_op (opA_add K) pe_str (pe_call G_written_L hr_written_L (by rfl) T.m_written_L T.F_written_L.kp T.b_written_L .nil pass0 (pa_cons (pe_ix (ixA K) (pv 0) pe_int (fun _ _ => rfl)) pa_nil))) pe_str) (pe_ix (ixA K) (pv 0) pe_int (fun _ _ => rfl))) pe_str) (pe_call G_written_L hr_written_L (by rfl) T.m_written_L T.F_written_L.kp T.b_written_L .nil pass0 (pa_cons (pe_ix (ixA K) (pv 0) pe_int (fun _ _ => rfl)) pa_nil))) pe_str)))))))), ?_⟩
    walk_at "S"
    have tl := Stm.txt_len oS
    cases S with
    | is x ts =>
      obtain ⟨a, b, rfl, h2, h3⟩ := rS
      have hw := oS.1.len.1
      have hs := terms_sum oS.term8
      have hj := join_len ", " ts
      have h3' := oS.2.1
      rw [l4] at hj
      have q := k H (Same.refl H)
      simp only [Stm.txt] at q
      (try walk_at "")
      refine ⟨_, .inr h2, _, atI_nat (j := 0) rfl, ?_⟩
      (try walk_at "")
      refine ⟨_, .inr h2, _, atI_nat (j := 2) rfl, ?_⟩
      (try walk_at "")
      refine ⟨_, .inr h3, ?_⟩
      rw [List.length_map]
      refine ite2 (fun c => ?_) fun c => ?_
      · rw [if_neg (by omega)] at q
        refine ⟨_, .inr h2, _, atI_nat (j := 1) rfl, ?_⟩
        (try walk_at "")
        refine ⟨szM (by rw [l1]; omega), trivial, _, .inr h2, _, atI_nat (j := 2) rfl, ?_⟩
        (try walk_at "")
        refine ⟨ts, .inr h3, by rw [l4]; omega, ?_⟩
        (try walk_at "")
        refine ⟨szM (by rw [Str.length_append, l1]; omega), szM (by rw [Str.length_append, Str.length_append, l1, l2]; omega), q⟩
      · rw [if_pos (by omega)] at q
        refine ⟨_, .inr h2, _, atI_nat (j := 0) rfl, ?_⟩
        (try walk_at "")
        exact ⟨_, .inr h2, _, atI_nat (j := 1) rfl, q⟩
    | fls =>
      obtain ⟨a, rfl, h2⟩ := rS
      (try walk_at "")
      refine ⟨_, .inr h2, _, atI_nat (j := 0) rfl, ?_⟩
      (try walk_at "")
      rw [if_neg (by decide +kernel)]
      refine ⟨_, .inr h2, _, atI_nat (j := 0) rfl, ?_⟩
      (try walk_at "")
      rw [if_neg (by decide +kernel)]
      refine ⟨_, .inr h2, _, atI_nat (j := 0) rfl, ?_⟩
      (try walk_at "")
      rw [if_neg (by decide +kernel)]
      refine ⟨_, .inr h2, _, atI_nat (j := 0) rfl, ?_⟩
      (try walk_at "")
      rw [if_neg (by decide +kernel)]
      refine ⟨_, .inr h2, _, atI_nat (j := 0) rfl, ?_⟩
      (try walk_at "")
      rw [if_neg (by decide +kernel)]
      refine ⟨_, .inr h2, _, atI_nat (j := 0) rfl, ?_⟩
      (try walk_at "")
      exact k H (Same.refl H)
    | neg B =>
      obtain ⟨a, u, rfl, h2, h3⟩ := rS
      simp only [Stm.deep, Stm.size] at hd zS
      have tB := Stm.txt_len (S := B) oS
      (try walk_at "")
      refine ⟨_, .inr h2, _, atI_nat (j := 0) rfl, ?_⟩
      (try walk_at "")
      rw [if_neg (by decide +kernel)]
      refine ⟨_, .inr h2, _, atI_nat (j := 0) rfl, ?_⟩
      (try walk_at "")
      rw [if_neg (by decide +kernel)]
      refine ⟨_, .inr h2, _, atI_nat (j := 0) rfl, ?_⟩
      (try walk_at "")
      refine ⟨_, .inr h2, _, atI_nat (j := 1) rfl, u, B, rfl, h3, ⟨oS, by omega⟩, by omega, fun H1 s1 => ?_⟩
      (try walk_at "")
      exact ⟨szM (by rw [l5]; omega), k H1 s1⟩
    | bi o B C =>
      obtain ⟨a, u, u', rfl, h2, h3, h4⟩ := rS
      simp only [Stm.deep, Stm.size] at hd zS
      have tB := Stm.txt_len (S := B) oS.1
      have tC := Stm.txt_len (S := C) oS.2
      have to := bi_len o
      (try walk_at "")
      refine ⟨_, .inr h2, _, atI_nat (j := 0) rfl, ?_⟩
      (try walk_at "")
      rw [if_neg (bi_is o)]
      refine ⟨_, .inr h2, _, atI_nat (j := 0) rfl, ?_⟩
      (try walk_at "")
      rw [if_neg (bi_is o)]
      refine ⟨_, .inr h2, _, atI_nat (j := 0) rfl, ?_⟩
      (try walk_at "")
      rw [if_neg (bi_not o)]
      refine ⟨_, .inr h2, _, atI_nat (j := 0) rfl, ?_⟩
      (try walk_at "")
      rw [if_neg (bi_all o)]
      refine ⟨_, .inr h2, _, atI_nat (j := 0) rfl, ?_⟩
      (try walk_at "")
      rw [if_neg (bi_some o)]
      refine ⟨_, .inr h2, _, atI_nat (j := 0) rfl, ?_⟩
      (try walk_at "")
      rw [if_neg (bi_false o)]
      refine ⟨_, .inr h2, _, atI_nat (j := 1) rfl, u, B, rfl, h3, ⟨oS.1, by omega⟩, by omega, fun H1 s1 => ?_⟩
      (try walk_at "")
      refine ⟨szM (by rw [l1]; omega), szM (by rw [Str.length_append, l1, l3]; omega), _, .inr (s1.seqT h2), _, atI_nat (j := 0) rfl, ?_⟩
      (try walk_at "")
      refine ⟨szM (by simp only [Str.length_append, l1, l3]; omega), szM (by simp only [Str.length_append, l1, l3]; omega), _, .inr (s1.seqT h2), _, atI_nat (j := 2) rfl, u', C, rfl, h4.same s1, ⟨oS.2, by omega⟩, by omega, fun H2 s2 => ?_⟩
      (try walk_at "")
      exact ⟨szM (by simp only [Str.length_append, l1, l3]; omega), szM (by simp only [Str.length_append, l1, l2, l3]; omega), k H2 (s1.trans s2)⟩
    | qu q X B =>
      obtain ⟨a, u, rfl, h2, h3⟩ := rS
      simp only [Stm.deep, Stm.size] at hd zS
      have tB := Stm.txt_len (S := B) oS.2
      have tX := oS.1.len.1
      have to := qu_len q
      (try walk_at "")
      refine ⟨_, .inr h2, _, atI_nat (j := 0) rfl, ?_⟩
      (try walk_at "")
      rw [if_neg (qu_is q)]
      refine ⟨_, .inr h2, _, atI_nat (j := 0) rfl, ?_⟩
      (try walk_at "")
      rw [if_neg (qu_is q)]
      refine ⟨_, .inr h2, _, atI_nat (j := 0) rfl, ?_⟩
      (try walk_at "")
      rw [if_neg (qu_not q)]
      refine ⟨_, .inr h2, _, atI_nat (j := 0) rfl, ?_⟩
      (try walk_at "")
      cases q with
      | true =>
        rw [if_pos (show qtx true = "all" from rfl)]
        refine ⟨_, .inr h2, _, atI_nat (j := 0) rfl, ?_⟩
        (try walk_at "")
        refine ⟨szM (by simp only [Str.length_append, l3]; omega), _, .inr h2, _, atI_nat (j := 1) rfl, ?_⟩
        (try walk_at "")
        refine ⟨szM (by simp only [Str.length_append, l3]; omega), szM (by simp only [Str.length_append, l3]; omega), _, .inr h2, _, atI_nat (j := 2) rfl, u, B, rfl, h3, ⟨oS.2, by omega⟩, by omega, fun H1 s1 => ?_⟩
        (try walk_at "")
        exact ⟨szM (by simp only [Str.length_append, l3]; omega), k H1 s1⟩
      | false =>
        rw [if_neg (by decide +kernel)]
        refine ⟨_, .inr h2, _, atI_nat (j := 0) rfl, ?_⟩
        (try walk_at "")
        rw [if_pos (show qtx false = "some" from rfl)]
        refine ⟨_, .inr h2, _, atI_nat (j := 0) rfl, ?_⟩
        (try walk_at "")
        refine ⟨szM (by simp only [Str.length_append, l3]; omega), _, .inr h2, _, atI_nat (j := 1) rfl, ?_⟩
        (try walk_at "")
        refine ⟨szM (by simp only [Str.length_append, l3]; omega), szM (by simp only [Str.length_append, l3]; omega), _, .inr h2, _, atI_nat (j := 2) rfl, u, B, rfl, h3, ⟨oS.2, by omega⟩, by omega, fun H1 s1 => ?_⟩
        (try walk_at "")
        exact ⟨szM (by simp only [Str.length_append, l3]; omega), k H1 s1⟩
end
section
variable {P : Program} {w : World} {K : PySem.W.Frag} {mg : Str → Option Value} {base0 : Heap} {D : Defs}
theorem ok_parts_L (T : Tx K mg D) : FnOk P w K mg base0 CX0 1 D.a_parts_L D.d_parts_L ["_law_ka"] (spPartsL K) := by
  refine T.F_parts_L.ok sc_parts_L (fun vs H Q E h => ?_) (fun cdv A outer s H vs Q E hr h => ?_)
  · obtain ⟨v, S, rfl, _⟩ := h; rfl
  obtain ⟨v, S, rfl, rS, k⟩ := h
  have hu := hr.units
  refine ⟨_, (pss_cons (ps_if (PW.pt (pw_or (pt_cmpR (opC_eq K hu) (pe_ix (ixA K) (pv 0) pe_int (fun _ _ => rfl)) pe_str (nomark _)) (pw_or1 (pt_cmpR (opC_eq K hu) (pe_ix (ixA K) (pv 0) pe_int (fun _ _ => rfl)) pe_str (nomark _))))) (pss_one (ps_ret (pe_lst pa_nil))) pss_nil)
    (pss_cons (ps_if (pt_cmpR (opC_eq K hu) (pe_ix (ixA K) (pv 0) pe_int (fun _ _ => rfl)) pe_str (nomark _)) (pss_one (ps_ret (pe_lst (pa_cons (pe_ix (ixA K) (pv 0) pe_int (fun _ _ => rfl)) pa_nil)))) pss_nil)
    (pss_cons (ps_if (PW.pt (pw_or (pt_cmpR (opC_eq K hu) (pe_ix (ixA K) (pv 0) pe_int (fun _ _ => rfl)) pe_str (nomark _)) (pw_or1 (pt_cmpR (opC_eq K hu) (pe_ix (ixA K) (pv 0) pe_int (fun _ _ => rfl)) pe_str (nomark _))))) (pss_one (ps_ret (pe_lst (pa_cons (pe_ix (ixA K) (pv 0) pe_int (fun _ _ => rfl)) pa_nil)))) pss_nil)
    (pss_one (ps_ret (pe_lst (pa_cons (pe_ix (ixA K) (pv 0) pe_int (fun _ _ => rfl)) (pa_cons (pe_ix (ixA K) (pv 0) pe_int (fun _ _ => rfl)) pa_nil)))))))), ?_⟩
  walk_at "S"
  cases S with
  | is x ts =>
    obtain ⟨a, b, rfl, h2, h3⟩ := rS
    walk_at ""
    refine ⟨_, .inr h2, _, atI_nat (j := 0) rfl, ?_⟩
    walk_at ""
    refine ⟨(by show 0 ≤ sizeLine; decide), fun p hp => k p [] _ (same_new hp _) upd_same .nil⟩
  | fls =>
    obtain ⟨a, rfl, h2⟩ := rS
    walk_at ""
    refine ⟨_, .inr h2, _, atI_nat (j := 0) rfl, ?_⟩
    walk_at ""
    rw [if_neg (by decide +kernel)]
    refine ⟨_, .inr h2, _, atI_nat (j := 0) rfl, ?_⟩
    walk_at ""
    refine ⟨(by show 0 ≤ sizeLine; decide), fun p hp => k p [] _ (same_new hp _) upd_same .nil⟩
  | neg B =>
    obtain ⟨a, u, rfl, h2, h3⟩ := rS
    walk_at ""
    refine ⟨_, .inr h2, _, atI_nat (j := 0) rfl, ?_⟩
    walk_at ""
    rw [if_neg (by decide +kernel)]
    refine ⟨_, .inr h2, _, atI_nat (j := 0) rfl, ?_⟩
    walk_at ""
    rw [if_neg (by decide +kernel)]
    refine ⟨_, .inr h2, _, atI_nat (j := 0) rfl, ?_⟩
    walk_at ""
    refine ⟨_, .inr h2, _, atI_nat (j := 1) rfl, (by show 1 ≤ sizeLine; decide), fun p hp => k p _ _ (same_new hp _) upd_same (.cons (h3.same (same_new hp _)) .nil)⟩
  | bi o B C =>
    obtain ⟨a, u, u', rfl, h2, h3, h4⟩ := rS
    walk_at ""
    refine ⟨_, .inr h2, _, atI_nat (j := 0) rfl, ?_⟩
    walk_at ""
    rw [if_neg (bi_is o)]
    refine ⟨_, .inr h2, _, atI_nat (j := 0) rfl, ?_⟩
    walk_at ""
    rw [if_neg (bi_false o)]
    refine ⟨_, .inr h2, _, atI_nat (j := 0) rfl, ?_⟩
    walk_at ""
    rw [if_neg (bi_not o)]
    refine ⟨_, .inr h2, _, atI_nat (j := 0) rfl, ?_⟩
    walk_at ""
    rw [if_neg (bi_all o)]
    refine ⟨_, .inr h2, _, atI_nat (j := 0) rfl, ?_⟩
    walk_at ""
    rw [if_neg (bi_some o)]
    refine ⟨_, .inr h2, _, atI_nat (j := 1) rfl, _, .inr h2, _, atI_nat (j := 2) rfl, (by show 2 ≤ sizeLine; decide), fun p hp => k p _ _ (same_new hp _) upd_same (.cons (h3.same (same_new hp _)) (.cons (h4.same (same_new hp _)) .nil))⟩
  | qu q X B =>
    obtain ⟨a, u, rfl, h2, h3⟩ := rS
    walk_at ""
    refine ⟨_, .inr h2, _, atI_nat (j := 0) rfl, ?_⟩
    walk_at ""
    rw [if_neg (qu_is q)]
    refine ⟨_, .inr h2, _, atI_nat (j := 0) rfl, ?_⟩
    walk_at ""
    rw [if_neg (qu_false q)]
    refine ⟨_, .inr h2, _, atI_nat (j := 0) rfl, ?_⟩
    walk_at ""
    rw [if_neg (qu_not q)]
    refine ⟨_, .inr h2, _, atI_nat (j := 0) rfl, ?_⟩
    walk_at ""
    have fin : ∃ xs, (SqL K H a xs ∨ SqT K H a xs) ∧ ∃ v, atI xs 2 = some v ∧ [v].length ≤ sizeLine ∧ ∀ p, H p = none → Q (.ref p) (upd H p (.lst [v])) :=
      ⟨_, .inr h2, _, atI_nat (j := 2) rfl, (by show 1 ≤ sizeLine; decide), fun p hp => k p _ _ (same_new hp _) upd_same (.cons (h3.same (same_new hp _)) .nil)⟩
    cases q with
    | true => rw [if_pos (show qtx true = "all" from rfl)]; exact fin
    | false =>
      rw [if_neg (by decide +kernel)]
      refine ⟨_, .inr h2, _, atI_nat (j := 0) rfl, ?_⟩
      walk_at ""
      rw [if_pos (show qtx false = "some" from rfl)]
      exact fin
def bltB (x f : Str) : Bool := base x f && !inV (.str x) keptV
theorem blt_small (x : Str) : bltB x "abcdefghijklmnopqrstuvwxyz" = wordB x := rfl
theorem blt_great (x : Str) : bltB x "ABCDEFGHIJKLMNOPQRSTUVWXYZ" = letB x := by
  unfold bltB
  cases e : letB x with
  | false => unfold letB at e; rw [e]; rfl
  | true =>
    rw [nm_kept (let_nm e)]
    unfold letB at e
    rw [e]; rfl
def spBuilt : Sp := fun vs H Q _ => ∃ x f, vs = [.str x, .str f] ∧ x.length ≤ 90000 ∧ ∀ H', Same H H' → Q (.bl (bltB x f)) H'
theorem ok_is_built (T : Tx K mg D) : FnOk P w K mg base0 CX0 1 D.a_is_built_L D.d_is_built_L ["_law_text", "_law_firsts"] spBuilt := by
  refine T.F_is_built_L.ok sc_is_built_L (fun vs H Q E h => ?_) (fun cdv A outer s H vs Q E hr h => ?_)
  · obtain ⟨x, f, rfl, _⟩ := h; rfl
  obtain ⟨x, f, rfl, hx, k⟩ := h
  have hu := hr.units
  refine ⟨_, (pss_cons (ps_if (PW.pt (pw_or (pt_not (pt_val (pe_callB (callB_inst K "str") (by rfl) T.z_isinstance (by rfl) (pa_cons (pv 0) (pa_cons (pe_bltn (v := .ty "str") (by rfl) T.z_str (by rfl) (by rfl)) pa_nil))))) (pw_or (pt_cmpR (opC_eq K hu) (pv 0) pe_str (nomark _)) (pw_or (pt_cmpR op_gt (pe_callB (callA_len K) (by rfl) T.z_len PySem.boot_len (pa_cons (pv 0) pa_nil)) pe_int (nomark _)) (pw_or1 (pt_cmpR (opC_notin K hu) (pe_ix (ixA K) (pv 0) pe_int (fun _ _ => rfl)) (pv 1) (by rfl))))))) (pss_one (ps_ret pe_bl)) pss_nil)
    (pss_cons (ps_for PassesOwn.never (by rfl) (pi_any K (pe_slice (slA K) (pv 0) (po_some pe_int) po_none)) (pg_name (i := 2) sc_is_built_L.nd (by rfl) (by walk_at "o"))
      (pss_one (ps_if (pt_cmpR (opC_notin K hu) (pv 2) pe_str (by rfl)) (pss_one (ps_ret pe_bl)) pss_nil)))
    (pss_one (ps_ret (pe_cmpR (opC_notin K hu) (pv 0) (pe_lst (pa_cons pe_str (pa_cons pe_str (pa_cons pe_str (pa_cons pe_str (pa_cons pe_str (pa_cons pe_str (pa_cons pe_str pa_nil)))))))) (by rfl)))))), ?_⟩
  walk_at "S"
  walk_at ""
  have hz : x.length ≤ sizeLine := sz1000 (by omega)
  have kf : bltB x f = false → Q (.bl false) H := fun e => by have q := k H (Same.refl H); rw [e] at q; exact q
  refine ⟨true, rfl, ?_⟩
  rw [if_neg (by decide)]
  have nb : base x f = false → bltB x f = false := fun e => by unfold bltB; rw [e]; rfl
  refine ite2 (fun c => kf (nb (by unfold base; rw [if_pos c]))) fun c => ⟨hz, ite2 (fun c2 => kf (nb (by unfold base; rw [if_neg c, if_pos c2]))) fun c2 => ⟨hz, _, head_at c, ?_⟩⟩
  refine ite2 (fun c3 => kf (nb (by unfold base; rw [if_neg c, if_neg c2, if_neg (by rw [c3]; exact Bool.false_ne_true)]))) fun c3 => ⟨hz, ?_⟩
  have c3' : inS ⟨#[x.cps.toList.headD 0]⟩ f = true := by simpa using c3
  have hb : base x f = tailOk x := by unfold base; rw [if_neg c, if_neg c2, if_pos c3']
  refine forW_str (Pv := fun i σ' H' => H' = H ∧ (∀ d ∈ (Txt.slice x (some 1) none).cps.toList.take i, inS ⟨#[d]⟩ sof = true) ∧ ∃ u, σ' = [some (.str x), some (.str f), u]) ⟨rfl, by simp, _, rfl⟩ (fun i d σ' H' hd hP => ?_) fun σ' H' hP => ?_
  · obtain ⟨rfl, hok, u, rfl⟩ := hP
    walk_at ""
    refine ite2 (fun c4 => ?_) fun c4 => ?_
    · refine kf (nb ?_)
      rw [hb]
      unfold tailOk
      rw [List.all_eq_false]
      exact ⟨d, List.mem_of_getElem? hd, by intro z; have c4' : inS ⟨#[d]⟩ sof = false := c4; rw [c4'] at z; cases z⟩
    · refine ⟨trivial, fun d' hd' => ?_, _, rfl⟩
      rw [List.take_succ, hd] at hd'
      rcases List.mem_append.mp hd' with q | q
      · exact hok d' q
      · have : d' = d := by simpa using q
        rw [this]; exact eq_true_of_ne_false c4
  · obtain ⟨rfl, hok, u, rfl⟩ := hP
    have ht : tailOk x = true := by
      unfold tailOk
      rw [List.all_eq_true]
      exact fun d hd => hok d (by rw [List.take_of_length_le (Nat.le_refl _)]; exact hd)
    have q : ∀ H2, Same H' H2 → Q (.bl (!inV (.str x) keptV)) H2 := fun H2 s2 => by
      have q := k H2 s2
      unfold bltB at q
      rw [hb, ht, Bool.true_and] at q
      exact q
    walk_at ""
    exact ⟨sz1000 (by decide), fun p hp => .inl ⟨_, _, rfl, .inl (SqL.of upd_same), rfl, by decide, q _ (same_new hp _)⟩⟩
end
section
variable {P : Program} {w : World} {K : PySem.W.Frag} {mg : Str → Option Value} {base0 : Heap} {D : Defs}
def spRight (K : PySem.W.Frag) : Sp := fun vs H Q _ => ∃ v x us, vs = [v] ∧ RepS K H (.is x us) v ∧ TokOk (.is x us) ∧ ∀ H', Same H H' → Q (.bl true) H'
theorem ok_is_right (T : Tx K mg D) : FnOk P w K mg base0 CX0 2 D.a_is_right_L D.d_is_right_L ["_law_ka"] (spRight K) := by
  have G_is_built_L := ok_is_built (P := P) (w := w) (base0 := base0) T
  refine T.F_is_right_L.ok sc_is_right_L (fun vs H Q E h => ?_) (fun cdv A outer s H vs Q E hr h => ?_)
  · obtain ⟨v, x, us, rfl, _⟩ := h; rfl
  obtain ⟨v, x, us, rfl, ⟨a, b, rfl, h2, h3⟩, ⟨okx, okn, oku⟩, k⟩ := h
  have hu := hr.units
  have hr_is_built_L : Room 1 _ := hr.mono (by decide)
  have hx8 : x.length ≤ 8 := (word_nm okx).len.1
  refine ⟨_, (pss_cons (ps_if (PW.pt (pw_or (pt_cmpR (opC_ne K hu) (pe_callB (callA_len K) (by rfl) T.z_len PySem.boot_len (pa_cons (pv 0) pa_nil)) pe_int (nomark _)) (pw_or (pt_not (pt_val (pe_callB (callB_inst K "tuple") (by rfl) T.z_isinstance (by rfl) (pa_cons (pe_ix (ixA K) (pv 0) pe_int (fun _ _ => rfl)) (pa_cons (pe_bltn (v := .ty "tuple") (by rfl) T.z_tuple (by rfl) (by rfl)) pa_nil))))) (pw_or1 (pt_cmpR op_gt (pe_callB (callA_len K) (by rfl) T.z_len PySem.boot_len (pa_cons (pe_ix (ixA K) (pv 0) pe_int (fun _ _ => rfl)) pa_nil)) pe_int (nomark _)))))) (pss_one (ps_ret pe_bl)) pss_nil)
    (pss_cons (ps_for PassesOwn.never (by rfl) (pi_any K (pe_ix (ixA K) (pv 0) pe_int (fun _ _ => rfl))) (pg_name (i := 1) sc_is_right_L.nd (by rfl) (by walk_at "o"))
      (pss_cons (ps_set (i := 2) sc_is_right_L.nd (by rfl) (by walk_at "o") (pe_call G_is_built_L hr_is_built_L (by rfl) T.m_is_built_L T.F_is_built_L.kp T.b_is_built_L .nil pass0 (pa_cons (pv 1) (pa_cons pe_str pa_nil))))
    (pss_one (ps_if (PW.pt (pw_and (pt_not (pt_val (pv 2))) (pw_and1 (pt_not (pt_val (pe_call G_is_built_L hr_is_built_L (by rfl) T.m_is_built_L T.F_is_built_L.kp T.b_is_built_L .nil pass0 (pa_cons (pv 1) (pa_cons pe_str pa_nil)))))))) (pss_one (ps_ret pe_bl)) pss_nil))))
    (pss_one (ps_ret (pe_call G_is_built_L hr_is_built_L (by rfl) T.m_is_built_L T.F_is_built_L.kp T.b_is_built_L .nil pass0 (pa_cons (pe_ix (ixA K) (pv 0) pe_int (fun _ _ => rfl)) (pa_cons pe_str pa_nil))))))), ?_⟩
  walk_at "S"
  walk_at ""
  refine ⟨_, .inr h2, ?_⟩
  rw [if_neg (fun z => z rfl)]
  refine ⟨_, .inr h2, _, atI_nat (j := 2) rfl, ?_⟩
  walk_at ""
  refine ⟨_, true, .tup h3, rfl, ?_⟩
  rw [if_neg (by decide)]
  refine ⟨_, .inr h2, _, atI_nat (j := 2) rfl, ?_⟩
  walk_at ""
  refine ⟨_, .inr h3, ?_⟩
  rw [List.length_map, if_neg (by omega)]
  refine ⟨_, .inr h2, _, atI_nat (j := 2) rfl, ?_⟩
  walk_at ""
  refine .inr ⟨⟨_, h3⟩, forW_tup (xs := us.map V.str) (fun i σ H2 => Same H H2 ∧ ∃ o1 o2, σ = [some (.ref a), o1, o2]) ⟨Same.refl _, _, _, rfl⟩ (fun i σ H2 _ hv => hv.1.seqT h3) (fun i x' σ H2 hi hv => ?_) fun σ H2 hv => ?_⟩
  · obtain ⟨s2, o1, o2, rfl⟩ := hv
    rw [List.getElem?_map] at hi
    cases e : us[i]? with
    | none => rw [e] at hi; cases hi
    | some u =>
      rw [e] at hi
      cases hi
      have hu8 := oku u (List.mem_of_getElem? e)
      have ul : u.length ≤ 90000 := by
        rcases term_nm hu8 with q | q
        · have := q.len.1; omega
        · have := q.len.1; omega
      walk_at ""
      refine ⟨u, _, rfl, ul, fun H3 s3 => ?_⟩
      walk_at ""
      refine ite2 (fun c => ?_) fun c => ⟨s2.trans s3, _, _, rfl⟩
      refine ⟨u, _, rfl, ul, fun H4 s4 => ?_⟩
      walk_at ""
      refine ite2 (fun c2 => ?_) fun c2 => ⟨s2.trans (s3.trans s4), _, _, rfl⟩
      exfalso
      have c' : letB u = false := by rw [← blt_great]; exact c
      have c2' : wordB u = false := by rw [← blt_small]; exact c2
      have hu9 : (wordB u || letB u) = true := hu8
      rw [c', c2'] at hu9
      cases hu9
  · obtain ⟨s2, o1, o2, rfl⟩ := hv
    walk_at ""
    refine ⟨_, .inr (s2.seqT h2), _, atI_nat (j := 1) rfl, x, _, rfl, by omega, fun H3 s3 => ?_⟩
    have q := k H3 (s2.trans s3)
    rw [blt_small, okx]
    exact q
def spFit (K : PySem.W.Frag) (d : Nat) : Sp := fun vs H Q _ => ∃ v S, ∃ n : Int, vs = [v, .int n] ∧ RepS K H S v ∧ TokOk S ∧ S.deep ≤ d ∧ (S.deep : Int) ≤ n ∧ n ≤ 1000 ∧ ∀ H', Same H H' → Q (.bl true) H'
def signs6 : List Str := ["false", "not", "and", "or", "then", "all", "some"]
theorem tag_in {S : Stm} (h : S.tag ≠ "is") : S.tag ∈ signs6 := by
  cases S with
  | is _ _ => exact absurd rfl h
  | fls => decide
  | neg A => show Str.ofString "not" ∈ signs6; decide
  | bi o A B => show o.txt ∈ signs6; cases o <;> decide
  | qu q X A => show qtx q ∈ signs6; cases q <;> decide
def argN : Stm → Nat
  | .is _ _ => 2 | .fls => 0 | .neg _ => 1 | .bi _ _ _ => 2 | .qu _ _ _ => 2
theorem size6 {S : Stm} (h : S.tag ≠ "is") : [V.int 1, V.int 2, V.int 3, V.int 3, V.int 3, V.int 3, V.int 3][signs6.idxOf S.tag]? = some (V.int ((argN S + 1 : Nat) : Int)) := by
  have k1 : signs6.idxOf (Str.ofString "false") = 0 ∧ signs6.idxOf (Str.ofString "not") = 1 ∧ (∀ o : Bi, 2 ≤ signs6.idxOf o.txt ∧ signs6.idxOf o.txt ≤ 6) ∧ ∀ q : Bool, 2 ≤ signs6.idxOf (qtx q) ∧ signs6.idxOf (qtx q) ≤ 6 := by
    refine ⟨by decide, by decide, fun o => by cases o <;> decide, fun q => by cases q <;> decide⟩
  have k2 : ∀ i, 2 ≤ i → i ≤ 6 → [V.int 1, V.int 2, V.int 3, V.int 3, V.int 3, V.int 3, V.int 3][i]? = some (V.int 3) := fun i h1 h2 => by
    match i, h1, h2 with
    | 2, _, _ => rfl
    | 3, _, _ => rfl
    | 4, _, _ => rfl
    | 5, _, _ => rfl
    | 6, _, _ => rfl
  cases S with
  | is _ _ => exact absurd rfl h
  | fls => show _[signs6.idxOf (Str.ofString "false")]? = _; rw [k1.1]; rfl
  | neg A => show _[signs6.idxOf (Str.ofString "not")]? = _; rw [k1.2.1]; rfl
  | bi o A B => exact k2 _ (k1.2.2.1 o).1 (k1.2.2.1 o).2
  | qu q X A => exact k2 _ (k1.2.2.2 q).1 (k1.2.2.2 q).2
theorem part_tok {S B : Stm} {i : Nat} (h : TokOk S) (hB : S.parts[i]? = some B) : TokOk B := by
  have m := List.mem_of_getElem? hB
  cases S with
  | is _ _ => cases m
  | fls => cases m
  | neg A => rw [List.mem_singleton.mp m]; exact h
  | bi o A C =>
    rcases List.mem_cons.mp m with rfl | m
    · exact h.1
    · rw [List.mem_singleton.mp m]; exact h.2
  | qu q X A => rw [List.mem_singleton.mp m]; exact h.2
theorem ok_fit (T : Tx K mg D) : ∀ d : Nat, FnOk P w K mg base0 CX0 (d + 3) D.a_fit_L D.d_fit_L ["_law_ka", "_law_room"] (spFit K d)
  | 0 => ⟨fun vs H Q E h => by obtain ⟨v, S, n, rfl, _⟩ := h; rfl, fun A outer s H args us vs Q E _ _ _ _ h => by
      obtain ⟨v, S, n, _, _, _, h, _⟩ := h
      have := S.deep_pos
      omega⟩
  | d + 1 => by
    have G_parts_L := ok_parts_L (P := P) (w := w) (base0 := base0) T
    have G_is_built_L := ok_is_built (P := P) (w := w) (base0 := base0) T
    have G_is_right_L := ok_is_right (P := P) (w := w) (base0 := base0) T
    have G_fit_L := ok_fit T d
    refine T.F_fit_L.ok sc_fit_L (fun vs H Q E h => ?_) (fun cdv A outer s H vs Q E hr h => ?_)
    · obtain ⟨v, S, n, rfl, _⟩ := h; rfl
    obtain ⟨v, S, n, rfl, rS, okS, hd, hn, hn2, k⟩ := h
    have hu := hr.units
    have hr_fit_L : Room (d + 3) _ := hr
    have hr_parts_L : Room 1 _ := hr.mono (by omega)
    have hr_is_built_L : Room 1 _ := hr.mono (by omega)
    have hr_is_right_L : Room 2 _ := hr.mono (by omega)
    have dp := S.deep_pos
    refine ⟨_, (pss_cons (ps_if (PW.pt (pw_or (pt_cmpR (opC_eq K hu) (pv 1) pe_int (nomark _)) (pw_or (pt_not (pt_val (pe_callB (callB_inst K "tuple") (by rfl) T.z_isinstance (by rfl) (pa_cons (pv 0) (pa_cons (pe_bltn (v := .ty "tuple") (by rfl) T.z_tuple (by rfl) (by rfl)) pa_nil))))) (pw_or (pt_cmpR (opC_eq K hu) (pe_callB (callA_len K) (by rfl) T.z_len PySem.boot_len (pa_cons (pv 0) pa_nil)) pe_int (nomark _)) (pw_or1 (pt_not (pt_val (pe_callB (callB_inst K "str") (by rfl) T.z_isinstance (by rfl) (pa_cons (pe_ix (ixA K) (pv 0) pe_int (fun _ _ => rfl)) (pa_cons (pe_bltn (v := .ty "str") (by rfl) T.z_str (by rfl) (by rfl)) pa_nil)))))))))) (pss_one (ps_ret pe_bl)) pss_nil)
    (pss_cons (ps_if (pt_cmpR (opC_eq K hu) (pe_ix (ixA K) (pv 0) pe_int (fun _ _ => rfl)) pe_str (nomark _)) (pss_one (ps_ret (pe_call G_is_right_L hr_is_right_L (by rfl) T.m_is_right_L T.F_is_right_L.kp T.b_is_right_L .nil pass0 (pa_cons (pv 0) pa_nil)))) pss_nil)
    (pss_cons (ps_set (i := 2) sc_fit_L.nd (by rfl) (by walk_at "o") (pe_lst (pa_cons pe_int (pa_cons pe_int (pa_cons pe_int (pa_cons pe_int (pa_cons pe_int (pa_cons pe_int (pa_cons pe_int pa_nil)))))))))
    (pss_cons (ps_set (i := 3) sc_fit_L.nd (by rfl) (by walk_at "o") (pe_lst (pa_cons pe_str (pa_cons pe_str (pa_cons pe_str (pa_cons pe_str (pa_cons pe_str (pa_cons pe_str (pa_cons pe_str pa_nil)))))))))
    (pss_cons (ps_if (PW.pt (pw_or (pt_cmpR (opC_notin K hu) (pe_ix (ixA K) (pv 0) pe_int (fun _ _ => rfl)) (pv 3) (by rfl)) (pw_or1 (pt_cmpR (opC_ne K hu) (pe_callB (callA_len K) (by rfl) T.z_len PySem.boot_len (pa_cons (pv 0) pa_nil)) (pe_ix (ixA K) (pv 2) (pe_bmA K PySem.F.plainAttrs_list PySem.F.slot_list_index PySem.F.type_list_index (mtA_index K) (pv 3) (pa_cons (pe_ix (ixA K) (pv 0) pe_int (fun _ _ => rfl)) pa_nil)) (fun _ _ => rfl)) (nomark _))))) (pss_one (ps_ret pe_bl)) pss_nil)
    (pss_cons (ps_if (PW.pt (pw_and (pt_cmpR (opC_in K hu) (pe_ix (ixA K) (pv 0) pe_int (fun _ _ => rfl)) (pe_lst (pa_cons pe_str (pa_cons pe_str pa_nil))) (by rfl)) (pw_and1 (pt_not (pt_val (pe_call G_is_built_L hr_is_built_L (by rfl) T.m_is_built_L T.F_is_built_L.kp T.b_is_built_L .nil pass0 (pa_cons (pe_ix (ixA K) (pv 0) pe_int (fun _ _ => rfl)) (pa_cons pe_str pa_nil)))))))) (pss_one (ps_ret pe_bl)) pss_nil)
    (pss_cons (ps_for PassesOwn.never (by rfl) (pi_any K (pe_call G_parts_L hr_parts_L (by rfl) T.m_parts_L T.F_parts_L.kp T.b_parts_L .nil pass0 (pa_cons (pv 0) pa_nil))) (pg_name (i := 4) sc_fit_L.nd (by rfl) (by walk_at "o"))
      (pss_one (ps_if (pt_not (pt_val (pe_call G_fit_L hr_fit_L (by rfl) T.m_fit_L T.F_fit_L.kp T.b_fit_L .nil pass0 (pa_cons (pv 4) (pa_cons (pe_op op_sub (pv 1) pe_int) pa_nil))))) (pss_one (ps_ret pe_bl)) pss_nil)))
    (pss_one (ps_ret pe_bl))))))))), ?_⟩
    walk_at "S"
    walk_at ""
    rw [if_neg (by omega)]
    have hx0 : ∃ a xs, v = .ref a ∧ SqT K H a (.str S.tag :: xs) ∧ xs.length = argN S := by
      cases S with
      | is x ts => obtain ⟨a, b, rfl, h2, h3⟩ := rS; exact ⟨a, _, rfl, h2, rfl⟩
      | fls => obtain ⟨a, rfl, h2⟩ := rS; exact ⟨a, _, rfl, h2, rfl⟩
      | neg A => obtain ⟨a, u, rfl, h2, h3⟩ := rS; exact ⟨a, _, rfl, h2, rfl⟩
      | bi o A B => obtain ⟨a, u, u', rfl, h2, h3, h4⟩ := rS; exact ⟨a, _, rfl, h2, rfl⟩
      | qu q X A => obtain ⟨a, u, rfl, h2, h3⟩ := rS; exact ⟨a, _, rfl, h2, rfl⟩
    obtain ⟨a, xs, rfl, h2, hx⟩ := hx0
    (try walk_at "")
    refine ⟨_, true, .tup h2, rfl, ?_⟩
    rw [if_neg (by decide)]
    (try walk_at "")
    refine ⟨_, .inr h2, ?_⟩
    rw [if_neg (by rw [List.length_cons]; omega)]
    refine ⟨_, .inr h2, _, atI_nat (j := 0) rfl, ?_⟩
    walk_at ""
    refine ⟨true, rfl, ?_⟩
    rw [if_neg (by decide)]
    refine ⟨_, .inr h2, _, atI_nat (j := 0) rfl, ?_⟩
    walk_at ""
    by_cases c : S.tag = "is"
    · rw [if_pos c]
      cases S with
      | is x us => exact ⟨_, x, us, rfl, rS, okS, k⟩
      | fls => exact absurd c (by decide)
      | neg A => exact absurd (show Str.ofString "not" = Str.ofString "is" from c) (by decide)
      | bi o A B => exact absurd c (bi_is o)
      | qu q X A => exact absurd c (qu_is q)
    rw [if_neg c]
    refine ⟨sz1000 (by decide), fun p hp => ⟨sz1000 (by decide), fun p1 hp1 => ?_⟩⟩
    have npp : p ≠ p1 := by rintro rfl; rw [upd_same] at hp1; cases hp1
    obtain ⟨H2, eH, s2, gz, gs⟩ : ∃ H2, upd (upd H p (.lst [V.int 1, V.int 2, V.int 3, V.int 3, V.int 3, V.int 3, V.int 3])) p1 (.lst [V.str (Str.ofString "false"), V.str (Str.ofString "not"), V.str (Str.ofString "and"), V.str (Str.ofString "or"), V.str (Str.ofString "then"), V.str (Str.ofString "all"), V.str (Str.ofString "some")]) = H2 ∧ Same H H2 ∧ SqL K H2 p [V.int 1, V.int 2, V.int 3, V.int 3, V.int 3, V.int 3, V.int 3] ∧ SqL K H2 p1 (signs6.map V.str) :=
      ⟨_, rfl, (same_new hp _).trans (same_new hp1 _), SqL.of (by rw [upd_ne npp]; exact upd_same), SqL.of upd_same⟩
    rw [eH]
    refine ⟨_, .inr (s2.seqT h2), _, atI_nat (j := 0) rfl, ?_⟩
    refine .inl ⟨_, _, rfl, .inl gs, rfl, by decide, _, rfl, ?_⟩
    have hin : inV (.str S.tag) (signs6.map V.str) = true := by
      cases S with
      | is _ _ => exact absurd rfl c
      | fls => decide
      | neg A => show inV (.str (Str.ofString "not")) _ = true; decide
      | bi o A B => show inV (.str o.txt) _ = true; cases o <;> decide
      | qu q X A => show inV (.str (qtx q)) _ = true; cases q <;> decide
    refine ite2 (fun z => ?_) fun _ => ?_
    · exfalso
      have z' : (!inV (.str S.tag) (signs6.map V.str)) = true := z
      rw [hin] at z'; cases z'
    refine ⟨_, .inr (s2.seqT h2), ⟨_, gs⟩, _, .inr (s2.seqT h2), _, atI_nat (j := 0) rfl, ?_⟩
    walk_at ""
    refine ⟨signs6, gs, tag_in c, by decide, _, .inl gz, _, atI_nat (size6 c), ?_⟩
    walk_at ""
    rw [if_neg (by rw [List.length_cons, hx]; exact fun z => z rfl)]
    refine ⟨_, .inr (s2.seqT h2), _, atI_nat (j := 0) rfl, sz1000 (by decide), fun p2 hp2 => ?_⟩
    have s3 := s2.trans (same_new hp2 (.lst [V.str (Str.ofString "all"), V.str (Str.ofString "some")]))
    refine .inl ⟨_, _, rfl, .inl (SqL.of upd_same), rfl, by decide, _, rfl, ?_⟩
    refine ite2 (fun z => ?_) fun z => ?_
    · have z' : inV (.str S.tag) [V.str (Str.ofString "all"), V.str (Str.ofString "some")] = true := z
      obtain ⟨q, X, B0, rfl⟩ : ∃ q X A, S = .qu q X A := by
        cases S with
        | is _ _ => exact absurd rfl c
        | fls => exact absurd (show inV (.str (Str.ofString "false")) [V.str (Str.ofString "all"), V.str (Str.ofString "some")] = true from z') (by decide)
        | neg A => exact absurd (show inV (.str (Str.ofString "not")) [V.str (Str.ofString "all"), V.str (Str.ofString "some")] = true from z') (by decide)
        | bi o A B => exact absurd (show inV (.str o.txt) [V.str (Str.ofString "all"), V.str (Str.ofString "some")] = true from z') (by cases o <;> decide)
        | qu q X A => exact ⟨_, _, _, rfl⟩
      obtain ⟨a', u, ea, g2, g3⟩ := id rS
      cases ea
      refine ⟨_, .inr (s3.seqT g2), _, atI_nat (j := 1) rfl, X, _, rfl, by have := (let_nm okS.1).len.1; omega, fun H5 s5' => ⟨_, rfl, ?_⟩⟩
      rw [blt_great, okS.1, if_neg (by decide)]
      have s5 := s3.trans s5'
      refine ⟨_, _, rfl, rS.same s5, fun pp us H6 s6 ht rl => ?_⟩
      walk_at ""
      refine .inl ⟨⟨_, SqL.of ht⟩, forW_list (xs := us) (fun i σ H7 => Same H6 H7 ∧ ∃ o, σ = [some (.ref a), some (.int n), some (.ref p), some (.ref p1), o]) ⟨Same.refl _, none, rfl⟩ (fun i σ H7 _ hv => hv.1.seq (SqL.of ht)) (fun i x σ H7 hi hv => ?_) fun σ H7 hv => ?_⟩
      · obtain ⟨s7, o, rfl⟩ := hv
        obtain ⟨B, hB, rB⟩ := rl.get hi
        walk_at ""
        have db := part_deep hB
        refine ⟨x, B, n - 1, rfl, rB.same s7, part_tok okS hB, by omega, by omega, by omega, fun H8 s8 => ?_⟩
        walk_at ""
        exact ⟨s7.trans s8, _, rfl⟩
      · obtain ⟨s7, o, rfl⟩ := hv
        walk_at ""
        exact k _ ((s5.trans s6).trans s7)
    · obtain ⟨H5, eH5, s5⟩ : ∃ H5, upd H2 p2 (.lst [V.str (Str.ofString "all"), V.str (Str.ofString "some")]) = H5 ∧ Same H H5 := ⟨_, rfl, s3⟩
      rw [eH5]
      refine ⟨_, _, rfl, rS.same s5, fun pp us H6 s6 ht rl => ?_⟩
      walk_at ""
      refine .inl ⟨⟨_, SqL.of ht⟩, forW_list (xs := us) (fun i σ H7 => Same H6 H7 ∧ ∃ o, σ = [some (.ref a), some (.int n), some (.ref p), some (.ref p1), o]) ⟨Same.refl _, none, rfl⟩ (fun i σ H7 _ hv => hv.1.seq (SqL.of ht)) (fun i x σ H7 hi hv => ?_) fun σ H7 hv => ?_⟩
      · obtain ⟨s7, o, rfl⟩ := hv
        obtain ⟨B, hB, rB⟩ := rl.get hi
        walk_at ""
        have db := part_deep hB
        refine ⟨x, B, n - 1, rfl, rB.same s7, part_tok okS hB, by omega, by omega, by omega, fun H8 s8 => ?_⟩
        walk_at ""
        exact ⟨s7.trans s8, _, rfl⟩
      · obtain ⟨s7, o, rfl⟩ := hv
        walk_at ""
        exact k _ ((s5.trans s6).trans s7)
end
section
variable {P : Program} {w : World} {K : PySem.W.Frag} {mg : Str → Option Value} {base0 : Heap} {D : Defs}
def Tk (t : Str) : Prop := t ≠ Str.ofString "" ∧ t.length ≤ 9 ∧ ∀ c ∈ t.cps.toList, c < 128
def wt (us : List Str) : Nat := (us.map fun t => t.length + 3).sum
theorem cut_lo (ts : List Str) (i : Nat) : cutV (ts.map V.str) none (some (i : Int)) = (ts.take i).map V.str := by
  unfold cutV
  have e : HT.sIx (ts.map V.str).length 0 none = 0 := rfl
  have e2 : HT.sIx (ts.map V.str).length (ts.map V.str).length (some (i : Int)) = min i ts.length := by rw [HT.sIx_nat, List.length_map]
  rw [e, e2, List.drop_zero, Nat.sub_zero, ← List.map_take]
  by_cases h : i ≤ ts.length
  · rw [Nat.min_eq_left h]
  · rw [Nat.min_eq_right (by omega), List.take_of_length_le (Nat.le_refl _), List.take_of_length_le (by omega)]
theorem cut_hi (ts : List Str) (i : Nat) : cutV (ts.map V.str) (some (i : Int)) none = (ts.drop i).map V.str := by
  unfold cutV
  have e : HT.sIx (ts.map V.str).length 0 (some (i : Int)) = min i ts.length := by rw [HT.sIx_nat, List.length_map]
  have e2 : HT.sIx (ts.map V.str).length (ts.map V.str).length none = ts.length := by simp [HT.sIx]
  rw [e, e2, ← List.map_drop]
  rw [List.take_of_length_le (by rw [List.length_map, List.length_drop]; omega)]
  by_cases h : i ≤ ts.length
  · rw [Nat.min_eq_left h]
  · rw [Nat.min_eq_right (by omega), List.drop_of_length_le (Nat.le_refl _), List.drop_of_length_le (by omega)]
theorem cut_two (ts : List Str) (i j : Nat) : cutV (ts.map V.str) (some (i : Int)) (some (j : Int)) = (((ts.take j).drop i)).map V.str := by
  unfold cutV
  have e : HT.sIx (ts.map V.str).length 0 (some (i : Int)) = min i ts.length := by rw [HT.sIx_nat, List.length_map]
  have e2 : HT.sIx (ts.map V.str).length (ts.map V.str).length (some (j : Int)) = min j ts.length := by rw [HT.sIx_nat, List.length_map]
  rw [e, e2, ← List.map_drop, ← List.map_take, List.drop_take]
  congr 1
  by_cases h : i ≤ ts.length
  · rw [Nat.min_eq_left h]
    by_cases h2 : j ≤ ts.length
    · rw [Nat.min_eq_left h2]
    · rw [Nat.min_eq_right (by omega), List.take_of_length_le (by rw [List.length_drop]; omega), List.take_of_length_le (by rw [List.length_drop]; omega)]
  · rw [List.drop_of_length_le (by omega), List.drop_of_length_le (by omega)]
    simp
theorem kp {H : Hp} {a b : Addr} {o o' : HO} (h : H a = some o) (hb : H b = none) : upd H b o' a = some o := by rw [upd_ne (ne_of_none h hb)]; exact h
theorem wt_app (a b : List Str) : wt (a ++ b) = wt a + wt b := by simp [wt]
theorem wt_split (ts : List Str) (i : Nat) : wt (ts.take i) + wt (ts.drop i) = wt ts := by rw [← wt_app, List.take_append_drop]
theorem wt_drop (ts : List Str) (i j : Nat) (h : i ≤ j) : wt (ts.drop j) ≤ wt (ts.drop i) := by
  have := wt_split (ts.drop i) (j - i)
  rw [List.drop_drop, show i + (j - i) = j by omega] at this
  omega
theorem wt_one {t : Str} (h : Tk t) : wt [t] ≤ 12 := by
  have := h.2.1
  simp only [wt, List.map_cons, List.map_nil, List.sum_cons, List.sum_nil]
  omega
def spSpoilt (K : PySem.W.Frag) : Sp := fun vs H Q _ => ∃ (p : Addr) (ts : List Str) (c : Int) (x : Str), vs = [.ref p, .int c, .str x] ∧ H p = some (.lst (ts.map V.str)) ∧ ts ≠ [] ∧ ts.length ≤ 20000 ∧ Tk x ∧ (∀ t ∈ ts, Tk t) ∧
  ∀ q us H', Same H H' → SqL K H' q (us.map V.str) → (∀ t ∈ us, Tk t) → wt us ≤ wt ts + 300 → Q (.ref q) H'
theorem ok_spoilt (T : Tx K mg D) : FnOk P w K mg base0 CX0 1 D.a_spoilt_L D.d_spoilt_L ["_law_tokens_here", "_law_cell", "_law_word"] (spSpoilt K) := by
  refine T.F_spoilt_L.ok sc_spoilt_L (fun vs H Q E h => ?_) (fun cdv A outer s H vs Q E hr h => ?_)
  · obtain ⟨p, ts, c, x, rfl, _⟩ := h; rfl
  obtain ⟨p, ts, c, x, rfl, hp, hne, hln, hx, hts, k⟩ := h
  have hu := hr.units
  refine ⟨_, (pss_cons (ps_set (i := 3) sc_spoilt_L.nd (by rfl) (by walk_at "o") (pe_op op_modP (pe_op op_fdivP (pv 1) pe_int) (pe_callB (callA_len K) (by rfl) T.z_len PySem.boot_len (pa_cons (pv 0) pa_nil))))
    (pss_cons (ps_set (i := 4) sc_spoilt_L.nd (by rfl) (by walk_at "o") (pe_lst (pa_cons pe_str (pa_cons pe_str (pa_cons pe_str (pa_cons pe_str (pa_cons pe_str (pa_cons pe_str (pa_cons pe_str (pa_cons pe_str (pa_cons pe_str (pa_cons pe_str (pa_cons (pv 2) (pa_cons pe_str (pa_cons pe_str (pa_cons pe_str pa_nil))))))))))))))))
    (pss_cons (ps_set (i := 5) sc_spoilt_L.nd (by rfl) (by walk_at "o") (pe_ix (ixA K) (pv 4) (pe_op op_modP (pe_op op_modP (pe_op opA_mul (pv 1) pe_int) pe_int) pe_int) (fun _ _ => rfl)))
    (pss_cons (ps_if (pt_cmpR (opC_eq K hu) (pe_op op_modP (pv 1) pe_int) pe_int (nomark _)) (pss_one (ps_ret (pe_op (opA_add K) (pe_slice (slA K) (pv 0) po_none (po_some (pv 3))) (pe_slice (slA K) (pv 0) (po_some (pe_op (opA_add K) (pv 3) pe_int)) po_none)))) pss_nil)
    (pss_cons (ps_if (pt_cmpR (opC_eq K hu) (pe_op op_modP (pv 1) pe_int) pe_int (nomark _)) (pss_one (ps_ret (pe_op (opA_add K) (pe_op (opA_add K) (pe_slice (slA K) (pv 0) po_none (po_some (pv 3))) (pe_lst (pa_cons (pv 5) pa_nil))) (pe_slice (slA K) (pv 0) (po_some (pe_op (opA_add K) (pv 3) (pe_ix (ixA K) (pe_lst (pa_cons pe_int (pa_cons pe_int pa_nil))) (pe_op op_modP (pe_op op_fdivP (pv 1) pe_int) pe_int) (fun _ _ => rfl)))) po_none)))) pss_nil)
    (pss_cons (ps_if (pt_cmpR (opC_eq K hu) (pe_op op_modP (pv 1) pe_int) pe_int (nomark _)) (pss_one (ps_ret (pe_op (opA_add K) (pe_op (opA_add K) (pe_slice (slA K) (pv 0) po_none (po_some (pe_op (opA_add K) (pv 3) pe_int))) (pe_ix (ixA K) (pe_lst (pa_cons (pe_lst (pa_cons pe_str (pa_cons (pe_ix (ixA K) (pe_lst (pa_cons pe_str (pa_cons (pv 2) pa_nil))) (pe_op op_modP (pv 3) pe_int) (fun _ _ => rfl)) pa_nil))) (pa_cons (pe_slice (slA K) (pv 0) (po_some (pv 3)) (po_some (pe_op (opA_add K) (pv 3) pe_int))) pa_nil))) (pe_op op_modP (pe_op op_fdivP (pv 1) pe_int) pe_int) (fun _ _ => rfl))) (pe_slice (slA K) (pv 0) (po_some (pe_op (opA_add K) (pv 3) pe_int)) po_none)))) pss_nil)
    (pss_cons (ps_if (pt_cmpR (opC_eq K hu) (pe_op op_modP (pv 1) pe_int) pe_int (nomark _)) (pss_one (ps_ret (pe_ix (ixA K) (pe_lst (pa_cons (pe_op (opA_add K) (pv 0) (pe_lst (pa_cons (pv 5) pa_nil))) (pa_cons (pe_slice (slA K) (pv 0) po_none (po_some (pv 3))) pa_nil))) (pe_op op_modP (pe_op op_fdivP (pv 1) pe_int) pe_int) (fun _ _ => rfl)))) pss_nil)
    (pss_cons (ps_if (pt_cmpR (opC_eq K hu) (pe_op op_modP (pv 1) pe_int) pe_int (nomark _)) (pss_one (ps_ret (pe_op (opA_add K) (pe_op opA_mul (pe_lst (pa_cons pe_str pa_nil)) (pe_op (opA_add K) pe_int (pe_op op_modP (pv 3) pe_int))) (pv 0)))) pss_nil)
    (pss_cons (ps_set (i := 6) sc_spoilt_L.nd (by rfl) (by walk_at "o") (pe_ix (ixA K) (pe_lst (pa_cons (pe_lst (pa_cons pe_str (pa_cons pe_str (pa_cons pe_str pa_nil)))) (pa_cons (pe_lst (pa_cons pe_str pa_nil)) (pa_cons (pe_lst (pa_cons pe_str (pa_cons pe_str pa_nil))) (pa_cons (pe_lst (pa_cons pe_str (pa_cons pe_str (pa_cons pe_str pa_nil)))) pa_nil))))) (pe_op op_sub (pe_op op_modP (pv 1) pe_int) pe_int) (fun _ _ => rfl)))
    (pss_cons (ps_setComp (i := 7) 1 [0, 6] ["_law_k", "_law_tokens_here", "_law_marks"] sc_spoilt_L.nd (by rfl) (by rfl) ⟨by rfl, by rfl, by rfl, by rfl, by rfl, by rfl, by rfl⟩ (by rfl) (pi_range1 (by rfl) T.z_range (pa_cons (pe_callB (callA_len K) (by rfl) T.z_len PySem.boot_len (pa_cons (pv 0) pa_nil)) pa_nil)) (fun _ _ _ _ => pg_name (i := 0) (show List.Nodup (["_law_k", "_law_tokens_here", "_law_marks"] : List Str) by decide +kernel) (by rfl) (Or.inl (by rfl)) (Or.inr (by rfl))) (gName_keep (by decide)) (fun _ _ _ _ => pif_one (pt_cmpR (opC_in K hu) (pe_ix (ixA K) (pv 1) (pv 0) (fun _ _ => rfl)) (pv 2) (by rfl))) (fun _ _ _ _ => (pv 0)))
    (pss_cons (ps_if (pt_cmpR (opC_eq K hu) (pe_callB (callA_len K) (by rfl) T.z_len PySem.boot_len (pa_cons (pv 7) pa_nil)) pe_int (nomark _)) (pss_one (ps_ret (pe_op (opA_add K) (pv 0) (pe_lst (pa_cons (pv 5) pa_nil))))) pss_nil)
    (pss_cons (ps_set (i := 3) sc_spoilt_L.nd (by rfl) (by walk_at "o") (pe_ix (ixA K) (pv 7) (pe_op op_modP (pe_op op_fdivP (pv 1) pe_int) (pe_callB (callA_len K) (by rfl) T.z_len PySem.boot_len (pa_cons (pv 7) pa_nil))) (fun _ _ => rfl)))
    (pss_one (ps_ret (pe_op (opA_add K) (pe_op (opA_add K) (pe_slice (slA K) (pv 0) po_none (po_some (pv 3))) (pe_lst (pa_cons (pe_ix (ixA K) (pv 4) (pe_op op_modP (pe_op op_modP (pe_op opA_mul (pv 1) pe_int) pe_int) pe_int) (fun _ _ => rfl)) pa_nil))) (pe_slice (slA K) (pv 0) (po_some (pe_op (opA_add K) (pv 3) pe_int)) po_none)))))))))))))))), ?_⟩
  walk_at "S"
  walk_at ""
  have hl0 : 0 < ts.length := List.length_pos_iff.mpr hne
  obtain ⟨i, hi, ei⟩ : ∃ i : Nat, i < ts.length ∧ c / 9 % (ts.length : Int) = i :=
    ⟨(c / 9 % (ts.length : Int)).toNat, by have := Int.emod_lt_of_pos (c / 9) (show (0 : Int) < ts.length by omega); omega, by have := Int.emod_nonneg (c / 9) (show (ts.length : Int) ≠ 0 by omega); omega⟩
  refine ⟨cdiv, _, .inl (SqL.of hp), by rw [List.length_map]; omega, sz1000 (by simp), fun p1 hp1 => ⟨cmulR, by decide, by decide, ?_⟩⟩
  rw [List.length_map, ei]
  obtain ⟨H1, eH1, s1, g1⟩ : ∃ H1, upd H p1 (.lst [V.str (Str.ofString "("), V.str (Str.ofString ")"), V.str (Str.ofString ","), V.str (Str.ofString "not"), V.str (Str.ofString "and"), V.str (Str.ofString "or"), V.str (Str.ofString "then"), V.str (Str.ofString "all"), V.str (Str.ofString "some"), V.str (Str.ofString "false"), V.str x, V.str (Str.ofString "X"), V.str (Str.ofString "xyzxyzxyz"), V.str (Str.ofString "7")]) = H1 ∧ Same H H1 ∧
      SqL K H1 p1 ([Str.ofString "(", Str.ofString ")", Str.ofString ",", Str.ofString "not", Str.ofString "and", Str.ofString "or", Str.ofString "then", Str.ofString "all", Str.ofString "some", Str.ofString "false", x, Str.ofString "X", Str.ofString "xyzxyzxyz", Str.ofString "7"].map V.str) := ⟨_, rfl, same_new hp1 _, SqL.of upd_same⟩
  rw [eH1]
  have lits : ∀ t ∈ [Str.ofString "(", Str.ofString ")", Str.ofString ",", Str.ofString "not", Str.ofString "and", Str.ofString "or", Str.ofString "then", Str.ofString "all", Str.ofString "some", Str.ofString "false", Str.ofString "X", Str.ofString "xyzxyzxyz", Str.ofString "7"], Tk t := by unfold Tk; decide +kernel
  have some_ok : ∀ t ∈ [Str.ofString "(", Str.ofString ")", Str.ofString ",", Str.ofString "not", Str.ofString "and", Str.ofString "or", Str.ofString "then", Str.ofString "all", Str.ofString "some", Str.ofString "false", x, Str.ofString "X", Str.ofString "xyzxyzxyz", Str.ofString "7"], Tk t := fun t ht => by
    by_cases e : t = x
    · rw [e]; exact hx
    · exact lits t (by simp only [List.mem_cons, List.not_mem_nil, or_false] at ht ⊢; rcases ht with h | h | h | h | h | h | h | h | h | h | h | h | h | h <;> first | exact absurd h e | simp [h])
  obtain ⟨odd, hodd, eodd⟩ := pickS (ts := [Str.ofString "(", Str.ofString ")", Str.ofString ",", Str.ofString "not", Str.ofString "and", Str.ofString "or", Str.ofString "then", Str.ofString "all", Str.ofString "some", Str.ofString "false", x, Str.ofString "X", Str.ofString "xyzxyzxyz", Str.ofString "7"]) (i := c * 48271 % 2147483647 % 14) (Int.emod_nonneg _ (by decide)) (Int.emod_lt_of_pos _ (by decide))
  have todd := some_ok odd hodd
  refine ⟨_, .inl g1, _, eodd, by decide, ?_⟩
  have hP := s1 p _ hp
  have tk_take : ∀ j, ∀ t ∈ ts.take j, Tk t := fun j t ht => hts t (List.mem_of_mem_take ht)
  have tk_drop : ∀ j, ∀ t ∈ ts.drop j, Tk t := fun j t ht => hts t (List.mem_of_mem_drop ht)
  have tk_app : ∀ {a b : List Str}, (∀ t ∈ a, Tk t) → (∀ t ∈ b, Tk t) → ∀ t ∈ a ++ b, Tk t := fun ha hb t ht => (List.mem_append.mp ht).elim (ha t) (hb t)
  have tk_one : ∀ {a : Str}, Tk a → ∀ t ∈ [a], Tk t := fun ha t ht => by rw [List.mem_singleton.mp ht]; exact ha
  have ei1 : ((i : Nat) : Int) + 1 = ((i + 1 : Nat) : Int) := by omega
  have fin : ∀ (r : Addr) (H9 : Hp) (us : List Str), Same H1 H9 → H9 r = some (.lst (us.map V.str)) → (∀ t ∈ us, Tk t) → wt us ≤ wt ts + 300 → Q (.ref r) H9 := fun r H9 us s9 g9 => k r us H9 (s1.trans s9) (SqL.of g9)
  have cl : ∀ lo hi, (cutV (ts.map V.str) lo hi).length ≤ 20000 := fun lo hi => by have := cutV_length (ts.map V.str) lo hi; rw [List.length_map] at this; omega
  have two : c / 9 % 2 = ((0 : Nat) : Int) ∨ c / 9 % 2 = ((1 : Nat) : Int) := by omega
  have wtd : ∀ j, i ≤ j → wt (ts.take i) + wt (ts.drop j) ≤ wt ts := fun j h => by have := wt_split ts i; have := wt_drop ts i j h; omega
  refine ite2 (fun c0 => ?_) fun c0 => ?_
  · refine ⟨_, .inl ⟨SqL.of hP, fun q hq => ⟨_, .inl ⟨SqL.of (kp hP hq), fun q1 hq1 => ⟨_, _, .inl ⟨kp upd_same hq1, upd_same, sz1000 (by have := cl none (some (i : Int)); have := cl (some ((i : Int) + 1)) none; omega), fun r hr' => ?_⟩⟩⟩⟩⟩⟩
    refine fin r _ (ts.take i ++ ts.drop (i + 1)) (((same_new hq _).trans (same_new hq1 _)).trans (same_new hr' _)) (by rw [upd_same, ei1, cut_lo, cut_hi, List.map_append]) (tk_app (tk_take _) (tk_drop _)) ?_
    rw [wt_app]
    have := wtd (i + 1) (by omega)
    omega
  refine ⟨by decide, ite2 (fun c1 => ?_) fun c1 => ?_⟩
  · refine ⟨_, .inl ⟨SqL.of hP, fun q hq => ⟨sz1000 (by simp), fun p2 hp2 => ⟨_, _, .inl ⟨kp upd_same hp2, upd_same, sz1000 (by have := cl none (some (i : Int)); simp only [List.length_cons, List.length_nil]; omega), fun r hr' => ⟨sz1000 (by simp), fun p3 hp3 => ⟨cdiv, by decide, ?_⟩⟩⟩⟩⟩⟩⟩
    obtain ⟨z, hz, ez⟩ := pickI (ts := [0, 1]) (i := c / 9 % 2) (by omega) (by show c / 9 % 2 < 2; omega)
    refine ⟨_, .inl (SqL.of upd_same), _, ez, ?_⟩
    obtain ⟨z', rfl, hz'⟩ : ∃ z' : Nat, z = (z' : Int) ∧ z' ≤ 1 := by
      simp only [List.mem_cons, List.not_mem_nil, or_false] at hz
      rcases hz with rfl | rfl
      · exact ⟨0, rfl, by omega⟩
      · exact ⟨1, rfl, by omega⟩
    (try walk_at "")
    refine ⟨_, .inl ⟨SqL.of (kp (kp (kp (kp hP hq) hp2) hr') hp3), fun q4 hq4 => ⟨_, _, .inl ⟨kp (kp upd_same hp3) hq4, upd_same, sz1000 (by have := cl none (some (i : Int)); have := cl (some ((i : Int) + (z' : Int))) none; simp only [List.length_append, List.length_cons, List.length_nil]; omega), fun r5 hr5 => ?_⟩⟩⟩⟩
    refine fin r5 _ (ts.take i ++ [odd] ++ ts.drop (i + z')) ((((((same_new hq _).trans (same_new hp2 _)).trans (same_new hr' _)).trans (same_new hp3 _)).trans (same_new hq4 _)).trans (same_new hr5 _)) (by rw [upd_same, show (i : Int) + (z' : Int) = ((i + z' : Nat) : Int) by omega, cut_lo, cut_hi, List.map_append, List.map_append]; rfl) (tk_app (tk_app (tk_take _) (tk_one todd)) (tk_drop _)) ?_
    rw [wt_app, wt_app]
    have := wtd (i + z') (by omega)
    have := wt_one todd
    omega
  refine ⟨by decide, ite2 (fun c2 => ?_) fun c2 => ?_⟩
  · refine ⟨_, .inl ⟨SqL.of hP, fun q hq => ⟨sz1000 (by simp), fun p2 hp2 => ⟨by decide, ?_⟩⟩⟩⟩
    obtain ⟨y, hy, ey⟩ := pickS (ts := [Str.ofString "X", x]) (i := (i : Int) % 2) (by omega) (by show (i : Int) % 2 < 2; omega)
    have ty : Tk y := by
      simp only [List.mem_cons, List.not_mem_nil, or_false] at hy
      rcases hy with rfl | rfl
      · exact lits _ (by simp)
      · exact hx
    refine ⟨_, .inl (SqL.of upd_same), _, ey, sz1000 (by simp), fun p3 hp3 => ⟨_, .inl ⟨SqL.of (kp (kp (kp hP hq) hp2) hp3), fun q1 hq1 => ⟨sz1000 (by simp), fun p4 hp4 => ⟨cdiv, by decide, _, .inl (SqL.of upd_same), ?_⟩⟩⟩⟩⟩
    have tc : Tk (Str.ofString ",") := lits _ (by simp)
    have w1 := wt_split ts (i + 1)
    rcases two with e2 | e2
    · rw [e2]
      refine ⟨_, atI_nat rfl, ?_⟩
      (try walk_at "")
      refine ⟨_, _, .inl ⟨kp (kp (kp (kp upd_same hp2) hp3) hq1) hp4, kp (kp upd_same hq1) hp4, sz1000 (by have := cl none (some ((i : Int) + 1)); simp only [List.length_cons, List.length_nil]; omega), fun r hr' => ⟨_, .inl ⟨SqL.of (kp (kp (kp (kp (kp (kp hP hq) hp2) hp3) hq1) hp4) hr'), fun q5 hq5 => ?_⟩⟩⟩⟩
      (try walk_at "")
      refine ⟨_, _, .inl ⟨kp upd_same hq5, upd_same, sz1000 (by have := cl none (some ((i : Int) + 1)); have := cl (some ((i : Int) + 1)) none; simp only [List.length_append, List.length_cons, List.length_nil]; omega), fun r6 hr6 => ?_⟩⟩
      refine fin r6 _ (ts.take (i + 1) ++ [Str.ofString ",", y] ++ ts.drop (i + 1)) ((((((((same_new hq _).trans (same_new hp2 _)).trans (same_new hp3 _)).trans (same_new hq1 _)).trans (same_new hp4 _)).trans (same_new hr' _)).trans (same_new hq5 _)).trans (same_new hr6 _)) (by rw [upd_same, ei1, cut_lo, cut_hi, List.map_append, List.map_append]; rfl) (tk_app (tk_app (tk_take _) (tk_app (tk_one tc) (tk_one ty))) (tk_drop _)) ?_
      rw [wt_app, wt_app, show [Str.ofString ",", y] = [Str.ofString ","] ++ [y] from rfl, wt_app]
      have := wt_one tc
      have := wt_one ty
      omega
    · rw [e2]
      refine ⟨_, atI_nat rfl, ?_⟩
      (try walk_at "")
      refine ⟨_, _, .inl ⟨kp (kp (kp (kp upd_same hp2) hp3) hq1) hp4, kp upd_same hp4, sz1000 (by have := cl none (some ((i : Int) + 1)); have := cl (some (i : Int)) (some ((i : Int) + 1)); omega), fun r hr' => ⟨_, .inl ⟨SqL.of (kp (kp (kp (kp (kp (kp hP hq) hp2) hp3) hq1) hp4) hr'), fun q5 hq5 => ?_⟩⟩⟩⟩
      (try walk_at "")
      refine ⟨_, _, .inl ⟨kp upd_same hq5, upd_same, sz1000 (by have := cl none (some ((i : Int) + 1)); have := cl (some (i : Int)) (some ((i : Int) + 1)); have := cl (some ((i : Int) + 1)) none; simp only [List.length_append]; omega), fun r6 hr6 => ?_⟩⟩
      refine fin r6 _ (ts.take (i + 1) ++ (ts.take (i + 1)).drop i ++ ts.drop (i + 1)) ((((((((same_new hq _).trans (same_new hp2 _)).trans (same_new hp3 _)).trans (same_new hq1 _)).trans (same_new hp4 _)).trans (same_new hr' _)).trans (same_new hq5 _)).trans (same_new hr6 _)) (by rw [upd_same, ei1, cut_lo, cut_hi, cut_two, List.map_append, List.map_append]) (tk_app (tk_app (tk_take _) fun t ht => hts t (List.mem_of_mem_take (List.mem_of_mem_drop ht))) (tk_drop _)) ?_
      rw [wt_app, wt_app]
      have e1 : (ts.take (i + 1)).drop i = [ts[i]] := by
        rw [List.take_succ_eq_append_getElem hi, List.drop_append_of_le_length (by rw [List.length_take]; omega), List.drop_of_length_le (by rw [List.length_take]; omega)]
        rfl
      rw [e1]
      have := wt_one (hts ts[i] (List.getElem_mem hi))
      omega
  refine ⟨by decide, ite2 (fun c3 => ?_) fun c3 => ?_⟩
  · refine ⟨sz1000 (by simp), fun p2 hp2 => ⟨_, _, .inl ⟨kp hP hp2, upd_same, sz1000 (by rw [List.length_map]; simp only [List.length_cons, List.length_nil]; omega), fun r hr' => ⟨_, .inl ⟨SqL.of (kp (kp hP hp2) hr'), fun q hq => ⟨sz1000 (by simp), fun p3 hp3 => ⟨cdiv, by decide, _, .inl (SqL.of upd_same), ?_⟩⟩⟩⟩⟩⟩⟩
    rcases two with e2 | e2
    · rw [e2]
      refine ⟨_, atI_nat rfl, fin r _ (ts ++ [odd]) ((((same_new hp2 _).trans (same_new hr' _)).trans (same_new hq _)).trans (same_new hp3 _)) (by rw [kp (kp upd_same hq) hp3, List.map_append]; rfl) (tk_app hts (tk_one todd)) ?_⟩
      rw [wt_app]
      have := wt_one todd
      omega
    · rw [e2]
      refine ⟨_, atI_nat rfl, fin q _ (ts.take i) ((((same_new hp2 _).trans (same_new hr' _)).trans (same_new hq _)).trans (same_new hp3 _)) (by rw [kp upd_same hp3, cut_lo]) (tk_take _) ?_⟩
      have := wt_split ts i
      omega
  refine ⟨by decide, ite2 (fun c4 => ?_) fun c4 => ?_⟩
  · refine ⟨sz1000 (by simp), fun p2 hp2 => ⟨by decide, ?_⟩⟩
    (try walk_at "")
    refine ⟨_, upd_same, by omega, by omega, sz1000 (by simp only [List.length_cons, List.length_nil]; omega), fun q hq => ?_⟩
    (try walk_at "")
    obtain ⟨m, hm, em⟩ : ∃ m : Nat, m ≤ 41 ∧ (40 + (i : Int) % 2).toNat = m := ⟨_, by omega, rfl⟩
    rw [em]
    have fl : (List.replicate m [V.str (Str.ofString "not")]).flatten = (List.replicate m (Str.ofString "not")).map V.str := by rw [List.flatten_replicate_singleton, List.map_replicate]
    refine ⟨_, _, .inl ⟨upd_same, kp (kp hP hp2) hq, sz1000 (by rw [fl, List.length_map, List.length_map, List.length_replicate]; omega), fun r hr' => ?_⟩⟩
    refine fin r _ (List.replicate m (Str.ofString "not") ++ ts) (((same_new hp2 _).trans (same_new hq _)).trans (same_new hr' _)) (by rw [upd_same, fl, List.map_append]) (tk_app (fun t ht => by rw [List.eq_of_mem_replicate ht]; exact lits _ (by simp)) hts) ?_
    rw [wt_app]
    have : wt (List.replicate m (Str.ofString "not")) = 6 * m := by
      unfold wt
      rw [List.map_replicate, List.sum_replicate_nat]
      show m * 6 = 6 * m
      omega
    omega
  refine ⟨sz1000 (by simp), fun p2 hp2 => ⟨sz1000 (by simp), fun p3 hp3 => ⟨sz1000 (by simp), fun p4 hp4 => ⟨sz1000 (by simp), fun p5 hp5 => ⟨sz1000 (by simp), fun p6 hp6 => ⟨by decide, _, .inl (SqL.of upd_same), ?_⟩⟩⟩⟩⟩⟩
  have c9 : c % 9 - 5 = ((0 : Nat) : Int) ∨ c % 9 - 5 = ((1 : Nat) : Int) ∨ c % 9 - 5 = ((2 : Nat) : Int) ∨ c % 9 - 5 = ((3 : Nat) : Int) := by omega
  have s6 := ((((same_new hp2 (.lst [V.str (Str.ofString "and"), V.str (Str.ofString "or"), V.str (Str.ofString "then")])).trans (same_new hp3 (.lst [V.str (Str.ofString ")")]))).trans (same_new hp4 (.lst [V.str (Str.ofString "("), V.str (Str.ofString ",")]))).trans (same_new hp5 (.lst [V.str (Str.ofString "not"), V.str (Str.ofString "all"), V.str (Str.ofString "some")]))).trans (same_new hp6 (.lst [V.ref p2, V.ref p3, V.ref p4, V.ref p5]))
  obtain ⟨pm, ms, em, gm⟩ : ∃ (pm : Addr) (ms : List Str), atI [V.ref p2, V.ref p3, V.ref p4, V.ref p5] (c % 9 - 5) = some (.ref pm) ∧ (upd (upd (upd (upd (upd H1 p2 (.lst [V.str (Str.ofString "and"), V.str (Str.ofString "or"), V.str (Str.ofString "then")])) p3 (.lst [V.str (Str.ofString ")")])) p4 (.lst [V.str (Str.ofString "("), V.str (Str.ofString ",")])) p5 (.lst [V.str (Str.ofString "not"), V.str (Str.ofString "all"), V.str (Str.ofString "some")])) p6 (.lst [V.ref p2, V.ref p3, V.ref p4, V.ref p5])) pm = some (.lst (ms.map V.str)) := by
    rcases c9 with e | e | e | e
    · exact ⟨p2, [Str.ofString "and", Str.ofString "or", Str.ofString "then"], by rw [e]; exact atI_nat rfl, kp (kp (kp (kp upd_same hp3) hp4) hp5) hp6⟩
    · exact ⟨p3, [Str.ofString ")"], by rw [e]; exact atI_nat rfl, kp (kp (kp upd_same hp4) hp5) hp6⟩
    · exact ⟨p4, [Str.ofString "(", Str.ofString ","], by rw [e]; exact atI_nat rfl, kp (kp upd_same hp5) hp6⟩
    · exact ⟨p5, [Str.ofString "not", Str.ofString "all", Str.ofString "some"], by rw [e]; exact atI_nat rfl, kp upd_same hp6⟩
  refine ⟨_, em, ?_⟩
  have hP6 := kp (o' := .lst [V.ref p2, V.ref p3, V.ref p4, V.ref p5]) (kp (o' := .lst [V.str (Str.ofString "not"), V.str (Str.ofString "all"), V.str (Str.ofString "some")]) (kp (o' := .lst [V.str (Str.ofString "("), V.str (Str.ofString ",")]) (kp (o' := .lst [V.str (Str.ofString ")")]) (kp (o' := .lst [V.str (Str.ofString "and"), V.str (Str.ofString "or"), V.str (Str.ofString "then")]) hP hp2) hp3) hp4) hp5) hp6
  revert s6 gm hP6
  generalize upd (upd (upd (upd (upd H1 p2 (.lst [V.str (Str.ofString "and"), V.str (Str.ofString "or"), V.str (Str.ofString "then")])) p3 (.lst [V.str (Str.ofString ")")])) p4 (.lst [V.str (Str.ofString "("), V.str (Str.ofString ",")])) p5 (.lst [V.str (Str.ofString "not"), V.str (Str.ofString "all"), V.str (Str.ofString "some")])) p6 (.lst [V.ref p2, V.ref p3, V.ref p4, V.ref p5]) = H6
  intro s6 gm hP6
  refine ⟨_, .inl (SqL.of hP6), ?_⟩
  have flat : (ms.map V.str).all flatV = true := by rw [List.all_map, List.all_eq_true]; intro _ _; rfl
  refine ⟨by rw [List.length_map]; omega, by rw [List.length_map]; omega, ?_⟩
  rw [List.length_map, Int.toNat_natCast]
  refine comp_range (fun j acc H7 => H7 = H6 ∧ ∃ ks : List Nat, acc = ks.map (fun (n : Nat) => V.int (n : Int)) ∧ ks.length ≤ j ∧ ∀ n ∈ ks, n < ts.length) ⟨rfl, [], rfl, Nat.le_refl _, by simp⟩ (fun j acc H7 hj hv => ?_) fun acc H7 hv p7 hp7 => ?_
  · obtain ⟨rfl, ks, rfl, hkl, hks⟩ := hv
    refine ⟨sz1000' (by rw [List.length_map]; omega), ?_⟩
    simp only [slotsC, List.replicate_succ, List.replicate_zero, List.map_cons, List.map_nil, List.nil_append, List.cons_append, List.getElem?_cons_zero, List.getElem?_cons_succ, Option.join_some]
    walk_at ""
    refine ⟨_, .inl (SqL.of hP6), V.str ts[j], ?_, ?_⟩
    · rw [Int.zero_add]; exact atI_nat (by rw [List.getElem?_map, List.getElem?_eq_getElem hj]; rfl)
    refine .inl ⟨_, _, rfl, .inl (SqL.of gm), rfl, flat, ?_⟩
    refine ⟨_, rfl, ite2 (fun _ => ⟨rfl, ks ++ [j], ?_, by rw [List.length_append, List.length_singleton]; omega, fun n hn => ?_⟩) fun _ => ⟨rfl, ks, rfl, by omega, hks⟩⟩
    · rw [List.map_append, Int.zero_add]; rfl
    · rcases List.mem_append.mp hn with q | q
      · exact hks n q
      · rw [List.mem_singleton.mp q]; exact hj
  · obtain ⟨rfl, ks, rfl, hkl, hks⟩ := hv
    walk_at ""
    refine ⟨_, .inl (SqL.of upd_same), ?_⟩
    rw [List.length_map]
    have hP7 : ∀ {o : HO}, upd H7 p7 o p = some (.lst (ts.map V.str)) := kp hP6 hp7
    refine ite2 (fun ck => ?_) fun ck => ?_
    · refine ⟨sz1000 (by simp), fun q hq => ⟨_, _, .inl ⟨kp hP7 hq, upd_same, sz1000 (by rw [List.length_map]; simp only [List.length_cons, List.length_nil]; omega), fun r hr' => ?_⟩⟩⟩
      refine fin r _ (ts ++ [odd]) (((s6.trans (same_new hp7 _)).trans (same_new hq _)).trans (same_new hr' _)) (by rw [upd_same, List.map_append]; rfl) (tk_app hts (tk_one todd)) ?_
      rw [wt_app]
      have := wt_one todd
      omega
    · refine ⟨cdiv, _, .inl (SqL.of upd_same), by rw [List.length_map]; omega, _, .inl (SqL.of upd_same), ?_⟩
      rw [List.length_map]
      obtain ⟨j, hj, ej⟩ : ∃ j : Nat, j < ks.length ∧ c / 9 % (ks.length : Int) = j :=
        ⟨(c / 9 % (ks.length : Int)).toNat, by have := Int.emod_lt_of_pos (c / 9) (show (0 : Int) < ks.length by omega); omega, by have := Int.emod_nonneg (c / 9) (show (ks.length : Int) ≠ 0 by omega); omega⟩
      rw [ej]
      refine ⟨V.int (ks[j] : Int), atI_nat (by rw [List.getElem?_map, List.getElem?_eq_getElem hj]; rfl), ?_⟩
      have hm : ks[j] < ts.length := hks _ (List.getElem_mem hj)
      generalize ks[j] = m at hm
      (try walk_at "")
      refine ⟨_, .inl ⟨SqL.of hP7, fun q hq => ⟨cmulR, by decide, by decide, ?_⟩⟩⟩
      obtain ⟨z, hz, ez⟩ := pickS (ts := [Str.ofString "(", Str.ofString ")", Str.ofString ",", Str.ofString "not", Str.ofString "and", Str.ofString "or", Str.ofString "then", Str.ofString "all", Str.ofString "some", Str.ofString "false", x, Str.ofString "X", Str.ofString "xyzxyzxyz", Str.ofString "7"]) (i := c * 48271 % 2147483647 % 9) (Int.emod_nonneg _ (by decide)) (Int.lt_trans (Int.emod_lt_of_pos _ (by decide : (0 : Int) < 9)) (show (9 : Int) < 14 by decide))
      have tz := some_ok z hz
      have gp1 := ((s6.trans (same_new hp7 (.lst (ks.map fun (n : Nat) => V.int (n : Int))))).trans (same_new hq (.lst (cutV (ts.map V.str) none (some (m : Int)))))).seq g1
      refine ⟨_, .inl gp1, _, ez, sz1000 (by simp), fun p8 hp8 => ⟨_, _, .inl ⟨kp upd_same hp8, upd_same, sz1000 (by have := cl none (some (m : Int)); simp only [List.length_cons, List.length_nil]; omega), fun r hr' => ?_⟩⟩⟩
      (try walk_at "")
      refine ⟨_, .inl ⟨SqL.of (kp (kp (kp hP7 hq) hp8) hr'), fun q9 hq9 => ⟨_, _, .inl ⟨kp upd_same hq9, upd_same, sz1000 (by have := cl none (some (m : Int)); have := cl (some ((m : Int) + 1)) none; simp only [List.length_append, List.length_cons, List.length_nil]; omega), fun r9 hr9 => ?_⟩⟩⟩⟩
      refine fin r9 _ (ts.take m ++ [z] ++ ts.drop (m + 1)) (((((((s6.trans (same_new hp7 _)).trans (same_new hq _)).trans (same_new hp8 _)).trans (same_new hr' _)).trans (same_new hq9 _)).trans (same_new hr9 _))) (by rw [upd_same, show (m : Int) + 1 = ((m + 1 : Nat) : Int) by omega, cut_lo, cut_hi, List.map_append, List.map_append]; rfl) (tk_app (tk_app (tk_take _) (tk_one tz)) (tk_drop _)) ?_
      rw [wt_app, wt_app]
      have := wt_split ts m
      have := wt_drop ts m (m + 1) (by omega)
      have := wt_one tz
      omega
end
section
variable {P : Program} {w : World} {K : PySem.W.Frag} {mg : Str → Option Value} {base0 : Heap} {D : Defs}
theorem at0' {α : Type} {xs : List α} {i : Nat} {v : α} (h : xs[i]? = some v) : atI xs (0 + (i : Int)) = some v := by rw [Int.zero_add]; exact atI_nat h
theorem fold_list : ∀ (l : List (Array Nat)) (a : Array Nat), (l.foldl (· ++ ·) a).toList = a.toList ++ (l.map Array.toList).flatten
  | [], a => by simp
  | b :: l, a => by rw [List.foldl_cons, fold_list l]; simp
theorem times_list (n : Nat) : (timesS " " n).cps.toList = List.replicate n 32 := by
  unfold timesS
  rw [fold_list]
  have : (Str.cps " ").toList = [32] := by decide +kernel
  rw [List.map_replicate, this]
  induction n with
  | zero => rfl
  | succ n ih => rw [List.replicate_succ, List.replicate_succ, List.flatten_cons, ← ih]; simp
def spJoined (K : PySem.W.Frag) : Sp := fun vs H Q _ => ∃ (p : Addr) (us : List Str) (a : Addr) (ns : List Int) (b : Bool), vs = [.ref p, .ref a, .bl b] ∧ SqL K H p (us.map V.str) ∧ SqL K H a (ns.map V.int) ∧ ns.length ≤ 63 ∧ us.length ≤ 20100 ∧ (∀ t ∈ us, Tk t) ∧ wt us ≤ 38000 ∧
  ∀ (x : Str) H', Same H H' → (∀ c ∈ x.cps.toList, c < 128) → x.length ≤ wt us → Q (.str x) H'
theorem ok_joined (T : Tx K mg D) : FnOk P w K mg base0 CX0 2 D.a_joined_L D.d_joined_L ["_law_tokens_here", "_law_script", "_law_tight"] (spJoined K) := by
  have G_mixed_L := ok_mixed_L (P := P) (w := w) (base0 := base0) T
  refine T.F_joined_L.ok sc_joined_L (fun vs H Q E h => ?_) (fun cdv A outer s H vs Q E hr h => ?_)
  · obtain ⟨p, us, a, ns, b, rfl, _⟩ := h; rfl
  obtain ⟨p, us, a, ns, b, rfl, hp, hS, hn, hln, hts, hw, k⟩ := h
  have hu := hr.units
  have hr_mixed_L : Room 1 _ := hr.mono (by decide)
  refine ⟨_, (pss_cons (ps_set (i := 3) sc_joined_L.nd (by rfl) (by walk_at "o") pe_str)
    (pss_cons (ps_for PassesOwn.never (by rfl) (pi_range1 (by rfl) T.z_range (pa_cons (pe_callB (callA_len K) (by rfl) T.z_len PySem.boot_len (pa_cons (pv 0) pa_nil)) pa_nil)) (pg_name (i := 4) sc_joined_L.nd (by rfl) (by walk_at "o"))
      (pss_cons (ps_set (i := 5) sc_joined_L.nd (by rfl) (by walk_at "o") (pe_op op_modP (pe_call G_mixed_L hr_mixed_L (by rfl) T.m_mixed_L T.F_mixed_L.kp T.b_mixed_L .nil pass0 (pa_cons (pv 1) (pa_cons (pe_op (opA_add K) pe_int (pv 4)) pa_nil))) pe_int))
    (pss_cons (ps_if (PW.pt (pw_and (pt_not (pt_val (pv 2))) (pw_and (pt_cmpR (opC_eq K hu) (pv 5) pe_int (nomark _)) (pw_and (pt_cmpR (opC_ne K hu) (pv 3) pe_str (nomark _)) (pw_and (pt_val (pe_bmA0 K PySem.F.plainAttrs_str PySem.F.slot_str_isalnum PySem.F.type_str_isalnum mt_isalnum (pe_ix (ixA K) (pv 3) (pe_un un_neg pe_int) (fun _ _ => rfl)))) (pw_and1 (pt_val (pe_bmA0 K PySem.F.plainAttrs_str PySem.F.slot_str_isalnum PySem.F.type_str_isalnum mt_isalnum (pe_ix (ixA K) (pe_ix (ixA K) (pv 0) (pv 4) (fun _ _ => rfl)) pe_int (fun _ _ => rfl)))))))))) (pss_one (ps_set (i := 5) sc_joined_L.nd (by rfl) (by walk_at "o") pe_int)) pss_nil)
    (pss_one (ps_set (i := 3) sc_joined_L.nd (by rfl) (by walk_at "o") (pe_op (opA_add K) (pe_op (opA_add K) (pv 3) (pe_op op_mulS pe_str (pv 5))) (pe_ix (ixA K) (pv 0) (pv 4) (fun _ _ => rfl))))))))
    (pss_one (ps_ret (pv 3))))), ?_⟩
  walk_at "S"
  walk_at ""
  refine ⟨_, .inl hp, by rw [List.length_map]; omega, by rw [List.length_map]; omega, ?_⟩
  rw [List.length_map, Int.toNat_natCast]
  refine forW_range (fun i σ H6 => Same H H6 ∧ ∃ (x : Str) (u5 u6 : Option V), σ = [some (.ref p), some (.ref a), some (.bl b), some (.str x), u5, u6] ∧ (∀ c ∈ x.cps.toList, c < 128) ∧ x.length ≤ wt (us.take i))
    ⟨Same.refl _, Str.ofString "", _, _, rfl, (fun c hc => absurd (show c ∈ ([] : List Nat) from hc) (by simp)), Nat.zero_le _⟩ (fun i σ H6 hi hv => ?_) fun σ H6 hv => ?_
  · obtain ⟨s6, x, u5, u6, rfl, hx, hxl⟩ := hv
    walk_at ""
    refine ⟨a, ns, _, rfl, s6.seq hS, by omega, by omega, ?_⟩
    walk_at ""
    obtain ⟨tk, htk⟩ : ∃ tk, us[i]? = some tk := ⟨_, List.getElem?_eq_getElem hi⟩
    have ok := hts tk (List.mem_of_getElem? htk)
    have htv : (us.map V.str)[i]? = some (.str tk) := by rw [List.getElem?_map, htk]; rfl
    have etk : us.take (i + 1) = us.take i ++ [tk] := by rw [List.take_succ, htk]; rfl
    have w0 := wt_split us (i + 1)
    have w1 : wt (us.take (i + 1)) = wt (us.take i) + (tk.length + 3) := by rw [etk, wt_app]; rfl
    have bl1 : (Str.ofString " ").length = 1 := by decide +kernel
    have lapp : ∀ x y : Str, (x ++ y).length = x.length + y.length := fun x y => by rw [← len_cps, cps_append', List.length_append, len_cps, len_cps]
    have rest : ∀ (F : Int) (w6 : Option V), 0 ≤ F → F ≤ 2 → F < 1000 ∧ -1000 < F ∧ (Str.ofString " ").length ≤ 1000 ∧ x.length + (timesS (Str.ofString " ") F.toNat).length ≤ sizeLine ∧ ∃ xs, (SqL K H6 p xs ∨ SqT K H6 p xs) ∧ ∃ v, atI xs (0 + (i : Int)) = some v ∧ rAddA K (V.str (x ++ timesS (Str.ofString " ") F.toNat)) v H6 fun x H1 => Same H H1 ∧ ∃ (x_5 : Str) (u5 u6 : Option V),
        [some (V.ref p), some (V.ref a), some (V.bl b), some x, some (V.int (0 + (i : Int))), w6] = [some (V.ref p), some (V.ref a), some (V.bl b), some (V.str x_5), u5, u6] ∧ (∀ c ∈ x_5.cps.toList, c < 128) ∧ x_5.length ≤ wt (List.take (i + 1) us) := fun F w6 f0 f2 => by
      obtain ⟨n, rfl⟩ : ∃ n : Nat, F = n := ⟨F.toNat, by omega⟩
      have tl : (timesS (Str.ofString " ") n).length = n := by rw [timesS_len, bl1]; omega
      rw [Int.toNat_natCast]
      refine ⟨by omega, by omega, by omega, sz1000 (by omega), _, .inl (s6.seq hp), _, at0' htv, ?_⟩
      rw [w_addS]
      refine ⟨sz1000 (by rw [lapp]; omega), s6, _, _, _, rfl, fun c hc => ?_, ?_⟩
      · rw [cps_append', cps_append', times_list] at hc
        rcases List.mem_append.mp hc with hc | hc
        · rcases List.mem_append.mp hc with hc | hc
          · exact hx c hc
          · rw [List.eq_of_mem_replicate hc]; decide
        · exact ok.2.2 c hc
      · rw [lapp, lapp, tl]
        omega
    have m0 := Int.emod_nonneg (mixedI ns (500 + (0 + (i : Int)))) (show (3 : Int) ≠ 0 by decide)
    have m1 := Int.emod_lt_of_pos (mixedI ns (500 + (0 + (i : Int)))) (show (0 : Int) < 3 by decide)
    refine ⟨by decide, ite2 (fun c0 => ite2 (fun c1 => ite2 (fun c2 => ?_) fun c2 => rest _ _ (by omega) (by omega)) fun c1 => rest _ _ (by omega) (by omega)) fun c0 => rest _ _ (by omega) (by omega)⟩
    have hxe : x.cps.toList ≠ [] := fun z => c2 (cps_inj z)
    obtain ⟨y, c, ey⟩ : ∃ y c, x.cps.toList = y ++ [c] := ⟨_, _, (List.dropLast_concat_getLast hxe).symm⟩
    refine ⟨1, rfl, ?_⟩
    walk_at ""
    refine ⟨sz1000 (by omega), c, by rw [ey]; exact atI_last y c, trivial, ?_⟩
    (try walk_at "")
    refine ite2 (fun c3 => ?_) fun c3 => rest _ _ (by omega) (by omega)
    refine ⟨_, .inl (s6.seq hp), _, at0' htv, ?_⟩
    walk_at ""
    obtain ⟨d, r, ed⟩ : ∃ d r, tk.cps.toList = d :: r := by
      cases e : tk.cps.toList with
      | nil => exact absurd (cps_inj e) ok.1
      | cons d r => exact ⟨d, r, rfl⟩
    refine ⟨sz1000 (by have := ok.2.1; omega), d, by rw [ed]; exact atI_nat (j := 0) rfl, trivial, ?_⟩
    (try walk_at "")
    exact ite2 (fun c4 => rest 1 _ (by omega) (by omega)) fun c4 => rest _ _ (by omega) (by omega)
  · obtain ⟨s6, x, u5, u6, rfl, hx, hxl⟩ := hv
    walk_at ""
    rw [List.take_of_length_le (Nat.le_refl _)] at hxl
    exact k x H6 s6 hx hxl
end
section
variable {P : Program} {w : World} {K : PySem.W.Frag} {mg : Str → Option Value} {base0 : Heap} {D : Defs}
theorem tok_sum : ∀ {S : Stm}, S.Ok → ((toks S).map fun t => t.length + 3).sum ≤ 60 * S.size
  | .is wd us, h => by
    have h1 := h.1.len.1
    have h8 : ∀ u ∈ us, u.length ≤ 8 := Stm.Ok.term8 h
    have h3 : us.length ≤ 3 := h.2.1
    have lb : (Str.ofString "(").length = 1 := by decide +kernel
    have lc : (Str.ofString ")").length = 1 := by decide +kernel
    have ld : (Str.ofString ",").length = 1 := by decide +kernel
    have ld' : ("," : Str).length = 1 := by decide +kernel
    match us, h8, h3 with
    | [], _, _ => simp only [toks, Stm.size, if_true, List.map_cons, List.map_nil, List.sum_cons, List.sum_nil]; omega
    | [a], h8, _ =>
      have := h8 a (by simp)
      simp [toks, Stm.size, commas, lb, lc]; omega
    | [a, b], h8, _ =>
      have := h8 a (by simp)
      have := h8 b (by simp)
      simp [toks, Stm.size, commas, lb, lc, ld, ld']; omega
    | [a, b, c], h8, _ =>
      have := h8 a (by simp)
      have := h8 b (by simp)
      have := h8 c (by simp)
      simp [toks, Stm.size, commas, lb, lc, ld, ld']; omega
    | a :: b :: c :: d :: r, _, h3 => simp at h3
  | .fls, _ => by
    have : (Str.ofString "false").length = 5 := by decide +kernel
    simp [toks, Stm.size, this]
  | .neg A, h => by
    have ih := tok_sum (S := A) h
    have : (Str.ofString "not").length = 3 := by decide +kernel
    simp only [toks, Stm.size, List.map_cons, List.sum_cons, this]; omega
  | .bi o A B, h => by
    have ih := tok_sum (S := A) h.1
    have ih2 := tok_sum (S := B) h.2
    have lb : (Str.ofString "(").length = 1 := by decide +kernel
    have lc : (Str.ofString ")").length = 1 := by decide +kernel
    have := bi_len o
    simp only [toks, Stm.size, List.map_cons, List.map_append, List.sum_cons, List.sum_append, List.map_nil, List.sum_nil, lb, lc]; omega
  | .qu q X A, h => by
    have ih := tok_sum (S := A) h.2
    have := qu_len q
    have := h.1.len.1
    simp only [toks, Stm.size, List.map_cons, List.sum_cons]; omega
theorem sum_ge : ∀ l : List Str, 3 * l.length ≤ (l.map fun t => t.length + 3).sum
  | [] => by simp
  | a :: l => by have := sum_ge l; simp only [List.map_cons, List.sum_cons, List.length_cons]; omega
theorem nm_tk {f x : Str} (hf : ∀ c ∈ f.cps.toList, c < 128) (h : Nm f x) : Tk x := by
  have hl := h.len
  obtain ⟨c, r, e, hc, hr, _, _⟩ := h
  refine ⟨fun z => ?_, by omega, fun d hd => ?_⟩
  · rw [z] at e; cases e
  · rw [e] at hd
    rcases List.mem_cons.mp hd with rfl | hd
    · exact hf _ hc
    · exact (okC_lits.2.2.1 d (hr d hd)).1
theorem small_tk {x : Str} (h : Nm smallS x) : Tk x := nm_tk (fun c hc => (okC_lits.1 c hc).1) h
theorem great_tk {x : Str} (h : Nm greatS x) : Tk x := nm_tk (fun c hc => (okC_lits.2.1 c hc).1) h
theorem lit_tk : Tk (Str.ofString "(") ∧ Tk (Str.ofString ")") ∧ Tk (Str.ofString ",") ∧ Tk (Str.ofString "false") ∧ Tk (Str.ofString "not") := by unfold Tk; decide +kernel
theorem bi_tk (o : Bi) : Tk o.txt := by cases o <;> (unfold Tk; decide +kernel)
theorem qu_tk (q : Bool) : Tk (qtx q) := by cases q <;> (unfold Tk; decide +kernel)
theorem toks_tk : ∀ {S : Stm}, S.Ok → ∀ t ∈ toks S, Tk t
  | .is w us, h, t, ht => by
    rcases List.mem_cons.mp ht with rfl | ht
    · exact small_tk h.1
    · cases us with
      | nil => cases ht
      | cons u us =>
        have hu : ∀ v ∈ u :: us, Tk v := fun v hv => (h.2.2 v hv).elim small_tk great_tk
        rw [if_neg (by simp), commas_is] at ht
        simp only [List.cons_append, List.mem_cons, List.mem_append, cmT, List.mem_flatMap, List.not_mem_nil, or_false] at ht
        rcases ht with rfl | rfl | ⟨x, hx, rfl | rfl⟩ | rfl
        · exact lit_tk.1
        · exact hu _ List.mem_cons_self
        · exact lit_tk.2.2.1
        · exact hu _ (List.mem_cons_of_mem _ hx)
        · exact lit_tk.2.1
  | .fls, _, t, ht => by rw [List.mem_singleton.mp ht]; exact lit_tk.2.2.2.1
  | .neg A, h, t, ht => by
    rcases List.mem_cons.mp ht with rfl | ht
    · exact lit_tk.2.2.2.2
    · exact toks_tk (S := A) h t ht
  | .bi o A B, h, t, ht => by
    simp only [toks, List.mem_cons, List.mem_append, List.not_mem_nil, or_false] at ht
    rcases ht with rfl | ht | rfl | ht | rfl
    · exact lit_tk.1
    · exact toks_tk (S := A) h.1 t ht
    · exact bi_tk o
    · exact toks_tk (S := B) h.2 t ht
    · exact lit_tk.2.1
  | .qu q X A, h, t, ht => by
    rcases List.mem_cons.mp ht with rfl | ht
    · exact qu_tk q
    rcases List.mem_cons.mp ht with rfl | ht
    · exact great_tk h.1
    · exact toks_tk (S := A) h.2 t ht
theorem size_toks : ∀ S : Stm, S.size ≤ (toks S).length
  | .is w us => by simp [Stm.size, toks]
  | .fls => by simp [Stm.size, toks]
  | .neg A => by have := size_toks A; simp only [Stm.size, toks, List.length_cons]; omega
  | .bi o A B => by have := size_toks A; have := size_toks B; simp only [Stm.size, toks, List.length_cons, List.length_append, List.length_nil]; omega
  | .qu q X A => by have := size_toks A; simp only [Stm.size, toks, List.length_cons]; omega
theorem read_some {x : Str} {S : Stm} (h : readS x = some S) : TokOk S ∧ S.deep ≤ 40 ∧ runsS x = toks S ∧ x.cps.toList.all okSign = true := by
  unfold readS at h
  split at h
  · rename_i hx
    cases e : pStm 40 (runsS x ++ [Str.ofString ""]) with
    | none => rw [e] at h; cases h
    | some p =>
      obtain ⟨S', l⟩ := p
      rw [e] at h
      cases l with
      | nil => cases h
      | cons c l =>
        have h' : (if c = Str.ofString "" then some S' else none) = some S := h
        by_cases hc : c = Str.ofString ""
        · rw [if_pos hc] at h'
          cases h'
          obtain ⟨k1, k2, k3⟩ := pStm_ok _ _ _ _ e
          refine ⟨k1, k2, ?_, hx⟩
          have hw := pStm_wf e (runs_wf x)
          obtain ⟨rs, e2, k4⟩ := hw
          cases rs with
          | nil =>
            obtain ⟨_, rfl⟩ := List.cons.inj e2
            rw [hc] at k3
            exact List.append_cancel_right k3
          | cons r rs => exact absurd (hc.symm.trans (List.cons.inj e2).1).symm (k4 r List.mem_cons_self)
        · rw [if_neg hc] at h'; cases h'
  · cases h
theorem txt_toks {S : Stm} (h : S.Ok) {ts : List Str} (e : ts.map (fun r => r.cps.toList) = wG [] S.txt.cps.toList) : ts = toks S := by
  have := txt_words (ok_run h) (l := []) (.inl rfl)
  rw [List.append_nil] at this
  rw [this] at e
  exact map_inj (by simpa [wG_nil, flushW] using e)
end
section
variable {P : Program} {w : World} {K : PySem.W.Frag} {mg : Str → Option Value} {base0 : Heap} {D : Defs}
theorem strs_lst {K : PySem.W.Frag} {H : Hp} {a : Addr} {ts : List Str} (h : SqL K H a (ts.map V.str)) : RepD K H (.lst (ts.map Dt.str)) (.ref a) :=
  .lst h (by simp) fun j d x h1 h2 => by
    rw [List.getElem?_map] at h1 h2
    cases e : ts[j]? with
    | none => rw [e] at h1; cases h1
    | some t => rw [e] at h1 h2; cases h1; cases h2; exact .str t
theorem ok_law (T : Tx K mg D) : FnOk P w K mg base0 CX0 92 D.a_law D.d_law ["_law_script"] (spLaw K) := by
  have G_statement_by_L := ok_statement_by_L (P := P) (w := w) (base0 := base0) T
  have G_many_by_L := ok_many_by_L (P := P) (w := w) (base0 := base0) T
  have G_cell_at_L := ok_cell_at_L (P := P) (w := w) (base0 := base0) T
  have G_mixed_L := ok_mixed_L (P := P) (w := w) (base0 := base0) T
  have G_name_by_L := ok_name_by_L (P := P) (w := w) (base0 := base0) T
  have G_written_L := ok_written_L (P := P) (w := w) (base0 := base0) T 40
  have G_tokens_L := ok_tokens (P := P) (w := w) (base0 := base0) T
  have G_spoilt_L := ok_spoilt (P := P) (w := w) (base0 := base0) T
  have G_joined_L := ok_joined (P := P) (w := w) (base0 := base0) T
  have G_fit_L := ok_fit (P := P) (w := w) (base0 := base0) T 40
  have G_read := ok_read (P := P) (w := w) (base0 := base0) T
  have G_refused_right_L := fun b : Heap => ok_refused (P := P) (w := w) (base0 := b) T
  refine T.F_law.ok sc_law (fun vs H Q E h => ?_) (fun cdv A outer s H vs Q E hr h => ?_)
  · obtain ⟨a, ns, rfl, _⟩ := h; rfl
  obtain ⟨a, ns, rfl, hS, hl, k⟩ := h
  have hu := hr.units
  have hr_statement_by_L : Room 4 _ := hr.mono (by decide)
  have hr_many_by_L : Room 1 _ := hr.mono (by decide)
  have hr_cell_at_L : Room 1 _ := hr.mono (by decide)
  have hr_mixed_L : Room 1 _ := hr.mono (by decide)
  have hr_name_by_L : Room 2 _ := hr.mono (by decide)
  have hr_written_L : Room 42 _ := hr.mono (by decide)
  have hr_tokens_L : Room 1 _ := hr.mono (by decide)
  have hr_spoilt_L : Room 1 _ := hr.mono (by decide)
  have hr_joined_L : Room 2 _ := hr.mono (by decide)
  have hr_fit_L : Room 43 _ := hr.mono (by decide)
  have hr_read : Room 89 _ := hr.mono (by decide)
  have hr_refused_right_L : Room 90 _ := hr.mono (by decide)
  have fin : ∀ (x : Str) (H5 : Hp) (σ0 : St), Same H H5 → (∀ c ∈ x.cps.toList, c < 128) → x.length ≤ 40000 → σ0[5]? = some (some (.str x)) → ∃ G : Addr → St → Hp → Prop, (spRead K D [V.str x] H5 (fun y H1 => spFit K 40 [y, V.int 40] H1 (fun x_5 H1 => ∃ c, x_5 = V.bl c ∧ if c = true then
      spOfC K (fun S => S.Ok ∧ S.size ≤ 90000) (fun S => V.str S.txt) 40 [y] H1 (fun z H1 => spTokens [z] H1 (fun x' H1 => spTokens [V.str x] H1 (fun y H2 => rEqC K x' y H2 Q) E0) E0) E0 else Q (V.bl false) H1) E0) fun c x_5 H' => ∃ C, c = Value.ref C ∧ G C σ0 H') ∧
      ∀ (C : Addr) (σ' : St) (H' : Hp), G C σ' H' → ∃ b, SubX K C D.x_NoStatement b ∧ if b = true then tVar 5 σ' H' fun x H1 => spRef [x] H1 Q E0 else False := fun x H5 σ0 s5 hx hlx h5 => by
    have hx' : ∀ c ∈ x.cps.toList, c < 1114112 := fun c hc => Nat.lt_trans (hx c hc) (by decide)
    refine ⟨fun C σ' H' => C = D.x_NoStatement ∧ readS x = none ∧ σ' = σ0, ⟨x, rfl, hlx, hx', fun S' e v' H6 rv s6 => ?_, fun e H' => ⟨_, rfl, rfl, e, rfl⟩⟩, ?_⟩
    · obtain ⟨k1, k2, k3, k4⟩ := read_some e
      have ok' := tok_ok k1
      refine ⟨v', S', 40, rfl, rv, k1, k2, by omega, by decide, fun H7 s7 => ⟨_, rfl, ?_⟩⟩
      rw [if_pos rfl]
      have hsz : S'.size ≤ 90000 := by have a1 := size_toks S'; have a2 := (runs_sum x).2; rw [k3] at a2; omega
      refine ⟨v', S', rfl, rv.same s7, ⟨ok', hsz⟩, k2, fun H8 s8 => ?_⟩
      refine ⟨S'.txt, rfl, okT_txt ok', by have := Stm.txt_len ok'; omega, fun p1 H9 t1 s9 hp9 g9 e9 => ?_⟩
      refine ⟨x, rfl, fun c hc => ⟨hx c hc, List.all_eq_true.mp k4 c hc⟩, by omega, fun p2 H10 t2 s10 hp10 g10 e10 => ?_⟩
      obtain rfl := txt_toks ok' e9
      obtain rfl : t2 = toks S' := map_inj (by rw [e10, ← runs_map, k3])
      rw [w_eqRC]
      refine ⟨_, _, strs_lst (SqL.of (s10 _ _ g9)), strs_lst (SqL.of g10), ?_, ?_⟩
      · have e0 : ∀ l : List Str, Dt.deps (l.map Dt.str) = 0 := fun l => by
          induction l with
          | nil => rfl
          | cons x l ih => simp only [List.map_cons, Dt.deps, ih]; rfl
        simp only [Dt.dep, e0]
        omega
      · rw [decide_eq_true rfl]
        exact k _
    · rintro C σ' H' ⟨rfl, e, rfl⟩
      refine ⟨true, T.v_NoStatement_NoStatement, ?_⟩
      rw [if_pos rfl]
      exact ⟨_, h5, x, rfl, hlx, hx', e, fun H' => k _⟩
  refine ⟨_, (pss_cons_b (ps_set_b (i := 1) sc_law.nd (by rfl) (by walk_at "o") (pe_call_b G_statement_by_L hr_statement_by_L (by rfl) T.m_statement_by_L T.F_statement_by_L.kp T.b_statement_by_L .nil pass0 (pa_cons_b (pv 0) (pa_int_b (pa_cons (pe_call G_many_by_L hr_many_by_L (by rfl) T.m_many_by_L T.F_many_by_L.kp T.b_many_by_L .nil pass0 (pa_cons (pe_call G_cell_at_L hr_cell_at_L (by rfl) T.m_cell_at_L T.F_cell_at_L.kp T.b_cell_at_L .nil pass0 (pa_cons (pv 0) (pa_cons pe_int pa_nil))) pa_nil)) pa_nil)))))
    (pss_cons1 (PS.up (ps_set (i := 2) sc_law.nd (by rfl) (by walk_at "o") (pe_call G_name_by_L hr_name_by_L (by rfl) T.m_name_by_L T.F_name_by_L.kp T.b_name_by_L .nil pass0 (pa_cons (pe_op op_fdivP (pe_call G_mixed_L hr_mixed_L (by rfl) T.m_mixed_L T.F_mixed_L.kp T.b_mixed_L .nil pass0 (pa_cons (pv 0) (pa_cons pe_int pa_nil))) pe_int) (pa_cons pe_str (pa_cons pe_int pa_nil))))))
    (pss_cons1 (PS.up (ps_set (i := 3) sc_law.nd (by rfl) (by walk_at "o") (pe_cmpR (opC_eq K hu) (pe_op op_modP (pe_call G_cell_at_L hr_cell_at_L (by rfl) T.m_cell_at_L T.F_cell_at_L.kp T.b_cell_at_L .nil pass0 (pa_cons (pv 0) (pa_cons pe_int pa_nil))) pe_int) pe_int (nomark _))))
    (pss_cons1 (PS.up (ps_set (i := 4) sc_law.nd (by rfl) (by walk_at "o") (pe_call G_tokens_L hr_tokens_L (by rfl) T.m_tokens_L T.F_tokens_L.kp T.b_tokens_L .nil pass0 (pa_cons (pe_call G_written_L hr_written_L (by rfl) T.m_written_L T.F_written_L.kp T.b_written_L .nil pass0 (pa_cons (pv 1) pa_nil)) pa_nil))))
    (pss_cons1 (PS.up (ps_if (PW.pt (pw_and (pt_not (pt_val (pv 3))) (pw_and1 (pt_cmpR opA_lt (pe_op op_modP (pe_call G_cell_at_L hr_cell_at_L (by rfl) T.m_cell_at_L T.F_cell_at_L.kp T.b_cell_at_L .nil pass0 (pa_cons (pv 0) (pa_cons pe_int pa_nil))) pe_int) pe_int (nomark _))))) (pss_one (ps_set (i := 4) sc_law.nd (by rfl) (by walk_at "o") (pe_call G_spoilt_L hr_spoilt_L (by rfl) T.m_spoilt_L T.F_spoilt_L.kp T.b_spoilt_L .nil pass0 (pa_cons (pv 4) (pa_cons (pe_call G_cell_at_L hr_cell_at_L (by rfl) T.m_cell_at_L T.F_cell_at_L.kp T.b_cell_at_L .nil pass0 (pa_cons (pv 0) (pa_cons pe_int pa_nil))) (pa_cons (pv 2) pa_nil)))))) pss_nil))
    (pss_cons1 (PS.up (ps_set (i := 5) sc_law.nd (by rfl) (by walk_at "o") (pe_call G_joined_L hr_joined_L (by rfl) T.m_joined_L T.F_joined_L.kp T.b_joined_L .nil pass0 (pa_cons (pv 4) (pa_cons (pv 0) (pa_cons (pv 3) pa_nil))))))
    (pss_cons1 (PS.up (ps_if (pt_cmpR (opC_eq K hu) (pe_op op_modP (pe_call G_cell_at_L hr_cell_at_L (by rfl) T.m_cell_at_L T.F_cell_at_L.kp T.b_cell_at_L .nil pass0 (pa_cons (pv 0) (pa_cons pe_int pa_nil))) pe_int) pe_int (nomark _)) (pss_cons (ps_set (i := 6) sc_law.nd (by rfl) (by walk_at "o") (pe_op op_modP (pe_op op_fdivP (pe_call G_cell_at_L hr_cell_at_L (by rfl) T.m_cell_at_L T.F_cell_at_L.kp T.b_cell_at_L .nil pass0 (pa_cons (pv 0) (pa_cons pe_int pa_nil))) pe_int) (pe_op (opA_add K) (pe_callB (callA_len K) (by rfl) T.z_len PySem.boot_len (pa_cons (pv 5) pa_nil)) pe_int)))
    (pss_cons (ps_set (i := 7) sc_law.nd (by rfl) (by walk_at "o") (pe_ix (ixA K) pe_str (pe_op op_modP (pe_call G_mixed_L hr_mixed_L (by rfl) T.m_mixed_L T.F_mixed_L.kp T.b_mixed_L .nil pass0 (pa_cons (pv 0) (pa_cons pe_int pa_nil))) pe_int) (fun _ _ => rfl)))
    (pss_one (ps_set (i := 5) sc_law.nd (by rfl) (by walk_at "o") (pe_op (opA_add K) (pe_op (opA_add K) (pe_slice (slA K) (pv 5) po_none (po_some (pv 6))) (pv 7)) (pe_slice (slA K) (pv 5) (po_some (pv 6)) po_none)))))) pss_nil))
    (pss_cons1 (ps_tryH (Fnc.wish fnc_of _) (fun G pins E Fn ho hp => (pss_one1 (ps_set1 (i := 8) sc_law.nd (by rfl) (by walk_at "o") (pe_callX1 Fn ho G_read hr_read (by rfl) T.m_read T.F_read.kp T.b_read .nil (pa_cons1 (PE.up (pv 5)) (PA.up pa_nil)))))) (ph_clsH (Fnc.wish fnc_of _) (by rfl) T.x_NoStatement.1 (fun pins e oe St => (pss_one1 (ps_ret1 (pe_callS (Fnc.wish fnc_of _) St G_refused_right_L hr_refused_right_L (by rfl) T.m_refused_right_L T.F_refused_right_L.kp T.b_refused_right_L .nil (pa_cons1 (PE.up (pv 5)) (PA.up pa_nil)))))) ph_nil1) pss_nil)
    (pss_one1 (PS.up (ps_ret (pe_and (pe_call G_fit_L hr_fit_L (by rfl) T.m_fit_L T.F_fit_L.kp T.b_fit_L .nil pass0 (pa_cons (pv 8) (pa_cons pe_int pa_nil))) (pe_one (pe_cmpR (opC_eq K hu) (pe_call G_tokens_L hr_tokens_L (by rfl) T.m_tokens_L T.F_tokens_L.kp T.b_tokens_L .nil pass0 (pa_cons (pe_call G_written_L hr_written_L (by rfl) T.m_written_L T.F_written_L.kp T.b_written_L .nil pass0 (pa_cons (pv 8) pa_nil)) pa_nil)) (pe_call G_tokens_L hr_tokens_L (by rfl) T.m_tokens_L T.F_tokens_L.kp T.b_tokens_L .nil pass0 (pa_cons (pv 5) pa_nil)) (nomark _))))))))))))))), ?_⟩
  walk_at "S"
  walk_at ""
  refine ⟨a, ns, 0, rfl, hS, by decide, _, rfl, fun m m0 m1 => ?_⟩
  refine ⟨a, ns, 3, m, rfl, hS, by decide, by decide, m0, m1, fun S v H1 s1 rS oS dS zS => ?_⟩
  (try walk_at "")
  refine ⟨a, ns, 3, rfl, s1.seq hS, by decide, by decide, ?_⟩
  (try walk_at "")
  refine ⟨cdiv, _, _, _, rfl, .inl rfl, fun x1 H2 s2 hx1 => ?_⟩
  (try walk_at "")
  refine ⟨a, ns, 2, rfl, (s1.trans s2).seq hS, by decide, ?_⟩
  (try walk_at "")
  refine ⟨by decide, v, S, rfl, rS.same s2, ⟨oS, by omega⟩, dS, fun H3 s3 => ?_⟩
  have hsum : wt (toks S) ≤ 60 * S.size := tok_sum oS
  have hcnt : 3 * (toks S).length ≤ wt (toks S) := sum_ge (toks S)
  refine ⟨S.txt, rfl, okT_txt oS, by have := Stm.txt_len oS; omega, fun p H4 ts s4 hp4 hts ets => ?_⟩
  obtain rfl := txt_toks oS ets
  have tks := toks_tk oS
  have sa4 := ((s1.trans s2).trans s3).trans s4
  (try walk_at "")
  have cell2 : ∀ (H' : Hp) (Q' : VK), Same H H' → Q' (.int (cellI ns 2)) H' → spCell K [V.ref a, V.int 2] H' Q' E0 := fun H' Q' s' q => ⟨a, ns, 2, rfl, s'.seq hS, by decide, q⟩
  refine ite2 (fun ct => ?_) fun ct => ?_
  · refine cell2 _ _ sa4 ?_
    (try walk_at "")
    refine ⟨by decide, ite2 (fun c4 => ?_) fun c4 => ?_⟩
    · refine ⟨a, ns, 1, rfl, sa4.seq hS, by decide, ?_⟩
      refine ⟨p, toks S, _, x1, rfl, hts, ?_, by omega, small_tk hx1, tks, fun q us H5 s5 g5 tk5 w5 => ?_⟩
      · cases S <;> simp [toks]
      have hl5 : 3 * us.length ≤ wt us := sum_ge us
      refine ⟨q, us, a, ns, _, rfl, g5, (sa4.trans s5).seq hS, hl, by omega, tk5, by omega, fun x H6 s6 hx hlx => ?_⟩
      have sa6 := (sa4.trans s5).trans s6
      refine cell2 _ _ sa6 ?_
      (try walk_at "")
      refine ⟨by decide, ite2 (fun c5 => absurd c5 (by omega)) fun _ => ?_⟩
      exact fin x H6 _ sa6 hx (by omega) rfl
    · refine ⟨p, toks S, a, ns, _, rfl, SqL.of hts, sa4.seq hS, hl, by omega, tks, by omega, fun x H6 s6 hx hlx => ?_⟩
      have sa6 := sa4.trans s6
      refine cell2 _ _ sa6 ?_
      (try walk_at "")
      refine ⟨by decide, ite2 (fun c5 => ?_) fun c5 => ?_⟩
      · refine cell2 _ _ sa6 ?_
        (try walk_at "")
        refine ⟨cdiv, sz1000 (by omega), by omega, a, ns, 9, rfl, sa6.seq hS, by decide, by decide, ?_⟩
        (try walk_at "")
        have m0 := Int.emod_nonneg (mixedI ns 9) (show (30 : Int) ≠ 0 by decide)
        have m1' := Int.emod_lt_of_pos (mixedI ns 9) (show (0 : Int) < 30 by decide)
        have q0 := Int.emod_nonneg (cellI ns 2 / 5) (show ((x.length : Int) + 1) ≠ 0 by omega)
        have q1 := Int.emod_lt_of_pos (cellI ns 2 / 5) (show (0 : Int) < (x.length : Int) + 1 by omega)
        obtain ⟨j, hj, ej⟩ : ∃ j : Nat, j < 30 ∧ mixedI ns 9 % 30 = j := ⟨(mixedI ns 9 % 30).toNat, by omega, by omega⟩
        rw [ej]
        have ll : (Str.ofString "!\"#$&'*+-./:;<=>?\x40[\\]^_`{|}~\n\t").cps.toList.length = 30 := by decide +kernel
        have l128 : ∀ c ∈ (Str.ofString "!\"#$&'*+-./:;<=>?\x40[\\]^_`{|}~\n\t").cps.toList, c < 128 := by decide +kernel
        have lz : (Str.ofString "!\"#$&'*+-./:;<=>?\x40[\\]^_`{|}~\n\t").length ≤ sizeLine := sz1000 (by decide +kernel)
        obtain ⟨ch, ech⟩ : ∃ ch, (Str.ofString "!\"#$&'*+-./:;<=>?\x40[\\]^_`{|}~\n\t").cps.toList[j]? = some ch := ⟨_, List.getElem?_eq_getElem (by rw [ll]; exact hj)⟩
        have hch : ch < 128 := l128 ch (List.mem_of_getElem? ech)
        refine ⟨by decide, lz, ch, atI_nat ech, ?_⟩
        generalize cellI ns 2 / 5 % ((x.length : Int) + 1) = kk at q0 q1
        obtain ⟨n, rfl⟩ : ∃ n : Nat, kk = n := ⟨kk.toNat, by omega⟩
        have f1 := slice_to x n
        have f2 := slice_from x n
        have lapp : ∀ x y : Str, (x ++ y).length = x.length + y.length := fun x y => by rw [← len_cps, cps_append', List.length_append, len_cps, len_cps]
        have g1 : (Txt.slice x none (some (n : Int))).length = min n x.length := by rw [len_list, f1, List.length_take, ← len_list]
        have g2 : (Txt.slice x (some (n : Int)) none).length = x.length - n := by rw [len_list, f2, List.length_drop, ← len_list]
        have g3 : (⟨#[ch]⟩ : Str).length = 1 := rfl
        refine ⟨sz1000 (by omega), sz1000 (by rw [g1, g3]; omega), sz1000 (by omega), sz1000 (by rw [lapp, g1, g2, g3]; omega), ?_⟩
        refine fin _ H6 _ sa6 (fun c hc => ?_) (by rw [lapp, lapp, g1, g2, g3]; omega) rfl
        rw [cps_append', cps_append', f1, f2] at hc
        rcases List.mem_append.mp hc with hc | hc
        · rcases List.mem_append.mp hc with hc | hc
          · exact hx c (List.mem_of_mem_take hc)
          · rw [List.mem_singleton.mp (show c ∈ [ch] from hc)]; exact hch
        · exact hx c (List.mem_of_mem_drop hc)
      · exact fin x H6 _ sa6 hx (by omega) rfl
  · refine ⟨p, toks S, a, ns, _, rfl, SqL.of hts, sa4.seq hS, hl, by omega, tks, by omega, fun x H6 s6 hx hlx => ?_⟩
    have sa6 := sa4.trans s6
    refine cell2 _ _ sa6 ?_
    (try walk_at "")
    refine ⟨by decide, ite2 (fun c5 => absurd c5 (by omega)) fun _ => ?_⟩
    exact fin x H6 _ sa6 hx (by omega) rfl
end
theorem all_mk {l : PySem.W.OpenLaw} {w : World} {K : PySem.W.Frag} {h : Heap} {mg : Str → Option Value} {fa : Addr} (X : K.In h) (G : h.Ns mainGlobals mg) (hfa : mg "law" = some (.ref fa)) {f0 f1 f2 f3 f4 f5 f6 f7 f8 f9 f10 f11 f12 f13 f14 f15 f16 f17 f18 f19 f20 f21 f22 f23 f24 f25 f26 f27 f28 f29 f30 f31 f32 f33 : Addr}
    {od0 an0 od1 an1 od2 an2 od3 an3 od4 an4 od5 an5 od6 an6 od7 an7 od8 an8 od9 an9 od10 an10 od11 an11 od12 an12 od13 an13 od14 an14 od15 an15 od16 an16 od17 an17 od18 an18 od19 an19 od20 an20 od21 an21 od22 an22 od23 an23 od24 an24 od25 an25 od26 an26 od27 an27 od28 an28 od29 an29 od30 an30 od31 an31 od32 an32 od33 an33 : Option Addr} {sl0 sl1 sl2 sl3 sl4 sl5 sl6 sl7 sl8 sl9 sl10 sl11 sl12 sl13 sl14 sl15 sl16 sl17 sl18 sl19 sl20 sl21 sl22 sl23 sl24 sl25 sl26 sl27 sl28 sl29 sl30 sl31 sl32 sl33 : Array (Option Value)} {oc0 kV0 dc0 pm0 cd0 ct0 oc1 kV1 dc1 pm1 cd1 ct1 oc2 kV2 dc2 pm2 cd2 ct2 oc3 kV3 dc3 pm3 cd3 ct3 oc4 kV4 dc4 pm4 cd4 ct4 oc5 kV5 dc5 pm5 cd5 ct5 oc6 kV6 dc6 pm6 cd6 ct6 oc7 kV7 dc7 pm7 cd7 ct7 oc8 kV8 dc8 pm8 cd8 ct8 oc9 kV9 dc9 pm9 cd9 ct9 oc10 kV10 dc10 pm10 cd10 ct10 oc11 kV11 dc11 pm11 cd11 ct11 oc12 kV12 dc12 pm12 cd12 ct12 oc13 kV13 dc13 pm13 cd13 ct13 oc14 kV14 dc14 pm14 cd14 ct14 oc15 kV15 dc15 pm15 cd15 ct15 oc16 kV16 dc16 pm16 cd16 ct16 oc17 kV17 dc17 pm17 cd17 ct17 oc18 kV18 dc18 pm18 cd18 ct18 oc19 kV19 dc19 pm19 cd19 ct19 oc20 kV20 dc20 pm20 cd20 ct20 oc21 kV21 dc21 pm21 cd21 ct21 oc22 kV22 dc22 pm22 cd22 ct22 oc23 kV23 dc23 pm23 cd23 ct23 oc24 kV24 dc24 pm24 cd24 ct24 oc25 kV25 dc25 pm25 cd25 ct25 oc26 kV26 dc26 pm26 cd26 ct26 oc27 kV27 dc27 pm27 cd27 ct27 oc28 kV28 dc28 pm28 cd28 ct28 oc29 kV29 dc29 pm29 cd29 ct29 oc30 kV30 dc30 pm30 cd30 ct30 oc31 kV31 dc31 pm31 cd31 ct31 oc32 kV32 dc32 pm32 cd32 ct32 oc33 kV33 dc33 pm33 cd33 ct33 : Value}
    {oC_Runs : Addr} (oa_Runs : PySem.W.nsIn K mainGlobals "Runs" = some (some (.ref oC_Runs)))
    (a0 : PySem.W.nsIn K mainGlobals "runs_in" = some (some (.ref f0))) (l0 : K.lookup f0 = some ⟨oc0, od0, .func (PySem.W.fnOf "runs_in" "runs_in" (defArgs s_runs_in) (defBody s_runs_in) (defScope s_runs_in) .none kV0 dc0 pm0 an0 cd0 ct0), sl0⟩) (c0 : PySem.W.codeIn K cd0 "runs_in" = true) (k0 : PySem.W.keepIn K (.ref f0) = true)
    (a1 : PySem.W.nsIn K mainGlobals "begins_and_goes_on" = some (some (.ref f1))) (l1 : K.lookup f1 = some ⟨oc1, od1, .func (PySem.W.fnOf "begins_and_goes_on" "begins_and_goes_on" (defArgs s_begins_and_goes_on) (defBody s_begins_and_goes_on) (defScope s_begins_and_goes_on) .none kV1 dc1 pm1 an1 cd1 ct1), sl1⟩) (c1 : PySem.W.codeIn K cd1 "begins_and_goes_on" = true) (k1 : PySem.W.keepIn K (.ref f1) = true)
    (a2 : PySem.W.nsIn K mainGlobals "is_name" = some (some (.ref f2))) (l2 : K.lookup f2 = some ⟨oc2, od2, .func (PySem.W.fnOf "is_name" "is_name" (defArgs s_is_name) (defBody s_is_name) (defScope s_is_name) .none kV2 dc2 pm2 an2 cd2 ct2), sl2⟩) (c2 : PySem.W.codeIn K cd2 "is_name" = true) (k2 : PySem.W.keepIn K (.ref f2) = true)
    (a3 : PySem.W.nsIn K mainGlobals "is_letter" = some (some (.ref f3))) (l3 : K.lookup f3 = some ⟨oc3, od3, .func (PySem.W.fnOf "is_letter" "is_letter" (defArgs s_is_letter) (defBody s_is_letter) (defScope s_is_letter) .none kV3 dc3 pm3 an3 cd3 ct3), sl3⟩) (c3 : PySem.W.codeIn K cd3 "is_letter" = true) (k3 : PySem.W.keepIn K (.ref f3) = true)
    (a4 : PySem.W.nsIn K mainGlobals "is_word" = some (some (.ref f4))) (l4 : K.lookup f4 = some ⟨oc4, od4, .func (PySem.W.fnOf "is_word" "is_word" (defArgs s_is_word) (defBody s_is_word) (defScope s_is_word) .none kV4 dc4 pm4 an4 cd4 ct4), sl4⟩) (c4 : PySem.W.codeIn K cd4 "is_word" = true) (k4 : PySem.W.keepIn K (.ref f4) = true)
    (a5 : PySem.W.nsIn K mainGlobals "runs_of" = some (some (.ref f5))) (l5 : K.lookup f5 = some ⟨oc5, od5, .func (PySem.W.fnOf "runs_of" "runs_of" (defArgs s_runs_of) (defBody s_runs_of) (defScope s_runs_of) .none kV5 dc5 pm5 an5 cd5 ct5), sl5⟩) (c5 : PySem.W.codeIn K cd5 "runs_of" = true) (k5 : PySem.W.keepIn K (.ref f5) = true)
    (a6 : PySem.W.nsIn K mainGlobals "read" = some (some (.ref f6))) (l6 : K.lookup f6 = some ⟨oc6, od6, .func (PySem.W.fnOf "read" "read" (defArgs s_read) (defBody s_read) (defScope s_read) .none kV6 dc6 pm6 an6 cd6 ct6), sl6⟩) (c6 : PySem.W.codeIn K cd6 "read" = true) (k6 : PySem.W.keepIn K (.ref f6) = true)
    (a7 : PySem.W.nsIn K mainGlobals "take_statement" = some (some (.ref f7))) (l7 : K.lookup f7 = some ⟨oc7, od7, .func (PySem.W.fnOf "take_statement" "take_statement" (defArgs s_take_statement) (defBody s_take_statement) (defScope s_take_statement) .none kV7 dc7 pm7 an7 cd7 ct7), sl7⟩) (c7 : PySem.W.codeIn K cd7 "take_statement" = true) (k7 : PySem.W.keepIn K (.ref f7) = true)
    (a8 : PySem.W.nsIn K mainGlobals "take_letter" = some (some (.ref f8))) (l8 : K.lookup f8 = some ⟨oc8, od8, .func (PySem.W.fnOf "take_letter" "take_letter" (defArgs s_take_letter) (defBody s_take_letter) (defScope s_take_letter) .none kV8 dc8 pm8 an8 cd8 ct8), sl8⟩) (c8 : PySem.W.codeIn K cd8 "take_letter" = true) (k8 : PySem.W.keepIn K (.ref f8) = true)
    (a9 : PySem.W.nsIn K mainGlobals "take_pair" = some (some (.ref f9))) (l9 : K.lookup f9 = some ⟨oc9, od9, .func (PySem.W.fnOf "take_pair" "take_pair" (defArgs s_take_pair) (defBody s_take_pair) (defScope s_take_pair) .none kV9 dc9 pm9 an9 cd9 ct9), sl9⟩) (c9 : PySem.W.codeIn K cd9 "take_pair" = true) (k9 : PySem.W.keepIn K (.ref f9) = true)
    (a10 : PySem.W.nsIn K mainGlobals "take_terms" = some (some (.ref f10))) (l10 : K.lookup f10 = some ⟨oc10, od10, .func (PySem.W.fnOf "take_terms" "take_terms" (defArgs s_take_terms) (defBody s_take_terms) (defScope s_take_terms) .none kV10 dc10 pm10 an10 cd10 ct10), sl10⟩) (c10 : PySem.W.codeIn K cd10 "take_terms" = true) (k10 : PySem.W.keepIn K (.ref f10) = true)
    (a11 : PySem.W.nsIn K mainGlobals "take_term" = some (some (.ref f11))) (l11 : K.lookup f11 = some ⟨oc11, od11, .func (PySem.W.fnOf "take_term" "take_term" (defArgs s_take_term) (defBody s_take_term) (defScope s_take_term) .none kV11 dc11 pm11 an11 cd11 ct11), sl11⟩) (c11 : PySem.W.codeIn K cd11 "take_term" = true) (k11 : PySem.W.keepIn K (.ref f11) = true)
    (a12 : PySem.W.nsIn K mainGlobals "_law_cell_at" = some (some (.ref f12))) (l12 : K.lookup f12 = some ⟨oc12, od12, .func (PySem.W.fnOf "_law_cell_at" "_law_cell_at" (defArgs s_cell_at_L) (defBody s_cell_at_L) (defScope s_cell_at_L) .none kV12 dc12 pm12 an12 cd12 ct12), sl12⟩) (c12 : PySem.W.codeIn K cd12 "_law_cell_at" = true) (k12 : PySem.W.keepIn K (.ref f12) = true)
    (a13 : PySem.W.nsIn K mainGlobals "_law_mixed" = some (some (.ref f13))) (l13 : K.lookup f13 = some ⟨oc13, od13, .func (PySem.W.fnOf "_law_mixed" "_law_mixed" (defArgs s_mixed_L) (defBody s_mixed_L) (defScope s_mixed_L) .none kV13 dc13 pm13 an13 cd13 ct13), sl13⟩) (c13 : PySem.W.codeIn K cd13 "_law_mixed" = true) (k13 : PySem.W.keepIn K (.ref f13) = true)
    (a14 : PySem.W.nsIn K mainGlobals "_law_sign_by" = some (some (.ref f14))) (l14 : K.lookup f14 = some ⟨oc14, od14, .func (PySem.W.fnOf "_law_sign_by" "_law_sign_by" (defArgs s_sign_by_L) (defBody s_sign_by_L) (defScope s_sign_by_L) .none kV14 dc14 pm14 an14 cd14 ct14), sl14⟩) (c14 : PySem.W.codeIn K cd14 "_law_sign_by" = true) (k14 : PySem.W.keepIn K (.ref f14) = true)
    (a15 : PySem.W.nsIn K mainGlobals "_law_name_by" = some (some (.ref f15))) (l15 : K.lookup f15 = some ⟨oc15, od15, .func (PySem.W.fnOf "_law_name_by" "_law_name_by" (defArgs s_name_by_L) (defBody s_name_by_L) (defScope s_name_by_L) .none kV15 dc15 pm15 an15 cd15 ct15), sl15⟩) (c15 : PySem.W.codeIn K cd15 "_law_name_by" = true) (k15 : PySem.W.keepIn K (.ref f15) = true)
    (a16 : PySem.W.nsIn K mainGlobals "_law_small_by" = some (some (.ref f16))) (l16 : K.lookup f16 = some ⟨oc16, od16, .func (PySem.W.fnOf "_law_small_by" "_law_small_by" (defArgs s_small_by_L) (defBody s_small_by_L) (defScope s_small_by_L) .none kV16 dc16 pm16 an16 cd16 ct16), sl16⟩) (c16 : PySem.W.codeIn K cd16 "_law_small_by" = true) (k16 : PySem.W.keepIn K (.ref f16) = true)
    (a17 : PySem.W.nsIn K mainGlobals "_law_wrapped" = some (some (.ref f17))) (l17 : K.lookup f17 = some ⟨oc17, od17, .func (PySem.W.fnOf "_law_wrapped" "_law_wrapped" (defArgs s_wrapped_L) (defBody s_wrapped_L) (defScope s_wrapped_L) .none kV17 dc17 pm17 an17 cd17 ct17), sl17⟩) (c17 : PySem.W.codeIn K cd17 "_law_wrapped" = true) (k17 : PySem.W.keepIn K (.ref f17) = true)
    (a18 : PySem.W.nsIn K mainGlobals "_law_statement_by" = some (some (.ref f18))) (l18 : K.lookup f18 = some ⟨oc18, od18, .func (PySem.W.fnOf "_law_statement_by" "_law_statement_by" (defArgs s_statement_by_L) (defBody s_statement_by_L) (defScope s_statement_by_L) .none kV18 dc18 pm18 an18 cd18 ct18), sl18⟩) (c18 : PySem.W.codeIn K cd18 "_law_statement_by" = true) (k18 : PySem.W.keepIn K (.ref f18) = true)
    (a19 : PySem.W.nsIn K mainGlobals "_law_many_by" = some (some (.ref f19))) (l19 : K.lookup f19 = some ⟨oc19, od19, .func (PySem.W.fnOf "_law_many_by" "_law_many_by" (defArgs s_many_by_L) (defBody s_many_by_L) (defScope s_many_by_L) .none kV19 dc19 pm19 an19 cd19 ct19), sl19⟩) (c19 : PySem.W.codeIn K cd19 "_law_many_by" = true) (k19 : PySem.W.keepIn K (.ref f19) = true)
    (a20 : PySem.W.nsIn K mainGlobals "_law_written" = some (some (.ref f20))) (l20 : K.lookup f20 = some ⟨oc20, od20, .func (PySem.W.fnOf "_law_written" "_law_written" (defArgs s_written_L) (defBody s_written_L) (defScope s_written_L) .none kV20 dc20 pm20 an20 cd20 ct20), sl20⟩) (c20 : PySem.W.codeIn K cd20 "_law_written" = true) (k20 : PySem.W.keepIn K (.ref f20) = true)
    (a21 : PySem.W.nsIn K mainGlobals "_law_tokens" = some (some (.ref f21))) (l21 : K.lookup f21 = some ⟨oc21, od21, .func (PySem.W.fnOf "_law_tokens" "_law_tokens" (defArgs s_tokens_L) (defBody s_tokens_L) (defScope s_tokens_L) .none kV21 dc21 pm21 an21 cd21 ct21), sl21⟩) (c21 : PySem.W.codeIn K cd21 "_law_tokens" = true) (k21 : PySem.W.keepIn K (.ref f21) = true)
    (a22 : PySem.W.nsIn K mainGlobals "_law_parts" = some (some (.ref f22))) (l22 : K.lookup f22 = some ⟨oc22, od22, .func (PySem.W.fnOf "_law_parts" "_law_parts" (defArgs s_parts_L) (defBody s_parts_L) (defScope s_parts_L) .none kV22 dc22 pm22 an22 cd22 ct22), sl22⟩) (c22 : PySem.W.codeIn K cd22 "_law_parts" = true) (k22 : PySem.W.keepIn K (.ref f22) = true)
    (a23 : PySem.W.nsIn K mainGlobals "_law_is_built" = some (some (.ref f23))) (l23 : K.lookup f23 = some ⟨oc23, od23, .func (PySem.W.fnOf "_law_is_built" "_law_is_built" (defArgs s_is_built_L) (defBody s_is_built_L) (defScope s_is_built_L) .none kV23 dc23 pm23 an23 cd23 ct23), sl23⟩) (c23 : PySem.W.codeIn K cd23 "_law_is_built" = true) (k23 : PySem.W.keepIn K (.ref f23) = true)
    (a24 : PySem.W.nsIn K mainGlobals "_law_is_right" = some (some (.ref f24))) (l24 : K.lookup f24 = some ⟨oc24, od24, .func (PySem.W.fnOf "_law_is_right" "_law_is_right" (defArgs s_is_right_L) (defBody s_is_right_L) (defScope s_is_right_L) .none kV24 dc24 pm24 an24 cd24 ct24), sl24⟩) (c24 : PySem.W.codeIn K cd24 "_law_is_right" = true) (k24 : PySem.W.keepIn K (.ref f24) = true)
    (a25 : PySem.W.nsIn K mainGlobals "_law_fit" = some (some (.ref f25))) (l25 : K.lookup f25 = some ⟨oc25, od25, .func (PySem.W.fnOf "_law_fit" "_law_fit" (defArgs s_fit_L) (defBody s_fit_L) (defScope s_fit_L) .none kV25 dc25 pm25 an25 cd25 ct25), sl25⟩) (c25 : PySem.W.codeIn K cd25 "_law_fit" = true) (k25 : PySem.W.keepIn K (.ref f25) = true)
    (a26 : PySem.W.nsIn K mainGlobals "_law_spoilt" = some (some (.ref f26))) (l26 : K.lookup f26 = some ⟨oc26, od26, .func (PySem.W.fnOf "_law_spoilt" "_law_spoilt" (defArgs s_spoilt_L) (defBody s_spoilt_L) (defScope s_spoilt_L) .none kV26 dc26 pm26 an26 cd26 ct26), sl26⟩) (c26 : PySem.W.codeIn K cd26 "_law_spoilt" = true) (k26 : PySem.W.keepIn K (.ref f26) = true)
    (a27 : PySem.W.nsIn K mainGlobals "_law_joined" = some (some (.ref f27))) (l27 : K.lookup f27 = some ⟨oc27, od27, .func (PySem.W.fnOf "_law_joined" "_law_joined" (defArgs s_joined_L) (defBody s_joined_L) (defScope s_joined_L) .none kV27 dc27 pm27 an27 cd27 ct27), sl27⟩) (c27 : PySem.W.codeIn K cd27 "_law_joined" = true) (k27 : PySem.W.keepIn K (.ref f27) = true)
    (a28 : PySem.W.nsIn K mainGlobals "_law_refused_right" = some (some (.ref f28))) (l28 : K.lookup f28 = some ⟨oc28, od28, .func (PySem.W.fnOf "_law_refused_right" "_law_refused_right" (defArgs s_refused_right_L) (defBody s_refused_right_L) (defScope s_refused_right_L) .none kV28 dc28 pm28 an28 cd28 ct28), sl28⟩) (c28 : PySem.W.codeIn K cd28 "_law_refused_right" = true) (k28 : PySem.W.keepIn K (.ref f28) = true)
    (a29 : PySem.W.nsIn K mainGlobals "law" = some (some (.ref f29))) (l29 : K.lookup f29 = some ⟨oc29, od29, .func (PySem.W.fnOf "law" "law" (defArgs s_law) (defBody s_law) (defScope s_law) .none kV29 dc29 pm29 an29 cd29 ct29), sl29⟩) (c29 : PySem.W.codeIn K cd29 "law" = true) (k29 : PySem.W.keepIn K (.ref f29) = true)
    (a30 : PySem.W.findIn K (.ref oC_Runs) "__init__" = some (some (.ref f30))) (i30 : PySem.W.isFn K (.ref f30) = true) (l30 : K.lookup f30 = some ⟨oc30, od30, .func (PySem.W.fnOf "__init__" "Runs.__init__" (defArgs s_Runs_init) (defBody s_Runs_init) (defScope s_Runs_init) .none kV30 dc30 pm30 an30 cd30 ct30), sl30⟩) (c30 : PySem.W.codeIn K cd30 "Runs.__init__" = true) (k30 : PySem.W.keepIn K (.ref f30) = true)
    (a31 : PySem.W.findIn K (.ref oC_Runs) "ahead" = some (some (.ref f31))) (i31 : PySem.W.isFn K (.ref f31) = true) (l31 : K.lookup f31 = some ⟨oc31, od31, .func (PySem.W.fnOf "ahead" "Runs.ahead" (defArgs s_Runs_ahead) (defBody s_Runs_ahead) (defScope s_Runs_ahead) .none kV31 dc31 pm31 an31 cd31 ct31), sl31⟩) (c31 : PySem.W.codeIn K cd31 "Runs.ahead" = true) (k31 : PySem.W.keepIn K (.ref f31) = true)
    (a32 : PySem.W.findIn K (.ref oC_Runs) "take" = some (some (.ref f32))) (i32 : PySem.W.isFn K (.ref f32) = true) (l32 : K.lookup f32 = some ⟨oc32, od32, .func (PySem.W.fnOf "take" "Runs.take" (defArgs s_Runs_take) (defBody s_Runs_take) (defScope s_Runs_take) .none kV32 dc32 pm32 an32 cd32 ct32), sl32⟩) (c32 : PySem.W.codeIn K cd32 "Runs.take" = true) (k32 : PySem.W.keepIn K (.ref f32) = true)
    (a33 : PySem.W.findIn K (.ref oC_Runs) "want" = some (some (.ref f33))) (i33 : PySem.W.isFn K (.ref f33) = true) (l33 : K.lookup f33 = some ⟨oc33, od33, .func (PySem.W.fnOf "want" "Runs.want" (defArgs s_Runs_want) (defBody s_Runs_want) (defScope s_Runs_want) .none kV33 dc33 pm33 an33 cd33 ct33), sl33⟩) (c33 : PySem.W.codeIn K cd33 "Runs.want" = true) (k33 : PySem.W.keepIn K (.ref f33) = true)
    {t0 : Tok} (g0 : PySem.W.nsIn K mainGlobals "SMALL" = some (some (.str "abcdefghijklmnopqrstuvwxyz" t0)))
    {t1 : Tok} (g1 : PySem.W.nsIn K mainGlobals "GREAT" = some (some (.str "ABCDEFGHIJKLMNOPQRSTUVWXYZ" t1)))
    {t2 : Tok} (g2 : PySem.W.nsIn K mainGlobals "SMALL_OR_FIGURE" = some (some (.str "abcdefghijklmnopqrstuvwxyz0123456789" t2)))
    {p3 : Addr} {dd3 : Option Addr} {nn3 : Nat} {ss3 : Array (Option Value)} {u3_0 u3_1 u3_2 u3_3 u3_4 u3_5 u3_6 : Tok} (g3 : PySem.W.nsIn K mainGlobals "KEPT_WORDS" = some (some (.ref p3))) (q3 : K.lookup p3 = some ⟨.type "tuple", dd3, .seq #[Value.str "not" u3_0, Value.str "and" u3_1, Value.str "or" u3_2, Value.str "then" u3_3, Value.str "all" u3_4, Value.str "some" u3_5, Value.str "false" u3_6] nn3, ss3⟩)
    {t4 : Tok} (g4 : PySem.W.nsIn K mainGlobals "MOST_SIGNS" = some (some (.int 8 t4)))
    {p5 : Addr} {dd5 : Option Addr} {nn5 : Nat} {ss5 : Array (Option Value)} {u5_0 u5_1 u5_2 : Tok} (g5 : PySem.W.nsIn K mainGlobals "PAIRS" = some (some (.ref p5))) (q5 : K.lookup p5 = some ⟨.type "tuple", dd5, .seq #[Value.str "and" u5_0, Value.str "or" u5_1, Value.str "then" u5_2] nn5, ss5⟩)
    {p6 : Addr} {dd6 : Option Addr} {nn6 : Nat} {ss6 : Array (Option Value)} {u6_0 u6_1 : Tok} (g6 : PySem.W.nsIn K mainGlobals "QUANTIFIERS" = some (some (.ref p6))) (q6 : K.lookup p6 = some ⟨.type "tuple", dd6, .seq #[Value.str "all" u6_0, Value.str "some" u6_1] nn6, ss6⟩)
    {t7 : Tok} (g7 : PySem.W.nsIn K mainGlobals "RUN_SIGNS" = some (some (.str "abcdefghijklmnopqrstuvwxyzABCDEFGHIJKLMNOPQRSTUVWXYZ0123456789" t7)))
    {t8 : Tok} (g8 : PySem.W.nsIn K mainGlobals "SINGLE_SIGNS" = some (some (.str "()," t8)))
    {t9 : Tok} (g9 : PySem.W.nsIn K mainGlobals "END" = some (some (.str "" t9)))
    {t10 : Tok} (g10 : PySem.W.nsIn K mainGlobals "MOST_TERMS" = some (some (.int 3 t10)))
    {t11 : Tok} (g11 : PySem.W.nsIn K mainGlobals "MOST_DEEP" = some (some (.int 40 t11)))
    (og_Runs : PySem.W.plainGet K oC_Runs Str.empty = true) (oh_Runs : PySem.W.hasDictIn K oC_Runs = true) (op_Runs : PySem.W.plainOver K oC_Runs = true) (os_Runs : PySem.W.findIn K (.ref oC_Runs) "__setattr__" = some (some (.builtin "object.__setattr__"))) (om_Runs : PySem.W.makesIn K oC_Runs = true) (ok_Runs : PySem.W.keepIn K (.ref oC_Runs) = true)
    (on_Runs_runs : PySem.W.findIn K (.ref oC_Runs) "runs" = some none)
    (on_Runs_place : PySem.W.findIn K (.ref oC_Runs) "place" = some none)
    {xnm0 xq0 : Str} {xC0 xN0 : Addr} {xbs0 : List Value} {xh0 : Bool} {xsn0 : List Str} {xsu0 : List Value} {xab0 : Bool} {xco0 : Option Bool} {xdd0 xod0 : Option Addr} {xka0 xkb0 xkc0 xkd0 xke0 : Option Value} {xoc0 : Value} {xes0 : List DictEntry} {xep0 : Nat} {xsl0 : Array (Option Value)}
    (xa0 : PySem.W.nsIn K mainGlobals "BoxError" = some (some (.ref xC0))) (xl0 : K.lookup xC0 = some (excClassObj xnm0 xq0 xC0 xN0 xbs0 ([.type "ValueError", .type "Exception", .type "BaseException", .type "object"]) xh0 xsn0 xsu0 xab0 xco0 xdd0 xka0 xkb0 xkc0 xkd0 xke0 "ValueError.__new__"))
    (xn0 : K.lookup xN0 = some ⟨xoc0, xod0, .dict (List.toArray xes0) xep0, xsl0⟩) (xy0 : (xes0.all fun e => match e.key with | .str _ _ => true | _ => false) = true) (xp0 : PySem.W.nsIn K xN0 "__init__" = some none) (xr0 : PySem.W.nsIn K xN0 "__getattribute__" = some none) (xu0 : PySem.W.nsIn K xN0 "__getattr__" = some none) (xv0 : PySem.W.nsIn K xN0 "__class__" = some none)
    {xnm1 xq1 : Str} {xC1 xN1 : Addr} {xbs1 : List Value} {xh1 : Bool} {xsn1 : List Str} {xsu1 : List Value} {xab1 : Bool} {xco1 : Option Bool} {xdd1 xod1 : Option Addr} {xka1 xkb1 xkc1 xkd1 xke1 : Option Value} {xoc1 : Value} {xes1 : List DictEntry} {xep1 : Nat} {xsl1 : Array (Option Value)}
    (xa1 : PySem.W.nsIn K mainGlobals "NoStatement" = some (some (.ref xC1))) (xl1 : K.lookup xC1 = some (excClassObj xnm1 xq1 xC1 xN1 xbs1 (Value.ref xC0 :: [.type "ValueError", .type "Exception", .type "BaseException", .type "object"]) xh1 xsn1 xsu1 xab1 xco1 xdd1 xka1 xkb1 xkc1 xkd1 xke1 "ValueError.__new__"))
    (xn1 : K.lookup xN1 = some ⟨xoc1, xod1, .dict (List.toArray xes1) xep1, xsl1⟩) (xy1 : (xes1.all fun e => match e.key with | .str _ _ => true | _ => false) = true) (xp1 : PySem.W.nsIn K xN1 "__init__" = some none) (xr1 : PySem.W.nsIn K xN1 "__getattribute__" = some none) (xu1 : PySem.W.nsIn K xN1 "__getattr__" = some none) (xv1 : PySem.W.nsIn K xN1 "__class__" = some none)
    {xnm2 xq2 : Str} {xC2 xN2 : Addr} {xbs2 : List Value} {xh2 : Bool} {xsn2 : List Str} {xsu2 : List Value} {xab2 : Bool} {xco2 : Option Bool} {xdd2 xod2 : Option Addr} {xka2 xkb2 xkc2 xkd2 xke2 : Option Value} {xoc2 : Value} {xes2 : List DictEntry} {xep2 : Nat} {xsl2 : Array (Option Value)}
    (xa2 : PySem.W.nsIn K mainGlobals "NoName" = some (some (.ref xC2))) (xl2 : K.lookup xC2 = some (excClassObj xnm2 xq2 xC2 xN2 xbs2 (Value.ref xC0 :: [.type "ValueError", .type "Exception", .type "BaseException", .type "object"]) xh2 xsn2 xsu2 xab2 xco2 xdd2 xka2 xkb2 xkc2 xkd2 xke2 "ValueError.__new__"))
    (xn2 : K.lookup xN2 = some ⟨xoc2, xod2, .dict (List.toArray xes2) xep2, xsl2⟩) (xy2 : (xes2.all fun e => match e.key with | .str _ _ => true | _ => false) = true) (xp2 : PySem.W.nsIn K xN2 "__init__" = some none) (xr2 : PySem.W.nsIn K xN2 "__getattribute__" = some none) (xu2 : PySem.W.nsIn K xN2 "__getattr__" = some none) (xv2 : PySem.W.nsIn K xN2 "__class__" = some none)
    (xm_NoStatement_BoxError : PySem.W.mroIn K xC1 (.ref xC0) = some true) (xi_NoStatement_BoxError : PySem.W.kitOne K (.ref xC1) (.ref xC0) = some true)
    (xm_NoStatement_NoStatement : PySem.W.mroIn K xC1 (.ref xC1) = some true) (xi_NoStatement_NoStatement : PySem.W.kitOne K (.ref xC1) (.ref xC1) = some true)
    (xm_NoStatement_NoName : PySem.W.mroIn K xC1 (.ref xC2) = some false) (xi_NoStatement_NoName : PySem.W.kitOne K (.ref xC1) (.ref xC2) = some false)
    (xi_NoStatement_ValueError : PySem.W.kitOne K (.ref xC1) (.type "ValueError") = some true)
    (z_ValueError : PySem.W.nsIn K mainGlobals "ValueError" = some none)
    (z_all : PySem.W.nsIn K mainGlobals "all" = some none)
    (z_int : PySem.W.nsIn K mainGlobals "int" = some none)
    (z_isinstance : PySem.W.nsIn K mainGlobals "isinstance" = some none)
    (z_len : PySem.W.nsIn K mainGlobals "len" = some none)
    (z_range : PySem.W.nsIn K mainGlobals "range" = some none)
    (z_str : PySem.W.nsIn K mainGlobals "str" = some none)
    (z_tuple : PySem.W.nsIn K mainGlobals "tuple" = some none)
    (OK : ∀ (P : Program) (D : Defs) (base : Heap), Tx K mg D → FnOk P w K mg base CX0 92 D.a_law D.d_law ["_law_script"] (spLaw K)) :
    ∃ fd : FuncData, (∀ (s : Shared) (v : Value), BindsTo s fd ⟨[v], []⟩ [("_law_script", v)]) ∧ ∀ base : Heap, K.In base → base.Ns mainGlobals mg → FnOk l.prog w K mg base CX0 92 fa fd ["_law_script"] (spLaw K) := by
  have e := hfa.symm.trans (PySem.W.mg_of X G a29)
  cases e
  have F0 := fun_mk (st := s_runs_in) l0 c0 k0
  have b0 := F0.binds (ps := ["row"]) fun _ _ _ _ _ _ us hl => match us, hl with | [_], _ => rfl
  have F1 := fun_mk (st := s_begins_and_goes_on) l1 c1 k1
  have b1 := F1.binds (ps := ["text", "first_signs"]) fun _ _ _ _ _ _ us hl => match us, hl with | [_, _], _ => rfl
  have F2 := fun_mk (st := s_is_name) l2 c2 k2
  have b2 := F2.binds (ps := ["text"]) fun _ _ _ _ _ _ us hl => match us, hl with | [_], _ => rfl
  have F3 := fun_mk (st := s_is_letter) l3 c3 k3
  have b3 := F3.binds (ps := ["text"]) fun _ _ _ _ _ _ us hl => match us, hl with | [_], _ => rfl
  have F4 := fun_mk (st := s_is_word) l4 c4 k4
  have b4 := F4.binds (ps := ["text"]) fun _ _ _ _ _ _ us hl => match us, hl with | [_], _ => rfl
  have F5 := fun_mk (st := s_runs_of) l5 c5 k5
  have b5 := F5.binds (ps := ["text"]) fun _ _ _ _ _ _ us hl => match us, hl with | [_], _ => rfl
  have F6 := fun_mk (st := s_read) l6 c6 k6
  have b6 := F6.binds (ps := ["text"]) fun _ _ _ _ _ _ us hl => match us, hl with | [_], _ => rfl
  have F7 := fun_mk (st := s_take_statement) l7 c7 k7
  have b7 := F7.binds (ps := ["runs", "room"]) fun _ _ _ _ _ _ us hl => match us, hl with | [_, _], _ => rfl
  have F8 := fun_mk (st := s_take_letter) l8 c8 k8
  have b8 := F8.binds (ps := ["runs"]) fun _ _ _ _ _ _ us hl => match us, hl with | [_], _ => rfl
  have F9 := fun_mk (st := s_take_pair) l9 c9 k9
  have b9 := F9.binds (ps := ["runs", "room"]) fun _ _ _ _ _ _ us hl => match us, hl with | [_, _], _ => rfl
  have F10 := fun_mk (st := s_take_terms) l10 c10 k10
  have b10 := F10.binds (ps := ["runs"]) fun _ _ _ _ _ _ us hl => match us, hl with | [_], _ => rfl
  have F11 := fun_mk (st := s_take_term) l11 c11 k11
  have b11 := F11.binds (ps := ["runs"]) fun _ _ _ _ _ _ us hl => match us, hl with | [_], _ => rfl
  have F12 := fun_mk (st := s_cell_at_L) l12 c12 k12
  have b12 := F12.binds (ps := ["_law_script", "_law_k"]) fun _ _ _ _ _ _ us hl => match us, hl with | [_, _], _ => rfl
  have F13 := fun_mk (st := s_mixed_L) l13 c13 k13
  have b13 := F13.binds (ps := ["_law_script", "_law_k"]) fun _ _ _ _ _ _ us hl => match us, hl with | [_, _], _ => rfl
  have F14 := fun_mk (st := s_sign_by_L) l14 c14 k14
  have b14 := F14.binds (ps := ["_law_number", "_law_signs"]) fun _ _ _ _ _ _ us hl => match us, hl with | [_, _], _ => rfl
  have F15 := fun_mk (st := s_name_by_L) l15 c15 k15
  have b15 := F15.binds (ps := ["_law_number", "_law_firsts", "_law_turn"]) fun _ _ _ _ _ _ us hl => match us, hl with | [_, _, _], _ => rfl
  have F16 := fun_mk (st := s_small_by_L) l16 c16 k16
  have b16 := F16.binds (ps := ["_law_number", "_law_base"]) fun _ _ _ _ _ _ us hl => match us, hl with | [_, _], _ => rfl
  have F17 := fun_mk (st := s_wrapped_L) l17 c17 k17
  have b17 := F17.binds (ps := ["_law_ka", "_law_number", "_law_other", "_law_base"]) fun _ _ _ _ _ _ us hl => match us, hl with | [_, _, _, _], _ => rfl
  have F18 := fun_mk (st := s_statement_by_L) l18 c18 k18
  have b18 := F18.binds (ps := ["_law_script", "_law_at", "_law_many"]) fun _ _ _ _ _ _ us hl => match us, hl with | [_, _, _], _ => rfl
  have F19 := fun_mk (st := s_many_by_L) l19 c19 k19
  have b19 := F19.binds (ps := ["_law_cell"]) fun _ _ _ _ _ _ us hl => match us, hl with | [_], _ => rfl
  have F20 := fun_mk (st := s_written_L) l20 c20 k20
  have b20 := F20.binds (ps := ["_law_ka"]) fun _ _ _ _ _ _ us hl => match us, hl with | [_], _ => rfl
  have F21 := fun_mk (st := s_tokens_L) l21 c21 k21
  have b21 := F21.binds (ps := ["_law_text"]) fun _ _ _ _ _ _ us hl => match us, hl with | [_], _ => rfl
  have F22 := fun_mk (st := s_parts_L) l22 c22 k22
  have b22 := F22.binds (ps := ["_law_ka"]) fun _ _ _ _ _ _ us hl => match us, hl with | [_], _ => rfl
  have F23 := fun_mk (st := s_is_built_L) l23 c23 k23
  have b23 := F23.binds (ps := ["_law_text", "_law_firsts"]) fun _ _ _ _ _ _ us hl => match us, hl with | [_, _], _ => rfl
  have F24 := fun_mk (st := s_is_right_L) l24 c24 k24
  have b24 := F24.binds (ps := ["_law_ka"]) fun _ _ _ _ _ _ us hl => match us, hl with | [_], _ => rfl
  have F25 := fun_mk (st := s_fit_L) l25 c25 k25
  have b25 := F25.binds (ps := ["_law_ka", "_law_room"]) fun _ _ _ _ _ _ us hl => match us, hl with | [_, _], _ => rfl
  have F26 := fun_mk (st := s_spoilt_L) l26 c26 k26
  have b26 := F26.binds (ps := ["_law_tokens_here", "_law_cell", "_law_word"]) fun _ _ _ _ _ _ us hl => match us, hl with | [_, _, _], _ => rfl
  have F27 := fun_mk (st := s_joined_L) l27 c27 k27
  have b27 := F27.binds (ps := ["_law_tokens_here", "_law_script", "_law_tight"]) fun _ _ _ _ _ _ us hl => match us, hl with | [_, _, _], _ => rfl
  have F28 := fun_mk (st := s_refused_right_L) l28 c28 k28
  have b28 := F28.binds (ps := ["_law_text"]) fun _ _ _ _ _ _ us hl => match us, hl with | [_], _ => rfl
  have F29 := fun_mk (st := s_law) l29 c29 k29
  have b29 := F29.binds (ps := ["_law_script"]) fun _ _ _ _ _ _ us hl => match us, hl with | [_], _ => rfl
  have F30 := fun_mk (st := s_Runs_init) l30 c30 k30
  have b30 := F30.binds (ps := ["self", "runs"]) fun _ _ _ _ _ _ us hl => match us, hl with | [_, _], _ => rfl
  have F31 := fun_mk (st := s_Runs_ahead) l31 c31 k31
  have b31 := F31.binds (ps := ["self"]) fun _ _ _ _ _ _ us hl => match us, hl with | [_], _ => rfl
  have F32 := fun_mk (st := s_Runs_take) l32 c32 k32
  have b32 := F32.binds (ps := ["self"]) fun _ _ _ _ _ _ us hl => match us, hl with | [_], _ => rfl
  have F33 := fun_mk (st := s_Runs_want) l33 c33 k33
  have b33 := F33.binds (ps := ["self", "wanted"]) fun _ _ _ _ _ _ us hl => match us, hl with | [_, _], _ => rfl
  let D : Defs := ⟨f0, PySem.W.fnOf "runs_in" "runs_in" (defArgs s_runs_in) (defBody s_runs_in) (defScope s_runs_in) .none kV0 dc0 pm0 an0 cd0 ct0, f1, PySem.W.fnOf "begins_and_goes_on" "begins_and_goes_on" (defArgs s_begins_and_goes_on) (defBody s_begins_and_goes_on) (defScope s_begins_and_goes_on) .none kV1 dc1 pm1 an1 cd1 ct1, f2, PySem.W.fnOf "is_name" "is_name" (defArgs s_is_name) (defBody s_is_name) (defScope s_is_name) .none kV2 dc2 pm2 an2 cd2 ct2, f3, PySem.W.fnOf "is_letter" "is_letter" (defArgs s_is_letter) (defBody s_is_letter) (defScope s_is_letter) .none kV3 dc3 pm3 an3 cd3 ct3, f4, PySem.W.fnOf "is_word" "is_word" (defArgs s_is_word) (defBody s_is_word) (defScope s_is_word) .none kV4 dc4 pm4 an4 cd4 ct4, f5, PySem.W.fnOf "runs_of" "runs_of" (defArgs s_runs_of) (defBody s_runs_of) (defScope s_runs_of) .none kV5 dc5 pm5 an5 cd5 ct5, f6, PySem.W.fnOf "read" "read" (defArgs s_read) (defBody s_read) (defScope s_read) .none kV6 dc6 pm6 an6 cd6 ct6, f7, PySem.W.fnOf "take_statement" "take_statement" (defArgs s_take_statement) (defBody s_take_statement) (defScope s_take_statement) .none kV7 dc7 pm7 an7 cd7 ct7, f8, PySem.W.fnOf "take_letter" "take_letter" (defArgs s_take_letter) (defBody s_take_letter) (defScope s_take_letter) .none kV8 dc8 pm8 an8 cd8 ct8, f9, PySem.W.fnOf "take_pair" "take_pair" (defArgs s_take_pair) (defBody s_take_pair) (defScope s_take_pair) .none kV9 dc9 pm9 an9 cd9 ct9, f10, PySem.W.fnOf "take_terms" "take_terms" (defArgs s_take_terms) (defBody s_take_terms) (defScope s_take_terms) .none kV10 dc10 pm10 an10 cd10 ct10, f11, PySem.W.fnOf "take_term" "take_term" (defArgs s_take_term) (defBody s_take_term) (defScope s_take_term) .none kV11 dc11 pm11 an11 cd11 ct11, f12, PySem.W.fnOf "_law_cell_at" "_law_cell_at" (defArgs s_cell_at_L) (defBody s_cell_at_L) (defScope s_cell_at_L) .none kV12 dc12 pm12 an12 cd12 ct12, f13, PySem.W.fnOf "_law_mixed" "_law_mixed" (defArgs s_mixed_L) (defBody s_mixed_L) (defScope s_mixed_L) .none kV13 dc13 pm13 an13 cd13 ct13, f14, PySem.W.fnOf "_law_sign_by" "_law_sign_by" (defArgs s_sign_by_L) (defBody s_sign_by_L) (defScope s_sign_by_L) .none kV14 dc14 pm14 an14 cd14 ct14, f15, PySem.W.fnOf "_law_name_by" "_law_name_by" (defArgs s_name_by_L) (defBody s_name_by_L) (defScope s_name_by_L) .none kV15 dc15 pm15 an15 cd15 ct15, f16, PySem.W.fnOf "_law_small_by" "_law_small_by" (defArgs s_small_by_L) (defBody s_small_by_L) (defScope s_small_by_L) .none kV16 dc16 pm16 an16 cd16 ct16, f17, PySem.W.fnOf "_law_wrapped" "_law_wrapped" (defArgs s_wrapped_L) (defBody s_wrapped_L) (defScope s_wrapped_L) .none kV17 dc17 pm17 an17 cd17 ct17, f18, PySem.W.fnOf "_law_statement_by" "_law_statement_by" (defArgs s_statement_by_L) (defBody s_statement_by_L) (defScope s_statement_by_L) .none kV18 dc18 pm18 an18 cd18 ct18, f19, PySem.W.fnOf "_law_many_by" "_law_many_by" (defArgs s_many_by_L) (defBody s_many_by_L) (defScope s_many_by_L) .none kV19 dc19 pm19 an19 cd19 ct19, f20, PySem.W.fnOf "_law_written" "_law_written" (defArgs s_written_L) (defBody s_written_L) (defScope s_written_L) .none kV20 dc20 pm20 an20 cd20 ct20, f21, PySem.W.fnOf "_law_tokens" "_law_tokens" (defArgs s_tokens_L) (defBody s_tokens_L) (defScope s_tokens_L) .none kV21 dc21 pm21 an21 cd21 ct21, f22, PySem.W.fnOf "_law_parts" "_law_parts" (defArgs s_parts_L) (defBody s_parts_L) (defScope s_parts_L) .none kV22 dc22 pm22 an22 cd22 ct22, f23, PySem.W.fnOf "_law_is_built" "_law_is_built" (defArgs s_is_built_L) (defBody s_is_built_L) (defScope s_is_built_L) .none kV23 dc23 pm23 an23 cd23 ct23, f24, PySem.W.fnOf "_law_is_right" "_law_is_right" (defArgs s_is_right_L) (defBody s_is_right_L) (defScope s_is_right_L) .none kV24 dc24 pm24 an24 cd24 ct24, f25, PySem.W.fnOf "_law_fit" "_law_fit" (defArgs s_fit_L) (defBody s_fit_L) (defScope s_fit_L) .none kV25 dc25 pm25 an25 cd25 ct25, f26, PySem.W.fnOf "_law_spoilt" "_law_spoilt" (defArgs s_spoilt_L) (defBody s_spoilt_L) (defScope s_spoilt_L) .none kV26 dc26 pm26 an26 cd26 ct26, f27, PySem.W.fnOf "_law_joined" "_law_joined" (defArgs s_joined_L) (defBody s_joined_L) (defScope s_joined_L) .none kV27 dc27 pm27 an27 cd27 ct27, f28, PySem.W.fnOf "_law_refused_right" "_law_refused_right" (defArgs s_refused_right_L) (defBody s_refused_right_L) (defScope s_refused_right_L) .none kV28 dc28 pm28 an28 cd28 ct28, fa, PySem.W.fnOf "law" "law" (defArgs s_law) (defBody s_law) (defScope s_law) .none kV29 dc29 pm29 an29 cd29 ct29, f30, PySem.W.fnOf "__init__" "Runs.__init__" (defArgs s_Runs_init) (defBody s_Runs_init) (defScope s_Runs_init) .none kV30 dc30 pm30 an30 cd30 ct30, f31, PySem.W.fnOf "ahead" "Runs.ahead" (defArgs s_Runs_ahead) (defBody s_Runs_ahead) (defScope s_Runs_ahead) .none kV31 dc31 pm31 an31 cd31 ct31, f32, PySem.W.fnOf "take" "Runs.take" (defArgs s_Runs_take) (defBody s_Runs_take) (defScope s_Runs_take) .none kV32 dc32 pm32 an32 cd32 ct32, f33, PySem.W.fnOf "want" "Runs.want" (defArgs s_Runs_want) (defBody s_Runs_want) (defScope s_Runs_want) .none kV33 dc33 pm33 an33 cd33 ct33, p3, p5, p6, xC0, xC1, xC2, oC_Runs⟩
  have T : Tx K mg D := ⟨F0, PySem.W.mg_of X G a0, b0, F1, PySem.W.mg_of X G a1, b1, F2, PySem.W.mg_of X G a2, b2, F3, PySem.W.mg_of X G a3, b3, F4, PySem.W.mg_of X G a4, b4, F5, PySem.W.mg_of X G a5, b5, F6, PySem.W.mg_of X G a6, b6, F7, PySem.W.mg_of X G a7, b7, F8, PySem.W.mg_of X G a8, b8, F9, PySem.W.mg_of X G a9, b9, F10, PySem.W.mg_of X G a10, b10, F11, PySem.W.mg_of X G a11, b11, F12, PySem.W.mg_of X G a12, b12, F13, PySem.W.mg_of X G a13, b13, F14, PySem.W.mg_of X G a14, b14, F15, PySem.W.mg_of X G a15, b15, F16, PySem.W.mg_of X G a16, b16, F17, PySem.W.mg_of X G a17, b17, F18, PySem.W.mg_of X G a18, b18, F19, PySem.W.mg_of X G a19, b19, F20, PySem.W.mg_of X G a20, b20, F21, PySem.W.mg_of X G a21, b21, F22, PySem.W.mg_of X G a22, b22, F23, PySem.W.mg_of X G a23, b23, F24, PySem.W.mg_of X G a24, b24, F25, PySem.W.mg_of X G a25, b25, F26, PySem.W.mg_of X G a26, b26, F27, PySem.W.mg_of X G a27, b27, F28, PySem.W.mg_of X G a28, b28, F29, PySem.W.mg_of X G a29, b29, F30, ⟨a30, i30, k30⟩, b30, F31, ⟨a31, i31, k31⟩, b31, F32, ⟨a32, i32, k32⟩, b32, F33, ⟨a33, i33, k33⟩, b33, ⟨_, PySem.W.mg_of X G g0⟩, ⟨_, PySem.W.mg_of X G g1⟩, ⟨_, PySem.W.mg_of X G g2⟩, PySem.W.mg_of X G g3, fun H => .inr ⟨_, _, _, q3, rfl, rfl, (by show 7 ≤ sizeLine; decide), (.cons ⟨_, rfl⟩ (.cons ⟨_, rfl⟩ (.cons ⟨_, rfl⟩ (.cons ⟨_, rfl⟩ (.cons ⟨_, rfl⟩ (.cons ⟨_, rfl⟩ (.cons ⟨_, rfl⟩ .nil)))))))⟩, ⟨_, PySem.W.mg_of X G g4⟩, PySem.W.mg_of X G g5, fun H => .inr ⟨_, _, _, q5, rfl, rfl, (by show 3 ≤ sizeLine; decide), (.cons ⟨_, rfl⟩ (.cons ⟨_, rfl⟩ (.cons ⟨_, rfl⟩ .nil)))⟩, PySem.W.mg_of X G g6, fun H => .inr ⟨_, _, _, q6, rfl, rfl, (by show 2 ≤ sizeLine; decide), (.cons ⟨_, rfl⟩ (.cons ⟨_, rfl⟩ .nil))⟩, ⟨_, PySem.W.mg_of X G g7⟩, ⟨_, PySem.W.mg_of X G g8⟩, ⟨_, PySem.W.mg_of X G g9⟩, ⟨_, PySem.W.mg_of X G g10⟩, ⟨_, PySem.W.mg_of X G g11⟩, PySem.W.mg_none_of X G z_ValueError, PySem.W.mg_none_of X G z_all, PySem.W.mg_none_of X G z_int, PySem.W.mg_none_of X G z_isinstance, PySem.W.mg_none_of X G z_len, PySem.W.mg_none_of X G z_range, PySem.W.mg_none_of X G z_str, PySem.W.mg_none_of X G z_tuple, xcls0 (PySem.W.mg_of X G xa0) xl0 ⟨⟨_, _, _, _, _, xn0, xy0⟩, xp0, xr0, xu0, xv0⟩, xcls1 (PySem.W.mg_of X G xa1) xl1 ⟨⟨_, _, _, _, _, xn1, xy1⟩, xp1, xr1, xu1, xv1⟩ xl0 ⟨⟨_, _, _, _, _, xn0, xy0⟩, xp0, xr0, xu0, xv0⟩, xcls1 (PySem.W.mg_of X G xa2) xl2 ⟨⟨_, _, _, _, _, xn2, xy2⟩, xp2, xr2, xu2, xv2⟩ xl0 ⟨⟨_, _, _, _, _, xn0, xy0⟩, xp0, xr0, xu0, xv0⟩, PySem.W.mg_of X G oa_Runs, ⟨og_Runs, oh_Runs, op_Runs, os_Runs⟩, ⟨om_Runs, a30, i30, ok_Runs⟩, on_Runs_runs, on_Runs_place, subx_of xl1 xl0 rfl xm_NoStatement_BoxError, xi_NoStatement_BoxError, subx_of xl1 xl1 rfl xm_NoStatement_NoStatement, xi_NoStatement_NoStatement, subx_of xl1 xl2 rfl xm_NoStatement_NoName, xi_NoStatement_NoName, xi_NoStatement_ValueError⟩
  exact ⟨_, fun s v => .of_eq rfl, fun base _ _ => OK l.prog D base T⟩
theorem walk {l : PySem.W.OpenLaw} {q : Program} {loose : List Str} {XP : (Str → Option Value) → Heap → Prop} {YP : World → Heap → Prop} {d : DefRec} {K : Params → PySem.W.Frag} (hn : l.most = some 63) (hdf : d.params.defaults = [])
    (hY : ∀ (w : World) (h : Heap), YP w h → (K w.params).In h)
    (F : ∀ (w : World) (mg : Str → Option Value) (fa : Addr) (h : Heap), (K w.params).In h → h.Ns mainGlobals mg → mg d.name = some (.ref fa) →
      ∃ fd : FuncData, (∀ (s : Shared) (u : Value), BindsTo s fd ⟨[u], []⟩ [("_law_script", u)]) ∧ ∀ base : Heap, (K w.params).In base → base.Ns mainGlobals mg → FnOk l.prog w (K w.params) mg base CX0 92 fa fd ["_law_script"] (spLaw (K w.params))) :
    PySem.W.WalkO q loose XP YP l.row.toRowW d [] (fun f vs => PySem.call f vs) :=
  L2.walk_of (n := 63) (k := 92) (x := "_law_script") (CX := fun _ => CX0) (sp := fun w => spLaw (K w.params)) hn (by decide) hdf (fun _ => ⟨.none rfl, by decide, by decide, rfl⟩) hY F (fun _ _ a ns hl _ hS => ⟨a, ns, rfl, hS, hl, fun _ => rfl⟩) fun _ _ _ _ _ z => z
end K06
namespace PySem.W.Fast
def tw6003759732288522035 := 0
def tw8225959845580222103 := 0
def tw3205533757571217742 := 0
def tw1885387369713204638 := 0
def tw16512046952285453225 := 0
def tw17529245107191967038 := 0
def tw4193598168858756364 := 0
def tw10446475629163332235 := 0
def tw638013895563792817 := 0
def tw6394890843554929936 := 0
def tw14992970875623305636 := 0
def tw3984175100049381972 := 0
def tw14209880679356869903 := 0
def tw16442722167087635024 := 0
def tw10621011165729707922 := 0
def tw16458280636327488367 := 0
def tw12039610867510296688 := 0
def tw7076213679228625933 := 0
def tw3680297263517064072 := 0
def tw11526628204469473013 := 0
def tw8259649082404906142 := 0
def tw11206600694167460239 := 0
def tw7484095027471915199 := 0
def tw3231529471042126355 := 0
def tw14230723984323205556 := 0
def tw18398351886995295253 := 0
def tw7065334117086907543 := 0
def tw12533331057425575315 := 0
def tw11446421700563122805 := 0
def tw12151854261886005648 := 0
def tw4326342215554954666 := 0
def tw14542400276677484798 := 0
def tw55806544687665328 := 0
def tw12103455285381397657 := 0
def tw13704461502679717450 := 0
def tw18354420855731626829 := 0
def tw10839173302675707408 := 0
def tw2954465596957757128 := 0
def tw13533104881813527068 := 0
def tw17319271186764550827 := 0
def tw7756898953070782593 := 0
def tw8850749541298360515 := 0
def tw14607499662354344253 := 0
def tw14008499012669910936 := 0
def tw17781520551067307416 := 0
def tw9194504510382057702 := 0
def tw559984739248797413 := 0
def tw14199287093523396926 := 0
def tw5768566150753191428 := 0
def tw7557032420516583912 := 0
def tw5573926145009359558 := 0
def tw4624656727016518915 := 0
def tw7072997139449134177 := 0
def tw14225624692724322483 := 0
def tw7861794932961555850 := 0
def tw17577623080258662026 := 0
def tw13655658281021433250 := 0
def tw9761065013696574223 := 0
def tw1356254127431937822 := 0
def tw1468416955970619135 := 0
def tw16391509710621193752 := 0
def tw15865430693194310199 := 0
def tw7889294351634272289 := 0
def tw10663524393544887088 := 0
def tw1359063381495878502 := 0
def tw14943015734349603860 := 0
def tw14779505089611799477 := 0
def tw270992369723291775 := 0
def tw659279178465297824 := 0
def tw17415107671390781103 := 0
def tw12268771026740019094 := 0
def tw6512495409724235408 := 0
def tw14956626997492450674 := 0
def tw14396491544795538143 := 0
def tw2294807199664561387 := 0
def tw16789345666722826436 := 0
def tw15424205875321293653 := 0
def tw15721301250924766990 := 0
def tw2233354647591605527 := 0
def tw17738190559051957004 := 0
def tw15146595842560387646 := 0
def tw14171414757197587764 := 0
def tw3385920837849493141 := 0
def tw11244589915322512054 := 0
def tw9609473588311064754 := 0
def tw11641011189751453580 := 0
def tw11051049981336072886 := 0
def tw4181171746843944899 := 0
def tw589793019948992532 := 0
def tw7008280293419571100 := 0
def tw12349585049231659526 := 0
def tw1577617239940368365 := 0
def tw260786149152231541 := 0
def tw3109903543620514655 := 0
def tw9730479469230068123 := 0
def tw11088782964759083253 := 0
def tw7278557380237573191 := 0
def tw16579036202309981938 := 0
def tw3741738179746180359 := 0
def tw1601741110226432432 := 0
def tw4717458438025415414 := 0
def tw17784592505178096245 := 0
def tw4016938894149514787 := 0
def tw6821277070319162778 := 0
def tw17320459918184235906 := 0
def tw9994184056291391047 := 0
def tw10730262024031012590 := 0
def tw2918330615683096160 := 0
end PySem.W.Fast
open PySem PySem.W PyProof.Rows
set_option maxRecDepth 100000 in
set_option maxHeartbeats 0 in
theorem PySem.Challenge.cw_boxproof_k06_what_is_read_holds : PySem.Challenge.rw_boxproof_k06_what_is_read.Holds := by
  w_on; o_law; k_head; (case hw => w_witness2)
  k_fill
  refine K06.walk (l := PySem.Challenge.rw_boxproof_k06_what_is_read) rfl rfl (fun w h Y => PySem.W.kIn_of Y) ?F
  case F =>
    intro w mg fa h KX G hmg
    refine' K06.all_mk KX G hmg ?bpoa_Runs ?bpa0 ?bpl0 ?bpc0 ?bpk0 ?bpa1 ?bpl1 ?bpc1 ?bpk1 ?bpa2 ?bpl2 ?bpc2 ?bpk2 ?bpa3 ?bpl3 ?bpc3 ?bpk3 ?bpa4 ?bpl4 ?bpc4 ?bpk4 ?bpa5 ?bpl5 ?bpc5 ?bpk5 ?bpa6 ?bpl6 ?bpc6 ?bpk6 ?bpa7 ?bpl7 ?bpc7 ?bpk7 ?bpa8 ?bpl8 ?bpc8 ?bpk8 ?bpa9 ?bpl9 ?bpc9 ?bpk9 ?bpa10 ?bpl10 ?bpc10 ?bpk10 ?bpa11 ?bpl11 ?bpc11 ?bpk11 ?bpa12 ?bpl12 ?bpc12 ?bpk12 ?bpa13 ?bpl13 ?bpc13 ?bpk13 ?bpa14 ?bpl14 ?bpc14 ?bpk14 ?bpa15 ?bpl15 ?bpc15 ?bpk15 ?bpa16 ?bpl16 ?bpc16 ?bpk16 ?bpa17 ?bpl17 ?bpc17 ?bpk17 ?bpa18 ?bpl18 ?bpc18 ?bpk18 ?bpa19 ?bpl19 ?bpc19 ?bpk19 ?bpa20 ?bpl20 ?bpc20 ?bpk20 ?bpa21 ?bpl21 ?bpc21 ?bpk21 ?bpa22 ?bpl22 ?bpc22 ?bpk22 ?bpa23 ?bpl23 ?bpc23 ?bpk23 ?bpa24 ?bpl24 ?bpc24 ?bpk24 ?bpa25 ?bpl25 ?bpc25 ?bpk25 ?bpa26 ?bpl26 ?bpc26 ?bpk26 ?bpa27 ?bpl27 ?bpc27 ?bpk27 ?bpa28 ?bpl28 ?bpc28 ?bpk28 ?bpa29 ?bpl29 ?bpc29 ?bpk29 ?bpa30 ?bpi30 ?bpl30 ?bpc30 ?bpk30 ?bpa31 ?bpi31 ?bpl31 ?bpc31 ?bpk31 ?bpa32 ?bpi32 ?bpl32 ?bpc32 ?bpk32 ?bpa33 ?bpi33 ?bpl33 ?bpc33 ?bpk33 ?bpg0 ?bpg1 ?bpg2 ?bpg3 ?bpq3 ?bpg4 ?bpg5 ?bpq5 ?bpg6 ?bpq6 ?bpg7 ?bpg8 ?bpg9 ?bpg10 ?bpg11 ?bpog_Runs ?bpoh_Runs ?bpop_Runs ?bpos_Runs ?bpom_Runs ?bpok_Runs ?bpon_Runs_runs ?bpon_Runs_place ?bpxa0 ?bpxl0 ?bpxn0 ?bpxy0 ?bpxp0 ?bpxr0 ?bpxu0 ?bpxv0 ?bpxa1 ?bpxl1 ?bpxn1 ?bpxy1 ?bpxp1 ?bpxr1 ?bpxu1 ?bpxv1 ?bpxa2 ?bpxl2 ?bpxn2 ?bpxy2 ?bpxp2 ?bpxr2 ?bpxu2 ?bpxv2 ?bpxm_NoStatement_BoxError ?bpxi_NoStatement_BoxError ?bpxm_NoStatement_NoStatement ?bpxi_NoStatement_NoStatement ?bpxm_NoStatement_NoName ?bpxi_NoStatement_NoName ?bpxi_NoStatement_ValueError ?bpz_ValueError ?bpz_all ?bpz_int ?bpz_isinstance ?bpz_len ?bpz_range ?bpz_str ?bpz_tuple ?bpOK
    (case bpoa_Runs => k_is)
    (case bpa0 => k_is)
    (case bpl0 => k_is)
    (case bpc0 => k_is)
    (case bpk0 => k_is)
    (case bpa1 => k_is)
    (case bpl1 => k_is)
    (case bpc1 => k_is)
    (case bpk1 => k_is)
    (case bpa2 => k_is)
    (case bpl2 => k_is)
    (case bpc2 => k_is)
    (case bpk2 => k_is)
    (case bpa3 => k_is)
    (case bpl3 => k_is)
    (case bpc3 => k_is)
    (case bpk3 => k_is)
    (case bpa4 => k_is)
    (case bpl4 => k_is)
    (case bpc4 => k_is)
    (case bpk4 => k_is)
    (case bpa5 => k_is)
    (case bpl5 => k_is)
    (case bpc5 => k_is)
    (case bpk5 => k_is)
    (case bpa6 => k_is)
    (case bpl6 => k_is)
    (case bpc6 => k_is)
    (case bpk6 => k_is)
    (case bpa7 => k_is)
    (case bpl7 => k_is)
    (case bpc7 => k_is)
    (case bpk7 => k_is)
    (case bpa8 => k_is)
    (case bpl8 => k_is)
    (case bpc8 => k_is)
    (case bpk8 => k_is)
    (case bpa9 => k_is)
    (case bpl9 => k_is)
    (case bpc9 => k_is)
    (case bpk9 => k_is)
    (case bpa10 => k_is)
    (case bpl10 => k_is)
    (case bpc10 => k_is)
    (case bpk10 => k_is)
    (case bpa11 => k_is)
    (case bpl11 => k_is)
    (case bpc11 => k_is)
    (case bpk11 => k_is)
    (case bpa12 => k_is)
    (case bpl12 => k_is)
    (case bpc12 => k_is)
    (case bpk12 => k_is)
    (case bpa13 => k_is)
    (case bpl13 => k_is)
    (case bpc13 => k_is)
    (case bpk13 => k_is)
    (case bpa14 => k_is)
    (case bpl14 => k_is)
    (case bpc14 => k_is)
    (case bpk14 => k_is)
    (case bpa15 => k_is)
    (case bpl15 => k_is)
    (case bpc15 => k_is)
    (case bpk15 => k_is)
    (case bpa16 => k_is)
    (case bpl16 => k_is)
    (case bpc16 => k_is)
    (case bpk16 => k_is)
    (case bpa17 => k_is)
    (case bpl17 => k_is)
    (case bpc17 => k_is)
    (case bpk17 => k_is)
    (case bpa18 => k_is)
    (case bpl18 => k_is)
    (case bpc18 => k_is)
    (case bpk18 => k_is)
    (case bpa19 => k_is)
    (case bpl19 => k_is)
    (case bpc19 => k_is)
    (case bpk19 => k_is)
    (case bpa20 => k_is)
    (case bpl20 => k_is)
    (case bpc20 => k_is)
    (case bpk20 => k_is)
    (case bpa21 => k_is)
    (case bpl21 => k_is)
    (case bpc21 => k_is)
    (case bpk21 => k_is)
    (case bpa22 => k_is)
    (case bpl22 => k_is)
    (case bpc22 => k_is)
    (case bpk22 => k_is)
    (case bpa23 => k_is)
    (case bpl23 => k_is)
    (case bpc23 => k_is)
    (case bpk23 => k_is)
    (case bpa24 => k_is)
    (case bpl24 => k_is)
    (case bpc24 => k_is)
    (case bpk24 => k_is)
    (case bpa25 => k_is)
    (case bpl25 => k_is)
    (case bpc25 => k_is)
    (case bpk25 => k_is)
    (case bpa26 => k_is)
    (case bpl26 => k_is)
    (case bpc26 => k_is)
    (case bpk26 => k_is)
    (case bpa27 => k_is)
    (case bpl27 => k_is)
    (case bpc27 => k_is)
    (case bpk27 => k_is)
    (case bpa28 => k_is)
    (case bpl28 => k_is)
    (case bpc28 => k_is)
    (case bpk28 => k_is)
    (case bpa29 => k_is)
    (case bpl29 => k_is)
    (case bpc29 => k_is)
    (case bpk29 => k_is)
    (case bpa30 => k_is)
    (case bpi30 => k_is)
    (case bpl30 => k_is)
    (case bpc30 => k_is)
    (case bpk30 => k_is)
    (case bpa31 => k_is)
    (case bpi31 => k_is)
    (case bpl31 => k_is)
    (case bpc31 => k_is)
    (case bpk31 => k_is)
    (case bpa32 => k_is)
    (case bpi32 => k_is)
    (case bpl32 => k_is)
    (case bpc32 => k_is)
    (case bpk32 => k_is)
    (case bpa33 => k_is)
    (case bpi33 => k_is)
    (case bpl33 => k_is)
    (case bpc33 => k_is)
    (case bpk33 => k_is)
    (case bpg0 => k_is)
    (case bpg1 => k_is)
    (case bpg2 => k_is)
    (case bpg3 => k_is)
    (case bpq3 => k_is)
    (case bpg4 => k_is)
    (case bpg5 => k_is)
    (case bpq5 => k_is)
    (case bpg6 => k_is)
    (case bpq6 => k_is)
    (case bpg7 => k_is)
    (case bpg8 => k_is)
    (case bpg9 => k_is)
    (case bpg10 => k_is)
    (case bpg11 => k_is)
    (case bpog_Runs => k_is)
    (case bpoh_Runs => k_is)
    (case bpop_Runs => k_is)
    (case bpos_Runs => k_is)
    (case bpom_Runs => k_is)
    (case bpok_Runs => k_is)
    (case bpon_Runs_runs => k_is)
    (case bpon_Runs_place => k_is)
    (case bpxa0 => k_is)
    (case bpxl0 => k_is)
    (case bpxn0 => k_is)
    (case bpxy0 => rfl)
    (case bpxp0 => k_is)
    (case bpxr0 => k_is)
    (case bpxu0 => k_is)
    (case bpxv0 => k_is)
    (case bpxa1 => k_is)
    (case bpxl1 => k_is)
    (case bpxn1 => k_is)
    (case bpxy1 => rfl)
    (case bpxp1 => k_is)
    (case bpxr1 => k_is)
    (case bpxu1 => k_is)
    (case bpxv1 => k_is)
    (case bpxa2 => k_is)
    (case bpxl2 => k_is)
    (case bpxn2 => k_is)
    (case bpxy2 => rfl)
    (case bpxp2 => k_is)
    (case bpxr2 => k_is)
    (case bpxu2 => k_is)
    (case bpxv2 => k_is)
    (case bpxm_NoStatement_BoxError => k_is)
    (case bpxi_NoStatement_BoxError => kit_is)
    (case bpxm_NoStatement_NoStatement => k_is)
    (case bpxi_NoStatement_NoStatement => kit_is)
    (case bpxm_NoStatement_NoName => k_is)
    (case bpxi_NoStatement_NoName => kit_is)
    (case bpxi_NoStatement_ValueError => kit_is)
    (case bpz_ValueError => k_is)
    (case bpz_all => k_is)
    (case bpz_int => k_is)
    (case bpz_isinstance => k_is)
    (case bpz_len => k_is)
    (case bpz_range => k_is)
    (case bpz_str => k_is)
    (case bpz_tuple => k_is)
    case bpOK => exact fun P D base T => K06.ok_law T
#print axioms PySem.Challenge.cw_boxproof_k06_what_is_read_holds