import PyProof.Rows.All
import Wide.All
import OpenK.AllK
import Wide.FinOn
import HandS.SetTxt0
import HandS.Set
import HandS.Sort
import HandS.SetFor
import HandS.Strs
import PyProof.Rows.SortStr
import HandS.Base
import HandS.Call
import HandS.List
import HandS.Comp
import HandS.Dict
import HandS.Iter
import HandS.Text
import HandS.Flow
import HandS.Words
import HandS.More
import HandS.RaiseMore
import HandS.WrittenGet
import PyProof.ReprRoads
import HandS.Wide
import HandS.IsInst
import HandS.Deep
import HandS.TupAny
import HandS.TupLe
import HandS.Conv
import KE.GoesMore
import PyProof.ListStr
import HandS.SortInts
import PyProof.FString5
import HandS.Style
import HandS.Zip
import HandS.Defaults
import HandS.EndBits
import HandS.Head0
import HandS.Head1
import HandS.Head2
import HandS.HeadEnd
import HandS.HeadHook1
import HandS.HeadHook2
import HandS.HeadHook3
import HandS.HeadHook4
import KE.KStateDown
import Lean
import PySem.Challenge.RW_pagelives_k01_kinds
set_option Elab.async false
set_option linter.all false
set_option maxRecDepth 100000
section
set_option maxHeartbeats 2000000
/-! sets of texts, made of a row of texts -/
namespace PLS
open PySem PySem.Froz L2
variable {P : Program} {w : World}
/-- a set's payload: the texts ks, each once, on a table that can be walked -/
structure Tx (P : Program) (w : World) (D : SD) (ks : List Str) : Prop where
  ok : TxOk P w D ks
  ris : Ris D.2.2.place.toList
  led : w.params.followText "set-order" = true ∨ D.2.2.led = true
theorem plain_place (t : SetTable) : (if t.plain = true then { t with plain := false } else t).place = t.place ∧ (if t.plain = true then { t with plain := false } else t).led = t.led := by
  split <;> exact ⟨rfl, rfl⟩
theorem tail_walk {ep : Nat} {es : Array (Int × Value)} {t : SetTable} {d : Bool} (r : Ris t.place.toList) : Ris (tailTx ep es t d).2.2.place.toList ∧ (tailTx ep es t d).2.2.led = t.led := by
  unfold tailTx
  split
  · exact ⟨relayAll_ris _ _ _, relayAll_led _ _ _⟩
  · exact ⟨r, rfl⟩
theorem Tx.add {D : SD} {ks : List Str} {k : Str} (u : Tok) (T : Tx P w D ks) : Tx P w (addTx (hashStr w k) (.str k u) D) (k :: ks) := by
  have e := plain_place (layNew D.2.2 D.1 (hashStr w k) (.str k u)).2.1
  have r0 := layNew_ris D.2.2 D.1 (hashStr w k) (.str k u) T.ris
  have l0 := layNew_led D.2.2 D.1 (hashStr w k) (.str k u)
  have r1 : Ris (if (layNew D.2.2 D.1 (hashStr w k) (.str k u)).2.1.plain = true then { (layNew D.2.2 D.1 (hashStr w k) (.str k u)).2.1 with plain := false } else (layNew D.2.2 D.1 (hashStr w k) (.str k u)).2.1).place.toList := by
    rw [e.1]; exact r0
  obtain ⟨a, b⟩ := tail_walk (ep := D.2.1) (es := (layNew D.2.2 D.1 (hashStr w k) (.str k u)).1) (d := (layNew D.2.2 D.1 (hashStr w k) (.str k u)).2.2.1) r1
  refine ⟨add_ok u T.ok, a, T.led.imp id fun z => ?_⟩
  show (tailTx _ _ _ _).2.2.led = true
  rw [b, e.2, l0]; exact z
section
variable {A : Around} {E : Value → Shared → Prop} {s : Shared} {a : Addr} {D : SD} {ks : List Str} {k : Str} {u : Tok}
/-- a text that is there already -/
theorem add_old {Q : Bool → Shared → Prop} (ho : s.heap.get? a = some (sObj "set" D)) (T : TxOk P w D ks) (hk : k ∈ ks) (hb : ks.length < scanBound) (h : Q false s) : wpAny (model P w) A (setAddHashed a (.str k u) (hashStr w k)) Q E s := by
  obtain ⟨es, ep, t⟩ := D
  have hsz : es.size = ks.length := T.sz
  have hb0 : es.size < scanBound := by omega
  have hel : ElemsOf (strKind P w) es.toList := T.el
  have there : ∃ j, List.findIdx? (fun e => (strKind P w).is k e.2) es.toList = some j := by
    obtain ⟨e, he, hi⟩ := (T.mem k).mp hk
    cases hr : List.findIdx? (fun e => (strKind P w).is k e.2) es.toList with
    | some j => exact ⟨j, rfl⟩
    | none =>
      have := List.findIdx?_eq_none_iff.mp hr e he
      rw [hi] at this; cases this
  obtain ⟨j, hj⟩ := there
  unfold setAddHashed setAddHashedIn
  refine wpAny_holding (wpAny_bind (wpAny_setState_of ho rfl T.fit ?_))
  dsimp only
  rw [byScan_of rfl hb0 hel]
  simp only [↓reduceIte]
  unfold setAddByScan
  refine wpAny_bind (wpAny_bind (wpAny_rule ?_))
  refine wpAny_bind (wpAny_setScan_of (knd := strKind P w) (k := k) (is_str k u) ho rfl T.fit hel ?_)
  rw [hj]
  dsimp only
  exact wpAny_pure (wpAny_pure h)
theorem add_text {Q : Bool → Shared → Prop} (ho : s.heap.get? a = some (sObj "set" D)) (T : Tx P w D ks) (nd : ks.Nodup) (hb : ks.length + 1 < scanBound)
    (h : ∀ b h' D' ks', Heap.SameBut a s.heap h' → h'.get? a = some (sObj "set" D') → Tx P w D' ks' → ks'.Nodup → (∀ z, z ∈ ks' ↔ z = k ∨ z ∈ ks) → ks'.length ≤ ks.length + 1 → Q b { s with heap := h' }) : wpAny (model P w) A (setAddHashed a (.str k u) (hashStr w k)) Q E s := by
  by_cases hk : k ∈ ks
  · exact add_old ho T.ok hk (by omega) (h false s.heap D ks (Heap.SameBut.refl a s.heap) ho T nd (fun z => ⟨.inr, fun c => c.elim (fun e => e ▸ hk) id⟩) (Nat.le_succ _))
  · refine add_x ho T.ok hk hb ?_
    exact h true _ _ (k :: ks) (Heap.SameBut.update s.heap a _) (get_upd _ ho rfl) (T.add u) (List.nodup_cons.mpr ⟨hk, nd⟩) (fun z => List.mem_cons) (by rw [List.length_cons]; exact Nat.le_refl _)
end
section
variable {A : Around} {R : Result → Shared → Prop} {I : Addr} {fp wr : List Addr} {G : Array GenState → Array GenState → Prop} {n : Nat} {Pv : Nat → Value → Prop} {St : Nat → Shared → Prop}
/-- what the walk leaves: the texts of the row, each once -/
abbrev Left (P : Program) (w : World) (S : Addr) (xs : List Str) (i : Nat) (s : Shared) : Prop := ∃ D ks, s.heap.get? S = some (sObj "set" D) ∧ Tx P w D ks ∧ ks.Nodup ∧ (∀ z, z ∈ ks ↔ z ∈ xs.take i) ∧ ks.length ≤ i
theorem take_more {xs : List Str} {i : Nat} (h : i < xs.length) (z : Str) : z ∈ xs.take (i + 1) ↔ z = xs.getD i Str.empty ∨ z ∈ xs.take i := by
  rw [List.take_add_one, List.mem_append, List.getElem?_eq_getElem h, List.getD_eq_getElem?_getD, List.getElem?_eq_getElem h]
  simp only [Option.toList, List.mem_singleton, Option.getD_some]
  exact Or.comm
theorem loop_texts (W : WalksS P w A.in1 I fp wr G n Pv St) (S : Addr) (hSf : S ∉ fp) (xs : List Str) (hx : xs.length = n) (hval : ∀ i v, Pv i v → ∃ t, v = .str (xs.getD i Str.empty) t) (hb : n + 1 < scanBound) :
    ∀ (m i : Nat) (s : Shared), n - i = m → i ≤ n → St i s → Left P w S xs i s → (∀ s', Moved (S :: wr) G s s' → Left P w S xs n s' → R (.ok (.ret .none)) s') → codeAny (model P w) A (.builtin "set.update.loop" ⟨[.ref S, .ref I], []⟩) R s := by
  have hSw : S ∉ wr := fun q => hSf (W.sub _ q)
  have inc : ∀ b ∈ wr, b ∈ S :: wr := fun b q => List.mem_cons_of_mem _ q
  have keep : ∀ {s s' : Shared} {i : Nat}, Left P w S xs i s → (∀ o, s.heap.get? S = some o → s'.heap.get? S = some o) → Left P w S xs i s' := fun ⟨D, ks, ho, r⟩ k => ⟨D, ks, k _ ho, r⟩
  intro m
  induction m with
  | zero =>
    intro i s hm hi hst hL hR
    obtain rfl : i = n := by omega
    refine codeAny_builtin PyProof.Rows.F.entry_set_update_loop ?z
    case z =>
      rw [Around.under_plainId PyProof.Rows.F.plain_set_update_loop _]
      refine (show wpAny _ A.in1 (pyNext (.ref I) >>= _) _ _ s from wpAny_bind (W.done s _ _ hst fun s' hm' => (show wpAny _ A.in1 (ret Value.none) _ _ s' from wpAny_pure (hR s' (hm'.mono inc) (keep hL (hm'.heap S · hSw))))))
  | succ m ih =>
    intro i s hm hi hst hL hR
    have hlt : i < n := by omega
    refine codeAny_builtin PyProof.Rows.F.entry_set_update_loop ?z
    case z =>
      rw [Around.under_plainId PyProof.Rows.F.plain_set_update_loop _]
      refine (show wpAny _ A.in1 (pyNext (.ref I) >>= _) _ _ s from wpAny_bind (W.item i s _ _ hlt hst fun v s' hP hst' hm' => ?_))
      obtain ⟨t, rfl⟩ := hval i v hP
      obtain ⟨D, ks, ho, T, nd, mem, len⟩ := keep hL (hm'.heap S · hSw)
      refine (show wpAny _ A.in1 (holding [Value.str (xs.getD i Str.empty) t] (setAdd S (.str (xs.getD i Str.empty) t)) >>= _) _ _ s' from wpAny_bind (wpAny_holding ?_))
      unfold setAdd
      refine wpAny_holding (wpAny_bind ((strKind P w).pyHash (k := xs.getD i Str.empty) (is_str _ _) ?_))
      refine add_text (s := { s' with toks := s'.toks + 1 }) ho T nd (by omega) fun b h' D' ks' sb ho' T' nd' mem' len' => ?_
      have L' : Left P w S xs (i + 1) { s' with heap := h', toks := s'.toks + 1 } := ⟨D', ks', ho', T', nd', fun z => (mem' z).trans ((or_congr_right (mem z)).trans (take_more (by omega) z).symm), by omega⟩
      refine wpAny_pure ⟨plainId_quiet PyProof.Rows.F.plain_set_update_loop _, ih (i + 1) _ (by omega) hlt (W.frame _ s' _ _ hst' (Nat.le_succ _) fun b hb' o e => ?_) L' fun s'' hm'' hL'' => ?_⟩
      · rw [sb.2 b fun q : b = S => hSf (q ▸ hb')]; exact e
      · refine hR s'' (Moved.trans W.gtrans ((hm'.mono inc).then_heap (Nat.le_succ _) fun b o hb' e => ?_) hm'') hL''
        rw [sb.2 b fun q : b = S => hb' (q ▸ List.mem_cons_self)]; exact e
end
end PLS
end
section
set_option maxHeartbeats 3200000
namespace PLS
open PySem PySem.Froz L2
variable {P : Program} {w : World} {A : Around} {E : Value → Shared → Prop} {s : Shared}
abbrev fresh (w : World) : Obj := { cls := .type "set", dict := none, data := .set #[] 0 (.fresh 0 0 (!w.params.followText "set-order")) }
theorem Tx.fresh : Tx P w (#[], 0, .fresh 0 0 (!w.params.followText "set-order")) [] := by
  refine ⟨TxOk.nil (by generalize (!w.params.followText "set-order") = b; cases b <;> decide +kernel), ?_, ?_⟩
  · exact List.Pairwise.nil
  · cases h : w.params.followText "set-order" with
    | true => exact .inl rfl
    | false => exact .inr rfl
theorem set_list {l : Addr} {items : Array Value} {xs : List Str} {Q : Value → Shared → Prop} (hh : A.handled = none) (hl : s.heap.IsList l items) (hi : PyProof.Rows.StrsAre items.toList xs) (hb : xs.length + 1 < scanBound)
    (h : ∀ (h' : Heap) (tk : Nat) (D : SD) (ks : List Str), h'.get? s.heap.objs.size = some (sObj "set" D) → Tx P w D ks → ks.Nodup → (∀ z, z ∈ ks ↔ z ∈ xs) → ks.length ≤ xs.length → (∀ b o, s.heap.get? b = some o → h'.get? b = some o) → Q (.ref s.heap.objs.size) { s with heap := h', toks := tk }) :
    wpAny (model P w) A (call (.type "set") [.ref l]) Q E s := by
  have sz : xs.length = items.size := by
    have q := PyProof.Rows.StrsAre.length hi
    rw [Array.length_toList] at q; exact q.symm
  obtain ⟨c, tl, hmro⟩ := F.called_set.mro
  have g1 := F.called_set.made; have g2 := F.called_set.sub; have g3 := F.called_set.notType; have g4 := F.called_set.canCreate; have g5 := F.typeCall_set_1 (.ref l)
  refine wpAny_call (codeAny_of_tree (show wpAny _ _ (callAny (.type "set") _) _ _ _ from wpAny_pure ⟨Code.quiet_builtin _ (by decide +kernel), codeAny_builtin F.entry_type_call ?_⟩))
  rw [Around.under_plain (weight_type_call_type "set" [.ref l] []) rfl]
  repeat any_goals first | assumption | wp_step
  refine codeAny_mono (code_set_led1 (.ref l) (E := E) (Q₁ := fun obj s₁ => obj = .ref s.heap.objs.size ∧ s₁ = { s with heap := s.heap.push (fresh w) }) ⟨rfl, rfl⟩) fun r s₁ hr => ?_
  rcases r with e | fl
  · exact hr
  cases fl <;> first | exact hr.elim | skip
  obtain ⟨rfl, rfl⟩ := hr
  have at0 : (s.heap.push (fresh w)).get? s.heap.objs.size = some (fresh w) := Heap.get?_push_size _ rfl
  have ty0 : Shared.TypeIs { s with heap := s.heap.push (fresh w) } (.ref s.heap.objs.size) "set" := ⟨_, at0, rfl⟩
  have g6 := F.called_set.init.lookup; have g7 := F.called_set.init.bind (.ref s.heap.objs.size)
  repeat any_goals first | assumption | wp_step
  refine codeAny_mono (codeAny_call_builtin (R := wants (fun r s₂ => r = .none ∧ ∃ h' tk, s₂ = { s with heap := h', toks := tk } ∧ (∃ D ks, h'.get? s.heap.objs.size = some (sObj "set" D) ∧ Tx P w D ks ∧ ks.Nodup ∧ (∀ z, z ∈ ks ↔ z ∈ xs) ∧ ks.length ≤ xs.length) ∧ ∀ b o, s.heap.get? b = some o → h'.get? b = some o) E) F.called_set.init.plain F.entry_set_init (check_set_init_1 ty0 ?_)) fun r₂ s₂ hr₂ => ?_
  · obtain ⟨⟨ocls, odict, odata, oslots⟩, hol, hcl, nl, hdl⟩ := hl
    simp only at hcl hdl
    subst hcl; subst hdl
    have q1 := F.sub_list_set; have q2 := F.sub_list_frozenset
    have q3 : (Value.type "list" == Value.type "dict") = false := by decide
    have q4 : (s.heap.push (fresh w)).get? l = some { cls := .type "list", dict := odict, data := .seq items nl, slots := oslots } := Heap.get?_push_of_some _ hol
    have q5 : (s.heap.push (fresh w)).IsList l items := ⟨_, q4, rfl, nl, rfl⟩
    unfold Builtin.«set.__init__» noKeywords Builtin.Frozenset.updateFrom
    generalize hPI : pyIter = PI
    wp_walk
    subst hPI
    refine wpAny_pyIter_list q5 (wpAny_bind (wpAny_runValue ?_))
    have low : l < s.heap.objs.size := Heap.lt_size hol
    have ne1 : l ≠ (s.heap.push (fresh w)).objs.size := by
      rw [Heap.size_push]; exact Nat.ne_of_lt (Nat.lt_succ_of_lt low)
    have out : s.heap.objs.size ∉ [(s.heap.push (fresh w)).objs.size, l] := by
      rw [Heap.size_push]; intro z
      rcases List.mem_cons.mp z with z | z
      · exact absurd z (Nat.ne_of_lt (Nat.lt_succ_self _))
      · exact absurd (List.mem_singleton.mp z) (Nat.ne_of_gt low)
    refine loop_texts ((Walks.list (by simp [hh]) _ l ne1 items).toS) s.heap.objs.size out xs sz (fun i v hv => SS.strs_at hi i v (by rw [Array.getElem?_toList]; exact hv)) (by rw [← sz]; exact hb) (items.size - 0) 0 _ (by omega) (Nat.zero_le _)
      ⟨⟨_, Heap.get?_push_size _ rfl, rfl, rfl⟩, q5.push _⟩ ?_ ?_
    · exact ⟨(#[], 0, .fresh 0 0 (!w.params.followText "set-order")), [], Heap.get?_push_of_some _ at0, Tx.fresh, List.nodup_nil, fun z => by simp, Nat.le_refl _⟩
    · intro s' hm ⟨D, ks, ho, T, nd, mem, len⟩
      obtain ⟨h', g', d', tk', os'⟩ := s'
      obtain rfl : g' = s.gens := hm.gens
      obtain rfl : d' = s.drawn := hm.drawn
      obtain rfl : os' = s.os := hm.os
      refine (show wpAny _ _ _ _ _ _ from wpAny_pure (show wpAny _ _ (ret Value.none) _ _ _ from wpAny_pure ⟨rfl, h', tk', rfl, ⟨D, ks, ho, T, nd, fun z => by rw [mem z, ← sz, List.take_length], by omega⟩, fun b o e => ?_⟩))
      have lt : b < s.heap.objs.size := Heap.lt_size e
      refine hm.heap b o ?_ (Heap.get?_push_of_some _ (Heap.get?_push_of_some _ e))
      rw [Heap.size_push]; intro z
      rcases List.mem_cons.mp z with z | z
      · exact absurd z (Nat.ne_of_lt lt)
      · exact absurd (List.mem_singleton.mp z) (Nat.ne_of_lt (Nat.lt_succ_of_lt lt))
  · rcases r₂ with e | fl₂
    · exact hr₂
    cases fl₂ <;> first | exact hr₂.elim | skip
    obtain ⟨rfl, h', tk, rfl, ⟨D, ks, ho, T, nd, mem, len⟩, hk⟩ := hr₂
    repeat any_goals first | assumption | wp_step
    exact h _ _ D ks ho T nd mem len hk
theorem set_tuple {l : Addr} {items : Array Value} {xs : List Str} {Q : Value → Shared → Prop} (hh : A.handled = none) (hl : s.heap.IsTuple l items) (hi : PyProof.Rows.StrsAre items.toList xs) (hb : xs.length + 1 < scanBound)
    (h : ∀ (h' : Heap) (tk : Nat) (D : SD) (ks : List Str), h'.get? s.heap.objs.size = some (sObj "set" D) → Tx P w D ks → ks.Nodup → (∀ z, z ∈ ks ↔ z ∈ xs) → ks.length ≤ xs.length → (∀ b o, s.heap.get? b = some o → h'.get? b = some o) → Q (.ref s.heap.objs.size) { s with heap := h', toks := tk }) :
    wpAny (model P w) A (call (.type "set") [.ref l]) Q E s := by
  have sz : xs.length = items.size := by
    have q := PyProof.Rows.StrsAre.length hi
    rw [Array.length_toList] at q; exact q.symm
  obtain ⟨c, tl, hmro⟩ := F.called_set.mro
  have g1 := F.called_set.made; have g2 := F.called_set.sub; have g3 := F.called_set.notType; have g4 := F.called_set.canCreate; have g5 := F.typeCall_set_1 (.ref l)
  refine wpAny_call (codeAny_of_tree (show wpAny _ _ (callAny (.type "set") _) _ _ _ from wpAny_pure ⟨Code.quiet_builtin _ (by decide +kernel), codeAny_builtin F.entry_type_call ?_⟩))
  rw [Around.under_plain (weight_type_call_type "set" [.ref l] []) rfl]
  repeat any_goals first | assumption | wp_step
  refine codeAny_mono (code_set_led1 (.ref l) (E := E) (Q₁ := fun obj s₁ => obj = .ref s.heap.objs.size ∧ s₁ = { s with heap := s.heap.push (fresh w) }) ⟨rfl, rfl⟩) fun r s₁ hr => ?_
  rcases r with e | fl
  · exact hr
  cases fl <;> first | exact hr.elim | skip
  obtain ⟨rfl, rfl⟩ := hr
  have at0 : (s.heap.push (fresh w)).get? s.heap.objs.size = some (fresh w) := Heap.get?_push_size _ rfl
  have ty0 : Shared.TypeIs { s with heap := s.heap.push (fresh w) } (.ref s.heap.objs.size) "set" := ⟨_, at0, rfl⟩
  have g6 := F.called_set.init.lookup; have g7 := F.called_set.init.bind (.ref s.heap.objs.size)
  repeat any_goals first | assumption | wp_step
  refine codeAny_mono (codeAny_call_builtin (R := wants (fun r s₂ => r = .none ∧ ∃ h' tk, s₂ = { s with heap := h', toks := tk } ∧ (∃ D ks, h'.get? s.heap.objs.size = some (sObj "set" D) ∧ Tx P w D ks ∧ ks.Nodup ∧ (∀ z, z ∈ ks ↔ z ∈ xs) ∧ ks.length ≤ xs.length) ∧ ∀ b o, s.heap.get? b = some o → h'.get? b = some o) E) F.called_set.init.plain F.entry_set_init (check_set_init_1 ty0 ?_)) fun r₂ s₂ hr₂ => ?_
  · obtain ⟨⟨ocls, odict, odata, oslots⟩, hol, hcl, nl, hdl⟩ := hl
    simp only at hcl hdl
    subst hcl; subst hdl
    have q1 := F.sub_tuple_set; have q2 := F.sub_tuple_frozenset
    have q3 : (Value.type "tuple" == Value.type "dict") = false := by decide
    have q4 : (s.heap.push (fresh w)).get? l = some { cls := .type "tuple", dict := odict, data := .seq items nl, slots := oslots } := Heap.get?_push_of_some _ hol
    have q5 : (s.heap.push (fresh w)).IsTuple l items := ⟨_, q4, rfl, nl, rfl⟩
    unfold Builtin.«set.__init__» noKeywords Builtin.Frozenset.updateFrom
    generalize hPI : pyIter = PI
    wp_walk
    subst hPI
    refine wpAny_pyIter_tuple q5 (wpAny_bind (wpAny_runValue ?_))
    have low : l < s.heap.objs.size := Heap.lt_size hol
    have ne1 : l ≠ (s.heap.push (fresh w)).objs.size := by
      rw [Heap.size_push]; exact Nat.ne_of_lt (Nat.lt_succ_of_lt low)
    have out : s.heap.objs.size ∉ [(s.heap.push (fresh w)).objs.size, l] := by
      rw [Heap.size_push]; intro z
      rcases List.mem_cons.mp z with z | z
      · exact absurd z (Nat.ne_of_lt (Nat.lt_succ_self _))
      · exact absurd (List.mem_singleton.mp z) (Nat.ne_of_gt low)
    refine loop_texts ((Walks.tuple (by simp [hh]) _ l ne1 items).toS) s.heap.objs.size out xs sz (fun i v hv => SS.strs_at hi i v (by rw [Array.getElem?_toList]; exact hv)) (by rw [← sz]; exact hb) (items.size - 0) 0 _ (by omega) (Nat.zero_le _)
      ⟨⟨_, Heap.get?_push_size _ rfl, rfl, rfl⟩, q5.push _⟩ ?_ ?_
    · exact ⟨(#[], 0, .fresh 0 0 (!w.params.followText "set-order")), [], Heap.get?_push_of_some _ at0, Tx.fresh, List.nodup_nil, fun z => by simp, Nat.le_refl _⟩
    · intro s' hm ⟨D, ks, ho, T, nd, mem, len⟩
      obtain ⟨h', g', d', tk', os'⟩ := s'
      obtain rfl : g' = s.gens := hm.gens
      obtain rfl : d' = s.drawn := hm.drawn
      obtain rfl : os' = s.os := hm.os
      refine (show wpAny _ _ _ _ _ _ from wpAny_pure (show wpAny _ _ (ret Value.none) _ _ _ from wpAny_pure ⟨rfl, h', tk', rfl, ⟨D, ks, ho, T, nd, fun z => by rw [mem z, ← sz, List.take_length], by omega⟩, fun b o e => ?_⟩))
      have lt : b < s.heap.objs.size := Heap.lt_size e
      refine hm.heap b o ?_ (Heap.get?_push_of_some _ (Heap.get?_push_of_some _ e))
      rw [Heap.size_push]; intro z
      rcases List.mem_cons.mp z with z | z
      · exact absurd z (Nat.ne_of_lt lt)
      · exact absurd (List.mem_singleton.mp z) (Nat.ne_of_lt (Nat.lt_succ_of_lt lt))
  · rcases r₂ with e | fl₂
    · exact hr₂
    cases fl₂ <;> first | exact hr₂.elim | skip
    obtain ⟨rfl, h', tk, rfl, ⟨D, ks, ho, T, nd, mem, len⟩, hk⟩ := hr₂
    repeat any_goals first | assumption | wp_step
    exact h _ _ D ks ho T nd mem len hk
end PLS
end
section
set_option maxHeartbeats 3200000
namespace PLS
open PySem PySem.Froz L2 PyProof.Rows PySem.Spec
variable {P : Program} {w : World} {A : Around} {E : Value → Shared → Prop} {s : Shared}
theorem perm_of {α : Type} [DecidableEq α] : ∀ (ks m : List α), ks.Nodup → (∀ z ∈ ks, z ∈ m) → m.length ≤ ks.length → m.Perm ks
  | [], m, _, _, h => by
    have : m = [] := List.length_eq_zero_iff.mp (by simpa using h)
    subst this
    exact List.Perm.refl _
  | k :: r, m, nd, h, hl => by
    obtain ⟨n1, n2⟩ := List.nodup_cons.mp nd
    obtain ⟨m1, m2, rfl⟩ := List.append_of_mem (h k List.mem_cons_self)
    rw [List.length_append, List.length_cons, List.length_cons] at hl
    have ih := perm_of r (m1 ++ m2) n2 (fun z hz => by
      have := h z (List.mem_cons_of_mem _ hz)
      rcases List.mem_append.mp this with q | q
      · exact List.mem_append_left _ q
      · rcases List.mem_cons.mp q with q | q
        · exact absurd (q ▸ hz) n1
        · exact List.mem_append_right _ q) (by rw [List.length_append]; omega)
    exact List.perm_middle.trans (ih.cons k)
def txt (v : Value) : Str := match v with
  | .str x _ => x
  | _ => Str.empty
theorem strs_of : ∀ l : List Value, (∀ v ∈ l, ∃ k t, v = Value.str k t) → StrsAre l (l.map txt)
  | [], _ => .nil
  | v :: l, h => by
    obtain ⟨k, t, rfl⟩ := h v List.mem_cons_self
    exact .cons k t (strs_of l fun u hu => h u (List.mem_cons_of_mem _ hu))
/-- sorted(a set of texts) -/
theorem sorted_texts {a : Addr} {D : SD} {ks : List Str} {Q : Value → Shared → Prop} (ho : s.heap.get? a = some (sObj "set" D)) (T : Tx P w D ks) (nd : ks.Nodup) (hh : A.handled = none) (h64 : ks.length < 64)
    (hQ : ∀ (s' : Shared) (p : Addr) (out : Array Value) (c : Nat) (ys : List Str), (∀ b o, s.heap.get? b = some o → s'.heap.get? b = some o) → s'.gens = s.gens → s'.os = s.os → s.heap.objs.size ≤ p → s'.heap.get? p = some (seqObj "list" out c) → StrsAre out.toList ys → ys.Perm ks → sortedS ys = true → Q (.ref p) s') :
    wpAny (model P w) A (call (.builtin "sorted") [.ref a]) Q E s := by
  have hsz : D.1.size = ks.length := T.ok.sz
  have kind : ∀ e ∈ D.1.toList, ∃ k t, e.2 = Value.str k t := fun e he => by
    obtain ⟨⟨k, hk, _⟩, _⟩ := T.ok.el e he
    have hk : Value.isStrOf k e.2 = true := hk
    cases q : e.2 <;> first | (rw [q] at hk; simp [Value.isStrOf] at hk; done) | exact ⟨_, _, rfl⟩
  have pk : (D.1.toList.map fun e => txt e.2).Perm ks := by
    refine perm_of ks _ nd (fun z hz => ?_) (by rw [List.length_map, Array.length_toList, hsz]; exact Nat.le_refl _)
    obtain ⟨e, he, hi⟩ := (T.ok.mem z).mp hz
    refine List.mem_map.mpr ⟨e, he, ?_⟩
    obtain ⟨k, t, q⟩ := kind e he
    have hi : Value.isStrOf z e.2 = true := hi
    rw [q] at hi ⊢
    simpa [Value.isStrOf, txt] using hi
  refine Calls.call_function_entry kind_sorted plain_sorted entry_sorted (args_sorted1 _) ?_
  unfold Builtin.«sorted»
  refine wpAny_bind (m := checkCount "sorted" 1 1 _) (wpAny_pure (wpAny_bind (collect_set (A := A.in1) (es := D.1) (ep := D.2.1) (t := D.2.2) hh ⟨_, ho, rfl, rfl⟩ T.ok.fit (by rw [hsz]; unfold scanBound; omega) T.ris T.led fun s1 vs k1 hz g1 o1 pm => ?_)))
  have vl : vs.length = ks.length := by rw [pm.length_eq, List.length_map, Array.length_toList, hsz]
  have hS : StrsAre vs (vs.map txt) := strs_of vs fun v hv => by
    obtain ⟨e, he, q⟩ := List.mem_map.mp (pm.mem_iff.mp hv)
    obtain ⟨k, t, r⟩ := kind e he
    exact ⟨k, t, q ▸ r⟩
  have pv : (vs.map txt).Perm ks := by
    have q := pm.map txt
    rw [List.map_map] at q
    exact q.trans pk
  refine wpAny_bind (wpAny_newList ?_ (by rw [vl, sizeLine_eq]; omega))
  have hoL : (s1.heap.push (seqObj "list" vs.toArray 0)).get? s1.heap.objs.size = some (seqObj "list" vs.toArray 0) := Heap.get?_push_size _ rfl
  refine wpAny_bind (wpAny_holding (wpAny_call_entry slot_list_sort ⟨_, hoL, rfl⟩ entry_list_sort (list_sort_treeK strKind_oneLt hoL hS.keysOf (fun v₁ v₂ rest e => keyKind_strs (by rw [← e]; exact hS)) (by rw [vl]; exact h64) fun st' a1 a2 => ⟨_, rfl, ?_⟩) (args_list_sort _)))
  obtain ⟨ys, b1, b2, b3⟩ := sorted_out_str hS a1 a2
  obtain ⟨c, hc⟩ := sortedHeap_at (vs := vs) (out := (arrOf st').map (·.2)) hoL
  refine wpAny_pure ⟨_, rfl, hQ _ s1.heap.objs.size _ c ys (fun b u e => ?_) g1 o1 hz hc b1 (b2.trans pv) b3⟩
  have lt := Heap.lt_size (k1 b u e)
  exact (sortedHeap_old (Nat.ne_of_lt lt) (by rw [size_push']; exact Nat.lt_succ_of_lt lt)).trans (Heap.get?_push_of_some _ (k1 b u e))
end PLS
end
section
set_option maxHeartbeats 3200000
/-! sets of whole numbers, made of a row of whole numbers -/
namespace PLI
open PySem PySem.Froz L2
variable {P : Program} {w : World}
section
variable {A : Around} {R : Result → Shared → Prop} {I : Addr} {fp wr : List Addr} {G : Array GenState → Array GenState → Prop} {n : Nat} {Pv : Nat → Value → Prop} {St : Nat → Shared → Prop}
/-- what the walk leaves: the numbers of the row, each once -/
abbrev LeftI (w : World) (S : Addr) (xs : List Int) (i : Nat) (s : Shared) : Prop := ∃ m, SetR w s.heap S (fun k => decide (k ∈ xs.take i)) m ∧ m ≤ i
theorem take_moreI {xs : List Int} {i : Nat} (h : i < xs.length) (z : Int) : z ∈ xs.take (i + 1) ↔ z ∈ xs.take i ∨ z = xs.getD i 0 := by
  rw [List.take_add_one, List.mem_append, List.getElem?_eq_getElem h, List.getD_eq_getElem?_getD, List.getElem?_eq_getElem h]
  simp only [Option.toList, List.mem_singleton, Option.getD_some]
theorem loop_ints (W : WalksS P w A.in1 I fp wr G n Pv St) (S : Addr) (hSf : S ∉ fp) (xs : List Int) (hx : xs.length = n) (hval : ∀ i v, Pv i v → ∃ t, v = .int (xs.getD i 0) t) (hb : n + 1 < scanBound) :
    ∀ (m i : Nat) (s : Shared), n - i = m → i ≤ n → St i s → LeftI w S xs i s → (∀ s', Moved (S :: wr) G s s' → LeftI w S xs n s' → R (.ok (.ret .none)) s') → codeAny (model P w) A (.builtin "set.update.loop" ⟨[.ref S, .ref I], []⟩) R s := by
  have hSw : S ∉ wr := fun q => hSf (W.sub _ q)
  have inc : ∀ b ∈ wr, b ∈ S :: wr := fun b q => List.mem_cons_of_mem _ q
  have keep : ∀ {s s' : Shared} {i : Nat}, LeftI w S xs i s → (∀ o, s.heap.get? S = some o → s'.heap.get? S = some o) → LeftI w S xs i s' := fun ⟨m, R, l⟩ k => ⟨m, R.at k, l⟩
  intro m
  induction m with
  | zero =>
    intro i s hm hi hst hL hR
    obtain rfl : i = n := by omega
    refine codeAny_builtin PyProof.Rows.F.entry_set_update_loop ?z
    case z =>
      rw [Around.under_plainId PyProof.Rows.F.plain_set_update_loop _]
      exact (show wpAny _ A.in1 (pyNext (.ref I) >>= _) _ _ s from wpAny_bind (W.done s _ _ hst fun s' hm' => (show wpAny _ A.in1 (ret Value.none) _ _ s' from wpAny_pure (hR s' (hm'.mono inc) (keep hL (hm'.heap S · hSw))))))
  | succ m ih =>
    intro i s hm hi hst hL hR
    have hlt : i < n := by omega
    refine codeAny_builtin PyProof.Rows.F.entry_set_update_loop ?z
    case z =>
      rw [Around.under_plainId PyProof.Rows.F.plain_set_update_loop _]
      refine (show wpAny _ A.in1 (pyNext (.ref I) >>= _) _ _ s from wpAny_bind (W.item i s _ _ hlt hst fun v s' hP hst' hm' => ?_))
      obtain ⟨t, rfl⟩ := hval i v hP
      obtain ⟨c, R, lc⟩ := keep hL (hm'.heap S · hSw)
      refine (show wpAny _ A.in1 (holding [Value.int (xs.getD i 0) t] (setAdd S (.int (xs.getD i 0) t)) >>= _) _ _ s' from wpAny_bind (wpAny_holding ?_))
      unfold setAdd
      refine wpAny_holding (wpAny_bind ((intKind P w).pyHash (k := xs.getD i 0) (intKind_is P w _ _) ?_))
      refine setR_add_hashed (s := { s' with toks := s'.toks + 1 }) R (by omega) fun h' sb R' => ?_
      have L' : LeftI w S xs (i + 1) { s' with heap := h', toks := s'.toks + 1 } := ⟨_, R'.congr fun k => by
        rw [← Bool.decide_or]
        exact decide_eq_decide.mpr (take_moreI (by omega) k), by split <;> omega⟩
      refine wpAny_pure ⟨plainId_quiet PyProof.Rows.F.plain_set_update_loop _, ih (i + 1) _ (by omega) hlt (W.frame _ s' _ _ hst' (Nat.le_succ _) fun b hb' o e => ?_) L' fun s'' hm'' hL'' => ?_⟩
      · rw [sb.2 b fun q : b = S => hSf (q ▸ hb')]; exact e
      · refine hR s'' (Moved.trans W.gtrans ((hm'.mono inc).then_heap (Nat.le_succ _) fun b o hb' e => ?_) hm'') hL''
        rw [sb.2 b fun q : b = S => hb' (q ▸ List.mem_cons_self)]; exact e
end
end PLI
end
section
set_option maxHeartbeats 3200000
namespace PLI
open PySem PySem.Froz L2
open PyProof.Rows (IntsAre)
variable {P : Program} {w : World} {A : Around} {E : Value → Shared → Prop} {s : Shared}
theorem ints_at : ∀ {us : List Value} {ns : List Int}, IntsAre us ns → ∀ (i : Nat) (v : Value), us[i]? = some v → ∃ t, v = .int (ns.getD i 0) t
  | _, _, .nil, i, v, h => by simp at h
  | _, _, .cons n t r, 0, v, h => by
    simp only [List.getElem?_cons_zero, Option.some.injEq] at h
    exact ⟨t, h.symm⟩
  | _, _, .cons n t r, i + 1, v, h => ints_at r i v (by simpa using h)
theorem set_listI {l : Addr} {items : Array Value} {xs : List Int} {Q : Value → Shared → Prop} (hh : A.handled = none) (hl : s.heap.IsList l items) (hi : IntsAre items.toList xs) (hb : xs.length + 1 < scanBound)
    (h : ∀ (h' : Heap) (tk : Nat) (m : Nat), SetR w h' s.heap.objs.size (fun k => decide (k ∈ xs)) m → m ≤ xs.length → (∀ b o, s.heap.get? b = some o → h'.get? b = some o) → Q (.ref s.heap.objs.size) { s with heap := h', toks := tk }) :
    wpAny (model P w) A (call (.type "set") [.ref l]) Q E s := by
  have sz : xs.length = items.size := by
    have q := hi.length
    rw [Array.length_toList] at q; omega
  obtain ⟨c, tl, hmro⟩ := F.called_set.mro
  have g1 := F.called_set.made; have g2 := F.called_set.sub; have g3 := F.called_set.notType; have g4 := F.called_set.canCreate; have g5 := F.typeCall_set_1 (.ref l)
  refine wpAny_call (codeAny_of_tree (show wpAny _ _ (callAny (.type "set") _) _ _ _ from wpAny_pure ⟨Code.quiet_builtin _ (by decide +kernel), codeAny_builtin F.entry_type_call ?_⟩))
  rw [Around.under_plain (weight_type_call_type "set" [.ref l] []) rfl]
  repeat any_goals first | assumption | wp_step
  refine codeAny_mono (code_set_led1 (.ref l) (E := E) (Q₁ := fun obj s₁ => obj = .ref s.heap.objs.size ∧ s₁ = { s with heap := s.heap.push (PLS.fresh w) }) ⟨rfl, rfl⟩) fun r s₁ hr => ?_
  rcases r with e | fl
  · exact hr
  cases fl <;> first | exact hr.elim | skip
  obtain ⟨rfl, rfl⟩ := hr
  have at0 : (s.heap.push (PLS.fresh w)).get? s.heap.objs.size = some (PLS.fresh w) := Heap.get?_push_size _ rfl
  have ty0 : Shared.TypeIs { s with heap := s.heap.push (PLS.fresh w) } (.ref s.heap.objs.size) "set" := ⟨_, at0, rfl⟩
  have g6 := F.called_set.init.lookup; have g7 := F.called_set.init.bind (.ref s.heap.objs.size)
  repeat any_goals first | assumption | wp_step
  refine codeAny_mono (codeAny_call_builtin (R := wants (fun r s₂ => r = .none ∧ ∃ h' tk, s₂ = { s with heap := h', toks := tk } ∧ (∃ m, SetR w h' s.heap.objs.size (fun k => decide (k ∈ xs)) m ∧ m ≤ xs.length) ∧ ∀ b o, s.heap.get? b = some o → h'.get? b = some o) E) F.called_set.init.plain F.entry_set_init (check_set_init_1 ty0 ?_)) fun r₂ s₂ hr₂ => ?_
  · obtain ⟨⟨ocls, odict, odata, oslots⟩, hol, hcl, nl, hdl⟩ := hl
    simp only at hcl hdl
    subst hcl; subst hdl
    have q1 := F.sub_list_set; have q2 := F.sub_list_frozenset
    have q3 : (Value.type "list" == Value.type "dict") = false := by decide
    have q4 : (s.heap.push (PLS.fresh w)).get? l = some { cls := .type "list", dict := odict, data := .seq items nl, slots := oslots } := Heap.get?_push_of_some _ hol
    have q5 : (s.heap.push (PLS.fresh w)).IsList l items := ⟨_, q4, rfl, nl, rfl⟩
    unfold Builtin.«set.__init__» noKeywords Builtin.Frozenset.updateFrom
    generalize hPI : pyIter = PI
    wp_walk
    subst hPI
    refine wpAny_pyIter_list q5 (wpAny_bind (wpAny_runValue ?_))
    have low : l < s.heap.objs.size := Heap.lt_size hol
    have ne1 : l ≠ (s.heap.push (PLS.fresh w)).objs.size := by
      rw [Heap.size_push]; exact Nat.ne_of_lt (Nat.lt_succ_of_lt low)
    have out : s.heap.objs.size ∉ [(s.heap.push (PLS.fresh w)).objs.size, l] := by
      rw [Heap.size_push]; intro z
      rcases List.mem_cons.mp z with z | z
      · exact absurd z (Nat.ne_of_lt (Nat.lt_succ_self _))
      · exact absurd (List.mem_singleton.mp z) (Nat.ne_of_gt low)
    refine PLI.loop_ints ((Walks.list (by simp [hh]) _ l ne1 items).toS) s.heap.objs.size out xs sz (fun i v hv => ints_at hi i v (by rw [Array.getElem?_toList]; exact hv)) (by rw [← sz]; exact hb) (items.size - 0) 0 _ (by omega) (Nat.zero_le _)
      ⟨⟨_, Heap.get?_push_size _ rfl, rfl, rfl⟩, q5.push _⟩ ?_ ?_
    · exact ⟨0, ((setR_fresh (h := s.heap) w).at fun o e => Heap.get?_push_of_some _ e).congr fun k => by simp, Nat.le_refl _⟩
    · intro s' hm ⟨m, R, len⟩
      obtain ⟨h', g', d', tk', os'⟩ := s'
      obtain rfl : g' = s.gens := hm.gens
      obtain rfl : d' = s.drawn := hm.drawn
      obtain rfl : os' = s.os := hm.os
      refine (show wpAny _ _ _ _ _ _ from wpAny_pure (show wpAny _ _ (ret Value.none) _ _ _ from wpAny_pure ⟨rfl, h', tk', rfl, ⟨m, R.congr fun k => by rw [← sz, List.take_length], by omega⟩, fun b o e => ?_⟩))
      have lt : b < s.heap.objs.size := Heap.lt_size e
      refine hm.heap b o ?_ (Heap.get?_push_of_some _ (Heap.get?_push_of_some _ e))
      rw [Heap.size_push]; intro z
      rcases List.mem_cons.mp z with z | z
      · exact absurd z (Nat.ne_of_lt lt)
      · exact absurd (List.mem_singleton.mp z) (Nat.ne_of_lt (Nat.lt_succ_of_lt lt))
  · rcases r₂ with e | fl₂
    · exact hr₂
    cases fl₂ <;> first | exact hr₂.elim | skip
    obtain ⟨rfl, h', tk, rfl, ⟨m, R, len⟩, hk⟩ := hr₂
    repeat any_goals first | assumption | wp_step
    exact h _ _ m R len hk
theorem set_tupleI {l : Addr} {items : Array Value} {xs : List Int} {Q : Value → Shared → Prop} (hh : A.handled = none) (hl : s.heap.IsTuple l items) (hi : IntsAre items.toList xs) (hb : xs.length + 1 < scanBound)
    (h : ∀ (h' : Heap) (tk : Nat) (m : Nat), SetR w h' s.heap.objs.size (fun k => decide (k ∈ xs)) m → m ≤ xs.length → (∀ b o, s.heap.get? b = some o → h'.get? b = some o) → Q (.ref s.heap.objs.size) { s with heap := h', toks := tk }) :
    wpAny (model P w) A (call (.type "set") [.ref l]) Q E s := by
  have sz : xs.length = items.size := by
    have q := hi.length
    rw [Array.length_toList] at q; omega
  obtain ⟨c, tl, hmro⟩ := F.called_set.mro
  have g1 := F.called_set.made; have g2 := F.called_set.sub; have g3 := F.called_set.notType; have g4 := F.called_set.canCreate; have g5 := F.typeCall_set_1 (.ref l)
  refine wpAny_call (codeAny_of_tree (show wpAny _ _ (callAny (.type "set") _) _ _ _ from wpAny_pure ⟨Code.quiet_builtin _ (by decide +kernel), codeAny_builtin F.entry_type_call ?_⟩))
  rw [Around.under_plain (weight_type_call_type "set" [.ref l] []) rfl]
  repeat any_goals first | assumption | wp_step
  refine codeAny_mono (code_set_led1 (.ref l) (E := E) (Q₁ := fun obj s₁ => obj = .ref s.heap.objs.size ∧ s₁ = { s with heap := s.heap.push (PLS.fresh w) }) ⟨rfl, rfl⟩) fun r s₁ hr => ?_
  rcases r with e | fl
  · exact hr
  cases fl <;> first | exact hr.elim | skip
  obtain ⟨rfl, rfl⟩ := hr
  have at0 : (s.heap.push (PLS.fresh w)).get? s.heap.objs.size = some (PLS.fresh w) := Heap.get?_push_size _ rfl
  have ty0 : Shared.TypeIs { s with heap := s.heap.push (PLS.fresh w) } (.ref s.heap.objs.size) "set" := ⟨_, at0, rfl⟩
  have g6 := F.called_set.init.lookup; have g7 := F.called_set.init.bind (.ref s.heap.objs.size)
  repeat any_goals first | assumption | wp_step
  refine codeAny_mono (codeAny_call_builtin (R := wants (fun r s₂ => r = .none ∧ ∃ h' tk, s₂ = { s with heap := h', toks := tk } ∧ (∃ m, SetR w h' s.heap.objs.size (fun k => decide (k ∈ xs)) m ∧ m ≤ xs.length) ∧ ∀ b o, s.heap.get? b = some o → h'.get? b = some o) E) F.called_set.init.plain F.entry_set_init (check_set_init_1 ty0 ?_)) fun r₂ s₂ hr₂ => ?_
  · obtain ⟨⟨ocls, odict, odata, oslots⟩, hol, hcl, nl, hdl⟩ := hl
    simp only at hcl hdl
    subst hcl; subst hdl
    have q1 := F.sub_tuple_set; have q2 := F.sub_tuple_frozenset
    have q3 : (Value.type "tuple" == Value.type "dict") = false := by decide
    have q4 : (s.heap.push (PLS.fresh w)).get? l = some { cls := .type "tuple", dict := odict, data := .seq items nl, slots := oslots } := Heap.get?_push_of_some _ hol
    have q5 : (s.heap.push (PLS.fresh w)).IsTuple l items := ⟨_, q4, rfl, nl, rfl⟩
    unfold Builtin.«set.__init__» noKeywords Builtin.Frozenset.updateFrom
    generalize hPI : pyIter = PI
    wp_walk
    subst hPI
    refine wpAny_pyIter_tuple q5 (wpAny_bind (wpAny_runValue ?_))
    have low : l < s.heap.objs.size := Heap.lt_size hol
    have ne1 : l ≠ (s.heap.push (PLS.fresh w)).objs.size := by
      rw [Heap.size_push]; exact Nat.ne_of_lt (Nat.lt_succ_of_lt low)
    have out : s.heap.objs.size ∉ [(s.heap.push (PLS.fresh w)).objs.size, l] := by
      rw [Heap.size_push]; intro z
      rcases List.mem_cons.mp z with z | z
      · exact absurd z (Nat.ne_of_lt (Nat.lt_succ_self _))
      · exact absurd (List.mem_singleton.mp z) (Nat.ne_of_gt low)
    refine PLI.loop_ints ((Walks.tuple (by simp [hh]) _ l ne1 items).toS) s.heap.objs.size out xs sz (fun i v hv => ints_at hi i v (by rw [Array.getElem?_toList]; exact hv)) (by rw [← sz]; exact hb) (items.size - 0) 0 _ (by omega) (Nat.zero_le _)
      ⟨⟨_, Heap.get?_push_size _ rfl, rfl, rfl⟩, q5.push _⟩ ?_ ?_
    · exact ⟨0, ((setR_fresh (h := s.heap) w).at fun o e => Heap.get?_push_of_some _ e).congr fun k => by simp, Nat.le_refl _⟩
    · intro s' hm ⟨m, R, len⟩
      obtain ⟨h', g', d', tk', os'⟩ := s'
      obtain rfl : g' = s.gens := hm.gens
      obtain rfl : d' = s.drawn := hm.drawn
      obtain rfl : os' = s.os := hm.os
      refine (show wpAny _ _ _ _ _ _ from wpAny_pure (show wpAny _ _ (ret Value.none) _ _ _ from wpAny_pure ⟨rfl, h', tk', rfl, ⟨m, R.congr fun k => by rw [← sz, List.take_length], by omega⟩, fun b o e => ?_⟩))
      have lt : b < s.heap.objs.size := Heap.lt_size e
      refine hm.heap b o ?_ (Heap.get?_push_of_some _ (Heap.get?_push_of_some _ e))
      rw [Heap.size_push]; intro z
      rcases List.mem_cons.mp z with z | z
      · exact absurd z (Nat.ne_of_lt lt)
      · exact absurd (List.mem_singleton.mp z) (Nat.ne_of_lt (Nat.lt_succ_of_lt lt))
  · rcases r₂ with e | fl₂
    · exact hr₂
    cases fl₂ <;> first | exact hr₂.elim | skip
    obtain ⟨rfl, h', tk, rfl, ⟨m, R, len⟩, hk⟩ := hr₂
    repeat any_goals first | assumption | wp_step
    exact h _ _ m R len hk
end PLI
end
section
set_option maxHeartbeats 2000000
namespace PL
open PySem PySem.Spec PyProof.Rows L2
abbrev D := PyData
/-- a value of the machine of plain data: a datum, or the n-th changing thing -/
inductive R where
  | d (x : D)
  | ref (n : Nat)
  | scr (ns : List Int)
/-- a changing thing: it holds data alone -/
inductive Ob where
  | lst (xs : List D)
  | dic (kvs : List (Key × D))
abbrev Sto := List Ob
abbrev Loc := List (Option R)
theorem same_upd {H : Hp} {p : Addr} {o : HO} (h : H p = none) : Same H (upd H p o) := by
  intro b x e
  rw [upd_ne (ne_of_none e h)]; exact e
mutual
/-- a datum, by what never changes -/
inductive DV (K : PySem.W.Frag) (G : Hp) : V → D → Prop
  | non : DV K G .non .none
  | bl (b : Bool) : DV K G (.bl b) (.bool b)
  | int (i : Int) : DV K G (.int i) (.int i)
  | str (x : Str) : DV K G (.str x) (.str x)
  | lst {a : Addr} {xs : List V} {ds : List D} : G a = some (.lst xs) → DVs K G xs ds → DV K G (.ref a) (.list ds)
  | tup {a : Addr} {xs : List V} {ds : List D} : SqT K G a xs → DVs K G xs ds → DV K G (.ref a) (.tuple ds)
inductive DVs (K : PySem.W.Frag) (G : Hp) : List V → List D → Prop
  | nil : DVs K G [] []
  | cons {v : V} {vs : List V} {d : D} {ds : List D} : DV K G v d → DVs K G vs ds → DVs K G (v :: vs) (d :: ds)
end
section
variable {K : PySem.W.Frag}
theorem Same.sqt {G G' : Hp} {a : Addr} {xs : List V} (e : Same G G') (h : SqT K G a xs) : SqT K G' a xs := by
  rcases h with (h | ⟨o, h⟩) | h
  · exact .inl (.inl (e _ _ h))
  · exact .inl (.inr ⟨o, e _ _ h⟩)
  · exact .inr h
mutual
theorem dv_mono {G G' : Hp} (e : Same G G') : ∀ (d : D) (v : V), DV K G v d → DV K G' v d
  | .none, _, h => by cases h; exact .non
  | .bool b, _, h => by cases h; exact .bl b
  | .int i, _, h => by cases h; exact .int i
  | .str x, _, h => by cases h; exact .str x
  | .list ds, _, h => by cases h with | lst h1 h2 => exact .lst (e _ _ h1) (dvs_mono e ds _ h2)
  | .tuple ds, _, h => by cases h with | tup h1 h2 => exact .tup (Same.sqt e h1) (dvs_mono e ds _ h2)
  | .dict _, _, h => by cases h
theorem dvs_mono {G G' : Hp} (e : Same G G') : ∀ (ds : List D) (vs : List V), DVs K G vs ds → DVs K G' vs ds
  | [], _, h => by cases h; exact .nil
  | d :: ds, _, h => by cases h with | cons h1 h2 => exact .cons (dv_mono e d _ h1) (dvs_mono e ds _ h2)
end
theorem dvs_len {G : Hp} : ∀ {vs : List V} {ds : List D}, DVs K G vs ds → vs.length = ds.length
  | _, _, .nil => rfl
  | _, _, .cons _ t => congrArg Nat.succ (dvs_len t)
theorem dvs_get {G : Hp} : ∀ {vs : List V} {ds : List D} {i : Nat} {d : D}, DVs K G vs ds → ds[i]? = some d → ∃ v, vs[i]? = some v ∧ DV K G v d
  | _, _, _, _, .nil, e => by simp at e
  | _, _, 0, _, .cons h _, e => by simp at e; subst e; exact ⟨_, rfl, h⟩
  | _, _, i + 1, _, .cons _ t, e => by
    obtain ⟨v, h1, h2⟩ := dvs_get (i := i) t (by simpa using e)
    exact ⟨v, by simpa using h1, h2⟩
theorem dvs_get' {G : Hp} : ∀ {vs : List V} {ds : List D} {i : Nat} {v : V}, DVs K G vs ds → vs[i]? = some v → ∃ d, ds[i]? = some d ∧ DV K G v d
  | _, _, _, _, .nil, e => by simp at e
  | _, _, 0, _, .cons h _, e => by simp at e; subst e; exact ⟨_, rfl, h⟩
  | _, _, i + 1, _, .cons _ t, e => by
    obtain ⟨v, h1, h2⟩ := dvs_get' (i := i) t (by simpa using e)
    exact ⟨v, by simpa using h1, h2⟩
theorem dvs_app {G : Hp} : ∀ {vs ws : List V} {ds es : List D}, DVs K G vs ds → DVs K G ws es → DVs K G (vs ++ ws) (ds ++ es)
  | _, _, _, _, .nil, h => h
  | _, _, _, _, .cons a t, h => .cons a (dvs_app t h)
theorem dvs_drop {G : Hp} : ∀ {vs : List V} {ds : List D} (n : Nat), DVs K G vs ds → DVs K G (vs.drop n) (ds.drop n)
  | _, _, 0, h => h
  | _, _, _ + 1, .nil => .nil
  | _, _, n + 1, .cons _ t => dvs_drop n t
theorem dvs_take {G : Hp} : ∀ {vs : List V} {ds : List D} (n : Nat), DVs K G vs ds → DVs K G (vs.take n) (ds.take n)
  | _, _, 0, _ => .nil
  | _, _, _ + 1, .nil => .nil
  | _, _, n + 1, .cons h t => .cons h (dvs_take n t)
/-- a dict's pairs -/
def KD (K : PySem.W.Frag) (G : Hp) : List (Key × V) → List (Key × D) → Prop := Paired fun p q => p.1 = q.1 ∧ DV K G p.2 q.2
theorem kd_mono {G G' : Hp} (e : Same G G') {kvs : List (Key × V)} {ks : List (Key × D)} (h : KD K G kvs ks) : KD K G' kvs ks :=
  Paired.mapP h fun _ _ ⟨h1, h2⟩ => ⟨h1, dv_mono e _ _ h2⟩
def RO (K : PySem.W.Frag) (G : Hp) : Ob → HO → Prop
  | .lst xs, o => ∃ vs, o = .lst vs ∧ DVs K G vs xs
  | .dic ks, o => ∃ kvs, o = .dK kvs ∧ KD K G kvs ks
theorem ro_mono {G G' : Hp} (e : Same G G') : ∀ {b : Ob} {o : HO}, RO K G b o → RO K G' b o
  | .lst xs, _, ⟨vs, h1, h2⟩ => ⟨vs, h1, dvs_mono e _ _ h2⟩
  | .dic ks, _, ⟨kvs, h1, h2⟩ => ⟨kvs, h1, kd_mono e h2⟩
def RV (K : PySem.W.Frag) (G : Hp) (ρ : List Addr) : R → V → Prop
  | .d x, v => DV K G v x
  | .ref n, v => ∃ a, ρ[n]? = some a ∧ v = .ref a
  | .scr ns, v => ∃ a, v = .ref a ∧ SqL K G a (ns.map V.int)
theorem pre_get {α : Type} {l l' : List α} (h : l <+: l') {n : Nat} {a : α} (e : l[n]? = some a) : l'[n]? = some a := by
  obtain ⟨t, rfl⟩ := h
  rw [List.getElem?_append_left (List.getElem?_eq_some_iff.mp e).1]; exact e
theorem rv_mono {G G' : Hp} {ρ ρ' : List Addr} (e : Same G G') (p : ρ <+: ρ') : ∀ {r : R} {v : V}, RV K G ρ r v → RV K G' ρ' r v
  | .d _, _, h => dv_mono e _ _ h
  | .ref _, _, ⟨a, h1, h2⟩ => ⟨a, pre_get p h1, h2⟩
  | .scr _, _, ⟨a, h1, h2⟩ => ⟨a, h1, e.seq h2⟩
/-- the state: F what is held by others, G what never changes, ρ where the changing things stand -/
structure SOk (K : PySem.W.Frag) (F G : Hp) (ρ : List Addr) (S : Sto) (H : Hp) : Prop where
  len : ρ.length = S.length
  nd : ρ.Nodup
  subF : Same F H
  subG : Same G H
  out : ∀ a ∈ ρ, G a = none ∧ F a = none
  dis : ∀ a, F a ≠ none → G a = none
  obj : ∀ (n : Nat) (b : Ob) (a : Addr), S[n]? = some b → ρ[n]? = some a → ∃ o, H a = some o ∧ RO K G b o
def LOk (K : PySem.W.Frag) (G : Hp) (ρ : List Addr) (L : Loc) (σ : L2.St) : Prop :=
  L.length = σ.length ∧ ∀ (i : Nat) (r : R), L[i]? = some (some r) → ∃ v, σ[i]? = some (some v) ∧ RV K G ρ r v
theorem lok_mono {G G' : Hp} {ρ ρ' : List Addr} (e : Same G G') (p : ρ <+: ρ') {L : Loc} {σ : L2.St} (h : LOk K G ρ L σ) : LOk K G' ρ' L σ :=
  ⟨h.1, fun i r q => let ⟨v, h1, h2⟩ := h.2 i r q; ⟨v, h1, rv_mono e p h2⟩⟩
theorem lok_set {G : Hp} {ρ : List Addr} {L : Loc} {σ : L2.St} (h : LOk K G ρ L σ) {r : R} {v : V} (i : Nat) (q : RV K G ρ r v) : LOk K G ρ (L.set i (some r)) (σ.set i (some v)) := by
  refine ⟨by simp [h.1], fun j r' e => ?_⟩
  by_cases hj : i = j
  · subst hj
    by_cases hl : i < L.length
    · rw [List.getElem?_set_self hl] at e
      cases e
      exact ⟨v, List.getElem?_set_self (by rw [← h.1]; exact hl), q⟩
    · rw [List.getElem?_eq_none (by simpa using hl)] at e; cases e
  · rw [List.getElem?_set_ne hj] at e ⊢
    exact h.2 j r' e
theorem lok_unset {G : Hp} {ρ : List Addr} {L : Loc} {σ : L2.St} (h : LOk K G ρ L σ) (i : Nat) : LOk K G ρ (L.set i none) (σ.set i none) := by
  refine ⟨by simp [h.1], fun j r' e => ?_⟩
  by_cases hj : i = j
  · subst hj
    by_cases hl : i < L.length
    · rw [List.getElem?_set_self hl] at e; cases e
    · rw [List.getElem?_eq_none (by simpa using hl)] at e; cases e
  · rw [List.getElem?_set_ne hj] at e ⊢
    exact h.2 j r' e
def wipeL (L : Loc) : List Nat → Loc
  | [] => L
  | v :: vs => (wipeL L vs).set v none
theorem lok_wipe {G : Hp} {ρ : List Addr} {L : Loc} {σ : L2.St} (h : LOk K G ρ L σ) : ∀ vs : List Nat, LOk K G ρ (wipeL L vs) (wipe σ vs)
  | [] => h
  | v :: vs => lok_unset (lok_wipe h vs) v
/-- what is wanted behind a value: it may be told by more of what never changes and more changing things -/
def Post (K : PySem.W.Frag) (F G : Hp) (ρ : List Addr) (S' : Sto) (r : R) (Q : VK) : Prop :=
  ∀ (G' : Hp) (ρ' : List Addr) (H' : Hp) (v : V), Same G G' → ρ <+: ρ' → SOk K F G' ρ' S' H' → RV K G' ρ' r v → Q v H'
theorem Post.mono {F G G1 : Hp} {ρ ρ1 : List Addr} {S' : Sto} {r : R} {Q : VK} (h : Post K F G ρ S' r Q) (e : Same G G1) (p : ρ <+: ρ1) : Post K F G1 ρ1 S' r Q :=
  fun G' ρ' H' v e' p' s q => h G' ρ' H' v (e.trans e') (p.trans p') s q
abbrev Ev := Loc → Sto → Option (R × Sto)
/-- an expression's reading by its evaluation -/
def tE (K : PySem.W.Frag) (ev : Ev) : TE := fun σ H Q => ∃ F G ρ S L r S', SOk K F G ρ S H ∧ LOk K G ρ L σ ∧ ev L S = some (r, S') ∧ Post K F G ρ S' r Q
abbrev Prim := List R → Sto → Option (R × Sto)
inductive RVs (K : PySem.W.Frag) (G : Hp) (ρ : List Addr) : List R → List V → Prop
  | nil : RVs K G ρ [] []
  | cons {r : R} {v : V} {rs : List R} {vs : List V} : RV K G ρ r v → RVs K G ρ rs vs → RVs K G ρ (r :: rs) (v :: vs)
theorem rvs_mono {G G' : Hp} {ρ ρ' : List Addr} (e : Same G G') (p : ρ <+: ρ') : ∀ {rs : List R} {vs : List V}, RVs K G ρ rs vs → RVs K G' ρ' rs vs
  | _, _, .nil => .nil
  | _, _, .cons h t => .cons (rv_mono e p h) (rvs_mono e p t)
theorem rvs_len {G : Hp} {ρ : List Addr} : ∀ {rs : List R} {vs : List V}, RVs K G ρ rs vs → rs.length = vs.length
  | _, _, .nil => rfl
  | _, _, .cons _ t => congrArg Nat.succ (rvs_len t)
/-- a step by values -/
def tP (K : PySem.W.Frag) (f : Prim) : List V → Hp → VK → Prop := fun vs H Q => ∃ F G ρ S rs r S', SOk K F G ρ S H ∧ RVs K G ρ rs vs ∧ f rs S = some (r, S') ∧ Post K F G ρ S' r Q
theorem PE.weak {X : Cx} {e : Expr} {t t' : TE} (h : PE X e t) (q : ∀ σ H Q, t' σ H Q → t σ H Q) : PE X e t' := ⟨fun pins s σ H Q I w => h.run pins s σ H Q I (q σ H Q w)⟩
theorem PT.weak {X : Cx} {e : Expr} {t t' : TT} (h : PT X e t) (q : ∀ σ H Q, t' σ H Q → t σ H Q) : PT X e t' := ⟨fun pins s σ H Q I w => h.run pins s σ H Q I (q σ H Q w)⟩
theorem PS.weak {X : Cx} {e : Stmt} {t t' : TS} (h : PS X e t) (q : ∀ D σ H, t' D σ H → t D σ H) : PS X e t' := ⟨fun pins s σ H D I w => h.run pins s σ H D I (q D σ H w)⟩
theorem PSs.weak {X : Cx} {e : List Stmt} {t t' : TS} (h : PSs X e t) (q : ∀ D σ H, t' D σ H → t D σ H) : PSs X e t' := ⟨fun pins s σ H D I w => h.run pins s σ H D I (q D σ H w)⟩
theorem PA.weak {X : Cx} {e : List Expr} {t t' : TA} (h : PA X e t) (q : ∀ σ H Q, t' σ H Q → t σ H Q) : PA X e t' := ⟨fun pos pins s σ H Q I w => h.run pos pins s σ H Q I (q σ H Q w)⟩
abbrev Evs := Loc → Sto → Option (List R × Sto)
def tA (K : PySem.W.Frag) (ev : Evs) : TA := fun σ H Q => ∃ F G ρ S L rs S', SOk K F G ρ S H ∧ LOk K G ρ L σ ∧ ev L S = some (rs, S') ∧
  ∀ (G' : Hp) (ρ' : List Addr) (H' : Hp) (vs : List V), Same G G' → ρ <+: ρ' → SOk K F G' ρ' S' H' → RVs K G' ρ' rs vs → Q vs H'
/-- a new thing that never changes -/
theorem SOk.fix {F G : Hp} {ρ : List Addr} {S : Sto} {H : Hp} (s : SOk K F G ρ S H) {p : Addr} {o : HO} (h : H p = none) : SOk K F (upd G p o) ρ S (upd H p o) ∧ Same G (upd G p o) := by
  have hg : G p = none := Same.free s.subG h
  have hf : F p = none := Same.free s.subF h
  have hp : ∀ a ∈ ρ, a ≠ p := fun a ha z => by
    subst z
    obtain ⟨n, hn, e⟩ := List.getElem_of_mem ha
    have hn' : n < S.length := by rw [← s.len]; exact hn
    obtain ⟨o, ho, _⟩ := s.obj n S[n] a (List.getElem?_eq_getElem hn') (by rw [List.getElem?_eq_getElem hn, e])
    rw [h] at ho; cases ho
  refine ⟨⟨s.len, s.nd, s.subF.trans (same_upd h), fun b u e => ?_, fun a ha => ?_, fun a ha => ?_, fun n b a e1 e2 => ?_⟩, same_upd hg⟩
  · by_cases hb : b = p
    · subst hb; rw [upd_same] at e ⊢; exact e
    · rw [upd_ne hb] at e ⊢; exact s.subG b u e
  · rw [upd_ne (hp a ha)]; exact s.out a ha
  · have : a ≠ p := fun z => ha (by rw [z]; exact hf)
    rw [upd_ne this]; exact s.dis a ha
  · obtain ⟨u, hu, r⟩ := s.obj n b a e1 e2
    refine ⟨u, ?_, ro_mono (same_upd hg) r⟩
    rw [upd_ne (hp a (List.mem_of_getElem? e2))]; exact hu
/-- a new changing thing -/
theorem SOk.new {F G : Hp} {ρ : List Addr} {S : Sto} {H : Hp} (s : SOk K F G ρ S H) {p : Addr} {o : HO} {b : Ob} (h : H p = none) (r : RO K G b o) : SOk K F G (ρ ++ [p]) (S ++ [b]) (upd H p o) := by
  have hg : G p = none := Same.free s.subG h
  have hf : F p = none := Same.free s.subF h
  have hp : p ∉ ρ := fun ha => by
    obtain ⟨n, hn, e⟩ := List.getElem_of_mem ha
    have hn' : n < S.length := by rw [← s.len]; exact hn
    obtain ⟨o, ho, _⟩ := s.obj n S[n] p (List.getElem?_eq_getElem hn') (by rw [List.getElem?_eq_getElem hn, e])
    rw [h] at ho; cases ho
  refine ⟨by simp [s.len], ?_, s.subF.trans (same_upd h), s.subG.trans (same_upd h), fun a ha => ?_, s.dis, fun n b' a e1 e2 => ?_⟩
  · rw [List.nodup_append]
    refine ⟨s.nd, by simp, fun a ha b hb => ?_⟩
    rw [List.mem_singleton] at hb; subst hb
    exact fun z => hp (z ▸ ha)
  · rcases List.mem_append.mp ha with ha | ha
    · exact s.out a ha
    · rw [List.mem_singleton] at ha; subst ha; exact ⟨hg, hf⟩
  · by_cases hn : n < S.length
    · rw [List.getElem?_append_left hn] at e1
      rw [List.getElem?_append_left (by rw [s.len]; exact hn)] at e2
      obtain ⟨u, hu, q⟩ := s.obj n b' a e1 e2
      have ha : a ≠ p := fun z => by
        subst z
        exact hp (List.mem_of_getElem? e2)
      exact ⟨u, by rw [upd_ne ha]; exact hu, q⟩
    · have hn' : n = S.length := by
        have := (List.getElem?_eq_some_iff.mp e1).1
        simp at this; omega
      subst hn'
      rw [List.getElem?_append_right (Nat.le_refl _), Nat.sub_self] at e1
      rw [List.getElem?_append_right (by rw [s.len]; exact Nat.le_refl _), s.len, Nat.sub_self] at e2
      cases e1; cases e2
      exact ⟨o, upd_same, r⟩
/-- a changing thing changed -/
theorem SOk.set {F G : Hp} {ρ : List Addr} {S : Sto} {H : Hp} (s : SOk K F G ρ S H) {n : Nat} {p : Addr} {o : HO} {b : Ob} (e : ρ[n]? = some p) (r : RO K G b o) : SOk K F G ρ (S.set n b) (upd H p o) := by
  have hm := List.mem_of_getElem? e
  obtain ⟨hg, hf⟩ := s.out p hm
  have hk : ∀ {T : Hp}, Same T H → T p = none → Same T (upd H p o) := fun {T} hs ht b u q => by
    rw [upd_ne (ne_of_none q ht)]; exact hs b u q
  refine ⟨by simp [s.len], s.nd, hk s.subF hf, hk s.subG hg, s.out, s.dis, fun m b' a e1 e2 => ?_⟩
  have hl : n < S.length := by rw [← s.len]; exact (List.getElem?_eq_some_iff.mp e).1
  by_cases hmn : n = m
  · subst hmn
    rw [List.getElem?_set_self hl] at e1
    cases e1
    rw [e] at e2; cases e2
    exact ⟨o, upd_same, r⟩
  · rw [List.getElem?_set_ne hmn] at e1
    obtain ⟨u, hu, q⟩ := s.obj m b' a e1 e2
    have : a ≠ p := fun z => by
      subst z
      obtain ⟨h1, h1'⟩ := List.getElem?_eq_some_iff.mp e
      obtain ⟨h2, h2'⟩ := List.getElem?_eq_some_iff.mp e2
      exact hmn ((List.getElem_inj (h₀ := h1) (h₁ := h2) s.nd).mp (by rw [h1', h2']))
    exact ⟨u, by rw [upd_ne this]; exact hu, q⟩
/-- the later things forgotten -/
theorem SOk.cut {F G : Hp} {ρ ρ' : List Addr} {S' : Sto} {H : Hp} (s : SOk K F G ρ' S' H) (p : ρ <+: ρ') : SOk K F G ρ (S'.take ρ.length) H := by
  obtain ⟨t, rfl⟩ := p
  have hl := s.len
  rw [List.length_append] at hl
  refine ⟨by rw [List.length_take]; omega, (List.nodup_append.mp s.nd).1, s.subF, s.subG, fun a ha => s.out a (List.mem_append_left _ ha), s.dis, fun n b a e1 e2 => ?_⟩
  have hn := (List.getElem?_eq_some_iff.mp e2).1
  rw [List.getElem?_take_of_lt hn] at e1
  exact s.obj n b a e1 (by rw [List.getElem?_append_left hn]; exact e2)
/-! ### what may be read as a datum -/
mutual
theorem dv_dp {G : Hp} : ∀ (d : D) (v : V), DV K G v d → Dp K G v d
  | .none, _, h => by cases h; exact .non
  | .bool b, _, h => by cases h; exact .bl b
  | .int i, _, h => by cases h; exact .int i
  | .str x, _, h => by cases h; exact .str x
  | .list ds, _, h => by cases h with | lst h1 h2 => exact .lst (.of h1) (dvs_dp ds _ h2)
  | .tuple ds, _, h => by cases h with | tup h1 h2 => exact .tup h1 (dvs_dp ds _ h2)
  | .dict _, _, h => by cases h
theorem dvs_dp {G : Hp} : ∀ (ds : List D) (vs : List V), DVs K G vs ds → DpAll K G vs ds
  | [], _, h => by cases h; exact .nil
  | d :: ds, _, h => by cases h with | cons h1 h2 => exact .cons (dv_dp d _ h1) (dvs_dp ds _ h2)
end
/-- read as a datum: a datum, or a list that changes, as it stands -/
def DW (K : PySem.W.Frag) (G H : Hp) (v : V) (d : D) : Prop := DV K G v d ∨ ∃ a vs xs, d = .list xs ∧ v = .ref a ∧ H a = some (.lst vs) ∧ DVs K G vs xs
def view : R → Sto → Option D
  | .d x, _ => some x
  | .ref n, S => match S[n]? with
    | some (.lst xs) => some (.list xs)
    | _ => none
  | .scr _, _ => none
theorem view_ok {F G : Hp} {ρ : List Addr} {S : Sto} {H : Hp} (s : SOk K F G ρ S H) {r : R} {v : V} {d : D} (q : RV K G ρ r v) (e : view r S = some d) : DW K G H v d := by
  cases r with
  | d x => cases e; exact .inl q
  | scr ns => cases e
  | ref n =>
    obtain ⟨a, ea, rfl⟩ := q
    simp only [view] at e
    cases hs : S[n]? with
    | none => rw [hs] at e; cases e
    | some b =>
      rw [hs] at e
      cases b with
      | dic ks => cases e
      | lst xs =>
        cases e
        obtain ⟨o, ho, vs, rfl, hv⟩ := s.obj n _ a hs ea
        exact .inr ⟨a, vs, xs, rfl, rfl, ho, hv⟩
theorem DW.dp {F G : Hp} {ρ : List Addr} {S : Sto} {H : Hp} (s : SOk K F G ρ S H) {v : V} {d : D} (h : DW K G H v d) : Dp K H v d := by
  rcases h with h | ⟨a, vs, xs, rfl, rfl, h1, h2⟩
  · exact dv_dp d v (dv_mono s.subG d v h)
  · exact .lst (.of h1) (dvs_dp _ _ (dvs_mono s.subG _ _ h2))
/-- a list: it stands at an address -/
theorem DW.lst {F G : Hp} {ρ : List Addr} {S : Sto} {H : Hp} (s : SOk K F G ρ S H) {v : V} {xs : List D} (h : DW K G H v (.list xs)) : ∃ a vs, v = .ref a ∧ H a = some (.lst vs) ∧ DVs K G vs xs := by
  rcases h with h | ⟨a, vs, ys, e, rfl, h1, h2⟩
  · cases h with | lst h1 h2 => exact ⟨_, _, rfl, s.subG _ _ h1, h2⟩
  · cases e; exact ⟨a, vs, rfl, h1, h2⟩
theorem DW.tup {F G : Hp} {ρ : List Addr} {S : Sto} {H : Hp} (s : SOk K F G ρ S H) {v : V} {xs : List D} (h : DW K G H v (.tuple xs)) : ∃ a vs, v = .ref a ∧ SqT K H a vs ∧ DVs K G vs xs := by
  rcases h with h | ⟨a, vs, ys, e, rfl, h1, h2⟩
  · cases h with | tup h1 h2 => exact ⟨_, _, rfl, Same.sqt s.subG h1, h2⟩
  · cases e
/-- a new datum -/
theorem Post.dnew {F G : Hp} {ρ : List Addr} {S : Sto} {d : D} {Q : VK} (h : Post K F G ρ S (.d d) Q) {H : Hp} (s : SOk K F G ρ S H) {o : HO}
    (hd : ∀ p G', Same G G' → G' p = some o → DV K G' (.ref p) d) : ∀ p, H p = none → Q (.ref p) (upd H p o) := fun p hp =>
  let ⟨s', e⟩ := s.fix (o := o) hp
  h _ ρ _ _ e (List.prefix_refl _) s' (hd p _ e upd_same)
theorem Post.now {F G : Hp} {ρ : List Addr} {S : Sto} {r : R} {Q : VK} (h : Post K F G ρ S r Q) {H : Hp} (s : SOk K F G ρ S H) {v : V} (q : RV K G ρ r v) : Q v H := h G ρ H v (Same.refl _) (List.prefix_refl _) s q
theorem Post.rnew {F G : Hp} {ρ : List Addr} {S : Sto} {b : Ob} {Q : VK} (h : Post K F G ρ (S ++ [b]) (.ref S.length) Q) {H : Hp} (s : SOk K F G ρ S H) {o : HO} (r : RO K G b o) : ∀ p, H p = none → Q (.ref p) (upd H p o) := fun p hp =>
  h G (ρ ++ [p]) _ _ (Same.refl _) (List.prefix_append _ _) (s.new hp r) ⟨p, by rw [List.getElem?_append_right (by rw [s.len]; exact Nat.le_refl _), s.len, Nat.sub_self]; rfl, rfl⟩
end
end PL
end
section
set_option maxHeartbeats 2000000
namespace PL
open PySem PySem.Spec PyProof.Rows L2
/-! ### texts in order -/
def leS (a b : Str) : Bool := !ltCps b.cps.toList a.cps.toList
theorem leS_iff (a b : Str) : leS a b = true ↔ a.cps.toList ≤ b.cps.toList := by
  unfold leS
  rw [ltCps_eq]
  simp [List.not_lt]
theorem leS_total (a b : Str) : leS a b = true ∨ leS b a = true := by
  rw [leS_iff, leS_iff]
  exact List.le_total _ _
theorem leS_trans {a b c : Str} (h : leS a b = true) (k : leS b c = true) : leS a c = true := by
  rw [leS_iff] at *
  exact List.le_trans h k
theorem leS_anti {a b : Str} (h : leS a b = true) (k : leS b a = true) : a = b := by
  rw [leS_iff] at *
  have := List.le_antisymm h k
  obtain ⟨⟨a⟩⟩ := a
  obtain ⟨⟨b⟩⟩ := b
  cases this
  rfl
def insS (x : Str) : List Str → List Str
  | [] => [x]
  | y :: r => if leS x y = true then x :: y :: r else y :: insS x r
def sortS : List Str → List Str
  | [] => []
  | x :: r => insS x (sortS r)
theorem insS_perm (x : Str) : ∀ l : List Str, (insS x l).Perm (x :: l)
  | [] => List.Perm.refl _
  | y :: r => by
    unfold insS
    split
    · exact List.Perm.refl _
    · exact ((insS_perm x r).cons y).trans (List.Perm.swap _ _ _)
theorem sortS_perm : ∀ l : List Str, (sortS l).Perm l
  | [] => List.Perm.refl _
  | x :: r => (insS_perm x (sortS r)).trans ((sortS_perm r).cons x)
theorem insS_sorted (x : Str) : ∀ l : List Str, l.Pairwise (fun a b => leS a b = true) → (insS x l).Pairwise (fun a b => leS a b = true)
  | [], _ => List.pairwise_singleton _ _
  | y :: r, h => by
    obtain ⟨h1, h2⟩ := List.pairwise_cons.mp h
    unfold insS
    split
    · rename_i hxy
      refine List.pairwise_cons.mpr ⟨fun z hz => ?_, h⟩
      rcases List.mem_cons.mp hz with rfl | hz
      · exact hxy
      · exact leS_trans hxy (h1 z hz)
    · rename_i hxy
      have hyx : leS y x = true := (leS_total y x).resolve_right hxy
      refine List.pairwise_cons.mpr ⟨fun z hz => ?_, insS_sorted x r h2⟩
      rcases List.mem_cons.mp ((insS_perm x r).mem_iff.mp hz) with rfl | hz
      · exact hyx
      · exact h1 z hz
theorem sortS_sorted : ∀ l : List Str, (sortS l).Pairwise (fun a b => leS a b = true)
  | [] => List.Pairwise.nil
  | x :: r => insS_sorted x _ (sortS_sorted r)
theorem rising_le : ∀ (p : Str) (l : List Str), risingS p l = true → (p :: l).Pairwise (fun a b => leS a b = true)
  | p, [], _ => List.pairwise_singleton _ _
  | p, x :: r, h => by
    have h : (!ltCps x.cps.toList p.cps.toList && risingS x r) = true := h
    rw [Bool.and_eq_true] at h
    have ih := rising_le x r h.2
    refine List.pairwise_cons.mpr ⟨fun z hz => ?_, ih⟩
    rcases List.mem_cons.mp hz with rfl | hz
    · exact h.1
    · exact leS_trans h.1 ((List.pairwise_cons.mp ih).1 z hz)
theorem sorted_le : ∀ (l : List Str), sortedS l = true → l.Pairwise (fun a b => leS a b = true)
  | [], _ => List.Pairwise.nil
  | x :: r, h => rising_le x r h
theorem sortS_only {ys xs : List Str} (p : ys.Perm xs) (h : sortedS ys = true) : ys = sortS xs :=
  List.Perm.eq_of_pairwise (fun a b _ _ h1 h2 => leS_anti h1 h2) (sorted_le ys h) (sortS_sorted xs) (p.trans (sortS_perm xs).symm)
end PL
end
section
set_option maxHeartbeats 2000000
namespace PL
open PySem PySem.Spec PyProof.Rows L2
section
variable {X : Cx}
theorem OpR.imp {f : Value → Value → Sem Value} {r r' : R2} (h : OpR X f r) (q : ∀ x y H Q, r' x y H Q → r x y H Q) : OpR X f r' :=
  fun pins s σ H x y v u Q I r1 r2 w => h pins s σ H x y v u Q I r1 r2 (q x y H Q w)
theorem CallR.imp {f : Value} {r r' : List V → Hp → VK → Prop} (h : CallR X f r) (q : ∀ xs H Q, r' xs H Q → r xs H Q) : CallR X f r' :=
  fun pins s σ H vs us Q I r1 w => h pins s σ H vs us Q I r1 (q vs H Q w)
end
/-! ### two values -/
def t2 (K : PySem.W.Frag) (g : D → D → Option D) : R2 := fun x y H Q => ∃ F G ρ S dx dy d, SOk K F G ρ S H ∧ DW K G H x dx ∧ DW K G H y dy ∧ g dx dy = some d ∧ Post K F G ρ S (.d d) Q
def t1 (K : PySem.W.Frag) (g : D → Option D) : V → Hp → VK → Prop := fun x H Q => ∃ F G ρ S dx d, SOk K F G ρ S H ∧ DW K G H x dx ∧ g dx = some d ∧ Post K F G ρ S (.d d) Q
section
variable {K : PySem.W.Frag} {G H : Hp} {v : V}
theorem DW.int {i : Int} (h : DW K G H v (.int i)) : v = .int i := by
  rcases h with h | ⟨_, _, _, e, _⟩
  · cases h; rfl
  · cases e
theorem DW.str {i : Str} (h : DW K G H v (.str i)) : v = .str i := by
  rcases h with h | ⟨_, _, _, e, _⟩
  · cases h; rfl
  · cases e
theorem DW.bl {i : Bool} (h : DW K G H v (.bool i)) : v = .bl i := by
  rcases h with h | ⟨_, _, _, e, _⟩
  · cases h; rfl
  · cases e
theorem DW.non (h : DW K G H v .none) : v = .non := by
  rcases h with h | ⟨_, _, _, e, _⟩
  · cases h; rfl
  · cases e
theorem DW.nodict {ks : List (D × D)} (h : DW K G H v (.dict ks)) : False := by
  rcases h with h | ⟨_, _, _, e, _⟩
  · cases h
  · cases e
end
theorem Post.int {K : PySem.W.Frag} {F G : Hp} {ρ : List Addr} {S : Sto} {H : Hp} {Q : VK} {i : Int} (h : Post K F G ρ S (.d (.int i)) Q) (s : SOk K F G ρ S H) : Q (.int i) H := h.now s (.int i)
theorem Post.str {K : PySem.W.Frag} {F G : Hp} {ρ : List Addr} {S : Sto} {H : Hp} {Q : VK} {i : Str} (h : Post K F G ρ S (.d (.str i)) Q) (s : SOk K F G ρ S H) : Q (.str i) H := h.now s (.str i)
theorem Post.bl {K : PySem.W.Frag} {F G : Hp} {ρ : List Addr} {S : Sto} {H : Hp} {Q : VK} {i : Bool} (h : Post K F G ρ S (.d (.bool i)) Q) (s : SOk K F G ρ S H) : Q (.bl i) H := h.now s (.bl i)
/-- a new list of data -/
theorem Post.lst {K : PySem.W.Frag} {F G : Hp} {ρ : List Addr} {S : Sto} {H : Hp} {Q : VK} {ds : List D} {vs : List V} (h : Post K F G ρ S (.d (.list ds)) Q) (s : SOk K F G ρ S H) (a : DVs K G vs ds) : ∀ p, H p = none → Q (.ref p) (upd H p (.lst vs)) :=
  h.dnew s fun p G' e q => .lst q (dvs_mono e _ _ a)
theorem Post.tup {K : PySem.W.Frag} {F G : Hp} {ρ : List Addr} {S : Sto} {H : Hp} {Q : VK} {ds : List D} {vs : List V} (h : Post K F G ρ S (.d (.tuple ds)) Q) (s : SOk K F G ρ S H) (a : DVs K G vs ds) : ∀ p, H p = none → Q (.ref p) (upd H p (.tup vs)) :=
  h.dnew s fun p G' e q => .tup (.of q) (dvs_mono e _ _ a)
theorem sqt_of {K : PySem.W.Frag} {F G : Hp} {ρ : List Addr} {S : Sto} {H : Hp} {a : Addr} {vs : List V} {ds : List D} {v : V} (s : SOk K F G ρ S H) (h : DW K G H v (.tuple ds)) : ∃ a vs, v = .ref a ∧ SqT K G a vs ∧ DVs K G vs ds := by
  rcases h with h | ⟨_, _, _, e, _⟩
  · cases h with | tup h1 h2 => exact ⟨_, _, rfl, h1, h2⟩
  · cases e
theorem tup_of {K : PySem.W.Frag} {G H : Hp} {ds : List D} {v : V} (h : DW K G H v (.tuple ds)) : ∃ a vs, v = .ref a ∧ SqT K G a vs ∧ DVs K G vs ds := by
  rcases h with h | ⟨_, _, _, e, _⟩
  · cases h with | tup h1 h2 => exact ⟨_, _, rfl, h1, h2⟩
  · cases e
def gAdd : D → D → Option D
  | .int i, .int j => some (.int (i + j))
  | .str a, .str b => if a.length + b.length ≤ sizeLine then some (.str (a ++ b)) else none
  | .tuple a, .tuple b => if a.length + b.length ≤ sizeLine then some (.tuple (a ++ b)) else none
  | .list a, .list b => if a.length + b.length ≤ sizeLine then some (.list (a ++ b)) else none
  | _, _ => none
def gSub : D → D → Option D
  | .int i, .int j => some (.int (i - j))
  | _, _ => none
def gMul : D → D → Option D
  | .int i, .int j => if i.natAbs.log2 + j.natAbs.log2 < 1000000 then some (.int (i * j)) else none
  | .list xs, .int k => if -(2 ^ 63) ≤ k ∧ k < 2 ^ 63 ∧ xs.length * k.toNat ≤ sizeLine then some (.list (List.replicate k.toNat xs).flatten) else none
  | _, _ => none
def gDiv : D → D → Option D
  | .int i, .int j => if 0 < j ∧ j.natAbs.log2 < 9000 then some (.int (i / j)) else none
  | _, _ => none
def gMod : D → D → Option D
  | .int i, .int j => if 0 < j then some (.int (i % j)) else none
  | _, _ => none
def gPow : D → D → Option D
  | .int i, .int j => if 0 ≤ j ∧ j ≤ 1000000 ∧ i.natAbs < 2 ^ 64 then some (.int (i ^ j.toNat)) else none
  | _, _ => none
theorem some_if {α : Type} {c : Prop} [Decidable c] {x y : α} (h : (if c then some x else none) = some y) : c ∧ x = y := by
  by_cases hc : c
  · rw [if_pos hc] at h; exact ⟨hc, Option.some.inj h⟩
  · rw [if_neg hc] at h; cases h
section
variable {X : Cx}
theorem o_add : OpR X (binaryOp .Add) (t2 X.K gAdd) := by
  refine OpR.imp (op_add.or (op_add_str.or (op_catA.or op_cat))) fun x y H Q h => ?_
  obtain ⟨F, G, ρ, S, dx, dy, d, s, hx, hy, e, q⟩ := h
  unfold gAdd at e
  split at e
  · cases e; cases hx.int; cases hy.int
    exact .inl ⟨_, _, rfl, rfl, q.int s⟩
  · obtain ⟨c, rfl⟩ := some_if e
    cases hx.str; cases hy.str
    exact .inr (.inl ⟨_, _, rfl, rfl, c, q.str s⟩)
  · obtain ⟨c, rfl⟩ := some_if e
    obtain ⟨a, vs, rfl, h1, h2⟩ := tup_of hx
    obtain ⟨b, ws, rfl, k1, k2⟩ := tup_of hy
    refine .inr (.inr (.inl ⟨a, b, vs, ws, rfl, rfl, Same.sqt s.subG h1, Same.sqt s.subG k1, by rw [dvs_len h2, dvs_len k2]; exact c, fun z => ?_, fun z1 z2 => ?_, fun z1 z2 => ?_⟩))
    · subst z; cases h2
      exact q.now s (.tup k1 k2)
    · subst z2; cases k2
      rw [List.append_nil] at q
      exact q.now s (.tup h1 h2)
    · exact q.tup s (dvs_app h2 k2)
  · obtain ⟨c, rfl⟩ := some_if e
    obtain ⟨a, vs, rfl, h1, h2⟩ := hx.lst s
    obtain ⟨b, ws, rfl, k1, k2⟩ := hy.lst s
    exact .inr (.inr (.inr ⟨a, b, vs, ws, rfl, rfl, h1, k1, by rw [dvs_len h2, dvs_len k2]; exact c, q.lst s (dvs_app h2 k2)⟩))
  · cases e
theorem o_sub : OpR X (binaryOp .Sub) (t2 X.K gSub) := by
  refine OpR.imp op_sub fun x y H Q h => ?_
  obtain ⟨F, G, ρ, S, dx, dy, d, s, hx, hy, e, q⟩ := h
  unfold gSub at e
  split at e
  · cases e; cases hx.int; cases hy.int
    exact ⟨_, _, rfl, rfl, q.int s⟩
  · cases e
theorem dvs_rep {K : PySem.W.Frag} {G : Hp} {vs : List V} {ds : List D} (h : DVs K G vs ds) : ∀ k : Nat, DVs K G (List.replicate k vs).flatten (List.replicate k ds).flatten
  | 0 => .nil
  | k + 1 => by
    rw [List.replicate_succ, List.replicate_succ, List.flatten_cons, List.flatten_cons]
    exact dvs_app h (dvs_rep h k)
theorem o_mul : OpR X (binaryOp .Mult) (t2 X.K gMul) := by
  refine OpR.imp (op_mulW.or op_rep) fun x y H Q h => ?_
  obtain ⟨F, G, ρ, S, dx, dy, d, s, hx, hy, e, q⟩ := h
  unfold gMul at e
  split at e
  · obtain ⟨c, rfl⟩ := some_if e
    cases hx.int; cases hy.int
    exact .inl ⟨_, _, rfl, rfl, c, q.int s⟩
  · obtain ⟨c, rfl⟩ := some_if e
    obtain ⟨a, vs, rfl, h1, h2⟩ := hx.lst s
    cases hy.int
    exact .inr ⟨a, _, vs, rfl, rfl, h1, c.1, c.2.1, by rw [dvs_len h2]; exact c.2.2, q.lst s (dvs_rep h2 _)⟩
  · cases e
theorem o_div : OpR X (binaryOp .FloorDiv) (t2 X.K gDiv) := by
  refine OpR.imp op_fdivW fun x y H Q h => ?_
  obtain ⟨F, G, ρ, S, dx, dy, d, s, hx, hy, e, q⟩ := h
  unfold gDiv at e
  split at e
  · obtain ⟨c, rfl⟩ := some_if e
    cases hx.int; cases hy.int
    exact ⟨_, _, rfl, rfl, c, q.int s⟩
  · cases e
theorem o_mod : OpR X (binaryOp .Mod) (t2 X.K gMod) := by
  refine OpR.imp op_mod fun x y H Q h => ?_
  obtain ⟨F, G, ρ, S, dx, dy, d, s, hx, hy, e, q⟩ := h
  unfold gMod at e
  split at e
  · obtain ⟨c, rfl⟩ := some_if e
    cases hx.int; cases hy.int
    exact ⟨_, _, rfl, rfl, c, q.int s⟩
  · cases e
theorem o_pow : OpR X (binaryOp .Pow) (t2 X.K gPow) := by
  refine OpR.imp op_pow fun x y H Q h => ?_
  obtain ⟨F, G, ρ, S, dx, dy, d, s, hx, hy, e, q⟩ := h
  unfold gPow at e
  split at e
  · obtain ⟨c, rfl⟩ := some_if e
    cases hx.int; cases hy.int
    exact ⟨_, _, rfl, rfl, c, q.int s⟩
  · cases e
end
/-! ### comparisons -/
def bothS : D → D → Bool
  | .str _, .str _ => true
  | _, _ => false
theorem bothS_ok {x y : D} (h : bothS x y = true) : ∃ a b, x = .str a ∧ y = .str b := by
  unfold bothS at h
  split at h
  · exact ⟨_, _, rfl, rfl⟩
  · cases h
def gEq (x y : D) : Option D := if bothS x y = true ∨ (SeqAt.shaped x = true ∧ SeqAt.shaped y = true) then some (.bool (PyData.eqv x y)) else none
def gNe (x y : D) : Option D := if bothS x y = true ∨ (SeqAt.shaped x = true ∧ SeqAt.shaped y = true) then some (.bool (!PyData.eqv x y)) else none
def gLt : D → D → Option D
  | .int i, .int j => some (.bool (decide (i < j)))
  | .str a, .str b => some (.bool (decide (a.cps.toList < b.cps.toList)))
  | _, _ => none
def gLe : D → D → Option D
  | .int i, .int j => some (.bool (decide (i ≤ j)))
  | .str a, .str b => some (.bool (!decide (b.cps.toList < a.cps.toList)))
  | _, _ => none
def gGt : D → D → Option D
  | .int i, .int j => some (.bool (decide (j < i)))
  | .str a, .str b => some (.bool (decide (b.cps.toList < a.cps.toList)))
  | _, _ => none
def gGe : D → D → Option D
  | .int i, .int j => some (.bool (decide (j ≤ i)))
  | .str a, .str b => some (.bool (!decide (a.cps.toList < b.cps.toList)))
  | _, _ => none
def flatD : D → Bool
  | .none => true
  | .bool _ => true
  | .int _ => true
  | .str _ => true
  | _ => false
def items : D → Option (List D)
  | .list xs => some xs
  | .tuple xs => some xs
  | _ => none
def inSeq (x : D) (ys : List D) : Option Bool := if ys.all flatD = true ∧ (flatD x = true ∨ (SeqAt.shaped x = true ∧ SeqAt.shaped (.list ys) = true)) then some (ys.any fun y => PyData.eqv y x) else none
def inB : D → D → Option Bool
  | x, .list ys => inSeq x ys
  | x, .tuple ys => inSeq x ys
  | .str c, .str z => match c.cps.toList with
    | [n] => some (decide (n ∈ z.cps.toList))
    | _ => some (!(Builtin.Str.occurrences z c 0 z.length 1).isEmpty)
  | _, _ => none
def gIn (x y : D) : Option D := (inB x y).map .bool
def gNotIn (x y : D) : Option D := (inB x y).map fun b => .bool (!b)
def isNon : D → Bool
  | .none => true
  | _ => false
def gIs : D → D → Option D
  | x, .none => some (.bool (isNon x))
  | .bool a, .bool b => some (.bool (decide (a = b)))
  | _, _ => none
def gIsNot : D → D → Option D
  | x, .none => some (.bool (!isNon x))
  | .bool a, .bool b => some (.bool (!decide (a = b)))
  | _, _ => none
theorem flatV_of {K : PySem.W.Frag} {G : Hp} {v : V} {d : D} (h : DV K G v d) (f : flatD d = true) : flatV v = true := by
  cases h <;> first | rfl | cases f
theorem flatVs_of {K : PySem.W.Frag} {G : Hp} : ∀ {vs : List V} {ds : List D}, DVs K G vs ds → ds.all flatD = true → vs.all flatV = true
  | _, _, .nil, _ => rfl
  | _, _, .cons h t, f => by
    rw [List.all_cons, Bool.and_eq_true] at f ⊢
    exact ⟨flatV_of h f.1, flatVs_of t f.2⟩
theorem eqV_of {K : PySem.W.Frag} {G : Hp} {v w : V} {d e : D} (h : DV K G v d) (k : DV K G w e) (f : flatD d = true) (f' : flatD e = true) : eqV v w = PyData.eqv d e := by
  cases h <;> first | (cases f; done) | (cases k <;> first | (cases f'; done) | rfl | simp [eqV, PyData.eqv])
theorem any_of {K : PySem.W.Frag} {G : Hp} {w : V} {e : D} (k : DV K G w e) (f' : flatD e = true) : ∀ {vs : List V} {ds : List D}, DVs K G vs ds → ds.all flatD = true → (vs.any fun y => eqV y w) = ds.any fun y => PyData.eqv y e
  | _, _, .nil, _ => rfl
  | _, _, .cons h t, f => by
    rw [List.all_cons, Bool.and_eq_true] at f
    rw [List.any_cons, List.any_cons, eqV_of h k f.1 f', any_of k f' t f.2]
section
variable {X : Cx}
theorem shapedL {x : D} : SeqAt.shaped x = true → SeqAt.shaped x = true := id
theorem o_eq (hu : X.A.units + 64 < cLine) : OpR X (compareOp .Eq) (t2 X.K gEq) := by
  refine OpR.imp ((op_eqD hu).or op_eq) fun x y H Q h => ?_
  obtain ⟨F, G, ρ, S, dx, dy, d, s, hx, hy, e, q⟩ := h
  obtain ⟨c, rfl⟩ := some_if e
  rcases c with c | c
  · obtain ⟨a, b, rfl, rfl⟩ := bothS_ok c
    cases hx.str
    cases hy.str
    refine .inr ⟨rfl, ?_⟩
    rw [dec_str]
    exact q.bl s
  · exact .inl ⟨dx, dy, hx.dp s, hy.dp s, c.1, c.2, q.bl s⟩
theorem o_ne (hu : X.A.units + 64 < cLine) : OpR X (compareOp .NotEq) (t2 X.K gNe) := by
  refine OpR.imp ((op_neD hu).or op_ne) fun x y H Q h => ?_
  obtain ⟨F, G, ρ, S, dx, dy, d, s, hx, hy, e, q⟩ := h
  obtain ⟨c, rfl⟩ := some_if e
  rcases c with c | c
  · obtain ⟨a, b, rfl, rfl⟩ := bothS_ok c
    cases hx.str
    cases hy.str
    refine .inr ⟨rfl, ?_⟩
    rw [dec_str]
    exact q.bl s
  · exact .inl ⟨dx, dy, hx.dp s, hy.dp s, c.1, c.2, q.bl s⟩
theorem o_lt : OpR X (compareOp .Lt) (t2 X.K gLt) := by
  refine OpR.imp (op_lt.or op_lt_str) fun x y H Q h => ?_
  obtain ⟨F, G, ρ, S, dx, dy, d, s, hx, hy, e, q⟩ := h
  unfold gLt at e
  split at e
  · cases e; cases hx.int; cases hy.int; exact .inl ⟨_, _, rfl, rfl, q.bl s⟩
  · cases e; cases hx.str; cases hy.str; exact .inr ⟨_, _, rfl, rfl, q.bl s⟩
  · cases e
theorem o_le : OpR X (compareOp .LtE) (t2 X.K gLe) := by
  refine OpR.imp (op_le.or op_le_str) fun x y H Q h => ?_
  obtain ⟨F, G, ρ, S, dx, dy, d, s, hx, hy, e, q⟩ := h
  unfold gLe at e
  split at e
  · cases e; cases hx.int; cases hy.int; exact .inl ⟨_, _, rfl, rfl, q.bl s⟩
  · cases e; cases hx.str; cases hy.str; exact .inr ⟨_, _, rfl, rfl, q.bl s⟩
  · cases e
theorem o_gt : OpR X (compareOp .Gt) (t2 X.K gGt) := by
  refine OpR.imp (op_gt.or op_gt_str) fun x y H Q h => ?_
  obtain ⟨F, G, ρ, S, dx, dy, d, s, hx, hy, e, q⟩ := h
  unfold gGt at e
  split at e
  · cases e; cases hx.int; cases hy.int; exact .inl ⟨_, _, rfl, rfl, q.bl s⟩
  · cases e; cases hx.str; cases hy.str; exact .inr ⟨_, _, rfl, rfl, q.bl s⟩
  · cases e
theorem o_ge : OpR X (compareOp .GtE) (t2 X.K gGe) := by
  refine OpR.imp (op_ge.or op_ge_str) fun x y H Q h => ?_
  obtain ⟨F, G, ρ, S, dx, dy, d, s, hx, hy, e, q⟩ := h
  unfold gGe at e
  split at e
  · cases e; cases hx.int; cases hy.int; exact .inl ⟨_, _, rfl, rfl, q.bl s⟩
  · cases e; cases hx.str; cases hy.str; exact .inr ⟨_, _, rfl, rfl, q.bl s⟩
  · cases e
theorem flat_depth : ∀ {ys : List D}, ys.all flatD = true → PyData.depthAll ys = 0
  | [], _ => by simp [PyData.depthAll]
  | y :: r, h => by
    rw [List.all_cons, Bool.and_eq_true] at h
    cases y <;> first | (simp [flatD] at h; done) | simp [PyData.depthAll, PyData.depth, flat_depth h.2]
/-- in, not in a list or a tuple of flat things, of anything -/
def rDp (neg : Bool) (X : Cx) : R2 := fun x y H Q => X.A.units + 1 < cLine ∧ ∃ d ds, Dp X.K H x d ∧ (Dp X.K H y (.list ds) ∨ Dp X.K H y (.tuple ds)) ∧ SeqAt.shaped d = true ∧ SeqAt.shaped (.list ds) = true ∧ ds.all flatD = true ∧ Q (.bl (if neg then !(ds.any fun z => PyData.eqv z d) else ds.any fun z => PyData.eqv z d)) H
theorem in_deep : OpR X (compareOp .In) (rDp false X) := by
  intro pins s σ H x y v u Q I rx ry h
  obtain ⟨hu, d, ds, hd, he, sd, se, fl, q⟩ := h
  obtain ⟨as, r1⟩ := Dp.reads I d x v hd rx
  have hm : X.A.units + 1 + min (PyData.depthAll ds) d.depth < cLine := by rw [flat_depth fl]; omega
  rcases he with he | he
  · obtain ⟨bs, r2⟩ := Dp.reads I (.list ds) y u he ry
    exact SeqAt.in_list_reads r2 r1 (SeqAt.canLay_of_shaped se) (SeqAt.canLay_of_shaped sd) hm ⟨.bl _, H, I, rfl, q⟩
  · obtain ⟨bs, r2⟩ := Dp.reads I (.tuple ds) y u he ry
    exact SeqAt.in_tuple_reads r2 r1 (SeqAt.canLay_of_shaped se) (SeqAt.canLay_of_shaped sd) hm ⟨.bl _, H, I, rfl, q⟩
theorem notin_deep : OpR X (compareOp .NotIn) (rDp true X) := by
  intro pins s σ H x y v u Q I rx ry h
  obtain ⟨hu, d, ds, hd, he, sd, se, fl, q⟩ := h
  obtain ⟨as, r1⟩ := Dp.reads I d x v hd rx
  have hm : X.A.units + 1 + min (PyData.depthAll ds) d.depth < cLine := by rw [flat_depth fl]; omega
  rcases he with he | he
  · obtain ⟨bs, r2⟩ := Dp.reads I (.list ds) y u he ry
    exact SeqAt.notIn_list_reads r2 r1 (SeqAt.canLay_of_shaped se) (SeqAt.canLay_of_shaped sd) hm ⟨.bl _, H, I, rfl, q⟩
  · obtain ⟨bs, r2⟩ := Dp.reads I (.tuple ds) y u he ry
    exact SeqAt.notIn_tuple_reads r2 r1 (SeqAt.canLay_of_shaped se) (SeqAt.canLay_of_shaped sd) hm ⟨.bl _, H, I, rfl, q⟩
/-- what in asks, by the value that the operator gives for the truth b -/
theorem in_cases {K : PySem.W.Frag} {F G : Hp} {ρ : List Addr} {S : Sto} {H : Hp} {x y : V} {dx dy : D} {b : Bool} (s : SOk K F G ρ S H) (hx : DW K G H x dx) (hy : DW K G H y dy) (e : inB dx dy = some b) :
    (∃ p vs, y = .ref p ∧ (SqL K H p vs ∨ SqT K H p vs) ∧ flatV x = true ∧ vs.all flatV = true ∧ inV x vs = b) ∨
    (∃ ds, (Dp K H y (.list ds) ∨ Dp K H y (.tuple ds)) ∧ SeqAt.shaped dx = true ∧ SeqAt.shaped (.list ds) = true ∧ ds.all flatD = true ∧ (ds.any fun z => PyData.eqv z dx) = b) ∨
    (∃ (c : Nat) (z : Str), x = .str ⟨#[c]⟩ ∧ y = .str z ∧ decide (c ∈ z.cps.toList) = b) ∨
    (∃ i j, x = .str i ∧ y = .str j ∧ (!(Builtin.Str.occurrences j i 0 j.length 1).isEmpty) = b) := by
  have seq : ∀ {ys : List D} {p : Addr} {vs : List V}, inSeq dx ys = some b → DVs K G vs ys → (flatV x = true ∧ vs.all flatV = true ∧ inV x vs = b) ∨ (SeqAt.shaped dx = true ∧ SeqAt.shaped (.list ys) = true ∧ ys.all flatD = true ∧ (ys.any fun z => PyData.eqv z dx) = b) := fun {ys p vs} e hv => by
    obtain ⟨⟨c1, c2⟩, rfl⟩ := some_if e
    rcases c2 with c2 | c2
    · rcases hx with hx | ⟨_, _, _, ex, _⟩
      · exact .inl ⟨flatV_of hx c2, flatVs_of hv c1, any_of hx c2 hv c1⟩
      · subst ex; exact absurd c2 (by simp [flatD])
    · exact .inr ⟨c2.1, c2.2, c1, rfl⟩
  unfold inB at e
  split at e
  · obtain ⟨a, vs, rfl, h1, h2⟩ := hy.lst s
    rcases seq (p := a) e h2 with q | q
    · exact .inl ⟨a, vs, rfl, .inl (.of h1), q⟩
    · exact .inr (.inl ⟨_, .inl (hy.dp s), q⟩)
  · obtain ⟨a, vs, rfl, h1, h2⟩ := tup_of hy
    rcases seq (p := a) e h2 with q | q
    · exact .inl ⟨a, vs, rfl, .inr (Same.sqt s.subG h1), q⟩
    · exact .inr (.inl ⟨_, .inr (hy.dp s), q⟩)
  · rename_i c z
    cases hx.str; cases hy.str
    split at e
    · rename_i n hn
      cases e
      refine .inr (.inr (.inl ⟨n, _, ?_, rfl, rfl⟩))
      have : c = ⟨#[n]⟩ := by
        obtain ⟨a⟩ := c
        have h1 : a.toList = [n] := hn
        have h2 : a = #[n] := Array.ext' h1
        rw [h2]
      rw [this]
    · cases e
      exact .inr (.inr (.inr ⟨_, _, rfl, rfl, rfl⟩))
  · cases e
theorem o_in (hu : X.A.units + 64 < cLine) : OpR X (compareOp .In) (t2 X.K gIn) := by
  refine OpR.imp (op_in_seq.or (in_deep.or (op_in_sign.or op_in_str))) fun x y H Q h => ?_
  obtain ⟨F, G, ρ, S, dx, dy, d, s, hx, hy, e, q⟩ := h
  obtain ⟨b, eb, rfl⟩ := Option.map_eq_some_iff.mp e
  rcases in_cases s hx hy eb with ⟨p, vs, rfl, h1, h2, h3, rfl⟩ | ⟨ds, h1, h2, h3, h4, rfl⟩ | ⟨c, z, rfl, rfl, rfl⟩ | ⟨i, j, rfl, rfl, rfl⟩
  · exact .inl ⟨p, vs, rfl, h1, h2, h3, q.bl s⟩
  · exact .inr (.inl ⟨by omega, _, _, hx.dp s, h1, h2, h3, h4, q.bl s⟩)
  · exact .inr (.inr (.inl ⟨c, z, rfl, rfl, q.bl s⟩))
  · exact .inr (.inr (.inr ⟨i, j, rfl, rfl, q.bl s⟩))
theorem o_notin (hu : X.A.units + 64 < cLine) : OpR X (compareOp .NotIn) (t2 X.K gNotIn) := by
  refine OpR.imp (op_notIn_seq.or (notin_deep.or (op_notIn_sign.or op_notIn_str))) fun x y H Q h => ?_
  obtain ⟨F, G, ρ, S, dx, dy, d, s, hx, hy, e, q⟩ := h
  obtain ⟨b, eb, rfl⟩ := Option.map_eq_some_iff.mp e
  rcases in_cases s hx hy eb with ⟨p, vs, rfl, h1, h2, h3, rfl⟩ | ⟨ds, h1, h2, h3, h4, rfl⟩ | ⟨c, z, rfl, rfl, rfl⟩ | ⟨i, j, rfl, rfl, rfl⟩
  · exact .inl ⟨p, vs, rfl, h1, h2, h3, q.bl s⟩
  · exact .inr (.inl ⟨by omega, _, _, hx.dp s, h1, h2, h3, h4, q.bl s⟩)
  · exact .inr (.inr (.inl ⟨c, z, rfl, rfl, q.bl s⟩))
  · exact .inr (.inr (.inr ⟨i, j, rfl, rfl, q.bl s⟩))
theorem isNon_of {K : PySem.W.Frag} {G H : Hp} {v : V} {d : D} (h : DW K G H v d) : decide (v = .non) = isNon d := by
  rcases h with h | ⟨a, vs, xs, rfl, rfl, _⟩
  · cases h <;> first | rfl | simp [isNon]
  · simp [isNon]
theorem o_is : OpR X (compareOp .Is) (t2 X.K gIs) := by
  refine OpR.imp (op_isN.or op_is_bl) fun x y H Q h => ?_
  obtain ⟨F, G, ρ, S, dx, dy, d, s, hx, hy, e, q⟩ := h
  unfold gIs at e
  split at e
  · cases e
    refine .inl ⟨hy.non, ?_⟩
    rw [isNon_of hx]; exact q.bl s
  · cases e
    exact .inr ⟨_, _, hx.bl, hy.bl, q.bl s⟩
  · cases e
theorem o_isnot : OpR X (compareOp .IsNot) (t2 X.K gIsNot) := by
  refine OpR.imp (op_notN.or op_isnot_bl) fun x y H Q h => ?_
  obtain ⟨F, G, ρ, S, dx, dy, d, s, hx, hy, e, q⟩ := h
  unfold gIsNot at e
  split at e
  · cases e
    refine .inl ⟨hy.non, ?_⟩
    rw [isNon_of hx]; exact q.bl s
  · cases e
    exact .inr ⟨_, _, hx.bl, hy.bl, q.bl s⟩
  · cases e
/-- the operators of the text -/
def gBin : Operator → Option (D → D → Option D)
  | .Add => some gAdd
  | .Sub => some gSub
  | .Mult => some gMul
  | .FloorDiv => some gDiv
  | .Mod => some gMod
  | .Pow => some gPow
  | _ => none
theorem o_bin {op : Operator} {g : D → D → Option D} (h : gBin op = some g) : OpR X (binaryOp op) (t2 X.K g) := by
  cases op <;> first | (cases h; done) | (cases h; first | exact o_add | exact o_sub | exact o_mul | exact o_div | exact o_mod | exact o_pow)
def gCmp : CmpOp → D → D → Option D
  | .Eq => gEq
  | .NotEq => gNe
  | .Lt => gLt
  | .LtE => gLe
  | .Gt => gGt
  | .GtE => gGe
  | .In => gIn
  | .NotIn => gNotIn
  | .Is => gIs
  | .IsNot => gIsNot
theorem o_cmp (hu : X.A.units + 64 < cLine) (op : CmpOp) : OpR X (compareOp op) (t2 X.K (gCmp op)) := by
  cases op
  all_goals first | exact o_eq hu | exact o_ne hu | exact o_lt | exact o_le | exact o_gt | exact o_ge | exact o_in hu | exact o_notin hu | exact o_is | exact o_isnot
end
end PL
end
section
set_option maxHeartbeats 2000000
/-! numbered walks over a tuple and over a text; list(text) -/
namespace PLT
open PySem PySem.Spec PyProof.Rows L2
set_option maxHeartbeats 1000000 in
theorem new_numbered {v : Value} {o : Obj} {J : Heap → Prop} (B : Begins v o J) :
    Meets (Builtin.«enumerate.__new__» ⟨[.type "enumerate", v], []⟩) (fun _ R s => J s.heap ∧
      R (.ok (.ret (.ref (s.heap.push o).objs.size))) { s with heap := (s.heap.push o).push { cls := .type "enumerate", data := .fields #[.none, .bool false, .ref s.heap.objs.size, rawInt 0, .none, .none] } }) :=
  .of_wp fun prog w A R s h => by
    obtain ⟨hp, ge, di, tk, ou⟩ := s; obtain ⟨h1, h⟩ := h
    have sb := sub_enumerate
    have go : ∀ {A' : Around} {E Q : Value → Shared → Prop}, Q (.ref hp.objs.size) ⟨hp.push o, ge, di, tk, ou⟩ → wpAny (model prog w) A' (pyIter v) Q E ⟨hp, ge, di, tk, ou⟩ :=
      fun q => B.iter prog w _ _ ⟨hp, ge, di, tk, ou⟩ _ h1 q
    wp_walk using go
    refine wpAny_stack_any fun st => wpAny_pure ?_
    split
    · rename_i c _ _ _ _ _
      cases (c == Value.type "enumerate")
      · wp_walk using go
        exact ⟨_, rfl, h⟩
      · wp_walk using go
        exact ⟨_, rfl, h⟩
    · wp_walk using go
      exact ⟨_, rfl, h⟩
theorem call_numbered {prog : Program} {w : World} {A : Around} {E : Value → Shared → Prop} {s : Shared} {v : Value} {o : Obj} {J : Heap → Prop} {Q : Value → Shared → Prop} (B : Begins v o J) (h1 : J s.heap)
    (h : ∀ h', IsEnum h' (s.heap.objs.size + 1) s.heap.objs.size 0 .none → h'.get? s.heap.objs.size = some o → (∀ b u, s.heap.get? b = some u → h'.get? b = some u) → Q (.ref (s.heap.objs.size + 1)) { s with heap := h' }) :
    wpAny (model prog w) A (call (.type "enumerate") [v]) Q E s := by
  refine callType_new PySem.F.called_enumerate (by decide) (PySem.F.typeCall_enumerate_1 _) (PySem.F.newCall_enumerate_1 _) (fun obj => PySem.F.args_object_init_2 obj _) PySem.F.entry_enumerate_new (new_numbered B) ⟨h1, ?_⟩
  have sz : (s.heap.push o).objs.size = s.heap.objs.size + 1 := Heap.size_push ..
  show _ ∧ _
  rw [sz]
  have he : IsEnum ((s.heap.push o).push { cls := .type "enumerate", data := .fields #[.none, .bool false, .ref s.heap.objs.size, rawInt 0, .none, .none] }) (s.heap.objs.size + 1) s.heap.objs.size 0 .none := by
    have := Heap.get?_push_size (s.heap.push o) (o := { cls := .type "enumerate", data := .fields #[.none, .bool false, .ref s.heap.objs.size, rawInt 0, .none, .none] }) rfl
    rw [sz] at this
    exact this
  exact ⟨⟨_, he, rfl⟩, h _ he (Heap.get?_push_of_some _ (Heap.get?_push_size _ B.free)) fun b u x => Heap.get?_push_of_some _ (Heap.get?_push_of_some _ x)⟩
/-- the tuple at a, its items in new pairs with their places -/
def ItN (K : PySem.W.Frag) (a : Addr) : It :=
  ⟨fun i H => ∃ (xs : List V) (x : V), SqT K H a xs ∧ xs[i]? = some x, fun i H v H' => ∃ T x, v = .ref T ∧ H T = none ∧ H' = upd H T (.tup [.int (i : Nat), x]) ∧ ∀ xs, SqT K H a xs → xs[i]? = some x, fun i H => ∃ xs : List V, SqT K H a xs ∧ xs.length ≤ i⟩
/-- a walk that stands at its end -/
theorem ends_tup {prog : Program} {w : World} {A : Around} (hh : A.handled = none) (it t : Addr) (items : Array Value) (i : Nat) (hi : items[i]? = none) :
    Draws prog w A it [it, t] i (fun _ _ => False) (fun j h => j = i ∧ h.IsTupleIter it t i ∧ h.IsTuple t items) where
  live := fun _ _ st => let ⟨o, ho, _⟩ := st.2.1; ⟨o, ho⟩
  frame := fun _ _ _ st hk => ⟨st.1, st.2.1.at fun o e => hk it (by simp) o e, st.2.2.at fun o e => hk t (by simp) o e⟩
  item := fun j s Q E hj st hQ => absurd st.1 (Nat.ne_of_lt hj)
  done := fun s Q E st hE => wpAny_nextOf_tuple_end hh st.2.1 st.2.2 hi hE
theorem apart_tup {h : Heap} {t it : Addr} {items : Array Value} {a : Addr} {i : Nat} (p : h.IsTuple t items) (q : h.IsTupleIter it a i) : t ≠ it := fun z => by
  subst z
  obtain ⟨o, h1, h2, _⟩ := p
  obtain ⟨o', k1, k2, _⟩ := q
  rw [h1] at k1; cases k1
  rw [h2] at k2; injection k2 with z; exact absurd z (by decide)
theorem apart_enum {h : Heap} {t e it : Addr} {items : Array Value} {c : Int} {old : Value} (p : h.IsTuple t items) (q : IsEnum h e it c old) : e ≠ t := fun z => by
  subst z
  obtain ⟨o, h1, h2, _⟩ := p
  have q : h.get? e = _ := q
  rw [h1] at q; cases q
  injection (show Value.type "enumerate" = .type "tuple" from h2) with z
  exact absurd z (by decide)
theorem turn_num {P : Program} {w : World} {K : PySem.W.Frag} {elts : List Expr} {kk : Nat} {tpos : Pos} (a e it : Addr) :
    Turn P w K (.Tuple elts kk tpos) (ItN K a) [e, it] e (fun i h => (∃ old, IsEnum h e it ((i : Nat) : Int) old) ∧ h.IsTupleIter it a i ∧ e ≠ it) where
  mem := by simp
  obj := fun i h st b hb => by
    obtain ⟨⟨old, he⟩, ⟨o, ho, hc, hd⟩, _⟩ := st
    rcases (by simpa using hb : b = e ∨ b = it) with z | z
    · rw [z]; exact ⟨_, he, fun v q => nomatch q⟩
    · rw [z]; exact ⟨o, ho, fun v q => by rw [hd] at q; cases q⟩
  keep := fun i h h' st k => let ⟨⟨old, he⟩, hi, hne⟩ := st; ⟨⟨old, k e (by simp) _ he⟩, hi.at fun o q => k it (by simp) o q, hne⟩
  item := by
    intro X hP hw hK hc i pins s σ H E I hf st hg
    subst hP hw hK
    obtain ⟨⟨old, he⟩, hit, hne⟩ := st
    obtain ⟨xs, x, hq, hx⟩ := hg
    obtain ⟨its, rv, p, hz⟩ := I.tuple hq
    have p : s.heap.IsTuple a its.toArray := p
    obtain ⟨u, hu, ru⟩ := rv.get hx
    have hel : e < s.heap.objs.size := Heap.lt_size he
    have hil : it < s.heap.objs.size := by obtain ⟨_, q, _⟩ := hit; exact Heap.lt_size q
    have hlt : i < its.toArray.size := by rw [List.size_toArray]; exact (List.getElem?_eq_some_iff.mp hu).1
    have hef : e ∉ [it, a] := fun z => by
      rcases (by simpa using z : e = it ∨ e = a) with z | z
      · exact hne z
      · exact apart_enum p he z
    refine wpAny_pyNext_enum_itemD (Draws.tuple (A := X.A.in1) (I.ok.hd hc) it a (apart_tup p hit) its.toArray) he ⟨hit, p⟩ hlt hne hef fun y h' tk hy ho st' hT hsz hk => ?_
    have ey : y = u := by
      have hu' : its.toArray[i]? = some u := by simpa using hu
      rw [hu'] at hy
      exact (Option.some.inj hy).symm
    subst ey
    refine ⟨_, rfl, wpAny_letOwnedTupleGo_enum (s := { s with heap := h', toks := tk + 1 }) ho fun h'' he' sb => ?_⟩
    have hT2 : h''.get? s.heap.objs.size = some { cls := .type "tuple", data := .seq #[.int i tk, y] } := (sb.2 _ (Nat.ne_of_gt hel)).trans hT
    have new : ObjOk X.prog X.w (upd H s.heap.objs.size (.tup [.int (i : Nat), x])) h'' s.heap.objs.size (.tup [.int (i : Nat), x]) :=
      ⟨by show 2 ≤ sizeLine; decide, [.int i tk, y], .cons ⟨_, rfl⟩ (.cons ru .nil), ⟨_, hT2, rfl, _, rfl⟩⟩
    have I1 : Inv X pins σ (upd H s.heap.objs.size (.tup [.int (i : Nat), x])) { s with heap := h'', toks := tk + 1 } :=
      I.turnedNew (ch := [e, it]) (fun b ob hb q => (sb.2 b (fun z => hb (by simp [z]))).trans (hk b ob (fun z => hb (by simp [z])) (fun z => hb (by simp [z])) q)) hf (Nat.le_refl _) new
    refine ⟨.ref s.heap.objs.size, _, I1, rfl, ⟨_, x, rfl, I.hok.fresh (Nat.le_refl _), rfl, fun ys hy => by rw [I.tuple_inj hy hq]; exact hx⟩, ⟨⟨y, ?_⟩, st'.1.at fun o q => (sb.2 it (Ne.symm hne)).trans q, hne⟩, fun b hb => ?_⟩
    · have e1 : ((i + 1 : Nat) : Int) = (i : Int) + 1 := by omega
      rw [e1]; exact he'
    · have hb' : b < s.heap.objs.size := by
        rcases (by simpa using hb : b = e ∨ b = it) with z | z
        · rw [z]; exact hel
        · rw [z]; exact hil
      rw [upd_ne (Nat.ne_of_lt hb')]
      exact (hf b hb).1
  done := by
    intro X hP hw hK hc i pins s σ H E I hf st hg
    subst hP hw hK
    obtain ⟨⟨old, he⟩, hit, hne⟩ := st
    obtain ⟨xs, hq, hx⟩ := hg
    obtain ⟨its, rv, p, hz⟩ := I.tuple hq
    obtain ⟨f0, f1, f2, f3, f4, f5⟩ := hf it (by simp)
    have hl := rv.length
    have hn : its.toArray[i]? = none := by simp; omega
    exact wpAny_pyNext_enum_endD (ends_tup (A := X.A.in1) (I.ok.hd hc) it a its.toArray i hn) he ⟨rfl, hit, p⟩ fun h' eb => ⟨rfl, I.turned (t' := s.toks) (fun b o hb q => eb b o hb q) f0 f1 f3 f4 f5⟩
  self := fun A i s Q E st h => let ⟨⟨_, he⟩, _⟩ := st; wpAny_pyIter_enum he h
def iNum (K : PySem.W.Frag) (ta : TA) : TI := fun σ H R => ta σ H fun vs H1 => ∃ a xs, vs = [.ref a] ∧ SqT K H1 a xs ∧ R (ItN K a) H1
theorem pi_num {X : Cx} {e : Expr} {ta : TA} {p pos tpos : Pos} {elts : List Expr} {kk : Nat} (hg : Gl X "enumerate") (hm : X.mg "enumerate" = none) (ha : PA X [e] ta) (hs : starEach [e] X.env = [(false, eval e X.env)] := by rfl) :
    PI X (.Tuple elts kk tpos) (.Call (.Name "enumerate" p) [e] [] pos) (iNum X.K ta) := by
  refine ⟨fun pins s σ H R I h => ?_⟩
  refine Call_ (ld_blt I hg hm boot_enumerate (PyProof.Rows.callWith_type1 (thn (ha.run pos pins s σ H _ I h) fun us s1 ⟨vs, H1, I1, r1, q1⟩ => ?_) hs rfl))
  obtain ⟨a, xs, rfl, hq, q⟩ := q1
  cases r1 with
  | cons r rr =>
    cases rr
    cases r
    obtain ⟨its, rv, p', hz⟩ := I1.tuple hq
    have p' : s1.heap.IsTuple a its.toArray := p'
    refine call_numbered (begins_tuple a its.toArray) p' fun h' he hit hk => wpAny_pyIter_enum he ?_
    have I2 : Inv X pins σ H1 { s1 with heap := h' } := I1.kept (t' := s1.toks) hk
    refine ⟨s1.heap.objs.size + 1, [s1.heap.objs.size + 1, s1.heap.objs.size], _, _, H1, rfl, I2, turn_num a (s1.heap.objs.size + 1) s1.heap.objs.size, ⟨⟨.none, he⟩, ⟨_, hit, rfl, rfl⟩, Nat.succ_ne_self _⟩, fun b hb => ?_, q⟩
    have hle : s1.heap.objs.size ≤ b := by
      rcases (by simpa using hb : b = s1.heap.objs.size + 1 ∨ b = s1.heap.objs.size) with z | z
      · rw [z]; exact Nat.le_add_right _ _
      · rw [z]; exact Nat.le_refl _
    exact I1.fpOk hle (I1.hok.fresh hle)
end PLT
end
section
set_option maxHeartbeats 2000000
namespace PLT
open PySem PySem.Spec PyProof.Rows L2
/-- the text z, its signs in new pairs with their places -/
def ItC (z : Str) : It :=
  ⟨fun i _ => i < z.cps.size, fun i H v H' => ∃ T c, v = .ref T ∧ H T = none ∧ H' = upd H T (.tup [.int (i : Nat), .str ⟨#[c]⟩]) ∧ z.cps[i]? = some c, fun i _ => z.cps.size ≤ i⟩
theorem ends_txt {prog : Program} {w : World} {A : Around} (hh : A.handled = none) (it : Addr) (x : Str) (t : Tok) (i : Nat) (hi : x.cps[i]? = none) :
    Draws prog w A it [it] i (fun _ _ => False) (fun j h => j = i ∧ h.IsStrIter it (strIterType x) x t i) where
  live := fun _ _ st => let ⟨o, ho, _⟩ := st.2; ⟨o, ho⟩
  frame := fun _ _ _ st hk => let ⟨o, ho, r⟩ := st.2; ⟨st.1, o, hk it (by simp) o ho, r⟩
  item := fun j s Q E hj st hQ => absurd st.1 (Nat.ne_of_lt hj)
  done := fun s Q E st hE => by
    have st := st.2
    unfold strIterType at st
    cases ha : x.cps.all (· < 128)
    · rw [ha] at st
      exact wpAny_nextOf_wide_end hh st hi hE
    · rw [ha] at st
      exact wpAny_nextOf_ascii_end hh st hi hE
theorem turn_txt {P : Program} {w : World} {K : PySem.W.Frag} {elts : List Expr} {kk : Nat} {tpos : Pos} (z : Str) (t : Tok) (e it : Addr) :
    Turn P w K (.Tuple elts kk tpos) (ItC z) [e, it] e (fun i h => (∃ old, IsEnum h e it ((i : Nat) : Int) old) ∧ h.IsStrIter it (strIterType z) z t i ∧ e ≠ it) where
  mem := by simp
  obj := fun i h st b hb => by
    obtain ⟨⟨old, he⟩, ⟨o, ho, hc, hd⟩, _⟩ := st
    rcases (by simpa using hb : b = e ∨ b = it) with z | z
    · rw [z]; exact ⟨_, he, fun v q => nomatch q⟩
    · rw [z]; exact ⟨o, ho, fun v q => by rw [hd] at q; cases q⟩
  keep := fun i h h' st k => let ⟨⟨old, he⟩, ⟨o, ho, r⟩, hne⟩ := st; ⟨⟨old, k e (by simp) _ he⟩, ⟨o, k it (by simp) o ho, r⟩, hne⟩
  item := by
    intro X hP hw hK hc i pins s σ H E I hf st hg
    subst hP hw hK
    obtain ⟨⟨old, he⟩, hit, hne⟩ := st
    have hel : e < s.heap.objs.size := Heap.lt_size he
    have hil : it < s.heap.objs.size := by obtain ⟨_, q, _⟩ := hit; exact Heap.lt_size q
    have hef : e ∉ [it] := fun z => hne (by simpa using z)
    refine wpAny_pyNext_enum_itemD (Draws.text (A := X.A.in1) (I.ok.hd hc) it z t) he hit hg hne hef fun y h' tk hy ho st' hT hsz hk => ?_
    obtain ⟨c, u, hc', rfl⟩ := hy
    refine ⟨_, rfl, wpAny_letOwnedTupleGo_enum (s := { s with heap := h', toks := tk + 1 }) ho fun h'' he' sb => ?_⟩
    have hT2 : h''.get? s.heap.objs.size = some { cls := .type "tuple", data := .seq #[.int i tk, .str ⟨#[c]⟩ u] } := (sb.2 _ (Nat.ne_of_gt hel)).trans hT
    have new : ObjOk X.prog X.w (upd H s.heap.objs.size (.tup [.int (i : Nat), .str ⟨#[c]⟩])) h'' s.heap.objs.size (.tup [.int (i : Nat), .str ⟨#[c]⟩]) :=
      ⟨by show 2 ≤ sizeLine; decide, [.int i tk, .str ⟨#[c]⟩ u], .cons ⟨_, rfl⟩ (.cons ⟨_, rfl⟩ .nil), ⟨_, hT2, rfl, _, rfl⟩⟩
    have I1 : Inv X pins σ (upd H s.heap.objs.size (.tup [.int (i : Nat), .str ⟨#[c]⟩])) { s with heap := h'', toks := tk + 1 } :=
      I.turnedNew (ch := [e, it]) (fun b ob hb q => (sb.2 b (fun z => hb (by simp [z]))).trans (hk b ob (fun z => hb (by simp [z])) (fun z => hb (by simp [z])) q)) hf (Nat.le_refl _) new
    obtain ⟨o2, ho2, r2⟩ := st'
    refine ⟨.ref s.heap.objs.size, _, I1, rfl, ⟨_, c, rfl, I.hok.fresh (Nat.le_refl _), rfl, hc'⟩, ⟨⟨.str ⟨#[c]⟩ u, ?_⟩, ⟨o2, (sb.2 it (Ne.symm hne)).trans ho2, r2⟩, hne⟩, fun b hb => ?_⟩
    · have e1 : ((i + 1 : Nat) : Int) = (i : Int) + 1 := by omega
      rw [e1]; exact he'
    · have hb' : b < s.heap.objs.size := by
        rcases (by simpa using hb : b = e ∨ b = it) with z | z
        · rw [z]; exact hel
        · rw [z]; exact hil
      rw [upd_ne (Nat.ne_of_lt hb')]
      exact (hf b hb).1
  done := by
    intro X hP hw hK hc i pins s σ H E I hf st hg
    subst hP hw hK
    obtain ⟨⟨old, he⟩, hit, hne⟩ := st
    obtain ⟨f0, f1, f2, f3, f4, f5⟩ := hf it (by simp)
    have hn : z.cps[i]? = none := Array.getElem?_eq_none hg
    exact wpAny_pyNext_enum_endD (ends_txt (A := X.A.in1) (I.ok.hd hc) it z t i hn) he ⟨rfl, hit⟩ fun h' eb => ⟨rfl, I.turned (t' := s.toks) (fun b o hb q => eb b o hb q) f0 f1 f3 f4 f5⟩
  self := fun A i s Q E st h => let ⟨⟨_, he⟩, _⟩ := st; wpAny_pyIter_enum he h
def iTxt (ta : TA) : TI := fun σ H R => ta σ H fun vs H1 => ∃ z, vs = [.str z] ∧ R (ItC z) H1
theorem pi_txt {X : Cx} {e : Expr} {ta : TA} {p pos tpos : Pos} {elts : List Expr} {kk : Nat} (hg : Gl X "enumerate") (hm : X.mg "enumerate" = none) (ha : PA X [e] ta) (hs : starEach [e] X.env = [(false, eval e X.env)] := by rfl) :
    PI X (.Tuple elts kk tpos) (.Call (.Name "enumerate" p) [e] [] pos) (iTxt ta) := by
  refine ⟨fun pins s σ H R I h => ?_⟩
  refine Call_ (ld_blt I hg hm boot_enumerate (PyProof.Rows.callWith_type1 (thn (ha.run pos pins s σ H _ I h) fun us s1 ⟨vs, H1, I1, r1, q1⟩ => ?_) hs rfl))
  obtain ⟨z, rfl, q⟩ := q1
  cases r1 with
  | cons r rr =>
    cases rr
    obtain ⟨t, rfl⟩ := r
    refine call_numbered (begins_text z t) trivial fun h' he hit hk => wpAny_pyIter_enum he ?_
    have I2 : Inv X pins σ H1 { s1 with heap := h' } := I1.kept (t' := s1.toks) hk
    refine ⟨s1.heap.objs.size + 1, [s1.heap.objs.size + 1, s1.heap.objs.size], _, _, H1, rfl, I2, turn_txt z t (s1.heap.objs.size + 1) s1.heap.objs.size, ⟨⟨.none, he⟩, ⟨_, hit, rfl, rfl⟩, Nat.succ_ne_self _⟩, fun b hb => ?_, q⟩
    have hle : s1.heap.objs.size ≤ b := by
      rcases (by simpa using hb : b = s1.heap.objs.size + 1 ∨ b = s1.heap.objs.size) with z | z
      · rw [z]; exact Nat.le_add_right _ _
      · rw [z]; exact Nat.le_refl _
    exact I1.fpOk hle (I1.hok.fresh hle)
/-- list(z) of a text -/
theorem c_listTxt {X : Cx} (hc : X.calm = true) : CallR X (.type "list") (fun xs H Q => ∃ z : Str, xs = [.str z] ∧ z.cps.size ≤ sizeLine ∧ ∀ p, H p = none → Q (.ref p) (upd H p (.lst (z.cps.toList.map fun c => V.str ⟨#[c]⟩)))) := by
  intro pins s σ H xs us Q I r h
  obtain ⟨z, ex, hz, q⟩ := h
  subst ex
  obtain ⟨u, eu, rx⟩ := vals1 r
  subst eu
  obtain ⟨t, rfl⟩ := rx
  refine call_list_str (I.ok.hd hc) z t (fun h' tk acc c' hk hD hacc => ?_) hz
  refine ⟨.ref s.heap.objs.size, upd H s.heap.objs.size (.lst (z.cps.toList.map fun c => V.str ⟨#[c]⟩)), I.laid (t' := tk) hk (Nat.le_refl _)
    (show ObjOk X.prog X.w _ _ _ (.lst (z.cps.toList.map fun c => V.str ⟨#[c]⟩)) from ⟨by rw [List.length_map, Array.length_toList]; exact hz, acc.toList, c', ?_, by rw [Array.toArray_toList]; exact hD⟩), rfl, q _ (I.hok.fresh (Nat.le_refl _))⟩
  refine vals_of_idx _ _ (by rw [List.length_map, Array.length_toList, Array.length_toList]; exact hacc.1) fun j u hj => ?_
  obtain ⟨c, t', hc, rfl⟩ := hacc.2 j u (by rw [← Array.getElem?_toList]; exact hj)
  exact ⟨.str ⟨#[c]⟩, by rw [List.getElem?_map, Array.getElem?_toList, hc]; rfl, ⟨_, rfl⟩⟩
end PLT
end
section
set_option maxHeartbeats 2000000
namespace PL
open PySem PySem.Spec PyProof.Rows L2
/-! ### truth -/
def truth : R → Sto → Option Bool
  | .d .none, _ => some false
  | .d (.bool b), _ => some b
  | .d (.int i), _ => some (i != 0)
  | .d (.str y), _ => if y.length ≤ sizeLine then some ((y.length : Int) != 0) else none
  | .d (.list xs), _ => some (!xs.isEmpty)
  | .d (.tuple xs), _ => some (!xs.isEmpty)
  | .d (.dict _), _ => none
  | .ref n, S => match S[n]? with
    | some (.lst xs) => some (!xs.isEmpty)
    | some (.dic ks) => some (!ks.isEmpty)
    | none => none
  | .scr _, _ => none
theorem dvs_isE {K : PySem.W.Frag} {G : Hp} {vs : List V} {ds : List D} (h : DVs K G vs ds) : vs.isEmpty = ds.isEmpty := by cases h <;> rfl
theorem kd_isE {K : PySem.W.Frag} {G : Hp} {vs : List (Key × V)} {ds : List (Key × D)} (h : KD K G vs ds) : vs.isEmpty = ds.isEmpty := by cases h <;> rfl
theorem truth_ok {K : PySem.W.Frag} {F G : Hp} {ρ : List Addr} {S : Sto} {H : Hp} (s : SOk K F G ρ S H) {r : R} {v : V} {k : Bool} (q : RV K G ρ r v) (e : truth r S = some k) : TruV K v H k := by
  cases r with
  | scr _ => cases e
  | d x =>
    cases q with
    | non => cases e; exact rfl
    | bl b => cases e; exact rfl
    | int i => cases e; exact rfl
    | str y => obtain ⟨c, rfl⟩ := some_if e; exact ⟨c, rfl⟩
    | lst h1 h2 => cases e; exact .inl ⟨_, .of (s.subG _ _ h1), by rw [dvs_isE h2]⟩
    | tup h1 h2 => cases e; exact .inr (.inl ⟨_, Same.sqt s.subG h1, by rw [dvs_isE h2]⟩)
  | ref n =>
    obtain ⟨a, ea, rfl⟩ := q
    simp only [truth] at e
    cases hs : S[n]? with
    | none => rw [hs] at e; cases e
    | some b =>
      rw [hs] at e
      obtain ⟨o, ho, hr⟩ := s.obj n b a hs ea
      cases b with
      | lst xs =>
        obtain ⟨vs, rfl, hv⟩ := hr
        cases e
        exact .inl ⟨vs, .of ho, by rw [dvs_isE hv]⟩
      | dic ks =>
        obtain ⟨kvs, rfl, hv⟩ := hr
        cases e
        exact .inr (.inr ⟨kvs, ho, by rw [kd_isE hv]⟩)
/-! ### one value -/
def gNeg : D → Option D
  | .int i => some (.int (-i))
  | _ => none
def gLen : D → Option D
  | .str z => if z.length ≤ sizeLine then some (.int z.length) else none
  | .list xs => some (.int xs.length)
  | .tuple xs => some (.int xs.length)
  | _ => none
def bools : List D → Option (List Bool)
  | [] => some []
  | .bool b :: r => (bools r).map (b :: ·)
  | _ :: _ => none
def gAll : D → Option D
  | .list xs => (bools xs).map fun bs => .bool (bs.all id)
  | _ => none
def gAny : D → Option D
  | .list xs => (bools xs).map fun bs => .bool (bs.any id)
  | _ => none
def gTuple : D → Option D
  | .list xs => some (.tuple xs)
  | .tuple xs => some (.tuple xs)
  | _ => none
def signs (z : Str) : List D := z.cps.toList.map fun c => .str ⟨#[c]⟩
theorem dvs_signs {K : PySem.W.Frag} {G : Hp} : ∀ l : List Nat, DVs K G (l.map fun c => V.str ⟨#[c]⟩) (l.map fun c => PyData.str ⟨#[c]⟩)
  | [] => .nil
  | c :: r => .cons (.str _) (dvs_signs r)
def gList : D → Option D
  | .list xs => some (.list xs)
  | .tuple xs => some (.list xs)
  | .str z => if z.cps.size ≤ sizeLine then some (.list (signs z)) else none
  | _ => none
def gInt : D → Option D
  | .int i => some (.int i)
  | .bool b => some (.int (if b then 1 else 0))
  | _ => none
def strsD : List D → Option (List Str)
  | [] => some []
  | .str b :: r => (strsD r).map (b :: ·)
  | _ :: _ => none
theorem bools_of {K : PySem.W.Frag} {G : Hp} : ∀ {ds : List D} {vs : List V} {bs : List Bool}, DVs K G vs ds → bools ds = some bs → vs = bs.map V.bl
  | [], _, _, h, e => by cases h; cases e; rfl
  | d :: ds, _, bs, h, e => by
    cases h with
    | cons h1 h2 =>
      cases h1 with
      | bl b =>
        have e : (bools ds).map (b :: ·) = some bs := e
        obtain ⟨cs, ec, rfl⟩ := Option.map_eq_some_iff.mp e
        rw [bools_of h2 ec]; rfl
      | _ => cases e
theorem strsD_of {K : PySem.W.Frag} {G : Hp} : ∀ {ds : List D} {vs : List V} {bs : List Str}, DVs K G vs ds → strsD ds = some bs → vs = bs.map V.str
  | [], _, _, h, e => by cases h; cases e; rfl
  | d :: ds, _, bs, h, e => by
    cases h with
    | cons h1 h2 =>
      cases h1 with
      | str b =>
        have e : (strsD ds).map (b :: ·) = some bs := e
        obtain ⟨cs, ec, rfl⟩ := Option.map_eq_some_iff.mp e
        rw [strsD_of h2 ec]; rfl
      | _ => cases e
def tc1 (K : PySem.W.Frag) (g : D → Option D) : List V → Hp → VK → Prop := fun vs H Q => ∃ x, vs = [x] ∧ t1 K g x H Q
section
variable {X : Cx}
theorem u_neg : UnR X (unaryOp .USub) (t1 X.K gNeg) := fun pins s σ H x v Q I r h => by
  obtain ⟨F, G, ρ, S, dx, d, s', hx, e, q⟩ := h
  refine un_neg pins s σ H x v Q I r ?_
  unfold gNeg at e
  split at e
  · cases e; cases hx.int; exact ⟨_, rfl, q.int s'⟩
  · cases e
theorem c_len : CallR X (.builtin "len") (tc1 X.K gLen) := by
  refine CallR.imp (call_len_seq.or call_len_str) fun xs H Q h => ?_
  obtain ⟨x, rfl, F, G, ρ, S, dx, d, s, hx, e, q⟩ := h
  unfold gLen at e
  split at e
  · obtain ⟨c, rfl⟩ := some_if e
    cases hx.str; exact .inr ⟨_, rfl, c, q.int s⟩
  · cases e
    obtain ⟨a, vs, rfl, h1, h2⟩ := hx.lst s
    refine .inl ⟨a, vs, rfl, .inl (.of h1), ?_⟩
    rw [dvs_len h2]; exact q.int s
  · cases e
    obtain ⟨a, vs, rfl, h1, h2⟩ := tup_of hx
    refine .inl ⟨a, vs, rfl, .inr (Same.sqt s.subG h1), ?_⟩
    rw [dvs_len h2]; exact q.int s
  · cases e
theorem c_all (hc : X.calm = true) : CallR X (.builtin "all") (tc1 X.K gAll) := by
  refine CallR.imp (cr_all hc) fun xs H Q h => ?_
  obtain ⟨x, rfl, F, G, ρ, S, dx, d, s, hx, e, q⟩ := h
  unfold gAll at e
  split at e
  · obtain ⟨bs, eb, rfl⟩ := Option.map_eq_some_iff.mp e
    obtain ⟨a, vs, rfl, h1, h2⟩ := hx.lst s
    cases bools_of h2 eb
    exact ⟨a, bs, rfl, .of h1, q.bl s⟩
  · cases e
theorem c_any (hc : X.calm = true) : CallR X (.builtin "any") (tc1 X.K gAny) := by
  refine CallR.imp (cr_any hc) fun xs H Q h => ?_
  obtain ⟨x, rfl, F, G, ρ, S, dx, d, s, hx, e, q⟩ := h
  unfold gAny at e
  split at e
  · obtain ⟨bs, eb, rfl⟩ := Option.map_eq_some_iff.mp e
    obtain ⟨a, vs, rfl, h1, h2⟩ := hx.lst s
    cases bools_of h2 eb
    exact ⟨a, bs, rfl, .of h1, q.bl s⟩
  · cases e
theorem c_tuple : CallR X (.type "tuple") (tc1 X.K gTuple) := by
  refine CallR.imp call_tuple_of fun xs H Q h => ?_
  obtain ⟨x, rfl, F, G, ρ, S, dx, d, s, hx, e, q⟩ := h
  unfold gTuple at e
  split at e
  · cases e
    obtain ⟨a, vs, rfl, h1, h2⟩ := hx.lst s
    exact ⟨a, vs, rfl, .inl ⟨.of h1, q.tup s h2⟩⟩
  · cases e
    obtain ⟨a, vs, rfl, h1, h2⟩ := tup_of hx
    exact ⟨a, vs, rfl, .inr ⟨Same.sqt s.subG h1, q.now s (.tup h1 h2)⟩⟩
  · cases e
theorem c_list (hc : X.calm = true) : CallR X (.type "list") (tc1 X.K gList) := by
  refine CallR.imp (call_list_of.or (PLT.c_listTxt hc)) fun xs H Q h => ?_
  obtain ⟨x, rfl, F, G, ρ, S, dx, d, s, hx, e, q⟩ := h
  unfold gList at e
  split at e
  · cases e
    obtain ⟨a, vs, rfl, h1, h2⟩ := hx.lst s
    exact .inl ⟨a, vs, rfl, .inl (.of h1), q.lst s h2⟩
  · cases e
    obtain ⟨a, vs, rfl, h1, h2⟩ := tup_of hx
    exact .inl ⟨a, vs, rfl, .inr (Same.sqt s.subG h1), q.lst s h2⟩
  · obtain ⟨c, rfl⟩ := some_if e
    cases hx.str
    exact .inr ⟨_, rfl, c, q.lst s (dvs_signs _)⟩
  · cases e
theorem c_int : CallR X (.type "int") (tc1 X.K gInt) := by
  refine CallR.imp call_int1 fun xs H Q h => ?_
  obtain ⟨x, rfl, F, G, ρ, S, dx, d, s, hx, e, q⟩ := h
  unfold gInt at e
  split at e
  · cases e; cases hx.int; exact .inl ⟨_, rfl, q.int s⟩
  · cases e; cases hx.bl; exact .inr ⟨_, rfl, q.int s⟩
  · cases e
end
/-! ### isinstance -/
def tyN : D → String
  | .none => "NoneType"
  | .bool _ => "bool"
  | .int _ => "int"
  | .str _ => "str"
  | .list _ => "list"
  | .tuple _ => "tuple"
  | .dict _ => "dict"
/-- the built-in classes that are asked for -/
inductive Ty where
  | int | bool | str | tuple | list
  deriving DecidableEq
def Ty.name : Ty → String
  | .int => "int"
  | .bool => "bool"
  | .str => "str"
  | .tuple => "tuple"
  | .list => "list"
def isTy : Ty → D → Bool
  | .int, .int _ => true
  | .int, .bool _ => true
  | .bool, .bool _ => true
  | .str, .str _ => true
  | .tuple, .tuple _ => true
  | .list, .list _ => true
  | _, _ => false
theorem kit_all (t : Ty) (d : D) (h : ∀ ks, d ≠ .dict ks) : kitB (tyN d) t.name = some (isTy t d) := by
  have k (a : String) (b : String) (r : Bool) (h : kitB a b = some r) : kitB a b = some r := h
  cases d <;> first | exact absurd rfl (h _) | (cases t <;> first | exact k "NoneType" "int" false (by decide +kernel) | exact k "NoneType" "bool" false (by decide +kernel) | exact k "NoneType" "str" false (by decide +kernel) | exact k "NoneType" "tuple" false (by decide +kernel) | exact k "NoneType" "list" false (by decide +kernel) | exact k "bool" "int" true (by decide +kernel) | exact k "bool" "bool" true (by decide +kernel) | exact k "bool" "str" false (by decide +kernel) | exact k "bool" "tuple" false (by decide +kernel) | exact k "bool" "list" false (by decide +kernel) | exact k "int" "int" true (by decide +kernel) | exact k "int" "bool" false (by decide +kernel) | exact k "int" "str" false (by decide +kernel) | exact k "int" "tuple" false (by decide +kernel) | exact k "int" "list" false (by decide +kernel) | exact k "str" "int" false (by decide +kernel) | exact k "str" "bool" false (by decide +kernel) | exact k "str" "str" true (by decide +kernel) | exact k "str" "tuple" false (by decide +kernel) | exact k "str" "list" false (by decide +kernel) | exact k "list" "int" false (by decide +kernel) | exact k "list" "bool" false (by decide +kernel) | exact k "list" "str" false (by decide +kernel) | exact k "list" "tuple" false (by decide +kernel) | exact k "list" "list" true (by decide +kernel) | exact k "tuple" "int" false (by decide +kernel) | exact k "tuple" "bool" false (by decide +kernel) | exact k "tuple" "str" false (by decide +kernel) | exact k "tuple" "tuple" true (by decide +kernel) | exact k "tuple" "list" false (by decide +kernel))
theorem tyX_of {K : PySem.W.Frag} {F G : Hp} {ρ : List Addr} {S : Sto} {H : Hp} (s : SOk K F G ρ S H) {v : V} {d : D} (h : DW K G H v d) : TyX K H v (.type (tyN d)) := by
  rcases h with h | ⟨a, vs, xs, rfl, rfl, h1, _⟩
  · cases h with
    | non => exact .base .non
    | bl b => exact .base (.bl b)
    | int i => exact .base (.int i)
    | str x => exact .base (.str x)
    | lst h1 _ => exact .base (.lst (s.subG _ _ h1))
    | tup h1 _ =>
      rcases h1 with (h1 | ⟨o, h1⟩) | ⟨o, its, n, h1, h2, _⟩
      · exact .base (.tup (s.subG _ _ h1))
      · exact .fTuple (s.subG _ _ h1)
      · exact .kTuple h1 h2
  · exact .base (.lst h1)
/-- the second argument is the class -/
def tIsi (K : PySem.W.Frag) (t : Ty) : List V → Hp → VK → Prop := fun vs H Q => ∃ x, vs = [x, .ty t.name] ∧ t1 K (fun d => some (.bool (isTy t d))) x H Q
theorem c_isi {X : Cx} (t : Ty) : CallR X (.builtin "isinstance") (tIsi X.K t) := by
  refine CallR.imp call_isi fun xs H Q h => ?_
  obtain ⟨x, rfl, F, G, ρ, S, dx, d, s, hx, e, q⟩ := h
  cases e
  exact ⟨x, .ty t.name, .type (tyN dx), .type t.name, isTy t dx, rfl, .ty _, tyX_of s hx, kit_ty (kit_all t dx fun ks z => by subst z; exact hx.nodict), q.bl s⟩
/-! ### items and parts -/
def cutL {α : Type} (xs : List α) (lo hi : Option Int) : List α := (xs.drop (HT.sIx xs.length 0 lo)).take (HT.sIx xs.length xs.length hi - HT.sIx xs.length 0 lo)
theorem cutV_eq (xs : List V) (lo hi : Option Int) : cutV xs lo hi = cutL xs lo hi := rfl
theorem dvs_cut {K : PySem.W.Frag} {G : Hp} {vs : List V} {ds : List D} (h : DVs K G vs ds) (lo hi : Option Int) : DVs K G (cutV vs lo hi) (cutL ds lo hi) := by
  rw [cutV_eq]; unfold cutL
  rw [dvs_len h]
  exact dvs_take _ (dvs_drop _ h)
theorem dvs_ints {K : PySem.W.Frag} {G : Hp} : ∀ ns : List Int, DVs K G (ns.map V.int) (ns.map PyData.int)
  | [] => .nil
  | n :: r => .cons (.int n) (dvs_ints r)
def slR : R → Option Int → Option Int → Sto → Option D
  | .scr ns, lo, hi, _ => some (.list ((cutL ns lo hi).map .int))
  | r, lo, hi, S => match view r S with
    | some (.list xs) => some (.list (cutL xs lo hi))
    | some (.tuple xs) => some (.tuple (cutL xs lo hi))
    | some (.str z) => if z.length ≤ sizeLine then some (.str (cutS z lo hi)) else none
    | _ => none
def tSlR (K : PySem.W.Frag) : V → Option Int → Option Int → Hp → VK → Prop := fun x lo hi H Q => ∃ F G ρ S r d, SOk K F G ρ S H ∧ RV K G ρ r x ∧ slR r lo hi S = some d ∧ Post K F G ρ S (.d d) Q
theorem SlR.imp {X : Cx} {r r' : V → Option Int → Option Int → Hp → VK → Prop} (h : SlR X r) (q : ∀ x lo hi H Q, r' x lo hi H Q → r x lo hi H Q) : SlR X r' :=
  fun pins s σ H x v vl vu lo hi sl Q I rx hs pl pu w => h pins s σ H x v vl vu lo hi sl Q I rx hs pl pu (q x lo hi H Q w)
theorem cut_whole {α : Type} {xs : List α} {lo hi : Option Int} (h : HT.sIx xs.length 0 lo = 0 ∧ HT.sIx xs.length xs.length hi = xs.length) : cutL xs lo hi = xs := by
  unfold cutL
  rw [h.1, h.2, List.drop_zero, Nat.sub_zero, List.take_length]
theorem s_all {X : Cx} : SlR X (tSlR X.K) := by
  refine SlR.imp (sl_list.or (sl_tupA.or sl_str)) fun x lo hi H Q h => ?_
  obtain ⟨F, G, ρ, S, r, d, s, qr, e, q⟩ := h
  have gen : ∀ dx, view r S = some dx → (match some dx with
    | some (.list xs) => some (.list (cutL xs lo hi))
    | some (.tuple xs) => some (.tuple (cutL xs lo hi))
    | some (.str z) => if z.length ≤ sizeLine then some (.str (cutS z lo hi)) else none
    | _ => none) = some d → rSlL X.K x lo hi H Q ∨ rSlA X.K x lo hi H Q ∨ rSlS x lo hi H Q := fun dx ev e => by
    have hx := view_ok s qr ev
    split at e
    · rename_i xs ex
      cases ex; cases e
      obtain ⟨a, vs, rfl, h1, h2⟩ := hx.lst s
      exact .inl ⟨a, vs, rfl, .of h1, q.lst s (dvs_cut h2 lo hi)⟩
    · rename_i xs ex
      cases ex; cases e
      obtain ⟨a, vs, rfl, h1, h2⟩ := tup_of hx
      refine .inr (.inl ⟨a, vs, rfl, Same.sqt s.subG h1, fun z => ?_, fun _ => q.tup s (dvs_cut h2 lo hi)⟩)
      rw [dvs_len h2] at z
      rw [cut_whole z] at q
      exact q.now s (.tup h1 h2)
    · rename_i z ex
      cases ex
      obtain ⟨c, rfl⟩ := some_if e
      cases hx.str
      exact .inr (.inr ⟨_, rfl, c, q.str s⟩)
    · cases e
  cases r with
  | scr ns =>
    cases e
    obtain ⟨a, rfl, h1⟩ := qr
    refine .inl ⟨a, _, rfl, s.subG.seq h1, q.lst s ?_⟩
    rw [cutV_eq]
    have : cutL (ns.map V.int) lo hi = (cutL ns lo hi).map V.int := by
      unfold cutL
      rw [List.length_map, ← List.map_drop, ← List.map_take]
    rw [this]
    exact dvs_ints _
  | d dx => exact gen dx rfl e
  | ref n =>
    have e : (match view (.ref n) S with
      | some (.list xs) => some (.list (cutL xs lo hi))
      | some (.tuple xs) => some (.tuple (cutL xs lo hi))
      | some (.str z) => if z.length ≤ sizeLine then some (.str (cutS z lo hi)) else none
      | _ => none) = some d := e
    cases ev : view (.ref n) S with
    | none => rw [ev] at e; cases e
    | some dx => rw [ev] at e; exact gen dx ev e
def gIx : D → D → Option D
  | .list xs, .int i => atI xs i
  | .tuple xs, .int i => atI xs i
  | .str z, .int i => if z.length ≤ sizeLine then (atI z.cps.toList i).map fun c => .str ⟨#[c]⟩ else none
  | _, _ => none
theorem dvs_atI {K : PySem.W.Frag} {G : Hp} {vs : List V} {ds : List D} (h : DVs K G vs ds) {i : Int} {d : D} (e : atI ds i = some d) : ∃ v, atI vs i = some v ∧ DV K G v d := by
  unfold atI at e ⊢
  rw [dvs_len h]
  cases hi : ixN ds.length i with
  | none => rw [hi] at e; cases e
  | some j =>
    rw [hi] at e
    exact dvs_get h e
theorem IxR.imp {X : Cx} {r r' : R2} (h : IxR X r) (q : ∀ x y H Q, r' x y H Q → r x y H Q) : IxR X r' :=
  fun value slice pins s σ H x y v u Q I r1 r2 w => h value slice pins s σ H x y v u Q I r1 r2 (q x y H Q w)
theorem i_all {X : Cx} : IxR X (t2 X.K gIx) := by
  refine IxR.imp ix_seq fun x y H Q h => ?_
  obtain ⟨F, G, ρ, S, dx, dy, d, s, hx, hy, e, q⟩ := h
  unfold gIx at e
  split at e
  · obtain ⟨a, vs, rfl, h1, h2⟩ := hx.lst s
    cases hy.int
    obtain ⟨v, ev, hv⟩ := dvs_atI h2 e
    exact .inl ⟨a, vs, _, v, rfl, rfl, .of h1, ev, q.now s hv⟩
  · obtain ⟨a, vs, rfl, h1, h2⟩ := tup_of hx
    cases hy.int
    obtain ⟨v, ev, hv⟩ := dvs_atI h2 e
    exact .inr (.inl ⟨a, vs, _, v, rfl, rfl, Same.sqt s.subG h1, ev, q.now s hv⟩)
  · rename_i z i
    cases hx.str; cases hy.int
    by_cases c : z.length ≤ sizeLine
    · rw [if_pos c] at e
      obtain ⟨n, en, rfl⟩ := Option.map_eq_some_iff.mp e
      exact .inr (.inr ⟨_, _, n, rfl, rfl, c, en, q.str s⟩)
    · rw [if_neg c] at e; cases e
  · cases e
/-! ### dicts -/
def keyD : D → Option Key
  | .int i => some (.inl i)
  | .str x => some (.inr x)
  | _ => none
def lookK {α : Type} (ks : List (Key × α)) (k : Key) : Option α := (ks.find? fun kv => decide (kv.1 = k)).map (·.2)
def storeK {α : Type} (kvs : List (Key × α)) (k : Key) (v : α) : List (Key × α) :=
  if (kvs.any fun kv => decide (kv.1 = k)) = true then kvs.map (fun kv => if kv.1 = k then (kv.1, v) else kv) else kvs ++ [(k, v)]
theorem keyD_of {K : PySem.W.Frag} {G H : Hp} {v : V} {d : D} {k : Key} (h : DW K G H v d) (e : keyD d = some k) : v = kV k := by
  unfold keyD at e
  split at e
  · cases e; exact h.int
  · cases e; exact h.str
  · cases e
theorem kd_look {K : PySem.W.Frag} {G : Hp} {k : Key} : ∀ {kvs : List (Key × V)} {ks : List (Key × D)}, KD K G kvs ks → (∀ d, lookK ks k = some d → ∃ v, valV kvs k = some v ∧ DV K G v d) ∧ (lookK ks k = none → valV kvs k = none)
  | _, _, .nil => ⟨fun d e => (nomatch e), fun _ => rfl⟩
  | (k1, v1) :: kvs, (k2, d2) :: ks, .cons ⟨(h1 : k1 = k2), (h2 : DV K G v1 d2)⟩ t => by
    subst h1
    by_cases hk : k1 = k
    · subst hk
      have e1 : lookK ((k1, d2) :: ks) k1 = some d2 := by simp [lookK]
      have e2 : valV ((k1, v1) :: kvs) k1 = some v1 := by simp [valV]
      rw [e1, e2]
      exact ⟨fun d e => by cases e; exact ⟨v1, rfl, h2⟩, fun e => nomatch e⟩
    · have e1 : lookK ((k1, d2) :: ks) k = lookK ks k := by simp [lookK, List.find?_cons, hk]
      have e2 : valV ((k1, v1) :: kvs) k = valV kvs k := by simp [valV, List.find?_cons, hk]
      rw [e1, e2]
      exact kd_look t
theorem kd_any {K : PySem.W.Frag} {G : Hp} {k : Key} : ∀ {kvs : List (Key × V)} {ks : List (Key × D)}, KD K G kvs ks → (kvs.any fun kv => decide (kv.1 = k)) = ks.any fun kv => decide (kv.1 = k)
  | _, _, .nil => rfl
  | (k1, v1) :: kvs, (k2, d2) :: ks, .cons ⟨(h1 : k1 = k2), _⟩ t => by
    subst h1
    rw [List.any_cons, List.any_cons, kd_any t]
theorem kd_map {K : PySem.W.Frag} {G : Hp} {k : Key} {v : V} {d : D} (q : DV K G v d) : ∀ {kvs : List (Key × V)} {ks : List (Key × D)}, KD K G kvs ks → KD K G (kvs.map (fun kv => if kv.1 = k then (kv.1, v) else kv)) (ks.map (fun kv => if kv.1 = k then (kv.1, d) else kv))
  | _, _, .nil => .nil
  | (k1, v1) :: kvs, (k2, d2) :: ks, .cons ⟨(h1 : k1 = k2), (h2 : DV K G v1 d2)⟩ t => by
    subst h1
    refine .cons ?_ (kd_map q t)
    show (if k1 = k then (k1, v) else (k1, v1)).1 = (if k1 = k then (k1, d) else (k1, d2)).1 ∧ DV K G (if k1 = k then (k1, v) else (k1, v1)).2 (if k1 = k then (k1, d) else (k1, d2)).2
    by_cases hk : k1 = k
    · rw [if_pos hk, if_pos hk]; exact ⟨rfl, q⟩
    · rw [if_neg hk, if_neg hk]; exact ⟨rfl, h2⟩
theorem kd_app {K : PySem.W.Frag} {G : Hp} : ∀ {kvs kvs2 : List (Key × V)} {ks ks2 : List (Key × D)}, KD K G kvs ks → KD K G kvs2 ks2 → KD K G (kvs ++ kvs2) (ks ++ ks2)
  | _, _, _, _, .nil, h => h
  | _, _, _, _, .cons a t, h => .cons a (kd_app t h)
theorem kd_put {K : PySem.W.Frag} {G : Hp} {k : Key} {v : V} {d : D} (q : DV K G v d) {kvs : List (Key × V)} {ks : List (Key × D)} (h : KD K G kvs ks) : KD K G (putK kvs k v) (storeK ks k d) := by
  unfold putK storeK
  rw [kd_any h]
  by_cases c : (ks.any fun kv => decide (kv.1 = k)) = true
  · rw [if_pos c, if_pos c]; exact kd_map q h
  · rw [if_neg c, if_neg c]; exact kd_app h (.cons ⟨rfl, q⟩ .nil)
theorem kd_len {K : PySem.W.Frag} {G : Hp} {kvs : List (Key × V)} {ks : List (Key × D)} (h : KD K G kvs ks) : kvs.length = ks.length := Paired.length h
end PL
end
section
set_option maxHeartbeats 2000000
namespace PL
open PySem PySem.Spec PyProof.Rows L2
/-! ### repr, sorted, str, join, and what a written dict holds -/
def shownOk (d : D) : Bool := d.showable && decide (d.depth ≤ 50) && !d.hasDict && decide (d.shown.length ≤ sizeLine)
def gRepr : D → Option D
  | .list xs => if shownOk (.list xs) = true then some (.str (PyData.shown (.list xs))) else none
  | .tuple xs => if shownOk (.tuple xs) = true then some (.str (PyData.shown (.tuple xs))) else none
  | .str x => if (reprText x).length ≤ sizeLine then some (.str (reprText x)) else none
  | .int i => if i.natAbs.log2 < 1920 then some (.str (toString i)) else none
  | .bool b => some (.str (if b then "True" else "False"))
  | .none => some (.str "None")
  | _ => none
theorem repr_of_nothing {prog : Program} {w : World} {A : Around} {E : Value → Shared → Prop} {s : Shared} {Q : Value → Shared → Prop} (h : Q (.str "None" s.toks) { s with toks := s.toks + 1 }) : wpAny (model prog w) A (call (.builtin "repr") [.none]) Q E s :=
  call_repr_gives (typeIs_none s) PySem.F.slot_NoneType_repr PySem.F.entry_NoneType_repr (PySem.F.args_NoneType_repr_1 _) gives_none_repr h (hx := by decide)
def gStr : D → Option D
  | .int i => if i.natAbs.log2 < 1920 then some (.str (toString i)) else none
  | .str x => some (.str x)
  | _ => none
def insI (x : Int) : List Int → List Int
  | [] => [x]
  | y :: r => if x ≤ y then x :: y :: r else y :: insI x r
def sortI : List Int → List Int
  | [] => []
  | x :: r => insI x (sortI r)
theorem insI_perm (x : Int) : ∀ l : List Int, (insI x l).Perm (x :: l)
  | [] => List.Perm.refl _
  | y :: r => by
    unfold insI
    split
    · exact List.Perm.refl _
    · exact ((insI_perm x r).cons y).trans (List.Perm.swap _ _ _)
theorem sortI_perm : ∀ l : List Int, (sortI l).Perm l
  | [] => List.Perm.refl _
  | x :: r => (insI_perm x (sortI r)).trans ((sortI_perm r).cons x)
theorem insI_sorted (x : Int) : ∀ l : List Int, l.Pairwise (· ≤ ·) → (insI x l).Pairwise (· ≤ ·)
  | [], _ => List.pairwise_singleton _ _
  | y :: r, h => by
    have h2 := List.pairwise_cons.mp h
    unfold insI
    split
    · rename_i c
      exact List.pairwise_cons.mpr ⟨fun z hz => by
        rcases List.mem_cons.mp hz with rfl | hz
        · exact c
        · exact Int.le_trans c (h2.1 z hz), h⟩
    · rename_i c
      refine List.pairwise_cons.mpr ⟨fun z hz => ?_, insI_sorted x r h2.2⟩
      rcases List.mem_cons.mp ((insI_perm x r).mem_iff.mp hz) with rfl | hz
      · omega
      · exact h2.1 z hz
theorem sortI_sorted : ∀ l : List Int, (sortI l).Pairwise (· ≤ ·)
  | [] => List.Pairwise.nil
  | x :: r => insI_sorted x _ (sortI_sorted r)
theorem sortI_only {ys xs : List Int} (p : ys.Perm xs) (h : ys.Pairwise (· ≤ ·)) : ys = sortI xs :=
  List.Perm.eq_of_pairwise (fun a b _ _ h1 h2 => Int.le_antisymm h1 h2) h (sortI_sorted xs) (p.trans (sortI_perm xs).symm)
def intsD : List D → Option (List Int)
  | [] => some []
  | .int b :: r => (intsD r).map (b :: ·)
  | _ :: _ => none
theorem intsD_of {K : PySem.W.Frag} {G : Hp} : ∀ {ds : List D} {vs : List V} {bs : List Int}, DVs K G vs ds → intsD ds = some bs → vs = bs.map V.int
  | [], _, _, h, e => by cases h; cases e; rfl
  | d :: ds, _, bs, h, e => by
    cases h with
    | cons h1 h2 =>
      cases h1 with
      | int b =>
        have e : (intsD ds).map (b :: ·) = some bs := e
        obtain ⟨cs, ec, rfl⟩ := Option.map_eq_some_iff.mp e
        rw [intsD_of h2 ec]; rfl
      | _ => cases e
def gSorted : D → Option D
  | .list ds => match strsD ds with
    | some xs => if xs.length < 64 then some (.list ((sortS xs).map PyData.str)) else none
    | none => match intsD ds with
      | some ns => some (.list ((sortI ns).map PyData.int))
      | none => none
  | _ => none
def seqD : D → Option (List D)
  | .list ds => some ds
  | .tuple ds => some ds
  | _ => none
def gJoin (a b : D) : Option D := match a, (seqD b).bind strsD with
  | .str a, some xs => if (xs.map (·.length)).sum + xs.length * a.length ≤ 16777216 then some (.str (Txt.join a xs)) else none
  | _, _ => none
theorem dvs_strs {K : PySem.W.Frag} {G : Hp} : ∀ xs : List Str, DVs K G (xs.map V.str) (xs.map PyData.str)
  | [] => .nil
  | x :: r => .cons (.str x) (dvs_strs r)
theorem shownOk_and {d : D} (h : shownOk d = true) : d.showable = true ∧ d.depth ≤ 50 ∧ d.hasDict = false ∧ d.shown.length ≤ sizeLine := by
  simp only [shownOk, Bool.and_eq_true, decide_eq_true_eq, Bool.not_eq_true'] at h
  exact ⟨h.1.1.1, h.1.1.2, h.1.2, h.2⟩
section
variable {X : Cx}
theorem c_repr (hg : X.A.guards = some []) (hu : X.A.units + 64 < cLine) : CallR X (.builtin "repr") (tc1 X.K gRepr) := by
  intro pins s σ H xs us Q I r h
  obtain ⟨x, rfl, F, G, ρ, S, dx, d, sk, hx, e, q⟩ := h
  obtain ⟨u, rfl, r1⟩ := vals1 r
  have big : ∀ (a : Addr) (dd : D), x = .ref a → dx = dd → shownOk dd = true → d = .str dd.shown → wpAny (model X.prog X.w) X.A (PySem.call (.builtin "repr") [u]) (EP X pins σ Q) X.xe s := fun a dd ea ed ok eq => by
    subst ea ed eq
    obtain ⟨h1, h2, h3, h4⟩ := shownOk_and ok
    obtain ⟨as, rd⟩ := Dp.reads I _ _ _ (hx.dp sk) r1
    obtain rfl : u = Value.ref a := r1
    exact repr_of_reads' rd h1 (PyData.noDict_hsm h3) hg (by omega) (fun _ _ e => e) (fun h' t tk hk => ⟨.str _, H, I.kept hk, ⟨_, rfl⟩, q.now sk (.str _)⟩) h4
  cases dx with
  | list ds =>
    obtain ⟨c, rfl⟩ := some_if (show (if shownOk (.list ds) = true then some (PyData.str (PyData.shown (.list ds))) else none) = some d from e)
    obtain ⟨a, vs, ea, _, _⟩ := hx.lst sk
    exact big a _ ea rfl c rfl
  | tuple ds =>
    obtain ⟨c, rfl⟩ := some_if (show (if shownOk (.tuple ds) = true then some (PyData.str (PyData.shown (.tuple ds))) else none) = some d from e)
    obtain ⟨a, vs, ea, _, _⟩ := hx.tup sk
    exact big a _ ea rfl c rfl
  | str z =>
    obtain ⟨c, rfl⟩ := some_if (show (if (reprText z).length ≤ sizeLine then some (PyData.str (reprText z)) else none) = some d from e)
    cases hx.str
    obtain ⟨t, rfl⟩ := r1
    exact PySem.P.repr_of_str ⟨.str _, H, I.tok _, ⟨_, rfl⟩, q.now sk (.str _)⟩ c
  | int i =>
    obtain ⟨c, rfl⟩ := some_if (show (if i.natAbs.log2 < 1920 then some (PyData.str (toString i)) else none) = some d from e)
    cases hx.int
    obtain ⟨t, rfl⟩ := r1
    exact PySem.P.repr_of_int c ⟨.str _, H, I.tok _, ⟨_, rfl⟩, q.now sk (.str _)⟩
  | bool b =>
    cases e
    cases hx.bl
    obtain rfl : u = Value.bool b := r1
    exact PySem.P.repr_of_bool ⟨.str _, H, I.tok _, ⟨_, rfl⟩, q.now sk (.str _)⟩
  | none =>
    cases e
    cases hx.non
    obtain rfl : u = Value.none := r1
    exact repr_of_nothing ⟨.str _, H, I.tok _, ⟨_, rfl⟩, q.now sk (.str _)⟩
  | _ => cases e
theorem c_str : CallR X (.type "str") (tc1 X.K gStr) := by
  refine CallR.imp (call_str_int.or SkE.call_str_str) fun xs H Q h => ?_
  obtain ⟨x, rfl, F, G, ρ, S, dx, d, s, hx, e, q⟩ := h
  unfold gStr at e
  split at e
  · obtain ⟨c, rfl⟩ := some_if e
    cases hx.int; exact .inl ⟨_, rfl, c, q.now s (.str _)⟩
  · cases e
    cases hx.str; exact .inr ⟨_, rfl, q.now s (.str _)⟩
  · cases e
theorem c_sorted : CallR X (.builtin "sorted") (tc1 X.K gSorted) := by
  refine CallR.imp (cr_sortedS.or cr_sortedI) fun xs H Q h => ?_
  obtain ⟨x, rfl, F, G, ρ, S, dx, d, s, hx, e, q⟩ := h
  unfold gSorted at e
  split at e
  case h_2 => cases e
  rename_i ds
  obtain ⟨a, vs, rfl, h1, h2⟩ := hx.lst s
  split at e
  · rename_i zs hz
    obtain ⟨c, rfl⟩ := some_if e
    cases strsD_of h2 hz
    refine .inl ⟨a, zs, rfl, .of h1, c, fun ys p p1 p2 hp => ?_⟩
    cases sortS_only p1 p2
    exact q.lst s (dvs_strs _) p hp
  · split at e
    case h_2 => cases e
    rename_i ns hn
    cases e
    cases intsD_of h2 hn
    refine .inr ⟨a, ns, rfl, .of h1, fun ys p p1 p2 hp => ?_⟩
    cases sortI_only p1 p2
    exact q.lst s (dvs_ints _) p hp
/-- the keys of a changing dict of texts -/
def strKeys : List (Key × D) → Option (List Str)
  | [] => some []
  | (.inr x, _) :: r => (strKeys r).map (x :: ·)
  | (.inl _, _) :: _ => none
def gSortD : R → Sto → Option D
  | .ref n, S => match S[n]? with
    | some (.dic ks) => match strKeys ks with
      | some zs => if zs.length < 64 then some (.list ((sortS zs).map PyData.str)) else none
      | none => none
    | _ => none
  | _, _ => none
theorem strKeys_of {K : PySem.W.Frag} {G : Hp} : ∀ {kvs : List (Key × V)} {ks : List (Key × D)} {zs : List Str}, KD K G kvs ks → strKeys ks = some zs → kvs.map (·.1) = zs.map Sum.inr
  | _, _, _, .nil, e => by cases e; rfl
  | (k1, v1) :: kvs, (k2, d2) :: ks, zs, .cons ⟨(h1 : k1 = k2), _⟩ t, e => by
    subst h1
    cases k1 with
    | inl i => cases e
    | inr x =>
      have e : (strKeys ks).map (x :: ·) = some zs := e
      obtain ⟨ys, ey, rfl⟩ := Option.map_eq_some_iff.mp e
      rw [List.map_cons, List.map_cons, strKeys_of t ey]
theorem c_sortedD (hc : X.calm = true) : CallR X (.builtin "sorted") (fun xs H Q => ∃ v, xs = [v] ∧ ∃ F G ρ S r d, SOk X.K F G ρ S H ∧ RV X.K G ρ r v ∧ gSortD r S = some d ∧ Post X.K F G ρ S (.d d) Q) := by
  refine CallR.imp (call_sortedD hc) fun xs H Q h => ?_
  obtain ⟨v, rfl, F, G, ρ, S, r, d, s, hr, e, q⟩ := h
  unfold gSortD at e
  split at e
  · rename_i n
    split at e
    · rename_i ks hs
      split at e
      · rename_i zs hz
        obtain ⟨c, rfl⟩ := some_if e
        obtain ⟨a, ea, rfl⟩ := hr
        obtain ⟨o, ho, kvs, rfl, hk⟩ := s.obj n _ a hs ea
        refine ⟨a, kvs, zs, rfl, .inl ho, strKeys_of hk hz, c, fun ys p p1 p2 hp => ?_⟩
        cases sortS_only p1 p2
        exact q.lst s (dvs_strs _) p hp
      · cases e
    · cases e
  · cases e
theorem m_join : MtR X "str.join" fun x xs H Q => ∃ y, xs = [y] ∧ t2 X.K gJoin x y H Q := by
  intro pins s0 σ H x xs v us Q I rx rs h
  refine mt_join pins s0 σ H x xs v us Q I rx rs ?_
  obtain ⟨y, rfl, F, G, ρ, S, dx, dy, d, s, hx, hy, e, q⟩ := h
  unfold gJoin at e
  split at e
  · rename_i a zs hz
    obtain ⟨c, rfl⟩ := some_if e
    cases hx.str
    cases dy with
    | list ds =>
      obtain ⟨b, vs, rfl, h1, h2⟩ := hy.lst s
      cases strsD_of h2 (show strsD ds = some zs from hz)
      exact ⟨a, b, zs, rfl, rfl, .inl (.of h1), c, q.now s (.str _)⟩
    | tuple ds =>
      obtain ⟨b, vs, rfl, h1, h2⟩ := tup_of hy
      cases strsD_of h2 (show strsD ds = some zs from hz)
      exact ⟨a, b, zs, rfl, rfl, .inr (Same.sqt s.subG h1), c, q.now s (.str _)⟩
    | _ => cases hz
  · cases e
end
end PL
end
section
set_option maxHeartbeats 3200000
namespace PL
open PySem PySem.Spec PyProof.Rows L2
/-! ### sorted(set(texts)) -/
def SetX (P : Program) (w : World) (p : Addr) (ks : List Str) : HO := .ext fun h => ∃ D, h.get? p = some (PySem.Froz.sObj "set" D) ∧ PLS.Tx P w D ks ∧ ks.Nodup
theorem setX_new {P : Program} {w : World} {H : Hp} {h : Heap} {p : Addr} {ks : List Str} (R : ∃ D, h.get? p = some (PySem.Froz.sObj "set" D) ∧ PLS.Tx P w D ks ∧ ks.Nodup) : ObjOk P w H h p (SetX P w p ks) := by
  have ⟨D, ho, _⟩ := R
  exact ⟨R, ⟨_, ho⟩, fun h1 h2 ⟨D, ho, r⟩ k => ⟨D, k _ ho, r⟩⟩
def onceS : List Str → List Str
  | [] => []
  | x :: r => if x ∈ onceS r then onceS r else x :: onceS r
theorem once_mem (z : Str) : ∀ xs : List Str, z ∈ onceS xs ↔ z ∈ xs
  | [] => Iff.rfl
  | x :: r => by
    unfold onceS
    split
    · rename_i h
      rw [once_mem z r, List.mem_cons]
      exact ⟨.inr, fun q => q.elim (fun e => e ▸ (once_mem x r).mp h) id⟩
    · rw [List.mem_cons, List.mem_cons, once_mem z r]
theorem once_nodup : ∀ xs : List Str, (onceS xs).Nodup
  | [] => List.nodup_nil
  | x :: r => by
    unfold onceS
    split
    · exact once_nodup r
    · rename_i h
      exact List.nodup_cons.mpr ⟨h, once_nodup r⟩
def onceI : List Int → List Int
  | [] => []
  | x :: r => if x ∈ onceI r then onceI r else x :: onceI r
theorem onceI_mem (z : Int) : ∀ xs : List Int, z ∈ onceI xs ↔ z ∈ xs
  | [] => Iff.rfl
  | x :: r => by
    unfold onceI
    split
    · rename_i h
      rw [onceI_mem z r, List.mem_cons]
      exact ⟨.inr, fun q => q.elim (fun e => e ▸ (onceI_mem x r).mp h) id⟩
    · rw [List.mem_cons, List.mem_cons, onceI_mem z r]
theorem onceI_nodup : ∀ xs : List Int, (onceI xs).Nodup
  | [] => List.nodup_nil
  | x :: r => by
    unfold onceI
    split
    · exact onceI_nodup r
    · rename_i h
      exact List.nodup_cons.mpr ⟨h, onceI_nodup r⟩
def gSSet (d : D) : Option D := match (seqD d).bind strsD with
  | some xs => if xs.length < 4000 ∧ (onceS xs).length < 64 then some (.list ((sortS (onceS xs)).map PyData.str)) else none
  | none => match (seqD d).bind intsD with
    | some ns => if ns.length < 4000 ∧ (onceI ns).length < 64 then some (.list ((sortI (onceI ns)).map PyData.int)) else none
    | none => none
/-- the number of members is the number of the row's numbers, each once -/
theorem setR_len {w : World} {h : Heap} {a : Addr} {zs : List Int} {m : Nat} (R : SetR w h a (fun k => decide (k ∈ zs)) m) : m = (onceI zs).length := by
  obtain ⟨o, es, ep, t, ho, hx, hd, g, nd, hm, hb, hf, hn, _⟩ := R
  have p : (es.toList.map keyOf).Perm (onceI zs) := (List.perm_ext_iff_of_nodup nd (onceI_nodup zs)).mpr fun z => ((hm z).symm.trans (by simp)).trans (onceI_mem z zs).symm
  rw [← p.length_eq, List.length_map, Array.length_toList, hn]
section
variable {X : Cx}
theorem c_setXI (hc : X.calm = true) : CallR X (.type "set") fun vs H Q => ∃ (a : Addr) (zs : List Int), vs = [.ref a] ∧ (SqL X.K H a (zs.map V.int) ∨ SqT X.K H a (zs.map V.int)) ∧ zs.length < 4000 ∧
    ∀ p, H p = none → Q (.ref p) (upd H p (SetO X.w p (fun k => decide (k ∈ zs)) (onceI zs).length)) := by
  intro pins s σ H vs us Q I r h
  obtain ⟨a, zs, rfl, hs, h64, q⟩ := h
  rw [Vals.ref1 r]
  have room : zs.length + 1 < scanBound := by unfold scanBound; omega
  rcases hs with hs | hs
  · obtain ⟨its, rv, hl, _⟩ := I.list hs
    refine PLI.set_listI (I.ok.hd hc) hl.isList rv.ints room fun h' tk m R len hk => ?_
    cases setR_len R
    exact ⟨.ref _, upd H s.heap.objs.size (SetO X.w s.heap.objs.size (fun k => decide (k ∈ zs)) (onceI zs).length), I.laid (t' := tk) hk (Nat.le_refl _) (setO_new R), rfl, q _ (I.hok.fresh (Nat.le_refl _))⟩
  · obtain ⟨its, rv, hl, _⟩ := I.tuple hs
    refine PLI.set_tupleI (I.ok.hd hc) hl rv.ints room fun h' tk m R len hk => ?_
    cases setR_len R
    exact ⟨.ref _, upd H s.heap.objs.size (SetO X.w s.heap.objs.size (fun k => decide (k ∈ zs)) (onceI zs).length), I.laid (t' := tk) hk (Nat.le_refl _) (setO_new R), rfl, q _ (I.hok.fresh (Nat.le_refl _))⟩
theorem c_setX (hc : X.calm = true) : CallR X (.type "set") fun vs H Q => ∃ (a : Addr) (zs : List Str), vs = [.ref a] ∧ (SqL X.K H a (zs.map V.str) ∨ SqT X.K H a (zs.map V.str)) ∧ zs.length < 4000 ∧
    ∀ p ks, H p = none → ks.Nodup → (∀ z, z ∈ ks ↔ z ∈ zs) → ks.length ≤ zs.length → Q (.ref p) (upd H p (SetX X.prog X.w p ks)) := by
  intro pins s σ H vs us Q I r h
  obtain ⟨a, zs, rfl, hs, h64, q⟩ := h
  rw [Vals.ref1 r]
  have room : zs.length + 1 < scanBound := by unfold scanBound; omega
  rcases hs with hs | hs
  · obtain ⟨its, rv, hl, _⟩ := I.list hs
    exact PLS.set_list (I.ok.hd hc) hl.isList rv.strs room fun h' tk D ks ho T nd mem len hk => ⟨.ref _, upd H s.heap.objs.size (SetX X.prog X.w s.heap.objs.size ks), I.laid (t' := tk) hk (Nat.le_refl _) (setX_new ⟨D, ho, T, nd⟩), rfl, q _ ks (I.hok.fresh (Nat.le_refl _)) nd mem len⟩
  · obtain ⟨its, rv, hl, _⟩ := I.tuple hs
    exact PLS.set_tuple (I.ok.hd hc) hl rv.strs room fun h' tk D ks ho T nd mem len hk => ⟨.ref _, upd H s.heap.objs.size (SetX X.prog X.w s.heap.objs.size ks), I.laid (t' := tk) hk (Nat.le_refl _) (setX_new ⟨D, ho, T, nd⟩), rfl, q _ ks (I.hok.fresh (Nat.le_refl _)) nd mem len⟩
theorem c_sortX (hc : X.calm = true) : CallR X (.builtin "sorted") fun vs H Q => ∃ (a : Addr) (ks : List Str), vs = [.ref a] ∧ H a = some (SetX X.prog X.w a ks) ∧ ks.length < 64 ∧
    ∀ ys p, ys.Perm ks → sortedS ys = true → H p = none → Q (.ref p) (upd H p (.lst (ys.map V.str))) := by
  intro pins s σ H vs us Q I r h
  obtain ⟨a, ks, rfl, ha, h64, q⟩ := h
  obtain ⟨D, ho, T, nd⟩ := (I.hok a _ ha).1
  rw [Vals.ref1 r]
  refine PLS.sorted_texts ho T nd (I.ok.hd hc) h64 fun s' p out c ys k g o hp hg hi pm hs => ?_
  have hlen : (ys.map V.str).length ≤ sizeLine := by rw [List.length_map, pm.length_eq, sizeLine_eq]; omega
  have hn : H p = none := I.hok.fresh hp
  have J : Inv X pins σ (upd H p (.lst (ys.map V.str))) { s with heap := s'.heap, gens := s'.gens, drawn := s'.drawn, toks := s'.toks } :=
    I.call (ch := []) (Un.laid k hp hn) (I.hok.laid k hp ⟨hlen, out.toList, c, vals_of_strs hi, hg⟩) (by rw [g]; exact I.bare) (fun _ z => nomatch z)
  have e : s' = { s with heap := s'.heap, gens := s'.gens, drawn := s'.drawn, toks := s'.toks } := by
    obtain ⟨_, _, _, _, _⟩ := s'
    obtain ⟨_, _, _, _, _⟩ := s
    cases o
    rfl
  rw [e]
  exact ⟨.ref p, _, J, rfl, q ys p pm hs hn⟩
end
end PL
end
section
set_option maxHeartbeats 2000000
namespace PL
open PySem PySem.Spec PyProof.Rows L2
/-! ### equality of data, decided -/
mutual
def dEq : D → D → Bool
  | .none, .none => true
  | .bool a, .bool b => a == b
  | .int a, .int b => a == b
  | .str a, .str b => decide (a = b)
  | .list a, .list b => dEqs a b
  | .tuple a, .tuple b => dEqs a b
  | .dict a, .dict b => dEqp a b
  | _, _ => false
def dEqs : List D → List D → Bool
  | [], [] => true
  | a :: as, b :: bs => dEq a b && dEqs as bs
  | _, _ => false
def dEqp : List (D × D) → List (D × D) → Bool
  | [], [] => true
  | (a, x) :: as, (b, y) :: bs => dEq a b && dEq x y && dEqp as bs
  | _, _ => false
end
mutual
theorem dEq_eq : ∀ (a b : D), dEq a b = true → a = b
  | .none, b, h => by cases b <;> first | rfl | (simp [dEq] at h; done)
  | .bool a, b, h => by cases b <;> first | (simp [dEq] at h; done) | (simp [dEq] at h; rw [h])
  | .int a, b, h => by cases b <;> first | (simp [dEq] at h; done) | (simp [dEq] at h; rw [h])
  | .str a, b, h => by cases b <;> first | (simp [dEq] at h; done) | (simp [dEq] at h; rw [h])
  | .list a, b, h => by cases b <;> first | (simp [dEq] at h; done) | (simp only [dEq] at h; rw [dEqs_eq a _ h])
  | .tuple a, b, h => by cases b <;> first | (simp [dEq] at h; done) | (simp only [dEq] at h; rw [dEqs_eq a _ h])
  | .dict a, b, h => by cases b <;> first | (simp [dEq] at h; done) | (simp only [dEq] at h; rw [dEqp_eq a _ h])
theorem dEqs_eq : ∀ (a b : List D), dEqs a b = true → a = b
  | [], [], _ => rfl
  | [], _ :: _, h => by simp [dEqs] at h
  | _ :: _, [], h => by simp [dEqs] at h
  | x :: xs, y :: ys, h => by
    simp only [dEqs, Bool.and_eq_true] at h
    rw [dEq_eq x y h.1, dEqs_eq xs ys h.2]
theorem dEqp_eq : ∀ (a b : List (D × D)), dEqp a b = true → a = b
  | [], [], _ => rfl
  | [], _ :: _, h => by simp [dEqp] at h
  | _ :: _, [], h => by simp [dEqp] at h
  | (x, u) :: xs, (y, v) :: ys, h => by
    simp only [dEqp, Bool.and_eq_true] at h
    rw [dEq_eq x y h.1.1, dEq_eq u v h.1.2, dEqp_eq xs ys h.2]
end
mutual
theorem dEq_refl : ∀ a : D, dEq a a = true
  | .none => rfl
  | .bool a => by simp [dEq]
  | .int a => by simp [dEq]
  | .str a => by simp [dEq]
  | .list a => by simp only [dEq]; exact dEqs_refl a
  | .tuple a => by simp only [dEq]; exact dEqs_refl a
  | .dict a => by simp only [dEq]; exact dEqp_refl a
theorem dEqs_refl : ∀ a : List D, dEqs a a = true
  | [] => rfl
  | x :: xs => by simp only [dEqs, dEq_refl x, dEqs_refl xs, Bool.and_self]
theorem dEqp_refl : ∀ a : List (D × D), dEqp a a = true
  | [] => rfl
  | (x, y) :: xs => by simp only [dEqp, dEq_refl x, dEq_refl y, dEqp_refl xs, Bool.and_self]
end
/-! ### the text -/
def gRev : D → Option D
  | .list xs => some (.list xs.reverse)
  | .tuple xs => some (.tuple xs.reverse)
  | _ => none
/-- built-ins of one argument -/
inductive Bi where
  | len | all | any | tuple | list | int | repr | sorted | str
def Bi.fn : Bi → D → Option D
  | .len => gLen
  | .all => gAll
  | .any => gAny
  | .tuple => gTuple
  | .list => gList
  | .int => gInt
  | .repr => gRepr
  | .sorted => gSorted
  | .str => gStr
def Bi.name : Bi → Str
  | .len => "len"
  | .all => "all"
  | .any => "any"
  | .tuple => "tuple"
  | .list => "list"
  | .int => "int"
  | .repr => "repr"
  | .sorted => "sorted"
  | .str => "str"
/-- what a loop's item is stored in -/
inductive Tg where
  | one (i : Nat)
  | tup (is : List Nat)
mutual
inductive E where
  | loc (i : Nat)
  | int (i : Int)
  | str (x : Str)
  | bl (b : Bool)
  | non
  | gd (x : Str) (d : D)
  | bin (op : Operator) (a b : E)
  | cmp (op : CmpOp) (a b : E)
  | cmp2 (o p : CmpOp) (a b c : E)
  | bop (isAnd : Bool) (a : E) (r : Es)
  | not (a : E)
  | neg (a : E)
  | ite (c a b : E)
  | tup (es : Es)
  | lst (es : Es)
  | lstR (es : Es)
  | dic0
  | dic (ks : List Str) (es : Es)
  | ix (a i : E)
  | sl (a : E) (lo hi : O)
  | bi (b : Bi) (a : E)
  | isi (t : Ty) (a : E)
  | call (f : Nat) (es : Es)
  | comp (own : List Nat) (tg : Tg) (it : It') (cs : Es) (e : E)
  | compR (own : List Nat) (tg : Tg) (it : It') (cs : Es) (e : E)
  | get2 (d k e : E)
  | app (a e : E)
  | ext (a e : E)
  | join (a e : E)
  | gget (x : Str) (tab : List (Str × D)) (k : E)
  | gget2 (x : Str) (tab : List (Str × D)) (k e : E)
  | callK (f : Nat) (x : Str) (e : E)
  | gix (x : Str) (tab : List (Str × D)) (k : E)
  | sset (a : E)
  | gin (neg : Bool) (x : Str) (tab : List (Str × D)) (k : E)
  | sortd (a : E)
  | rev (a : E)
  | reprL (es : Es)
inductive Es where
  | nil
  | cons (e : E) (es : Es)
inductive O where
  | no
  | so (e : E)
inductive It' where
  | seq (e : E)
  | rng (e : E)
  | zip (a b : E)
  | enm (a : E)
  | rng2 (a b : E)
end
inductive Sx where
  | asg (i : Nat) (e : E)
  | asgL (i : Nat) (e : E)
  | par (is : List Nat) (es : Es)
  | parC (is : List Nat) (es : Es)
  | unp (is : List Nat) (e : E)
  | dset (d k v : E)
  | expr (e : E)
  | ret (e : E)
  | ret0
  | ifs (c : E) (a b : List Sx)
  | fors (tg : Tg) (it : It') (b : List Sx)
  | never
  | pass
  | brk
  | cont
/-! ### the evaluation -/
abbrev Cl := Nat → List R → Sto → Option (R × Sto)
def asD : R → Option D
  | .d x => some x
  | _ => none
def asDs : List R → Option (List D)
  | [] => some []
  | .d x :: r => (asDs r).map (x :: ·)
  | _ :: _ => none
def bindIx : List Nat → List D → Loc → Option Loc
  | [], [], L => some L
  | i :: is, d :: ds, L => bindIx is ds (L.set i (some (.d d)))
  | _, _, _ => none
def bindT : Tg → D → Loc → Option Loc
  | .one i, d, L => some (L.set i (some (.d d)))
  | .tup is, .tuple ds, L => bindIx is ds L
  | .tup _, _, _ => none
def setAll : List Nat → List R → Loc → Option Loc
  | [], [], L => some L
  | i :: is, r :: rs, L => setAll is rs (L.set i (some r))
  | _, _, _ => none
abbrev Lk := Option (Nat × List D)
def lockB : Lk → Sto → Bool
  | none, _ => true
  | some (n, xs), S => match S[n]? with
    | some (.lst ys) => dEqs ys xs
    | _ => false
def zipD : List D → List D → List D
  | x :: xs, y :: ys => .tuple [x, y] :: zipD xs ys
  | _, _ => []
def enumD (n : Nat) : List D → List D
  | [] => []
  | x :: xs => .tuple [.int (n : Int), x] :: enumD (n + 1) xs
def rngD (n : Int) : List D := (List.range n.toNat).map fun (i : Nat) => PyData.int (i : Int)
/-- a comprehension's turns: t gives what is put in, if it is -/
def loopM (lk : Lk) (t : D → Sto → Option (Option D × Sto)) : List D → List D → Sto → Option (List D × Sto)
  | [], acc, S => some (acc, S)
  | d :: ds, acc, S => match t d S with
    | some (o, S') => if lockB lk S' = true then (match o with
        | some y => if acc.length < sizeLine then loopM lk t ds (acc ++ [y]) S' else none
        | none => loopM lk t ds acc S') else none
    | none => none
inductive Fl where
  | nx | bk | ct
  | rt (r : R)
def forM' (lk : Lk) (t : D → Loc → Sto → Option (Fl × Loc × Sto)) : List D → Loc → Sto → Option (Fl × Loc × Sto)
  | [], L, S => some (.nx, L, S)
  | d :: ds, L, S => match t d L S with
    | some (.rt r, L', S') => some (.rt r, L', S')
    | some (.bk, L', S') => some (.nx, L', S')
    | some (_, L', S') => if lockB lk S' = true then forM' lk t ds L' S' else none
    | none => none
def ixR (a i : R) (S : Sto) : Option D :=
  match a with
  | .ref n => match S[n]? with
    | some (.dic ks) => match i with
      | .d k => match keyD k with
        | some k => lookK ks k
        | none => none
      | _ => none
    | some (.lst xs) => match i with
      | .d k => gIx (.list xs) k
      | _ => none
    | none => none
  | .d x => match i with
    | .d k => gIx x k
    | _ => none
  | .scr _ => none
def dsetR (d k v : R) (S : Sto) : Option Sto :=
  match d, k, v with
  | .ref n, .d k, .d v => match S[n]?, keyD k with
    | some (.dic ks), some k => if ks.length < sizeLine then some (S.set n (.dic (storeK ks k v))) else none
    | some (.lst xs), none => none
    | _, _ => none
  | _, _, _ => none
def get2R (d k e : R) (S : Sto) : Option R :=
  match d, k with
  | .ref n, .d k => match S[n]?, keyD k with
    | some (.dic ks), some k => match lookK ks k with
      | some v => some (.d v)
      | none => some e
    | _, _ => none
  | _, _ => none
def appR (a e : R) (S : Sto) : Option Sto :=
  match a, e with
  | .ref n, .d y => match S[n]? with
    | some (.lst xs) => if xs.length < sizeLine then some (S.set n (.lst (xs ++ [y]))) else none
    | _ => none
  | _, _ => none
def extR (a e : R) (S : Sto) : Option Sto :=
  match a with
  | .ref n => match S[n]?, view e S with
    | some (.lst xs), some (.list ys) => if xs.length + ys.length ≤ sizeLine then some (S.set n (.lst (xs ++ ys))) else none
    | _, _ => none
  | _ => none
def bin2 (g : D → D → Option D) (x y : R) (S : Sto) : Option D := match view x S, view y S with
  | some a, some b => g a b
  | _, _ => none
def un1 (g : D → Option D) (x : R) (S : Sto) : Option D := match view x S with
  | some a => g a
  | none => none
def putS (ks : List (Key × D)) : List Str → List D → List (Key × D)
  | k :: r, d :: ds => putS (storeK ks (.inr k) d) r ds
  | _, _ => ks
def okOr {α β : Type} (o : Option α) (f : α → Option β) : Option β := match o with
  | some a => f a
  | none => none
def isDic : R → Sto → Bool
  | .ref n, S => match S[n]? with
    | some (.dic _) => true
    | _ => false
  | _, _ => false
def isLst : R → Sto → Bool
  | .ref n, S => match S[n]? with
    | some (.lst _) => true
    | _ => false
  | _, _ => false
def isS : R → Bool
  | .d (.str _) => true
  | _ => false
/-- what a written dict holds -/
def getTab (tab : List (Str × D)) : R → Option D
  | .d (.str z) => some ((tab.lookup z).getD .none)
  | _ => none
def getTab2 (tab : List (Str × D)) : R → R → Option D
  | .d (.str s), .d z => some ((tab.lookup s).getD z)
  | _, _ => none
def ixTab (tab : List (Str × D)) : R → Option D
  | .d (.str z) => tab.lookup z
  | _ => none
def inTab (tab : List (Str × D)) : R → Option Bool
  | .d (.str z) => some (tab.lookup z).isSome
  | _ => none
def rng2D (i j : Int) : List D := (List.range (j - i).toNat).map fun (k : Nat) => PyData.int (i + (k : Int))
def viewAll : List R → Sto → Option (List D)
  | [], _ => some []
  | r :: rs, S => match view r S, viewAll rs S with
    | some d, some ds => some (d :: ds)
    | _, _ => none
def guardB {α : Type} (b : Bool) (o : Option α) : Option α := match b with
  | true => o
  | false => none
section
variable (cl : Cl)
mutual
def evE : E → Loc → Sto → Option (R × Sto)
  | .loc i, L, S => match L[i]? with
    | some (some r) => some (r, S)
    | _ => none
  | .int i, _, S => some (.d (.int i), S)
  | .str x, _, S => some (.d (.str x), S)
  | .bl b, _, S => some (.d (.bool b), S)
  | .non, _, S => some (.d .none, S)
  | .gd _ d, _, S => some (.d d, S)
  | .bin op a b, L, S => okOr (evE a L S) fun (x, S1) => okOr (evE b L S1) fun (y, S2) => okOr (gBin op) fun g => okOr (bin2 g x y S2) fun d => some (.d d, S2)
  | .cmp op a b, L, S => okOr (evE a L S) fun (x, S1) => okOr (evE b L S1) fun (y, S2) => okOr (bin2 (gCmp op) x y S2) fun d => some (.d d, S2)
  | .cmp2 o p a b c, L, S => okOr (evE a L S) fun (x, S1) => okOr (evE b L S1) fun (y, S2) => okOr (bin2 (gCmp o) x y S2) fun d => match d with
    | .bool true => okOr (evE c L S2) fun (z, S3) => okOr (bin2 (gCmp p) y z S3) fun d => some (.d d, S3)
    | .bool false => some (.d (.bool false), S2)
    | _ => none
  | .bop k a r, L, S => okOr (evE a L S) fun (x, S1) => evB k r x L S1
  | .not a, L, S => okOr (evE a L S) fun (x, S1) => okOr (truth x S1) fun b => some (.d (.bool (!b)), S1)
  | .neg a, L, S => okOr (evE a L S) fun (x, S1) => okOr (un1 gNeg x S1) fun d => some (.d d, S1)
  | .ite c a b, L, S => okOr (evE c L S) fun (x, S1) => okOr (truth x S1) fun k => match k with
    | true => evE a L S1
    | false => evE b L S1
  | .tup es, L, S => okOr (evEs es L S) fun (rs, S1) => okOr (asDs rs) fun ds => if ds.length ≤ sizeLine then some (.d (.tuple ds), S1) else none
  | .lst es, L, S => okOr (evEs es L S) fun (rs, S1) => okOr (asDs rs) fun ds => if ds.length ≤ sizeLine then some (.d (.list ds), S1) else none
  | .lstR es, L, S => okOr (evEs es L S) fun (rs, S1) => okOr (asDs rs) fun ds => if ds.length ≤ sizeLine then some (.ref S1.length, S1 ++ [.lst ds]) else none
  | .dic0, _, S => some (.ref S.length, S ++ [.dic []])
  | .dic ks es, L, S => okOr (evEs es L S) fun (rs, S1) => okOr (asDs rs) fun ds => if ds.length = ks.length ∧ ks.length ≤ 15 ∧ ks ≠ [] then some (.ref S1.length, S1 ++ [.dic (putS [] ks ds)]) else none
  | .ix a i, L, S => okOr (evE a L S) fun (x, S1) => okOr (evE i L S1) fun (y, S2) => okOr (ixR x y S2) fun d => some (.d d, S2)
  | .sl a lo hi, L, S => okOr (evE a L S) fun (x, S1) => okOr (evO lo L S1) fun (l, S2) => okOr (evO hi L S2) fun (h, S3) => okOr (slR x l h S3) fun d => some (.d d, S3)
  | .bi b a, L, S => okOr (evE a L S) fun (x, S1) => okOr (un1 b.fn x S1) fun d => some (.d d, S1)
  | .isi t a, L, S => okOr (evE a L S) fun (x, S1) => okOr (un1 (fun d => some (.bool (isTy t d))) x S1) fun d => some (.d d, S1)
  | .call f es, L, S => okOr (evEs es L S) fun (rs, S1) => cl f rs S1
  | .comp own tg it cs e, L, S => okOr (evI it L S) fun (ds, lk, S1) => guardB (lockB lk S1)
      (okOr (loopM lk (fun d S => okOr (bindT tg d (wipeL L own)) fun L' => okOr (evT cs L' S) fun (b, S') => match b with
        | true => okOr (evE e L' S') fun (y, S2) => okOr (asD y) fun y => some (some y, S2)
        | false => some (none, S')) ds [] S1) fun (ys, S2) => some (.d (.list ys), S2))
  | .compR own tg it cs e, L, S => okOr (evI it L S) fun (ds, lk, S1) => guardB (lockB lk S1)
      (okOr (loopM lk (fun d S => okOr (bindT tg d (wipeL L own)) fun L' => okOr (evT cs L' S) fun (b, S') => match b with
        | true => okOr (evE e L' S') fun (y, S2) => okOr (asD y) fun y => some (some y, S2)
        | false => some (none, S')) ds [] S1) fun (ys, S2) => some (.ref S2.length, S2 ++ [.lst ys]))
  | .get2 d k e, L, S => okOr (evE d L S) fun (x, S1) => guardB (isDic x S1) (okOr (evE k L S1) fun (y, S2) => okOr (evE e L S2) fun (z, S3) => okOr (get2R x y z S3) fun r => some (r, S3))
  | .app a e, L, S => okOr (evE a L S) fun (x, S1) => guardB (isLst x S1) (okOr (evE e L S1) fun (y, S2) => okOr (appR x y S2) fun S3 => some (.d .none, S3))
  | .ext a e, L, S => okOr (evE a L S) fun (x, S1) => guardB (isLst x S1) (okOr (evE e L S1) fun (y, S2) => okOr (extR x y S2) fun S3 => some (.d .none, S3))
  | .join a e, L, S => okOr (evE a L S) fun (x, S1) => guardB (isS x) (okOr (evE e L S1) fun (y, S2) => okOr (bin2 gJoin x y S2) fun d => some (.d d, S2))
  | .gget2 _ tab k e, L, S => okOr (evE k L S) fun (y, S1) => okOr (evE e L S1) fun (z, S2) => okOr (getTab2 tab y z) fun d => some (.d d, S2)
  | .gget _ tab k, L, S => okOr (evE k L S) fun (y, S1) => okOr (getTab tab y) fun d => some (.d d, S1)
  | .callK f _ e, L, S => okOr (evE e L S) fun (x, S1) => cl f [x] S1
  | .sset a, L, S => okOr (evE a L S) fun (x, S1) => okOr (un1 gSSet x S1) fun d => some (.d d, S1)
  | .gix _ tab k, L, S => okOr (evE k L S) fun (y, S1) => okOr (ixTab tab y) fun d => some (.d d, S1)
  | .gin neg _ tab k, L, S => okOr (evE k L S) fun (y, S1) => okOr (inTab tab y) fun b => some (.d (.bool (if neg = true then !b else b)), S1)
  | .sortd a, L, S => okOr (evE a L S) fun (x, S1) => okOr (gSortD x S1) fun d => some (.d d, S1)
  | .reprL es, L, S => okOr (evEs es L S) fun (rs, S1) => okOr (viewAll rs S1) fun ds => if ds.length ≤ sizeLine then okOr (gRepr (.list ds)) fun d => some (.d d, S1) else none
  | .rev a, L, S => okOr (evE a L S) fun (x, S1) => okOr (un1 gRev x S1) fun d => some (.d d, S1)
/-- and, or: x stands, r follows -/
def evB (k : Bool) : Es → R → Loc → Sto → Option (R × Sto)
  | .nil, x, _, S => some (x, S)
  | .cons e es, x, L, S => okOr (truth x S) fun b => if b = k then okOr (evE e L S) fun (y, S1) => evB k es y L S1 else some (x, S)
def evEs : Es → Loc → Sto → Option (List R × Sto)
  | .nil, _, S => some ([], S)
  | .cons e es, L, S => okOr (evE e L S) fun (x, S1) => okOr (evEs es L S1) fun (xs, S2) => some (x :: xs, S2)
/-- a clause's tests, none or one -/
def evT : Es → Loc → Sto → Option (Bool × Sto)
  | .nil, _, S => some (true, S)
  | .cons e .nil, L, S => okOr (evE e L S) fun (x, S1) => okOr (truth x S1) fun b => some (b, S1)
  | .cons _ _, _, _ => none
def evO : O → Loc → Sto → Option (Option Int × Sto)
  | .no, _, S => some (none, S)
  | .so e, L, S => okOr (evE e L S) fun (x, S1) => match x with
    | .d (.int i) => some (some i, S1)
    | _ => none
def evI : It' → Loc → Sto → Option (List D × Lk × Sto)
  | .seq e, L, S => okOr (evE e L S) fun (x, S1) => match x with
    | .d (.list xs) => some (xs, none, S1)
    | .d (.tuple xs) => some (xs, none, S1)
    | .d (.str z) => some (signs z, none, S1)
    | .ref n => (match S1[n]? with
      | some (.lst xs) => some (xs, some (n, xs), S1)
      | _ => none)
    | _ => none
  | .rng e, L, S => okOr (evE e L S) fun (x, S1) => match x with
    | .d (.int i) => if -(2 ^ 62) ≤ i ∧ i < 2 ^ 62 then some (rngD i, none, S1) else none
    | _ => none
  | .zip a b, L, S => okOr (evE a L S) fun (x, S1) => okOr (evE b L S1) fun (y, S2) => match x, y with
    | .d (.list xs), .d (.list ys) => some (zipD xs ys, none, S2)
    | .d (.tuple xs), .d (.tuple ys) => some (zipD xs ys, none, S2)
    | _, _ => none
  | .enm a, L, S => okOr (evE a L S) fun (x, S1) => match x with
    | .d (.list xs) => some (enumD 0 xs, none, S1)
    | .d (.tuple xs) => some (enumD 0 xs, none, S1)
    | .d (.str z) => some (enumD 0 (signs z), none, S1)
    | _ => none
  | .rng2 a b, L, S => okOr (evE a L S) fun (x, S1) => okOr (evE b L S1) fun (y, S2) => match x, y with
    | .d (.int i), .d (.int j) => if -(2 ^ 62) ≤ i ∧ i < 2 ^ 62 ∧ -(2 ^ 62) ≤ j ∧ j < 2 ^ 62 then some (rng2D i j, none, S2) else none
    | _, _ => none
end
mutual
def evS : Sx → Loc → Sto → Option (Fl × Loc × Sto)
  | .asg i e, L, S => okOr (evE cl e L S) fun (x, S1) => some (.nx, L.set i (some x), S1)
  | .asgL i e, L, S => okOr (evE cl e L S) fun (x, S1) => some (.nx, L.set i (some x), S1)
  | .par is es, L, S => okOr (evEs cl es L S) fun (rs, S1) => okOr (setAll is rs L) fun L' => some (.nx, L', S1)
  | .parC is es, L, S => okOr (evEs cl es L S) fun (rs, S1) => okOr (setAll is rs L) fun L' => some (.nx, L', S1)
  | .unp is e, L, S => okOr (evE cl e L S) fun (x, S1) => match x with
    | .d (.tuple ds) => okOr (bindIx is ds L) fun L' => some (.nx, L', S1)
    | _ => none
  | .dset d k v, L, S => okOr (evE cl v L S) fun (z, S1) => okOr (evE cl d L S1) fun (x, S2) => okOr (evE cl k L S2) fun (y, S3) => okOr (dsetR x y z S3) fun S4 => some (.nx, L, S4)
  | .expr e, L, S => okOr (evE cl e L S) fun (_, S1) => some (.nx, L, S1)
  | .ret e, L, S => okOr (evE cl e L S) fun (x, S1) => some (.rt x, L, S1)
  | .ret0, L, S => some (.rt (.d .none), L, S)
  | .ifs c a b, L, S => okOr (evE cl c L S) fun (x, S1) => okOr (truth x S1) fun k => match k with
    | true => evSs a L S1
    | false => evSs b L S1
  | .fors tg it b, L, S => okOr (evI cl it L S) fun (ds, lk, S1) => guardB (lockB lk S1) (forM' lk (fun d L S => okOr (bindT tg d L) fun L' => evSs b L' S) ds L S1)
  | .never, _, _ => none
  | .pass, L, S => some (.nx, L, S)
  | .brk, L, S => some (.bk, L, S)
  | .cont, L, S => some (.ct, L, S)
def evSs : List Sx → Loc → Sto → Option (Fl × Loc × Sto)
  | [], L, S => some (.nx, L, S)
  | s :: r, L, S => okOr (evS s L S) fun (f, L', S') => match f with
    | .nx => evSs r L' S'
    | f => some (f, L', S')
end
end
/-- a def: its name, its names by slot, how many of them are parameters, its body -/
structure Fn where
  name : Str
  names : List Str
  np : Nat
  body : List Sx
/-- a call's value: where it is a datum, what was made within is forgotten -/
def callN (P : List Fn) : Nat → Cl
  | 0, _, _, _ => none
  | n + 1, f, rs, S => match P[f]? with
    | some d => if rs.length = d.np then (match evSs (callN P n) d.body (rs.map some ++ List.replicate (d.names.length - rs.length) none) S with
        | some (.rt (.d x), _, S') => some (.d x, S'.take S.length)
        | some (.rt r, _, S') => some (r, S')
        | some (.nx, _, S') => some (.d .none, S'.take S.length)
        | _ => none) else none
    | none => none
end PL
end
section
set_option maxHeartbeats 2000000
namespace PL
open PySem PySem.Spec PyProof.Rows L2
theorem okOr_some {α β : Type} {o : Option α} {f : α → Option β} {b : β} (h : okOr o f = some b) : ∃ a, o = some a ∧ f a = some b := by
  cases o with
  | none => cases h
  | some a => exact ⟨a, rfl, h⟩
theorem res_eq {α : Type} {x r : α} {S S' : Sto} (h : some (x, S) = some (r, S')) : x = r ∧ S = S' := by
  injection h with h
  injection h with h1 h2
  exact ⟨h1, h2⟩
theorem okOr_eq {α β : Type} (a : α) (f : α → Option β) : okOr (some a) f = f a := rfl
/-- a test's reading -/
def tT (K : PySem.W.Frag) (ev : Loc → Sto → Option (Bool × Sto)) : TT := fun σ H Q => ∃ F G ρ S L b S', SOk K F G ρ S H ∧ LOk K G ρ L σ ∧ ev L S = some (b, S') ∧
  ∀ (G' : Hp) (ρ' : List Addr) (H' : Hp), Same G G' → ρ <+: ρ' → SOk K F G' ρ' S' H' → Q b H'
def tstE (ev : Ev) : Loc → Sto → Option (Bool × Sto) := fun L S => okOr (ev L S) fun (x, S1) => okOr (truth x S1) fun b => some (b, S1)
def tO (K : PySem.W.Frag) (ev : Loc → Sto → Option (Option Int × Sto)) : TO := fun σ H Q => ∃ F G ρ S L b S', SOk K F G ρ S H ∧ LOk K G ρ L σ ∧ ev L S = some (b, S') ∧
  ∀ (G' : Hp) (ρ' : List Addr) (H' : Hp), Same G G' → ρ <+: ρ' → SOk K F G' ρ' S' H' → Q b H'
theorem PO.weak {X : Cx} {e : Option Expr} {t t' : TO} (h : PO X e t) (q : ∀ σ H Q, t' σ H Q → t σ H Q) : PO X e t' := ⟨fun pins s σ H Q I w => h.run pins s σ H Q I (q σ H Q w)⟩
section
variable {X : Cx} {a b c : Expr} {ea eb ec : Ev} {pos : Pos}
theorem e_loc {i : Nat} {x : Str} (hN : X.N[i]? = some x) (hv : Vis X.env.scope x) (hd : (x == ("__debug__" : Str)) = false) (hcd : (x == ("__classdict__" : Str)) = false) :
    PE X (.Name x pos) (tE X.K fun L S => match L[i]? with
      | some (some r) => some (r, S)
      | _ => none) := by
  refine PE.weak (pe_var (i := i) hN hv hd hcd) fun σ H Q h => ?_
  obtain ⟨F, G, ρ, S, L, r, S', s, l, e, q⟩ := h
  dsimp only at e
  split at e
  · rename_i r' hr
    cases e
    obtain ⟨v, hv, rv⟩ := l.2 i _ hr
    exact ⟨v, hv, q.now s rv⟩
  · cases e
theorem e_const {v : V} {d : D} (h : PE X a (tC v)) (hd : ∀ G, DV X.K G v d) : PE X a (tE X.K fun _ S => some (.d d, S)) := by
  refine PE.weak h fun σ H Q h => ?_
  obtain ⟨F, G, ρ, S, L, r, S', s, l, e, q⟩ := h
  cases e
  exact q.now s (hd G)
theorem e_bin {op : Operator} (ha : PE X a (tE X.K ea)) (hb : PE X b (tE X.K eb)) : PE X (.BinOp a op b pos) (tE X.K fun L S => okOr (ea L S) fun (x, S1) => okOr (eb L S1) fun (y, S2) => okOr (gBin op) fun g => okOr (bin2 g x y S2) fun d => some (.d d, S2)) := by
  cases hg : gBin op with
  | none =>
    refine ⟨fun pins s σ H Q I h => ?_⟩
    obtain ⟨F, G, ρ, S, L, r, S', s, l, e, q⟩ := h
    obtain ⟨⟨x, S1⟩, e1, e⟩ := okOr_some e
    obtain ⟨⟨y, S2⟩, e2, e⟩ := okOr_some e
    obtain ⟨g', eg, e⟩ := okOr_some e
    cases eg
  | some g =>
    refine PE.weak (pe_op (o_bin hg) ha hb) fun σ H Q h => ?_
    obtain ⟨F, G, ρ, S, L, r, S', s, l, e, q⟩ := h
    obtain ⟨⟨x, S1⟩, e1, e⟩ := okOr_some e
    obtain ⟨⟨y, S2⟩, e2, e⟩ := okOr_some e
    obtain ⟨g', eg, e⟩ := okOr_some e
    cases eg
    obtain ⟨d, e3, e⟩ := okOr_some e
    obtain ⟨rfl, rfl⟩ := res_eq e
    refine ⟨F, G, ρ, S, L, x, S1, s, l, e1, fun G1 ρ1 H1 v1 g1 p1 s1 q1 => ⟨F, G1, ρ1, S1, L, y, S2, s1, lok_mono g1 p1 l, e2, fun G2 ρ2 H2 v2 g2 p2 s2 q2 => ?_⟩⟩
    simp only [bin2] at e3
    split at e3
    · rename_i dx dy hx hy
      exact ⟨F, G2, ρ2, S2, dx, dy, d, s2, view_ok s2 (rv_mono g2 p2 q1) hx, view_ok s2 q2 hy, e3, (q.mono (g1.trans g2) (p1.trans p2))⟩
    · cases e3
/-- the shared reading of a comparison -/
theorem cmp_read {K : PySem.W.Frag} {g : D → D → Option D} {σ : L2.St} {H : Hp} {Q : VK} (h : tE K (fun L S => okOr (ea L S) fun (x, S1) => okOr (eb L S1) fun (y, S2) => okOr (bin2 g x y S2) fun d => some (.d d, S2)) σ H Q) :
    tOp (t2 K g) (tE K ea) (tE K eb) σ H Q := by
  obtain ⟨F, G, ρ, S, L, r, S', s, l, e, q⟩ := h
  obtain ⟨⟨x, S1⟩, e1, e⟩ := okOr_some e
  obtain ⟨⟨y, S2⟩, e2, e⟩ := okOr_some e
  obtain ⟨d, e3, e⟩ := okOr_some e
  obtain ⟨rfl, rfl⟩ := res_eq e
  refine ⟨F, G, ρ, S, L, x, S1, s, l, e1, fun G1 ρ1 H1 v1 g1 p1 s1 q1 => ⟨F, G1, ρ1, S1, L, y, S2, s1, lok_mono g1 p1 l, e2, fun G2 ρ2 H2 v2 g2 p2 s2 q2 => ?_⟩⟩
  simp only [bin2] at e3
  split at e3
  · rename_i dx dy hx hy
    exact ⟨F, G2, ρ2, S2, dx, dy, d, s2, view_ok s2 (rv_mono g2 p2 q1) hx, view_ok s2 q2 hy, e3, (q.mono (g1.trans g2) (p1.trans p2))⟩
  · cases e3
theorem e_cmp {op : CmpOp} (hu : X.A.units + 64 < cLine) (ha : PE X a (tE X.K ea)) (hb : PE X b (tE X.K eb)) (hm : behindInMarks op b = false) :
    PE X (.Compare a [op] [b] pos) (tE X.K fun L S => okOr (ea L S) fun (x, S1) => okOr (eb L S1) fun (y, S2) => okOr (bin2 (gCmp op) x y S2) fun d => some (.d d, S2)) :=
  PE.weak (pe_cmpR (o_cmp hu op) ha hb hm) fun σ H Q h => cmp_read h
/-- a test that is an expression's truth, from a reading in which the value is a bool -/
theorem tst_bool {K : PySem.W.Frag} {ev : Ev} {t : TE} {σ : L2.St} {H : Hp} {Q : Bool → Hp → Prop} (hb : ∀ L S r S', ev L S = some (r, S') → ∃ b, r = .d (.bool b)) (h : tT K (tstE ev) σ H Q) : tE K ev σ H fun x H' => ∃ k, x = .bl k ∧ Q k H' := by
  obtain ⟨F, G, ρ, S, L, b, S', s, l, e, q⟩ := h
  obtain ⟨⟨x, S1⟩, e1, e⟩ := okOr_some e
  obtain ⟨k, e2, e⟩ := okOr_some e
  cases e
  obtain ⟨b', rfl⟩ := hb _ _ _ _ e1
  cases e2
  exact ⟨F, G, ρ, S, L, _, _, s, l, e1, fun G1 ρ1 H1 v1 g1 p1 s1 q1 => by cases q1; exact ⟨_, rfl, q G1 ρ1 H1 g1 p1 s1⟩⟩
theorem gCmp_bool {op : CmpOp} {x y d : D} (h : gCmp op x y = some d) : ∃ b, d = .bool b := by
  cases op <;> simp only [gCmp] at h
  · obtain ⟨_, rfl⟩ := some_if h; exact ⟨_, rfl⟩
  · obtain ⟨_, rfl⟩ := some_if h; exact ⟨_, rfl⟩
  · unfold gLt at h; split at h <;> first | (cases h; exact ⟨_, rfl⟩) | cases h
  · unfold gLe at h; split at h <;> first | (cases h; exact ⟨_, rfl⟩) | cases h
  · unfold gGt at h; split at h <;> first | (cases h; exact ⟨_, rfl⟩) | cases h
  · unfold gGe at h; split at h <;> first | (cases h; exact ⟨_, rfl⟩) | cases h
  · unfold gIs at h; split at h <;> first | (cases h; exact ⟨_, rfl⟩) | cases h
  · unfold gIsNot at h; split at h <;> first | (cases h; exact ⟨_, rfl⟩) | cases h
  · obtain ⟨b, _, rfl⟩ := Option.map_eq_some_iff.mp h; exact ⟨_, rfl⟩
  · obtain ⟨b, _, rfl⟩ := Option.map_eq_some_iff.mp h; exact ⟨_, rfl⟩
theorem bin2_some {g : D → D → Option D} {x y : R} {S : Sto} {d : D} (h : bin2 g x y S = some d) : ∃ a b, view x S = some a ∧ view y S = some b ∧ g a b = some d := by
  simp only [bin2] at h
  split at h
  · exact ⟨_, _, by assumption, by assumption, h⟩
  · cases h
theorem un1_some {g : D → Option D} {x : R} {S : Sto} {d : D} (h : un1 g x S = some d) : ∃ a, view x S = some a ∧ g a = some d := by
  simp only [un1] at h
  split at h
  · exact ⟨_, by assumption, h⟩
  · cases h
theorem p_cmp {op : CmpOp} (hu : X.A.units + 64 < cLine) (ha : PE X a (tE X.K ea)) (hb : PE X b (tE X.K eb)) (hm : behindInMarks op b = false) :
    PT X (.Compare a [op] [b] pos) (tT X.K (tstE fun L S => okOr (ea L S) fun (x, S1) => okOr (eb L S1) fun (y, S2) => okOr (bin2 (gCmp op) x y S2) fun d => some (.d d, S2))) :=
  PT.weak (pt_cmpR (o_cmp hu op) ha hb hm) fun σ H Q h => cmp_read (tst_bool (t := fun _ _ _ => True) (fun L S r S' e => by
    obtain ⟨⟨x, S1⟩, _, e⟩ := okOr_some e
    obtain ⟨⟨y, S2⟩, _, e⟩ := okOr_some e
    obtain ⟨d, e3, e⟩ := okOr_some e
    obtain ⟨_, _, _, _, e3⟩ := bin2_some e3
    obtain ⟨b, rfl⟩ := gCmp_bool e3
    cases e
    exact ⟨b, rfl⟩) h)
abbrev ev2 (o p : CmpOp) (ea eb ec : Ev) : Ev := fun L S => okOr (ea L S) fun (x, S1) => okOr (eb L S1) fun (y, S2) => okOr (bin2 (gCmp o) x y S2) fun d => match d with
    | .bool true => okOr (ec L S2) fun (z, S3) => okOr (bin2 (gCmp p) y z S3) fun d => some (.d d, S3)
    | .bool false => some (.d (.bool false), S2)
    | _ => none
theorem chain_read {K : PySem.W.Frag} {o p : CmpOp} {σ : L2.St} {H : Hp} {Q : VK} (h : tE K (ev2 o p ea eb ec) σ H Q) : tChain (t2 K (gCmp o)) (t2 K (gCmp p)) (tE K ea) (tE K eb) (tE K ec) σ H Q := by
  obtain ⟨F, G, ρ, S, L, r, S', s, l, e, q⟩ := h
  obtain ⟨⟨x, S1⟩, e1, e⟩ := okOr_some e
  obtain ⟨⟨y, S2⟩, e2, e⟩ := okOr_some e
  obtain ⟨d, e3, e⟩ := okOr_some e
  obtain ⟨dx, dy, hx, hy, e3⟩ := bin2_some e3
  obtain ⟨k, rfl⟩ := gCmp_bool e3
  refine ⟨F, G, ρ, S, L, x, S1, s, l, e1, fun G1 ρ1 H1 v1 g1 p1 s1 q1 => ⟨F, G1, ρ1, S1, L, y, S2, s1, lok_mono g1 p1 l, e2, fun G2 ρ2 H2 v2 g2 p2 s2 q2 => ?_⟩⟩
  refine ⟨F, G2, ρ2, S2, dx, dy, _, s2, view_ok s2 (rv_mono g2 p2 q1) hx, view_ok s2 q2 hy, e3, fun G3 ρ3 H3 v3 g3 p3 s3 q3 => ?_⟩
  cases q3
  refine ⟨k, rfl, ?_⟩
  cases k with
  | false =>
    cases e
    rw [if_neg Bool.false_ne_true]
    exact (q.mono (g1.trans (g2.trans g3)) (p1.trans (p2.trans p3))).bl s3
  | true =>
    rw [if_pos rfl]
    obtain ⟨⟨z, S3⟩, e4, e⟩ := okOr_some e
    obtain ⟨d, e5, e⟩ := okOr_some e
    obtain ⟨rfl, rfl⟩ := res_eq e
    obtain ⟨dy', dz, hy', hz, e5⟩ := bin2_some e5
    refine ⟨F, G3, ρ3, S2, L, z, S3, s3, lok_mono (g1.trans (g2.trans g3)) (p1.trans (p2.trans p3)) l, e4, fun G4 ρ4 H4 v4 g4 p4 s4 q4 => ?_⟩
    exact ⟨F, G4, ρ4, S3, dy', dz, d, s4, view_ok s4 (rv_mono (g3.trans g4) (p3.trans p4) q2) hy', view_ok s4 q4 hz, e5, q.mono (g1.trans (g2.trans (g3.trans g4))) (p1.trans (p2.trans (p3.trans p4)))⟩
end
end PL
end
section
set_option maxHeartbeats 2000000
namespace PL
open PySem PySem.Spec PyProof.Rows L2
section
variable {X : Cx} {a b c : Expr} {ea eb ec : Ev} {pos : Pos}
theorem e_cmp2 {o p : CmpOp} (hu : X.A.units + 64 < cLine) (ha : PE X a (tE X.K ea)) (hb : PE X b (tE X.K eb)) (hc : PE X c (tE X.K ec)) (hm : lastMarks [o, p] [b, c] = false) :
    PE X (.Compare a [o, p] [b, c] pos) (tE X.K (ev2 o p ea eb ec)) := PE.weak (pe_chain (o_cmp hu o) (o_cmp hu p) ha hb hc hm) fun σ H Q h => chain_read h
theorem p_cmp2 {o p : CmpOp} (hu : X.A.units + 64 < cLine) (ha : PE X a (tE X.K ea)) (hb : PE X b (tE X.K eb)) (hc : PE X c (tE X.K ec)) (hm : lastMarks [o, p] [b, c] = false) :
    PT X (.Compare a [o, p] [b, c] pos) (tT X.K (tstE (ev2 o p ea eb ec))) := by
  refine PT.weak (pt_chain (o_cmp hu o) (o_cmp hu p) ha hb hc hm) fun σ H Q h => chain_read (tst_bool (t := fun _ _ _ => True) (fun L S r S' e => ?_) h)
  obtain ⟨⟨x, S1⟩, _, e⟩ := okOr_some e
  obtain ⟨⟨y, S2⟩, _, e⟩ := okOr_some e
  obtain ⟨d, e3, e⟩ := okOr_some e
  obtain ⟨_, _, _, _, e3⟩ := bin2_some e3
  obtain ⟨k, rfl⟩ := gCmp_bool e3
  cases k with
  | false => cases e; exact ⟨false, rfl⟩
  | true =>
    obtain ⟨⟨z, S3⟩, _, e⟩ := okOr_some e
    obtain ⟨d, e5, e⟩ := okOr_some e
    obtain ⟨_, _, _, _, e5⟩ := bin2_some e5
    obtain ⟨k, rfl⟩ := gCmp_bool e5
    cases e; exact ⟨k, rfl⟩
/-- truth of a value -/
theorem truth_read {K : PySem.W.Frag} {σ : L2.St} {H : Hp} {Q : Bool → Hp → Prop} (h : tT K (tstE ea) σ H Q) : tE K ea σ H fun x H' => ∃ k, TruV K x H' k ∧ Q k H' := by
  obtain ⟨F, G, ρ, S, L, b, S', s, l, e, q⟩ := h
  obtain ⟨⟨x, S1⟩, e1, e⟩ := okOr_some e
  obtain ⟨k, e2, e⟩ := okOr_some e
  obtain ⟨rfl, rfl⟩ := res_eq e
  exact ⟨F, G, ρ, S, L, x, S1, s, l, e1, fun G1 ρ1 H1 v1 g1 p1 s1 q1 => ⟨k, truth_ok s1 q1 e2, q G1 ρ1 H1 g1 p1 s1⟩⟩
theorem p_val (ha : PE X a (tE X.K ea)) (hw : ∀ whole, isTrue a X.env whole = (do let v ← whole; standAt a.pos; holding [v] (truthy v))) : PT X a (tT X.K (tstE ea)) :=
  PT.weak (pt_truth ha hw) fun σ H Q h => truth_read h
abbrev evNot (ea : Ev) : Ev := fun L S => okOr (ea L S) fun (x, S1) => okOr (truth x S1) fun b => some (.d (.bool (!b)), S1)
theorem e_not (ha : PE X a (tE X.K ea)) : PE X (.UnaryOp .Not a pos) (tE X.K (evNot ea)) := by
  refine PE.weak (pe_notT ha) fun σ H Q h => ?_
  obtain ⟨F, G, ρ, S, L, b, S', s, l, e, q⟩ := h
  obtain ⟨⟨x, S1⟩, e1, e⟩ := okOr_some e
  obtain ⟨k, e2, e⟩ := okOr_some e
  obtain ⟨rfl, rfl⟩ := res_eq e
  exact ⟨F, G, ρ, S, L, x, S1, s, l, e1, fun G1 ρ1 H1 v1 g1 p1 s1 q1 => ⟨k, truth_ok s1 q1 e2, (q.mono g1 p1).bl s1⟩⟩
theorem p_not (ha : PT X a (tT X.K (tstE ea))) : PT X (.UnaryOp .Not a pos) (tT X.K (tstE (evNot ea))) := by
  refine PT.weak (pt_not ha) fun σ H Q h => ?_
  obtain ⟨F, G, ρ, S, L, b, S', s, l, e, q⟩ := h
  obtain ⟨⟨x, S1⟩, e1, e⟩ := okOr_some e
  obtain ⟨k, e2, e⟩ := okOr_some e
  obtain ⟨rfl, rfl⟩ := res_eq e
  obtain ⟨⟨y, S2⟩, e3, e1⟩ := okOr_some e1
  obtain ⟨k', e4, e1⟩ := okOr_some e1
  obtain ⟨rfl, rfl⟩ := res_eq e1
  cases e2
  refine ⟨F, G, ρ, S, L, k', S2, s, l, ?_, fun G1 ρ1 H1 g1 p1 s1 => q G1 ρ1 H1 g1 p1 s1⟩
  show okOr (ea L S) _ = _
  rw [e3]
  show okOr (truth y S2) _ = _
  rw [e4]; rfl
theorem e_neg (ha : PE X a (tE X.K ea)) : PE X (.UnaryOp .USub a pos) (tE X.K fun L S => okOr (ea L S) fun (x, S1) => okOr (un1 gNeg x S1) fun d => some (.d d, S1)) := by
  refine PE.weak (pe_un u_neg ha) fun σ H Q h => ?_
  obtain ⟨F, G, ρ, S, L, b, S', s, l, e, q⟩ := h
  obtain ⟨⟨x, S1⟩, e1, e⟩ := okOr_some e
  obtain ⟨d, e2, e⟩ := okOr_some e
  obtain ⟨rfl, rfl⟩ := res_eq e
  obtain ⟨dx, hx, e2⟩ := un1_some e2
  exact ⟨F, G, ρ, S, L, x, S1, s, l, e1, fun G1 ρ1 H1 v1 g1 p1 s1 q1 => ⟨F, G1, ρ1, S1, dx, d, s1, view_ok s1 q1 hx, e2, q.mono g1 p1⟩⟩
abbrev evIte (ec ea eb : Ev) : Ev := fun L S => okOr (ec L S) fun (x, S1) => okOr (truth x S1) fun k => match k with
    | true => ea L S1
    | false => eb L S1
theorem tst_of {L : Loc} {S S1 : Sto} {x : R} {k : Bool} (e1 : ec L S = some (x, S1)) (e2 : truth x S1 = some k) : tstE ec L S = some (k, S1) := by
  show okOr (ec L S) _ = _
  rw [e1]
  show okOr (truth x S1) _ = _
  rw [e2]; rfl
theorem e_ite (hc : PT X c (tT X.K (tstE ec))) (ha : PE X a (tE X.K ea)) (hb : PE X b (tE X.K eb)) : PE X (.IfExp c a b pos) (tE X.K (evIte ec ea eb)) := by
  refine PE.weak (pe_ifExp hc ha hb) fun σ H Q h => ?_
  obtain ⟨F, G, ρ, S, L, r, S', s, l, e, q⟩ := h
  obtain ⟨⟨x, S1⟩, e1, e⟩ := okOr_some e
  obtain ⟨k, e2, e⟩ := okOr_some e
  refine ⟨F, G, ρ, S, L, k, S1, s, l, tst_of e1 e2, fun G1 ρ1 H1 g1 p1 s1 => ?_⟩
  cases k with
  | true => rw [if_pos rfl]; exact ⟨F, G1, ρ1, S1, L, r, S', s1, lok_mono g1 p1 l, e, q.mono g1 p1⟩
  | false => rw [if_neg Bool.false_ne_true]; exact ⟨F, G1, ρ1, S1, L, r, S', s1, lok_mono g1 p1 l, e, q.mono g1 p1⟩
theorem pt_ifE {tc ta tb : TT} (hc : PT X c tc) (ha : PT X a ta) (hb : PT X b tb) : PT X (.IfExp c a b pos) (fun σ H Q => tc σ H fun k H1 => if k = true then ta σ H1 Q else tb σ H1 Q) := by
  refine ⟨fun pins s0 σ H Q I h => ?_⟩
  show wpAny _ _ (PySem.isTrue c X.env (eval c X.env) >>= fun t => if t = true then PySem.isTrue a X.env (eval a X.env) else PySem.isTrue b X.env (eval b X.env)) _ _ s0
  refine wpAny_bind (thn (hc.run pins s0 σ H (fun k H1 => if k = true then ta σ H1 Q else tb σ H1 Q) I h) fun t s1 ⟨H1, I1, q1⟩ => ?_)
  cases t with
  | true => exact ha.run pins s1 σ H1 Q I1 q1
  | false => exact hb.run pins s1 σ H1 Q I1 q1
theorem p_ite (hc : PT X c (tT X.K (tstE ec))) (ha : PT X a (tT X.K (tstE ea))) (hb : PT X b (tT X.K (tstE eb))) : PT X (.IfExp c a b pos) (tT X.K (tstE (evIte ec ea eb))) := by
  refine PT.weak (pt_ifE hc ha hb) fun σ H Q h => ?_
  obtain ⟨F, G, ρ, S, L, r, S', s, l, e, q⟩ := h
  obtain ⟨⟨y, S2⟩, e0, e⟩ := okOr_some e
  obtain ⟨k2, e3, e⟩ := okOr_some e
  obtain ⟨rfl, rfl⟩ := res_eq e
  obtain ⟨⟨x, S1⟩, e1, e0⟩ := okOr_some e0
  obtain ⟨k, e2, e0⟩ := okOr_some e0
  refine ⟨F, G, ρ, S, L, k, S1, s, l, tst_of e1 e2, fun G1 ρ1 H1 g1 p1 s1 => ?_⟩
  cases k with
  | true => rw [if_pos rfl]; exact ⟨F, G1, ρ1, S1, L, k2, S2, s1, lok_mono g1 p1 l, tst_of e0 e3, fun G2 ρ2 H2 g2 p2 s2 => q G2 ρ2 H2 (g1.trans g2) (p1.trans p2) s2⟩
  | false => rw [if_neg Bool.false_ne_true]; exact ⟨F, G1, ρ1, S1, L, k2, S2, s1, lok_mono g1 p1 l, tst_of e0 e3, fun G2 ρ2 H2 g2 p2 s2 => q G2 ρ2 H2 (g1.trans g2) (p1.trans p2) s2⟩
/-! ### and, or -/
/-- how the rest of an and (or) goes on, from the value that stands -/
abbrev EvB := R → Loc → Sto → Option (R × Sto)
abbrev evBop (k : Bool) (ea : Ev) (r : EvB) : Ev := fun L S => okOr (ea L S) fun (x, S1) => r x L S1
abbrev nilB : EvB := fun x _ S => some (x, S)
abbrev consB (k : Bool) (e : Ev) (r : EvB) : EvB := fun x L S => okOr (truth x S) fun b => if b = k then okOr (e L S) fun (y, S1) => r y L S1 else some (x, S)
variable {rest : List Expr} {r : EvB}
theorem e_bop1 {op : BoolOp} {k : Bool} (ha : PE X a (tE X.K ea)) : PE X (.BoolOp op [a] pos) (tE X.K (evBop k ea nilB)) := by
  refine PE.weak (pe_one ha) fun σ H Q h => ?_
  obtain ⟨F, G, ρ, S, L, r, S', s, l, e, q⟩ := h
  obtain ⟨⟨x, S1⟩, e1, e⟩ := okOr_some e
  obtain ⟨rfl, rfl⟩ := res_eq e
  exact ⟨F, G, ρ, S, L, x, S1, s, l, e1, q⟩
theorem e_and (ha : PE X a (tE X.K ea)) (hb : PE X (.BoolOp .And (b :: rest) pos) (tE X.K (evBop true eb r))) : PE X (.BoolOp .And (a :: b :: rest) pos) (tE X.K (evBop true ea (consB true eb r))) := by
  refine PE.weak (pe_andT ha hb) fun σ H Q h => ?_
  obtain ⟨F, G, ρ, S, L, r', S', s, l, e, q⟩ := h
  obtain ⟨⟨x, S1⟩, e1, e⟩ := okOr_some e
  obtain ⟨k, e2, e⟩ := okOr_some e
  refine ⟨F, G, ρ, S, L, x, S1, s, l, e1, fun G1 ρ1 H1 v1 g1 p1 s1 q1 => ⟨k, truth_ok s1 q1 e2, ?_⟩⟩
  cases k with
  | true => rw [if_pos rfl] at e ⊢; exact ⟨F, G1, ρ1, S1, L, r', S', s1, lok_mono g1 p1 l, e, q.mono g1 p1⟩
  | false =>
    rw [if_neg Bool.false_ne_true] at e ⊢
    obtain ⟨rfl, rfl⟩ := res_eq e
    exact q G1 ρ1 H1 v1 g1 p1 s1 q1
theorem e_or (ha : PE X a (tE X.K ea)) (hb : PE X (.BoolOp .Or (b :: rest) pos) (tE X.K (evBop false eb r))) : PE X (.BoolOp .Or (a :: b :: rest) pos) (tE X.K (evBop false ea (consB false eb r))) := by
  refine PE.weak (pe_orT ha hb) fun σ H Q h => ?_
  obtain ⟨F, G, ρ, S, L, r', S', s, l, e, q⟩ := h
  obtain ⟨⟨x, S1⟩, e1, e⟩ := okOr_some e
  obtain ⟨k, e2, e⟩ := okOr_some e
  refine ⟨F, G, ρ, S, L, x, S1, s, l, e1, fun G1 ρ1 H1 v1 g1 p1 s1 q1 => ⟨k, truth_ok s1 q1 e2, ?_⟩⟩
  cases k with
  | false => rw [if_pos rfl] at e; rw [if_neg Bool.false_ne_true]; exact ⟨F, G1, ρ1, S1, L, r', S', s1, lok_mono g1 p1 l, e, q.mono g1 p1⟩
  | true =>
    rw [if_neg (by decide)] at e
    rw [if_pos rfl]
    obtain ⟨rfl, rfl⟩ := res_eq e
    exact q G1 ρ1 H1 v1 g1 p1 s1 q1
theorem p_and1 {k : Bool} (ha : PT X a (tT X.K (tstE ea))) : PW X (.BoolOp .And [a] pos) (tT X.K (tstE (evBop k ea nilB))) := by
  refine ⟨fun wh pins s σ H Q I h => (pw_and1 ha).run wh pins s σ H Q I ?_⟩
  obtain ⟨F, G, ρ, S, L, r, S', s, l, e, q⟩ := h
  obtain ⟨⟨x, S1⟩, e1, e⟩ := okOr_some e
  obtain ⟨b, e2, e⟩ := okOr_some e
  obtain ⟨rfl, rfl⟩ := res_eq e
  obtain ⟨⟨x', S1'⟩, e1', e0⟩ := okOr_some e1
  obtain ⟨rfl, rfl⟩ := res_eq e0
  exact ⟨F, G, ρ, S, L, _, _, s, l, tst_of e1' e2, q⟩
theorem p_or1 {k : Bool} (ha : PT X a (tT X.K (tstE ea))) : PW X (.BoolOp .Or [a] pos) (tT X.K (tstE (evBop k ea nilB))) := by
  refine ⟨fun wh pins s σ H Q I h => (pw_or1 ha).run wh pins s σ H Q I ?_⟩
  obtain ⟨F, G, ρ, S, L, r, S', s, l, e, q⟩ := h
  obtain ⟨⟨x, S1⟩, e1, e⟩ := okOr_some e
  obtain ⟨b, e2, e⟩ := okOr_some e
  obtain ⟨rfl, rfl⟩ := res_eq e
  obtain ⟨⟨x', S1'⟩, e1', e0⟩ := okOr_some e1
  obtain ⟨rfl, rfl⟩ := res_eq e0
  exact ⟨F, G, ρ, S, L, _, _, s, l, tst_of e1' e2, q⟩
theorem p_and (ha : PT X a (tT X.K (tstE ea))) (hb : PW X (.BoolOp .And (b :: rest) pos) (tT X.K (tstE (evBop true eb r)))) : PW X (.BoolOp .And (a :: b :: rest) pos) (tT X.K (tstE (evBop true ea (consB true eb r)))) := by
  refine ⟨fun wh pins s σ H Q I h => (pw_and ha hb).run wh pins s σ H Q I ?_⟩
  obtain ⟨F, G, ρ, S, L, r', S', s, l, e, q⟩ := h
  obtain ⟨⟨y, S2⟩, e0, e⟩ := okOr_some e
  obtain ⟨k2, e3, e⟩ := okOr_some e
  obtain ⟨rfl, rfl⟩ := res_eq e
  obtain ⟨⟨x, S1⟩, e1, e0⟩ := okOr_some e0
  obtain ⟨k, e2, e0⟩ := okOr_some e0
  refine ⟨F, G, ρ, S, L, k, S1, s, l, tst_of e1 e2, fun G1 ρ1 H1 g1 p1 s1 => ?_⟩
  cases k with
  | true => rw [if_pos rfl] at e0 ⊢; exact ⟨F, G1, ρ1, S1, L, k2, S2, s1, lok_mono g1 p1 l, tst_of (ec := evBop true eb r) e0 e3, fun G2 ρ2 H2 g2 p2 s2 => q G2 ρ2 H2 (g1.trans g2) (p1.trans p2) s2⟩
  | false =>
    rw [if_neg Bool.false_ne_true] at e0 ⊢
    obtain ⟨rfl, rfl⟩ := res_eq e0
    rw [e2] at e3; cases e3
    exact q G1 ρ1 H1 g1 p1 s1
theorem p_or (ha : PT X a (tT X.K (tstE ea))) (hb : PW X (.BoolOp .Or (b :: rest) pos) (tT X.K (tstE (evBop false eb r)))) : PW X (.BoolOp .Or (a :: b :: rest) pos) (tT X.K (tstE (evBop false ea (consB false eb r)))) := by
  refine ⟨fun wh pins s σ H Q I h => (pw_or ha hb).run wh pins s σ H Q I ?_⟩
  obtain ⟨F, G, ρ, S, L, r', S', s, l, e, q⟩ := h
  obtain ⟨⟨y, S2⟩, e0, e⟩ := okOr_some e
  obtain ⟨k2, e3, e⟩ := okOr_some e
  obtain ⟨rfl, rfl⟩ := res_eq e
  obtain ⟨⟨x, S1⟩, e1, e0⟩ := okOr_some e0
  obtain ⟨k, e2, e0⟩ := okOr_some e0
  refine ⟨F, G, ρ, S, L, k, S1, s, l, tst_of e1 e2, fun G1 ρ1 H1 g1 p1 s1 => ?_⟩
  cases k with
  | false => rw [if_pos rfl] at e0; rw [if_neg Bool.false_ne_true]; exact ⟨F, G1, ρ1, S1, L, k2, S2, s1, lok_mono g1 p1 l, tst_of (ec := evBop false eb r) e0 e3, fun G2 ρ2 H2 g2 p2 s2 => q G2 ρ2 H2 (g1.trans g2) (p1.trans p2) s2⟩
  | true =>
    rw [if_neg (by decide)] at e0
    rw [if_pos rfl]
    obtain ⟨rfl, rfl⟩ := res_eq e0
    rw [e2] at e3; cases e3
    exact q G1 ρ1 H1 g1 p1 s1
/-! ### argument lists, displays -/
variable {es : List Expr} {eas : Evs}
theorem a_nil : PA X [] (tA X.K fun _ S => some ([], S)) := by
  refine PA.weak pa_nil fun σ H Q h => ?_
  obtain ⟨F, G, ρ, S, L, rs, S', s, l, e, q⟩ := h
  cases e
  exact q G ρ H [] (Same.refl _) (List.prefix_refl _) s .nil
theorem a_cons (ha : PE X a (tE X.K ea)) (hr : PA X es (tA X.K eas)) (hs : starEach (a :: es) X.env = (false, eval a X.env) :: starEach es X.env) :
    PA X (a :: es) (tA X.K fun L S => okOr (ea L S) fun (x, S1) => okOr (eas L S1) fun (xs, S2) => some (x :: xs, S2)) := by
  refine PA.weak (pa_cons ha hr hs) fun σ H Q h => ?_
  obtain ⟨F, G, ρ, S, L, rs, S', s, l, e, q⟩ := h
  obtain ⟨⟨x, S1⟩, e1, e⟩ := okOr_some e
  obtain ⟨⟨xs, S2⟩, e2, e⟩ := okOr_some e
  obtain ⟨rfl, rfl⟩ := res_eq e
  exact ⟨F, G, ρ, S, L, x, S1, s, l, e1, fun G1 ρ1 H1 v1 g1 p1 s1 q1 => ⟨F, G1, ρ1, S1, L, xs, S2, s1, lok_mono g1 p1 l, e2, fun G2 ρ2 H2 vs g2 p2 s2 q2 =>
    q G2 ρ2 H2 _ (g1.trans g2) (p1.trans p2) s2 (.cons (rv_mono g2 p2 q1) q2)⟩⟩
theorem rvs_dvs {K : PySem.W.Frag} {G : Hp} {ρ : List Addr} : ∀ {rs : List R} {vs : List V} {ds : List D}, RVs K G ρ rs vs → asDs rs = some ds → DVs K G vs ds
  | _, _, _, .nil, e => by cases e; exact .nil
  | .d x :: rs, _, ds, .cons h t, e => by
    have e : (asDs rs).map (x :: ·) = some ds := e
    obtain ⟨es, ee, rfl⟩ := Option.map_eq_some_iff.mp e
    exact .cons h (rvs_dvs t ee)
  | .ref n :: rs, _, _, .cons h t, e => by cases e
  | .scr n :: rs, _, _, .cons h t, e => by cases e
theorem e_tup {k : Nat} (h : PA X es (tA X.K eas)) : PE X (.Tuple es k pos) (tE X.K fun L S => okOr (eas L S) fun (rs, S1) => okOr (asDs rs) fun ds => if ds.length ≤ sizeLine then some (.d (.tuple ds), S1) else none) := by
  refine PE.weak (pe_tup h) fun σ H Q h => ?_
  obtain ⟨F, G, ρ, S, L, r, S', s, l, e, q⟩ := h
  obtain ⟨⟨rs, S1⟩, e1, e⟩ := okOr_some e
  obtain ⟨ds, e2, e⟩ := okOr_some e
  obtain ⟨c, e⟩ := some_if e
  obtain ⟨rfl, rfl⟩ := res_eq (congrArg some e)
  refine ⟨F, G, ρ, S, L, rs, S1, s, l, e1, fun G1 ρ1 H1 vs g1 p1 s1 q1 => ?_⟩
  have hd := rvs_dvs q1 e2
  exact ⟨by rw [dvs_len hd]; exact c, (q.mono g1 p1).tup s1 hd⟩
theorem e_lst (h : PA X es (tA X.K eas)) : PE X (.List es pos) (tE X.K fun L S => okOr (eas L S) fun (rs, S1) => okOr (asDs rs) fun ds => if ds.length ≤ sizeLine then some (.d (.list ds), S1) else none) := by
  refine PE.weak (pe_lst h) fun σ H Q h => ?_
  obtain ⟨F, G, ρ, S, L, r, S', s, l, e, q⟩ := h
  obtain ⟨⟨rs, S1⟩, e1, e⟩ := okOr_some e
  obtain ⟨ds, e2, e⟩ := okOr_some e
  obtain ⟨c, e⟩ := some_if e
  obtain ⟨rfl, rfl⟩ := res_eq (congrArg some e)
  refine ⟨F, G, ρ, S, L, rs, S1, s, l, e1, fun G1 ρ1 H1 vs g1 p1 s1 q1 => ?_⟩
  have hd := rvs_dvs q1 e2
  exact ⟨by rw [dvs_len hd]; exact c, (q.mono g1 p1).lst s1 hd⟩
theorem e_lstR (h : PA X es (tA X.K eas)) : PE X (.List es pos) (tE X.K fun L S => okOr (eas L S) fun (rs, S1) => okOr (asDs rs) fun ds => if ds.length ≤ sizeLine then some (.ref S1.length, S1 ++ [.lst ds]) else none) := by
  refine PE.weak (pe_lst h) fun σ H Q h => ?_
  obtain ⟨F, G, ρ, S, L, r, S', s, l, e, q⟩ := h
  obtain ⟨⟨rs, S1⟩, e1, e⟩ := okOr_some e
  obtain ⟨ds, e2, e⟩ := okOr_some e
  obtain ⟨c, e⟩ := some_if e
  obtain ⟨rfl, rfl⟩ := res_eq (congrArg some e)
  refine ⟨F, G, ρ, S, L, rs, S1, s, l, e1, fun G1 ρ1 H1 vs g1 p1 s1 q1 => ?_⟩
  have hd := rvs_dvs q1 e2
  exact ⟨by rw [dvs_len hd]; exact c, (q.mono g1 p1).rnew s1 ⟨vs, rfl, hd⟩⟩
theorem e_dic0 : PE X (.Dict [] [] pos) (tE X.K fun _ S => some (.ref S.length, S ++ [.dic []])) := by
  refine PE.weak pe_dnewK fun σ H Q h => ?_
  obtain ⟨F, G, ρ, S, L, r, S', s, l, e, q⟩ := h
  obtain ⟨rfl, rfl⟩ := res_eq e
  exact q.rnew s ⟨[], rfl, .nil⟩
end
end PL
end
section
set_option maxHeartbeats 2000000
namespace HT
open PySem PySem.Spec PyProof.Rows
section
variable {prog : Program} {w : World} {A : Around} {E : Value → Shared → Prop} {s : Shared}
theorem adjust_rev (n : Nat) : Builtin.Slice.sliceAdjust none none (-1) (n : Int) = ((n : Int) - 1, -1) := by
  have h1 : ((-1 : Int) < 0) := by omega
  unfold Builtin.Slice.sliceAdjust
  simp only [h1, if_true]
theorem places_rev (n : Nat) : Builtin.Slice.slicePlaces ((n : Int) - 1) (-1) (-1) = n := by
  unfold Builtin.Slice.slicePlaces
  have h1 : ¬ ((-1 : Int) > 0) := by omega
  have h2 : (- -1 : Int) = 1 := by omega
  simp only [h1, if_false, h2, Int.ediv_one]
  split <;> omega
theorem sliceApplied_rev {sl : Addr} {vs : Value} {n : Nat} {Q : Int × Int × Nat → Shared → Prop} (hs : s.heap.IsSliceOf sl .none .none vs) (ps : IsPart vs (some (-1)))
    (h : Q ((n : Int) - 1, -1, n) s) : wpAny (model prog w) A (Builtin.Slice.sliceApplied (.ref sl) (pure (n : Int))) Q E s := by
  obtain ⟨os, hos, hcs, hds⟩ := id hs
  unfold Builtin.Slice.sliceApplied Builtin.Slice.sliceFields
  refine wpAny_bind (wpAny_bind (wpAny_field hos hds (x := .none) rfl (wpAny_bind (wpAny_field hos hds (x := .none) rfl (wpAny_bind (wpAny_field hos hds (x := vs) rfl (wpAny_pure ?_)))))))
  refine wpAny_bind (slicePart_ ps ?_)
  show wpAny _ _ (if ((-1 : Int) == 0) = true then _ else _) _ _ s
  rw [if_neg (by decide)]
  refine wpAny_bind (slicePart_none (wpAny_bind (slicePart_none (wpAny_bind (wpAny_pure ?_)))))
  show wpAny _ _ (match Builtin.Slice.sliceAdjust none none (-1) (n : Int) with | (lo, hi) => pure (lo, (-1 : Int), Builtin.Slice.slicePlaces lo hi (-1))) _ _ s
  rw [adjust_rev n]
  show wpAny _ _ (pure ((n : Int) - 1, (-1 : Int), Builtin.Slice.slicePlaces ((n : Int) - 1) (-1) (-1))) _ _ s
  rw [places_rev]
  exact wpAny_pure h
theorem filtM_congr {α β : Type} {f g : α → Option β} : ∀ {l : List α}, (∀ x ∈ l, f x = g x) → l.filterMap f = l.filterMap g
  | [], _ => rfl
  | x :: l, h => by
    rw [List.filterMap_cons, List.filterMap_cons, h x List.mem_cons_self, filtM_congr fun y hy => h y (List.mem_cons_of_mem _ hy)]
theorem pick_rev (xs : Array Value) : ((List.range xs.size).filterMap fun (m : Nat) => xs[(((xs.size : Nat) : Int) - 1 + (m : Int) * -1).toNat]?).toArray = xs.toList.reverse.toArray := by
  have e : ((List.range xs.size).filterMap fun (m : Nat) => xs[(((xs.size : Nat) : Int) - 1 + (m : Int) * -1).toNat]?) = ((List.range xs.size).map fun k => xs.size - 1 - k).filterMap (xs[·]?) := by
    rw [List.filterMap_map]
    have : ∀ m ∈ List.range xs.size, xs[(((xs.size : Nat) : Int) - 1 + (m : Int) * -1).toNat]? = ((fun x => xs[x]?) ∘ fun k => xs.size - 1 - k) m := fun m hm => by
      have := List.mem_range.mp hm
      have q : (((xs.size : Nat) : Int) - 1 + (m : Int) * -1).toNat = xs.size - 1 - m := by omega
      rw [q]; rfl
    exact filtM_congr this
  rw [e, PySem.W.krv_range, List.filterMap_reverse, PySem.W.krv_all]
theorem getItem_tuple_rev {t sl : Addr} {items : Array Value} {vs : Value} {Q : Value → Shared → Prop} (ht : IsTup s.heap t items) (hs : s.heap.IsSliceOf sl .none .none vs) (ps : IsPart vs (some (-1)))
    (h : Q (.ref s.heap.objs.size) { s with heap := s.heap.push { cls := .type "tuple", data := .seq items.toList.reverse.toArray } })
    (hsz : items.size ≤ sizeLine) : wpAny (model prog w) A (getItem (.ref t) (.ref sl)) Q E s := by
  have htake : sizeOk (.seq items.toList.reverse.toArray) := by
    show items.toList.reverse.toArray.size ≤ sizeLine
    rw [List.size_toArray, List.length_reverse, Array.length_toList]
    omega
  obtain ⟨os, hos, hcs, hds⟩ := id hs
  have hTs : s.TypeIs (.ref sl) "slice" := ⟨os, hos, hcs⟩
  unfold getItem
  try with_reducible refine wpAny_holding ?_
  first | refine wpAny_bind (wpAny_pure ?_) | skip
  refine wpAny_bind (wpAny_sequenceKey ht.typeIs (by decide) ?_)
  refine wpAny_bind (wpAny_callSpecial?_slot (name := Str.ofString "__getitem__") ht.typeIs PyProof.Rows.slot_tuple_getitem
    (wpAny_call_entry PyProof.Rows.slot_tuple_getitem ht.typeIs entry_tuple_getitem ?_ (args_tuple_getitem _ _)))
  show wpAny _ _ (Builtin.Tuple.tupleItemsOf (.ref t) >>= _) _ _ s
  refine wpAny_bind (tupleItemsOf_ ht ?_)
  refine wpAny_bind (wpAny_typeOf hTs ?_)
  rw [if_pos (by decide)]
  refine wpAny_bind (sliceApplied_rev hs ps ?_)
  have hno : ¬ ((((items.size : Nat) : Int) - 1 == 0 && (-1 : Int) == 1 && items.size == items.size) = true) := by
    intro q
    rw [Bool.and_eq_true, Bool.and_eq_true] at q
    exact absurd q.1.2 (by decide)
  show wpAny _ _ (if (((items.size : Nat) : Int) - 1 == 0 && (-1 : Int) == 1 && items.size == items.size) = true then _ else _) _ _ s
  rw [if_neg hno, pick_rev]
  first
    | exact wpAny_bind (m := Builtin.Tuple.tupleExact _) (wpAny_newObj_type (wpAny_pure ⟨_, rfl, wpAny_pure h⟩) htake)
    | exact wpAny_bind (m := Builtin.Tuple.tupleExact _) (wpAny_newObj_type (wpAny_bind (wpAny_pure (wpAny_pure ⟨_, rfl, wpAny_pure h⟩))) htake)
    | exact wpAny_bind (wpAny_bind (m := Builtin.Tuple.tupleExact _) (wpAny_newObj_type (wpAny_pure (wpAny_pure ⟨_, rfl, wpAny_pure h⟩)) htake))
    | exact wpAny_bind (wpAny_bind (m := Builtin.Tuple.tupleExact _) (wpAny_newObj_type (wpAny_pure ⟨_, rfl, wpAny_pure h⟩) htake))
end
end HT
namespace PL
open PySem PySem.Spec PyProof.Rows L2
section
variable {X : Cx}
/-- t[::-1] of a tuple or a list -/
def tRevA (K : PySem.W.Frag) (te : TE) : TE := fun σ H Q => te σ H fun x H1 => ∃ a xs, x = .ref a ∧ ((SqL K H1 a xs ∧ ∀ p, H1 p = none → Q (.ref p) (upd H1 p (.lst xs.reverse))) ∨ (SqT K H1 a xs ∧ ∀ p, H1 p = none → Q (.ref p) (upd H1 p (.tup xs.reverse))))
theorem pe_revA {e : Expr} {te : TE} {k : Nat} {p1 p2 p3 pos : Pos} (he : PE X e te) : PE X (.Subscript e (.Slice none none (some (.UnaryOp .USub (.Constant (.int 1) k p1) p2)) p3) pos) (tRevA X.K te) := by
  refine ⟨fun pins s σ H Q I h => ?_⟩
  refine Subscript_ (thn (he.run pins s σ H _ I h) fun v s1 ⟨x, H1, I1, r1, q1⟩ => ?_)
  obtain ⟨a, xs, ex, hq⟩ := q1
  subst ex
  cases r1
  have hst : PO X (some (.UnaryOp .USub (.Constant (.int 1) k p1) p2)) (tPart (tUn (rU fun i => .int (-i)) (tC (.int 1)))) := po_some (pe_un un_neg pe_int)
  refine wpAny_Slice (thn (po_none.run pins s1 σ H1 (fun o H2 => o = none ∧ H2 = H1) I1 ⟨rfl, rfl⟩) fun vl s2 ⟨l, H2, I2, pl, el, e2⟩ => ?_)
  subst el e2
  refine thn (po_none.run pins s2 σ H2 (fun o H3 => o = none ∧ H3 = H2) I2 ⟨rfl, rfl⟩) fun vu s3 ⟨u, H3, I3, pu, eu, e3⟩ => ?_
  subst eu e3
  refine thn (hst.run pins s3 σ H3 (fun o H4 => o = some (-1) ∧ H4 = H3) I3 ⟨1, rfl, -1, rfl, rfl, rfl⟩) fun vs s4 ⟨o, H4, I4, ps, eo, e4⟩ => ?_
  subst eo e4
  have I5 : Inv X pins σ H4 { s4 with heap := s4.heap.push { cls := .type "slice", data := .fields #[vl, vu, vs] } } := I4.kept (t' := s4.toks) fun b ob q => Heap.get?_push_of_some _ q
  show wpAny (model X.prog X.w) X.A (subscriptTail e (.Slice none none (some (.UnaryOp .USub (.Constant (.int 1) k p1) p2)) p3) (.ref a) (.ref s4.heap.objs.size)) (EP X pins σ Q) X.xe { s4 with heap := s4.heap.push { cls := .type "slice", data := .fields #[vl, vu, vs] } }
  rcases hq with ⟨hx, q⟩ | ⟨hx, q⟩
  · obtain ⟨its, r, ht, hz⟩ := I5.list hx
    have hlen := r.length
    refine tail_any (ops := [.ref a, .ref s4.heap.objs.size]) ht.isList.typeIs (PySem.slot_list_getitem.lookup) ?_ (by with_unfolding_all rfl)
    refine wpAny_getItem_list_slice ht.isList (Heap.IsSliceOf.new _ vl vu vs) pl pu ps (by decide) ?_ (by rw [List.size_toArray]; omega)
    rw [PySem.W.krv_pick]
    refine ⟨.ref _, _, I5.laid (t' := s4.toks) (o := .lst xs.reverse) (fun b ob q => Heap.get?_push_of_some _ q) (Nat.le_refl _) ?_, rfl, q _ (I5.hok.fresh (Nat.le_refl _))⟩
    exact ⟨by rw [List.length_reverse]; exact hz, _, 0, r.reverse, Heap.get?_push_size _ rfl⟩
  · obtain ⟨its, r, ht, hz⟩ := I5.tuple hx
    have hlen := r.length
    cases pl
    cases pu
    refine tail_any (ops := [.ref a, .ref s4.heap.objs.size]) ht.typeIs (PyProof.Rows.slot_tuple_getitem.lookup) ?_ (by with_unfolding_all rfl)
    refine HT.getItem_tuple_rev ht (Heap.IsSliceOf.new _ .none .none vs) ps ?_ (by rw [List.size_toArray]; omega)
    refine ⟨.ref _, _, I5.laid (t' := s4.toks) (o := .tup xs.reverse) (fun b ob q => Heap.get?_push_of_some _ q) (Nat.le_refl _) ?_, rfl, q _ (I5.hok.fresh (Nat.le_refl _))⟩
    exact ⟨by rw [List.length_reverse]; exact hz, _, r.reverse, IsTup.new _ _⟩
end
end PL
end
section
set_option maxHeartbeats 2000000
namespace PL
open PySem PySem.Spec PyProof.Rows L2
section
variable {X : Cx} {a b c : Expr} {ea eb ec : Ev} {pos : Pos}
theorem ixR_some {x y : R} {S : Sto} {d : D} (h : ixR x y S = some d) :
    (∃ n ks k kd, x = .ref n ∧ S[n]? = some (.dic ks) ∧ y = .d kd ∧ keyD kd = some k ∧ lookK ks k = some d) ∨ (∃ dx dy, view x S = some dx ∧ view y S = some dy ∧ gIx dx dy = some d) := by
  unfold ixR at h
  cases x with
  | scr _ => cases h
  | d x =>
    dsimp only at h
    cases y with
    | d k => exact .inr ⟨x, k, rfl, rfl, h⟩
    | _ => cases h
  | ref n =>
    dsimp only at h
    cases hs : S[n]? with
    | none => rw [hs] at h; cases h
    | some o =>
      rw [hs] at h
      cases o with
      | dic ks =>
        dsimp only at h
        cases y with
        | d kd =>
          dsimp only at h
          cases hk : keyD kd with
          | none => rw [hk] at h; cases h
          | some k => rw [hk] at h; exact .inl ⟨n, ks, k, kd, rfl, hs, rfl, hk, h⟩
        | _ => cases h
      | lst xs =>
        dsimp only at h
        cases y with
        | d kd => exact .inr ⟨.list xs, kd, by simp only [view, hs], rfl, h⟩
        | _ => cases h
theorem e_ix (hu : X.A.units + 1 < cLine) (ha : PE X a (tE X.K ea)) (hb : PE X b (tE X.K eb)) (hp : PlainIx b) :
    PE X (.Subscript a b pos) (tE X.K fun L S => okOr (ea L S) fun (x, S1) => okOr (eb L S1) fun (y, S2) => okOr (ixR x y S2) fun d => some (.d d, S2)) := by
  refine ⟨fun pins s0 σ H Q I h => ?_⟩
  obtain ⟨F, G, ρ, S, L, r, S', s, l, e, q⟩ := h
  obtain ⟨⟨x, S1⟩, e1, e⟩ := okOr_some e
  obtain ⟨⟨y, S2⟩, e2, e⟩ := okOr_some e
  obtain ⟨d, e3, e⟩ := okOr_some e
  obtain ⟨rfl, rfl⟩ := res_eq e
  rcases ixR_some e3 with ⟨n, ks, k, kd, rfl, hs, rfl, hk, hl⟩ | ⟨dx, dy, hx, hy, hg⟩
  · refine (pe_dget hu ha hb hp).run pins s0 σ H Q I ?_
    refine ⟨F, G, ρ, S, L, _, S1, s, l, e1, fun G1 ρ1 H1 v1 g1 p1 s1 q1 => ⟨F, G1, ρ1, S1, L, _, S2, s1, lok_mono g1 p1 l, e2, fun G2 ρ2 H2 v2 g2 p2 s2 q2 => ?_⟩⟩
    obtain ⟨a, ea', rfl⟩ := q1
    obtain ⟨o, ho, kvs, rfl, hkd⟩ := s2.obj n _ a hs (pre_get p2 ea')
    obtain ⟨v, hv, qv⟩ := (kd_look hkd).1 d hl
    have ev2 : v2 = kV k := keyD_of (H := H2) (.inl q2) hk
    refine ⟨a, v, rfl, ?_, (q.mono (g1.trans g2) (p1.trans p2)).now s2 qv⟩
    rw [ev2, ← hv]
    exact DGet.k ho
  · refine (pe_ix i_all ha hb hp).run pins s0 σ H Q I ?_
    exact ⟨F, G, ρ, S, L, _, S1, s, l, e1, fun G1 ρ1 H1 v1 g1 p1 s1 q1 => ⟨F, G1, ρ1, S1, L, _, S2, s1, lok_mono g1 p1 l, e2, fun G2 ρ2 H2 v2 g2 p2 s2 q2 =>
      ⟨F, G2, ρ2, S2, dx, dy, d, s2, view_ok s2 (rv_mono g2 p2 q1) hx, view_ok s2 q2 hy, hg, q.mono (g1.trans g2) (p1.trans p2)⟩⟩⟩
abbrev noO : Loc → Sto → Option (Option Int × Sto) := fun _ S => some (none, S)
abbrev soO (e : Ev) : Loc → Sto → Option (Option Int × Sto) := fun L S => okOr (e L S) fun (x, S1) => match x with
    | .d (.int i) => some (some i, S1)
    | _ => none
theorem o_none : PO X none (tO X.K noO) := by
  refine PO.weak po_none fun σ H Q h => ?_
  obtain ⟨F, G, ρ, S, L, r, S', s, l, e, q⟩ := h
  obtain ⟨rfl, rfl⟩ := res_eq e
  exact q G ρ H (Same.refl _) (List.prefix_refl _) s
theorem o_some (ha : PE X a (tE X.K ea)) : PO X (some a) (tO X.K (soO ea)) := by
  refine PO.weak (po_some ha) fun σ H Q h => ?_
  obtain ⟨F, G, ρ, S, L, r, S', s, l, e, q⟩ := h
  obtain ⟨⟨x, S1⟩, e1, e⟩ := okOr_some e
  dsimp only at e
  split at e
  · obtain ⟨rfl, rfl⟩ := res_eq e
    exact ⟨F, G, ρ, S, L, _, S1, s, l, e1, fun G1 ρ1 H1 v1 g1 p1 s1 q1 => by cases q1; exact ⟨_, rfl, q G1 ρ1 H1 g1 p1 s1⟩⟩
  · cases e
theorem e_sl {lo hi : Option Expr} {el eh : Loc → Sto → Option (Option Int × Sto)} {p2 : Pos} (ha : PE X a (tE X.K ea)) (hl : PO X lo (tO X.K el)) (hh : PO X hi (tO X.K eh)) :
    PE X (.Subscript a (.Slice lo hi none p2) pos) (tE X.K fun L S => okOr (ea L S) fun (x, S1) => okOr (el L S1) fun (l, S2) => okOr (eh L S2) fun (h, S3) => okOr (slR x l h S3) fun d => some (.d d, S3)) := by
  refine PE.weak (pe_slice s_all ha hl hh) fun σ H Q h => ?_
  obtain ⟨F, G, ρ, S, L, r, S', s, l, e, q⟩ := h
  obtain ⟨⟨x, S1⟩, e1, e⟩ := okOr_some e
  obtain ⟨⟨y, S2⟩, e2, e⟩ := okOr_some e
  obtain ⟨⟨z, S3⟩, e3, e⟩ := okOr_some e
  obtain ⟨d, e4, e⟩ := okOr_some e
  obtain ⟨rfl, rfl⟩ := res_eq e
  refine ⟨F, G, ρ, S, L, x, S1, s, l, e1, fun G1 ρ1 H1 v1 g1 p1 s1 q1 => ⟨F, G1, ρ1, S1, L, y, S2, s1, lok_mono g1 p1 l, e2, fun G2 ρ2 H2 g2 p2 s2 => ⟨F, G2, ρ2, S2, L, z, S3, s2, lok_mono (g1.trans g2) (p1.trans p2) l, e3, fun G3 ρ3 H3 g3 p3 s3 => ?_⟩⟩⟩
  exact ⟨F, G3, ρ3, S3, x, d, s3, rv_mono (g2.trans g3) (p2.trans p3) q1, e4, q.mono (g1.trans (g2.trans g3)) (p1.trans (p2.trans p3))⟩
/-- a built-in of one argument, by values -/
theorem one_read {K : PySem.W.Frag} {g : D → Option D} {σ : L2.St} {H : Hp} {Q : VK} (h : tE K (fun L S => okOr (ea L S) fun (x, S1) => okOr (un1 g x S1) fun d => some (.d d, S1)) σ H Q) :
    tE K ea σ H fun x H' => t1 K g x H' Q := by
  obtain ⟨F, G, ρ, S, L, r, S', s, l, e, q⟩ := h
  obtain ⟨⟨x, S1⟩, e1, e⟩ := okOr_some e
  obtain ⟨d, e2, e⟩ := okOr_some e
  obtain ⟨rfl, rfl⟩ := res_eq e
  obtain ⟨dx, hx, e2⟩ := un1_some e2
  exact ⟨F, G, ρ, S, L, x, S1, s, l, e1, fun G1 ρ1 H1 v1 g1 p1 s1 q1 => ⟨F, G1, ρ1, S1, dx, d, s1, view_ok s1 q1 hx, e2, q.mono g1 p1⟩⟩
theorem star1 {env : Env} (h : ∀ e p, a ≠ .Starred e p) (es : List Expr) : starEach (a :: es) env = (false, eval a env) :: starEach es env := by
  cases a <;> first | rfl | exact absurd rfl (h _ _)
theorem back_nil (p : Pos) (env : Env) : (backTo p (starEach [] env)).any (·.1) = false := rfl
theorem e_fun {id : String} {x : Str} {p : Pos} {g : D → Option D} (hc : CallR X (.builtin id) (tc1 X.K g)) (hg : Gl X x) (hm : X.mg x = none) (hv : bootBuiltins x = some (.builtin id)) (hn : x ≠ "__name__") (hdb : (x == ("__debug__" : Str)) = false)
    (ha : PE X a (tE X.K ea)) (hst : ∀ e p, a ≠ .Starred e p) :
    PE X (.Call (.Name x p) [a] [] pos) (tE X.K fun L S => okOr (ea L S) fun (x, S1) => okOr (un1 g x S1) fun d => some (.d d, S1)) := by
  refine PE.weak (pe_callB hc hg hm hv (pa_cons ha pa_nil (star1 hst [])) hn hdb (star1 hst []) (back_nil _ _)) fun σ H Q h => ?_
  obtain ⟨F, G, ρ, S, L, x, S1, s, l, e1, q⟩ := one_read h
  exact ⟨F, G, ρ, S, L, x, S1, s, l, e1, fun G1 ρ1 H1 v1 g1 p1 s1 q1 => ⟨v1, rfl, q G1 ρ1 H1 v1 g1 p1 s1 q1⟩⟩
theorem e_type {id : String} {x : Str} {p : Pos} {g : D → Option D} (hc : CallR X (.type id) (tc1 X.K g)) (hg : Gl X x) (hm : X.mg x = none) (hv : bootBuiltins x = some (.type id)) (hn : x ≠ "__name__") (hdb : (x == ("__debug__" : Str)) = false)
    (ha : PE X a (tE X.K ea)) (hst : ∀ e p, a ≠ .Starred e p) :
    PE X (.Call (.Name x p) [a] [] pos) (tE X.K fun L S => okOr (ea L S) fun (x, S1) => okOr (un1 g x S1) fun d => some (.d d, S1)) := by
  refine PE.weak (pe_callTy hc hg hm hv (pa_cons ha pa_nil (star1 hst [])) hn hdb (star1 hst []) (back_nil _ _)) fun σ H Q h => ?_
  obtain ⟨F, G, ρ, S, L, x, S1, s, l, e1, q⟩ := one_read h
  exact ⟨F, G, ρ, S, L, x, S1, s, l, e1, fun G1 ρ1 H1 v1 g1 p1 s1 q1 => ⟨v1, rfl, q G1 ρ1 H1 v1 g1 p1 s1 q1⟩⟩
theorem e_bi (t : Bi) {p : Pos} (hc : X.calm = true) (hgd : X.A.guards = some []) (hun : X.A.units + 64 < cLine) (hg : Gl X t.name) (hm : X.mg t.name = none) (ha : PE X a (tE X.K ea)) (hst : ∀ e p, a ≠ .Starred e p) :
    PE X (.Call (.Name t.name p) [a] [] pos) (tE X.K fun L S => okOr (ea L S) fun (x, S1) => okOr (un1 t.fn x S1) fun d => some (.d d, S1)) := by
  cases t
  · exact e_fun c_len hg hm PySem.boot_len (by decide) (by decide) ha hst
  · exact e_fun (c_all hc) hg hm (by decide +kernel) (by decide) (by decide) ha hst
  · exact e_fun (c_any hc) hg hm (by decide +kernel) (by decide) (by decide) ha hst
  · exact e_type c_tuple hg hm (by decide +kernel) (by decide) (by decide) ha hst
  · exact e_type (c_list hc) hg hm (by decide +kernel) (by decide) (by decide) ha hst
  · exact e_type c_int hg hm (by decide +kernel) (by decide) (by decide) ha hst
  · exact e_fun (c_repr hgd hun) hg hm (by decide +kernel) (by decide) (by decide) ha hst
  · exact e_fun c_sorted hg hm (by decide +kernel) (by decide) (by decide) ha hst
  · exact e_type c_str hg hm (by decide +kernel) (by decide) (by decide) ha hst
theorem dvs_rev {K : PySem.W.Frag} {G : Hp} : ∀ {vs : List V} {ds : List D}, DVs K G vs ds → DVs K G vs.reverse ds.reverse
  | _, _, .nil => .nil
  | _, _, .cons h t => by
    rw [List.reverse_cons, List.reverse_cons]
    exact dvs_app (dvs_rev t) (.cons h .nil)
theorem e_rev {k : Nat} {p1 p2 p3 : Pos} (ha : PE X a (tE X.K ea)) : PE X (.Subscript a (.Slice none none (some (.UnaryOp .USub (.Constant (.int 1) k p1) p2)) p3) pos) (tE X.K fun L S => okOr (ea L S) fun (x, S1) => okOr (un1 gRev x S1) fun d => some (.d d, S1)) := by
  refine PE.weak (pe_revA ha) fun σ H Q h => ?_
  obtain ⟨F, G, ρ, S, L, x, S1, s, l, e1, q⟩ := one_read h
  refine ⟨F, G, ρ, S, L, x, S1, s, l, e1, fun G1 ρ1 H1 v1 g1 p1 s1 q1 => ?_⟩
  obtain ⟨F2, G2, ρ2, S2, dx, d, sk, hx, e, qq⟩ := q G1 ρ1 H1 v1 g1 p1 s1 q1
  unfold gRev at e
  split at e
  · cases e
    obtain ⟨a, vs, rfl, h1, h2⟩ := hx.lst sk
    exact ⟨a, vs, rfl, .inl ⟨.of h1, qq.lst sk (dvs_rev h2)⟩⟩
  · cases e
    obtain ⟨a, vs, rfl, h1, h2⟩ := tup_of hx
    exact ⟨a, vs, rfl, .inr ⟨Same.sqt sk.subG h1, qq.tup sk (dvs_rev h2)⟩⟩
  · cases e
theorem rising_sorted : ∀ {ns : List Int}, ns.Pairwise (· < ·) → ns.Pairwise (· ≤ ·) := fun h => h.imp fun q => Int.le_of_lt q
theorem e_sset {p p2 pos2 : Pos} (hc : X.calm = true) (hg : Gl X "sorted") (hm : X.mg "sorted" = none) (hg2 : Gl X "set") (hm2 : X.mg "set" = none) (ha : PE X a (tE X.K ea)) (hst : ∀ e p, a ≠ .Starred e p) :
    PE X (.Call (.Name "sorted" p) [.Call (.Name "set" p2) [a] [] pos2] [] pos) (tE X.K fun L S => okOr (ea L S) fun (x, S1) => okOr (un1 gSSet x S1) fun d => some (.d d, S1)) := by
  refine PE.weak (pe_callB ((c_sortX hc).or (cr_sortedSet hc)) hg hm (by decide +kernel) (pa_cons (pe_callTy ((c_setX hc).or (c_setXI hc)) hg2 hm2 (by decide +kernel) (pa_cons ha pa_nil (star1 hst [])) (by decide) (by decide) (star1 hst []) (back_nil _ _)) pa_nil rfl) (by decide) (by decide) rfl rfl) fun σ H Q h => ?_
  obtain ⟨F, G, ρ, S, L, x, S1, s, l, e1, q⟩ := one_read h
  refine ⟨F, G, ρ, S, L, x, S1, s, l, e1, fun G1 ρ1 H1 v1 g1 p1 s1 q1 => ?_⟩
  obtain ⟨F2, G2, ρ2, S2, dx, d, sk, hx, e, qq⟩ := q G1 ρ1 H1 v1 g1 p1 s1 q1
  unfold gSSet at e
  split at e
  · rename_i zs hz
    obtain ⟨c, rfl⟩ := some_if e
    have fin : ∀ p ks, H1 p = none → ks.Nodup → (∀ z, z ∈ ks ↔ z ∈ zs) → ks.length ≤ zs.length → ∃ (a : Addr) (ks' : List Str), [V.ref p] = [.ref a] ∧ (upd H1 p (SetX X.prog X.w p ks)) a = some (SetX X.prog X.w a ks') ∧ ks'.length < 64 ∧
        ∀ ys p', ys.Perm ks' → sortedS ys = true → (upd H1 p (SetX X.prog X.w p ks)) p' = none → Q (.ref p') (upd (upd H1 p (SetX X.prog X.w p ks)) p' (.lst (ys.map V.str))) := fun p ks hp nd mem len => by
      have pk : ks.Perm (onceS zs) := (List.perm_ext_iff_of_nodup nd (once_nodup zs)).mpr fun z => (mem z).trans (once_mem z zs).symm
      refine ⟨p, ks, rfl, upd_same, by rw [pk.length_eq]; exact c.2, fun ys p' pm hs hp' => ?_⟩
      obtain ⟨sk', sm⟩ := sk.fix (o := SetX X.prog X.w p ks) hp
      cases sortS_only (pm.trans pk) hs
      exact (qq.mono sm (List.prefix_refl _)).lst sk' (dvs_strs _) p' hp'
    cases dx with
    | list ds =>
      obtain ⟨b, vs, rfl, h1, h2⟩ := hx.lst sk
      cases strsD_of h2 (show strsD ds = some zs from hz)
      exact .inl ⟨b, zs, rfl, .inl (.of h1), c.1, fun p ks a1 a2 a3 a4 => .inl (fin p ks a1 a2 a3 a4)⟩
    | tuple ds =>
      obtain ⟨b, vs, rfl, h1, h2⟩ := tup_of hx
      cases strsD_of h2 (show strsD ds = some zs from hz)
      exact .inl ⟨b, zs, rfl, .inr (Same.sqt sk.subG h1), c.1, fun p ks a1 a2 a3 a4 => .inl (fin p ks a1 a2 a3 a4)⟩
    | _ => cases hz
  · split at e
    case h_2 => cases e
    rename_i zs hz
    obtain ⟨c, rfl⟩ := some_if e
    have fin : ∀ p, H1 p = none → ∃ (a : Addr) (S : Int → Bool) (n : Nat), [V.ref p] = [.ref a] ∧ (upd H1 p (SetO X.w p (fun k => decide (k ∈ zs)) (onceI zs).length)) a = some (SetO X.w a S n) ∧ n < 64 ∧
        ∀ (ns : List Int) (p' : Addr), ns.Pairwise (· < ·) → (∀ k : Int, k ∈ ns ↔ S k = true) → ns.length = n → (upd H1 p (SetO X.w p (fun k => decide (k ∈ zs)) (onceI zs).length)) p' = none → Q (.ref p') (upd (upd H1 p (SetO X.w p (fun k => decide (k ∈ zs)) (onceI zs).length)) p' (.lst (ns.map V.int))) := fun p hp => by
      refine ⟨p, _, _, rfl, upd_same, c.2, fun ns p' hs hm hl hp' => ?_⟩
      have nd : ns.Nodup := hs.imp fun q => Int.ne_of_lt q
      have pk : ns.Perm (onceI zs) := (List.perm_ext_iff_of_nodup nd (onceI_nodup zs)).mpr fun z => ((hm z).trans (by simp)).trans (onceI_mem z zs).symm
      obtain ⟨sk', sm⟩ := sk.fix (o := SetO X.w p (fun k => decide (k ∈ zs)) (onceI zs).length) hp
      cases sortI_only pk (rising_sorted hs)
      exact (qq.mono sm (List.prefix_refl _)).lst sk' (dvs_ints _) p' hp'
    cases dx with
    | list ds =>
      obtain ⟨b, vs, rfl, h1, h2⟩ := hx.lst sk
      cases intsD_of h2 (show intsD ds = some zs from hz)
      exact .inr ⟨b, zs, rfl, .inl (.of h1), c.1, fun p a1 => .inr (fin p a1)⟩
    | tuple ds =>
      obtain ⟨b, vs, rfl, h1, h2⟩ := tup_of hx
      cases intsD_of h2 (show intsD ds = some zs from hz)
      exact .inr ⟨b, zs, rfl, .inr (Same.sqt sk.subG h1), c.1, fun p a1 => .inr (fin p a1)⟩
    | _ => cases hz
theorem e_sortd {p : Pos} (hc : X.calm = true) (hg : Gl X "sorted") (hm : X.mg "sorted" = none) (ha : PE X a (tE X.K ea)) (hst : ∀ e p, a ≠ .Starred e p) :
    PE X (.Call (.Name "sorted" p) [a] [] pos) (tE X.K fun L S => okOr (ea L S) fun (x, S1) => okOr (gSortD x S1) fun d => some (.d d, S1)) := by
  refine PE.weak (pe_callB (c_sortedD hc) hg hm (by decide +kernel) (pa_cons ha pa_nil (star1 hst [])) (by decide) (by decide) (star1 hst []) (back_nil _ _)) fun σ H Q h => ?_
  obtain ⟨F, G, ρ, S, L, r, S', s, l, e, q⟩ := h
  obtain ⟨⟨x, S1⟩, e1, e⟩ := okOr_some e
  obtain ⟨d, e2, e⟩ := okOr_some e
  obtain ⟨rfl, rfl⟩ := res_eq e
  exact ⟨F, G, ρ, S, L, x, S1, s, l, e1, fun G1 ρ1 H1 v1 g1 p1 s1 q1 => ⟨v1, rfl, F, G1, ρ1, S1, x, d, s1, q1, e2, q.mono g1 p1⟩⟩
def Ty.nm (t : Ty) : Str := Str.ofString t.name
theorem boot_ty (t : Ty) : bootBuiltins t.nm = some (.type t.name) := by cases t <;> decide +kernel
theorem ty_ne (t : Ty) : t.nm ≠ "__name__" ∧ (t.nm == ("__debug__" : Str)) = false := by cases t <;> decide
theorem e_isi (t : Ty) {p p2 : Pos} (hg : Gl X "isinstance") (hm : X.mg "isinstance" = none) (hg2 : Gl X t.nm) (hm2 : X.mg t.nm = none) (ha : PE X a (tE X.K ea)) (hst : ∀ e p, a ≠ .Starred e p) :
    PE X (.Call (.Name "isinstance" p) [a, .Name t.nm p2] [] pos) (tE X.K fun L S => okOr (ea L S) fun (x, S1) => okOr (un1 (fun d => some (.bool (isTy t d))) x S1) fun d => some (.d d, S1)) := by
  refine PE.weak (pe_callB (c_isi t) hg hm (by decide +kernel) (pa_cons ha (pa_cons (pe_bltn (v := .ty t.name) hg2 hm2 (boot_ty t) rfl (ty_ne t).1 (ty_ne t).2) pa_nil rfl) (star1 hst _)) (by decide) (by decide) (star1 hst _) rfl) fun σ H Q h => ?_
  obtain ⟨F, G, ρ, S, L, x, S1, s, l, e1, q⟩ := one_read h
  exact ⟨F, G, ρ, S, L, x, S1, s, l, e1, fun G1 ρ1 H1 v1 g1 p1 s1 q1 => ⟨v1, rfl, q G1 ρ1 H1 v1 g1 p1 s1 q1⟩⟩
/-! ### methods -/
theorem base_of {o : Expr} {m : Str} (h : ∀ p q, o ≠ .Call (.Name "super" p) [] [] q) : attributeBase o m X.env (eval o X.env) = eval o X.env := by
  unfold attributeBase
  split
  · rename_i id p pos
    have hid : (id != ("super" : Str)) = true := by
      have : id ≠ ("super" : Str) := fun z => h p pos (by rw [z])
      simpa using this
    rw [if_pos (by rw [hid]; rfl)]
  · rfl
end
end PL
end
section
set_option maxHeartbeats 2000000
namespace PL
open PySem PySem.Spec PyProof.Rows L2
section
variable {K : PySem.W.Frag}
theorem SOk.notin {F G : Hp} {ρ : List Addr} {S : Sto} {H : Hp} (s : SOk K F G ρ S H) {p : Addr} (h : H p = none ∨ F p ≠ none) : p ∉ ρ := fun ha => by
  rcases h with h | h
  · obtain ⟨n, hn, e⟩ := List.getElem_of_mem ha
    have hn' : n < S.length := by rw [← s.len]; exact hn
    obtain ⟨o, ho, _⟩ := s.obj n S[n] p (List.getElem?_eq_getElem hn') (by rw [List.getElem?_eq_getElem hn, e])
    rw [h] at ho; cases ho
  · exact h (s.out p ha).2
/-- a new thing, held apart -/
theorem SOk.hold {F G : Hp} {ρ : List Addr} {S : Sto} {H : Hp} (s : SOk K F G ρ S H) {p : Addr} {o : HO} (h : H p = none) : SOk K (upd F p o) G ρ S (upd H p o) := by
  have hg : G p = none := Same.free s.subG h
  have hf : F p = none := Same.free s.subF h
  have hp := s.notin (.inl h)
  refine ⟨s.len, s.nd, fun b u e => ?_, s.subG.trans (same_upd h), fun a ha => ?_, fun a ha => ?_, fun n b a e1 e2 => ?_⟩
  · by_cases hb : b = p
    · subst hb; rw [upd_same] at e ⊢; exact e
    · rw [upd_ne hb] at e ⊢; exact s.subF b u e
  · have hne : a ≠ p := fun z => hp (z ▸ ha)
    rw [upd_ne hne]; exact s.out a ha
  · by_cases hb : a = p
    · rw [hb]; exact hg
    · rw [upd_ne hb] at ha; exact s.dis a ha
  · obtain ⟨u, hu, r⟩ := s.obj n b a e1 e2
    have hne : a ≠ p := fun z => hp (z ▸ List.mem_of_getElem? e2)
    exact ⟨u, by rw [upd_ne hne]; exact hu, r⟩
/-- what is held apart, changed -/
theorem SOk.held {F G : Hp} {ρ : List Addr} {S : Sto} {H : Hp} {p : Addr} {o : HO} (s : SOk K (upd F p o) G ρ S H) (o' : HO) : SOk K (upd F p o') G ρ S (upd H p o') := by
  have hF : upd F p o p ≠ none := by rw [upd_same]; exact fun z => nomatch z
  have hg : G p = none := s.dis p hF
  have hp := s.notin (.inr hF)
  refine ⟨s.len, s.nd, fun b u e => ?_, fun b u e => ?_, fun a ha => ?_, fun a ha => ?_, fun n b a e1 e2 => ?_⟩
  · by_cases hb : b = p
    · subst hb; rw [upd_same] at e ⊢; exact e
    · rw [upd_ne hb] at e ⊢; exact s.subF b u (by rw [upd_ne hb]; exact e)
  · have hb : b ≠ p := fun z => by subst z; rw [hg] at e; cases e
    rw [upd_ne hb]; exact s.subG b u e
  · have hne : a ≠ p := fun z => hp (z ▸ ha)
    have := s.out a ha
    rw [upd_ne hne] at this ⊢; exact this
  · by_cases hb : a = p
    · rw [hb]; exact hg
    · rw [upd_ne hb] at ha; exact s.dis a (by rw [upd_ne hb]; exact ha)
  · obtain ⟨u, hu, r⟩ := s.obj n b a e1 e2
    have hne : a ≠ p := fun z => hp (z ▸ List.mem_of_getElem? e2)
    exact ⟨u, by rw [upd_ne hne]; exact hu, r⟩
theorem SOk.heldAt {F G : Hp} {ρ : List Addr} {S : Sto} {H : Hp} {p : Addr} {o : HO} (s : SOk K (upd F p o) G ρ S H) : H p = some o := s.subF p o upd_same
/-- .. becomes a thing that never changes -/
theorem SOk.heldFix {F G : Hp} {ρ : List Addr} {S : Sto} {H : Hp} {p : Addr} {o : HO} (s : SOk K (upd F p o) G ρ S H) (hf : F p = none) : SOk K F (upd G p o) ρ S H ∧ Same G (upd G p o) := by
  have hF : upd F p o p ≠ none := by rw [upd_same]; exact fun z => nomatch z
  have hg : G p = none := s.dis p hF
  have hp := s.notin (.inr hF)
  have hsub : ∀ b u, F b = some u → b ≠ p := fun b u e z => by subst z; rw [hf] at e; cases e
  refine ⟨⟨s.len, s.nd, fun b u e => s.subF b u (by rw [upd_ne (hsub b u e)]; exact e), fun b u e => ?_, fun a ha => ?_, fun a ha => ?_, fun n b a e1 e2 => ?_⟩, same_upd hg⟩
  · by_cases hb : b = p
    · subst hb; rw [upd_same] at e; cases e; exact s.heldAt
    · rw [upd_ne hb] at e; exact s.subG b u e
  · have hne : a ≠ p := fun z => hp (z ▸ ha)
    have := s.out a ha
    rw [upd_ne hne] at this ⊢; exact this
  · have hne : a ≠ p := fun z => ha (by rw [z]; exact hf)
    rw [upd_ne hne]
    exact s.dis a (by rw [upd_ne hne]; exact ha)
  · obtain ⟨u, hu, r⟩ := s.obj n b a e1 e2
    exact ⟨u, hu, ro_mono (same_upd hg) r⟩
/-- .. becomes a changing thing -/
theorem SOk.heldNew {F G : Hp} {ρ : List Addr} {S : Sto} {H : Hp} {p : Addr} {o : HO} (s : SOk K (upd F p o) G ρ S H) (hf : F p = none) {b : Ob} {o' : HO} (r : RO K G b o') : SOk K F G (ρ ++ [p]) (S ++ [b]) (upd H p o') := by
  have hF : upd F p o p ≠ none := by rw [upd_same]; exact fun z => nomatch z
  have hg : G p = none := s.dis p hF
  have hp := s.notin (.inr hF)
  have hsub : ∀ b u, F b = some u → b ≠ p := fun b u e z => by subst z; rw [hf] at e; cases e
  have hsubG : ∀ b u, G b = some u → b ≠ p := fun b u e z => by subst z; rw [hg] at e; cases e
  refine ⟨by simp [s.len], ?_, fun b u e => ?_, fun b u e => ?_, fun a ha => ?_, fun a ha => ?_, fun n b' a e1 e2 => ?_⟩
  · rw [List.nodup_append]
    refine ⟨s.nd, by simp, fun a ha c hc => ?_⟩
    rw [List.mem_singleton] at hc; subst hc
    exact fun z => hp (z ▸ ha)
  · rw [upd_ne (hsub b u e)]; exact s.subF b u (by rw [upd_ne (hsub b u e)]; exact e)
  · rw [upd_ne (hsubG b u e)]; exact s.subG b u e
  · rcases List.mem_append.mp ha with ha | ha
    · have hne : a ≠ p := fun z => hp (z ▸ ha)
      have := s.out a ha
      rw [upd_ne hne] at this; exact this
    · rw [List.mem_singleton] at ha; subst ha; exact ⟨hg, hf⟩
  · have hne : a ≠ p := fun z => ha (by rw [z]; exact hf)
    exact s.dis a (by rw [upd_ne hne]; exact ha)
  · by_cases hn : n < S.length
    · rw [List.getElem?_append_left hn] at e1
      rw [List.getElem?_append_left (by rw [s.len]; exact hn)] at e2
      obtain ⟨u, hu, q⟩ := s.obj n b' a e1 e2
      have hne : a ≠ p := fun z => hp (z ▸ List.mem_of_getElem? e2)
      exact ⟨u, by rw [upd_ne hne]; exact hu, q⟩
    · have hn' : n = S.length := by
        have := (List.getElem?_eq_some_iff.mp e1).1
        simp at this; omega
      subst hn'
      rw [List.getElem?_append_right (Nat.le_refl _), Nat.sub_self] at e1
      rw [List.getElem?_append_right (by rw [s.len]; exact Nat.le_refl _), s.len, Nat.sub_self] at e2
      cases e1; cases e2
      exact ⟨o', upd_same, r⟩
end
section
variable {X : Cx} {a b c : Expr} {ea eb ec : Ev} {pos apos : Pos}
theorem get2R_some {x y z : R} {S : Sto} {r : R} (h : get2R x y z S = some r) : ∃ n ks k kd, x = .ref n ∧ S[n]? = some (.dic ks) ∧ y = .d kd ∧ keyD kd = some k ∧ ((∃ v, lookK ks k = some v ∧ r = .d v) ∨ (lookK ks k = none ∧ r = z)) := by
  unfold get2R at h
  split at h
  · rename_i n kd
    cases hs : S[n]? with
    | none => rw [hs] at h; cases h
    | some o =>
      rw [hs] at h
      cases hk : keyD kd with
      | none => rw [hk] at h; cases o <;> cases h
      | some k =>
        rw [hk] at h
        cases o with
        | lst _ => cases h
        | dic ks =>
          dsimp only at h
          refine ⟨n, ks, k, kd, rfl, hs, rfl, hk, ?_⟩
          cases hl : lookK ks k with
          | none => rw [hl] at h; cases h; exact .inr ⟨rfl, rfl⟩
          | some v => rw [hl] at h; cases h; exact .inl ⟨v, rfl, rfl⟩
  · cases h
theorem m2_of {o e f : Expr} {m : Str} {cpos : Pos} (hb : attributeBase o m X.env (eval o X.env) = eval o X.env) (hl : (apos.endLine == cpos.line) = true) (h1 : ∀ e' p, e ≠ .Starred e' p) (h2 : ∀ e' p, f ≠ .Starred e' p) : M2 X o m apos e f cpos := by
  have e1 : starEach [e, f] X.env = [(false, eval e X.env), (false, eval f X.env)] := by rw [star1 h1, star1 h2]; rfl
  refine ⟨hb, ?_, hl, ?_⟩
  · rw [e1]; rfl
  · rw [e1]; rfl
theorem guardB_some {α : Type} {k : Bool} {o : Option α} {x : α} (h : guardB k o = some x) : k = true ∧ o = some x := by
  cases k with
  | true => exact ⟨rfl, h⟩
  | false => cases h
theorem isDic_some {x : R} {S : Sto} (h : isDic x S = true) : ∃ n ks, x = .ref n ∧ S[n]? = some (.dic ks) := by
  unfold isDic at h
  split at h
  · split at h
    · exact ⟨_, _, rfl, by assumption⟩
    · cases h
  · cases h
theorem isLst_some {x : R} {S : Sto} (h : isLst x S = true) : ∃ n ks, x = .ref n ∧ S[n]? = some (.lst ks) := by
  unfold isLst at h
  split at h
  · split at h
    · exact ⟨_, _, rfl, by assumption⟩
    · cases h
  · cases h
theorem e_get2 (hu : X.A.units + 1 < cLine) (ha : PE X a (tE X.K ea)) (hb : PE X b (tE X.K eb)) (hc : PE X c (tE X.K ec)) (m : M2 X a "get" apos b c pos) :
    PE X (.Call (.Attribute a "get" apos) [b, c] [] pos) (tE X.K fun L S => okOr (ea L S) fun (x, S1) => guardB (isDic x S1) (okOr (eb L S1) fun (y, S2) => okOr (ec L S2) fun (z, S3) => okOr (get2R x y z S3) fun r => some (r, S3))) := by
  refine PE.weak (pe_dget2 hu ha hb hc m) fun σ H Q h => ?_
  obtain ⟨F, G, ρ, S, L, r, S', s, l, e, q⟩ := h
  obtain ⟨⟨x, S1⟩, e1, e⟩ := okOr_some e
  obtain ⟨hd, e⟩ := guardB_some e
  obtain ⟨⟨y, S2⟩, e2, e⟩ := okOr_some e
  obtain ⟨⟨z, S3⟩, e3, e⟩ := okOr_some e
  obtain ⟨r', e4, e⟩ := okOr_some e
  obtain ⟨rfl, rfl⟩ := res_eq e
  obtain ⟨n, ks, k, kd, rfl, hs, rfl, hk, hl⟩ := get2R_some e4
  obtain ⟨n', ks1, en, hs1⟩ := isDic_some hd
  cases en
  refine ⟨F, G, ρ, S, L, _, S1, s, l, e1, fun G1 ρ1 H1 v1 g1 p1 s1 q1 => ?_⟩
  obtain ⟨p, ep, rfl⟩ := q1
  obtain ⟨o1, ho1, kvs1, rfl, _⟩ := s1.obj n _ p hs1 ep
  refine ⟨p, rfl, .inl ⟨kvs1, .of ho1⟩, F, G1, ρ1, S1, L, _, S2, s1, lok_mono g1 p1 l, e2, fun G2 ρ2 H2 v2 g2 p2 s2 q2 => ⟨F, G2, ρ2, S2, L, z, S3, s2, lok_mono (g1.trans g2) (p1.trans p2) l, e3, fun G3 ρ3 H3 v3 g3 p3 s3 q3 => ?_⟩⟩
  obtain ⟨o, ho, kvs, rfl, hkd⟩ := s3.obj n _ p hs (pre_get p3 (pre_get p2 ep))
  have ev2 : v2 = kV k := keyD_of (H := H2) (.inl q2) hk
  refine ⟨valV kvs k, by rw [ev2]; exact DGet.k ho, ?_⟩
  rcases hl with ⟨v, hv, rfl⟩ | ⟨hv, rfl⟩
  · obtain ⟨w', hw, qw⟩ := (kd_look hkd).1 v hv
    rw [hw]
    exact (q.mono (g1.trans (g2.trans g3)) (p1.trans (p2.trans p3))).now s3 qw
  · rw [(kd_look hkd).2 hv]
    exact (q.mono (g1.trans (g2.trans g3)) (p1.trans (p2.trans p3))).now s3 q3
theorem appR_some {x y : R} {S S' : Sto} (h : appR x y S = some S') : ∃ n xs d, x = .ref n ∧ y = .d d ∧ S[n]? = some (.lst xs) ∧ xs.length < sizeLine ∧ S' = S.set n (.lst (xs ++ [d])) := by
  unfold appR at h
  split at h
  · split at h
    · obtain ⟨c, rfl⟩ := some_if h
      exact ⟨_, _, _, rfl, rfl, by assumption, c, rfl⟩
    · cases h
  · cases h
theorem extR_some {x y : R} {S S' : Sto} (h : extR x y S = some S') : ∃ n xs ys, x = .ref n ∧ view y S = some (.list ys) ∧ S[n]? = some (.lst xs) ∧ xs.length + ys.length ≤ sizeLine ∧ S' = S.set n (.lst (xs ++ ys)) := by
  unfold extR at h
  split at h
  · split at h
    · obtain ⟨c, rfl⟩ := some_if h
      exact ⟨_, _, _, rfl, by assumption, by assumption, c, rfl⟩
    · cases h
  · cases h
theorem few1 {cpos : Pos} (h1 : ∀ e' p, b ≠ .Starred e' p) : ((backTo cpos (starEach [b] X.env)).all (fun x => !x.1) && (backToKw cpos (keywordEach [] X.env)).all (fun x => x.1.isSome)
    && decide (([b] : List Expr).length + ([] : List Keyword).length + (if ([] : List Keyword).isEmpty then 0 else 1) < 30)) = true := by
  rw [star1 h1]; rfl
theorem e_app (ha : PE X a (tE X.K ea)) (hb : PE X b (tE X.K eb)) (hbase : attributeBase a "append" X.env (eval a X.env) = eval a X.env) (hl : (apos.endLine == pos.line) = true) (h1 : ∀ e' p, b ≠ .Starred e' p) :
    PE X (.Call (.Attribute a "append" apos) [b] [] pos) (tE X.K fun L S => okOr (ea L S) fun (x, S1) => guardB (isLst x S1) (okOr (eb L S1) fun (y, S2) => okOr (appR x y S2) fun S3 => some (.d .none, S3))) := by
  refine PE.weak (pe_bm PySem.F.plainAttrs_list PySem.F.slot_list_append PySem.F.type_list_append mt_append ha (pa_cons hb pa_nil (star1 h1 [])) hbase (few1 h1) hl (star1 h1 []) rfl) fun σ H Q h => ?_
  obtain ⟨F, G, ρ, S, L, r, S', s, l, e, q⟩ := h
  obtain ⟨⟨x, S1⟩, e1, e⟩ := okOr_some e
  obtain ⟨hd, e⟩ := guardB_some e
  obtain ⟨⟨y, S2⟩, e2, e⟩ := okOr_some e
  obtain ⟨S3, e3, e⟩ := okOr_some e
  obtain ⟨rfl, rfl⟩ := res_eq e
  obtain ⟨n, xs, d, rfl, rfl, hs, hz, rfl⟩ := appR_some e3
  obtain ⟨n', xs1, en, hs1⟩ := isLst_some hd
  cases en
  refine ⟨F, G, ρ, S, L, _, S1, s, l, e1, fun G1 ρ1 H1 v1 g1 p1 s1 q1 => ?_⟩
  obtain ⟨p, ep, rfl⟩ := q1
  obtain ⟨o1, ho1, vs1, rfl, _⟩ := s1.obj n _ p hs1 ep
  refine ⟨.inl ⟨rfl, vs1, .of ho1⟩, F, G1, ρ1, S1, L, _, S2, s1, lok_mono g1 p1 l, e2, fun G2 ρ2 H2 v2 g2 p2 s2 q2 => ?_⟩
  obtain ⟨o, ho, vs, rfl, hv⟩ := s2.obj n _ p hs (pre_get p2 ep)
  refine ⟨p, vs, v2, rfl, rfl, ho, by rw [dvs_len hv]; exact hz, ?_⟩
  exact q G2 ρ2 _ _ (g1.trans g2) (p1.trans p2) (s2.set (pre_get p2 ep) ⟨_, rfl, dvs_app hv (.cons q2 .nil)⟩) .non
theorem e_ext (ha : PE X a (tE X.K ea)) (hb : PE X b (tE X.K eb)) (hbase : attributeBase a "extend" X.env (eval a X.env) = eval a X.env) (hl : (apos.endLine == pos.line) = true) (h1 : ∀ e' p, b ≠ .Starred e' p) :
    PE X (.Call (.Attribute a "extend" apos) [b] [] pos) (tE X.K fun L S => okOr (ea L S) fun (x, S1) => guardB (isLst x S1) (okOr (eb L S1) fun (y, S2) => okOr (extR x y S2) fun S3 => some (.d .none, S3))) := by
  refine PE.weak (pe_bm PySem.F.plainAttrs_list PySem.F.slot_list_extend PySem.F.type_list_extend mt_extend ha (pa_cons hb pa_nil (star1 h1 [])) hbase (few1 h1) hl (star1 h1 []) rfl) fun σ H Q h => ?_
  obtain ⟨F, G, ρ, S, L, r, S', s, l, e, q⟩ := h
  obtain ⟨⟨x, S1⟩, e1, e⟩ := okOr_some e
  obtain ⟨hd, e⟩ := guardB_some e
  obtain ⟨⟨y, S2⟩, e2, e⟩ := okOr_some e
  obtain ⟨S3, e3, e⟩ := okOr_some e
  obtain ⟨rfl, rfl⟩ := res_eq e
  obtain ⟨n, xs, ys, rfl, hy, hs, hz, rfl⟩ := extR_some e3
  obtain ⟨n', xs1, en, hs1⟩ := isLst_some hd
  cases en
  refine ⟨F, G, ρ, S, L, _, S1, s, l, e1, fun G1 ρ1 H1 v1 g1 p1 s1 q1 => ?_⟩
  obtain ⟨p, ep, rfl⟩ := q1
  obtain ⟨o1, ho1, vs1, rfl, _⟩ := s1.obj n _ p hs1 ep
  refine ⟨.inl ⟨rfl, vs1, .of ho1⟩, F, G1, ρ1, S1, L, _, S2, s1, lok_mono g1 p1 l, e2, fun G2 ρ2 H2 v2 g2 p2 s2 q2 => ?_⟩
  obtain ⟨o, ho, vs, rfl, hv⟩ := s2.obj n _ p hs (pre_get p2 ep)
  obtain ⟨b', ws, rfl, hb', hw⟩ := (view_ok s2 q2 hy).lst s2
  refine ⟨p, b', vs, ws, rfl, rfl, ho, hb', by rw [dvs_len hv, dvs_len hw]; exact hz, ?_⟩
  exact q G2 ρ2 _ _ (g1.trans g2) (p1.trans p2) (s2.set (pre_get p2 ep) ⟨_, rfl, dvs_app hv hw⟩) .non
/-! ### a dict display -/
abbrev pairE (x : Str) (e : Ev) : TE × TE := (tC (.str x), tE X.K e)
/-- the values of a display, from the left, while the dict is held apart -/
theorem pairs_read {F : Hp} {L : Loc} {σ : L2.St} : ∀ (ks : List Str) (evs : List Ev) (H : Hp) (G1 : Hp) (ρ1 : List Addr) (S1 : Sto) (Q : List (V × V) → Hp → Prop) (rs : List R) (S' : Sto),
    ks.length = evs.length → SOk X.K F G1 ρ1 S1 H → LOk X.K G1 ρ1 L σ → (evs.foldr (fun (e : Ev) (k : Evs) => fun L S => okOr (e L S) fun (x, S1) => okOr (k L S1) fun (xs, S2) => some (x :: xs, S2)) (fun _ S => some ([], S))) L S1 = some (rs, S') →
    (∀ (G' : Hp) (ρ' : List Addr) (H' : Hp) (vs : List V), Same G1 G' → ρ1 <+: ρ' → SOk X.K F G' ρ' S' H' → RVs X.K G' ρ' rs vs → Q ((ks.map V.str).zip vs) H') →
    tPairs ((ks.zip evs).map fun p => pairE (X := X) p.1 p.2) σ H Q
  | [], [], H, G1, ρ1, S1, Q, rs, S', _, s, l, e, q => by
    obtain ⟨rfl, rfl⟩ := res_eq e
    exact q G1 ρ1 H [] (Same.refl _) (List.prefix_refl _) s .nil
  | k :: ks, ev :: evs, H, G1, ρ1, S1, Q, rs, S', hl, s, l, e, q => by
    obtain ⟨⟨x, S2⟩, e1, e⟩ := okOr_some e
    obtain ⟨⟨xs, S3⟩, e2, e⟩ := okOr_some e
    obtain ⟨rfl, rfl⟩ := res_eq e
    refine ⟨F, G1, ρ1, S1, L, x, S2, s, l, e1, fun G2 ρ2 H2 v2 g2 p2 s2 q2 => ?_⟩
    refine pairs_read ks evs H2 G2 ρ2 S2 _ xs S3 (by simpa using hl) s2 (lok_mono g2 p2 l) e2 fun G3 ρ3 H3 vs g3 p3 s3 q3 => ?_
    exact q G3 ρ3 H3 (v2 :: vs) (g2.trans g3) (p2.trans p3) s3 (.cons (rv_mono g3 p3 q2) q3)
  | [], _ :: _, _, _, _, _, _, _, _, hl, _, _, _, _ => by simp at hl
  | _ :: _, [], _, _, _, _, _, _, _, hl, _, _, _, _ => by simp at hl
theorem kd_merge {K : PySem.W.Frag} {G : Hp} : ∀ (ks : List Str) (vs : List V) (ds : List D) (acc : List (Key × V)) (accD : List (Key × D)), ks.length = ds.length → DVs K G vs ds → KD K G acc accD →
    KD K G (((ks.zip vs).map fun p => ((Sum.inr p.1 : Key), p.2)).foldl (fun acc kv => putK acc kv.1 kv.2) acc) (putS accD ks ds)
  | [], vs, ds, acc, accD, hl, h, k => by
    cases ds with
    | nil => cases h; exact k
    | cons _ _ => simp at hl
  | x :: ks, _, _, acc, accD, hl, .nil, k => by simp at hl
  | x :: ks, _, _, acc, accD, hl, .cons h t, k => kd_merge ks _ _ _ _ (by simpa using hl) t (kd_put h k)
theorem e_dic {ks : List Str} {keys : List (Option Expr)} {values : List Expr} {evs : List Ev} (h : PPs X pos keys values ((ks.zip evs).map fun p => pairE (X := X) p.1 p.2)) (hall : keys.all (·.isSome) = true) (hlen : keys.length = values.length) (h0 : keys ≠ [])
    (h15 : keys.length ≤ 15) (hk : ks.length = evs.length) :
    PE X (.Dict keys values pos) (tE X.K fun L S => okOr ((evs.foldr (fun (e : Ev) (k : Evs) => fun L S => okOr (e L S) fun (x, S1) => okOr (k L S1) fun (xs, S2) => some (x :: xs, S2)) (fun _ S => some ([], S))) L S) fun (rs, S1) => okOr (asDs rs) fun ds => if ds.length = ks.length ∧ ks.length ≤ 15 ∧ ks ≠ [] then some (.ref S1.length, S1 ++ [.dic (putS [] ks ds)]) else none) := by
  refine PE.weak (pe_disp h hall hlen h0 h15) fun σ H Q hw => ?_
  obtain ⟨F, G, ρ, S, L, r, S', s, l, e, q⟩ := hw
  obtain ⟨⟨rs, S1⟩, e1, e⟩ := okOr_some e
  obtain ⟨ds, e2, e⟩ := okOr_some e
  obtain ⟨⟨c1, c2, c3⟩, e⟩ := some_if e
  obtain ⟨rfl, rfl⟩ := res_eq (congrArg some e)
  intro p hp
  have hf : F p = none := Same.free s.subF hp
  refine pairs_read (F := upd F p (.dK [])) (L := L) ks evs _ G ρ S _ rs S1 hk (s.hold hp) l e1 fun G1 ρ1 H1 vs g1 p1 s1 q1 => ?_
  have hd := rvs_dvs q1 e2
  refine ⟨s1.heldAt, (ks.zip vs).map fun p => (Sum.inr p.1, p.2), ?_, ?_, ?_⟩
  · rw [List.map_map]
    have : ∀ (ks : List Str) (vs : List V), (ks.map V.str).zip vs = (ks.zip vs).map ((fun kv : Key × V => (kV kv.1, kv.2)) ∘ fun p => (Sum.inr p.1, p.2)) := fun ks => by
      induction ks with
      | nil => intro vs; rfl
      | cons x ks ih =>
        intro vs
        cases vs with
        | nil => rfl
        | cons v vs =>
          rw [List.map_cons, List.zip_cons_cons, List.zip_cons_cons, List.map_cons, ih vs]
          rfl
    exact this ks vs
  · rw [List.length_map, List.length_zip]
    exact Nat.le_trans (Nat.min_le_left _ _) c2
  · refine q G1 (ρ1 ++ [p]) _ _ g1 (p1.trans (List.prefix_append _ _)) (s1.heldNew hf (b := .dic (putS [] ks ds)) ⟨_, rfl, ?_⟩) ⟨p, ?_, rfl⟩
    · exact kd_merge ks vs ds [] [] c1.symm hd .nil
    · rw [List.getElem?_append_right (by rw [s1.len]; exact Nat.le_refl _), s1.len, Nat.sub_self]; rfl
theorem isS_some {x : R} (h : isS x = true) : ∃ z, x = .d (.str z) := by
  unfold isS at h
  split at h
  · exact ⟨_, rfl⟩
  · cases h
theorem e_join (ha : PE X a (tE X.K ea)) (hb : PE X b (tE X.K eb)) (hbase : attributeBase a "join" X.env (eval a X.env) = eval a X.env) (hl : (apos.endLine == pos.line) = true) (h1 : ∀ e' p, b ≠ .Starred e' p) :
    PE X (.Call (.Attribute a "join" apos) [b] [] pos) (tE X.K fun L S => okOr (ea L S) fun (x, S1) => guardB (isS x) (okOr (eb L S1) fun (y, S2) => okOr (bin2 gJoin x y S2) fun d => some (.d d, S2))) := by
  refine PE.weak (pe_m1 PySem.F.slot_str_join PySem.F.type_str_join m_join ha hb (star1 h1 []) hbase hl) fun σ H Q h => ?_
  obtain ⟨F, G, ρ, S, L, r, S', s, l, e, q⟩ := h
  obtain ⟨⟨x, S1⟩, e1, e⟩ := okOr_some e
  obtain ⟨hd, e⟩ := guardB_some e
  obtain ⟨z, rfl⟩ := isS_some hd
  obtain ⟨⟨y, S2⟩, e2, e⟩ := okOr_some e
  obtain ⟨d, e3, e⟩ := okOr_some e
  obtain ⟨rfl, rfl⟩ := res_eq e
  obtain ⟨dx, dy, hx, hy, hg⟩ := bin2_some e3
  refine ⟨F, G, ρ, S, L, _, S1, s, l, e1, fun G1 ρ1 H1 v1 g1 p1 s1 q1 => ?_⟩
  refine ⟨by cases q1; exact ⟨_, rfl⟩, F, G1, ρ1, S1, L, _, S2, s1, lok_mono g1 p1 l, e2, fun G2 ρ2 H2 v2 g2 p2 s2 q2 => ?_⟩
  exact ⟨v2, rfl, F, G2, ρ2, S2, dx, dy, d, s2, view_ok s2 (rv_mono g2 p2 q1) hx, view_ok s2 q2 hy, hg, q.mono (g1.trans g2) (p1.trans p2)⟩
/-- a dict that is written in the module, and never changed: what it holds of each text -/
def KTab (K : PySem.W.Frag) (w : World) (a : Addr) (tab : List (Str × D)) : Prop := ∃ es n, K.lookup a = some ⟨.type "dict", none, .dict es n, #[]⟩ ∧ PySem.W.KeysLit w.params es.toList ∧ (a == sysModules) = false ∧
  ∀ z : Str, ∃ r, PySem.W.nsIn K a z = some r ∧ match tab.lookup z with
    | some d => ∃ u v, r = some u ∧ RelV v u ∧ ∀ G, DV K G v d
    | none => r = none
theorem m1_of {o e : Expr} {m : Str} {cpos : Pos} (hb : attributeBase o m X.env (eval o X.env) = eval o X.env) (hl : (apos.endLine == cpos.line) = true) (h1 : ∀ e' p, e ≠ .Starred e' p) : M1 X o m apos e cpos := by
  have e1 : starEach [e] X.env = [(false, eval e X.env)] := by rw [star1 h1]; rfl
  refine ⟨hb, ?_, hl, ?_⟩
  · rw [e1]; rfl
  · rw [e1]; rfl
theorem getTab_some {tab : List (Str × D)} {y : R} {d : D} (h : getTab tab y = some d) : ∃ z, y = .d (.str z) ∧ d = (tab.lookup z).getD .none := by
  unfold getTab at h
  split at h
  · cases h; exact ⟨_, rfl, rfl⟩
  · cases h
theorem e_gget {x : Str} {p : Pos} {addr : Addr} {tab : List (Str × D)} (hg : Gl X x) (hm : X.mg x = some (.ref addr)) (hdb : (x == ("__debug__" : Str)) = false) (kt : KTab X.K X.w addr tab) (hb : PE X b (tE X.K eb))
    (m : M1 X (.Name x p) "get" apos b pos) : PE X (.Call (.Attribute (.Name x p) "get" apos) [b] [] pos) (tE X.K fun L S => okOr (eb L S) fun (y, S1) => okOr (getTab tab y) fun d => some (.d d, S1)) := by
  obtain ⟨es, n, hk, lit, low, all⟩ := kt
  refine ⟨fun pins s0 σ H Q I h => ?_⟩
  refine wpAny_Call_method m.base m.few m.line PySem.F.plainAttrs_dict PySem.F.slot_dict_get PySem.F.type_dict_get (thn ((pe_glob (v := .ref addr) hg hm rfl hdb).run pins s0 σ H (fun v H' => v = .ref addr ∧ tE X.K (fun L S => okOr (eb L S) fun (y, S1) => okOr (getTab tab y) fun d => some (.d d, S1)) σ H' Q) I ⟨rfl, h⟩) fun u s1 ⟨v1, H1, I1, rx, ev, h⟩ => ?_)
  subst ev
  obtain rfl : u = Value.ref addr := rx
  have mo := PySem.W.mapOf_K (prog := X.prog) (w := X.w) I1.kIn hk lit
  refine ⟨mo.typeIs, fun b hb => ?_, ?_⟩
  · cases hb
    exact ⟨_, I1.kIn _ _ hk, rfl⟩
  rw [m.trees]
  obtain ⟨F, G, ρ, S, L, r, S', s, l, e, q⟩ := h
  obtain ⟨⟨y, S1⟩, e1, e⟩ := okOr_some e
  obtain ⟨d, e2, e⟩ := okOr_some e
  obtain ⟨rfl, rfl⟩ := res_eq e
  obtain ⟨z, rfl, rfl⟩ := getTab_some e2
  refine Calls.callWith_builtin rfl (Calls.evalArgs_plain (Calls.spliced_cons (thn (hb.run pins s1 σ H1 (fun v H' => v = .str z ∧ ∃ G1 ρ1, SOk X.K F G1 ρ1 S1 H' ∧ Post X.K F G1 ρ1 S1 (.d ((tab.lookup z).getD .none)) Q) I1
    ⟨F, G, ρ, S, L, _, S1, s, l, e1, fun G1 ρ1 H2 v2 g1 p1 s2 q2 => ⟨by cases q2; rfl, G1, ρ1, s2, q.mono g1 p1⟩⟩) fun iv s2 ⟨v2, H2, I2, ry, ev, G1, ρ1, sk, q2⟩ => Calls.spliced_nil ?_)))
  subst ev
  obtain ⟨t, rfl⟩ := (show ∃ t, iv = Value.str z t from ry)
  have mo2 := PySem.W.mapOf_K (prog := X.prog) (w := X.w) I2.kIn hk lit
  refine PySem.call_meetsIn PySem.F.slot_dict_get mo2.typeIs PySem.F.entry_dict_get (PySem.F.args_dict_get_2 _ _) (PySem.meets_dict_get (strKind X.prog X.w) addr (strKind_is X.prog X.w z t) low) ⟨_, mo2, ?_⟩
  obtain ⟨r0, hr, c⟩ := all z
  rw [PySem.W.find_K hk hr]
  cases hz : tab.lookup z with
  | none =>
    rw [hz] at c q2
    subst c
    exact ⟨.non, H2, I2.tok _, rfl, q2.now sk .non⟩
  | some d =>
    rw [hz] at c q2
    obtain ⟨u, v, rfl, ru, dv⟩ := c
    exact ⟨v, H2, I2.tok _, ru, q2.now sk (dv _)⟩
theorem getTab2_some {tab : List (Str × D)} {y z : R} {d : D} (h : getTab2 tab y z = some d) : ∃ s e, y = .d (.str s) ∧ z = .d e ∧ d = (tab.lookup s).getD e := by
  unfold getTab2 at h
  split at h
  · cases h; exact ⟨_, _, rfl, rfl, rfl⟩
  · cases h
theorem e_gget2 {x : Str} {p : Pos} {addr : Addr} {tab : List (Str × D)} (hg : Gl X x) (hm : X.mg x = some (.ref addr)) (hdb : (x == ("__debug__" : Str)) = false) (kt : KTab X.K X.w addr tab) (hb : PE X b (tE X.K eb)) (hc : PE X c (tE X.K ec))
    (m : M2 X (.Name x p) "get" apos b c pos) : PE X (.Call (.Attribute (.Name x p) "get" apos) [b, c] [] pos) (tE X.K fun L S => okOr (eb L S) fun (y, S1) => okOr (ec L S1) fun (z, S2) => okOr (getTab2 tab y z) fun d => some (.d d, S2)) := by
  obtain ⟨es, n, hk, lit, low, all⟩ := kt
  refine ⟨fun pins s0 σ H Q I h => ?_⟩
  refine wpAny_Call_method m.base m.few m.line PySem.F.plainAttrs_dict PySem.F.slot_dict_get PySem.F.type_dict_get (thn ((pe_glob (v := .ref addr) hg hm rfl hdb).run pins s0 σ H (fun v H' => v = .ref addr ∧ tE X.K (fun L S => okOr (eb L S) fun (y, S1) => okOr (ec L S1) fun (z, S2) => okOr (getTab2 tab y z) fun d => some (.d d, S2)) σ H' Q) I ⟨rfl, h⟩) fun u s1 ⟨v1, H1, I1, rx, ev, h⟩ => ?_)
  subst ev
  obtain rfl : u = Value.ref addr := rx
  have mo := PySem.W.mapOf_K (prog := X.prog) (w := X.w) I1.kIn hk lit
  refine ⟨mo.typeIs, fun b hb => ?_, ?_⟩
  · cases hb
    exact ⟨_, I1.kIn _ _ hk, rfl⟩
  rw [m.trees]
  obtain ⟨F, G, ρ, S, L, r, S', s, l, e, q⟩ := h
  obtain ⟨⟨y, S1⟩, e1, e⟩ := okOr_some e
  obtain ⟨⟨y2, S2⟩, e2, e⟩ := okOr_some e
  obtain ⟨d, e3, e⟩ := okOr_some e
  obtain ⟨rfl, rfl⟩ := res_eq e
  obtain ⟨z, dz, rfl, rfl, rfl⟩ := getTab2_some e3
  refine Calls.callWith_builtin rfl (Calls.evalArgs_plain (Calls.spliced_cons (thn (hb.run pins s1 σ H1 (fun v H' => v = .str z ∧ ∃ G1 ρ1, SOk X.K F G1 ρ1 S1 H' ∧ Same G G1 ∧ ρ <+: ρ1) I1
    ⟨F, G, ρ, S, L, _, S1, s, l, e1, fun G1 ρ1 H2 v2 g1 p1 s2 q2 => ⟨by cases q2; rfl, G1, ρ1, s2, g1, p1⟩⟩) fun iv s2 ⟨v2, H2, I2, ry, ev, G1, ρ1, sk, g1, p1⟩ => Calls.spliced_cons (thn (hc.run pins s2 σ H2 (fun v H' => ∃ G2 ρ2, SOk X.K F G2 ρ2 S2 H' ∧ RV X.K G2 ρ2 (.d dz) v ∧ Post X.K F G2 ρ2 S2 (.d ((tab.lookup z).getD dz)) Q) I2
    ⟨F, G1, ρ1, S1, L, _, S2, sk, lok_mono g1 p1 l, e2, fun G2 ρ2 H3 v3 g2 p2 s3 q3 => ⟨G2, ρ2, s3, q3, q.mono (g1.trans g2) (p1.trans p2)⟩⟩) fun jv s3 ⟨v3, H3, I3, rz, G2, ρ2, sk3, qz, q2⟩ => Calls.spliced_nil ?_))))
  subst ev
  obtain ⟨t, rfl⟩ := (show ∃ t, iv = Value.str z t from ry)
  have mo2 := PySem.W.mapOf_K (prog := X.prog) (w := X.w) I3.kIn hk lit
  refine PySem.call_meetsIn PySem.F.slot_dict_get mo2.typeIs PySem.F.entry_dict_get (PySem.F.args_dict_get_3 _ _ _) (PySem.meets_dict_get_default (strKind X.prog X.w) addr (strKind_is X.prog X.w z t) low _) ⟨_, mo2, ?_⟩
  obtain ⟨r0, hr, c⟩ := all z
  rw [PySem.W.find_K hk hr]
  cases hz : tab.lookup z with
  | none =>
    rw [hz] at c q2
    subst c
    exact ⟨v3, H3, I3.tok _, rz, q2.now sk3 qz⟩
  | some d =>
    rw [hz] at c q2
    obtain ⟨u, v, rfl, ru, dv⟩ := c
    exact ⟨v, H3, I3.tok _, ru, q2.now sk3 (dv _)⟩
theorem ixTab_some {tab : List (Str × D)} {y : R} {d : D} (h : ixTab tab y = some d) : ∃ z, y = .d (.str z) ∧ tab.lookup z = some d := by
  unfold ixTab at h
  split at h
  · exact ⟨_, rfl, h⟩
  · cases h
theorem e_gix {x : Str} {p : Pos} {addr : Addr} {tab : List (Str × D)} (hg : Gl X x) (hm : X.mg x = some (.ref addr)) (hdb : (x == ("__debug__" : Str)) = false) (kt : KTab X.K X.w addr tab) (hb : PE X b (tE X.K eb)) (hp : PlainIx b) :
    PE X (.Subscript (.Name x p) b pos) (tE X.K fun L S => okOr (eb L S) fun (y, S1) => okOr (ixTab tab y) fun d => some (.d d, S1)) := by
  obtain ⟨es, n, hk, lit, low, all⟩ := kt
  refine PE.weak (pe_ix ix_kdict (pe_glob (v := .ref addr) hg hm rfl hdb) hb hp) fun σ H Q h => ?_
  obtain ⟨F, G, ρ, S, L, r, S', s, l, e, q⟩ := h
  obtain ⟨⟨y, S1⟩, e1, e⟩ := okOr_some e
  obtain ⟨d, e2, e⟩ := okOr_some e
  obtain ⟨rfl, rfl⟩ := res_eq e
  obtain ⟨z, rfl, hz⟩ := ixTab_some e2
  refine ⟨F, G, ρ, S, L, _, S1, s, l, e1, fun G1 ρ1 H1 v1 g1 p1 s1 q1 => ?_⟩
  obtain ⟨r0, hr, c⟩ := all z
  rw [hz] at c
  obtain ⟨u, v, rfl, ru, dv⟩ := c
  cases q1
  exact ⟨addr, z, v, rfl, rfl, ⟨es, n, u, hk, lit, hr, ru⟩, (q.mono g1 p1).now s1 (dv _)⟩
theorem inTab_some {tab : List (Str × D)} {y : R} {b : Bool} (h : inTab tab y = some b) : ∃ z, y = .d (.str z) ∧ (tab.lookup z).isSome = b := by
  unfold inTab at h
  split at h
  · cases h; exact ⟨_, rfl, rfl⟩
  · cases h
theorem tab_in {K : PySem.W.Frag} {w : World} {addr : Addr} {tab : List (Str × D)} (kt : KTab K w addr tab) (z : Str) : ∃ es n r, KDict K w addr es n ∧ PySem.W.nsIn K addr z = some r ∧ r.isSome = (tab.lookup z).isSome := by
  obtain ⟨es, n, hk, lit, low, all⟩ := kt
  obtain ⟨r0, hr, c⟩ := all z
  refine ⟨es, n, r0, ⟨hk, lit, low⟩, hr, ?_⟩
  cases hz : tab.lookup z with
  | none => rw [hz] at c; rw [c]; rfl
  | some d => rw [hz] at c; obtain ⟨u, v, rfl, _⟩ := c; rfl
/-- in a written dict -/
def rTab (neg : Bool) (addr : Addr) (tab : List (Str × D)) : R2 := fun x y H Q => ∃ z, x = .str z ∧ y = .ref addr ∧ Q (.bl (if neg = true then !(tab.lookup z).isSome else (tab.lookup z).isSome)) H
theorem o_tab {addr : Addr} {tab : List (Str × D)} (kt : KTab X.K X.w addr tab) : OpR X (compareOp .In) (rTab false addr tab) := by
  intro pins s σ H x y v u Q I rx ry h
  obtain ⟨z, rfl, rfl, q⟩ := h
  obtain ⟨es, n, r, kd, hr, hs⟩ := tab_in kt z
  exact op_in_kd kd pins s σ H _ _ v u Q I rx ry ⟨z, r, rfl, rfl, hr, by rw [hs]; exact q⟩
theorem o_tabN {addr : Addr} {tab : List (Str × D)} (kt : KTab X.K X.w addr tab) : OpR X (compareOp .NotIn) (rTab true addr tab) := by
  intro pins s σ H x y v u Q I rx ry h
  obtain ⟨z, rfl, rfl, q⟩ := h
  obtain ⟨es, n, r, kd, hr, hs⟩ := tab_in kt z
  exact op_notIn_kd kd pins s σ H _ _ v u Q I rx ry ⟨z, r, rfl, rfl, hr, by rw [hs]; exact q⟩
def inOp (neg : Bool) : CmpOp := if neg = true then .NotIn else .In
abbrev evGin (neg : Bool) (tab : List (Str × D)) (eb : Ev) : Ev := fun L S => okOr (eb L S) fun (y, S1) => okOr (inTab tab y) fun b => some (.d (.bool (if neg = true then !b else b)), S1)
theorem gin_read {K : PySem.W.Frag} {neg : Bool} {addr : Addr} {tab : List (Str × D)} {σ : L2.St} {H : Hp} {Q : VK} (h : tE K (evGin neg tab eb) σ H Q) : tOp (rTab neg addr tab) (tE K eb) (tC (.ref addr)) σ H Q := by
  obtain ⟨F, G, ρ, S, L, r, S', s, l, e, q⟩ := h
  obtain ⟨⟨y, S1⟩, e1, e⟩ := okOr_some e
  obtain ⟨b, e2, e⟩ := okOr_some e
  obtain ⟨rfl, rfl⟩ := res_eq e
  obtain ⟨z, rfl, rfl⟩ := inTab_some e2
  exact ⟨F, G, ρ, S, L, _, S1, s, l, e1, fun G1 ρ1 H1 v1 g1 p1 s1 q1 => ⟨z, by cases q1; rfl, rfl, (q.mono g1 p1).bl s1⟩⟩
theorem e_gin {neg : Bool} {x : Str} {p : Pos} {addr : Addr} {tab : List (Str × D)} (hg : Gl X x) (hm : X.mg x = some (.ref addr)) (hdb : (x == ("__debug__" : Str)) = false) (kt : KTab X.K X.w addr tab) (hb : PE X b (tE X.K eb)) :
    PE X (.Compare b [inOp neg] [.Name x p] pos) (tE X.K (evGin neg tab eb)) ∧ PT X (.Compare b [inOp neg] [.Name x p] pos) (tT X.K (tstE (evGin neg tab eb))) := by
  have hn : PE X (.Name x p) (tC (.ref addr)) := pe_glob (v := .ref addr) hg hm rfl hdb
  have bool : ∀ L S r S', evGin neg tab eb L S = some (r, S') → ∃ k, r = .d (.bool k) := fun L S r S' e => by
    obtain ⟨⟨y, S1⟩, _, e⟩ := okOr_some e
    obtain ⟨k, _, e⟩ := okOr_some e
    obtain ⟨rfl, rfl⟩ := res_eq e
    exact ⟨_, rfl⟩
  cases neg with
  | false =>
    exact ⟨PE.weak (pe_cmpR (o_tab kt) hb hn rfl) fun σ H Q h => gin_read (neg := false) h, PT.weak (pt_cmpR (o_tab kt) hb hn rfl) fun σ H Q h => gin_read (neg := false) (tst_bool (t := fun _ _ _ => True) bool h)⟩
  | true =>
    exact ⟨PE.weak (pe_cmpR (o_tabN kt) hb hn rfl) fun σ H Q h => gin_read (neg := true) h, PT.weak (pt_cmpR (o_tabN kt) hb hn rfl) fun σ H Q h => gin_read (neg := true) (tst_bool (t := fun _ _ _ => True) bool h)⟩
/-- repr of a new list of values that can be seen -/
theorem viewAll_dp {K : PySem.W.Frag} {F G0 G : Hp} {ρ : List Addr} {S : Sto} {H : Hp} (s : SOk K F G ρ S H) (g : Same G0 G) : ∀ {rs : List R} {vs : List V} {ds : List D}, RVs K G0 ρ rs vs → viewAll rs S = some ds → DpAll K H vs ds ∧ vs.length = ds.length
  | _, _, _, .nil, e => by cases e; exact ⟨.nil, rfl⟩
  | _, _, _, .cons (r := r) (rs := rs) h t, e => by
    simp only [viewAll] at e
    split at e
    · rename_i d ds h1 h2
      cases e
      obtain ⟨a, b⟩ := viewAll_dp s g t h2
      exact ⟨.cons ((view_ok s (rv_mono g (List.prefix_refl _) h) h1).dp s) a, by rw [List.length_cons, List.length_cons, b]⟩
    · cases e
theorem c_reprD {X : Cx} (hg : X.A.guards = some []) (hu : X.A.units + 64 < cLine) : CallR X (.builtin "repr") (fun xs H Q => ∃ a ds d F G ρ S, xs = [.ref a] ∧ SOk X.K F G ρ S H ∧ Dp X.K H (.ref a) (.list ds) ∧ gRepr (.list ds) = some d ∧ Post X.K F G ρ S (.d d) Q) := by
  intro pins s σ H xs us Q I r h
  obtain ⟨a, ds, d, F, G, ρ, S, rfl, sk, hx, e, q⟩ := h
  obtain ⟨u, rfl, r1⟩ := vals1 r
  obtain ⟨ok, rfl⟩ := some_if (show (if shownOk (.list ds) = true then some (PyData.str (PyData.shown (.list ds))) else none) = some d from e)
  obtain ⟨h1, h2, h3, h4⟩ := shownOk_and ok
  obtain ⟨as, rd⟩ := Dp.reads I _ _ _ hx r1
  obtain rfl : u = Value.ref a := r1
  exact repr_of_reads' rd h1 (PyData.noDict_hsm h3) hg (by omega) (fun _ _ e => e) (fun h' t tk hk => ⟨.str _, H, I.kept hk, ⟨_, rfl⟩, q.now sk (.str _)⟩) h4
theorem e_reprL {X : Cx} {es : List Expr} {eas : Evs} {p lp pos : Pos} (hgd : X.A.guards = some []) (hun : X.A.units + 64 < cLine) (hg : Gl X "repr") (hm : X.mg "repr" = none) (h : PA X es (tA X.K eas)) :
    PE X (.Call (.Name "repr" p) [.List es lp] [] pos) (tE X.K fun L S => okOr (eas L S) fun (rs, S1) => okOr (viewAll rs S1) fun ds => if ds.length ≤ sizeLine then okOr (gRepr (.list ds)) fun d => some (.d d, S1) else none) := by
  refine PE.weak (pe_callB (c_reprD hgd hun) hg hm (by decide +kernel) (pa_cons (pe_lst h) pa_nil rfl) (by decide) (by decide) rfl rfl) fun σ H Q h => ?_
  obtain ⟨F, G, ρ, S, L, r, S', s, l, e, q⟩ := h
  obtain ⟨⟨rs, S1⟩, e1, e⟩ := okOr_some e
  obtain ⟨ds, e2, e⟩ := okOr_some e
  split at e
  · rename_i c
    obtain ⟨d, e3, e⟩ := okOr_some e
    obtain ⟨rfl, rfl⟩ := res_eq e
    refine ⟨F, G, ρ, S, L, rs, S1, s, l, e1, fun G1 ρ1 H1 vs g1 p1 s1 q1 => ?_⟩
    have hl := (viewAll_dp s1 (Same.refl _) q1 e2).2
    refine ⟨by rw [hl]; exact c, fun p hp => ?_⟩
    obtain ⟨s2, g2⟩ := s1.fix (o := .lst vs) hp
    exact ⟨p, ds, d, F, _, ρ1, S1, rfl, s2, .lst (.of upd_same) (viewAll_dp s2 g2 q1 e2).1, e3, q.mono (g1.trans g2) p1⟩
  · cases e
end
end PL
end
section
set_option maxHeartbeats 2000000
namespace PL
open PySem PySem.Spec PyProof.Rows L2
/-- what a loop draws: these data, while the lock holds -/
structure Feed (K : PySem.W.Frag) (G : Hp) (ρ : List Addr) (J : It) (ds : List D) (lk : Lk) : Prop where
  go : ∀ (F' G' : Hp) (ρ' : List Addr) (S' : Sto) (H' : Hp) (i : Nat) (d : D), Same G G' → ρ <+: ρ' → SOk K F' G' ρ' S' H' → lockB lk S' = true → ds[i]? = some d → J.go i H'
  yld : ∀ (F' G' : Hp) (ρ' : List Addr) (S' : Sto) (H' : Hp) (i : Nat) (d : D) (x : V) (H2 : Hp), Same G G' → ρ <+: ρ' → SOk K F' G' ρ' S' H' → lockB lk S' = true → ds[i]? = some d → J.yld i H' x H2 → ∃ G2, Same G' G2 ∧ SOk K F' G2 ρ' S' H2 ∧ DV K G2 x d
  stop : ∀ (F' G' : Hp) (ρ' : List Addr) (S' : Sto) (H' : Hp) (i : Nat), Same G G' → ρ <+: ρ' → SOk K F' G' ρ' S' H' → lockB lk S' = true → ds.length ≤ i → J.stop i H'
abbrev EvI := Loc → Sto → Option (List D × Lk × Sto)
def tI (K : PySem.W.Frag) (ev : EvI) : TI := fun σ H R => ∃ F G ρ S L ds lk S', SOk K F G ρ S H ∧ LOk K G ρ L σ ∧ ev L S = some (ds, lk, S') ∧ lockB lk S' = true ∧
  ∀ (J : It) (G' : Hp) (ρ' : List Addr) (H' : Hp), Same G G' → ρ <+: ρ' → SOk K F G' ρ' S' H' → Feed K G' ρ' J ds lk → R J H'
section
variable {K : PySem.W.Frag}
theorem feed_list {G : Hp} {ρ : List Addr} {a : Addr} {vs : List V} {ds : List D} (h : G a = some (.lst vs)) (hv : DVs K G vs ds) : Feed K G ρ (Itl K a) ds none where
  go := fun F' G' ρ' S' H' i d e p s lk hd => by
    obtain ⟨v, h1, _⟩ := dvs_get hv hd
    exact ⟨vs, v, .of (s.subG _ _ (e _ _ h)), h1⟩
  yld := fun F' G' ρ' S' H' i d x H2 e p s lk hd y => by
    obtain ⟨rfl, y⟩ := y
    obtain ⟨v, h1, h2⟩ := dvs_get hv hd
    have := y vs (.of (s.subG _ _ (e _ _ h)))
    rw [h1] at this; cases this
    exact ⟨G', Same.refl _, s, dv_mono e _ _ h2⟩
  stop := fun F' G' ρ' S' H' i e p s lk hd => ⟨vs, .of (s.subG _ _ (e _ _ h)), by rw [dvs_len hv]; exact hd⟩
theorem feed_tup {G : Hp} {ρ : List Addr} {a : Addr} {vs : List V} {ds : List D} (h : SqT K G a vs) (hv : DVs K G vs ds) : Feed K G ρ (Itt K a) ds none where
  go := fun F' G' ρ' S' H' i d e p s lk hd => by
    obtain ⟨v, h1, _⟩ := dvs_get hv hd
    exact ⟨vs, v, Same.sqt s.subG (Same.sqt e h), h1⟩
  yld := fun F' G' ρ' S' H' i d x H2 e p s lk hd y => by
    obtain ⟨rfl, y⟩ := y
    obtain ⟨v, h1, h2⟩ := dvs_get hv hd
    have := y vs (Same.sqt s.subG (Same.sqt e h))
    rw [h1] at this; cases this
    exact ⟨G', Same.refl _, s, dv_mono e _ _ h2⟩
  stop := fun F' G' ρ' S' H' i e p s lk hd => ⟨vs, Same.sqt s.subG (Same.sqt e h), by rw [dvs_len hv]; exact hd⟩
theorem lockB_some {n : Nat} {xs : List D} {S : Sto} (h : lockB (some (n, xs)) S = true) : S[n]? = some (.lst xs) := by
  simp only [lockB] at h
  split at h
  · rename_i ys hy
    rw [hy, dEqs_eq _ _ h]
  · cases h
theorem feed_ref {G : Hp} {ρ : List Addr} {a : Addr} {n : Nat} {ds : List D} (h : ρ[n]? = some a) : Feed K G ρ (Itl K a) ds (some (n, ds)) where
  go := fun F' G' ρ' S' H' i d e p s lk hd => by
    obtain ⟨o, ho, vs, rfl, hv⟩ := s.obj n _ a (lockB_some lk) (pre_get p h)
    obtain ⟨v, h1, _⟩ := dvs_get hv hd
    exact ⟨vs, v, .of ho, h1⟩
  yld := fun F' G' ρ' S' H' i d x H2 e p s lk hd y => by
    obtain ⟨rfl, y⟩ := y
    obtain ⟨o, ho, vs, rfl, hv⟩ := s.obj n _ a (lockB_some lk) (pre_get p h)
    obtain ⟨v, h1, h2⟩ := dvs_get hv hd
    have := y vs (.of ho)
    rw [h1] at this; cases this
    exact ⟨G', Same.refl _, s, h2⟩
  stop := fun F' G' ρ' S' H' i e p s lk hd => by
    obtain ⟨o, ho, vs, rfl, hv⟩ := s.obj n _ a (lockB_some lk) (pre_get p h)
    exact ⟨vs, .of ho, by rw [dvs_len hv]; exact hd⟩
theorem signs_get {z : Str} {i : Nat} {d : D} (h : (signs z)[i]? = some d) : ∃ c, z.cps[i]? = some c ∧ d = .str ⟨#[c]⟩ := by
  unfold signs at h
  rw [List.getElem?_map] at h
  obtain ⟨c, hc, rfl⟩ := Option.map_eq_some_iff.mp h
  exact ⟨c, by rw [← Array.getElem?_toList]; exact hc, rfl⟩
theorem signs_len (z : Str) : (signs z).length = z.cps.size := by unfold signs; rw [List.length_map, Array.length_toList]
theorem feed_str {G : Hp} {ρ : List Addr} (z : Str) : Feed K G ρ (Its z) (signs z) none where
  go := fun F' G' ρ' S' H' i d e p s lk hd => by
    have := (List.getElem?_eq_some_iff.mp hd).1
    rw [signs_len] at this; exact this
  yld := fun F' G' ρ' S' H' i d x H2 e p s lk hd y => by
    obtain ⟨rfl, c, hc, rfl⟩ := y
    obtain ⟨c', hc', rfl⟩ := signs_get hd
    rw [hc] at hc'; cases hc'
    exact ⟨G', Same.refl _, s, .str _⟩
  stop := fun F' G' ρ' S' H' i e p s lk hd => by
    rw [signs_len] at hd; exact hd
theorem feed_rng {G : Hp} {ρ : List Addr} (n : Nat) : Feed K G ρ (Itr 0 n) ((List.range n).map fun (i : Nat) => PyData.int (i : Int)) none where
  go := fun F' G' ρ' S' H' i d e p s lk hd => by
    have := (List.getElem?_eq_some_iff.mp hd).1
    rw [List.length_map, List.length_range] at this; exact this
  yld := fun F' G' ρ' S' H' i d x H2 e p s lk hd y => by
    obtain ⟨rfl, rfl⟩ := y
    rw [List.getElem?_map] at hd
    obtain ⟨j, hj, rfl⟩ := Option.map_eq_some_iff.mp hd
    rw [List.getElem?_range (by have := (List.getElem?_eq_some_iff.mp hj).1; simpa using this)] at hj
    cases hj
    refine ⟨G', Same.refl _, s, ?_⟩
    rw [Int.zero_add]; exact .int _
  stop := fun F' G' ρ' S' H' i e p s lk hd => by
    rw [List.length_map, List.length_range] at hd; exact hd
theorem zip_len : ∀ (xs ys : List D), (zipD xs ys).length = min xs.length ys.length
  | [], _ => by simp [zipD]
  | _ :: _, [] => by simp [zipD]
  | x :: xs, y :: ys => by simp only [zipD, List.length_cons, zip_len xs ys]; omega
theorem zip_get : ∀ {xs ys : List D} {i : Nat} {d : D}, (zipD xs ys)[i]? = some d → ∃ x y, xs[i]? = some x ∧ ys[i]? = some y ∧ d = .tuple [x, y]
  | [], _, i, d, h => by simp [zipD] at h
  | _ :: _, [], i, d, h => by simp [zipD] at h
  | x :: xs, y :: ys, 0, d, h => by
    simp only [zipD, List.getElem?_cons_zero, Option.some.injEq] at h
    exact ⟨x, y, rfl, rfl, h.symm⟩
  | x :: xs, y :: ys, i + 1, d, h => by
    simp only [zipD, List.getElem?_cons_succ] at h
    obtain ⟨x', y', h1, h2, h3⟩ := zip_get (xs := xs) (ys := ys) (i := i) h
    exact ⟨x', y', by simpa using h1, by simpa using h2, h3⟩
/-- a pair just made -/
theorem pair_new {F G : Hp} {ρ : List Addr} {S : Sto} {H : Hp} (s : SOk K F G ρ S H) {T : Addr} {x y : V} {dx dy : D} (h : H T = none) (hx : DV K G x dx) (hy : DV K G y dy) :
    ∃ G2, Same G G2 ∧ SOk K F G2 ρ S (upd H T (.tup [x, y])) ∧ DV K G2 (.ref T) (.tuple [dx, dy]) := by
  obtain ⟨s2, e⟩ := s.fix (o := .tup [x, y]) h
  exact ⟨_, e, s2, .tup (.of upd_same) (.cons (dv_mono e _ _ hx) (.cons (dv_mono e _ _ hy) .nil))⟩
theorem feed_zipL {G : Hp} {ρ : List Addr} {a b : Addr} {vs ws : List V} {ds es : List D} (h : G a = some (.lst vs)) (hv : DVs K G vs ds) (k : G b = some (.lst ws)) (kv : DVs K G ws es) : Feed K G ρ (Itz K a b) (zipD ds es) none where
  go := fun F' G' ρ' S' H' i d e p s lk hd => by
    obtain ⟨x, y, h1, h2, _⟩ := zip_get hd
    obtain ⟨v, v1, _⟩ := dvs_get hv h1
    obtain ⟨w, w1, _⟩ := dvs_get kv h2
    exact ⟨vs, ws, v, w, .of (s.subG _ _ (e _ _ h)), .of (s.subG _ _ (e _ _ k)), v1, w1⟩
  yld := fun F' G' ρ' S' H' i d x H2 e p s lk hd y => by
    obtain ⟨T, x1, y1, rfl, hT, rfl, q1, q2⟩ := y
    obtain ⟨dx, dy, h1, h2, rfl⟩ := zip_get hd
    obtain ⟨v, v1, hv'⟩ := dvs_get hv h1
    obtain ⟨w, w1, kv'⟩ := dvs_get kv h2
    have e1 := q1 vs (.of (s.subG _ _ (e _ _ h)))
    have e2 := q2 ws (.of (s.subG _ _ (e _ _ k)))
    rw [v1] at e1; cases e1
    rw [w1] at e2; cases e2
    exact pair_new s hT (dv_mono e _ _ hv') (dv_mono e _ _ kv')
  stop := fun F' G' ρ' S' H' i e p s lk hd => by
    rw [zip_len] at hd
    refine ⟨vs, ws, .of (s.subG _ _ (e _ _ h)), .of (s.subG _ _ (e _ _ k)), ?_⟩
    rw [dvs_len hv, dvs_len kv]; omega
theorem feed_zipT {G : Hp} {ρ : List Addr} {a b : Addr} {vs ws : List V} {ds es : List D} (h : SqT K G a vs) (hv : DVs K G vs ds) (k : SqT K G b ws) (kv : DVs K G ws es) : Feed K G ρ (RZ.ItzT K a b) (zipD ds es) none where
  go := fun F' G' ρ' S' H' i d e p s lk hd => by
    obtain ⟨x, y, h1, h2, _⟩ := zip_get hd
    obtain ⟨v, v1, _⟩ := dvs_get hv h1
    obtain ⟨w, w1, _⟩ := dvs_get kv h2
    exact ⟨vs, ws, v, w, Same.sqt s.subG (Same.sqt e h), Same.sqt s.subG (Same.sqt e k), v1, w1⟩
  yld := fun F' G' ρ' S' H' i d x H2 e p s lk hd y => by
    obtain ⟨T, x1, y1, rfl, hT, rfl, q1, q2⟩ := y
    obtain ⟨dx, dy, h1, h2, rfl⟩ := zip_get hd
    obtain ⟨v, v1, hv'⟩ := dvs_get hv h1
    obtain ⟨w, w1, kv'⟩ := dvs_get kv h2
    have e1 := q1 vs (Same.sqt s.subG (Same.sqt e h))
    have e2 := q2 ws (Same.sqt s.subG (Same.sqt e k))
    rw [v1] at e1; cases e1
    rw [w1] at e2; cases e2
    exact pair_new s hT (dv_mono e _ _ hv') (dv_mono e _ _ kv')
  stop := fun F' G' ρ' S' H' i e p s lk hd => by
    rw [zip_len] at hd
    refine ⟨vs, ws, Same.sqt s.subG (Same.sqt e h), Same.sqt s.subG (Same.sqt e k), ?_⟩
    rw [dvs_len hv, dvs_len kv]; omega
theorem enum_len : ∀ (n : Nat) (xs : List D), (enumD n xs).length = xs.length
  | _, [] => rfl
  | n, x :: xs => by simp only [enumD, List.length_cons, enum_len (n + 1) xs]
theorem enum_get : ∀ {xs : List D} {n i : Nat} {d : D}, (enumD n xs)[i]? = some d → ∃ x, xs[i]? = some x ∧ d = .tuple [.int ((n + i : Nat) : Int), x]
  | [], n, i, d, h => by simp [enumD] at h
  | x :: xs, n, 0, d, h => by
    simp only [enumD, List.getElem?_cons_zero, Option.some.injEq] at h
    exact ⟨x, rfl, h.symm⟩
  | x :: xs, n, i + 1, d, h => by
    simp only [enumD, List.getElem?_cons_succ] at h
    obtain ⟨y, h1, rfl⟩ := enum_get (xs := xs) (n := n + 1) (i := i) h
    exact ⟨y, by simpa using h1, by rw [show n + 1 + i = n + (i + 1) by omega]⟩
theorem feed_enm {G : Hp} {ρ : List Addr} {a : Addr} {vs : List V} {ds : List D} (h : G a = some (.lst vs)) (hv : DVs K G vs ds) : Feed K G ρ (Ite K a) (enumD 0 ds) none where
  go := fun F' G' ρ' S' H' i d e p s lk hd => by
    obtain ⟨x, h1, _⟩ := enum_get hd
    obtain ⟨v, v1, _⟩ := dvs_get hv h1
    exact ⟨vs, v, .of (s.subG _ _ (e _ _ h)), v1⟩
  yld := fun F' G' ρ' S' H' i d x H2 e p s lk hd y => by
    obtain ⟨T, x1, rfl, hT, rfl, q1⟩ := y
    obtain ⟨dx, h1, rfl⟩ := enum_get hd
    obtain ⟨v, v1, hv'⟩ := dvs_get hv h1
    have e1 := q1 vs (.of (s.subG _ _ (e _ _ h)))
    rw [v1] at e1; cases e1
    rw [Nat.zero_add]
    exact pair_new s hT (.int _) (dv_mono e _ _ hv')
  stop := fun F' G' ρ' S' H' i e p s lk hd => by
    rw [enum_len] at hd
    exact ⟨vs, .of (s.subG _ _ (e _ _ h)), by rw [dvs_len hv]; exact hd⟩
end
/-! ### the sources of the text -/
section
variable {K : PySem.W.Frag}
theorem feed_num {G : Hp} {ρ : List Addr} {a : Addr} {vs : List V} {ds : List D} (h : SqT K G a vs) (hv : DVs K G vs ds) : Feed K G ρ (PLT.ItN K a) (enumD 0 ds) none where
  go := fun F' G' ρ' S' H' i d e p s lk hd => by
    obtain ⟨x, h1, _⟩ := enum_get hd
    obtain ⟨v, v1, _⟩ := dvs_get hv h1
    exact ⟨vs, v, Same.sqt s.subG (Same.sqt e h), v1⟩
  yld := fun F' G' ρ' S' H' i d x H2 e p s lk hd y => by
    obtain ⟨T, x1, rfl, hT, rfl, q1⟩ := y
    obtain ⟨dx, h1, rfl⟩ := enum_get hd
    obtain ⟨v, v1, hv'⟩ := dvs_get hv h1
    have e1 := q1 vs (Same.sqt s.subG (Same.sqt e h))
    rw [v1] at e1; cases e1
    rw [Nat.zero_add]
    exact pair_new s hT (.int _) (dv_mono e _ _ hv')
  stop := fun F' G' ρ' S' H' i e p s lk hd => by
    rw [enum_len] at hd
    exact ⟨vs, Same.sqt s.subG (Same.sqt e h), by rw [dvs_len hv]; exact hd⟩
theorem feed_txt {G : Hp} {ρ : List Addr} (z : Str) : Feed K G ρ (PLT.ItC z) (enumD 0 (signs z)) none where
  go := fun F' G' ρ' S' H' i d e p s lk hd => by
    have := (List.getElem?_eq_some_iff.mp hd).1
    rw [enum_len, signs_len] at this; exact this
  yld := fun F' G' ρ' S' H' i d x H2 e p s lk hd y => by
    obtain ⟨T, c, rfl, hT, rfl, q1⟩ := y
    obtain ⟨dx, h1, rfl⟩ := enum_get hd
    obtain ⟨c', h2, rfl⟩ := signs_get h1
    rw [q1] at h2; cases h2
    rw [Nat.zero_add]
    exact pair_new s hT (.int _) (.str _)
  stop := fun F' G' ρ' S' H' i e p s lk hd => by
    rw [enum_len, signs_len] at hd
    exact hd
theorem feed_rng2 {G : Hp} {ρ : List Addr} (lo : Int) (n : Nat) : Feed K G ρ (Itr lo n) ((List.range n).map fun (k : Nat) => PyData.int (lo + (k : Int))) none where
  go := fun F' G' ρ' S' H' i d e p s lk hd => by
    have := (List.getElem?_eq_some_iff.mp hd).1
    rw [List.length_map, List.length_range] at this; exact this
  yld := fun F' G' ρ' S' H' i d x H2 e p s lk hd y => by
    obtain ⟨rfl, rfl⟩ := y
    rw [List.getElem?_map] at hd
    obtain ⟨j, hj, rfl⟩ := Option.map_eq_some_iff.mp hd
    rw [List.getElem?_range (by have := (List.getElem?_eq_some_iff.mp hj).1; simpa using this)] at hj
    cases hj
    exact ⟨G', Same.refl _, s, .int _⟩
  stop := fun F' G' ρ' S' H' i e p s lk hd => by
    rw [List.length_map, List.length_range] at hd; exact hd
end
section
variable {X : Cx} {tg a b : Expr} {ea eb : Ev} {pos : Pos}
abbrev evSeq (ea : Ev) : EvI := fun L S => okOr (ea L S) fun (x, S1) => match x with
    | .d (.list xs) => some (xs, none, S1)
    | .d (.tuple xs) => some (xs, none, S1)
    | .d (.str z) => some (signs z, none, S1)
    | .ref n => (match S1[n]? with
      | some (.lst xs) => some (xs, some (n, xs), S1)
      | _ => none)
    | _ => none
theorem i_seq (ha : PE X a (tE X.K ea)) : PI X tg a (tI X.K (evSeq ea)) := by
  refine ⟨fun pins s0 σ H R I h => ?_⟩
  obtain ⟨F, G, ρ, S, L, ds, lk, S', s, l, e, hlk, q⟩ := h
  obtain ⟨⟨x, S1⟩, e1, e⟩ := okOr_some e
  dsimp only at e
  split at e
  · cases e
    refine (pi_list ha).run pins s0 σ H R I ⟨F, G, ρ, S, L, _, _, s, l, e1, fun G1 ρ1 H1 v1 g1 p1 s1 q1 => ?_⟩
    cases q1 with
    | lst h1 h2 => exact ⟨_, rfl, ⟨_, .of (s1.subG _ _ h1)⟩, q _ G1 ρ1 H1 g1 p1 s1 (feed_list h1 h2)⟩
  · cases e
    refine (pi_tup ha).run pins s0 σ H R I ⟨F, G, ρ, S, L, _, _, s, l, e1, fun G1 ρ1 H1 v1 g1 p1 s1 q1 => ?_⟩
    cases q1 with
    | tup h1 h2 => exact ⟨_, rfl, ⟨_, Same.sqt s1.subG h1⟩, q _ G1 ρ1 H1 g1 p1 s1 (feed_tup h1 h2)⟩
  · cases e
    refine (pi_str ha).run pins s0 σ H R I ⟨F, G, ρ, S, L, _, _, s, l, e1, fun G1 ρ1 H1 v1 g1 p1 s1 q1 => ?_⟩
    cases q1
    exact ⟨_, rfl, q _ G1 ρ1 H1 g1 p1 s1 (feed_str _)⟩
  · rename_i n
    split at e
    · rename_i xs hx
      cases e
      refine (pi_list ha).run pins s0 σ H R I ⟨F, G, ρ, S, L, _, _, s, l, e1, fun G1 ρ1 H1 v1 g1 p1 s1 q1 => ?_⟩
      obtain ⟨p, ep, rfl⟩ := q1
      obtain ⟨o, ho, vs, rfl, hv⟩ := s1.obj n _ p hx ep
      exact ⟨p, rfl, ⟨vs, .of ho⟩, q _ G1 ρ1 H1 g1 p1 s1 (feed_ref ep)⟩
    · cases e
  · cases e
abbrev evRng (ea : Ev) : EvI := fun L S => okOr (ea L S) fun (x, S1) => match x with
    | .d (.int i) => if -(2 ^ 62) ≤ i ∧ i < 2 ^ 62 then some (rngD i, none, S1) else none
    | _ => none
theorem i_rng {p : Pos} (hg : Gl X "range") (hm : X.mg "range" = none) (ha : PE X a (tE X.K ea)) (hst : ∀ e p, a ≠ .Starred e p) : PI X tg (.Call (.Name "range" p) [a] [] pos) (tI X.K (evRng ea)) := by
  refine ⟨fun pins s0 σ H R I h => ?_⟩
  obtain ⟨F, G, ρ, S, L, ds, lk, S', s, l, e, hlk, q⟩ := h
  obtain ⟨⟨x, S1⟩, e1, e⟩ := okOr_some e
  dsimp only at e
  split at e
  · obtain ⟨c, e⟩ := some_if e
    cases e
    refine (pi_range1 hg hm (pa_cons ha pa_nil (star1 hst [])) (star1 hst [])).run pins s0 σ H R I ⟨F, G, ρ, S, L, _, _, s, l, e1, fun G1 ρ1 H1 v1 g1 p1 s1 q1 => ?_⟩
    cases q1
    exact ⟨_, rfl, c.1, c.2, q _ G1 ρ1 H1 g1 p1 s1 (feed_rng _)⟩
  · cases e
abbrev evZip (ea eb : Ev) : EvI := fun L S => okOr (ea L S) fun (x, S1) => okOr (eb L S1) fun (y, S2) => match x, y with
    | .d (.list xs), .d (.list ys) => some (zipD xs ys, none, S2)
    | .d (.tuple xs), .d (.tuple ys) => some (zipD xs ys, none, S2)
    | _, _ => none
theorem i_zip {p tpos : Pos} {elts : List Expr} {kk : Nat} (hg : Gl X "zip") (hm : X.mg "zip" = none) (ha : PE X a (tE X.K ea)) (hb : PE X b (tE X.K eb)) (hst : ∀ e p, a ≠ .Starred e p) (hst2 : ∀ e p, b ≠ .Starred e p) :
    PI X (.Tuple elts kk tpos) (.Call (.Name "zip" p) [a, b] [] pos) (tI X.K (evZip ea eb)) := by
  refine ⟨fun pins s0 σ H R I h => ?_⟩
  obtain ⟨F, G, ρ, S, L, ds, lk, S', s, l, e, hlk, q⟩ := h
  obtain ⟨⟨x, S1⟩, e1, e⟩ := okOr_some e
  obtain ⟨⟨y, S2⟩, e2, e⟩ := okOr_some e
  have hpl : (backTo pos (starEach [b] X.env)).any (·.1) = false := by rw [star1 hst2]; rfl
  refine (RZ.pi_zipA hg hm (pa_cons ha (pa_cons hb pa_nil (star1 hst2 [])) (star1 hst _)) (star1 hst _) hpl).run pins s0 σ H R I ⟨F, G, ρ, S, L, _, _, s, l, e1, fun G1 ρ1 H1 v1 g1 p1 s1 q1 => ⟨F, G1, ρ1, S1, L, _, _, s1, lok_mono g1 p1 l, e2, fun G2 ρ2 H2 v2 g2 p2 s2 q2 => ?_⟩⟩
  dsimp only at e
  split at e
  · cases e
    have q1 := rv_mono g2 p2 q1
    cases q1 with
    | lst h1 h2 =>
      cases q2 with
      | lst k1 k2 => exact ⟨_, _, _, _, rfl, .inl ⟨.of (s2.subG _ _ h1), .of (s2.subG _ _ k1), q _ G2 ρ2 H2 (g1.trans g2) (p1.trans p2) s2 (feed_zipL h1 h2 k1 k2)⟩⟩
  · cases e
    have q1 := rv_mono g2 p2 q1
    cases q1 with
    | tup h1 h2 =>
      cases q2 with
      | tup k1 k2 => exact ⟨_, _, _, _, rfl, .inr ⟨Same.sqt s2.subG h1, Same.sqt s2.subG k1, q _ G2 ρ2 H2 (g1.trans g2) (p1.trans p2) s2 (feed_zipT h1 h2 k1 k2)⟩⟩
  · cases e
abbrev evEnm (ea : Ev) : EvI := fun L S => okOr (ea L S) fun (x, S1) => match x with
    | .d (.list xs) => some (enumD 0 xs, none, S1)
    | .d (.tuple xs) => some (enumD 0 xs, none, S1)
    | .d (.str z) => some (enumD 0 (signs z), none, S1)
    | _ => none
theorem i_enm {p tpos : Pos} {elts : List Expr} {kk : Nat} (hg : Gl X "enumerate") (hm : X.mg "enumerate" = none) (ha : PE X a (tE X.K ea)) (hst : ∀ e p, a ≠ .Starred e p) : PI X (.Tuple elts kk tpos) (.Call (.Name "enumerate" p) [a] [] pos) (tI X.K (evEnm ea)) := by
  refine ⟨fun pins s0 σ H R I h => ?_⟩
  obtain ⟨F, G, ρ, S, L, ds, lk, S', s, l, e, hlk, q⟩ := h
  obtain ⟨⟨x, S1⟩, e1, e⟩ := okOr_some e
  dsimp only at e
  split at e
  · cases e
    refine (pi_enum hg hm (pa_cons ha pa_nil (star1 hst [])) (star1 hst [])).run pins s0 σ H R I ⟨F, G, ρ, S, L, _, _, s, l, e1, fun G1 ρ1 H1 v1 g1 p1 s1 q1 => ?_⟩
    cases q1 with
    | lst h1 h2 => exact ⟨_, _, rfl, .of (s1.subG _ _ h1), q _ G1 ρ1 H1 g1 p1 s1 (feed_enm h1 h2)⟩
  · cases e
    refine (PLT.pi_num hg hm (pa_cons ha pa_nil (star1 hst [])) (star1 hst [])).run pins s0 σ H R I ⟨F, G, ρ, S, L, _, _, s, l, e1, fun G1 ρ1 H1 v1 g1 p1 s1 q1 => ?_⟩
    cases q1 with
    | tup h1 h2 => exact ⟨_, _, rfl, Same.sqt s1.subG h1, q _ G1 ρ1 H1 g1 p1 s1 (feed_num h1 h2)⟩
  · cases e
    refine (PLT.pi_txt hg hm (pa_cons ha pa_nil (star1 hst [])) (star1 hst [])).run pins s0 σ H R I ⟨F, G, ρ, S, L, _, _, s, l, e1, fun G1 ρ1 H1 v1 g1 p1 s1 q1 => ?_⟩
    cases q1
    exact ⟨_, rfl, q _ G1 ρ1 H1 g1 p1 s1 (feed_txt _)⟩
  · cases e
abbrev evRng2 (ea eb : Ev) : EvI := fun L S => okOr (ea L S) fun (x, S1) => okOr (eb L S1) fun (y, S2) => match x, y with
    | .d (.int i), .d (.int j) => if -(2 ^ 62) ≤ i ∧ i < 2 ^ 62 ∧ -(2 ^ 62) ≤ j ∧ j < 2 ^ 62 then some (rng2D i j, none, S2) else none
    | _, _ => none
theorem i_rng2 {p : Pos} (hg : Gl X "range") (hm : X.mg "range" = none) (ha : PE X a (tE X.K ea)) (hb : PE X b (tE X.K eb)) (hst : ∀ e p, a ≠ .Starred e p) (hst2 : ∀ e p, b ≠ .Starred e p) :
    PI X tg (.Call (.Name "range" p) [a, b] [] pos) (tI X.K (evRng2 ea eb)) := by
  refine ⟨fun pins s0 σ H R I h => ?_⟩
  obtain ⟨F, G, ρ, S, L, ds, lk, S', s, l, e, hlk, q⟩ := h
  obtain ⟨⟨x, S1⟩, e1, e⟩ := okOr_some e
  obtain ⟨⟨y, S2⟩, e2, e⟩ := okOr_some e
  have h1 : starEach [b] X.env = [(false, eval b X.env)] := star1 hst2 []
  have h2 : starEach [a, b] X.env = [(false, eval a X.env), (false, eval b X.env)] := by rw [star1 hst, h1]
  dsimp only at e
  split at e
  · obtain ⟨c, e⟩ := some_if e
    cases e
    refine (pi_range2 hg hm (pa_cons ha (pa_cons hb pa_nil h1) (star1 hst _)) h2 h1).run pins s0 σ H R I ⟨F, G, ρ, S, L, _, _, s, l, e1, fun G1 ρ1 H1 v1 g1 p1 s1 q1 => ⟨F, G1, ρ1, S1, L, _, _, s1, lok_mono g1 p1 l, e2, fun G2 ρ2 H2 v2 g2 p2 s2 q2 => ?_⟩⟩
    cases q1
    cases q2
    exact ⟨_, _, rfl, c, q _ G2 ρ2 H2 (g1.trans g2) (p1.trans p2) s2 (feed_rng2 _ _)⟩
  · cases e
end
end PL
end
section
set_option maxHeartbeats 2000000
namespace PL
open PySem PySem.Spec PyProof.Rows L2
theorem upd_self {H : Hp} {a : Addr} {o : HO} (h : H a = some o) : upd H a o = H := by
  funext b
  unfold upd
  split
  · rename_i e; rw [e, h]
  · rfl
/-! ### targets -/
def gNames : List Nat → TGs
  | [] => gNil
  | i :: is => gCons (gName i) (gNames is)
def gT (K : PySem.W.Frag) : Tg → TG
  | .one i => gName i
  | .tup is => gTup K is.length (gNames is)
def Tg.ixs : Tg → List Nat
  | .one i => [i]
  | .tup is => is
theorem wipe_set {σ : L2.St} {i : Nat} {o : Option V} : ∀ {own : List Nat}, i ∈ own → wipe (σ.set i o) own = wipe σ own
  | [], h => absurd h (by simp)
  | v :: vs, h => by
    unfold wipe
    by_cases hv : i ∈ vs
    · rw [wipe_set hv]
    · have e : i = v := by
        rcases List.mem_cons.mp h with e | e
        · exact e
        · exact absurd e hv
      subst e
      have k : ∀ (ws : List Nat), i ∉ ws → wipe (σ.set i o) ws = (wipe σ ws).set i o := fun ws => by
        induction ws with
        | nil => intro _; rfl
        | cons w ws ih =>
          intro hw
          simp only [List.mem_cons, not_or] at hw
          show (wipe (σ.set i o) ws).set w none = ((wipe σ ws).set w none).set i o
          rw [ih hw.2, List.set_comm _ _ hw.1]
      rw [k vs hv, List.set_set]
section
variable {K : PySem.W.Frag}
theorem names_ok {G : Hp} {ρ : List Addr} {H : Hp} {own : List Nat} : ∀ {is : List Nat} {ds : List D} {vs : List V} {L L' : Loc} {σ : L2.St} {Q : L2.St → Hp → Prop}, DVs K G vs ds → bindIx is ds L = some L' → (∀ i ∈ is, i ∈ own) → LOk K G ρ L σ →
    (∀ σ', LOk K G ρ L' σ' → wipe σ' own = wipe σ own → Q σ' H) → gNames is vs σ H Q
  | [], ds, vs, L, L', σ, Q, hv, e, hi, l, q => by
    cases ds with
    | nil => cases hv; cases e; exact ⟨rfl, q σ l rfl⟩
    | cons _ _ => cases e
  | i :: is, ds, vs, L, L', σ, Q, hv, e, hi, l, q => by
    cases hv with
    | nil => cases e
    | cons h t =>
      refine ⟨_, _, rfl, ?_⟩
      refine names_ok t e (fun j hj => hi j (List.mem_cons_of_mem _ hj)) (lok_set (r := .d _) l i h) fun σ' l' w => q σ' l' ?_
      rw [w, wipe_set (hi i List.mem_cons_self)]
theorem tg_ok {F G : Hp} {ρ : List Addr} {S : Sto} {H : Hp} (s : SOk K F G ρ S H) {own : List Nat} {tg : Tg} {d : D} {v : V} {L L' : Loc} {σ : L2.St} {Q : L2.St → Hp → Prop} (h : DV K G v d) (e : bindT tg d L = some L') (hi : ∀ i ∈ tg.ixs, i ∈ own) (l : LOk K G ρ L σ)
    (q : ∀ σ', LOk K G ρ L' σ' → wipe σ' own = wipe σ own → Q σ' H) : gT K tg v σ H Q := by
  cases tg with
  | one i =>
    cases e
    exact q _ (lok_set (r := .d d) l i h) (wipe_set (hi i (List.mem_singleton.mpr rfl)))
  | tup is =>
    cases h with
    | tup h1 h2 =>
      have hl : ∀ {is : List Nat} {ds : List D} {L : Loc}, bindIx is ds L = some L' → ds.length = is.length := fun {is} => by
        induction is with
        | nil => intro ds L e; cases ds <;> first | rfl | cases e
        | cons i is ih => intro ds L e; cases ds <;> first | cases e | exact congrArg Nat.succ (ih e)
      exact ⟨_, _, rfl, Same.sqt s.subG h1, by rw [dvs_len h2]; exact hl e, names_ok h2 e hi l q⟩
    | _ => cases e
end
/-! ### a comprehension -/
section
variable {X : Cx} {own : List Nat} {tg : Tg} {ei : EvI} {et : Loc → Sto → Option (Bool × Sto)} {ee : Ev}
abbrev turnC (own : List Nat) (tg : Tg) (et : Loc → Sto → Option (Bool × Sto)) (ee : Ev) (L : Loc) : D → Sto → Option (Option D × Sto) := fun d S => okOr (bindT tg d (wipeL L own)) fun L' => okOr (et L' S) fun (b, S') => match b with
        | true => okOr (ee L' S') fun (y, S2) => okOr (asD y) fun y => some (some y, S2)
        | false => some (none, S')
theorem asD_some {y : R} {d : D} (h : asD y = some d) : y = .d d := by
  cases y <;> first | (cases h; rfl) | cases h
theorem lc_read {K : PySem.W.Frag} {σ : L2.St} {H : Hp} {Q : VK} {fin : List D → Sto → R × Sto} (hown : ∀ i ∈ tg.ixs, i ∈ own)
    (hfin : ∀ (F G : Hp) (ρ : List Addr) (S : Sto) (H : Hp) (p : Addr) (ys : List D) (vs : List V) (Q : VK), SOk K (upd F p (.lst vs)) G ρ S H → F p = none → DVs K G vs ys → Post K F G ρ (fin ys S).2 (fin ys S).1 Q → Q (.ref p) H)
    (h : tE K (fun L S => okOr (ei L S) fun (ds, lk, S1) => guardB (lockB lk S1) (okOr (loopM lk (turnC own tg et ee L) ds [] S1) fun (ys, S2) => some (fin ys S2))) σ H Q) :
    tLc (tI K ei) (gT K tg) (tT K et) (tE K ee) own σ H Q := by
  obtain ⟨F, G, ρ, S, L, r, Sf, s, l, e, q⟩ := h
  obtain ⟨⟨ds, lk, S1⟩, e1, e⟩ := okOr_some e
  obtain ⟨hlk, e⟩ := guardB_some e
  obtain ⟨⟨ys, S2⟩, e2, e⟩ := okOr_some e
  have ef : fin ys S2 = (r, Sf) := Option.some.inj e
  refine ⟨F, G, ρ, S, L, ds, lk, S1, s, l, e1, hlk, fun J G1 ρ1 H1 g1 p1 s1 feed => ?_⟩
  intro D hD
  have hF : F D = none := Same.free s1.subF hD
  let W : Nat → Nat → Hp → Prop := fun i m H => m = ds.length - i ∧ i ≤ ds.length ∧ ∃ G' ρ' S' acc vs, Same G1 G' ∧ ρ1 <+: ρ' ∧ SOk K (upd F D (.lst vs)) G' ρ' S' H ∧ DVs K G' vs acc ∧ lockB lk S' = true ∧ loopM lk (turnC own tg et ee L) (ds.drop i) acc S' = some (ys, S2)
  refine ⟨W, ⟨ds.length, by simp, Nat.zero_le _, G1, ρ1, S1, [], [], Same.refl _, List.prefix_refl _, s1.hold hD, .nil, hlk, e2⟩, ?_⟩
  rintro i m H2 ⟨rfl, hi, G', ρ', S', acc, vs, g2, p2, s2, hv, hk, hl⟩
  by_cases hlt : i < ds.length
  · refine .inr ⟨feed.go _ G' ρ' S' H2 i ds[i] g2 p2 s2 hk (List.getElem?_eq_getElem hlt), W (i + 1) (ds.length - (i + 1)), fun H' w => ⟨_, by omega, w⟩, fun x H3 hy => ?_⟩
    obtain ⟨G3, g3, s3, hx⟩ := feed.yld _ G' ρ' S' H2 i ds[i] x H3 g2 p2 s2 hk (List.getElem?_eq_getElem hlt) hy
    rw [List.drop_eq_getElem_cons hlt] at hl
    simp only [loopM] at hl
    split at hl
    · rename_i o S3 ht
      by_cases hk3 : lockB lk S3 = true
      · rw [if_pos hk3] at hl
        obtain ⟨L', eb, ht⟩ := okOr_some ht
        obtain ⟨⟨b, S4⟩, et', ht⟩ := okOr_some ht
        have gall := g1.trans (g2.trans g3)
        have pall := p1.trans p2
        refine tg_ok s3 hx eb hown (lok_wipe (lok_mono gall pall l) own) fun σ2 l2 w2 => ⟨?_, ?_⟩
        · rw [w2]
          clear w2 l2
          have ww : ∀ (us vs : List Nat) (τ : L2.St), (∀ v ∈ vs, v ∈ us) → wipe (wipe τ us) vs = wipe τ us := fun us vs => by
            induction vs with
            | nil => intro τ _; rfl
            | cons v vs ih =>
              intro τ hh
              show (wipe (wipe τ us) vs).set v none = wipe τ us
              rw [ih τ fun w hw => hh w (List.mem_cons_of_mem _ hw)]
              apply List.ext_getElem?
              intro j
              by_cases hj : v = j
              · subst hj
                by_cases hb : v < (wipe τ us).length
                · rw [List.getElem?_set_self hb]
                  cases hq : (wipe τ us)[v]? with
                  | none => rw [List.getElem?_eq_none_iff] at hq; omega
                  | some o =>
                    cases o with
                    | none => rfl
                    | some y => exact absurd (hh v List.mem_cons_self) (wipe_some hq).2
                · rw [List.getElem?_eq_none (by simpa using hb), List.getElem?_eq_none (by simpa using hb)]
              · rw [List.getElem?_set_ne hj]
          exact ww own own σ fun v hv => hv
        · refine ⟨_, G3, ρ', S', L', b, S4, s3, l2, et', fun G4 ρ4 H4 g4 p4 s4 => ?_⟩
          cases b with
          | true =>
            rw [if_pos rfl]
            obtain ⟨⟨y, S5⟩, ey, ht⟩ := okOr_some ht
            obtain ⟨dy, ed, ht⟩ := okOr_some ht
            cases asD_some ed
            obtain ⟨rfl, rfl⟩ := res_eq ht
            dsimp only at hl
            obtain ⟨hz, hl⟩ : acc.length < sizeLine ∧ loopM lk (turnC own tg et ee L) (ds.drop (i + 1)) (acc ++ [dy]) S5 = some (ys, S2) := by
              by_cases hz : acc.length < sizeLine
              · rw [if_pos hz] at hl; exact ⟨hz, hl⟩
              · rw [if_neg hz] at hl; cases hl
            refine ⟨_, G4, ρ4, S4, L', _, S5, s4, lok_mono g4 p4 l2, ey, fun G5 ρ5 H5 v5 g5 p5 s5 q5 => ?_⟩
            have gv := g3.trans (g4.trans g5)
            refine ⟨vs, s5.heldAt, by rw [dvs_len hv]; exact hz, rfl, hlt, G5, ρ5, S5, acc ++ [dy], vs ++ [v5], g2.trans gv, p2.trans (p4.trans p5), s5.held _, dvs_app (dvs_mono gv _ _ hv) (.cons q5 .nil), hk3, hl⟩
          | false =>
            rw [if_neg Bool.false_ne_true]
            obtain ⟨rfl, rfl⟩ := res_eq ht
            dsimp only at hl
            have gv := g3.trans g4
            exact ⟨rfl, hlt, G4, ρ4, S4, acc, vs, g2.trans gv, p2.trans p4, s4, dvs_mono gv _ _ hv, hk3, hl⟩
      · rw [if_neg hk3] at hl; cases hl
    · cases hl
  · have hi' : i = ds.length := by omega
    subst hi'
    refine .inl ⟨feed.stop _ G' ρ' S' H2 _ g2 p2 s2 hk (Nat.le_refl _), ?_⟩
    rw [List.drop_length] at hl
    obtain ⟨rfl, rfl⟩ := res_eq hl
    refine hfin F G' ρ' S' H2 D acc vs Q s2 hF hv ?_
    rw [ef]
    exact q.mono (g1.trans g2) (p1.trans p2)
theorem fin_d {K : PySem.W.Frag} (F G : Hp) (ρ : List Addr) (S : Sto) (H : Hp) (p : Addr) (ys : List D) (vs : List V) (Q : VK) (s : SOk K (upd F p (.lst vs)) G ρ S H) (hF : F p = none) (hv : DVs K G vs ys) (q : Post K F G ρ S (.d (.list ys)) Q) : Q (.ref p) H := by
  obtain ⟨s', e⟩ := s.heldFix hF
  exact q _ ρ H _ e (List.prefix_refl _) s' (.lst upd_same (dvs_mono e _ _ hv))
theorem fin_r {K : PySem.W.Frag} (F G : Hp) (ρ : List Addr) (S : Sto) (H : Hp) (p : Addr) (ys : List D) (vs : List V) (Q : VK) (s : SOk K (upd F p (.lst vs)) G ρ S H) (hF : F p = none) (hv : DVs K G vs ys) (q : Post K F G ρ (S ++ [.lst ys]) (.ref S.length) Q) : Q (.ref p) H := by
  have s' := s.heldNew hF (b := .lst ys) (o' := .lst vs) ⟨vs, rfl, hv⟩
  rw [upd_self s.heldAt] at s'
  exact q G (ρ ++ [p]) H _ (Same.refl _) (List.prefix_append _ _) s' ⟨p, by rw [List.getElem?_append_right (by rw [s.len]; exact Nat.le_refl _), s.len, Nat.sub_self]; rfl, rfl⟩
abbrev evC (own : List Nat) (tg : Tg) (ei : EvI) (et : Loc → Sto → Option (Bool × Sto)) (ee : Ev) (fin : List D → Sto → R × Sto) : Ev := fun L S => okOr (ei L S) fun (ds, lk, S1) => guardB (lockB lk S1) (okOr (loopM lk (turnC own tg et ee L) ds [] S1) fun (ys, S2) => some (fin ys S2))
abbrev finD : List D → Sto → R × Sto := fun ys S => (.d (.list ys), S)
abbrev finR : List D → Sto → R × Sto := fun ys S => (.ref S.length, S ++ [.lst ys])
end
end PL
end
section
set_option maxHeartbeats 2000000
namespace PL
open PySem PySem.Spec PyProof.Rows L2
def SPost (K : PySem.W.Frag) (F G : Hp) (ρ : List Addr) (f : Fl) (L' : Loc) (S' : Sto) (Dn : Ends) : Prop :=
  match f with
  | .nx => ∀ (G' : Hp) (ρ' : List Addr) (H' : Hp) (σ' : L2.St), Same G G' → ρ <+: ρ' → SOk K F G' ρ' S' H' → LOk K G' ρ' L' σ' → Dn.nx σ' H'
  | .bk => ∀ (G' : Hp) (ρ' : List Addr) (H' : Hp) (σ' : L2.St), Same G G' → ρ <+: ρ' → SOk K F G' ρ' S' H' → LOk K G' ρ' L' σ' → Dn.bk σ' H'
  | .ct => ∀ (G' : Hp) (ρ' : List Addr) (H' : Hp) (σ' : L2.St), Same G G' → ρ <+: ρ' → SOk K F G' ρ' S' H' → LOk K G' ρ' L' σ' → Dn.ct σ' H'
  | .rt r => ∀ (G' : Hp) (ρ' : List Addr) (H' : Hp) (v : V), Same G G' → ρ <+: ρ' → SOk K F G' ρ' S' H' → RV K G' ρ' r v → Dn.rt v H'
theorem SPost.mono {K : PySem.W.Frag} {F G G1 : Hp} {ρ ρ1 : List Addr} {f : Fl} {L' : Loc} {S' : Sto} {Dn : Ends} (h : SPost K F G ρ f L' S' Dn) (e : Same G G1) (p : ρ <+: ρ1) : SPost K F G1 ρ1 f L' S' Dn := by
  cases f <;> exact fun G' ρ' H' v e' p' s q => h G' ρ' H' v (e.trans e') (p.trans p') s q
abbrev EvS := Loc → Sto → Option (Fl × Loc × Sto)
def tS (K : PySem.W.Frag) (ev : EvS) : TS := fun Dn σ H => ∃ F G ρ S L f L' S', SOk K F G ρ S H ∧ LOk K G ρ L σ ∧ ev L S = some (f, L', S') ∧ SPost K F G ρ f L' S' Dn
theorem fl_eq {f f' : Fl} {L L' : Loc} {S S' : Sto} (h : some (f, L, S) = some (f', L', S')) : f = f' ∧ L = L' ∧ S = S' := by
  injection h with h
  injection h with h1 h2
  injection h2 with h2 h3
  exact ⟨h1, h2, h3⟩
section
variable {X : Cx} {a b c : Expr} {ea eb ec : Ev} {pos : Pos} {st : Stmt} {rest : List Stmt} {u w : EvS}
theorem s_nil : PSs X [] (tS X.K fun L S => some (.nx, L, S)) := by
  refine PSs.weak pss_nil fun Dn σ H h => ?_
  obtain ⟨F, G, ρ, S, L, f, L', S', s, l, e, q⟩ := h
  obtain ⟨rfl, rfl, rfl⟩ := fl_eq e
  exact q G ρ H σ (Same.refl _) (List.prefix_refl _) s l
abbrev evSeqS (u w : EvS) : EvS := fun L S => okOr (u L S) fun (f, L', S') => match f with
    | .nx => w L' S'
    | f => some (f, L', S')
theorem s_cons (h1 : PS X st (tS X.K u)) (h2 : PSs X rest (tS X.K w)) : PSs X (st :: rest) (tS X.K (evSeqS u w)) := by
  refine PSs.weak (pss_cons h1 h2) fun Dn σ H h => ?_
  obtain ⟨F, G, ρ, S, L, f, L', S', s, l, e, q⟩ := h
  obtain ⟨⟨f1, L1, S1⟩, e1, e⟩ := okOr_some e
  refine ⟨F, G, ρ, S, L, f1, L1, S1, s, l, e1, ?_⟩
  cases f1 with
  | nx => exact fun G1 ρ1 H1 σ1 g1 p1 s1 l1 => ⟨F, G1, ρ1, S1, L1, f, L', S', s1, l1, e, q.mono g1 p1⟩
  | bk => obtain ⟨rfl, rfl, rfl⟩ := fl_eq e; exact q
  | ct => obtain ⟨rfl, rfl, rfl⟩ := fl_eq e; exact q
  | rt r => obtain ⟨rfl, rfl, rfl⟩ := fl_eq e; exact q
theorem s_asg {i : Nat} {x : Str} {pos' : Pos} (hN : X.N.Nodup) (hi : X.N[i]? = some x) (hx : L2.Loc X.env.scope x) (ha : PE X a (tE X.K ea)) (hs : swapsWith a (some (.Name x pos')) pos.line X.env = pure false) (hf : X.fn x = true) :
    PS X (.Assign [.Name x pos'] a pos) (tS X.K fun L S => okOr (ea L S) fun (x, S1) => some (.nx, L.set i (some x), S1)) := by
  refine PS.weak (ps_set hN hi hx ha hs (.inl hf)) fun Dn σ H h => ?_
  obtain ⟨F, G, ρ, S, L, f, L', S', s, l, e, q⟩ := h
  obtain ⟨⟨x, S1⟩, e1, e⟩ := okOr_some e
  obtain ⟨rfl, rfl, rfl⟩ := fl_eq e
  exact ⟨F, G, ρ, S, L, x, S1, s, l, e1, fun G1 ρ1 H1 v1 g1 p1 s1 q1 => q G1 ρ1 H1 _ g1 p1 s1 (lok_set (lok_mono g1 p1 l) i q1)⟩
theorem s_expr (ha : PE X a (tE X.K ea)) (hs : swapsWith a none pos.line X.env = pure false) : PS X (.Expr a pos) (tS X.K fun L S => okOr (ea L S) fun (_, S1) => some (.nx, L, S1)) := by
  refine PS.weak (ps_expr ha hs) fun Dn σ H h => ?_
  obtain ⟨F, G, ρ, S, L, f, L', S', s, l, e, q⟩ := h
  obtain ⟨⟨x, S1⟩, e1, e⟩ := okOr_some e
  obtain ⟨rfl, rfl, rfl⟩ := fl_eq e
  exact ⟨F, G, ρ, S, L, x, S1, s, l, e1, fun G1 ρ1 H1 v1 g1 p1 s1 q1 => q G1 ρ1 H1 _ g1 p1 s1 (lok_mono g1 p1 l)⟩
theorem s_ret (ha : PE X a (tE X.K ea)) : PS X (.Return (some a) pos) (tS X.K fun L S => okOr (ea L S) fun (x, S1) => some (.rt x, L, S1)) := by
  refine PS.weak (ps_ret ha) fun Dn σ H h => ?_
  obtain ⟨F, G, ρ, S, L, f, L', S', s, l, e, q⟩ := h
  obtain ⟨⟨x, S1⟩, e1, e⟩ := okOr_some e
  obtain ⟨rfl, rfl, rfl⟩ := fl_eq e
  exact ⟨F, G, ρ, S, L, x, S1, s, l, e1, q⟩
theorem s_ret0 : PS X (.Return none pos) (tS X.K fun L S => some (.rt (.d .none), L, S)) := by
  refine PS.weak ps_retN fun Dn σ H h => ?_
  obtain ⟨F, G, ρ, S, L, f, L', S', s, l, e, q⟩ := h
  obtain ⟨rfl, rfl, rfl⟩ := fl_eq e
  exact q G ρ H .non (Same.refl _) (List.prefix_refl _) s .non
theorem s_pass : PS X (.Pass pos) (tS X.K fun L S => some (.nx, L, S)) := by
  refine PS.weak ps_pass fun Dn σ H h => ?_
  obtain ⟨F, G, ρ, S, L, f, L', S', s, l, e, q⟩ := h
  obtain ⟨rfl, rfl, rfl⟩ := fl_eq e
  exact q G ρ H σ (Same.refl _) (List.prefix_refl _) s l
theorem s_brk : PS X (.Break pos) (tS X.K fun L S => some (.bk, L, S)) := by
  refine PS.weak ps_break fun Dn σ H h => ?_
  obtain ⟨F, G, ρ, S, L, f, L', S', s, l, e, q⟩ := h
  obtain ⟨rfl, rfl, rfl⟩ := fl_eq e
  exact q G ρ H σ (Same.refl _) (List.prefix_refl _) s l
theorem s_cont : PS X (.Continue pos) (tS X.K fun L S => some (.ct, L, S)) := by
  refine PS.weak ps_continue fun Dn σ H h => ?_
  obtain ⟨F, G, ρ, S, L, f, L', S', s, l, e, q⟩ := h
  obtain ⟨rfl, rfl, rfl⟩ := fl_eq e
  exact q G ρ H σ (Same.refl _) (List.prefix_refl _) s l
theorem s_never : PS X st (tS X.K fun _ _ => none) := by
  refine PS.weak ps_never fun Dn σ H h => ?_
  obtain ⟨F, G, ρ, S, L, f, L', S', s, l, e, q⟩ := h
  cases e
abbrev evIfS (ec : Ev) (u w : EvS) : EvS := fun L S => okOr (ec L S) fun (x, S1) => okOr (truth x S1) fun k => match k with
    | true => u L S1
    | false => w L S1
theorem s_if {bs cs : List Stmt} (hc : PT X c (tT X.K (tstE ec))) (h1 : PSs X bs (tS X.K u)) (h2 : PSs X cs (tS X.K w)) : PS X (.If c bs cs pos) (tS X.K (evIfS ec u w)) := by
  refine PS.weak (ps_if hc h1 h2) fun Dn σ H h => ?_
  obtain ⟨F, G, ρ, S, L, f, L', S', s, l, e, q⟩ := h
  obtain ⟨⟨x, S1⟩, e1, e⟩ := okOr_some e
  obtain ⟨k, e2, e⟩ := okOr_some e
  refine ⟨F, G, ρ, S, L, k, S1, s, l, tst_of e1 e2, fun G1 ρ1 H1 g1 p1 s1 => ?_⟩
  cases k with
  | true => rw [if_pos rfl]; exact ⟨F, G1, ρ1, S1, L, f, L', S', s1, lok_mono g1 p1 l, e, q.mono g1 p1⟩
  | false => rw [if_neg Bool.false_ne_true]; exact ⟨F, G1, ρ1, S1, L, f, L', S', s1, lok_mono g1 p1 l, e, q.mono g1 p1⟩
/-! ### d[k] = v -/
theorem dsetR_some {x y z : R} {S S' : Sto} (h : dsetR x y z S = some S') : ∃ n ks k kd d, x = .ref n ∧ y = .d kd ∧ z = .d d ∧ S[n]? = some (.dic ks) ∧ keyD kd = some k ∧ ks.length < sizeLine ∧ S' = S.set n (.dic (storeK ks k d)) := by
  unfold dsetR at h
  split at h
  · split at h
    · obtain ⟨c, rfl⟩ := some_if h
      exact ⟨_, _, _, _, _, rfl, rfl, rfl, by assumption, by assumption, c, rfl⟩
    · cases h
    · cases h
  · cases h
theorem s_dset {pos' : Pos} (hu : X.A.units + 1 < cLine) (ha : PE X a (tE X.K ea)) (hb : PE X b (tE X.K eb)) (hc : PE X c (tE X.K ec)) (hs : swapsWith c (some (.Subscript a b pos')) pos.line X.env = pure false) :
    PS X (.Assign [.Subscript a b pos'] c pos) (tS X.K fun L S => okOr (ec L S) fun (z, S1) => okOr (ea L S1) fun (x, S2) => okOr (eb L S2) fun (y, S3) => okOr (dsetR x y z S3) fun S4 => some (.nx, L, S4)) := by
  refine PS.weak (ps_dput hu ha hb hc hs) fun Dn σ H h => ?_
  obtain ⟨F, G, ρ, S, L, f, L', S', s, l, e, q⟩ := h
  obtain ⟨⟨z, S1⟩, e1, e⟩ := okOr_some e
  obtain ⟨⟨x, S2⟩, e2, e⟩ := okOr_some e
  obtain ⟨⟨y, S3⟩, e3, e⟩ := okOr_some e
  obtain ⟨S4, e4, e⟩ := okOr_some e
  obtain ⟨rfl, rfl, rfl⟩ := fl_eq e
  obtain ⟨n, ks, k, kd, d, rfl, rfl, rfl, hs, hk, hz, rfl⟩ := dsetR_some e4
  refine ⟨F, G, ρ, S, L, _, S1, s, l, e1, fun G1 ρ1 H1 v1 g1 p1 s1 q1 => ⟨F, G1, ρ1, S1, L, _, S2, s1, lok_mono g1 p1 l, e2, fun G2 ρ2 H2 v2 g2 p2 s2 q2 =>
    ⟨F, G2, ρ2, S2, L, _, S3, s2, lok_mono (g1.trans g2) (p1.trans p2) l, e3, fun G3 ρ3 H3 v3 g3 p3 s3 q3 => ?_⟩⟩⟩
  obtain ⟨p, ep, rfl⟩ := q2
  obtain ⟨o, ho, kvs, rfl, hkd⟩ := s3.obj n _ p hs (pre_get p3 ep)
  have ev3 : v3 = kV k := keyD_of (H := H3) (.inl q3) hk
  refine ⟨p, upd H3 p (.dK (putK kvs k v1)), rfl, by rw [ev3]; exact DPut.k ho (by rw [kd_len hkd]; exact hz), ?_⟩
  refine q G3 ρ3 _ σ (g1.trans (g2.trans g3)) (p1.trans (p2.trans p3)) (s3.set (pre_get p3 ep) ⟨_, rfl, kd_put ?_ hkd⟩) (lok_mono (g1.trans (g2.trans g3)) (p1.trans (p2.trans p3)) l)
  exact dv_mono (g2.trans g3) _ _ q1
/-! ### several names -/
theorem pgs_names : ∀ {is : List Nat} {es : List Expr}, (List.length is = es.length) → (∀ p ∈ is.zip es, PG X p.2 (gName p.1) ∧ ∀ e q, p.2 ≠ .Starred e q) → PGs X es (gNames is)
  | [], [], _, _ => pgs_nil
  | [], _ :: _, h, _ => by simp at h
  | _ :: _, [], h, _ => by simp at h
  | i :: is, e :: es, h, hp => by
    have h0 := hp (i, e) (by simp)
    refine pgs_cons h0.1 (pgs_names (by simpa using h) fun p hm => hp p (by simp [hm])) ?_
    cases e <;> first | rfl | exact absurd rfl (h0.2 _ _)
theorem each_len : ∀ {es : List Expr} {env : Env}, (∀ e ∈ es, ∀ e' q, e ≠ .Starred e' q) → (assignEach es env).length = es.length ∧ (assignEach es env).findIdx? (·.1) = none
  | [], _, _ => ⟨rfl, rfl⟩
  | e :: es, env, h => by
    have ih := each_len (env := env) fun e' he' => h e' (List.mem_cons_of_mem _ he')
    have h0 := h e List.mem_cons_self
    have e1 : assignEach (e :: es) env = (false, assign e env) :: assignEach es env := by
      cases e <;> first | rfl | exact absurd rfl (h0 _ _)
    rw [e1]
    refine ⟨by rw [List.length_cons, List.length_cons, ih.1], ?_⟩
    rw [List.findIdx?_cons, ih.2]; rfl
theorem setAll_ok {K : PySem.W.Frag} {G : Hp} {ρ : List Addr} {H : Hp} : ∀ {is : List Nat} {rs : List R} {vs : List V} {L L' : Loc} {σ : L2.St} {Q : L2.St → Hp → Prop}, RVs K G ρ rs vs → setAll is rs L = some L' → LOk K G ρ L σ → (∀ σ', LOk K G ρ L' σ' → Q σ' H) → gNames is vs σ H Q
  | [], rs, vs, L, L', σ, Q, hv, e, l, q => by
    cases hv with
    | nil => cases e; exact ⟨rfl, q σ l⟩
    | cons _ _ => cases e
  | i :: is, rs, vs, L, L', σ, Q, hv, e, l, q => by
    cases hv with
    | nil => cases e
    | cons h t => exact ⟨_, _, rfl, setAll_ok t e (lok_set l i h) q⟩
theorem setAll_len : ∀ {is : List Nat} {rs : List R} {L L' : Loc}, setAll is rs L = some L' → rs.length = is.length
  | [], [], _, _, _ => rfl
  | [], _ :: _, _, _, h => by cases h
  | _ :: _, [], _, _, h => by cases h
  | i :: is, r :: rs, L, L', h => congrArg Nat.succ (setAll_len (is := is) (rs := rs) h)
theorem bindIx_len : ∀ {is : List Nat} {rs : List D} {L L' : Loc}, bindIx is rs L = some L' → rs.length = is.length
  | [], [], _, _, _ => rfl
  | [], _ :: _, _, _, h => by cases h
  | _ :: _, [], _, _, h => by cases h
  | i :: is, r :: rs, L, L', h => congrArg Nat.succ (bindIx_len (is := is) (rs := rs) h)
/-- a tuple's display stored in names, by way of the tuple -/
theorem s_parC {is : List Nat} {ts es : List Expr} {eas : Evs} {k k2 : Nat} {tp ep : Pos} (hc : X.calm = true) (hz : List.length is ≤ sizeLine) (hl : List.length is = ts.length) (hp : ∀ p ∈ is.zip ts, PG X p.2 (gName p.1) ∧ ∀ e q, p.2 ≠ .Starred e q) (ha : PA X es (tA X.K eas))
    (hw : swappedStores [.Tuple ts k tp] (.Tuple es k2 ep) X.env = pure none) :
    PS X (.Assign [.Tuple ts k tp] (.Tuple es k2 ep) pos) (tS X.K fun L S => okOr (eas L S) fun (rs, S1) => okOr (setAll is rs L) fun L' => some (.nx, L', S1)) := by
  have hts : ∀ e ∈ ts, ∀ e' q, e ≠ .Starred e' q := fun e he => by
    obtain ⟨n, hn, rfl⟩ := List.getElem_of_mem he
    have hn' : n < is.length := by rw [hl]; exact hn
    have hz : n < (is.zip ts).length := by rw [List.length_zip]; omega
    have := (hp (is.zip ts)[n] (List.getElem_mem hz)).2
    rw [List.getElem_zip] at this
    exact this
  have el := each_len (env := X.env) hts
  refine PS.weak (ps_asg (pe_tup ha) (pg_tup (n := is.length) hc (pgs_names hl hp) (by rw [el.1, hl]) el.2) rfl hw rfl) fun Dn σ H h => ?_
  obtain ⟨F, G, ρ, S, L, f, L', S', s, l, e, q⟩ := h
  obtain ⟨⟨rs, S1⟩, e1, e⟩ := okOr_some e
  obtain ⟨L1, e2, e⟩ := okOr_some e
  obtain ⟨rfl, rfl, rfl⟩ := fl_eq e
  refine ⟨F, G, ρ, S, L, rs, S1, s, l, e1, fun G1 ρ1 H1 vs g1 p1 s1 q1 => ?_⟩
  have hlen : vs.length = is.length := by rw [← rvs_len q1]; exact setAll_len e2
  refine ⟨by rw [hlen]; exact hz, fun p hp => ?_⟩
  obtain ⟨s2, g2⟩ := s1.fix (o := .tup vs) hp
  refine ⟨p, vs, rfl, .of upd_same, hlen, ?_⟩
  refine setAll_ok (G := upd G1 p (.tup vs)) (rvs_mono g2 (List.prefix_refl _) q1) e2 (lok_mono (g1.trans g2) p1 l) fun σ' l' => q _ ρ1 _ σ' (g1.trans g2) p1 s2 l'
theorem s_unp {is : List Nat} {ts : List Expr} {k : Nat} {tp : Pos} (hc : X.calm = true) (hl : List.length is = ts.length) (hp : ∀ p ∈ is.zip ts, PG X p.2 (gName p.1) ∧ ∀ e q, p.2 ≠ .Starred e q) (ha : PE X a (tE X.K ea))
    (hs : swapsWithSole [.Tuple ts k tp] a pos.line X.env = pure false) (hw : swappedStores [.Tuple ts k tp] a X.env = pure none) :
    PS X (.Assign [.Tuple ts k tp] a pos) (tS X.K fun L S => okOr (ea L S) fun (x, S1) => match x with
    | .d (.tuple ds) => okOr (bindIx is ds L) fun L' => some (.nx, L', S1)
    | _ => none) := by
  have hts : ∀ e ∈ ts, ∀ e' q, e ≠ .Starred e' q := fun e he => by
    obtain ⟨n, hn, rfl⟩ := List.getElem_of_mem he
    have hn' : n < is.length := by rw [hl]; exact hn
    have hz : n < (is.zip ts).length := by rw [List.length_zip]; omega
    have := (hp (is.zip ts)[n] (List.getElem_mem hz)).2
    rw [List.getElem_zip] at this
    exact this
  have el := each_len (env := X.env) hts
  refine PS.weak (ps_asg ha (pg_tup (n := is.length) hc (pgs_names hl hp) (by rw [el.1, hl]) el.2) hs hw rfl) fun Dn σ H h => ?_
  obtain ⟨F, G, ρ, S, L, f, L', S', s, l, e, q⟩ := h
  obtain ⟨⟨x, S1⟩, e1, e⟩ := okOr_some e
  dsimp only at e
  split at e
  · obtain ⟨L1, e2, e⟩ := okOr_some e
    obtain ⟨rfl, rfl, rfl⟩ := fl_eq e
    refine ⟨F, G, ρ, S, L, _, S1, s, l, e1, fun G1 ρ1 H1 v1 g1 p1 s1 q1 => ?_⟩
    cases q1 with
    | tup h1 h2 =>
      exact ⟨_, _, rfl, Same.sqt s1.subG h1, by rw [dvs_len h2]; exact bindIx_len e2, names_ok (own := is) h2 e2 (fun i hi => hi) (lok_mono g1 p1 l) fun σ' l' _ => q G1 ρ1 _ σ' g1 p1 s1 l'⟩
  · cases e
/-- two names, two values, stored from the right -/
theorem s_par2 {i j : Nat} {x y : Str} {px py pt : Pos} {kt k2 pt2} {eas : Evs} (hc : X.calm = true) (hN : X.N.Nodup) (hi : X.N[i]? = some x) (hj : X.N[j]? = some y) (hij : i ≠ j) (hx : X.env.scope.names.lookup x = some .local) (hy : X.env.scope.names.lookup y = some .local)
    (ha : PA X [a, b] (tA X.K eas)) (hw : swappedStores [.Tuple [.Name x px, .Name y py] kt pt] (.Tuple [a, b] k2 pt2) X.env = pure (some [x, y])) :
    PS X (.Assign [.Tuple [.Name x px, .Name y py] kt pt] (.Tuple [a, b] k2 pt2) pos) (tS X.K fun L S => okOr (eas L S) fun (rs, S1) => okOr (setAll [i, j] rs L) fun L' => some (.nx, L', S1)) := by
  refine PS.weak (ps_par hc hN hi hj hij hx hy ha hw) fun Dn σ H h => ?_
  obtain ⟨F, G, ρ, S, L, f, L', S', s, l, e, q⟩ := h
  obtain ⟨⟨rs, S1⟩, e1, e⟩ := okOr_some e
  obtain ⟨L1, e2, e⟩ := okOr_some e
  obtain ⟨rfl, rfl, rfl⟩ := fl_eq e
  refine ⟨F, G, ρ, S, L, rs, S1, s, l, e1, fun G1 ρ1 H1 vs g1 p1 s1 q1 => ?_⟩
  cases q1 with
  | nil => cases e2
  | cons h t =>
    cases t with
    | nil => cases e2
    | cons h' t' =>
      cases t' with
      | cons _ _ => cases e2
      | nil =>
        cases e2
        exact ⟨_, _, rfl, q G1 ρ1 _ _ g1 p1 s1 (lok_set (lok_set (lok_mono g1 p1 l) i h) j h')⟩
/-- three names, three values -/
def tPar3 (i j k : Nat) (ta : TA) : TS := fun D σ H => ta σ H fun vs H1 => ∃ v w z, vs = [v, w, z] ∧ D.nx (((σ.set i (some v)).set j (some w)).set k (some z)) H1
theorem ps_par3 {i j k : Nat} {x y z : Str} {ta : TA} {px py pz pt : Pos} {kt k2 pt2} (hc : X.calm = true) (hN : X.N.Nodup) (hi : X.N[i]? = some x) (hj : X.N[j]? = some y) (hk : X.N[k]? = some z) (hij : i ≠ j) (hik : i ≠ k) (hjk : j ≠ k)
    (hx : X.env.scope.names.lookup x = some .local) (hy : X.env.scope.names.lookup y = some .local) (hz : X.env.scope.names.lookup z = some .local) (ha : PA X [a, b, c] ta)
    (hw : swappedStores [.Tuple [.Name x px, .Name y py, .Name z pz] kt pt] (.Tuple [a, b, c] k2 pt2) X.env = pure (some [x, y, z])) :
    PS X (.Assign [.Tuple [.Name x px, .Name y py, .Name z pz] kt pt] (.Tuple [a, b, c] k2 pt2) pos) (tPar3 i j k ta) := by
  refine ⟨fun pins s0 σ H Dn I h => ?_⟩
  rw [exec_Assign_arm]
  refine wpAny_bind (wpAny_standAt ?_)
  rw [show swapsWithSole [.Tuple [.Name x px, .Name y py, .Name z pz] kt pt] (.Tuple [a, b, c] k2 pt2) pos.line X.env = pure false from rfl]
  refine wpAny_bind (wpAny_pure ?_)
  rw [if_neg (by decide)]
  refine wpAny_bind (Tuple_ (thn (ha.run _ pins s0 σ H _ I h) fun us s1 ⟨vs, H1, I1, r1, q1⟩ => ?_))
  obtain ⟨v, w, u, e1, q1⟩ := q1
  subst e1
  obtain ⟨u1, u2, u3, rfl, rv, rw', ru⟩ : ∃ u1 u2 u3, us = [u1, u2, u3] ∧ RelV v u1 ∧ RelV w u2 ∧ RelV u u3 := by
    cases r1 with
    | cons p q => cases q with
      | cons p' q' => cases q' with
        | cons p'' q'' => cases q''; exact ⟨_, _, _, rfl, p, p', p''⟩
  refine wpAny_newObj_type ?_ (by show 3 ≤ sizeLine; decide)
  have I2 : L2.Inv X pins σ H1 { s1 with heap := s1.heap.push { cls := .type "tuple", data := .seq [u1, u2, u3].toArray } } := I1.kept (t' := s1.toks) fun _ _ e => Heap.get?_push_of_some _ e
  rw [hw]
  refine wpAny_bind (wpAny_pure ?_)
  show wpAny (model X.prog X.w) X.A (do
    rule "assign.swapped-stores"
    let items ← unpackItems (.ref s1.heap.objs.size) 3 none
    assignInOrder [fun v => bindName X.env z v, fun v => bindName X.env y v, fun v => bindName X.env x v] items.reverse
    pure Flow.next) _ _ _
  refine wpAny_bind (wpAny_rule (wpAny_bind (unpackItems_tuple (items := #[u1, u2, u3]) (I.ok.hd hc) (IsTup.new s1.heap _) fun h' hx' => ?_)))
  have I3 := I2.kept (h' := h') (t' := s1.toks) fun b o e => hx' b o (Nat.ne_of_lt (Heap.lt_size e)) e
  show wpAny _ _ (assignInOrder [fun v => bindName X.env z v, fun v => bindName X.env y v, fun v => bindName X.env x v] [u3, u2, u1] >>= fun _ => pure Flow.next) _ _ _
  refine wpAny_bind (assignInOrder_cons (wpAny_bindName (store_ok I3 hN hk (.inl hz) ru (fun s2 I4 => ?_) (.inr hz))))
  refine assignInOrder_cons (wpAny_bindName (store_ok I4 hN hj (.inl hy) rw' (fun s3 I5 => ?_) (.inr hy)))
  refine assignInOrder_cons (wpAny_bindName (store_ok I5 hN hi (.inl hx) rv (fun s4 I6 => assignInOrder_nil (wpAny_pure ?_)) (.inr hx)))
  have e6 : (((σ.set k (some u)).set j (some w)).set i (some v)) = (((σ.set i (some v)).set j (some w)).set k (some u)) := by
    rw [List.set_comm _ _ (Ne.symm hij), List.set_comm (some u) (some v) (Ne.symm hik), List.set_comm (some u) (some w) (Ne.symm hjk)]
  rw [e6] at I6
  exact ⟨_, H1, I6, q1⟩
theorem s_par3 {i j k : Nat} {x y z : Str} {px py pz pt : Pos} {kt k2 pt2} {eas : Evs} (hc : X.calm = true) (hN : X.N.Nodup) (hi : X.N[i]? = some x) (hj : X.N[j]? = some y) (hk : X.N[k]? = some z) (hij : i ≠ j) (hik : i ≠ k) (hjk : j ≠ k)
    (hx : X.env.scope.names.lookup x = some .local) (hy : X.env.scope.names.lookup y = some .local) (hz : X.env.scope.names.lookup z = some .local) (ha : PA X [a, b, c] (tA X.K eas))
    (hw : swappedStores [.Tuple [.Name x px, .Name y py, .Name z pz] kt pt] (.Tuple [a, b, c] k2 pt2) X.env = pure (some [x, y, z])) :
    PS X (.Assign [.Tuple [.Name x px, .Name y py, .Name z pz] kt pt] (.Tuple [a, b, c] k2 pt2) pos) (tS X.K fun L S => okOr (eas L S) fun (rs, S1) => okOr (setAll [i, j, k] rs L) fun L' => some (.nx, L', S1)) := by
  refine PS.weak (ps_par3 hc hN hi hj hk hij hik hjk hx hy hz ha hw) fun Dn σ H h => ?_
  obtain ⟨F, G, ρ, S, L, f, L', S', s, l, e, q⟩ := h
  obtain ⟨⟨rs, S1⟩, e1, e⟩ := okOr_some e
  obtain ⟨L1, e2, e⟩ := okOr_some e
  obtain ⟨rfl, rfl, rfl⟩ := fl_eq e
  refine ⟨F, G, ρ, S, L, rs, S1, s, l, e1, fun G1 ρ1 H1 vs g1 p1 s1 q1 => ?_⟩
  cases q1 with
  | nil => cases e2
  | cons h t =>
    cases t with
    | nil => cases e2
    | cons h' t' =>
      cases t' with
      | nil => cases e2
      | cons h'' t'' =>
        cases t'' with
        | cons _ _ => cases e2
        | nil =>
          cases e2
          exact ⟨_, _, _, rfl, q G1 ρ1 _ _ g1 p1 s1 (lok_set (lok_set (lok_set (lok_mono g1 p1 l) i h) j h') k h'')⟩
/-! ### for -/
abbrev evFor (tg : Tg) (ei : EvI) (u : EvS) : EvS := fun L S => okOr (ei L S) fun (ds, lk, S1) => guardB (lockB lk S1) (forM' lk (fun d L S => okOr (bindT tg d L) fun L' => u L' S) ds L S1)
theorem s_for {tgt iter : Expr} {body : List Stmt} {tg : Tg} {ei : EvI} (hp : PassesOwn (model X.prog X.w) X.A X.env X.xe) (hc : X.calm = true) (hi : PI X tgt iter (tI X.K ei)) (hg : PG X tgt (gT X.K tg)) (hb : PSs X body (tS X.K u)) (hs : ∀ x, foldedSetIterable iter X.env x = pure x) :
    PS X (.For tgt iter body [] pos) (tS X.K (evFor tg ei u)) := by
  refine PS.weak (ps_for hp hc hi hg hb hs) fun Dn σ H h => ?_
  obtain ⟨F, G, ρ, S, L, f, Lf, Sf, s, l, e, q⟩ := h
  obtain ⟨⟨ds, lk, S1⟩, e1, e⟩ := okOr_some e
  obtain ⟨hlk, e⟩ := guardB_some e
  refine ⟨F, G, ρ, S, L, ds, lk, S1, s, l, e1, hlk, fun J G1 ρ1 H1 g1 p1 s1 feed => ?_⟩
  let W : Nat → Nat → L2.St → Hp → Prop := fun i m σ H => m = ds.length - i ∧ i ≤ ds.length ∧ ∃ G' ρ' S' L', Same G1 G' ∧ ρ1 <+: ρ' ∧ SOk X.K F G' ρ' S' H ∧ LOk X.K G' ρ' L' σ ∧ lockB lk S' = true ∧ forM' lk (fun d L S => okOr (bindT tg d L) fun L' => u L' S) (ds.drop i) L' S' = some (f, Lf, Sf)
  refine ⟨W, ⟨ds.length, by simp, Nat.zero_le _, G1, ρ1, S1, L, Same.refl _, List.prefix_refl _, s1, lok_mono g1 p1 l, hlk, e⟩, ?_⟩
  rintro i m σ2 H2 ⟨rfl, hi, G', ρ', S', L', g2, p2, s2, l2, hk, hl⟩
  by_cases hlt : i < ds.length
  · refine .inr ⟨feed.go _ G' ρ' S' H2 i ds[i] g2 p2 s2 hk (List.getElem?_eq_getElem hlt), W (i + 1) (ds.length - (i + 1)), fun σ' H' w => ⟨_, by omega, w⟩, fun x H3 hy => ?_⟩
    obtain ⟨G3, g3, s3, hx⟩ := feed.yld _ G' ρ' S' H2 i ds[i] x H3 g2 p2 s2 hk (List.getElem?_eq_getElem hlt) hy
    rw [List.drop_eq_getElem_cons hlt] at hl
    simp only [forM'] at hl
    cases ht : okOr (bindT tg ds[i] L') fun L' => u L' S' with
    | none => rw [ht] at hl; cases hl
    | some res =>
      obtain ⟨f1, L1, S3⟩ := res
      rw [ht] at hl
      obtain ⟨L'', eb, ht⟩ := okOr_some ht
      refine tg_ok (own := tg.ixs) s3 hx eb (fun i hi => hi) (lok_mono g3 (List.prefix_refl _) l2) fun σ3 l3 _ => ?_
      refine ⟨F, G3, ρ', S', L'', f1, L1, S3, s3, l3, ht, ?_⟩
      have gall := g1.trans (g2.trans g3)
      have pall := p1.trans p2
      cases f1 with
      | rt r => obtain ⟨rfl, rfl, rfl⟩ := fl_eq hl; exact q.mono gall pall
      | bk =>
        obtain ⟨rfl, rfl, rfl⟩ := fl_eq hl
        exact fun G4 ρ4 H4 σ4 g4 p4 s4 l4 => q G4 ρ4 H4 σ4 (gall.trans g4) (pall.trans p4) s4 l4
      | nx =>
        dsimp only at hl
        by_cases hk3 : lockB lk S3 = true
        · rw [if_pos hk3] at hl
          exact fun G4 ρ4 H4 σ4 g4 p4 s4 l4 => ⟨rfl, hlt, G4, ρ4, S3, L1, g2.trans (g3.trans g4), p2.trans p4, s4, l4, hk3, hl⟩
        · rw [if_neg hk3] at hl; cases hl
      | ct =>
        dsimp only at hl
        by_cases hk3 : lockB lk S3 = true
        · rw [if_pos hk3] at hl
          exact fun G4 ρ4 H4 σ4 g4 p4 s4 l4 => ⟨rfl, hlt, G4, ρ4, S3, L1, g2.trans (g3.trans g4), p2.trans p4, s4, l4, hk3, hl⟩
        · rw [if_neg hk3] at hl; cases hl
  · have hi' : i = ds.length := by omega
    subst hi'
    refine .inl ⟨feed.stop _ G' ρ' S' H2 _ g2 p2 s2 hk (Nat.le_refl _), ?_⟩
    rw [List.drop_length] at hl
    obtain ⟨rfl, rfl, rfl⟩ := fl_eq hl
    exact q G' ρ' H2 σ2 (g1.trans g2) (p1.trans p2) s2 l2
end
end PL
end
section
set_option maxHeartbeats 4000000
namespace PL
open PySem PySem.Spec PyProof.Rows L2
structure Tab where
  fns : List Fn
  gl : List (Str × D)
  gd : List (Str × List (Str × D))
def freeNames : List Str := ["len", "all", "any", "tuple", "list", "int", "isinstance", "bool", "str", "range", "zip", "enumerate", "repr", "sorted", "set"]
/-- a def's promise, where no guard is under way -/
structure FnG (P : Program) (w : World) (K : PySem.W.Frag) (mg : Str → Option Value) (base : Heap) (k : Nat) (f : Addr) (fd : FuncData) (ps : List Str) (cl : Prim) : Prop where
  run : ∀ (A : Around) (outer : List PySem.Env) (s : Shared) (H : Hp) (args : Args) (us : List Value) (vs : List V) (Q : VK), Room k A → A.guards = some [] → Env0 P w K mg base A outer s H → BindsTo s fd args (ps.zip us) → Vals vs us → vs.length = ps.length → tP K cl vs H Q →
    codeAny (model P w) A (.call (.ref f) args) (CR CX0 outer P w H s Q E0) s
  kw : ∀ x, ps = [x] → ∀ (s : Shared) (u : Value), BindsTo s fd ⟨[], [(x, u)]⟩ [(x, u)]
def tabEq : List (Str × D) → List (Str × D) → Bool
  | [], [] => true
  | p :: r, q :: t => decide (p.1 = q.1) && dEq p.2 q.2 && tabEq r t
  | _, _ => false
theorem tabEq_eq : ∀ (a b : List (Str × D)), tabEq a b = true → a = b
  | [], [], _ => rfl
  | [], _ :: _, h => by simp [tabEq] at h
  | _ :: _, [], h => by simp [tabEq] at h
  | (x, u) :: r, (y, v) :: t, h => by
    simp only [tabEq, Bool.and_eq_true, decide_eq_true_eq] at h
    obtain ⟨⟨rfl, h2⟩, h3⟩ := h
    rw [dEq_eq u v h2, tabEq_eq r t h3]
structure Good (T : Tab) (cl : Cl) (n : Nat) (X : Cx) : Prop where
  calm : X.calm = true
  nd : X.N.Nodup
  gd : X.A.guards = some []
  room : Room n X.A
  free : ∀ x ∈ freeNames, X.mg x = none
  glob : ∀ p ∈ T.gl, ∃ u v, X.mg p.1 = some u ∧ RelV v u ∧ ∀ G, DV X.K G v p.2
  gdict : ∀ p ∈ T.gd, ∃ addr, X.mg p.1 = some (.ref addr) ∧ KTab X.K X.w addr p.2
  fn : ∀ f d, T.fns[f]? = some d → ∃ addr fd ps, X.mg d.name = some (.ref addr) ∧ PySem.W.keepIn X.K (.ref addr) = true ∧ Binds X.K fd ps [] ∧ (ps.length = d.np ∧ ps = d.names.take d.np) ∧ FnG X.prog X.w X.K X.mg X.base n addr fd ps (cl f)
  len : ∀ f d rs S r, T.fns[f]? = some d → cl f rs S = some r → rs.length = d.np
theorem Good.blk {T : Tab} {cl : Cl} {n : Nat} {X : Cx} (g : Good T cl n X) (s : Shared) (H : Hp) (scope : Scope) (ce : PySem.Env) (fp : List Addr) : Good T cl n (X.blk s H scope ce fp) :=
  ⟨g.calm, g.nd, g.gd, g.room, g.free, g.glob, g.gdict, g.fn, g.len⟩
theorem Good.un {T : Tab} {cl : Cl} {n : Nat} {X : Cx} (g : Good T cl n X) : X.A.units + 64 < cLine := g.room.units
theorem Good.un1 {T : Tab} {cl : Cl} {n : Nat} {X : Cx} (g : Good T cl n X) : X.A.units + 1 < cLine := hu_of g.room
/-! ### the check -/
def visB (sc : Scope) (x : Str) : Bool := match sc.names.lookup x with
  | some .local => true
  | some .cell => true
  | some .free => true
  | _ => false
def glB (sc : Scope) (x : Str) : Bool := match sc.names.lookup x with
  | some .globalImplicit => !(x == ("__debug__" : Str))
  | _ => false
def nameB (N : List Str) (sc : Scope) (i : Nat) (x : Str) : Bool := decide (N[i]? = some x) && visB sc x && !(x == ("__debug__" : Str)) && !(x == ("__classdict__" : Str))
/-- a name that is stored -/
def storeB (N : List Str) (sc : Scope) (fnb : Str → Bool) (i : Nat) (x : Str) : Bool := decide (N[i]? = some x) && (match sc.names.lookup x with
  | some .local => true
  | some .cell => fnb x
  | _ => false)
def storesB (N : List Str) (sc : Scope) (fnb : Str → Bool) : List Nat → List Expr → Bool
  | [], [] => true
  | i :: is, .Name x _ :: es => storeB N sc fnb i x && storesB N sc fnb is es
  | _, _ => false
def tgB (N : List Str) (sc : Scope) (fnb : Str → Bool) : Tg → Expr → Bool
  | .one i, .Name x _ => storeB N sc fnb i x
  | .tup is, .Tuple es _ _ => storesB N sc fnb is es
  | _, _ => false
def notSuper : Expr → Bool
  | .Call (.Name x _) [] [] _ => !(x == ("super" : Str))
  | _ => true
def isTup : Expr → Bool
  | .Tuple _ _ _ => true
  | _ => false
def keysB : List Str → List (Option Expr) → Bool
  | [], [] => true
  | k :: ks, some (.Constant (.str x) _ _) :: es => decide (k = x) && keysB ks es
  | _, _ => false
mutual
def ckE (T : Tab) (N : List Str) (sc : Scope) : E → Expr → Bool
  | .loc i, .Name x _ => nameB N sc i x
  | .int i, .Constant (.int j) _ _ => decide (i = j)
  | .str x, .Constant (.str y) _ _ => decide (x = y)
  | .bl b, .Constant (.bool c) _ _ => decide (b = c)
  | .non, .Constant .none _ _ => true
  | .gd x d, .Name y _ => decide (x = y) && glB sc y && (T.gl.any fun p => decide (p.1 = y) && dEq p.2 d)
  | .bin op a b, .BinOp l o r _ => decide (op = o) && ckE T N sc a l && ckE T N sc b r
  | .cmp op a b, .Compare l [o] [r] _ => decide (op = o) && ckE T N sc a l && ckE T N sc b r && !behindInMarks o r
  | .cmp2 o p a b c, .Compare x [o', p'] [y, z] _ => decide (o = o') && decide (p = p') && ckE T N sc a x && ckE T N sc b y && ckE T N sc c z && !lastMarks [o', p'] [y, z]
  | .bop k a r, .BoolOp .And (x :: xs) _ => k && ckE T N sc a x && ckEs T N sc r xs
  | .bop k a r, .BoolOp .Or (x :: xs) _ => !k && ckE T N sc a x && ckEs T N sc r xs
  | .not a, .UnaryOp .Not x _ => ckE T N sc a x
  | .neg a, .UnaryOp .USub x _ => ckE T N sc a x
  | .ite c a b, .IfExp x y z _ => ckE T N sc c x && ckE T N sc a y && ckE T N sc b z
  | .tup es, .Tuple xs _ _ => ckEs T N sc es xs
  | .lst es, .List xs _ => ckEs T N sc es xs
  | .lstR es, .List xs _ => ckEs T N sc es xs
  | .dic0, .Dict [] [] _ => true
  | .dic ks es, .Dict keys vals _ => keysB ks keys && ckEs T N sc es vals && decide (keys.length = vals.length) && decide (keys.length ≤ 15) && decide (0 < keys.length)
  | .ix a i, .Subscript x y _ => ckE T N sc a x && ckE T N sc i y
  | .sl a lo hi, .Subscript x (.Slice l h none _) _ => ckE T N sc a x && ckO T N sc lo l && ckO T N sc hi h
  | .bi b a, .Call (.Name x _) [y] [] _ => decide (x = b.name) && glB sc x && ckE T N sc a y
  | .isi t a, .Call (.Name x _) [y, .Name z _] [] _ => decide (x = ("isinstance" : Str)) && glB sc x && decide (z = t.nm) && glB sc z && ckE T N sc a y
  | .call f es, .Call (.Name x _) xs [] _ => (match T.fns[f]? with
      | some d => decide (d.name = x)
      | none => false) && glB sc x && ckEs T N sc es xs
  | .comp own tg it cs e, .ListComp elt [⟨t, i, ifs, z⟩] scope _ => decide (z = 0) && blkC N sc scope (own.map fun i => (N.getD i Str.empty, i)) && (tg.ixs.all fun i => own.contains i) && tgB N (relS scope sc) (fun x => scope.names.lookup x == some .cell) tg t && ckI T N sc it i t && ckEs T N (relS scope sc) cs ifs && ckE T N (relS scope sc) e elt
  | .compR own tg it cs e, .ListComp elt [⟨t, i, ifs, z⟩] scope _ => decide (z = 0) && blkC N sc scope (own.map fun i => (N.getD i Str.empty, i)) && (tg.ixs.all fun i => own.contains i) && tgB N (relS scope sc) (fun x => scope.names.lookup x == some .cell) tg t && ckI T N sc it i t && ckEs T N (relS scope sc) cs ifs && ckE T N (relS scope sc) e elt
  | .get2 d k e, .Call (.Attribute o m apos) [x, y] [] pos => decide (m = ("get" : Str)) && (apos.endLine == pos.line) && notSuper o && ckE T N sc d o && ckE T N sc k x && ckE T N sc e y
  | .app a e, .Call (.Attribute o m apos) [x] [] pos => decide (m = ("append" : Str)) && (apos.endLine == pos.line) && notSuper o && ckE T N sc a o && ckE T N sc e x
  | .ext a e, .Call (.Attribute o m apos) [x] [] pos => decide (m = ("extend" : Str)) && (apos.endLine == pos.line) && notSuper o && ckE T N sc a o && ckE T N sc e x
  | .join a e, .Call (.Attribute o m apos) [x] [] pos => decide (m = ("join" : Str)) && (apos.endLine == pos.line) && notSuper o && ckE T N sc a o && ckE T N sc e x
  | .gget2 x tab k e, .Call (.Attribute (.Name y _) m apos) [z, z2] [] pos => decide (m = ("get" : Str)) && decide (x = y) && (apos.endLine == pos.line) && glB sc y && (T.gd.any fun p => decide (p.1 = y) && tabEq p.2 tab) && ckE T N sc k z && ckE T N sc e z2
  | .gget x tab k, .Call (.Attribute (.Name y _) m apos) [z] [] pos => decide (m = ("get" : Str)) && decide (x = y) && (apos.endLine == pos.line) && glB sc y && (T.gd.any fun p => decide (p.1 = y) && tabEq p.2 tab) && ckE T N sc k z
  | .sset a, .Call (.Name x _) [.Call (.Name y _) [z] [] _] [] _ => decide (x = ("sorted" : Str)) && glB sc x && decide (y = ("set" : Str)) && glB sc y && ckE T N sc a z
  | .gix x tab k, .Subscript (.Name y _) z _ => decide (x = y) && glB sc y && (T.gd.any fun p => decide (p.1 = y) && tabEq p.2 tab) && ckE T N sc k z
  | .gin neg x tab k, .Compare z [o] [.Name y _] _ => decide (o = inOp neg) && decide (x = y) && glB sc y && (T.gd.any fun p => decide (p.1 = y) && tabEq p.2 tab) && ckE T N sc k z
  | .reprL es, .Call (.Name x _) [.List xs _] [] _ => decide (x = ("repr" : Str)) && glB sc x && ckEs T N sc es xs
  | .rev a, .Subscript y (.Slice none none (some (.UnaryOp .USub (.Constant (.int 1) _ _) _)) _) _ => ckE T N sc a y
  | .sortd a, .Call (.Name x _) [y] [] _ => decide (x = ("sorted" : Str)) && glB sc x && ckE T N sc a y
  | .callK f x e, .Call (.Name y _) [] [⟨some z, v, _⟩] _ => (match T.fns[f]? with
      | some d => decide (d.name = y) && decide (d.names.take d.np = [z])
      | none => false) && glB sc y && decide (x = z) && ckE T N sc e v
  | _, _ => false
def ckEs (T : Tab) (N : List Str) (sc : Scope) : Es → List Expr → Bool
  | .nil, [] => true
  | .cons e es, x :: xs => ckE T N sc e x && ckEs T N sc es xs
  | _, _ => false
def ckO (T : Tab) (N : List Str) (sc : Scope) : O → Option Expr → Bool
  | .no, none => true
  | .so e, some x => ckE T N sc e x
  | _, _ => false
def ckI (T : Tab) (N : List Str) (sc : Scope) : It' → Expr → Expr → Bool
  | .seq e, x, _ => ckE T N sc e x
  | .rng e, .Call (.Name x _) [y] [] _, _ => decide (x = ("range" : Str)) && glB sc x && ckE T N sc e y
  | .zip a b, .Call (.Name x _) [y, z] [] _, t => decide (x = ("zip" : Str)) && glB sc x && ckE T N sc a y && ckE T N sc b z && isTup t
  | .rng2 a b, .Call (.Name x _) [y, z] [] _, _ => decide (x = ("range" : Str)) && glB sc x && ckE T N sc a y && ckE T N sc b z
  | .enm a, .Call (.Name x _) [y] [] _, t => decide (x = ("enumerate" : Str)) && glB sc x && ckE T N sc a y && isTup t
  | _, _, _ => false
end
theorem ck_star {T : Tab} {N : List Str} {sc : Scope} {e : E} {x : Expr} (h : ckE T N sc e x = true) : ∀ y p, x ≠ .Starred y p := fun y p z => by
  subst z; cases e <;> simp [ckE] at h
theorem ck_slice {T : Tab} {N : List Str} {sc : Scope} {e : E} {x : Expr} (h : ckE T N sc e x = true) : PlainIx x := by
  intro o i
  cases x <;> first | rfl | (cases e <;> simp [ckE] at h)
theorem ck_set {T : Tab} {N : List Str} {sc : Scope} {e : E} {x : Expr} (h : ckE T N sc e x = true) {env : PySem.Env} : ∀ v, foldedSetIterable x env v = pure v := by
  intro v
  cases x <;> first | rfl | (cases e <;> simp [ckE] at h)
theorem vis_ok {sc : Scope} {x : Str} (h : visB sc x = true) : Vis sc x := by
  unfold visB at h
  split at h
  · exact .inl (by assumption)
  · exact .inr (.inl (by assumption))
  · exact .inr (.inr (by assumption))
  · cases h
theorem gl_ok {X : Cx} {x : Str} (h : glB X.env.scope x = true) : Gl X x ∧ (x == ("__debug__" : Str)) = false := by
  unfold glB at h
  split at h
  · rename_i e
    exact ⟨e, by simpa using h⟩
  · cases h
theorem store_ok' {X : Cx} {fnb : Str → Bool} (hf : ∀ x, fnb x = true → X.fn x = true) (hN : X.N.Nodup) {i : Nat} {x : Str} {pos : Pos} (h : storeB X.N X.env.scope fnb i x = true) : PG X (.Name x pos) (gName i) := by
  unfold storeB at h
  rw [Bool.and_eq_true] at h
  obtain ⟨h1, h2⟩ := h
  have h1 := of_decide_eq_true h1
  split at h2
  · exact pg_name hN h1 (.inl (by assumption)) (.inr (by assumption))
  · exact pg_name hN h1 (.inr (by assumption)) (.inl (hf x h2))
  · cases h2
theorem stores_ok {X : Cx} {fnb : Str → Bool} (hf : ∀ x, fnb x = true → X.fn x = true) (hN : X.N.Nodup) : ∀ {is : List Nat} {es : List Expr}, storesB X.N X.env.scope fnb is es = true → is.length = es.length ∧ ∀ p ∈ is.zip es, PG X p.2 (gName p.1) ∧ ∀ e q, p.2 ≠ .Starred e q
  | [], [], _ => ⟨rfl, fun p hp => by simp at hp⟩
  | [], _ :: _, h => by simp [storesB] at h
  | _ :: _, [], h => by simp [storesB] at h
  | i :: is, e :: es, h => by
    cases e <;> first | (simp [storesB] at h; done) | skip
    rename_i x q
    simp only [storesB, Bool.and_eq_true] at h
    obtain ⟨ih1, ih2⟩ := stores_ok hf hN h.2
    refine ⟨congrArg Nat.succ ih1, fun p hp => ?_⟩
    rcases List.mem_cons.mp (show p ∈ (i, Expr.Name x q) :: is.zip es from hp) with e | hp
    · subst e
      exact ⟨store_ok' hf hN h.1, fun e q z => nomatch z⟩
    · exact ih2 p hp
theorem tgB_ok {X : Cx} {fnb : Str → Bool} (hf : ∀ x, fnb x = true → X.fn x = true) (hN : X.N.Nodup) (hc : X.calm = true) {tg : Tg} {e : Expr} (h : tgB X.N X.env.scope fnb tg e = true) : PG X e (gT X.K tg) := by
  cases tg with
  | one i =>
    cases e <;> first | (simp [tgB] at h; done) | skip
    exact store_ok' hf hN h
  | tup is =>
    cases e <;> first | (simp [tgB] at h; done) | skip
    rename_i elts kk pp
    obtain ⟨h1, h2⟩ := stores_ok hf hN h
    have hts : ∀ e ∈ elts, ∀ e' q, e ≠ Expr.Starred e' q := fun e he => by
      obtain ⟨n, hn, rfl⟩ := List.getElem_of_mem he
      have hn' : n < is.length := by rw [h1]; exact hn
      have hz : n < (is.zip elts).length := by rw [List.length_zip]; exact Nat.lt_min.mpr ⟨hn', hn⟩
      have := (h2 _ (List.getElem_mem hz)).2
      rw [List.getElem_zip] at this
      exact this
    have el := each_len (env := X.env) hts
    exact pg_tup (n := is.length) hc (pgs_names h1 h2) (by rw [el.1, h1]) el.2
theorem super_ok {X : Cx} {o : Expr} {m : Str} (h : notSuper o = true) : attributeBase o m X.env (eval o X.env) = eval o X.env := base_of fun p q z => by
  subst z
  simp [notSuper] at h
/-- a def called by values -/
theorem Good.call {T : Tab} {cl : Cl} {n : Nat} {X : Cx} (g : Good T cl n X) {f : Nat} {d : Fn} (hf : T.fns[f]? = some d) : ∃ addr, X.mg d.name = some (.ref addr) ∧ PySem.W.keepIn X.K (.ref addr) = true ∧
    ∀ (pins : List (Addr × Obj)) (s : Shared) (σ : L2.St) (H : Hp) (us : List Value) (vs : List V) (Q : VK), L2.Inv X pins σ H s → Vals vs us → tP X.K (cl f) vs H Q → wpAny (model X.prog X.w) X.A (PySem.call (.ref addr) us) (EP X pins σ Q) X.xe s := by
  obtain ⟨addr, fd, ps, h1, h2, h3, h4, h5⟩ := g.fn f d hf
  refine ⟨addr, h1, h2, fun pins s σ H us vs Q I r h => ?_⟩
  have hl : vs.length = ps.length := by
    obtain ⟨F, G, ρ, S, rs, r', S', s', q, e, _⟩ := h
    rw [← rvs_len q, h4.1]; exact g.len f d rs S _ hf e
  have hlu : (us ++ []).length = ps.length := by rw [List.append_nil, ← r.length]; exact hl
  have hb := h3 s us I.kIn hlu
  rw [List.append_nil] at hb
  refine wpAny_call (codeAny_mono (h5.run X.A X.stack s H ⟨us, []⟩ us vs Q g.room g.gd I.env0 hb r hl h) fun res s' hq => ?_)
  cases res with
  | error e => exact (show False from hq).elim
  | ok fl =>
    cases fl with
    | ret u => exact I.after hq
    | next => exact False.elim hq
    | brk => exact False.elim hq
    | cont => exact False.elim hq
theorem any_back {env : PySem.Env} {pos : Pos} : ∀ (l : List Expr), (∀ e ∈ l, ∀ y q, e ≠ .Starred y q) → (backTo pos (starEach l env)).any (·.1) = false
  | [], _ => rfl
  | x :: xs, h => by
    rw [star1 (h x List.mem_cons_self)]
    show (false || (backTo pos (starEach xs env)).any (·.1)) = false
    rw [any_back xs fun e he => h e (List.mem_cons_of_mem _ he)]
    rfl
theorem e_call0 {T : Tab} {cl : Cl} {n : Nat} {X : Cx} (g : Good T cl n X) {f : Nat} {d : Fn} (hf : T.fns[f]? = some d) {p pos : Pos} (hg : Gl X d.name) (hdb : (d.name == ("__debug__" : Str)) = false) :
    PE X (.Call (.Name d.name p) [] [] pos) (tE X.K fun L S => okOr (some (([] : List R), S)) fun (rs, S1) => cl f rs S1) := by
  obtain ⟨addr, h1, h2, h3⟩ := g.call hf
  refine ⟨fun pins s σ H Q I h => ?_⟩
  refine wpAny_Call_Name_kw (ld_glob I hg h1 ?_ hdb)
  obtain ⟨F, G, ρ, S, L, r, S', s', l, e, q⟩ := h
  exact PySem.W.callWith_K0 I.kIn h2 (h3 pins s σ H [] [] Q I .nil ⟨F, G, ρ, S, [], r, S', s', .nil, e, q⟩)
theorem e_call {T : Tab} {cl : Cl} {n : Nat} {X : Cx} (g : Good T cl n X) {f : Nat} {d : Fn} (hf : T.fns[f]? = some d) {p pos : Pos} {e : Expr} {es : List Expr} {eas : Evs} (hg : Gl X d.name) (hdb : (d.name == ("__debug__" : Str)) = false) (ha : PA X (e :: es) (tA X.K eas))
    (hst : ∀ x ∈ e :: es, ∀ y q, x ≠ .Starred y q) : PE X (.Call (.Name d.name p) (e :: es) [] pos) (tE X.K fun L S => okOr (eas L S) fun (rs, S1) => cl f rs S1) := by
  obtain ⟨addr, h1, h2, h3⟩ := g.call hf
  have fin : ∀ {σ : L2.St} {H : Hp} {Q : VK}, tE X.K (fun L S => okOr (eas L S) fun (rs, S1) => cl f rs S1) σ H Q → tA X.K eas σ H fun vs H1 => tP X.K (cl f) vs H1 Q := fun {σ H Q} h => by
    obtain ⟨F, G, ρ, S, L, r, S', s, l, e, q⟩ := h
    obtain ⟨⟨rs, S1⟩, e1, e⟩ := okOr_some e
    exact ⟨F, G, ρ, S, L, rs, S1, s, l, e1, fun G1 ρ1 H1 vs g1 p1 s1 q1 => ⟨F, G1, ρ1, S1, rs, r, S', s1, q1, e, q.mono g1 p1⟩⟩
  refine ⟨fun pins s σ H Q I h => ?_⟩
  refine wpAny_Call_Name_kw (ld_glob I hg h1 ?_ hdb)
  refine PySem.W.callWith_K (h₀ := X.base) I.ok.mod.kin h2 (thn (ha.run pos pins s σ H _ I (fin h)) fun us s1 ⟨vs, H1, I1, r, q⟩ => ⟨I1.kIn, ?_⟩) (star1 (hst e List.mem_cons_self) es) (any_back es fun x hx => hst x (List.mem_cons_of_mem _ hx))
  exact h3 pins s1 σ H1 us vs Q I1 r q
/-- a def of one parameter, called by its name -/
theorem e_callK {T : Tab} {cl : Cl} {n : Nat} {X : Cx} (g : Good T cl n X) {f : Nat} {d : Fn} (hf : T.fns[f]? = some d) {p pos kpos : Pos} {z : Str} {e : Expr} {ea : Ev} (hg : Gl X d.name) (hdb : (d.name == ("__debug__" : Str)) = false) (hz : d.names.take d.np = [z]) (ha : PE X e (tE X.K ea)) :
    PE X (.Call (.Name d.name p) [] [⟨some z, e, kpos⟩] pos) (tE X.K fun L S => okOr (ea L S) fun (x, S1) => cl f [x] S1) := by
  obtain ⟨addr, fd, ps, h1, h2, h3, h4, h5⟩ := g.fn f d hf
  refine ⟨fun pins s σ H Q I h => ?_⟩
  refine wpAny_Call_Name_kw (ld_glob I hg h1 ?_ hdb)
  have h' : ea = ea := rfl
  refine PySem.W.callWith_KW0 (h₀ := X.base) I.ok.mod.kin h2 rfl ?_ rfl
  obtain ⟨F, G, ρ, S, L, r, S', s', l, ev, q⟩ := h
  obtain ⟨⟨x, S1⟩, e1, ev⟩ := okOr_some ev
  have hl := g.len f d [x] S1 _ hf ev
  have ht : tCons (tE X.K ea) tNil σ H fun vs H1 => ∃ v, vs = [v] ∧ tP X.K (cl f) [v] H1 Q :=
    ⟨F, G, ρ, S, L, x, S1, s', l, e1, fun G1 ρ1 H1 v1 g1 p1 s1 q1 => ⟨v1, rfl, F, G1, ρ1, S1, [x], r, S', s1, .cons q1 .nil, ev, q.mono g1 p1⟩⟩
  refine thn ((pk_cons (nm := some z) (kpos := kpos) ha pk_nil).run pos pins s σ H _ I ht) fun ws s2 ⟨zs, H2, I2, rz, v, ev', q2⟩ => ⟨I2.kIn, ?_⟩
  subst ev'
  obtain ⟨u, rfl, ru⟩ := vals1 rz
  have hp : ps = [z] := h4.2.trans hz
  refine wpAny_call (codeAny_mono (h5.run X.A X.stack s2 H2 ⟨[], [(z, u)]⟩ [u] [v] Q g.room g.gd I2.env0 (by rw [hp]; exact h5.kw z hp s2 u) (.cons ru .nil) (by rw [hp]; rfl) q2) fun res s' hq => ?_)
  cases res with
  | error e => exact (show False from hq).elim
  | ok fl =>
    cases fl <;> first | exact I2.after hq | exact False.elim hq
end PL
end
section
set_option maxHeartbeats 8000000
namespace PL
open PySem PySem.Spec PyProof.Rows L2
theorem band {a b : Bool} (h : (a && b) = true) : a = true ∧ b = true := Bool.and_eq_true_iff.mp h
theorem keys_ok {X : Cx} {pos : Pos} : ∀ {ks : List Str} {keys : List (Option Expr)} {vals : List Expr} {evs : List Ev}, keysB ks keys = true → keys.length = vals.length → List.length evs = vals.length → (∀ p ∈ vals.zip evs, PE X p.1 (tE X.K p.2)) →
    PPs X pos keys vals ((ks.zip evs).map fun p => pairE (X := X) p.1 p.2) ∧ keys.all (·.isSome) = true ∧ ks.length = keys.length
  | [], [], vals, evs, _, h1, h2, _ => by
    cases vals with
    | cons _ _ => simp at h1
    | nil => cases evs with
      | cons _ _ => simp at h2
      | nil => exact ⟨pps_nil, rfl, rfl⟩
  | [], _ :: _, _, _, h, _, _, _ => by simp [keysB] at h
  | _ :: _, [], _, _, h, _, _, _ => by simp [keysB] at h
  | k :: ks, none :: keys, vals, evs, h, _, _, _ => by simp [keysB] at h
  | k :: ks, some x :: keys, vals, evs, h, h1, h2, h3 => by
    cases x <;> first | (simp [keysB] at h; done) | skip
    rename_i c j p
    cases c <;> first | (simp [keysB] at h; done) | skip
    rename_i y
    simp only [keysB, Bool.and_eq_true, decide_eq_true_eq] at h
    obtain ⟨rfl, h⟩ := h
    cases vals with
    | nil => simp at h1
    | cons v vals =>
      cases evs with
      | nil => simp at h2
      | cons ev evs =>
        obtain ⟨a1, a2, a3⟩ := keys_ok (pos := pos) (ks := ks) (keys := keys) (vals := vals) (evs := evs) h (by simpa using h1) (by simpa using h2) fun p hp => h3 p (List.mem_cons_of_mem _ hp)
        exact ⟨pps_cons pe_str (h3 (v, ev) List.mem_cons_self) a1, by rw [List.all_cons, a2]; rfl, congrArg Nat.succ a3⟩
/-- the evaluations of a list's parts -/
def evL (cl : Cl) : Es → List Ev
  | .nil => []
  | .cons e es => evE cl e :: evL cl es
theorem evL_fold (cl : Cl) : ∀ es : Es, ((evL cl es).foldr (fun (e : Ev) (k : Evs) => fun L S => okOr (e L S) fun (x, S1) => okOr (k L S1) fun (xs, S2) => some (x :: xs, S2)) (fun _ S => some ([], S))) = evEs cl es
  | .nil => rfl
  | .cons e es => by
    rw [evL, List.foldr_cons, evL_fold cl es]
    rfl
theorem inv_comp {own : List Nat} {N : List Str} {sc scope : Scope} (h : blkC N sc scope (own.map fun i => (N.getD i Str.empty, i)) = true) : BlkOk N sc scope (own.map fun i => (N.getD i Str.empty, i)) ∧ (own.map fun i => (N.getD i Str.empty, i)).map (·.2) = own := by
  refine ⟨blkOk_by h, ?_⟩
  rw [List.map_map]
  exact (List.map_congr_left fun i _ => rfl).trans (List.map_id own)
section
variable {T : Tab} {cl : Cl} {n : Nat}
mutual
theorem sE : ∀ (e : E) (X : Cx) (x : Expr), Good T cl n X → ckE T X.N X.env.scope e x = true → PE X x (tE X.K (evE cl e)) ∧ PT X x (tT X.K (tstE (evE cl e)))
  | .loc i, X, x, g, h => by
    cases x <;> first | (simp [ckE] at h; done) | skip
    simp only [ckE, nameB, Bool.and_eq_true, decide_eq_true_eq, Bool.not_eq_true'] at h
    have hp := e_loc (pos := by assumption) h.1.1.1 (vis_ok h.1.1.2) h.1.2 h.2
    exact ⟨hp, p_val hp fun _ => rfl⟩
  | .int i, X, x, g, h => by
    cases x <;> first | (simp [ckE] at h; done) | skip
    rename_i c k p
    cases c <;> first | (simp [ckE] at h; done) | skip
    simp only [ckE, decide_eq_true_eq] at h
    subst h
    have hp := e_const (pe_int (X := X) (i := i) (j := k) (pos := p)) (d := .int i) fun _ => .int i
    exact ⟨hp, p_val hp fun _ => rfl⟩
  | .str i, X, x, g, h => by
    cases x <;> first | (simp [ckE] at h; done) | skip
    rename_i c k p
    cases c <;> first | (simp [ckE] at h; done) | skip
    simp only [ckE, decide_eq_true_eq] at h
    subst h
    have hp := e_const (pe_str (X := X) (x := i) (j := k) (pos := p)) (d := .str i) fun _ => .str i
    exact ⟨hp, p_val hp fun _ => rfl⟩
  | .bl i, X, x, g, h => by
    cases x <;> first | (simp [ckE] at h; done) | skip
    rename_i c k p
    cases c <;> first | (simp [ckE] at h; done) | skip
    simp only [ckE, decide_eq_true_eq] at h
    subst h
    have hp := e_const (pe_bl (X := X) (b := i) (j := k) (pos := p)) (d := .bool i) fun _ => .bl i
    exact ⟨hp, p_val hp fun _ => rfl⟩
  | .non, X, x, g, h => by
    cases x <;> first | (simp [ckE] at h; done) | skip
    rename_i c k p
    cases c <;> first | (simp [ckE] at h; done) | skip
    have hp := e_const (pe_non (X := X) (j := k) (pos := p)) (d := .none) fun _ => .non
    exact ⟨hp, p_val hp fun _ => rfl⟩
  | .gd y d, X, x, g, h => by
    cases x <;> first | (simp [ckE] at h; done) | skip
    rename_i z p
    simp only [ckE, Bool.and_eq_true, decide_eq_true_eq, List.any_eq_true] at h
    obtain ⟨⟨rfl, h2⟩, q, hq, e1, e2⟩ := h
    obtain ⟨hg, hd⟩ := gl_ok h2
    obtain ⟨u, v, h3, h4, h5⟩ := g.glob q hq
    rw [e1] at h3
    rw [dEq_eq _ _ e2] at h5
    have hp := e_const (pe_glob (pos := p) hg h3 h4 hd) h5
    exact ⟨hp, p_val hp fun _ => rfl⟩
  | .bin op a b, X, x, g, h => by
    cases x <;> first | (simp [ckE] at h; done) | skip
    simp only [ckE, Bool.and_eq_true, decide_eq_true_eq] at h
    obtain ⟨⟨rfl, h1⟩, h2⟩ := h
    have hp := e_bin (op := op) (pos := by assumption) (sE a X _ g h1).1 (sE b X _ g h2).1
    exact ⟨hp, p_val hp fun _ => rfl⟩
  | .cmp op a b, X, x, g, h => by
    cases x <;> first | (simp [ckE] at h; done) | skip
    rename_i l ops cs p
    match ops, cs, h with
    | [o], [r], h =>
      simp only [ckE, Bool.and_eq_true, decide_eq_true_eq, Bool.not_eq_true'] at h
      obtain ⟨⟨⟨rfl, h1⟩, h2⟩, h3⟩ := h
      exact ⟨e_cmp g.un (sE a X _ g h1).1 (sE b X _ g h2).1 h3, p_cmp g.un (sE a X _ g h1).1 (sE b X _ g h2).1 h3⟩
  | .cmp2 o p a b c, X, x, g, h => by
    cases x <;> first | (simp [ckE] at h; done) | skip
    rename_i l ops cs pp
    match ops, cs, h with
    | [o', p'], [y, z], h =>
      simp only [ckE, Bool.and_eq_true, decide_eq_true_eq, Bool.not_eq_true'] at h
      obtain ⟨⟨⟨⟨⟨rfl, rfl⟩, h1⟩, h2⟩, h3⟩, h4⟩ := h
      exact ⟨e_cmp2 g.un (sE a X _ g h1).1 (sE b X _ g h2).1 (sE c X _ g h3).1 h4, p_cmp2 g.un (sE a X _ g h1).1 (sE b X _ g h2).1 (sE c X _ g h3).1 h4⟩
  | .bop k a r, X, x, g, h => by
    cases x <;> first | (simp [ckE] at h; done) | skip
    rename_i op xs p
    match op, xs, h with
    | .And, y :: ys, h =>
      simp only [ckE, Bool.and_eq_true] at h
      obtain ⟨⟨rfl, h1⟩, h2⟩ := h
      have ha := sE a X _ g h1
      have hb := sAnd r X y ys p (evE cl a) g ha.1 ha.2 h2
      exact ⟨hb.1, hb.2.pt⟩
    | .Or, y :: ys, h =>
      simp only [ckE, Bool.and_eq_true, Bool.not_eq_true'] at h
      obtain ⟨⟨rfl, h1⟩, h2⟩ := h
      have ha := sE a X _ g h1
      have hb := sOr r X y ys p (evE cl a) g ha.1 ha.2 h2
      exact ⟨hb.1, hb.2.pt⟩
  | .not a, X, x, g, h => by
    cases x <;> first | (simp [ckE] at h; done) | skip
    rename_i op y p
    cases op <;> first | (simp [ckE] at h; done) | skip
    simp only [ckE] at h
    exact ⟨e_not (sE a X _ g h).1, p_not (sE a X _ g h).2⟩
  | .neg a, X, x, g, h => by
    cases x <;> first | (simp [ckE] at h; done) | skip
    rename_i op y p
    cases op <;> first | (simp [ckE] at h; done) | skip
    simp only [ckE] at h
    have hp := e_neg (pos := p) (sE a X _ g h).1
    exact ⟨hp, p_val hp fun _ => rfl⟩
  | .ite c a b, X, x, g, h => by
    cases x <;> first | (simp [ckE] at h; done) | skip
    simp only [ckE, Bool.and_eq_true] at h
    obtain ⟨⟨h1, h2⟩, h3⟩ := h
    exact ⟨e_ite (sE c X _ g h1).2 (sE a X _ g h2).1 (sE b X _ g h3).1, p_ite (sE c X _ g h1).2 (sE a X _ g h2).2 (sE b X _ g h3).2⟩
  | .tup es, X, x, g, h => by
    cases x <;> first | (simp [ckE] at h; done) | skip
    simp only [ckE] at h
    rename_i k p
    have hp := e_tup (k := k) (pos := p) (sEs es X _ g h).1
    exact ⟨hp, p_val hp fun _ => rfl⟩
  | .lst es, X, x, g, h => by
    cases x <;> first | (simp [ckE] at h; done) | skip
    simp only [ckE] at h
    rename_i p
    have hp := e_lst (pos := p) (sEs es X _ g h).1
    exact ⟨hp, p_val hp fun _ => rfl⟩
  | .lstR es, X, x, g, h => by
    cases x <;> first | (simp [ckE] at h; done) | skip
    simp only [ckE] at h
    rename_i p
    have hp := e_lstR (pos := p) (sEs es X _ g h).1
    exact ⟨hp, p_val hp fun _ => rfl⟩
  | .dic0, X, x, g, h => by
    cases x <;> first | (simp [ckE] at h; done) | skip
    rename_i ks vs p
    match ks, vs, h with
    | [], [], h =>
      have hp := e_dic0 (X := X) (pos := p)
      exact ⟨hp, p_val hp fun _ => rfl⟩
  | .dic ks es, X, x, g, h => by
    cases x <;> first | (simp [ckE] at h; done) | skip
    rename_i keys vals p
    simp only [ckE, Bool.and_eq_true, decide_eq_true_eq] at h
    obtain ⟨⟨⟨⟨h1, h2⟩, h3⟩, h4⟩, h5⟩ := h
    obtain ⟨q1, q2⟩ := sL es X vals g h2
    obtain ⟨k1, k2, k3⟩ := keys_ok (pos := p) h1 h3 q1 q2
    have hp := e_dic k1 k2 h3 (by intro z; subst z; simp at h5) h4 (by rw [k3, h3, q1])
    rw [evL_fold] at hp
    exact ⟨hp, p_val hp fun _ => rfl⟩
  | .ix a i, X, x, g, h => by
    cases x <;> first | (simp [ckE] at h; done) | skip
    rename_i y z p
    simp only [ckE, Bool.and_eq_true] at h
    have hp := e_ix (pos := p) g.un1 (sE a X _ g h.1).1 (sE i X _ g h.2).1 (ck_slice h.2)
    exact ⟨hp, p_val hp fun _ => rfl⟩
  | .sl a lo hi, X, x, g, h => by
    cases x <;> first | (simp [ckE] at h; done) | skip
    rename_i y z p
    cases z <;> first | (simp [ckE] at h; done) | skip
    rename_i l hh st p2
    cases st with
    | some _ => simp [ckE] at h
    | none =>
      simp only [ckE, Bool.and_eq_true] at h
      have hp := e_sl (pos := p) (p2 := p2) (sE a X _ g h.1.1).1 (sO lo X _ g h.1.2) (sO hi X _ g h.2)
      exact ⟨hp, p_val hp fun _ => rfl⟩
  | .bi b a, X, x, g, h => by
    cases x <;> first | (simp [ckE] at h; done) | skip
    rename_i fe args kws p
    cases fe <;> first | (simp [ckE] at h; done) | skip
    rename_i nm p2
    match args, kws, h with
    | [y], [], h =>
      simp only [ckE, Bool.and_eq_true, decide_eq_true_eq] at h
      obtain ⟨⟨rfl, h2⟩, h3⟩ := h
      have hm : X.mg b.name = none := g.free _ (by cases b <;> simp [freeNames, Bi.name])
      have hp := e_bi (pos := p) b g.calm g.gd g.un (p := p2) (gl_ok h2).1 hm (sE a X _ g h3).1 (ck_star h3)
      exact ⟨hp, p_val hp fun _ => rfl⟩
  | .isi t a, X, x, g, h => by
    cases x <;> first | (simp [ckE] at h; done) | skip
    rename_i fe args kws p
    cases fe <;> first | (simp [ckE] at h; done) | skip
    rename_i nm p2
    match args, kws, h with
    | [y, .Name z p3], [], h =>
      simp only [ckE, Bool.and_eq_true, decide_eq_true_eq] at h
      obtain ⟨⟨⟨⟨rfl, h2⟩, rfl⟩, h3⟩, h4⟩ := h
      have hp := e_isi (pos := p) t (p := p2) (p2 := p3) (gl_ok h2).1 (g.free _ (by simp [freeNames])) (gl_ok h3).1 (g.free _ (by cases t <;> simp [freeNames, Ty.nm, Ty.name])) (sE a X _ g h4).1 (ck_star h4)
      exact ⟨hp, p_val hp fun _ => rfl⟩
  | .call f es, X, x, g, h => by
    cases x <;> first | (simp [ckE] at h; done) | skip
    rename_i fe args kws p
    cases fe <;> first | (simp [ckE] at h; done) | skip
    rename_i nm p2
    cases kws with
    | cons _ _ => simp [ckE] at h
    | nil =>
      simp only [ckE, Bool.and_eq_true] at h
      obtain ⟨⟨h1, h2⟩, h3⟩ := h
      cases hf : T.fns[f]? with
      | none => rw [hf] at h1; cases h1
      | some d =>
        rw [hf] at h1
        have hn : d.name = nm := of_decide_eq_true h1
        subst hn
        obtain ⟨q1, q2⟩ := sEs es X args g h3
        obtain ⟨hg, hd⟩ := gl_ok h2
        cases args with
        | nil =>
          cases es with
          | cons _ _ => simp [ckEs] at h3
          | nil =>
            have hp := e_call0 (pos := p) (p := p2) g hf hg hd
            exact ⟨hp, p_val hp fun _ => rfl⟩
        | cons y ys =>
          have hp := e_call (pos := p) (p := p2) g hf hg hd q1 q2
          exact ⟨hp, p_val hp fun _ => rfl⟩
  | .comp own tg it cs e, X, x, g, h => by
    cases x <;> first | (simp [ckE] at h; done) | skip
    rename_i elt gens scope p
    match gens, h with
    | [⟨t, i, ifs, z⟩], h =>
      simp only [ckE, Bool.and_eq_true, decide_eq_true_eq] at h
      obtain ⟨⟨⟨⟨⟨⟨rfl, h1⟩, h2⟩, h3⟩, h4⟩, h5⟩, h6⟩ := h
      obtain ⟨b1, b2⟩ := inv_comp h1
      obtain ⟨i1, i2⟩ := sI it X i t g h4
      have hp := pe_lc (pos := p) (g := gT X.K tg) (tt := tT X.K (evT cl cs)) (te := tE X.K (evE cl e)) g.calm g.nd i1 b1
        (fun s H C c2 fp => tgB_ok (X := X.blk s H scope (compEnvC scope c2 C X.env) fp) (fun _ hx => hx) g.nd g.calm h3)
        (fun s H C c2 fp => sT cs (X.blk s H scope (compEnvC scope c2 C X.env) fp) ifs (g.blk s H scope _ fp) h5)
        (fun s H C c2 fp => (sE e (X.blk s H scope (compEnvC scope c2 C X.env) fp) elt (g.blk s H scope _ fp) h6).1) i2
      rw [b2] at hp
      have hq := PE.weak hp fun σ H Q hh => lc_read (fin := finD) (fun j hj => by simpa using List.all_eq_true.mp h2 j hj) fin_d hh
      exact ⟨hq, p_val hq fun _ => rfl⟩
  | .compR own tg it cs e, X, x, g, h => by
    cases x <;> first | (simp [ckE] at h; done) | skip
    rename_i elt gens scope p
    match gens, h with
    | [⟨t, i, ifs, z⟩], h =>
      simp only [ckE, Bool.and_eq_true, decide_eq_true_eq] at h
      obtain ⟨⟨⟨⟨⟨⟨rfl, h1⟩, h2⟩, h3⟩, h4⟩, h5⟩, h6⟩ := h
      obtain ⟨b1, b2⟩ := inv_comp h1
      obtain ⟨i1, i2⟩ := sI it X i t g h4
      have hp := pe_lc (pos := p) (g := gT X.K tg) (tt := tT X.K (evT cl cs)) (te := tE X.K (evE cl e)) g.calm g.nd i1 b1
        (fun s H C c2 fp => tgB_ok (X := X.blk s H scope (compEnvC scope c2 C X.env) fp) (fun _ hx => hx) g.nd g.calm h3)
        (fun s H C c2 fp => sT cs (X.blk s H scope (compEnvC scope c2 C X.env) fp) ifs (g.blk s H scope _ fp) h5)
        (fun s H C c2 fp => (sE e (X.blk s H scope (compEnvC scope c2 C X.env) fp) elt (g.blk s H scope _ fp) h6).1) i2
      rw [b2] at hp
      have hq := PE.weak hp fun σ H Q hh => lc_read (fin := finR) (fun j hj => by simpa using List.all_eq_true.mp h2 j hj) fin_r hh
      exact ⟨hq, p_val hq fun _ => rfl⟩
  | .get2 d k e, X, x, g, h => by
    cases x <;> first | (simp [ckE] at h; done) | skip
    rename_i fe args kws p
    cases fe <;> first | (simp [ckE] at h; done) | skip
    rename_i o m ap
    match args, kws, h with
    | [y, z], [], h =>
      simp only [ckE, Bool.and_eq_true, decide_eq_true_eq] at h
      obtain ⟨⟨⟨⟨⟨rfl, h1⟩, h2⟩, h3⟩, h4⟩, h5⟩ := h
      have hp := e_get2 g.un1 (sE d X _ g h3).1 (sE k X _ g h4).1 (sE e X _ g h5).1 (m2_of (super_ok h2) h1 (ck_star h4) (ck_star h5))
      exact ⟨hp, p_val hp fun _ => rfl⟩
  | .app a e, X, x, g, h => by
    cases x <;> first | (simp [ckE] at h; done) | skip
    rename_i fe args kws p
    cases fe <;> first | (simp [ckE] at h; done) | skip
    rename_i o m ap
    match args, kws, h with
    | [y], [], h =>
      simp only [ckE, Bool.and_eq_true, decide_eq_true_eq] at h
      obtain ⟨⟨⟨⟨rfl, h1⟩, h2⟩, h3⟩, h4⟩ := h
      have hp := e_app (sE a X _ g h3).1 (sE e X _ g h4).1 (super_ok h2) h1 (ck_star h4)
      exact ⟨hp, p_val hp fun _ => rfl⟩
  | .ext a e, X, x, g, h => by
    cases x <;> first | (simp [ckE] at h; done) | skip
    rename_i fe args kws p
    cases fe <;> first | (simp [ckE] at h; done) | skip
    rename_i o m ap
    match args, kws, h with
    | [y], [], h =>
      simp only [ckE, Bool.and_eq_true, decide_eq_true_eq] at h
      obtain ⟨⟨⟨⟨rfl, h1⟩, h2⟩, h3⟩, h4⟩ := h
      have hp := e_ext (sE a X _ g h3).1 (sE e X _ g h4).1 (super_ok h2) h1 (ck_star h4)
      exact ⟨hp, p_val hp fun _ => rfl⟩
  | .join a e, X, x, g, h => by
    cases x <;> first | (simp [ckE] at h; done) | skip
    rename_i fe args kws p
    cases fe <;> first | (simp [ckE] at h; done) | skip
    rename_i o m ap
    match args, kws, h with
    | [y], [], h =>
      simp only [ckE, Bool.and_eq_true, decide_eq_true_eq] at h
      obtain ⟨⟨⟨⟨rfl, h1⟩, h2⟩, h3⟩, h4⟩ := h
      have hp := e_join (sE a X _ g h3).1 (sE e X _ g h4).1 (super_ok h2) h1 (ck_star h4)
      exact ⟨hp, p_val hp fun _ => rfl⟩
  | .gget2 y tab k e, X, x, g, h => by
    cases x <;> first | (simp [ckE] at h; done) | skip
    rename_i fe args kws p
    cases fe <;> first | (simp [ckE] at h; done) | skip
    rename_i o m ap
    cases o <;> first | (simp [ckE] at h; done) | skip
    rename_i z p2
    match args, kws, h with
    | [w, w2], [], h =>
      simp only [ckE, Bool.and_eq_true, decide_eq_true_eq, List.any_eq_true] at h
      obtain ⟨⟨⟨⟨⟨⟨rfl, rfl⟩, h1⟩, h2⟩, q, hq, e1, e2⟩, h4⟩, h7⟩ := h
      obtain ⟨hg, hd⟩ := gl_ok h2
      obtain ⟨addr, h5, h6⟩ := g.gdict q hq
      rw [e1] at h5
      rw [tabEq_eq _ _ e2] at h6
      have hp := e_gget2 (pos := p) (p := p2) hg h5 hd h6 (sE k X _ g h4).1 (sE e X _ g h7).1 (m2_of rfl h1 (ck_star h4) (ck_star h7))
      exact ⟨hp, p_val hp fun _ => rfl⟩
  | .gget y tab k, X, x, g, h => by
    cases x <;> first | (simp [ckE] at h; done) | skip
    rename_i fe args kws p
    cases fe <;> first | (simp [ckE] at h; done) | skip
    rename_i o m ap
    cases o <;> first | (simp [ckE] at h; done) | skip
    rename_i z p2
    match args, kws, h with
    | [w], [], h =>
      simp only [ckE, Bool.and_eq_true, decide_eq_true_eq, List.any_eq_true] at h
      obtain ⟨⟨⟨⟨⟨rfl, rfl⟩, h1⟩, h2⟩, q, hq, e1, e2⟩, h4⟩ := h
      obtain ⟨hg, hd⟩ := gl_ok h2
      obtain ⟨addr, h5, h6⟩ := g.gdict q hq
      rw [e1] at h5
      rw [tabEq_eq _ _ e2] at h6
      have hp := e_gget (pos := p) (p := p2) hg h5 hd h6 (sE k X _ g h4).1 (m1_of rfl h1 (ck_star h4))
      exact ⟨hp, p_val hp fun _ => rfl⟩
  | .sset a, X, x, g, h => by
    cases x <;> first | (simp [ckE] at h; done) | skip
    rename_i fe args kws p
    cases fe <;> first | (simp [ckE] at h; done) | skip
    rename_i nm p2
    match args, kws, h with
    | [.Call (.Name y p4) [z] [] p3], [], h =>
      simp only [ckE, Bool.and_eq_true, decide_eq_true_eq] at h
      obtain ⟨⟨⟨⟨rfl, h1⟩, rfl⟩, h2⟩, h3⟩ := h
      have hp := e_sset (pos := p) (p := p2) (p2 := p4) (pos2 := p3) g.calm (gl_ok h1).1 (g.free _ (by simp [freeNames])) (gl_ok h2).1 (g.free _ (by simp [freeNames])) (sE a X _ g h3).1 (ck_star h3)
      exact ⟨hp, p_val hp fun _ => rfl⟩
  | .reprL es, X, x, g, h => by
    cases x <;> first | (simp [ckE] at h; done) | skip
    rename_i fe args kws p
    cases fe <;> first | (simp [ckE] at h; done) | skip
    rename_i nm p2
    match args, kws, h with
    | [.List xs p3], [], h =>
      simp only [ckE, Bool.and_eq_true, decide_eq_true_eq] at h
      obtain ⟨⟨rfl, h2⟩, h3⟩ := h
      have hm : X.mg "repr" = none := g.free _ (by simp [freeNames])
      have hp := e_reprL (pos := p) (lp := p3) g.gd g.un (p := p2) (gl_ok h2).1 hm (sEs es X _ g h3).1
      exact ⟨hp, p_val hp fun _ => rfl⟩
  | .rev a, X, x, g, h => by
    cases x <;> first | (simp [ckE] at h; done) | skip
    rename_i o z p
    cases z <;> first | (simp [ckE] at h; done) | skip
    rename_i lo hi st p3
    match lo, hi, st, h with
    | none, none, some (.UnaryOp .USub (.Constant (.int 1) k p1) p2), h =>
      have h : ckE _ _ _ a o = true := h
      have hp := e_rev (pos := p) (k := k) (p1 := p1) (p2 := p2) (p3 := p3) (sE a X _ g h).1
      exact ⟨hp, p_val hp fun _ => rfl⟩
  | .gix y tab k, X, x, g, h => by
    cases x <;> first | (simp [ckE] at h; done) | skip
    rename_i o z p
    cases o <;> first | (simp [ckE] at h; done) | skip
    rename_i nm p2
    simp only [ckE, Bool.and_eq_true, decide_eq_true_eq, List.any_eq_true] at h
    obtain ⟨⟨⟨rfl, h2⟩, q, hq, e1, e2⟩, h4⟩ := h
    obtain ⟨hg, hd⟩ := gl_ok h2
    obtain ⟨addr, h5, h6⟩ := g.gdict q hq
    rw [e1] at h5
    rw [tabEq_eq _ _ e2] at h6
    have hp := e_gix (pos := p) (p := p2) hg h5 hd h6 (sE k X _ g h4).1 (ck_slice h4)
    exact ⟨hp, p_val hp fun _ => rfl⟩
  | .gin neg y tab k, X, x, g, h => by
    cases x <;> first | (simp [ckE] at h; done) | skip
    rename_i l ops cs p
    match ops, cs, h with
    | [o], [.Name nm p2], h =>
      simp only [ckE, Bool.and_eq_true, decide_eq_true_eq, List.any_eq_true] at h
      obtain ⟨⟨⟨⟨rfl, rfl⟩, h2⟩, q, hq, e1, e2⟩, h4⟩ := h
      obtain ⟨hg, hd⟩ := gl_ok h2
      obtain ⟨addr, h5, h6⟩ := g.gdict q hq
      rw [e1] at h5
      rw [tabEq_eq _ _ e2] at h6
      exact e_gin (neg := neg) (pos := p) (p := p2) hg h5 hd h6 (sE k X _ g h4).1
  | .sortd a, X, x, g, h => by
    cases x <;> first | (simp [ckE] at h; done) | skip
    rename_i fe args kws p
    cases fe <;> first | (simp [ckE] at h; done) | skip
    rename_i nm p2
    match args, kws, h with
    | [y], [], h =>
      simp only [ckE, Bool.and_eq_true, decide_eq_true_eq] at h
      obtain ⟨⟨rfl, h2⟩, h3⟩ := h
      have hp := e_sortd (pos := p) (p := p2) g.calm (gl_ok h2).1 (g.free _ (by simp [freeNames])) (sE a X _ g h3).1 (ck_star h3)
      exact ⟨hp, p_val hp fun _ => rfl⟩
  | .callK f y e, X, x, g, h => by
    cases x <;> first | (simp [ckE] at h; done) | skip
    rename_i fe args kws p
    cases fe <;> first | (simp [ckE] at h; done) | skip
    rename_i nm p2
    match args, kws, h with
    | [], [⟨some z, v, kp⟩], h =>
      simp only [ckE, Bool.and_eq_true, decide_eq_true_eq] at h
      obtain ⟨⟨⟨h1, h2⟩, rfl⟩, h3⟩ := h
      cases hf : T.fns[f]? with
      | none => rw [hf] at h1; cases h1
      | some d =>
        rw [hf] at h1
        dsimp only at h1
        rw [Bool.and_eq_true, decide_eq_true_eq, decide_eq_true_eq] at h1
        obtain ⟨rfl, hz⟩ := h1
        obtain ⟨hg, hd⟩ := gl_ok h2
        have hp := e_callK (pos := p) (p := p2) (kpos := kp) g hf hg hd hz (sE e X _ g h3).1
        exact ⟨hp, p_val hp fun _ => rfl⟩
theorem sAnd : ∀ (es : Es) (X : Cx) (x : Expr) (xs : List Expr) (pos : Pos) (ex : Ev), Good T cl n X → PE X x (tE X.K ex) → PT X x (tT X.K (tstE ex)) → ckEs T X.N X.env.scope es xs = true →
    PE X (.BoolOp .And (x :: xs) pos) (tE X.K (evBop true ex (evB cl true es))) ∧ PW X (.BoolOp .And (x :: xs) pos) (tT X.K (tstE (evBop true ex (evB cl true es))))
  | .nil, X, x, xs, pos, ex, g, h1, h2, h => by
    cases xs with
    | cons _ _ => simp [ckEs] at h
    | nil => exact ⟨e_bop1 h1, p_and1 h2⟩
  | .cons e es, X, x, xs, pos, ex, g, h1, h2, h => by
    cases xs with
    | nil => simp [ckEs] at h
    | cons y ys =>
      simp only [ckEs, Bool.and_eq_true] at h
      have ha := sE e X y g h.1
      have hb := sAnd es X y ys pos (evE cl e) g ha.1 ha.2 h.2
      exact ⟨e_and h1 hb.1, p_and h2 hb.2⟩
theorem sOr : ∀ (es : Es) (X : Cx) (x : Expr) (xs : List Expr) (pos : Pos) (ex : Ev), Good T cl n X → PE X x (tE X.K ex) → PT X x (tT X.K (tstE ex)) → ckEs T X.N X.env.scope es xs = true →
    PE X (.BoolOp .Or (x :: xs) pos) (tE X.K (evBop false ex (evB cl false es))) ∧ PW X (.BoolOp .Or (x :: xs) pos) (tT X.K (tstE (evBop false ex (evB cl false es))))
  | .nil, X, x, xs, pos, ex, g, h1, h2, h => by
    cases xs with
    | cons _ _ => simp [ckEs] at h
    | nil => exact ⟨e_bop1 h1, p_or1 h2⟩
  | .cons e es, X, x, xs, pos, ex, g, h1, h2, h => by
    cases xs with
    | nil => simp [ckEs] at h
    | cons y ys =>
      simp only [ckEs, Bool.and_eq_true] at h
      have ha := sE e X y g h.1
      have hb := sOr es X y ys pos (evE cl e) g ha.1 ha.2 h.2
      exact ⟨e_or h1 hb.1, p_or h2 hb.2⟩
theorem sEs : ∀ (es : Es) (X : Cx) (xs : List Expr), Good T cl n X → ckEs T X.N X.env.scope es xs = true → PA X xs (tA X.K (evEs cl es)) ∧ ∀ x ∈ xs, ∀ y p, x ≠ .Starred y p
  | .nil, X, xs, g, h => by
    cases xs with
    | cons _ _ => simp [ckEs] at h
    | nil => exact ⟨a_nil, fun x hx => by simp at hx⟩
  | .cons e es, X, xs, g, h => by
    cases xs with
    | nil => simp [ckEs] at h
    | cons y ys =>
      simp only [ckEs, Bool.and_eq_true] at h
      obtain ⟨q1, q2⟩ := sEs es X ys g h.2
      refine ⟨a_cons (sE e X y g h.1).1 q1 (star1 (ck_star h.1) ys), fun x hx => ?_⟩
      rcases List.mem_cons.mp hx with e | hx
      · rw [e]; exact ck_star h.1
      · exact q2 x hx
theorem sL : ∀ (es : Es) (X : Cx) (xs : List Expr), Good T cl n X → ckEs T X.N X.env.scope es xs = true → List.length (evL cl es) = xs.length ∧ ∀ p ∈ xs.zip (evL cl es), PE X p.1 (tE X.K p.2)
  | .nil, X, xs, g, h => by
    cases xs with
    | cons _ _ => simp [ckEs] at h
    | nil => exact ⟨rfl, fun x hx => by simp [evL] at hx⟩
  | .cons e es, X, xs, g, h => by
    cases xs with
    | nil => simp [ckEs] at h
    | cons y ys =>
      simp only [ckEs, Bool.and_eq_true] at h
      obtain ⟨q1, q2⟩ := sL es X ys g h.2
      refine ⟨congrArg Nat.succ q1, fun p hp => ?_⟩
      rcases List.mem_cons.mp (show p ∈ (y, evE cl e) :: ys.zip (evL cl es) from hp) with z | hp
      · rw [z]; exact (sE e X y g h.1).1
      · exact q2 p hp
theorem sT : ∀ (es : Es) (X : Cx) (xs : List Expr), Good T cl n X → ckEs T X.N X.env.scope es xs = true → PTs X xs (tT X.K (evT cl es))
  | .nil, X, xs, g, h => by
    cases xs with
    | cons _ _ => simp [ckEs] at h
    | nil =>
      refine ⟨fun pins s σ H Q I hh => pts_nil.run pins s σ H Q I ?_⟩
      obtain ⟨F, G, ρ, S, L, b, S', s', l, e, q⟩ := hh
      obtain ⟨rfl, rfl⟩ := res_eq e
      exact q G ρ H (Same.refl _) (List.prefix_refl _) s'
  | .cons e .nil, X, xs, g, h => by
    cases xs with
    | nil => simp [ckEs] at h
    | cons y ys =>
      cases ys with
      | cons _ _ => simp [ckEs] at h
      | nil =>
        simp only [ckEs, Bool.and_eq_true] at h
        exact pts_one (sE e X y g h.1).2
  | .cons e (.cons e2 es), X, xs, g, h => by
    refine ⟨fun pins s σ H Q I hh => ?_⟩
    obtain ⟨F, G, ρ, S, L, b, S', s', l, e, q⟩ := hh
    cases e
theorem sO : ∀ (o : O) (X : Cx) (x : Option Expr), Good T cl n X → ckO T X.N X.env.scope o x = true → PO X x (tO X.K (evO cl o))
  | .no, X, x, g, h => by
    cases x with
    | some _ => simp [ckO] at h
    | none => exact o_none
  | .so e, X, x, g, h => by
    cases x with
    | none => simp [ckO] at h
    | some y =>
      simp only [ckO] at h
      exact o_some (sE e X y g h).1
theorem sI : ∀ (it : It') (X : Cx) (x t : Expr), Good T cl n X → ckI T X.N X.env.scope it x t = true → PI X t x (tI X.K (evI cl it)) ∧ ∀ v, foldedSetIterable x X.env v = pure v
  | .seq e, X, x, t, g, h => by
    have h' : ckE T X.N X.env.scope e x = true := by simpa only [ckI] using h
    exact ⟨i_seq (sE e X x g h').1, ck_set h'⟩
  | .rng e, X, x, t, g, h => by
    cases x <;> first | (simp [ckI] at h; done) | skip
    rename_i fe args kws p
    cases fe <;> first | (simp [ckI] at h; done) | skip
    rename_i nm p2
    match args, kws, h with
    | [y], [], h =>
      simp only [ckI, Bool.and_eq_true, decide_eq_true_eq] at h
      obtain ⟨⟨rfl, h2⟩, h3⟩ := h
      exact ⟨i_rng (gl_ok h2).1 (g.free _ (by simp [freeNames])) (sE e X y g h3).1 (ck_star h3), fun _ => rfl⟩
  | .zip a b, X, x, t, g, h => by
    cases x <;> first | (simp [ckI] at h; done) | skip
    rename_i fe args kws p
    cases fe <;> first | (simp [ckI] at h; done) | skip
    rename_i nm p2
    match args, kws, h with
    | [y, z], [], h =>
      simp only [ckI, Bool.and_eq_true, decide_eq_true_eq] at h
      obtain ⟨⟨⟨⟨rfl, h2⟩, h3⟩, h4⟩, h5⟩ := h
      cases t <;> first | (simp [isTup] at h5; done) | skip
      exact ⟨i_zip (gl_ok h2).1 (g.free _ (by simp [freeNames])) (sE a X y g h3).1 (sE b X z g h4).1 (ck_star h3) (ck_star h4), fun _ => rfl⟩
  | .rng2 a b, X, x, t, g, h => by
    cases x <;> first | (simp [ckI] at h; done) | skip
    rename_i fe args kws p
    cases fe <;> first | (simp [ckI] at h; done) | skip
    rename_i nm p2
    match args, kws, h with
    | [y, z], [], h =>
      simp only [ckI, Bool.and_eq_true, decide_eq_true_eq] at h
      obtain ⟨⟨⟨rfl, h2⟩, h3⟩, h4⟩ := h
      exact ⟨i_rng2 (gl_ok h2).1 (g.free _ (by simp [freeNames])) (sE a X y g h3).1 (sE b X z g h4).1 (ck_star h3) (ck_star h4), fun _ => rfl⟩
  | .enm a, X, x, t, g, h => by
    cases x <;> first | (simp [ckI] at h; done) | skip
    rename_i fe args kws p
    cases fe <;> first | (simp [ckI] at h; done) | skip
    rename_i nm p2
    match args, kws, h with
    | [y], [], h =>
      simp only [ckI, Bool.and_eq_true, decide_eq_true_eq] at h
      obtain ⟨⟨⟨rfl, h2⟩, h3⟩, h5⟩ := h
      cases t <;> first | (simp [isTup] at h5; done) | skip
      exact ⟨i_enm (gl_ok h2).1 (g.free _ (by simp [freeNames])) (sE a X y g h3).1 (ck_star h3), fun _ => rfl⟩
end
end
end PL
end
section
set_option maxHeartbeats 4000000
namespace PL
open PySem PySem.Spec PyProof.Rows L2
theorem lookup_zip {α : Type} : ∀ {ps : List Str} {us : List α}, ps.Nodup → us.length = ps.length → ∀ {i : Nat} {x : Str} {u : α}, ps[i]? = some x → us[i]? = some u → (ps.zip us).lookup x = some u
  | [], _, _, _, i, x, u, h, _ => by simp at h
  | p :: ps, [], _, hl, _, _, _, _, _ => by simp at hl
  | p :: ps, w :: us, nd, hl, 0, x, u, h1, h2 => by
    simp at h1 h2; subst h1; subst h2
    simp [List.lookup]
  | p :: ps, w :: us, nd, hl, i + 1, x, u, h1, h2 => by
    have hx : x ≠ p := fun z => by
      subst z
      exact (List.nodup_cons.mp nd).1 (List.mem_of_getElem? (by simpa using h1))
    rw [List.zip_cons_cons, List.lookup_cons]
    have : (x == p) = false := by simpa using hx
    rw [this]
    exact lookup_zip (List.nodup_cons.mp nd).2 (by simpa using hl) (i := i) (by simpa using h1) (by simpa using h2)
theorem filter_zip {α : Type} {qs : List Str} {ws : List α} (nd : qs.Nodup) (hl : ws.length = qs.length) : (qs.filterMap fun n => ((qs.zip ws).lookup n).map (n, ·)) = qs.zip ws := by
  have k : ∀ (ps : List Str) (us : List α), us.length = ps.length → (∀ (i : Nat) (x : Str) (u : α), ps[i]? = some x → us[i]? = some u → (qs.zip ws).lookup x = some u) → (ps.filterMap fun n => ((qs.zip ws).lookup n).map (n, ·)) = ps.zip us := fun ps => by
    induction ps with
    | nil => intro us _ _; rfl
    | cons p ps ih =>
      intro us hl h
      cases us with
      | nil => simp at hl
      | cons u us =>
        rw [List.filterMap_cons, h 0 p u rfl rfl]
        show (p, u) :: _ = _
        rw [ih us (by simpa using hl) fun i x v h1 h2 => h (i + 1) x v (by simpa using h1) (by simpa using h2)]
        rfl
  exact k qs ws hl fun i x u h1 h2 => lookup_zip nd hl h1 h2
theorem bind_plain {name qual : Str} {as : List Arg} {body : List Stmt} {scope : Scope} {kV doc pm : Value} {an : Option Addr} {cdv ct : Value} {us : List Value} (nd : (as.map (·.arg)).Nodup) (hl : us.length = (as.map (·.arg)).length) :
    bindArgs (PySem.W.fnOf name qual ⟨[], as, none, [], [], none, []⟩ body scope .none kV doc pm an cdv ct) ⟨us, []⟩ = pure ((as.map (·.arg)).zip us) := by
  have hmiss : ((as.map (·.arg)).filter fun n => (((as.map (·.arg)).zip us).lookup n).isNone) = [] := by
    rw [List.filter_eq_nil_iff]
    intro x hx
    obtain ⟨i, hi, e⟩ := List.getElem_of_mem hx
    have := lookup_zip nd hl (i := i) (x := x) (u := us[i]'(by rw [hl]; exact hi)) (by rw [List.getElem?_eq_getElem hi, e]) (List.getElem?_eq_getElem _)
    rw [this]; simp
  have hfm := filter_zip nd hl
  have hlt : ¬ (us.length > (as.map (·.arg)).length) := by omega
  unfold bindArgs PySem.W.fnOf
  dsimp only
  generalize as.map (·.arg) = ps at *
  have hle : ¬ (ps.length < us.length) := by omega
  have ht : ps.take ps.length = ps := List.take_length
  simp [hmiss, hfm, hle, seqItems?, ht]
  rfl
end PL
end
section
set_option maxHeartbeats 8000000
namespace PL
open PySem PySem.Spec PyProof.Rows L2
/-! ### how a display of names is stored -/
def starB : Expr → Bool
  | .Starred _ _ => true
  | _ => false
def lineNames (sc : Scope) (line : Nat) (ts : List Expr) : List Str := ts.filterMap fun
    | .Name id pos => if sc.names.lookup id == some .local && pos.line == line then some id else none
    | _ => none
def swC (sc : Scope) (ts vs : List Expr) : Option (Option (List Str)) :=
  if (!(ts.length == 2 || ts.length == 3) || vs.length != ts.length) = true then some none
  else if vs.any starB = true then some none
  else if ((lineNames sc ((ts.head?.map (·.pos.line)).getD 0) ts).length != ts.length || (lineNames sc ((ts.head?.map (·.pos.line)).getD 0) ts).eraseDups.length != (lineNames sc ((ts.head?.map (·.pos.line)).getD 0) ts).length) = true then some none
  else if vs.all (foldedForSure 8) = true then some none
  else if vs.all (constantsAlone 8) = true then none
  else some (some (lineNames sc ((ts.head?.map (·.pos.line)).getD 0) ts))
theorem swC_ok {env : PySem.Env} {ts vs : List Expr} {k k2 : Nat} {p p2 : Pos} {r : Option (List Str)} (hk : env.scope.kind = .function) (h : swC env.scope ts vs = some r) : swappedStores [.Tuple ts k p] (.Tuple vs k2 p2) env = pure r := by
  have hb : (env.blockKind != .function) = false := by
    unfold Env.blockKind; rw [hk]; rfl
  have e : swappedStores [.Tuple ts k p] (.Tuple vs k2 p2) env = (if (!(ts.length == 2 || ts.length == 3) || vs.length != ts.length || env.blockKind != .function) = true then pure none
      else if vs.any starB = true then pure none
      else if ((lineNames env.scope ((ts.head?.map (·.pos.line)).getD 0) ts).length != ts.length || (lineNames env.scope ((ts.head?.map (·.pos.line)).getD 0) ts).eraseDups.length != (lineNames env.scope ((ts.head?.map (·.pos.line)).getD 0) ts).length) = true then pure none
      else if vs.all (foldedForSure 8) = true then pure none
      else if vs.all (constantsAlone 8) = true then (do
        unsupported "assign.tuple-of-constant-expressions:order-of-the-stores"
        pure (some (lineNames env.scope ((ts.head?.map (·.pos.line)).getD 0) ts)))
      else pure (some (lineNames env.scope ((ts.head?.map (·.pos.line)).getD 0) ts))) := rfl
  rw [e, hb, Bool.or_false]
  unfold swC at h
  split at h
  · rename_i c; rw [if_pos c]; cases h; rfl
  · rename_i c
    rw [if_neg c]
    split at h
    · rename_i c; rw [if_pos c]; cases h; rfl
    · rename_i c
      rw [if_neg c]
      split at h
      · rename_i c; rw [if_pos c]; cases h; rfl
      · rename_i c
        rw [if_neg c]
        split at h
        · rename_i c; rw [if_pos c]; cases h; rfl
        · rename_i c
          rw [if_neg c]
          split at h
          · cases h
          · rename_i c; rw [if_neg c]; cases h; rfl
def notComp : Expr → Bool
  | .ListComp _ _ _ _ => false
  | .SetComp _ _ _ _ => false
  | .DictComp _ _ _ _ _ => false
  | _ => true
theorem swaps_not {v : Expr} {t : Option Expr} {line : Nat} {env : PySem.Env} (h : notComp v = true) : swapsWith v t line env = pure false := by
  cases v <;> first | rfl | (simp [notComp] at h)
def isName : Expr → Bool
  | .Name _ _ => true
  | _ => false
theorem swaps_t {v t : Expr} {line : Nat} {env : PySem.Env} (h : isName t = false) : swapsWith v (some t) line env = pure false := by
  cases v <;> first | rfl | (cases t <;> first | rfl | (simp [isName] at h))
theorem swaps_cell {elt : Expr} {gs : List Comprehension} {scope : Scope} {p q : Pos} {x : Str} {line : Nat} {env : PySem.Env} (h : env.scope.names.lookup x = some .cell) : swapsWith (.ListComp elt gs scope p) (some (.Name x q)) line env = pure false := by
  have hk : env.kindOf x = some .cell := h
  have hf : (some NameKind.cell == some NameKind.local) = false := by decide
  unfold swapsWith
  dsimp only
  rw [hk, hf]
  simp
/-! ### the check of statements -/
def asgB (sc : Scope) (x : Str) (v : Expr) : Bool := notComp v || (match v, sc.names.lookup x with
  | .ListComp _ _ _ _, some .cell => true
  | _, _ => false)
theorem asgB_ok {env : PySem.Env} {x : Str} {q : Pos} {v : Expr} {line : Nat} (h : asgB env.scope x v = true) : swapsWith v (some (.Name x q)) line env = pure false := by
  unfold asgB at h
  rw [Bool.or_eq_true] at h
  rcases h with h | h
  · exact swaps_not h
  · split at h
    · exact swaps_cell (by assumption)
    · cases h
def isT : Expr → Bool
  | .Tuple _ _ _ => true
  | _ => false
theorem swS_none {ts : List Expr} {k : Nat} {p : Pos} {v : Expr} {env : PySem.Env} (h : isT v = false) : swappedStores [.Tuple ts k p] v env = pure none := by
  cases v <;> first | rfl | (simp [isT] at h)
def parB (N : List Str) (sc : Scope) : List Nat → List Expr → List Expr → Bool
  | [i, j], [.Name x px, .Name y py], [a, b] => decide (N[i]? = some x) && decide (N[j]? = some y) && decide (i ≠ j) && decide (sc.names.lookup x = some .local) && decide (sc.names.lookup y = some .local) && decide (swC sc [.Name x px, .Name y py] [a, b] = some (some [x, y]))
  | [i, j, k], [.Name x px, .Name y py, .Name z pz], [a, b, c] => decide (N[i]? = some x) && decide (N[j]? = some y) && decide (N[k]? = some z) && decide (i ≠ j) && decide (i ≠ k) && decide (j ≠ k) &&
      decide (sc.names.lookup x = some .local) && decide (sc.names.lookup y = some .local) && decide (sc.names.lookup z = some .local) && decide (swC sc [.Name x px, .Name y py, .Name z pz] [a, b, c] = some (some [x, y, z]))
  | _, _, _ => false
theorem par_ok {X : Cx} {is : List Nat} {ts vs : List Expr} {eas : Evs} {k k2 : Nat} {p p2 pos : Pos} (hc : X.calm = true) (hN : X.N.Nodup) (hk : X.env.scope.kind = .function) (h : parB X.N X.env.scope is ts vs = true) (ha : PA X vs (tA X.K eas)) :
    PS X (.Assign [.Tuple ts k p] (.Tuple vs k2 p2) pos) (tS X.K fun L S => okOr (eas L S) fun (rs, S1) => okOr (setAll is rs L) fun L' => some (.nx, L', S1)) := by
  unfold parB at h
  split at h
  · simp only [Bool.and_eq_true, decide_eq_true_eq] at h
    obtain ⟨⟨⟨⟨⟨h1, h2⟩, h3⟩, h4⟩, h5⟩, h6⟩ := h
    exact s_par2 hc hN h1 h2 h3 h4 h5 ha (swC_ok hk h6)
  · simp only [Bool.and_eq_true, decide_eq_true_eq] at h
    obtain ⟨⟨⟨⟨⟨⟨⟨⟨⟨h1, h2⟩, h3⟩, h4⟩, h5⟩, h6⟩, h7⟩, h8⟩, h9⟩, h10⟩ := h
    exact s_par3 hc hN h1 h2 h3 h4 h5 h6 h7 h8 h9 ha (swC_ok hk h10)
  · cases h
mutual
def ckS (T : Tab) (N : List Str) (sc : Scope) : Sx → Stmt → Bool
  | .asg i e, .Assign [.Name x _] v _ => storeB N sc (fun _ => true) i x && asgB sc x v && ckE T N sc e v
  | .asgL i e, .Assign [.Name x q] v _ => (match e, v with
      | .comp own tg it cs e, .ListComp elt [⟨t, j, ifs, z⟩] scope p => decide (N[i]? = some x) && decide (sc.names.lookup x = some .local) && (q.line == p.line) && !(scope.names.any fun (n, k) => n == x && (k == .local || k == .cell)) &&
          (decide (z = 0) && blkC N sc scope (own.map fun i => (N.getD i Str.empty, i)) && (tg.ixs.all fun i => own.contains i) && tgB N (relS scope sc) (fun x => scope.names.lookup x == some .cell) tg t && ckI T N sc it j t && ckEs T N (relS scope sc) cs ifs && ckE T N (relS scope sc) e elt)
      | .compR own tg it cs e, .ListComp elt [⟨t, j, ifs, z⟩] scope p => decide (N[i]? = some x) && decide (sc.names.lookup x = some .local) && (q.line == p.line) && !(scope.names.any fun (n, k) => n == x && (k == .local || k == .cell)) &&
          (decide (z = 0) && blkC N sc scope (own.map fun i => (N.getD i Str.empty, i)) && (tg.ixs.all fun i => own.contains i) && tgB N (relS scope sc) (fun x => scope.names.lookup x == some .cell) tg t && ckI T N sc it j t && ckEs T N (relS scope sc) cs ifs && ckE T N (relS scope sc) e elt)
      | _, _ => false)
  | .par is es, .Assign [.Tuple ts _ _] (.Tuple vs _ _) _ => parB N sc is ts vs && ckEs T N sc es vs
  | .parC is es, .Assign [.Tuple ts _ _] (.Tuple vs _ _) _ => decide (is.length ≤ 100) && storesB N sc (fun _ => true) is ts && decide (swC sc ts vs = some none) && ckEs T N sc es vs
  | .unp is e, .Assign [.Tuple ts _ _] v _ => storesB N sc (fun _ => true) is ts && !isT v && ckE T N sc e v
  | .dset d k v, .Assign [.Subscript o i _] x _ => ckE T N sc d o && ckE T N sc k i && ckE T N sc v x
  | .expr e, .Expr x _ => notComp x && ckE T N sc e x
  | .ret e, .Return (some x) _ => ckE T N sc e x
  | .ret0, .Return none _ => true
  | .ifs c a b, .If t x y _ => ckE T N sc c t && ckSs T N sc a x && ckSs T N sc b y
  | .fors tg it b, .For t i x [] _ => tgB N sc (fun _ => true) tg t && ckI T N sc it i t && ckSs T N sc b x
  | .never, _ => true
  | .pass, .Pass _ => true
  | .brk, .Break _ => true
  | .cont, .Continue _ => true
  | _, _ => false
def ckSs (T : Tab) (N : List Str) (sc : Scope) : List Sx → List Stmt → Bool
  | [], [] => true
  | s :: r, x :: xs => ckS T N sc s x && ckSs T N sc r xs
  | _, _ => false
end
structure GoodS (T : Tab) (cl : Cl) (n : Nat) (X : Cx) : Prop extends Good T cl n X where
  fnb : ∀ x, X.fn x = true
  kind : X.env.scope.kind = .function
  own : PassesOwn (model X.prog X.w) X.A X.env X.xe
theorem asg_read {K : PySem.W.Frag} {ea : Ev} {i : Nat} {Dn : Ends} {σ : L2.St} {H : Hp} (h : tS K (fun L S => okOr (ea L S) fun (x, S1) => some (.nx, L.set i (some x), S1)) Dn σ H) : tE K ea σ H fun x H1 => gName i x σ H1 Dn.nx := by
  obtain ⟨F, G, ρ, S, L, f, L', S', s, l, e, q⟩ := h
  obtain ⟨⟨x, S1⟩, e1, e⟩ := okOr_some e
  obtain ⟨rfl, rfl, rfl⟩ := fl_eq e
  exact ⟨F, G, ρ, S, L, x, S1, s, l, e1, fun G1 ρ1 H1 v1 g1 p1 s1 q1 => q G1 ρ1 H1 _ g1 p1 s1 (lok_set (lok_mono g1 p1 l) i q1)⟩
section
variable {T : Tab} {cl : Cl} {n : Nat}
mutual
theorem sS : ∀ (s : Sx) (X : Cx) (x : Stmt), GoodS T cl n X → ckS T X.N X.env.scope s x = true → PS X x (tS X.K (evS cl s))
  | .asg i e, X, x, g, h => by
    cases x <;> first | (simp [ckS] at h; done) | skip
    rename_i ts v p
    match ts, h with
    | [.Name x q], h =>
      simp only [ckS, Bool.and_eq_true] at h
      obtain ⟨⟨h1, h2⟩, h3⟩ := h
      unfold storeB at h1
      rw [Bool.and_eq_true] at h1
      have hx : L2.Loc X.env.scope x := by
        have h1 := h1.2
        split at h1
        · exact .inl (by assumption)
        · exact .inr (by assumption)
        · cases h1
      exact s_asg g.nd (of_decide_eq_true h1.1) hx (sE e X v g.toGood h3).1 (asgB_ok h2) (g.fnb x)
  | .asgL i e, X, x, g, h => by
    cases x <;> first | (simp [ckS] at h; done) | skip
    rename_i ts v p
    match ts, h with
    | [.Name x q], h =>
      simp only [ckS] at h
      split at h
      · simp only [Bool.and_eq_true, decide_eq_true_eq, Bool.not_eq_true'] at h
        obtain ⟨⟨⟨⟨a1, a2⟩, a3⟩, a4⟩, ⟨⟨⟨⟨⟨⟨rfl, h1⟩, h2⟩, h3⟩, h4⟩, h5⟩, h6⟩⟩ := h
        rename_i own tg it cs e elt t j ifs scope pp
        obtain ⟨b1, b2⟩ := inv_comp h1
        obtain ⟨i1, i2⟩ := sI it X j t g.toGood h4
        have hp := ps_setLc (spos := p) (py := q) (g := gT X.K tg) (tt := tT X.K (evT cl cs)) (te := tE X.K (evE cl e)) g.calm g.nd a1 a2 (sw_true g.kind a2 a3 a4) i1 b1
          (fun s H C c2 fp => tgB_ok (X := X.blk s H scope (compEnvC scope c2 C X.env) fp) (fun _ hx => hx) g.nd g.calm h3)
          (fun s H C c2 fp => sT cs (X.blk s H scope (compEnvC scope c2 C X.env) fp) ifs (g.blk s H scope _ fp) h5)
          (fun s H C c2 fp => (sE e (X.blk s H scope (compEnvC scope c2 C X.env) fp) elt (g.blk s H scope _ fp) h6).1) i2
        rw [b2] at hp
        exact PS.weak hp fun Dn σ H hh => lc_read (fin := finD) (fun j hj => by simpa using List.all_eq_true.mp h2 j hj) fin_d (asg_read hh)
      · simp only [Bool.and_eq_true, decide_eq_true_eq, Bool.not_eq_true'] at h
        obtain ⟨⟨⟨⟨a1, a2⟩, a3⟩, a4⟩, ⟨⟨⟨⟨⟨⟨rfl, h1⟩, h2⟩, h3⟩, h4⟩, h5⟩, h6⟩⟩ := h
        rename_i own tg it cs e elt t j ifs scope pp
        obtain ⟨b1, b2⟩ := inv_comp h1
        obtain ⟨i1, i2⟩ := sI it X j t g.toGood h4
        have hp := ps_setLc (spos := p) (py := q) (g := gT X.K tg) (tt := tT X.K (evT cl cs)) (te := tE X.K (evE cl e)) g.calm g.nd a1 a2 (sw_true g.kind a2 a3 a4) i1 b1
          (fun s H C c2 fp => tgB_ok (X := X.blk s H scope (compEnvC scope c2 C X.env) fp) (fun _ hx => hx) g.nd g.calm h3)
          (fun s H C c2 fp => sT cs (X.blk s H scope (compEnvC scope c2 C X.env) fp) ifs (g.blk s H scope _ fp) h5)
          (fun s H C c2 fp => (sE e (X.blk s H scope (compEnvC scope c2 C X.env) fp) elt (g.blk s H scope _ fp) h6).1) i2
        rw [b2] at hp
        exact PS.weak hp fun Dn σ H hh => lc_read (fin := finR) (fun j hj => by simpa using List.all_eq_true.mp h2 j hj) fin_r (asg_read hh)
      · cases h
  | .par is es, X, x, g, h => by
    cases x <;> first | (simp [ckS] at h; done) | skip
    rename_i ts v p
    match ts, v, h with
    | [.Tuple ts k1 p1], .Tuple vs k2 p2, h =>
      simp only [ckS, Bool.and_eq_true] at h
      exact par_ok g.calm g.nd g.kind h.1 (sEs es X _ g.toGood h.2).1
  | .parC is es, X, x, g, h => by
    cases x <;> first | (simp [ckS] at h; done) | skip
    rename_i ts v p
    match ts, v, h with
    | [.Tuple ts k1 p1], .Tuple vs k2 p2, h =>
      simp only [ckS, Bool.and_eq_true, decide_eq_true_eq] at h
      obtain ⟨⟨⟨h0, h1⟩, h2⟩, h3⟩ := h
      obtain ⟨q1, q2⟩ := stores_ok (fun x _ => g.fnb x) g.nd h1
      exact s_parC g.calm (Nat.le_trans h0 (by decide)) q1 q2 (sEs es X _ g.toGood h3).1 (swC_ok g.kind h2)
  | .unp is e, X, x, g, h => by
    cases x <;> first | (simp [ckS] at h; done) | skip
    rename_i ts v p
    match ts, h with
    | [.Tuple ts k1 p1], h =>
      simp only [ckS, Bool.and_eq_true, Bool.not_eq_true'] at h
      obtain ⟨⟨h1, h2⟩, h3⟩ := h
      obtain ⟨q1, q2⟩ := stores_ok (fun x _ => g.fnb x) g.nd h1
      exact s_unp g.calm q1 q2 (sE e X _ g.toGood h3).1 (show swapsWithSole [.Tuple ts k1 p1] v p.line X.env = pure false from swaps_t (t := .Tuple ts k1 p1) (v := v) (line := p.line) (env := X.env) rfl) (swS_none h2)
  | .dset d k v, X, x, g, h => by
    cases x <;> first | (simp [ckS] at h; done) | skip
    rename_i ts v' p
    match ts, h with
    | [.Subscript o i p1], h =>
      simp only [ckS, Bool.and_eq_true] at h
      obtain ⟨⟨h1, h2⟩, h3⟩ := h
      exact s_dset g.un1 (sE d X _ g.toGood h1).1 (sE k X _ g.toGood h2).1 (sE v X _ g.toGood h3).1 (swaps_t rfl)
  | .expr e, X, x, g, h => by
    cases x <;> first | (simp [ckS] at h; done) | skip
    simp only [ckS, Bool.and_eq_true] at h
    exact s_expr (sE e X _ g.toGood h.2).1 (swaps_not h.1)
  | .ret e, X, x, g, h => by
    cases x <;> first | (simp [ckS] at h; done) | skip
    rename_i v p
    cases v with
    | none => simp [ckS] at h
    | some v =>
      simp only [ckS] at h
      exact s_ret (sE e X _ g.toGood h).1
  | .ret0, X, x, g, h => by
    cases x <;> first | (simp [ckS] at h; done) | skip
    rename_i v p
    cases v with
    | none => exact s_ret0
    | some v => simp [ckS] at h
  | .ifs c a b, X, x, g, h => by
    cases x <;> first | (simp [ckS] at h; done) | skip
    simp only [ckS, Bool.and_eq_true] at h
    obtain ⟨⟨h1, h2⟩, h3⟩ := h
    exact s_if (sE c X _ g.toGood h1).2 (sSs a X _ g h2) (sSs b X _ g h3)
  | .fors tg it b, X, x, g, h => by
    cases x <;> first | (simp [ckS] at h; done) | skip
    rename_i t i body els p
    cases els with
    | cons _ _ => simp [ckS] at h
    | nil =>
      simp only [ckS, Bool.and_eq_true] at h
      obtain ⟨⟨h1, h2⟩, h3⟩ := h
      obtain ⟨i1, i2⟩ := sI it X i t g.toGood h2
      exact s_for g.own g.calm i1 (tgB_ok (fun x _ => g.fnb x) g.nd g.calm h1) (sSs b X body g h3) i2
  | .never, X, x, g, h => s_never
  | .pass, X, x, g, h => by
    cases x <;> first | (simp [ckS] at h; done) | skip
    exact s_pass
  | .brk, X, x, g, h => by
    cases x <;> first | (simp [ckS] at h; done) | skip
    exact s_brk
  | .cont, X, x, g, h => by
    cases x <;> first | (simp [ckS] at h; done) | skip
    exact s_cont
theorem sSs : ∀ (ss : List Sx) (X : Cx) (xs : List Stmt), GoodS T cl n X → ckSs T X.N X.env.scope ss xs = true → PSs X xs (tS X.K (evSs cl ss))
  | [], X, xs, g, h => by
    cases xs with
    | cons _ _ => simp [ckSs] at h
    | nil => exact s_nil
  | s :: r, X, xs, g, h => by
    cases xs with
    | nil => simp [ckSs] at h
    | cons y ys =>
      simp only [ckSs, Bool.and_eq_true] at h
      exact s_cons (sS s X y g h.1) (sSs r X ys g h.2)
end
end
end PL
end
section
set_option maxHeartbeats 4000000
namespace PL
open PySem PySem.Spec PyProof.Rows L2
theorem rvs_get {K : PySem.W.Frag} {G : Hp} {ρ : List Addr} : ∀ {rs : List R} {vs : List V} {i : Nat} {r : R}, RVs K G ρ rs vs → rs[i]? = some r → ∃ v, vs[i]? = some v ∧ RV K G ρ r v
  | _, _, _, _, .nil, e => by simp at e
  | _, _, 0, _, .cons h _, e => by simp at e; subst e; exact ⟨_, rfl, h⟩
  | _, _, i + 1, _, .cons _ t, e => by
    obtain ⟨v, h1, h2⟩ := rvs_get (i := i) t (by simpa using e)
    exact ⟨v, by simpa using h1, h2⟩
theorem lok_start {K : PySem.W.Frag} {G : Hp} {ρ : List Addr} {rs : List R} {vs : List V} {N : List Str} (h : RVs K G ρ rs vs) : LOk K G ρ (rs.map some ++ List.replicate (N.length - rs.length) none) (L2.start N vs) := by
  have hl := rvs_len h
  refine ⟨by unfold L2.start; simp [hl], fun i r e => ?_⟩
  by_cases hi : i < rs.length
  · rw [List.getElem?_append_left (by simpa using hi), List.getElem?_map] at e
    cases q : rs[i]? with
    | none => rw [q] at e; cases e
    | some r0 =>
      rw [q] at e
      cases e
      obtain ⟨v, h1, h2⟩ := rvs_get h q
      refine ⟨v, ?_, h2⟩
      unfold L2.start
      rw [List.getElem?_append_left (by simpa using hl ▸ hi), List.getElem?_map, h1]
      rfl
  · rw [List.getElem?_append_right (by simpa using hi), List.getElem?_replicate] at e
    split at e <;> cases e
/-- what a call's evaluation says of the body's -/
theorem callN_body {P : List Fn} {n f : Nat} {d : Fn} {rs : List R} {S : Sto} {r : R} {S' : Sto} (hd : P[f]? = some d) (h : callN P (n + 1) f rs S = some (r, S')) : rs.length = d.np ∧ ∃ fl L' S1, evSs (callN P n) d.body (rs.map some ++ List.replicate (d.names.length - rs.length) none) S = some (fl, L', S1) ∧
    ((fl = .nx ∧ r = .d .none ∧ S' = S1.take S.length) ∨ (fl = .rt r ∧ S' = S1) ∨ (∃ x, fl = .rt (.d x) ∧ r = .d x ∧ S' = S1.take S.length)) := by
  rw [callN, hd] at h
  dsimp only at h
  by_cases hl : rs.length = d.np
  · rw [if_pos hl] at h
    refine ⟨hl, ?_⟩
    cases q : evSs (callN P n) d.body (rs.map some ++ List.replicate (d.names.length - rs.length) none) S with
    | none => rw [q] at h; cases h
    | some t =>
      obtain ⟨fl, L', S1⟩ := t
      rw [q] at h
      refine ⟨fl, L', S1, rfl, ?_⟩
      cases fl with
      | nx =>
        obtain ⟨rfl, rfl⟩ := res_eq h
        exact .inl ⟨rfl, rfl, rfl⟩
      | bk => cases h
      | ct => cases h
      | rt r0 =>
        cases r0 with
        | d x =>
          obtain ⟨rfl, rfl⟩ := res_eq h
          exact .inr (.inr ⟨x, rfl, rfl, rfl⟩)
        | ref k =>
          obtain ⟨rfl, rfl⟩ := res_eq h
          exact .inr (.inl ⟨rfl, rfl⟩)
        | scr ns =>
          obtain ⟨rfl, rfl⟩ := res_eq h
          exact .inr (.inl ⟨rfl, rfl⟩)
  · rw [if_neg hl] at h; cases h
theorem callN_len {P : List Fn} {n f : Nat} {d : Fn} {rs : List R} {S : Sto} {r : R × Sto} (hd : P[f]? = some d) (h : callN P n f rs S = some r) : rs.length = d.np := by
  cases n with
  | zero => cases h
  | succ n => exact (callN_body (r := r.1) (S' := r.2) hd h).1
theorem callN_zero {P : List Fn} {f : Nat} {rs : List R} {S : Sto} : callN P 0 f rs S = none := rfl
theorem enter {K : PySem.W.Frag} {P : List Fn} {n f : Nat} {d : Fn} {vs : List V} {H : Hp} {Q : VK} (hd : P[f]? = some d) (h : tP K (callN P (n + 1) f) vs H Q) :
    tS K (evSs (callN P n) d.body) { nx := fun _ H' => Q .non H', rt := Q } (L2.start d.names vs) H := by
  obtain ⟨F, G, ρ, S, rs, r, S', s, q, e, w⟩ := h
  obtain ⟨hl, fl, L', S1, e1, c⟩ := callN_body hd e
  refine ⟨F, G, ρ, S, _, fl, L', S1, s, lok_start q, e1, ?_⟩
  have cut : ∀ {G' : Hp} {ρ' : List Addr} {H' : Hp} {v : V} {x : D}, Same G G' → ρ <+: ρ' → SOk K F G' ρ' S1 H' → DV K G' v x → Post K F G ρ (S1.take S.length) (.d x) Q → Q v H' := fun g p s' dv w => by
    refine w _ ρ _ _ g (List.prefix_refl _) ?_ dv
    have := s'.cut p
    rw [s.len] at this
    exact this
  rcases c with ⟨rfl, rfl, rfl⟩ | ⟨rfl, rfl⟩ | ⟨x, rfl, rfl, rfl⟩
  · exact fun G' ρ' H' σ' g p s' l => cut g p s' .non w
  · exact fun G' ρ' H' v g p s' rv => w G' ρ' H' v g p s' rv
  · exact fun G' ρ' H' v g p s' rv => cut g p s' rv w
/-! ### a def of the text -/
structure Src where
  qual : Str
  as : List Arg
  body : List Stmt
  scope : Scope
def Src.pars (s : Src) : Arguments := ⟨[], s.as, none, [], [], none, []⟩
def parNB (sc : Scope) (x : Str) : Bool := match sc.names.lookup x with
  | some .local => true
  | some .cell => true
  | _ => false
def ckFn (T : Tab) (d : Fn) (s : Src) : Bool :=
  decide (s.as.map (·.arg) = d.names.take d.np) && decide (d.np ≤ d.names.length) && decide d.names.Nodup && decide (s.scope.kind = .function) && !s.scope.isCoroutine && !s.scope.isGenerator && s.scope.names.all (fun y => decide (y.2 ≠ .free)) && (d.names.take d.np).all (parNB s.scope) && ckSs T d.names s.scope d.body s.body
structure FnC (T : Tab) (d : Fn) (s : Src) : Prop where
  ar : s.as.map (·.arg) = d.names.take d.np
  le : d.np ≤ d.names.length
  sc : FnScope d.names (d.names.take d.np) s.scope
  body : ckSs T d.names s.scope d.body s.body = true
theorem ckFn_ok {T : Tab} {d : Fn} {s : Src} (h : ckFn T d s = true) : FnC T d s := by
  simp only [ckFn, Bool.and_eq_true, decide_eq_true_eq, Bool.not_eq_true', List.all_eq_true] at h
  obtain ⟨⟨⟨⟨⟨⟨⟨⟨h1, h2⟩, h3⟩, h4⟩, h5⟩, h6⟩, h7⟩, h8⟩, h9⟩ := h
  refine ⟨h1, h2, ⟨h4, h5, h6, h3, ?_, fun x hx => ?_, fun y hy => h7 y hy⟩, h9⟩
  · rw [List.length_take, Nat.min_eq_left h2]
  · have := h8 x hx
    unfold parNB at this
    cases q : s.scope.names.lookup x with
    | none => rw [q] at this; cases this
    | some k => cases k <;> first | exact .inl rfl | exact .inr rfl | (rw [q] at this; cases this)
section
variable {P : Program} {w : World} {K : PySem.W.Frag} {mg : Str → Option Value} {base : Heap}
/-- the whole text: each def stands behind the top, as it is checked -/
structure Txt (w : World) (K : PySem.W.Frag) (mg : Str → Option Value) (T : Tab) (src : List Src) : Prop where
  free : ∀ x ∈ freeNames, mg x = none
  glob : ∀ p ∈ T.gl, ∃ u v, mg p.1 = some u ∧ RelV v u ∧ ∀ G, DV K G v p.2
  gdict : ∀ p ∈ T.gd, ∃ addr, mg p.1 = some (.ref addr) ∧ KTab K w addr p.2
  def' : ∀ (f : Nat) (d : Fn), T.fns[f]? = some d → ∃ (s : Src) (addr : Addr) (fd : FuncData), (src[f]? : Option Src) = some s ∧ ckFn T d s = true ∧ mg d.name = some (.ref addr) ∧ FunD K d.name s.qual s.pars s.body s.scope [] [] addr fd
theorem funD_binds {d : Fn} {s : Src} {T : Tab} {addr : Addr} {fd : FuncData} (c : FnC T d s) (F : FunD K d.name s.qual s.pars s.body s.scope [] [] addr fd) : Binds K fd (d.names.take d.np) [] := by
  refine F.bindsN fun kV doc pm an cdv ct us hl => ?_
  have := bind_plain (name := d.name) (qual := s.qual) (as := s.as) (body := s.body) (scope := s.scope) (kV := kV) (doc := doc) (pm := pm) (an := an) (cdv := cdv) (ct := ct) (us := us) (by rw [c.ar]; exact c.sc.nd.sublist (List.take_sublist _ _)) (by rw [c.ar]; exact hl)
  rw [c.ar] at this
  exact this
theorem kw_plain {name qual : Str} {as : List Arg} {body : List Stmt} {scope : Scope} {kV doc pm : Value} {an : Option Addr} {cdv ct : Value} {x : Str} {u : Value} (h : as.map (·.arg) = [x]) :
    bindArgs (PySem.W.fnOf name qual ⟨[], as, none, [], [], none, []⟩ body scope .none kV doc pm an cdv ct) ⟨[], [(x, u)]⟩ = pure [(x, u)] := by
  unfold bindArgs PySem.W.fnOf
  dsimp only
  rw [h]
  simp [seqItems?]
  rfl
theorem funD_kw {d : Fn} {s : Src} {T : Tab} {addr : Addr} {fd : FuncData} (c : FnC T d s) (F : FunD K d.name s.qual s.pars s.body s.scope [] [] addr fd) (x : Str) (hx : d.names.take d.np = [x]) (s' : Shared) (u : Value) : BindsTo s' fd ⟨[], [(x, u)]⟩ [(x, u)] := by
  obtain ⟨oc, od, dV, kV, doc, pm, an, cdv, ct, osl, rfl, lk, hcd, hD, hK⟩ := F.ex
  rcases hD with ⟨_, rfl⟩ | ⟨e, _⟩
  · exact .of_eq (kw_plain (c.ar.trans hx))
  · exact absurd rfl e
/-- a def keeps its promise, where those that it calls do -/
theorem fnG_step {T : Tab} {src : List Src} {n f : Nat} {d : Fn} {s : Src} {addr : Addr} {fd : FuncData} (tx : Txt w K mg T src)
    (ih : ∀ (f : Nat) (d : Fn), T.fns[f]? = some d → ∃ addr fd ps, mg d.name = some (.ref addr) ∧ PySem.W.keepIn K (.ref addr) = true ∧ Binds K fd ps [] ∧ (ps.length = d.np ∧ ps = d.names.take d.np) ∧ FnG P w K mg base n addr fd ps (callN T.fns n f))
    (hd : T.fns[f]? = some d) (hck : ckFn T d s = true) (F : FunD K d.name s.qual s.pars s.body s.scope [] [] addr fd) : FnG P w K mg base (n + 1) addr fd (d.names.take d.np) (callN T.fns (n + 1) f) := by
  have c := ckFn_ok hck
  obtain ⟨oc, od, dV, kV, doc, pm, an, cdv, ct, osl, rfl, lk, hcd, _, _⟩ := F.ex
  refine ⟨fun A outer s0 H args us vs Q hr hg e0 hb r hl hsp => ?_, funD_kw c F⟩
  have KX : K.In s0.heap := e0.mod.kin.keeps fun b o e => (e0.bs b o e).1
  have lim : s0.heap.NoLimit := e0.mod.nolimit.keeps fun b o e => (e0.bs b o e).1
  have hkind : ∀ y ∈ (d.names.take d.np).zip us, s.scope.names.lookup y.1 = some .local ∨ (s.scope.names.lookup y.1 = some .cell ∧ ((cellsFrom (s0.heap.objs.size + 1) s.scope.names []).lookup y.1).isSome = true) := fun ⟨x, v⟩ hy => by
    rcases c.sc.par x (List.of_mem_zip hy).1 with q | q
    · exact .inl q
    · exact .inr ⟨q, PySem.W.cellsFrom_some _ _ _ (.inl q)⟩
  refine codeAny_call_function hr.depth (KX _ _ lk) rfl c.sc.co c.sc.gen rfl (PySem.W.codeRec_of KX hcd) (hb _ _ _ _ ?_)
  refine wpAny_newFunctionEnv_cells c.sc.kind hkind fun env he s1 x => ?_
  subst he
  refine ⟨lim.keeps x.toInCall.keep, codeAny_func ?_⟩
  have I : Inv (cxOf CX0 P w K mg base d.names s.qual s.scope addr cdv A outer s0 H E0) [] (L2.start d.names vs) H s1 := inv_start c.sc hr.hd e0 hl r x
  have g : GoodS T (callN T.fns n) n (cxOf CX0 P w K mg base d.names s.qual s.scope addr cdv A outer s0 H E0).nox := {
    calm := rfl
    nd := c.sc.nd
    gd := hg
    room := hr.deeper _
    free := tx.free
    glob := tx.glob
    gdict := tx.gdict
    fn := ih
    len := fun f d rs S r h e => callN_len h e
    fnb := fun _ => rfl
    kind := c.sc.kind
    own := PassesOwn.never }
  have hS := (sSs d.body _ s.body g c.body).nox
  refine wpAny_mono (hS.run [] s1 (L2.start d.names vs) H _ I (enter hd hsp)) (fun fl s' hs => ?_) fun e s' hs => hs
  have fin : ∀ {σ' : L2.St} {H' : Hp} {v : V} {u : Value}, Inv (cxOf CX0 P w K mg base d.names s.qual s.scope addr cdv A outer s0 H E0) [] σ' H' s' → RelV v u → Q v H' → CE outer P w H s0 Q u s' :=
    fun {σ' H' v u} J rv q => ⟨v, H', J.os, J.bare, J.base, J.hok, rv, q⟩
  cases fl with
  | ret u =>
    obtain ⟨v, σ', H', J, rv, q⟩ := hs
    exact fin J rv q
  | next =>
    obtain ⟨σ', H', J, q⟩ := hs
    exact fin (v := V.non) (u := Value.none) J rfl q
  | brk =>
    obtain ⟨_, _, _, q⟩ := hs
    exact False.elim q
  | cont =>
    obtain ⟨_, _, _, q⟩ := hs
    exact False.elim q
/-- all defs keep their promises, at each depth of calls -/
theorem fnG_all {T : Tab} {src : List Src} (tx : Txt w K mg T src) : ∀ (n f : Nat) (d : Fn), T.fns[f]? = some d → ∃ addr fd ps, mg d.name = some (.ref addr) ∧ PySem.W.keepIn K (.ref addr) = true ∧ Binds K fd ps [] ∧ (ps.length = d.np ∧ ps = d.names.take d.np) ∧ FnG P w K mg base n addr fd ps (callN T.fns n f)
  | 0, f, d, hd => by
    obtain ⟨s, addr, fd, h1, h2, h3, F⟩ := tx.def' f d hd
    have c := ckFn_ok h2
    refine ⟨addr, fd, d.names.take d.np, h3, F.kp, funD_binds c F, ⟨by rw [List.length_take, Nat.min_eq_left c.le], rfl⟩, ⟨fun A outer s0 H args us vs Q hr hg e0 hb r hl hsp => ?_, funD_kw c F⟩⟩
    obtain ⟨_, _, _, _, _, _, _, _, _, e, _⟩ := hsp
    cases e
  | n + 1, f, d, hd => by
    obtain ⟨s, addr, fd, h1, h2, h3, F⟩ := tx.def' f d hd
    have c := ckFn_ok h2
    exact ⟨addr, fd, d.names.take d.np, h3, F.kp, funD_binds c F, ⟨by rw [List.length_take, Nat.min_eq_left c.le], rfl⟩, fnG_step tx (fnG_all tx n) hd h2 F⟩
end
end PL
end
section
set_option maxHeartbeats 4000000
namespace PL
open PySem PySem.Spec PyProof.Rows L2
abbrev noH : Hp := fun _ => none
abbrev Done (s₁ : Shared) (r : Result) (s' : Shared) : Prop := r = .ok (.ret (.bool true)) ∧ OldK s₁.heap s'.heap ∧ s'.os = s₁.os ∧ AllBare s'.gens
/-- at the entry nothing changes, and the script stands in what never does -/
theorem entry {K : PySem.W.Frag} {cl : Prim} {H : Hp} {a : Addr} {ns : List Int} (hS : SqL K H a (ns.map V.int)) (h : ∃ S', cl [.scr ns] [] = some (.d (.bool true), S')) : tP K cl [.ref a] H fun v _ => v = .bl true := by
  obtain ⟨S', e⟩ := h
  refine ⟨noH, H, [], [], [.scr ns], .d (.bool true), S', ⟨rfl, List.nodup_nil, fun b u q => ?_, fun b u q => q, fun b hb => ?_, fun b hb => absurd rfl hb, fun n b c q => ?_⟩, .cons ⟨a, rfl, hS⟩ .nil, e, fun G' ρ' H' v _ _ _ q => ?_⟩
  · cases q
  · cases hb
  · simp at q
  · cases q; rfl
section
variable {P : Program} {w : World} {K : PySem.W.Frag} {mg mb : Str → Option Value} {k : Nat} {fa a : Addr} {fd : FuncData} {x : Str} {cl : Prim} {s₁ : Shared} {vs : List Value} {ns : List Int}
/-- the law's call over a heap H of the script alone -/
theorem call_over (F : ∀ base : Heap, K.In base → base.Ns mainGlobals mg → FnG P w K mg base k fa fd [x] cl) (hg : s₁.gens = #[]) (hr : Room k callerA) (hbind : ∀ (s : Shared) (u : Value), BindsTo s fd ⟨[u], []⟩ [(x, u)])
    (hsp : ∃ S', cl [.scr ns] [] = some (.d (.bool true), S')) {H : Hp} (hO : Only H) (hS : SqL K H a (ns.map V.int)) (hok : HOk P w H s₁.heap) (hM : Mod K mg (hidT s₁.heap H)) :
    codeAny (model P w) callerA (.call (.ref fa) ⟨[.ref a], []⟩) (Done s₁) s₁ := by
  have e0 : Env0 P w K mg (hidT s₁.heap H) callerA [] s₁ H :=
    { frames := rfl, mod := hM, bs := fun b o e => of_hidT e, bsz := Nat.le_of_eq (hidT_size _ _), funs := trivial, frf := fun b hb => (by cases hb), hok := hok, bare := .of_eq hg }
  have run := (F _ hM.kin hM.glob).run callerA [] s₁ H ⟨[.ref a], []⟩ [.ref a] [.ref a] (fun v _ => v = .bl true) hr rfl e0 (hbind s₁ (.ref a)) (.cons rfl .nil) rfl (entry hS hsp)
  refine codeAny_mono run fun r s' h => ?_
  cases r with
  | error e => exact False.elim h
  | ok fl =>
  cases fl <;> first | exact False.elim h | skip
  obtain ⟨v, H', os, bare, un, hok', r', rfl⟩ := h
  have r' : _ = Value.bool true := r'
  subst r'
  refine ⟨rfl, OldK.of_keep fun b o e => ?_, os, bare⟩
  rcases hO b with z | ⟨ob, xs, z⟩
  · exact un.keep b o e z (fun hb => by cases hb) (by simp)
  · have e1 := (hok b _ z).1
    have e2 := (hok' b _ (un.frzs b ob _ z)).1
    rw [e] at e1; cases e1
    exact e2
/-- the same, whether the script is an object of the module or not -/
theorem law_g (KX : K.In s₁.heap) (hns : s₁.heap.Ns mainGlobals mg) (hb : s₁.heap.Ns builtinsNs mb) (hbb : ∀ x : Str, x ≠ "__name__" → mb x = bootBuiltins x) (hlim : s₁.heap.NoLimit) (hg : s₁.gens = #[])
    (ha : s₁.heap.get? a = some { cls := .type "list", data := .seq vs.toArray }) (hi : IntsAre vs ns) (hl : ns.length ≤ sizeLine) (hr : Room k callerA)
    (F : ∀ base : Heap, K.In base → base.Ns mainGlobals mg → FnG P w K mg base k fa fd [x] cl) (hbind : ∀ (s : Shared) (u : Value), BindsTo s fd ⟨[u], []⟩ [(x, u)]) (hsp : ∃ S', cl [.scr ns] [] = some (.d (.bool true), S')) :
    codeAny (model P w) callerA (.call (.ref fa) ⟨[.ref a], []⟩) (Done s₁) s₁ := by
  have rv := vals_ints hi
  -- over H, which holds the script at most
  have over : ∀ H : Hp, (∀ b, b ≠ a → H b = none) → (H a ≠ none → K.lookup a = none) → Only H → SqL K H a (ns.map V.int) → HOk P w H s₁.heap → codeAny (model P w) callerA (.call (.ref fa) ⟨[.ref a], []⟩) (Done s₁) s₁ := by
    intro H hA hK hO hS hok
    have nsOf : ∀ {b : Addr} {m : Str → Option Value}, s₁.heap.Ns b m → (hidT s₁.heap H).Ns b m := fun {b m} ⟨o, es, ep, e, d, r⟩ => by
      have hba : b ≠ a := fun z => by
        subst z
        rw [ha] at e; cases e
        cases d
      exact ⟨o, es, ep, hidT_get e (hA b hba), d, r⟩
    have kin : K.In (hidT s₁.heap H) := fun b o e => by
      refine hidT_get (KX b o e) (Classical.byContradiction fun z => ?_)
      have : b = a := Classical.byContradiction fun q => z (hA b q)
      subst this
      rw [hK z] at e; cases e
    refine call_over F hg hr hbind hsp hO hS hok ⟨kin, nsOf hns, ⟨mb, nsOf hb, hbb⟩, ?_⟩
    obtain ⟨mc, h1, h2⟩ := hlim
    exact ⟨mc, nsOf h1, h2⟩
  cases hk : K.lookup a with
  | some o =>
    have e := KX a o hk
    rw [ha] at e
    cases e
    exact over noH (fun _ _ => rfl) (fun z => absurd rfl z) (fun _ => .inl rfl) (.inr ⟨_, vs.toArray, _, hk, rfl, rfl, rfl, by rw [List.size_toArray, hi.length]; exact hl, by simpa using rv⟩) fun b u z => by cases z
  | none =>
    have at' : ∀ {b : Addr}, b ≠ a → (if b = a then some (HO.frz { cls := .type "list", data := .seq vs.toArray } (.lst (ns.map V.int))) else none) = none := fun h => if_neg h
    refine over (fun b => if b = a then some (.frz { cls := .type "list", data := .seq vs.toArray } (.lst (ns.map V.int))) else none) (fun b h => at' h) (fun _ => hk) (fun b => ?_) (.inl (.inr ⟨_, if_pos rfl⟩)) fun b u z => ?_
    · rcases Classical.em (b = a) with h | h
      · exact .inr ⟨_, _, if_pos h⟩
      · exact .inl (at' h)
    · rcases Classical.em (b = a) with h | h
      · subst h
        obtain rfl := Option.some.inj ((if_pos rfl).symm.trans z)
        exact ⟨ha, by rw [List.length_map]; exact hl, vs, _, rv, ha⟩
      · cases (if_neg h).symm.trans z
end
/-- the law's row: what is left is the text, as it stands behind the top, and the machine's answer at each script -/
theorem walk_pl {l : PySem.W.OpenLaw} {n k i : Nat} {q : Program} {loose : List Str} {XP : (Str → Option Value) → Heap → Prop} {YP : World → Heap → Prop} {d : DefRec} {T : Tab} {src : List Src} {D : Fn} {x : Str}
    (hn : l.most = some n) (hn2 : n ≤ sizeLine) (hdf : d.params.defaults = []) (hr : Room k callerA)
    (hD : T.fns[i]? = some D) (hdn : d.name = D.name) (hx : D.names.take D.np = [x])
    (F : ∀ (w : World) (mg : Str → Option Value) (fa : Addr) (h : Heap), YP w h → h.Ns mainGlobals mg → mg d.name = some (.ref fa) → ∃ K : PySem.W.Frag, K.In h ∧ Txt w K mg T src)
    (hsp : ∀ ns : List Int, ns.length ≤ n → (∀ z ∈ ns, Builtin.Int.intBits z ≤ 1048576) → ∃ S', callN T.fns k i [.scr ns] [] = some (.d (.bool true), S')) :
    PySem.W.WalkO q loose XP YP l.row.toRowW d [] fun f vs => PySem.call f vs := by
  refine Att.attach_callB hn hdf fun w s₀ s₁ mg mb fa o pm cd doc a vs ns G Y ho hd hcd hmg hobj hints hlen hbits hg => ?_
  obtain ⟨K, KX, tx⟩ := F w mg fa _ Y G.T.g hmg
  obtain ⟨s, fa', fd, h1, h2, h3, Fd⟩ := tx.def' i D hD
  rw [hdn, h3] at hmg
  obtain rfl : fa' = fa := by cases hmg; rfl
  have c := ckFn_ok h2
  have hb : ∀ (s : Shared) (u : Value), BindsTo s fd ⟨[u], []⟩ [(x, u)] := fun s' u => by
    have := Fd.bindsA (ps := D.names.take D.np) (fun kV doc pm an cdv ct us hl => ?_) s' [u] (by rw [hx]; rfl)
    · rw [hx] at this
      exact this
    · have := bind_plain (name := D.name) (qual := s.qual) (as := s.as) (body := s.body) (scope := s.scope) (kV := kV) (doc := doc) (pm := pm) (an := an) (cdv := cdv) (ct := ct) (us := us) (by rw [c.ar]; exact c.sc.nd.sublist (List.take_sublist _ _)) (by rw [c.ar]; exact hl)
      rw [c.ar] at this
      exact this
  refine law_g KX G.T.g G.T.b G.T.builtins G.T.nolimit hg hobj hints (Nat.le_trans hlen hn2) hr (fun base kb nb => ?_) hb (hsp ns hlen hbits)
  cases k with
  | zero =>
    obtain ⟨S', e⟩ := hsp ns hlen hbits
    cases e
  | succ k =>
    have := fnG_step (P := l.prog) (w := w) (base := base) tx (fnG_all tx k) hD h2 Fd
    rw [hx] at this
    exact this
end PL
end
section
set_option maxHeartbeats 4000000
namespace PL
open PySem PySem.Spec PyProof.Rows L2
/-! ### what the top leaves: facts by names -/
mutual
/-- a value of the module is this datum, and never changes -/
def datB (K : PySem.W.Frag) : D → Value → Bool
  | .none, .none => true
  | .bool b, .bool c => b == c
  | .int i, .int j _ => decide (i = j)
  | .str x, .str y _ => decide (x = y)
  | .tuple ds, .ref a => (match K.lookup a with
    | some ⟨.type c, _, .seq its _, _⟩ => decide (c = "tuple") && decide (its.size ≤ sizeLine) && datsB K ds its.toList
    | _ => false)
  | _, _ => false
def datsB (K : PySem.W.Frag) : List D → List Value → Bool
  | [], [] => true
  | d :: ds, u :: us => datB K d u && datsB K ds us
  | _, _ => false
end
mutual
theorem datB_ok {K : PySem.W.Frag} : ∀ (d : D) (u : Value), datB K d u = true → ∃ v, RelV v u ∧ ∀ G, DV K G v d
  | .none, u, h => by
    cases u <;> first | exact ⟨.non, rfl, fun _ => .non⟩ | (simp [datB] at h; done)
  | .bool b, u, h => by
    cases u <;> first | (simp [datB] at h; done) | skip
    rename_i c
    have : b = c := by simpa [datB] using h
    subst this
    exact ⟨.bl b, rfl, fun _ => .bl b⟩
  | .int i, u, h => by
    cases u <;> first | (simp [datB] at h; done) | skip
    rename_i j t
    have : i = j := by simpa [datB] using h
    subst this
    exact ⟨.int i, ⟨t, rfl⟩, fun _ => .int i⟩
  | .str x, u, h => by
    cases u <;> first | (simp [datB] at h; done) | skip
    rename_i y t
    have : x = y := by simpa [datB] using h
    subst this
    exact ⟨.str x, ⟨t, rfl⟩, fun _ => .str x⟩
  | .tuple ds, u, h => by
    cases u <;> first | (simp [datB] at h; done) | skip
    rename_i a
    rw [datB] at h
    split at h
    · rename_i c od its n sl q
      simp only [Bool.and_eq_true, decide_eq_true_eq] at h
      obtain ⟨⟨rfl, h2⟩, h3⟩ := h
      obtain ⟨vs, r, e⟩ := datsB_ok ds its.toList h3
      exact ⟨.ref a, rfl, fun G => .tup (.inr ⟨_, its, n, q, rfl, rfl, h2, r⟩) (e G)⟩
    · cases h
  | .list _, u, h => by simp [datB] at h
  | .dict _, u, h => by simp [datB] at h
theorem datsB_ok {K : PySem.W.Frag} : ∀ (ds : List D) (us : List Value), datsB K ds us = true → ∃ vs, Vals vs us ∧ ∀ G, DVs K G vs ds
  | [], us, h => by
    cases us with
    | nil => exact ⟨[], .nil, fun _ => .nil⟩
    | cons _ _ => simp [datsB] at h
  | d :: ds, us, h => by
    cases us with
    | nil => simp [datsB] at h
    | cons u us =>
      simp only [datsB, Bool.and_eq_true] at h
      obtain ⟨v, r1, e1⟩ := datB_ok d u h.1
      obtain ⟨vs, r2, e2⟩ := datsB_ok ds us h.2
      exact ⟨v :: vs, .cons r1 r2, fun G => .cons (e1 G) (e2 G)⟩
end
/-- a written dict's rows -/
def rowsB (K : PySem.W.Frag) : List DictEntry → List (Str × D) → Bool
  | [], [] => true
  | e :: r, p :: t => (match e.key with
      | .str x _ => decide (x = p.1)
      | _ => false) && datB K p.2 e.val && rowsB K r t
  | _, _ => false
theorem rows_look {K : PySem.W.Frag} (z : Str) : ∀ (es : List DictEntry) (tab : List (Str × D)), rowsB K es tab = true → es.any (·.refKey) = false ∧ match tab.lookup z with
    | some d => ∃ e v, es.find? (·.key.isStr z) = some e ∧ RelV v e.val ∧ ∀ G, DV K G v d
    | none => es.find? (·.key.isStr z) = none
  | [], [], _ => ⟨rfl, rfl⟩
  | [], _ :: _, h => by simp [rowsB] at h
  | _ :: _, [], h => by simp [rowsB] at h
  | e :: r, p :: t, h => by
    simp only [rowsB, Bool.and_eq_true] at h
    obtain ⟨⟨h1, h2⟩, h3⟩ := h
    obtain ⟨i1, i2⟩ := rows_look z r t h3
    split at h1
    · rename_i x tk ek
      have hx : x = p.1 := of_decide_eq_true h1
      have hr : e.refKey = false := by unfold DictEntry.refKey; rw [ek]
      refine ⟨by rw [List.any_cons, hr, i1]; rfl, ?_⟩
      obtain ⟨y, d⟩ := p
      have hs : e.key.isStr z = (x == z) := by rw [ek]; rfl
      rw [List.lookup_cons, List.find?_cons, hs]
      by_cases hz : z = y
      · have hx : x = y := hx
        subst hz
        subst hx
        obtain ⟨v, r1, r2⟩ := datB_ok d e.val h2
        rw [beq_self_eq_true]
        exact ⟨e, v, rfl, r1, r2⟩
      · have hx : x = y := hx
        subst hx
        have e1 : (z == x) = false := by simpa using hz
        have e2 : (x == z) = false := by simpa using fun q => hz (Eq.symm q)
        rw [e1, e2]
        exact i2
    · cases h1
def exB (T : Tab) (K : PySem.W.Frag) : Bool := (T.gl.all fun p => match PySem.W.nsIn K mainGlobals p.1 with
    | some (some u) => datB K p.2 u
    | _ => false) && (T.gd.all fun p => He.eqO (PySem.W.nsIn K mainGlobals p.1) (some (some (.ref (He.ga K p.1)))) && (match K.lookup (He.ga K p.1) with
    | some ⟨_, _, .dict es _, _⟩ => rowsB K es.toList p.2
    | _ => false))
def faOf (T : Tab) : List He.Fa := freeNames.map He.Fa.free ++ T.fns.map fun d => He.Fa.glo d.name
def fnOf' (p : Fn × Src) : He.DefD := ⟨(p.1.name, none), p.1.name, p.2.qual, p.2.pars, p.2.body, p.2.scope, [], []⟩
def fnsOf (T : Tab) (src : List Src) : List He.DefD := (T.fns.zip src).map fnOf'
def tsOf (T : Tab) : List He.Tab := T.gd.map fun p => ((fun K => He.ga K p.1), p.2.map (·.1))
theorem txt_of {T : Tab} {src : List Src} {w : World} {K : PySem.W.Frag} {h : Heap} {mg : Str → Option Value} (X : K.In h) (G : h.Ns mainGlobals mg) (c : He.SaysX (faOf T) (fnsOf T src) (tsOf T) [] (exB T) w h K)
    (hck : (T.fns.zip src).all (fun p => ckFn T p.1 p.2) = true) (hl : T.fns.length = src.length) : Txt w K mg T src := by
  have cd := c.t.d
  have cm := c.more
  unfold exB at cm
  rw [Bool.and_eq_true, List.all_eq_true, List.all_eq_true] at cm
  obtain ⟨cg, cdi⟩ := cm
  refine ⟨fun x hx => ?_, fun p hp => ?_, fun p hp => ?_, fun f d hf => ?_⟩
  · exact He.free_ok X G (cd.facts (List.mem_append_left _ (List.mem_map_of_mem hx)))
  · have := cg p hp
    split at this
    · rename_i u q
      obtain ⟨v, r, e⟩ := datB_ok _ _ this
      exact ⟨u, v, PySem.W.mg_of X G q, r, e⟩
    · cases this
  · have h1 := cdi p hp
    rw [Bool.and_eq_true] at h1
    obtain ⟨h1, h2⟩ := h1
    obtain ⟨i, hi, e⟩ := List.mem_iff_getElem.mp hp
    obtain ⟨es, n, kd⟩ := c.t.tab i (t := ((fun K => He.ga K p.1), p.2.map (·.1))) (by
      unfold tsOf
      rw [List.getElem?_map, List.getElem?_eq_getElem hi, e]
      rfl)
    refine ⟨He.ga K p.1, PySem.W.mg_of X G (He.eqO_ok h1), es, n, kd.1, kd.2, kd.3, fun z => ?_⟩
    have hk : K.lookup (He.ga K p.1) = some ⟨.type "dict", none, .dict es n, #[]⟩ := kd.1
    rw [hk] at h2
    obtain ⟨a1, a2⟩ := rows_look z es.toList p.2 h2
    unfold PySem.W.nsIn
    rw [hk]
    dsimp only
    cases q : p.2.lookup z with
    | none =>
      rw [q] at a2
      have a2 : es.toList.find? (·.key.isStr z) = none := a2
      rw [a2]
      dsimp only
      rw [a1]
      exact ⟨none, rfl, rfl⟩
    | some dd =>
      rw [q] at a2
      obtain ⟨e, v, b1, b2, b3⟩ := a2
      rw [b1]
      exact ⟨some e.val, rfl, e.val, v, rfl, b2, b3⟩
  · have hlt : f < T.fns.length := (List.getElem?_eq_some_iff.mp hf).1
    have hs : f < src.length := by rw [← hl]; exact hlt
    have hz : (d, src[f]) ∈ T.fns.zip src := by
      refine List.mem_iff_getElem.mpr ⟨f, by rw [List.length_zip]; exact Nat.lt_min.mpr ⟨hlt, hs⟩, ?_⟩
      rw [List.getElem_zip]
      rw [List.getElem?_eq_getElem hlt] at hf
      rw [Option.some.inj hf]
    obtain ⟨fd, F⟩ := cd.defs (d := fnOf' (d, src[f])) (List.mem_map_of_mem hz)
    exact ⟨src[f], _, fd, List.getElem?_eq_getElem hs, List.all_eq_true.mp hck _ hz, He.glo_ok X G (cd.facts (List.mem_append_right _ (List.mem_map_of_mem (f := fun d : Fn => He.Fa.glo d.name) (List.mem_of_getElem? hf)))), F⟩
end PL
end
section
set_option maxHeartbeats 2000000
namespace PL
open PySem PySem.Spec PyProof.Rows L2
/-! what an evaluation leads to, asked from behind -/
def WE (cl : Cl) (e : E) (L : Loc) (S : Sto) (Q : R → Sto → Prop) : Prop := ∃ r S', evE cl e L S = some (r, S') ∧ Q r S'
def WEs (cl : Cl) (e : Es) (L : Loc) (S : Sto) (Q : List R → Sto → Prop) : Prop := ∃ r S', evEs cl e L S = some (r, S') ∧ Q r S'
def WB (cl : Cl) (k : Bool) (e : Es) (x : R) (L : Loc) (S : Sto) (Q : R → Sto → Prop) : Prop := ∃ r S', evB cl k e x L S = some (r, S') ∧ Q r S'
def WT (cl : Cl) (e : Es) (L : Loc) (S : Sto) (Q : Bool → Sto → Prop) : Prop := ∃ r S', evT cl e L S = some (r, S') ∧ Q r S'
def WO (cl : Cl) (e : O) (L : Loc) (S : Sto) (Q : Option Int → Sto → Prop) : Prop := ∃ r S', evO cl e L S = some (r, S') ∧ Q r S'
def WI (cl : Cl) (e : It') (L : Loc) (S : Sto) (Q : List D → Lk → Sto → Prop) : Prop := ∃ ds lk S', evI cl e L S = some (ds, lk, S') ∧ Q ds lk S'
def WS (cl : Cl) (e : List Sx) (L : Loc) (S : Sto) (Q : Fl → Loc → Sto → Prop) : Prop := ∃ f L' S', evSs cl e L S = some (f, L', S') ∧ Q f L' S'
/-- a call leads to Q -/
def WK (cl : Cl) (f : Nat) (rs : List R) (S : Sto) (Q : R → Sto → Prop) : Prop := ∃ r S', cl f rs S = some (r, S') ∧ Q r S'
theorem wk_eq {cl : Cl} {f : Nat} {rs : List R} {S S' : Sto} {r : R} {Q : R → Sto → Prop} (e : cl f rs S = some (r, S')) (q : Q r S') : WK cl f rs S Q := ⟨r, S', e, q⟩
def thenQ (cl : Cl) (rest : List Sx) (Q : Fl → Loc → Sto → Prop) : Fl → Loc → Sto → Prop
  | .nx, L, S => WS cl rest L S Q
  | f, L, S => Q f L S
/-- a loop's turn -/
def lapT (cl : Cl) (tg : Tg) (b : List Sx) : D → Loc → Sto → Option (Fl × Loc × Sto) := fun d L S => okOr (bindT tg d L) fun L' => evSs cl b L' S
/-- a comprehension's turn -/
def turn (cl : Cl) (own : List Nat) (tg : Tg) (cs : Es) (e : E) (L : Loc) : D → Sto → Option (Option D × Sto) := fun d S => okOr (bindT tg d (wipeL L own)) fun L' => okOr (evT cl cs L' S) fun (b, S') => match b with
  | true => okOr (evE cl e L' S') fun (y, S2) => okOr (asD y) fun y => some (some y, S2)
  | false => some (none, S')
/-- a comprehension's turns lead to Q -/
def WL (lk : Lk) (t : D → Sto → Option (Option D × Sto)) (ds : List D) (S : Sto) (Q : List D → Sto → Prop) : Prop := ∃ ys S2, loopM lk t ds [] S = some (ys, S2) ∧ Q ys S2
/-- a loop's turns lead to Q -/
def WF (lk : Lk) (t : D → Loc → Sto → Option (Fl × Loc × Sto)) (ds : List D) (L : Loc) (S : Sto) (Q : Fl → Loc → Sto → Prop) : Prop := ∃ g L2 S2, forM' lk t ds L S = some (g, L2, S2) ∧ Q g L2 S2
section
variable {cl : Cl} {L : Loc} {S : Sto} {rest a' b' : List Sx} {i f : Nat} {e a b d k v c : E} {es cs : Es} {op : Operator} {cp cq : CmpOp} {QE : R → Sto → Prop} {QS : Fl → Loc → Sto → Prop} {QEs : List R → Sto → Prop} {own : List Nat} {tg : Tg} {it : It'}
theorem WE.mono {Q' : R → Sto → Prop} (h : WE cl e L S QE) (m : ∀ r S', QE r S' → Q' r S') : WE cl e L S Q' := let ⟨r, S', q, p⟩ := h; ⟨r, S', q, m _ _ p⟩
theorem WS.mono {Q' : Fl → Loc → Sto → Prop} (h : WS cl rest L S QS) (m : ∀ r L' S', QS r L' S' → Q' r L' S') : WS cl rest L S Q' := let ⟨r, L', S', q, p⟩ := h; ⟨r, L', S', q, m _ _ _ p⟩
theorem we_eq {r : R} {S' : Sto} (h : evE cl e L S = some (r, S')) (q : QE r S') : WE cl e L S QE := ⟨r, S', h, q⟩
theorem we_loc {r : R} (h : L[i]? = some (some r)) (q : QE r S) : WE cl (.loc i) L S QE := ⟨r, S, by rw [evE, h], q⟩
theorem we_int {n : Int} (q : QE (.d (.int n)) S) : WE cl (.int n) L S QE := ⟨_, S, by rw [evE], q⟩
theorem we_str {n : Str} (q : QE (.d (.str n)) S) : WE cl (.str n) L S QE := ⟨_, S, by rw [evE], q⟩
theorem we_bl {n : Bool} (q : QE (.d (.bool n)) S) : WE cl (.bl n) L S QE := ⟨_, S, by rw [evE], q⟩
theorem we_non (q : QE (.d .none) S) : WE cl .non L S QE := ⟨_, S, by rw [evE], q⟩
theorem we_gd {x : Str} {n : D} (q : QE (.d n) S) : WE cl (.gd x n) L S QE := ⟨_, S, by rw [evE], q⟩
theorem we_bin (h : WE cl a L S fun x S1 => WE cl b L S1 fun y S2 => ∃ g w, gBin op = some g ∧ bin2 g x y S2 = some w ∧ QE (.d w) S2) : WE cl (.bin op a b) L S QE := by
  obtain ⟨x, S1, h1, y, S2, h2, g, w, h3, h4, q⟩ := h
  exact ⟨_, _, by simp only [evE, h1, h2, h3, h4, okOr], q⟩
theorem we_cmp (h : WE cl a L S fun x S1 => WE cl b L S1 fun y S2 => ∃ w, bin2 (gCmp cp) x y S2 = some w ∧ QE (.d w) S2) : WE cl (.cmp cp a b) L S QE := by
  obtain ⟨x, S1, h1, y, S2, h2, w, h4, q⟩ := h
  exact ⟨_, _, by simp only [evE, h1, h2, h4, okOr], q⟩
theorem we_cmp2 (h : WE cl a L S fun x S1 => WE cl b L S1 fun y S2 => ∃ w, bin2 (gCmp cp) x y S2 = some (.bool w) ∧ (w = true → WE cl c L S2 fun z S3 => ∃ u, bin2 (gCmp cq) y z S3 = some u ∧ QE (.d u) S3) ∧ (w = false → QE (.d (.bool false)) S2)) : WE cl (.cmp2 cp cq a b c) L S QE := by
  obtain ⟨x, S1, h1, y, S2, h2, w, h4, qt, qf⟩ := h
  cases w with
  | false => exact ⟨_, _, by simp only [evE, h1, h2, h4, okOr], qf rfl⟩
  | true =>
    obtain ⟨z, S3, h5, u, h6, q⟩ := qt rfl
    exact ⟨_, _, by simp only [evE, h1, h2, h4, h5, h6, okOr], q⟩
theorem we_bop {k : Bool} (h : WE cl a L S fun x S1 => WB cl k es x L S1 QE) : WE cl (.bop k a es) L S QE := by
  obtain ⟨x, S1, h1, y, S2, h2, q⟩ := h
  exact ⟨_, _, by simp only [evE, h1, h2, okOr], q⟩
theorem wb_nil {k : Bool} {x : R} (q : QE x S) : WB cl k .nil x L S QE := ⟨_, _, by rw [evB], q⟩
theorem wb_cons {k : Bool} {x : R} (h : ∃ t, truth x S = some t ∧ (t = k → WE cl e L S fun y S1 => WB cl k es y L S1 QE) ∧ (t = !k → QE x S)) : WB cl k (.cons e es) x L S QE := by
  obtain ⟨t, h1, h2, h3⟩ := h
  by_cases ht : t = k
  · obtain ⟨y, S1, h4, z, S2, h5, q⟩ := h2 ht
    exact ⟨_, _, by simp only [evB, h1, h4, h5, okOr, if_pos ht], q⟩
  · exact ⟨_, _, by simp only [evB, h1, okOr, if_neg ht], h3 (by cases t <;> cases k <;> simp_all)⟩
theorem we_not (h : WE cl a L S fun x S1 => ∃ t, truth x S1 = some t ∧ QE (.d (.bool (!t))) S1) : WE cl (.not a) L S QE := by
  obtain ⟨x, S1, h1, t, h2, q⟩ := h
  exact ⟨_, _, by simp only [evE, h1, h2, okOr], q⟩
theorem we_neg (h : WE cl a L S fun x S1 => ∃ w, un1 gNeg x S1 = some w ∧ QE (.d w) S1) : WE cl (.neg a) L S QE := by
  obtain ⟨x, S1, h1, t, h2, q⟩ := h
  exact ⟨_, _, by simp only [evE, h1, h2, okOr], q⟩
theorem we_ite (h : WE cl c L S fun x S1 => ∃ t, truth x S1 = some t ∧ (t = true → WE cl a L S1 QE) ∧ (t = false → WE cl b L S1 QE)) : WE cl (.ite c a b) L S QE := by
  obtain ⟨x, S1, h1, t, h2, q1, q2⟩ := h
  cases t with
  | true => obtain ⟨y, S2, h3, q⟩ := q1 rfl; exact ⟨_, _, by simp only [evE, h1, h2, h3, okOr], q⟩
  | false => obtain ⟨y, S2, h3, q⟩ := q2 rfl; exact ⟨_, _, by simp only [evE, h1, h2, h3, okOr], q⟩
theorem we_tup (h : WEs cl es L S fun rs S1 => ∃ ds, asDs rs = some ds ∧ ds.length ≤ sizeLine ∧ QE (.d (.tuple ds)) S1) : WE cl (.tup es) L S QE := by
  obtain ⟨x, S1, h1, ds, h2, h3, q⟩ := h
  exact ⟨_, _, by simp only [evE, h1, h2, okOr, if_pos h3], q⟩
theorem we_lst (h : WEs cl es L S fun rs S1 => ∃ ds, asDs rs = some ds ∧ ds.length ≤ sizeLine ∧ QE (.d (.list ds)) S1) : WE cl (.lst es) L S QE := by
  obtain ⟨x, S1, h1, ds, h2, h3, q⟩ := h
  exact ⟨_, _, by simp only [evE, h1, h2, okOr, if_pos h3], q⟩
theorem we_lstR (h : WEs cl es L S fun rs S1 => ∃ ds, asDs rs = some ds ∧ ds.length ≤ sizeLine ∧ QE (.ref S1.length) (S1 ++ [.lst ds])) : WE cl (.lstR es) L S QE := by
  obtain ⟨x, S1, h1, ds, h2, h3, q⟩ := h
  exact ⟨_, _, by simp only [evE, h1, h2, okOr, if_pos h3], q⟩
theorem we_dic0 (q : QE (.ref S.length) (S ++ [.dic []])) : WE cl .dic0 L S QE := ⟨_, _, by rw [evE], q⟩
theorem we_dic {ks : List Str} (h : WEs cl es L S fun rs S1 => ∃ ds, asDs rs = some ds ∧ (ds.length = ks.length ∧ ks.length ≤ 15 ∧ ks ≠ []) ∧ QE (.ref S1.length) (S1 ++ [.dic (putS [] ks ds)])) : WE cl (.dic ks es) L S QE := by
  obtain ⟨x, S1, h1, ds, h2, h3, q⟩ := h
  exact ⟨_, _, by simp only [evE, h1, h2, okOr, if_pos h3], q⟩
theorem we_ix (h : WE cl a L S fun x S1 => WE cl b L S1 fun y S2 => ∃ w, ixR x y S2 = some w ∧ QE (.d w) S2) : WE cl (.ix a b) L S QE := by
  obtain ⟨x, S1, h1, y, S2, h2, w, h4, q⟩ := h
  exact ⟨_, _, by simp only [evE, h1, h2, h4, okOr], q⟩
theorem we_sl {lo hi : O} (h : WE cl a L S fun x S1 => WO cl lo L S1 fun l S2 => WO cl hi L S2 fun h S3 => ∃ w, slR x l h S3 = some w ∧ QE (.d w) S3) : WE cl (.sl a lo hi) L S QE := by
  obtain ⟨x, S1, h1, y, S2, h2, z, S3, h3, w, h4, q⟩ := h
  exact ⟨_, _, by simp only [evE, h1, h2, h3, h4, okOr], q⟩
theorem wo_no {Q : Option Int → Sto → Prop} (q : Q none S) : WO cl .no L S Q := ⟨_, _, by rw [evO], q⟩
theorem wo_so {Q : Option Int → Sto → Prop} (h : WE cl e L S fun x S1 => ∃ i, x = .d (.int i) ∧ Q (some i) S1) : WO cl (.so e) L S Q := by
  obtain ⟨x, S1, h1, i, rfl, q⟩ := h
  exact ⟨_, _, by simp only [evO, h1, okOr], q⟩
theorem we_bi {t : Bi} (h : WE cl a L S fun x S1 => ∃ w, un1 t.fn x S1 = some w ∧ QE (.d w) S1) : WE cl (.bi t a) L S QE := by
  obtain ⟨x, S1, h1, t, h2, q⟩ := h
  exact ⟨_, _, by simp only [evE, h1, h2, okOr], q⟩
theorem we_isi {t : Ty} (h : WE cl a L S fun x S1 => ∃ w, view x S1 = some w ∧ QE (.d (.bool (isTy t w))) S1) : WE cl (.isi t a) L S QE := by
  obtain ⟨x, S1, h1, t, h2, q⟩ := h
  exact ⟨_, _, by simp only [evE, h1, un1, h2, okOr], q⟩
theorem we_call (h : WEs cl es L S fun rs S1 => WK cl f rs S1 QE) : WE cl (.call f es) L S QE := by
  obtain ⟨x, S1, h1, r, S2, h2, q⟩ := h
  exact ⟨_, _, by simp only [evE, h1, h2, okOr], q⟩
theorem we_callK {x : Str} (h : WE cl e L S fun r S1 => WK cl f [r] S1 QE) : WE cl (.callK f x e) L S QE := by
  obtain ⟨x, S1, h1, r, S2, h2, q⟩ := h
  exact ⟨_, _, by simp only [evE, h1, h2, okOr], q⟩
theorem we_comp (h : WI cl it L S fun ds lk S1 => lockB lk S1 = true ∧ WL lk (turn cl own tg cs e L) ds S1 fun ys S2 => QE (.d (.list ys)) S2) : WE cl (.comp own tg it cs e) L S QE := by
  obtain ⟨ds, lk, S1, h1, h2, ys, S2, h3, q⟩ := h
  refine ⟨_, _, ?_, q⟩
  rw [evE, h1]
  show guardB (lockB lk S1) (okOr (loopM lk (turn cl own tg cs e L) ds [] S1) _) = _
  rw [h2, h3]; rfl
theorem we_compR (h : WI cl it L S fun ds lk S1 => lockB lk S1 = true ∧ WL lk (turn cl own tg cs e L) ds S1 fun ys S2 => QE (.ref S2.length) (S2 ++ [.lst ys])) : WE cl (.compR own tg it cs e) L S QE := by
  obtain ⟨ds, lk, S1, h1, h2, ys, S2, h3, q⟩ := h
  refine ⟨_, _, ?_, q⟩
  rw [evE, h1]
  show guardB (lockB lk S1) (okOr (loopM lk (turn cl own tg cs e L) ds [] S1) _) = _
  rw [h2, h3]; rfl
theorem we_get2 (h : WE cl d L S fun x S1 => isDic x S1 = true ∧ WE cl k L S1 fun y S2 => WE cl e L S2 fun z S3 => ∃ r, get2R x y z S3 = some r ∧ QE r S3) : WE cl (.get2 d k e) L S QE := by
  obtain ⟨x, S1, h1, h0, y, S2, h2, z, S3, h3, w, h4, q⟩ := h
  exact ⟨_, _, by simp only [evE, h1, h0, h2, h3, h4, okOr, guardB], q⟩
theorem we_app (h : WE cl a L S fun x S1 => isLst x S1 = true ∧ WE cl e L S1 fun y S2 => ∃ S3, appR x y S2 = some S3 ∧ QE (.d .none) S3) : WE cl (.app a e) L S QE := by
  obtain ⟨x, S1, h1, h0, y, S2, h2, w, h4, q⟩ := h
  exact ⟨_, _, by simp only [evE, h1, h0, h2, h4, okOr, guardB], q⟩
theorem we_ext (h : WE cl a L S fun x S1 => isLst x S1 = true ∧ WE cl e L S1 fun y S2 => ∃ S3, extR x y S2 = some S3 ∧ QE (.d .none) S3) : WE cl (.ext a e) L S QE := by
  obtain ⟨x, S1, h1, h0, y, S2, h2, w, h4, q⟩ := h
  exact ⟨_, _, by simp only [evE, h1, h0, h2, h4, okOr, guardB], q⟩
theorem we_join (h : WE cl a L S fun x S1 => isS x = true ∧ WE cl e L S1 fun y S2 => ∃ w, bin2 gJoin x y S2 = some w ∧ QE (.d w) S2) : WE cl (.join a e) L S QE := by
  obtain ⟨x, S1, h1, h0, y, S2, h2, w, h4, q⟩ := h
  exact ⟨_, _, by simp only [evE, h1, h0, h2, h4, okOr, guardB], q⟩
theorem we_gget {x : Str} {tab : List (Str × D)} (h : WE cl k L S fun y S1 => ∃ w, getTab tab y = some w ∧ QE (.d w) S1) : WE cl (.gget x tab k) L S QE := by
  obtain ⟨x, S1, h1, w, h4, q⟩ := h
  exact ⟨_, _, by simp only [evE, h1, h4, okOr], q⟩
theorem we_gget2 {x : Str} {tab : List (Str × D)} (h : WE cl k L S fun y S1 => WE cl e L S1 fun z S2 => ∃ w, getTab2 tab y z = some w ∧ QE (.d w) S2) : WE cl (.gget2 x tab k e) L S QE := by
  obtain ⟨y, S1, h1, z, S2, h2, w, h4, q⟩ := h
  exact ⟨_, _, by simp only [evE, h1, h2, h4, okOr], q⟩
theorem we_gix {x : Str} {tab : List (Str × D)} (h : WE cl k L S fun y S1 => ∃ w, ixTab tab y = some w ∧ QE (.d w) S1) : WE cl (.gix x tab k) L S QE := by
  obtain ⟨x, S1, h1, w, h4, q⟩ := h
  exact ⟨_, _, by simp only [evE, h1, h4, okOr], q⟩
theorem we_gin {neg : Bool} {x : Str} {tab : List (Str × D)} (h : WE cl k L S fun y S1 => ∃ w, inTab tab y = some w ∧ QE (.d (.bool (if neg = true then !w else w))) S1) : WE cl (.gin neg x tab k) L S QE := by
  obtain ⟨x, S1, h1, w, h4, q⟩ := h
  exact ⟨_, _, by simp only [evE, h1, h4, okOr], q⟩
theorem we_sset (h : WE cl a L S fun x S1 => ∃ w, un1 gSSet x S1 = some w ∧ QE (.d w) S1) : WE cl (.sset a) L S QE := by
  obtain ⟨x, S1, h1, w, h4, q⟩ := h
  exact ⟨_, _, by simp only [evE, h1, h4, okOr], q⟩
theorem we_reprL (h : WEs cl es L S fun rs S1 => ∃ ds, viewAll rs S1 = some ds ∧ ds.length ≤ sizeLine ∧ ∃ w, gRepr (.list ds) = some w ∧ QE (.d w) S1) : WE cl (.reprL es) L S QE := by
  obtain ⟨rs, S1, e, ds, h1, h2, w, h3, q⟩ := h
  exact ⟨_, _, by rw [evE, e]; simp only [okOr, h1, if_pos h2, h3], q⟩
theorem we_rev (h : WE cl a L S fun x S1 => ∃ w, un1 gRev x S1 = some w ∧ QE (.d w) S1) : WE cl (.rev a) L S QE := by
  obtain ⟨x, S1, h1, w, h4, q⟩ := h
  exact ⟨_, _, by simp only [evE, h1, h4, okOr], q⟩
theorem we_sortd (h : WE cl a L S fun x S1 => ∃ w, gSortD x S1 = some w ∧ QE (.d w) S1) : WE cl (.sortd a) L S QE := by
  obtain ⟨x, S1, h1, w, h4, q⟩ := h
  exact ⟨_, _, by simp only [evE, h1, h4, okOr], q⟩
theorem wes_nil (q : QEs [] S) : WEs cl .nil L S QEs := ⟨_, _, by rw [evEs], q⟩
theorem wes_cons (h : WE cl e L S fun x S1 => WEs cl es L S1 fun xs S2 => QEs (x :: xs) S2) : WEs cl (.cons e es) L S QEs := by
  obtain ⟨x, S1, h1, xs, S2, h2, q⟩ := h
  exact ⟨_, _, by simp only [evEs, h1, h2, okOr], q⟩
theorem wt_nil {Q : Bool → Sto → Prop} (q : Q true S) : WT cl .nil L S Q := ⟨_, _, by rw [evT], q⟩
theorem wt_one {Q : Bool → Sto → Prop} (h : WE cl e L S fun x S1 => ∃ t, truth x S1 = some t ∧ Q t S1) : WT cl (.cons e .nil) L S Q := by
  obtain ⟨x, S1, h1, t, h2, q⟩ := h
  exact ⟨_, _, by simp only [evT, h1, h2, okOr], q⟩
/-- what is walked -/
def WQ (x : R) (S1 : Sto) (Q : List D → Lk → Sto → Prop) : Prop := (∃ xs, (x = .d (.list xs) ∨ x = .d (.tuple xs) ∨ ∃ z, x = .d (.str z) ∧ xs = signs z) ∧ Q xs none S1) ∨ ∃ n xs, x = .ref n ∧ S1[n]? = some (.lst xs) ∧ Q xs (some (n, xs)) S1
def WN (x : R) (Q : List D → Prop) : Prop := ∃ xs, (x = .d (.list xs) ∨ x = .d (.tuple xs) ∨ ∃ z, x = .d (.str z) ∧ xs = signs z) ∧ Q xs
def WZ (x y : R) (Q : List D → List D → Prop) : Prop := ∃ xs ys, ((x = .d (.list xs) ∧ y = .d (.list ys)) ∨ (x = .d (.tuple xs) ∧ y = .d (.tuple ys))) ∧ Q xs ys
theorem wi_seq {Q : List D → Lk → Sto → Prop} (h : WE cl e L S fun x S1 => WQ x S1 Q) : WI cl (.seq e) L S Q := by
  obtain ⟨x, S1, h1, ⟨xs, rfl | rfl | ⟨z, rfl, rfl⟩, q⟩ | ⟨n, xs, rfl, h2, q⟩⟩ := h
  · exact ⟨_, _, _, by simp only [evI, h1, okOr], q⟩
  · exact ⟨_, _, _, by simp only [evI, h1, okOr], q⟩
  · exact ⟨_, _, _, by simp only [evI, h1, okOr], q⟩
  · exact ⟨_, _, _, by simp only [evI, h1, h2, okOr], q⟩
theorem wi_rng {Q : List D → Lk → Sto → Prop} (h : WE cl e L S fun x S1 => ∃ i, x = .d (.int i) ∧ (-(2 ^ 62) ≤ i ∧ i < 2 ^ 62) ∧ Q (rngD i) none S1) : WI cl (.rng e) L S Q := by
  obtain ⟨x, S1, h1, i, rfl, h2, q⟩ := h
  exact ⟨_, _, _, by simp only [evI, h1, okOr, if_pos h2], q⟩
theorem wi_rng2 {Q : List D → Lk → Sto → Prop} (h : WE cl a L S fun x S1 => WE cl b L S1 fun y S2 => ∃ i j, x = .d (.int i) ∧ y = .d (.int j) ∧ (-(2 ^ 62) ≤ i ∧ i < 2 ^ 62 ∧ -(2 ^ 62) ≤ j ∧ j < 2 ^ 62) ∧ Q (rng2D i j) none S2) : WI cl (.rng2 a b) L S Q := by
  obtain ⟨x, S1, h1, y, S2, h2, i, j, rfl, rfl, h3, q⟩ := h
  exact ⟨_, _, _, by simp only [evI, h1, h2, okOr, if_pos h3], q⟩
theorem wi_zip {Q : List D → Lk → Sto → Prop} (h : WE cl a L S fun x S1 => WE cl b L S1 fun y S2 => WZ x y fun xs ys => Q (zipD xs ys) none S2) : WI cl (.zip a b) L S Q := by
  obtain ⟨x, S1, h1, y, S2, h2, xs, ys, ⟨rfl, rfl⟩ | ⟨rfl, rfl⟩, q⟩ := h
  · exact ⟨_, _, _, by simp only [evI, h1, h2, okOr], q⟩
  · exact ⟨_, _, _, by simp only [evI, h1, h2, okOr], q⟩
theorem wi_enm {Q : List D → Lk → Sto → Prop} (h : WE cl a L S fun x S1 => WN x fun xs => Q (enumD 0 xs) none S1) : WI cl (.enm a) L S Q := by
  obtain ⟨x, S1, h1, xs, rfl | rfl | ⟨z, rfl, rfl⟩, q⟩ := h
  · exact ⟨_, _, _, by simp only [evI, h1, okOr], q⟩
  · exact ⟨_, _, _, by simp only [evI, h1, okOr], q⟩
  · exact ⟨_, _, _, by simp only [evI, h1, okOr], q⟩
/-! statements -/
theorem ws_nil (q : QS .nx L S) : WS cl [] L S QS := ⟨_, _, _, by rw [evSs], q⟩
theorem ws_asg (h : WE cl e L S fun x S1 => WS cl rest (L.set i (some x)) S1 QS) : WS cl (.asg i e :: rest) L S QS := by
  obtain ⟨x, S1, h1, f, L2, S2, h2, q⟩ := h
  exact ⟨_, _, _, by simp only [evSs, evS, h1, h2, okOr], q⟩
theorem ws_asgL (h : WE cl e L S fun x S1 => WS cl rest (L.set i (some x)) S1 QS) : WS cl (.asgL i e :: rest) L S QS := by
  obtain ⟨x, S1, h1, f, L2, S2, h2, q⟩ := h
  exact ⟨_, _, _, by simp only [evSs, evS, h1, h2, okOr], q⟩
theorem ws_par {is : List Nat} (h : WEs cl es L S fun rs S1 => ∃ L', setAll is rs L = some L' ∧ WS cl rest L' S1 QS) : WS cl (.par is es :: rest) L S QS := by
  obtain ⟨x, S1, h1, L1, h2, f, L2, S2, h3, q⟩ := h
  exact ⟨_, _, _, by simp only [evSs, evS, h1, h2, h3, okOr], q⟩
theorem ws_parC {is : List Nat} (h : WEs cl es L S fun rs S1 => ∃ L', setAll is rs L = some L' ∧ WS cl rest L' S1 QS) : WS cl (.parC is es :: rest) L S QS := by
  obtain ⟨x, S1, h1, L1, h2, f, L2, S2, h3, q⟩ := h
  exact ⟨_, _, _, by simp only [evSs, evS, h1, h2, h3, okOr], q⟩
theorem ws_unp {is : List Nat} (h : WE cl e L S fun x S1 => ∃ ds L', x = .d (.tuple ds) ∧ bindIx is ds L = some L' ∧ WS cl rest L' S1 QS) : WS cl (.unp is e :: rest) L S QS := by
  obtain ⟨x, S1, h1, ds, L1, rfl, h2, f, L2, S2, h3, q⟩ := h
  exact ⟨_, _, _, by simp only [evSs, evS, h1, h2, h3, okOr], q⟩
theorem ws_dset (h : WE cl v L S fun z S1 => WE cl d L S1 fun x S2 => WE cl k L S2 fun y S3 => ∃ S4, dsetR x y z S3 = some S4 ∧ WS cl rest L S4 QS) : WS cl (.dset d k v :: rest) L S QS := by
  obtain ⟨z, S1, h1, x, S2, h2, y, S3, h3, S4, h4, f, L2, S5, h5, q⟩ := h
  exact ⟨_, _, _, by simp only [evSs, evS, h1, h2, h3, h4, h5, okOr], q⟩
theorem ws_expr (h : WE cl e L S fun x S1 => WS cl rest L S1 QS) : WS cl (.expr e :: rest) L S QS := by
  obtain ⟨x, S1, h1, f, L2, S2, h2, q⟩ := h
  exact ⟨_, _, _, by simp only [evSs, evS, h1, h2, okOr], q⟩
theorem ws_ret (h : WE cl e L S fun x S1 => QS (.rt x) L S1) : WS cl (.ret e :: rest) L S QS := by
  obtain ⟨x, S1, h1, q⟩ := h
  exact ⟨_, _, _, by simp only [evSs, evS, h1, okOr], q⟩
theorem ws_ret0 (q : QS (.rt (.d .none)) L S) : WS cl (.ret0 :: rest) L S QS := ⟨_, _, _, by simp only [evSs, evS, okOr], q⟩
theorem ws_pass (q : WS cl rest L S QS) : WS cl (.pass :: rest) L S QS := by
  obtain ⟨f, L2, S2, h2, q⟩ := q
  exact ⟨_, _, _, by simp only [evSs, evS, h2, okOr], q⟩
theorem ws_brk (q : QS .bk L S) : WS cl (.brk :: rest) L S QS := ⟨_, _, _, by simp only [evSs, evS, okOr], q⟩
theorem ws_cont (q : QS .ct L S) : WS cl (.cont :: rest) L S QS := ⟨_, _, _, by simp only [evSs, evS, okOr], q⟩
theorem then_ok {st : Sx} {g : Fl} {L1 : Loc} {S1 : Sto} (h : evS cl st L S = some (g, L1, S1)) (q : thenQ cl rest QS g L1 S1) : WS cl (st :: rest) L S QS := by
  cases g with
  | nx =>
    obtain ⟨f, L2, S2, h2, q⟩ := q
    exact ⟨_, _, _, by simp only [evSs, h, h2, okOr], q⟩
  | bk => exact ⟨_, _, _, by simp only [evSs, h, okOr], q⟩
  | ct => exact ⟨_, _, _, by simp only [evSs, h, okOr], q⟩
  | rt r => exact ⟨_, _, _, by simp only [evSs, h, okOr], q⟩
theorem ws_if (h : WE cl c L S fun x S1 => ∃ t, truth x S1 = some t ∧ (t = true → WS cl a' L S1 (thenQ cl rest QS)) ∧ (t = false → WS cl b' L S1 (thenQ cl rest QS))) : WS cl (.ifs c a' b' :: rest) L S QS := by
  obtain ⟨x, S1, h1, t, h2, q1, q2⟩ := h
  cases t with
  | true =>
    obtain ⟨g, L2, S2, h3, q⟩ := q1 rfl
    exact then_ok (by simp only [evS, h1, h2, h3, okOr]) q
  | false =>
    obtain ⟨g, L2, S2, h3, q⟩ := q2 rfl
    exact then_ok (by simp only [evS, h1, h2, h3, okOr]) q
theorem ws_for (h : WI cl it L S fun ds lk S1 => lockB lk S1 = true ∧ WF lk (lapT cl tg b') ds L S1 (thenQ cl rest QS)) : WS cl (.fors tg it b' :: rest) L S QS := by
  obtain ⟨ds, lk, S1, h1, h2, g, L2, S2, h3, q⟩ := h
  refine then_ok (g := g) (L1 := L2) (S1 := S2) ?_ q
  rw [evS, h1]
  show guardB (lockB lk S1) (forM' lk (lapT cl tg b') ds L S1) = _
  rw [h2, h3]; rfl
end
/-! what is left to be found -/
section
theorem lf {α : Type} {o : Option α} {a : α} {Q : α → Prop} (h : o = some a) (q : Q a) : ∃ w, o = some w ∧ Q w := ⟨a, h, q⟩
theorem lf2 {o : Option (D → D → Option D)} {x y : R} {S : Sto} {g : D → D → Option D} {w : D} {Q : D → Prop} (h : o = some g) (k : bin2 g x y S = some w) (q : Q w) : ∃ g w, o = some g ∧ bin2 g x y S = some w ∧ Q w := ⟨g, w, h, k, q⟩
theorem lfB {o : Option D} {w : Bool} {Q : Bool → Prop} (h : o = some (.bool w)) (q : Q w) : ∃ w, o = some (.bool w) ∧ Q w := ⟨w, h, q⟩
theorem lfV {rs : List R} {S : Sto} {ds : List D} {Q : List D → Prop} (h : viewAll rs S = some ds) (hl : ds.length ≤ sizeLine) (q : Q ds) : ∃ ds, viewAll rs S = some ds ∧ ds.length ≤ sizeLine ∧ Q ds := ⟨ds, h, hl, q⟩
theorem lf3 {rs : List R} {ds : List D} {Q : List D → Prop} (h : asDs rs = some ds) (hl : ds.length ≤ sizeLine) (q : Q ds) : ∃ ds, asDs rs = some ds ∧ ds.length ≤ sizeLine ∧ Q ds := ⟨ds, h, hl, q⟩
theorem lf4 {rs : List R} {ks : List Str} {ds : List D} {Q : List D → Prop} (h : asDs rs = some ds) (hl : ds.length = ks.length ∧ ks.length ≤ 15 ∧ ks ≠ []) (q : Q ds) : ∃ ds, asDs rs = some ds ∧ (ds.length = ks.length ∧ ks.length ≤ 15 ∧ ks ≠ []) ∧ Q ds := ⟨ds, h, hl, q⟩
theorem lfU {x : R} {is : List Nat} {L L' : Loc} {ds : List D} {Q : Loc → Prop} (h : x = .d (.tuple ds)) (k : bindIx is ds L = some L') (q : Q L') : ∃ ds L', x = .d (.tuple ds) ∧ bindIx is ds L = some L' ∧ Q L' := ⟨ds, L', h, k, q⟩
theorem lfI {i : Int} {Q : Int → Prop} (q : Q i) : ∃ j, R.d (.int i) = .d (.int j) ∧ Q j := ⟨i, rfl, q⟩
theorem lfR {i : Int} {Q : Int → Prop} (h : -(2 ^ 62) ≤ i ∧ i < 2 ^ 62) (q : Q i) : ∃ j, R.d (.int i) = .d (.int j) ∧ (-(2 ^ 62) ≤ j ∧ j < 2 ^ 62) ∧ Q j := ⟨i, rfl, h, q⟩
theorem lfR2 {i j : Int} {Q : Int → Int → Prop} (h : -(2 ^ 62) ≤ i ∧ i < 2 ^ 62 ∧ -(2 ^ 62) ≤ j ∧ j < 2 ^ 62) (q : Q i j) : ∃ k l, R.d (.int i) = .d (.int k) ∧ R.d (.int j) = .d (.int l) ∧ (-(2 ^ 62) ≤ k ∧ k < 2 ^ 62 ∧ -(2 ^ 62) ≤ l ∧ l < 2 ^ 62) ∧ Q k l := ⟨i, j, rfl, rfl, h, q⟩
theorem land {b : Bool} {q : Prop} (h : b = true) (k : q) : b = true ∧ q := ⟨h, k⟩
theorem limp {a b c d : Prop} (h : a → b) (k : c → d) : (a → b) ∧ (c → d) := ⟨h, k⟩
section
variable {xs ys : List D} {z : Str} {Q : List D → Lk → Sto → Prop} {S : Sto} {Q' : List D → Prop}
theorem ls_l (q : Q xs none S) : WQ (.d (.list xs)) S Q := .inl ⟨xs, .inl rfl, q⟩
theorem ls_t (q : Q xs none S) : WQ (.d (.tuple xs)) S Q := .inl ⟨xs, .inr (.inl rfl), q⟩
theorem ls_s (q : Q (signs z) none S) : WQ (.d (.str z)) S Q := .inl ⟨_, .inr (.inr ⟨z, rfl, rfl⟩), q⟩
theorem ls_r {n : Nat} (h : S[n]? = some (.lst xs)) (q : Q xs (some (n, xs)) S) : WQ (.ref n) S Q := .inr ⟨n, xs, rfl, h, q⟩
theorem le_l (q : Q' xs) : WN (.d (.list xs)) Q' := ⟨xs, .inl rfl, q⟩
theorem le_t (q : Q' xs) : WN (.d (.tuple xs)) Q' := ⟨xs, .inr (.inl rfl), q⟩
theorem le_s (q : Q' (signs z)) : WN (.d (.str z)) Q' := ⟨_, .inr (.inr ⟨z, rfl, rfl⟩), q⟩
theorem lz_l {Q : List D → List D → Prop} (q : Q xs ys) : WZ (.d (.list xs)) (.d (.list ys)) Q := ⟨xs, ys, .inl ⟨rfl, rfl⟩, q⟩
theorem lz_t {Q : List D → List D → Prop} (q : Q xs ys) : WZ (.d (.tuple xs)) (.d (.tuple ys)) Q := ⟨xs, ys, .inr ⟨rfl, rfl⟩, q⟩
end
end
/-! loops -/
/-- a comprehension over things told by one map: f says what is kept; the store stays -/
theorem loop_map {lk : Lk} {t : D → Sto → Option (Option D × Sto)} {S : Sto} (f : D → Option D) : ∀ (ds acc : List D), lockB lk S = true → (∀ d ∈ ds, t d S = some (f d, S)) → acc.length + ds.length ≤ sizeLine → loopM lk t ds acc S = some (acc ++ ds.filterMap f, S)
  | [], acc, _, _, _ => by simp [loopM]
  | d :: ds, acc, hk, h, hl => by
    rw [List.length_cons] at hl
    rw [loopM, h d List.mem_cons_self]
    dsimp only
    rw [if_pos hk]
    cases hf : f d with
    | none =>
      dsimp only
      rw [loop_map f ds acc hk (fun x hx => h x (List.mem_cons_of_mem _ hx)) (by omega)]
      simp [hf]
    | some y =>
      dsimp only
      rw [if_pos (by omega), loop_map f ds (acc ++ [y]) hk (fun x hx => h x (List.mem_cons_of_mem _ hx)) (by rw [List.length_append, List.length_singleton]; omega)]
      simp [hf]
/-- a loop by a word of what is left -/
theorem for_word {lk : Lk} {t : D → Loc → Sto → Option (Fl × Loc × Sto)} (I : List D → Loc → Sto → Prop) : ∀ (ds : List D) (L : Loc) (S : Sto), I ds L S → (∀ d r L S, I (d :: r) L S → ∃ g L' S', t d L S = some (g, L', S') ∧ (g = .nx ∨ g = .ct) ∧ lockB lk S' = true ∧ I r L' S') → ∃ L' S', forM' lk t ds L S = some (.nx, L', S') ∧ I [] L' S'
  | [], L, S, h, _ => ⟨L, S, by simp only [forM'], h⟩
  | d :: ds, L, S, h, ht => by
    obtain ⟨g, L1, S1, e, hg, hk, h1⟩ := ht d ds L S h
    obtain ⟨L2, S2, e2, h2⟩ := for_word I ds L1 S1 h1 ht
    refine ⟨L2, S2, ?_, h2⟩
    rcases hg with rfl | rfl
    · simp only [forM', e, if_pos hk, e2]
    · simp only [forM', e, if_pos hk, e2]
end PL
end
section
set_option maxHeartbeats 2000000
namespace PL
open PySem PySem.Spec PyProof.Rows L2
def finQ (S : Sto) (Q : R → Sto → Prop) : Fl → Loc → Sto → Prop
  | .rt (.d x), _, S' => Q (.d x) (S'.take S.length)
  | .rt r, _, S' => Q r S'
  | .nx, _, S' => Q (.d .none) (S'.take S.length)
  | _, _, _ => False
/-- a call leads to Q -/
abbrev WC (P : List Fn) (n f : Nat) (rs : List R) (S : Sto) (Q : R → Sto → Prop) : Prop := WK (callN P n) f rs S Q
section
variable {P : List Fn} {n f : Nat} {rs : List R} {S : Sto} {Q : R → Sto → Prop}
theorem wc_of {d : Fn} (hd : P[f]? = some d) (hl : rs.length = d.np) (h : WS (callN P n) d.body (rs.map some ++ List.replicate (d.names.length - rs.length) none) S (finQ S Q)) : WC P (n + 1) f rs S Q := by
  obtain ⟨fl, L', S', e, q⟩ := h
  unfold WC WK
  rw [callN, hd]
  dsimp only
  rw [if_pos hl, e]
  cases fl with
  | nx => exact ⟨_, _, rfl, q⟩
  | bk => exact q.elim
  | ct => exact q.elim
  | rt r => cases r <;> exact ⟨_, _, rfl, q⟩
theorem WC.eq {a : R} {b : Sto} (h : WC P n f rs S fun r S' => r = a ∧ S' = b) : callN P n f rs S = some (a, b) := by
  obtain ⟨r, S', e, rfl, rfl⟩ := h
  exact e
theorem WC.mono {Q' : R → Sto → Prop} (h : WC P n f rs S Q) (m : ∀ r S', Q r S' → Q' r S') : WC P n f rs S Q' := let ⟨r, S', q, p⟩ := h; ⟨r, S', q, m _ _ p⟩
theorem wc_eq {a : R} {b : Sto} (e : callN P n f rs S = some (a, b)) (q : Q a b) : ∃ r S', callN P n f rs S = some (r, S') ∧ Q r S' := ⟨a, b, e, q⟩
theorem qf_d {x : D} {L : Loc} {S' : Sto} (q : Q (.d x) (S'.take S.length)) : finQ S Q (.rt (.d x)) L S' := q
theorem qf_same {x : D} {L : Loc} (q : Q (.d x) S) : finQ S Q (.rt (.d x)) L S := by
  show Q (.d x) (S.take S.length)
  rw [List.take_length]; exact q
theorem qf_app {x : D} {L : Loc} {T : Sto} (q : Q (.d x) S) : finQ S Q (.rt (.d x)) L (S ++ T) := by
  show Q (.d x) ((S ++ T).take S.length)
  rw [List.take_left]; exact q
theorem qf_cons {x : D} {L : Loc} {o o' : Ob} {T : Sto} {Q : R → Sto → Prop} (q : Q (.d x) (o' :: T)) : finQ (o :: T) Q (.rt (.d x)) L (o' :: T) := by
  show Q (.d x) ((o' :: T).take (T.length + 1))
  rw [List.take_succ_cons, List.take_length]; exact q
theorem qf_consA {x : D} {L : Loc} {o o' : Ob} {T U : Sto} {Q : R → Sto → Prop} (q : Q (.d x) (o' :: T)) : finQ (o :: T) Q (.rt (.d x)) L (o' :: (T ++ U)) := by
  show Q (.d x) ((o' :: (T ++ U)).take (T.length + 1))
  rw [List.take_succ_cons, List.take_left]; exact q
theorem qf_ref {m : Nat} {L : Loc} {S' : Sto} (q : Q (.ref m) S') : finQ S Q (.rt (.ref m)) L S' := q
theorem qf_nx {L : Loc} {S' : Sto} (q : Q (.d .none) (S'.take S.length)) : finQ S Q .nx L S' := q
end
section
variable {cl : Cl} {rest : List Sx} {Q : Fl → Loc → Sto → Prop} {L : Loc} {S : Sto} {r : R}
theorem then_nx (q : WS cl rest L S Q) : thenQ cl rest Q .nx L S := q
theorem then_bk (q : Q .bk L S) : thenQ cl rest Q .bk L S := q
theorem then_ct (q : Q .ct L S) : thenQ cl rest Q .ct L S := q
theorem then_rt (q : Q (.rt r) L S) : thenQ cl rest Q (.rt r) L S := q
/-- a loop that ends -/
theorem for_to {lk : Lk} {t : D → Loc → Sto → Option (Fl × Loc × Sto)} {ds : List D} (I : List D → Loc → Sto → Prop) (h0 : I ds L S) (hs : ∀ d r L S, I (d :: r) L S → ∃ g L' S', t d L S = some (g, L', S') ∧ (g = .nx ∨ g = .ct) ∧ lockB lk S' = true ∧ I r L' S')
    (q : ∀ L' S', I [] L' S' → WS cl rest L' S' Q) : WF lk t ds L S (thenQ cl rest Q) := by
  obtain ⟨L', S', e, h⟩ := for_word (lk := lk) (t := t) I ds L S h0 hs
  exact ⟨.nx, L', S', e, q L' S' h⟩
/-- a loop's turn by its block -/
theorem lap_of {tg : Tg} {b : List Sx} {d : D} {L' : Loc} {Q : Fl → Loc → Sto → Prop} (h : bindT tg d L = some L') (w : WS cl b L' S Q) : ∃ g L2 S2, lapT cl tg b d L S = some (g, L2, S2) ∧ Q g L2 S2 := by
  obtain ⟨g, L2, S2, e, q⟩ := w
  exact ⟨g, L2, S2, by unfold lapT; rw [h]; exact e, q⟩
/-- a comprehension's turn by its parts -/
theorem turn_of {own : List Nat} {tg : Tg} {cs : Es} {e : E} {d : D} {L' : Loc} {Q : Option D → Sto → Prop} (h : bindT tg d (wipeL L own) = some L') (w : WT cl cs L' S fun b S1 => (b = true → WE cl e L' S1 fun y S2 => ∃ z, y = .d z ∧ Q (some z) S2) ∧ (b = false → Q none S1)) :
    ∃ o S2, turn cl own tg cs e L d S = some (o, S2) ∧ Q o S2 := by
  obtain ⟨b, S1, e1, h1, h2⟩ := w
  unfold turn
  rw [h]
  cases b with
  | false => exact ⟨none, S1, by simp only [okOr, e1], h2 rfl⟩
  | true =>
    obtain ⟨y, S2, e2, z, rfl, q⟩ := h1 rfl
    exact ⟨some z, S2, by simp only [okOr, e1, e2, asD], q⟩
theorem turn_eq {own : List Nat} {tg : Tg} {cs : Es} {e : E} {d : D} {L' : Loc} {o : Option D} {S2 : Sto} (h : bindT tg d (wipeL L own) = some L') (w : WT cl cs L' S fun b S1 => (b = true → WE cl e L' S1 fun y S3 => ∃ z, y = .d z ∧ some z = o ∧ S3 = S2) ∧ (b = false → none = o ∧ S1 = S2)) :
    turn cl own tg cs e L d S = some (o, S2) := by
  obtain ⟨o', S', e, rfl, rfl⟩ := turn_of (Q := fun o' S' => o' = o ∧ S' = S2) h w
  exact e
end
section
variable {lk : Lk} {t : D → Sto → Option (Option D × Sto)} {S : Sto} {Q : List D → Sto → Prop} {α : Type} {g : α → D} {l : List α}
theorem loop_mapW (f : α → Option D) (hk : lockB lk S = true) : ∀ (l : List α) (acc : List D), (∀ a ∈ l, t (g a) S = some (f a, S)) → acc.length + l.length ≤ sizeLine → loopM lk t (l.map g) acc S = some (acc ++ l.filterMap f, S)
  | [], acc, _, _ => by simp [loopM]
  | a :: l, acc, h, hl => by
    rw [List.length_cons] at hl
    rw [List.map_cons, loopM, h a List.mem_cons_self]
    dsimp only
    rw [if_pos hk]
    cases hf : f a with
    | none =>
      dsimp only
      rw [loop_mapW f hk l acc (fun x hx => h x (List.mem_cons_of_mem _ hx)) (by omega)]
      simp [hf]
    | some y =>
      dsimp only
      rw [if_pos (by omega), loop_mapW f hk l (acc ++ [y]) (fun x hx => h x (List.mem_cons_of_mem _ hx)) (by rw [List.length_append, List.length_singleton]; omega)]
      simp [hf]
theorem loop_some (f : α → Option D) (hl : l.length ≤ sizeLine) (h : ∀ a ∈ l, t (g a) S = some (f a, S)) (q : Q (l.filterMap f) S) (hk : lockB lk S = true := by rfl) : WL lk t (l.map g) S Q :=
  ⟨_, _, loop_mapW f hk l [] h (by rw [List.length_nil]; omega), by rw [List.nil_append]; exact q⟩
theorem loop_every (f : α → D) (hl : l.length ≤ sizeLine) (h : ∀ a ∈ l, t (g a) S = some (some (f a), S)) (q : Q (l.map f) S) (hk : lockB lk S = true := by rfl) : WL lk t (l.map g) S Q :=
  loop_some (fun a => some (f a)) hl h (by rw [show l.filterMap (fun a => some (f a)) = l.map f by induction l with | nil => rfl | cons a l ih => simp]; exact q) hk
theorem filt_map (p : α → Bool) (f : α → D) : ∀ l : List α, l.filterMap (fun a => if p a = true then some (f a) else none) = (l.filter p).map f
  | [] => rfl
  | a :: l => by
    by_cases h : p a = true
    · rw [List.filterMap_cons, if_pos h, List.filter_cons, if_pos h, List.map_cons, filt_map p f l]
    · rw [List.filterMap_cons, if_neg h, List.filter_cons, if_neg h, filt_map p f l]
theorem loop_filter (p : α → Bool) (f : α → D) (hl : l.length ≤ sizeLine) (h : ∀ a ∈ l, t (g a) S = some (if p a = true then some (f a) else none, S)) (q : Q ((l.filter p).map f) S) (hk : lockB lk S = true := by rfl) : WL lk t (l.map g) S Q :=
  loop_some (fun a => if p a = true then some (f a) else none) hl h (by rw [filt_map]; exact q) hk
theorem zip_map {β : Type} {f : α → D} {k : β → D} : ∀ (xs : List α) (ys : List β), zipD (xs.map f) (ys.map k) = (xs.zip ys).map fun p => .tuple [f p.1, k p.2]
  | [], _ => by simp [zipD]
  | _ :: _, [] => by simp [zipD]
  | x :: xs, y :: ys => by simp only [List.map_cons, zipD, List.zip_cons_cons, zip_map xs ys]
theorem enum_map {f : α → D} : ∀ (xs : List α) (k : Nat), enumD k (xs.map f) = (xs.zipIdx k).map fun p => .tuple [.int (p.2 : Int), f p.1]
  | [], k => rfl
  | x :: xs, k => by simp only [List.map_cons, enumD, List.zipIdx_cons, enum_map xs (k + 1)]
end
/-! a comprehension over a written list -/
def WLa (lk : Lk) (t : D → Sto → Option (Option D × Sto)) (ds acc : List D) (S : Sto) (Q : List D → Sto → Prop) : Prop := ∃ ys S2, loopM lk t ds acc S = some (ys, S2) ∧ Q ys S2
section
variable {lk : Lk} {t : D → Sto → Option (Option D × Sto)} {S S1 : Sto} {Q : List D → Sto → Prop} {ds acc : List D} {d y : D}
theorem wl_lit (h : WLa lk t ds [] S Q) : WL lk t ds S Q := h
theorem wl_end (q : Q acc S) : WLa lk t [] acc S Q := ⟨acc, S, by simp only [loopM], q⟩
theorem wl_yes (ht : t d S = some (some y, S1)) (h : WLa lk t ds (acc ++ [y]) S1 Q) (hl : acc.length < sizeLine) (hk : lockB lk S1 = true := by rfl) : WLa lk t (d :: ds) acc S Q := by
  obtain ⟨ys, S2, e, q⟩ := h
  exact ⟨ys, S2, by simp only [loopM, ht, if_pos hk, if_pos hl, e], q⟩
theorem wl_no (ht : t d S = some (none, S1)) (h : WLa lk t ds acc S1 Q) (hk : lockB lk S1 = true := by rfl) : WLa lk t (d :: ds) acc S Q := by
  obtain ⟨ys, S2, e, q⟩ := h
  exact ⟨ys, S2, by simp only [loopM, ht, if_pos hk, e], q⟩
end
end PL
end
section
set_option maxHeartbeats 4000000
namespace PL.W
open PySem PySem.Spec PyProof.Rows L2 PL
abbrev at_ (i : Nat) : Stmt := (PySem.Challenge.pw_pagelives_k01_kinds).main.body.getD i (.Pass ⟨0, 0, 0, 0⟩)
abbrev srcAt (x : Str) (i : Nat) : Src := ⟨x, (defArgs (at_ i)).args, defBody (at_ i), defScope (at_ i)⟩
def d_GUARDS : D := (.tuple [(.str "ahead"), (.str "quiet"), (.str "calm"), (.str "struck"), (.str "first"), (.str "clean"), (.str "whole"), (.str "level"), (.str "settled"), (.str "dead"), (.str "walked"), (.str "fixed")])
def d_HARMS : D := (.tuple [(.str "old"), (.str "missed"), (.str "open")])
def d_LETTERS : D := (.str "abcdefghijklmnopqrstuvwxyz")
def t_DEED_PARTS : List (Str × D) := [("keep", (.tuple [(.str "page")])), ("plain", (.tuple [(.str "page")])), ("write", (.tuple [(.str "page")])), ("free", (.tuple [(.str "page")])), ("strike", (.tuple [(.str "page")])), ("flush", (.tuple [(.str "page")])), ("put", (.tuple [(.str "page")])), ("point", (.tuple [(.str "number")])), ("seal", (.tuple [])), ("stop", (.tuple [])), ("end", (.tuple []))]
def t_RECORD_PARTS : List (Str × D) := [("keep", (.tuple [(.str "page"), (.str "number")])), ("write", (.tuple [(.str "page"), (.str "number")])), ("plain", (.tuple [(.str "page"), (.str "number")])), ("free", (.tuple [(.str "page")])), ("strike", (.tuple [(.str "page")]))]
abbrev dipA : Int := 5003
abbrev dipB : Int := 307
abbrev dipC : Int := 30011
abbrev dipCell : Int := 61001
abbrev i_is_ascending : Nat := 0
abbrev i_is_integer : Nat := 1
abbrev i_is_number : Nat := 2
abbrev i_is_page : Nat := 3
abbrev i_is_guard : Nat := 4
abbrev i_deed_parts : Nat := 5
abbrev i_record_parts : Nat := 6
abbrev i_has_word : Nat := 7
abbrev i_is_part : Nat := 8
abbrev i_are_parts : Nat := 9
abbrev i_is_record : Nat := 10
abbrev i_is_deed : Nat := 11
abbrev i_is_rule : Nat := 12
abbrev i_law_spring : Nat := 13
abbrev i_law_dip : Nat := 14
abbrev i_law_pick : Nat := 15
abbrev i_law_is_integer : Nat := 16
abbrev i_law_is_page : Nat := 17
abbrev i_law_is_count : Nat := 18
abbrev i_law_is_record : Nat := 19
abbrev i_law_is_deed : Nat := 20
abbrev i_law_guards : Nat := 21
abbrev i_law_is_rule : Nat := 22
abbrev i_law_rule : Nat := 23
abbrev i_law_pages : Nat := 24
abbrev i_law_deed : Nat := 25
abbrev i_law_bent : Nat := 26
abbrev i_law_record : Nat := 27
abbrev i_law_are_right : Nat := 28
abbrev i_law : Nat := 29
abbrev b_is_ascending : List Sx :=
  [.ret (.bi .all (.comp [1, 2] (.tup [1, 2]) (.zip (.loc 0) (.sl (.loc 0) (.so (.int 1)) .no)) .nil (.cmp .Lt (.loc 1) (.loc 2))))]
def f_is_ascending : Fn := ⟨"is_ascending", ["things", "one", "two"], 1, b_is_ascending⟩
abbrev b_is_integer : List Sx :=
  [.ret (.bop true (.isi .int (.loc 0)) (.cons (.not (.isi .bool (.loc 0))) .nil))]
def f_is_integer : Fn := ⟨"is_integer", ["thing"], 1, b_is_integer⟩
abbrev b_is_number : List Sx :=
  [.ret (.bop true (.call i_is_integer (.cons (.loc 0) .nil)) (.cons (.cmp .GtE (.loc 0) (.int 0)) .nil))]
def f_is_number : Fn := ⟨"is_number", ["thing"], 1, b_is_number⟩
abbrev b_is_page : List Sx :=
  [.ifs (.bop false (.not (.isi .str (.loc 0))) (.cons (.not (.cmp2 .LtE .LtE (.int 1) (.bi .len (.loc 0)) (.int 8))) .nil)) [.ret (.bl false)] [], .ret (.bi .all (.comp [1] (.one 1) (.seq (.loc 0)) .nil (.cmp .In (.loc 1) (.gd "LETTERS" d_LETTERS))))]
def f_is_page : Fn := ⟨"is_page", ["thing", "letter"], 1, b_is_page⟩
abbrev b_is_guard : List Sx :=
  [.ret (.bop true (.isi .str (.loc 0)) (.cons (.cmp .In (.loc 0) (.gd "GUARDS" d_GUARDS)) .nil))]
def f_is_guard : Fn := ⟨"is_guard", ["thing"], 1, b_is_guard⟩
abbrev b_deed_parts : List Sx :=
  [.ret (.gget "DEED_PARTS" t_DEED_PARTS (.loc 0))]
def f_deed_parts : Fn := ⟨"deed_parts", ["word"], 1, b_deed_parts⟩
abbrev b_record_parts : List Sx :=
  [.ret (.gget "RECORD_PARTS" t_RECORD_PARTS (.loc 0))]
def f_record_parts : Fn := ⟨"record_parts", ["word"], 1, b_record_parts⟩
abbrev b_has_word : List Sx :=
  [.ret (.bop true (.isi .tuple (.loc 0)) (.cons (.cmp .Gt (.bi .len (.loc 0)) (.int 0)) (.cons (.isi .str (.ix (.loc 0) (.int 0))) .nil)))]
def f_has_word : Fn := ⟨"has_word", ["thing"], 1, b_has_word⟩
abbrev b_is_part : List Sx :=
  [.ifs (.cmp .Eq (.loc 1) (.str "page")) [.ret (.call i_is_page (.cons (.loc 0) .nil))] [], .ret (.bop true (.call i_is_integer (.cons (.loc 0) .nil)) (.cons (.cmp .GtE (.loc 0) (.int 1)) .nil))]
def f_is_part : Fn := ⟨"is_part", ["thing", "kind"], 2, b_is_part⟩
abbrev b_are_parts : List Sx :=
  [.ifs (.bop false (.cmp .Is (.loc 1) .non) (.cons (.cmp .NotEq (.bi .len (.loc 0)) (.bi .len (.loc 1))) .nil)) [.ret (.bl false)] [], .ret (.bi .all (.comp [2, 3] (.tup [2, 3]) (.zip (.loc 0) (.loc 1)) .nil (.call i_is_part (.cons (.loc 2) (.cons (.loc 3) .nil)))))]
def f_are_parts : Fn := ⟨"are_parts", ["things", "kinds", "thing", "kind"], 2, b_are_parts⟩
abbrev b_is_record : List Sx :=
  [.ret (.bop true (.call i_has_word (.cons (.loc 0) .nil)) (.cons (.call i_are_parts (.cons (.sl (.loc 0) (.so (.int 1)) .no) (.cons (.call i_record_parts (.cons (.ix (.loc 0) (.int 0)) .nil)) .nil))) .nil))]
def f_is_record : Fn := ⟨"is_record", ["thing"], 1, b_is_record⟩
abbrev b_is_deed : List Sx :=
  [.ret (.bop true (.call i_has_word (.cons (.loc 0) .nil)) (.cons (.call i_are_parts (.cons (.sl (.loc 0) (.so (.int 1)) .no) (.cons (.call i_deed_parts (.cons (.ix (.loc 0) (.int 0)) .nil)) .nil))) .nil))]
def f_is_deed : Fn := ⟨"is_deed", ["thing"], 1, b_is_deed⟩
abbrev b_is_rule : List Sx :=
  [.ifs (.bop false (.not (.isi .tuple (.loc 0))) (.cons (.not (.bi .all (.comp [1] (.one 1) (.seq (.loc 0)) .nil (.call i_is_guard (.cons (.loc 1) .nil))))) .nil)) [.ret (.bl false)] [], .ret (.call i_is_ascending (.cons (.loc 0) .nil))]
def f_is_rule : Fn := ⟨"is_rule", ["thing", "guard"], 1, b_is_rule⟩
abbrev b_law_spring : List Sx :=
  [.ret (.dic ["cells", "place", "rest", "count"] (.cons (.bi .list (.sl (.loc 0) .no (.so (.int 60)))) (.cons (.int 0) (.cons (.int 0) (.cons (.int 0) .nil)))))]
def f_law_spring : Fn := ⟨"_law_spring", ["_law_script"], 1, b_law_spring⟩
abbrev b_law_dip : List Sx :=
  [.asg 2 (.bin .Add (.ix (.loc 0) (.str "count")) (.int 1)), .dset (.loc 0) (.str "count") (.loc 2), .ifs (.cmp .Gt (.ix (.loc 0) (.str "rest")) (.int 0)) [.asg 3 (.bin .Mod (.bi .int (.ix (.loc 0) (.str "rest"))) (.loc 1)), .dset (.loc 0) (.str "rest") (.bin .FloorDiv (.ix (.loc 0) (.str "rest")) (.loc 1)), .ret (.loc 3)] [], .asg 4 (.ix (.loc 0) (.str "place")), .dset (.loc 0) (.str "place") (.bin .Add (.loc 4) (.int 1)), .asg 5 (.int dipCell), .ifs (.cmp .NotEq (.ix (.loc 0) (.str "cells")) (.lst .nil)) [.asg 5 (.ix (.ix (.loc 0) (.str "cells")) (.bin .Mod (.bi .int (.loc 4)) (.bi .len (.ix (.loc 0) (.str "cells")))))] [], .ifs (.bop true (.cmp .GtE (.loc 5) (.bin .Pow (.int 10) (.int 18))) (.cons (.cmp .Lt (.loc 4) (.bi .len (.ix (.loc 0) (.str "cells")))) .nil)) [.dset (.loc 0) (.str "rest") (.bin .FloorDiv (.loc 5) (.loc 1)), .ret (.bin .Mod (.bi .int (.loc 5)) (.loc 1))] [], .asg 6 (.bin .Mod (.bi .int (.bin .Pow (.bin .Add (.bin .Add (.bin .Mod (.bi .int (.loc 5)) (.int 2147483353)) (.bin .Mult (.int dipA) (.loc 2))) (.int dipB)) (.int 3))) (.int 2147483647)), .asg 6 (.bin .Mod (.bi .int (.bin .Pow (.bin .Add (.loc 6) (.bin .Mult (.int dipC) (.loc 2))) (.int 5))) (.int 2147483587)), .ret (.bin .Mod (.bi .int (.bin .FloorDiv (.loc 6) (.int 128))) (.loc 1))]
def f_law_dip : Fn := ⟨"_law_dip", ["_law_spring_here", "_law_many", "_law_count", "_law_figure", "_law_turn", "_law_cell", "_law_mixed"], 2, b_law_dip⟩
abbrev b_law_pick : List Sx :=
  [.ret (.ix (.loc 1) (.call i_law_dip (.cons (.loc 0) (.cons (.bi .len (.loc 1)) .nil))))]
def f_law_pick : Fn := ⟨"_law_pick", ["_law_spring_here", "_law_items"], 2, b_law_pick⟩
abbrev b_law_is_integer : List Sx :=
  [.ret (.bop true (.isi .int (.loc 0)) (.cons (.not (.isi .bool (.loc 0))) .nil))]
def f_law_is_integer : Fn := ⟨"_law_is_integer", ["_law_item"], 1, b_law_is_integer⟩
abbrev b_law_is_page : List Sx :=
  [.ifs (.bop false (.not (.isi .str (.loc 0))) (.cons (.cmp .Lt (.bi .len (.loc 0)) (.int 1)) (.cons (.cmp .Gt (.bi .len (.loc 0)) (.int 8)) .nil))) [.ret (.bl false)] [], .ret (.cmp .Eq (.comp [1] (.one 1) (.seq (.loc 0)) (.cons (.not (.cmp2 .LtE .LtE (.str "a") (.loc 1) (.str "z"))) .nil) (.loc 1)) (.lst .nil))]
def f_law_is_page : Fn := ⟨"_law_is_page", ["_law_item", "_law_sign"], 1, b_law_is_page⟩
abbrev b_law_is_count : List Sx :=
  [.ret (.bop true (.call i_law_is_integer (.cons (.loc 0) .nil)) (.cons (.cmp .Gt (.loc 0) (.int 0)) .nil))]
def f_law_is_count : Fn := ⟨"_law_is_count", ["_law_item"], 1, b_law_is_count⟩
abbrev b_law_is_record : List Sx :=
  [.ifs (.bop false (.not (.isi .tuple (.loc 0))) (.cons (.cmp .Lt (.bi .len (.loc 0)) (.int 2)) (.cons (.not (.isi .str (.ix (.loc 0) (.int 0)))) (.cons (.not (.call i_law_is_page (.cons (.ix (.loc 0) (.int 1)) .nil))) .nil)))) [.ret (.bl false)] [], .ifs (.cmp .In (.ix (.loc 0) (.int 0)) (.tup (.cons (.str "free") (.cons (.str "strike") .nil)))) [.ret (.cmp .Eq (.bi .len (.loc 0)) (.int 2))] [], .ret (.bop true (.cmp .In (.ix (.loc 0) (.int 0)) (.tup (.cons (.str "keep") (.cons (.str "write") (.cons (.str "plain") .nil))))) (.cons (.cmp .Eq (.bi .len (.loc 0)) (.int 3)) (.cons (.call i_law_is_count (.cons (.ix (.loc 0) (.int 2)) .nil)) .nil)))]
def f_law_is_record : Fn := ⟨"_law_is_record", ["_law_item"], 1, b_law_is_record⟩
abbrev b_law_is_deed : List Sx :=
  [.ifs (.bop false (.not (.isi .tuple (.loc 0))) (.cons (.cmp .Lt (.bi .len (.loc 0)) (.int 1)) (.cons (.not (.isi .str (.ix (.loc 0) (.int 0)))) .nil))) [.ret (.bl false)] [], .ifs (.cmp .In (.ix (.loc 0) (.int 0)) (.tup (.cons (.str "seal") (.cons (.str "stop") (.cons (.str "end") .nil))))) [.ret (.cmp .Eq (.bi .len (.loc 0)) (.int 1))] [], .ifs (.cmp .NotEq (.bi .len (.loc 0)) (.int 2)) [.ret (.bl false)] [], .ifs (.cmp .Eq (.ix (.loc 0) (.int 0)) (.str "point")) [.ret (.call i_law_is_count (.cons (.ix (.loc 0) (.int 1)) .nil))] [], .ret (.bop true (.cmp .In (.ix (.loc 0) (.int 0)) (.tup (.cons (.str "keep") (.cons (.str "plain") (.cons (.str "write") (.cons (.str "free") (.cons (.str "strike") (.cons (.str "flush") (.cons (.str "put") .nil))))))))) (.cons (.call i_law_is_page (.cons (.ix (.loc 0) (.int 1)) .nil)) .nil))]
def f_law_is_deed : Fn := ⟨"_law_is_deed", ["_law_item"], 1, b_law_is_deed⟩
abbrev b_law_guards : List Sx :=
  [.asg 0 (.lst (.cons (.str "ahead") (.cons (.str "quiet") (.cons (.str "calm") (.cons (.str "struck") (.cons (.str "first") (.cons (.str "clean") .nil))))))), .ret (.bin .Add (.loc 0) (.lst (.cons (.str "whole") (.cons (.str "level") (.cons (.str "settled") (.cons (.str "dead") (.cons (.str "walked") (.cons (.str "fixed") .nil))))))))]
def f_law_guards : Fn := ⟨"_law_guards", ["_law_first"], 0, b_law_guards⟩
abbrev b_law_is_rule : List Sx :=
  [.ifs (.not (.isi .tuple (.loc 0))) [.ret (.bl false)] [], .ifs (.cmp .NotEq (.comp [1] (.one 1) (.seq (.loc 0)) (.cons (.bop false (.not (.isi .str (.loc 1))) (.cons (.cmp .NotIn (.loc 1) (.call i_law_guards .nil)) .nil)) .nil) (.loc 1)) (.lst .nil)) [.ret (.bl false)] [], .ret (.cmp .Eq (.bi .list (.loc 0)) (.sset (.loc 0)))]
def f_law_is_rule : Fn := ⟨"_law_is_rule", ["_law_item", "_law_one"], 1, b_law_is_rule⟩
abbrev b_law_rule : List Sx :=
  [.par [1, 2] (.cons (.call i_law_dip (.cons (.loc 0) (.cons (.int 6) .nil))) (.cons (.bi .sorted (.call i_law_guards .nil)) .nil)), .ifs (.cmp .Lt (.loc 1) (.int 2)) [.ret (.bi .tuple (.sl (.loc 2) .no (.so (.bin .Mult (.int 12) (.loc 1)))))] [], .ifs (.cmp .Eq (.loc 1) (.int 2)) [.asg 3 (.call i_law_pick (.cons (.loc 0) (.cons (.loc 2) .nil))), .ret (.bi .tuple (.comp [4] (.one 4) (.seq (.loc 2)) (.cons (.cmp .NotEq (.loc 4) (.loc 3)) .nil) (.loc 4)))] [], .ret (.bi .tuple (.comp [4] (.one 4) (.seq (.loc 2)) (.cons (.cmp .Eq (.call i_law_dip (.cons (.loc 0) (.cons (.int 3) .nil))) (.int 0)) .nil) (.loc 4)))]
def f_law_rule : Fn := ⟨"_law_rule", ["_law_spring_here", "_law_way", "_law_guards_here", "_law_out", "_law_one"], 1, b_law_rule⟩
abbrev b_law_pages : List Sx :=
  [.asg 1 (.lst (.cons (.lst (.cons (.str "a") (.cons (.str "b") (.cons (.str "c") .nil)))) (.cons (.lst (.cons (.str "p") (.cons (.str "pq") (.cons (.str "q") .nil)))) (.cons (.lst (.cons (.str "zzzzzzzz") (.cons (.str "a") (.cons (.str "ab") .nil)))) (.cons (.lst (.cons (.str "seal") (.cons (.str "stop") (.cons (.str "keep") .nil)))) .nil))))), .ret (.call i_law_pick (.cons (.loc 0) (.cons (.bin .Add (.loc 1) (.lst (.cons (.lst (.cons (.str "strike") (.cons (.str "write") (.cons (.str "free") .nil)))) (.cons (.lst (.cons (.str "point") (.cons (.str "put") (.cons (.str "flush") .nil)))) .nil)))) .nil)))]
def f_law_pages : Fn := ⟨"_law_pages", ["_law_spring_here", "_law_menu"], 1, b_law_pages⟩
abbrev b_law_deed : List Sx :=
  [.asg 2 (.lst (.cons (.str "keep") (.cons (.str "plain") (.cons (.str "write") (.cons (.str "free") (.cons (.str "strike") (.cons (.str "flush") (.cons (.str "put") (.cons (.str "seal") (.cons (.str "point") (.cons (.str "stop") (.cons (.str "end") .nil)))))))))))), .asg 3 (.call i_law_pick (.cons (.loc 0) (.cons (.loc 2) .nil))), .ifs (.cmp .Eq (.loc 3) (.str "point")) [.ret (.tup (.cons (.loc 3) (.cons (.call i_law_pick (.cons (.loc 0) (.cons (.lst (.cons (.int 1) (.cons (.int 2) (.cons (.int 9) (.cons (.int 10) (.cons (.bin .Add (.int 1) (.call i_law_dip (.cons (.loc 0) (.cons (.int 60) .nil)))) (.cons (.bin .Pow (.int 10) (.int 59)) .nil))))))) .nil))) .nil)))] [], .ret (.ite (.cmp .In (.loc 3) (.tup (.cons (.str "seal") (.cons (.str "stop") (.cons (.str "end") .nil))))) (.tup (.cons (.loc 3) .nil)) (.tup (.cons (.loc 3) (.cons (.call i_law_pick (.cons (.loc 0) (.cons (.loc 1) .nil))) .nil))))]
def f_law_deed : Fn := ⟨"_law_deed", ["_law_spring_here", "_law_pages_here", "_law_words", "_law_word"], 2, b_law_deed⟩
abbrev b_law_bent : List Sx :=
  [.par [2, 3] (.cons (.call i_law_dip (.cons (.loc 0) (.cons (.bin .Add (.bi .len (.loc 1)) (.int 1)) .nil))) (.cons (.call i_law_dip (.cons (.loc 0) (.cons (.int 5) .nil))) .nil)), .asg 4 (.call i_law_pick (.cons (.loc 0) (.cons (.lst (.cons (.int 0) (.cons (.int 1) (.cons (.neg (.int 1)) (.cons (.bl true) (.cons .non (.cons (.str "") (.cons (.str "a") (.cons (.str "A") (.cons (.str "abcdefghi") (.cons (.str "a b") (.cons (.str "keep") (.cons (.str "free") (.cons (.tup .nil) (.cons (.str "1") (.cons (.bin .Pow (.int 10) (.int 59)) .nil)))))))))))))))) .nil))), .ifs (.cmp .Eq (.loc 3) (.int 0)) [.ret (.bin .Add (.bin .Add (.sl (.loc 1) .no (.so (.loc 2))) (.tup (.cons (.loc 4) .nil))) (.sl (.loc 1) (.so (.loc 2)) .no))] [], .ifs (.cmp .Eq (.loc 3) (.int 1)) [.ret (.bin .Add (.sl (.loc 1) .no (.so (.loc 2))) (.sl (.loc 1) (.so (.bin .Add (.loc 2) (.int 1))) .no))] [], .ifs (.cmp .Eq (.loc 3) (.int 2)) [.ret (.bi .list (.loc 1))] [], .ret (.ite (.cmp .Eq (.loc 3) (.int 3)) (.bin .Add (.bin .Add (.sl (.loc 1) .no (.so (.loc 2))) (.tup (.cons (.loc 4) .nil))) (.sl (.loc 1) (.so (.bin .Add (.loc 2) (.int 1))) .no)) (.rev (.loc 1)))]
def f_law_bent : Fn := ⟨"_law_bent", ["_law_spring_here", "_law_item", "_law_k", "_law_way", "_law_odd"], 2, b_law_bent⟩
abbrev b_law_record : List Sx :=
  [.par [2, 3] (.cons (.call i_law_pick (.cons (.loc 0) (.cons (.lst (.cons (.str "keep") (.cons (.str "write") (.cons (.str "plain") (.cons (.str "free") (.cons (.str "strike") .nil)))))) .nil))) (.cons (.call i_law_pick (.cons (.loc 0) (.cons (.loc 1) .nil))) .nil)), .ret (.ite (.cmp .In (.loc 2) (.tup (.cons (.str "free") (.cons (.str "strike") .nil)))) (.tup (.cons (.loc 2) (.cons (.loc 3) .nil))) (.tup (.cons (.loc 2) (.cons (.loc 3) (.cons (.bin .Add (.int 1) (.call i_law_dip (.cons (.loc 0) (.cons (.int 9) .nil)))) .nil)))))]
def f_law_record : Fn := ⟨"_law_record", ["_law_spring_here", "_law_pages_here", "_law_word", "_law_page"], 2, b_law_record⟩
abbrev b_law_are_right : List Sx :=
  [.asg 1 (.lst (.cons (.call i_is_integer (.cons (.loc 0) .nil)) (.cons (.call i_is_number (.cons (.loc 0) .nil)) (.cons (.call i_is_page (.cons (.loc 0) .nil)) (.cons (.call i_is_record (.cons (.loc 0) .nil)) (.cons (.call i_is_deed (.cons (.loc 0) .nil)) (.cons (.call i_is_rule (.cons (.loc 0) .nil)) .nil))))))), .asg 2 (.lst (.cons (.call i_law_is_integer (.cons (.loc 0) .nil)) (.cons (.bop true (.call i_law_is_integer (.cons (.loc 0) .nil)) (.cons (.cmp .GtE (.loc 0) (.int 0)) .nil)) (.cons (.call i_law_is_page (.cons (.loc 0) .nil)) (.cons (.call i_law_is_record (.cons (.loc 0) .nil)) .nil))))), .ret (.cmp .Eq (.bi .repr (.loc 1)) (.bi .repr (.bin .Add (.loc 2) (.lst (.cons (.call i_law_is_deed (.cons (.loc 0) .nil)) (.cons (.call i_law_is_rule (.cons (.loc 0) .nil)) .nil))))))]
def f_law_are_right : Fn := ⟨"_law_are_right", ["_law_item", "_law_told", "_law_due"], 1, b_law_are_right⟩
abbrev b_law : List Sx :=
  [.asg 1 (.call i_law_spring (.cons (.loc 0) .nil)), .par [2, 3] (.cons (.call i_law_pages (.cons (.loc 1) .nil)) (.cons (.lstR (.cons .non (.cons (.bl true) (.cons (.bl false) (.cons (.int 0) (.cons (.int 1) (.cons (.neg (.int 1)) (.cons (.bin .Pow (.int 10) (.int 59)) (.cons (.str "") (.cons (.str "a") (.cons (.str "abcdefgh") (.cons (.str "abcdefghi") .nil)))))))))))) .nil)), .expr (.ext (.loc 3) (.lst (.cons (.str "aB") (.cons (.str "a1") (.cons (.str "-") (.cons (.tup .nil) (.cons (.lst .nil) (.cons (.tup (.cons (.str "seal") .nil)) (.cons (.lst (.cons (.str "seal") .nil)) (.cons (.tup (.cons (.str "seal") (.cons (.str "a") .nil))) (.cons (.tup (.cons (.str "point") (.cons (.int 0) .nil))) (.cons (.tup (.cons (.str "point") (.cons (.bl true) .nil))) .nil)))))))))))), .expr (.ext (.loc 3) (.lst (.cons (.tup (.cons (.str "point") (.cons (.str "1") .nil))) (.cons (.tup (.cons (.str "keep") .nil)) (.cons (.tup (.cons (.str "stop") .nil)) (.cons (.tup (.cons (.str "keep") (.cons (.str "a") (.cons (.int 1) .nil)))) (.cons (.tup (.cons (.str "keep") (.cons (.str "a") (.cons (.int 0) .nil)))) (.cons (.tup (.cons (.str "keep") (.cons (.str "a") (.cons (.bl true) .nil)))) .nil)))))))), .expr (.ext (.loc 3) (.lst (.cons (.tup (.cons (.str "free") (.cons (.str "a") (.cons (.int 1) .nil)))) (.cons (.tup (.cons (.str "write") (.cons (.str "a") .nil))) (.cons (.tup (.cons (.str "Keep") (.cons (.str "a") (.cons (.int 1) .nil)))) (.cons (.tup (.cons (.str "ahead") (.cons (.str "ahead") .nil))) (.cons (.tup (.cons (.str "dead") (.cons (.str "ahead") .nil))) .nil))))))), .expr (.ext (.loc 3) (.lst (.cons (.tup (.cons (.str "ahead") (.cons (.str "dead") .nil))) (.cons (.tup (.cons (.str "ahead") (.cons .non .nil))) (.cons (.str "ahead") (.cons (.tup (.cons (.str "old") .nil)) (.cons (.tup (.cons (.tup (.cons (.str "ahead") .nil)) .nil)) .nil))))))), .fors (.one 4) (.rng (.int 6)) [.asg 5 (.lst (.cons (.call i_law_deed (.cons (.loc 1) (.cons (.loc 2) .nil))) (.cons (.call i_law_record (.cons (.loc 1) (.cons (.loc 2) .nil))) (.cons (.call i_law_rule (.cons (.loc 1) .nil)) .nil)))), .expr (.ext (.loc 3) (.bin .Add (.loc 5) (.comp [6] (.one 6) (.seq (.loc 5)) .nil (.call i_law_bent (.cons (.loc 1) (.cons (.loc 6) .nil))))))], .ifs (.cmp .NotEq (.comp [7] (.one 7) (.seq (.loc 3)) (.cons (.not (.call i_law_are_right (.cons (.loc 7) .nil))) .nil) (.loc 7)) (.lst .nil)) [.ret (.bl false)] [], .asg 8 (.lstR (.cons (.callK i_is_integer "thing" (.int 1)) (.cons (.callK i_is_number "thing" (.int 1)) (.cons (.callK i_is_page "thing" (.str "a")) (.cons (.callK i_is_record "thing" (.tup (.cons (.str "free") (.cons (.str "a") .nil)))) .nil))))), .expr (.ext (.loc 8) (.lst (.cons (.callK i_is_deed "thing" (.tup (.cons (.str "end") .nil))) (.cons (.callK i_is_rule "thing" (.tup .nil)) .nil)))), .ret (.cmp .Eq (.reprL (.cons (.gd "GUARDS" d_GUARDS) (.cons (.gd "HARMS" d_HARMS) (.cons (.loc 8) .nil)))) (.bi .repr (.lst (.cons (.bi .tuple (.call i_law_guards .nil)) (.cons (.tup (.cons (.str "old") (.cons (.str "missed") (.cons (.str "open") .nil)))) (.cons (.bin .Mult (.lst (.cons (.bl true) .nil)) (.int 6)) .nil))))))]
def f_law : Fn := ⟨"law", ["_law_script", "_law_spring_here", "_law_pages_here", "_law_items", "_law_lap", "_law_made", "_law_one", "_law_item", "_law_told"], 1, b_law⟩
def fns : List Fn := [f_is_ascending, f_is_integer, f_is_number, f_is_page, f_is_guard, f_deed_parts, f_record_parts, f_has_word, f_is_part, f_are_parts, f_is_record, f_is_deed, f_is_rule, f_law_spring, f_law_dip, f_law_pick, f_law_is_integer, f_law_is_page, f_law_is_count, f_law_is_record, f_law_is_deed, f_law_guards, f_law_is_rule, f_law_rule, f_law_pages, f_law_deed, f_law_bent, f_law_record, f_law_are_right, f_law]
def srcs : List Src := [srcAt "is_ascending" 1, srcAt "is_integer" 8, srcAt "is_number" 9, srcAt "is_page" 10, srcAt "is_guard" 11, srcAt "deed_parts" 12, srcAt "record_parts" 13, srcAt "has_word" 14, srcAt "is_part" 15, srcAt "are_parts" 16, srcAt "is_record" 17, srcAt "is_deed" 18, srcAt "is_rule" 19, srcAt "_law_spring" 21, srcAt "_law_dip" 22, srcAt "_law_pick" 23, srcAt "_law_is_integer" 24, srcAt "_law_is_page" 25, srcAt "_law_is_count" 26, srcAt "_law_is_record" 27, srcAt "_law_is_deed" 28, srcAt "_law_guards" 29, srcAt "_law_is_rule" 30, srcAt "_law_rule" 31, srcAt "_law_pages" 32, srcAt "_law_deed" 33, srcAt "_law_bent" 34, srcAt "_law_record" 35, srcAt "_law_are_right" 36, srcAt "law" 37]
def T : Tab := ⟨fns, [("GUARDS", d_GUARDS), ("HARMS", d_HARMS), ("LETTERS", d_LETTERS)], [("DEED_PARTS", t_DEED_PARTS), ("RECORD_PARTS", t_RECORD_PARTS)]⟩
theorem ck0 : ckFn T f_is_ascending (srcAt "is_ascending" 1) = true := by kernel_rfl
theorem ck1 : ckFn T f_is_integer (srcAt "is_integer" 8) = true := by kernel_rfl
theorem ck2 : ckFn T f_is_number (srcAt "is_number" 9) = true := by kernel_rfl
theorem ck3 : ckFn T f_is_page (srcAt "is_page" 10) = true := by kernel_rfl
theorem ck4 : ckFn T f_is_guard (srcAt "is_guard" 11) = true := by kernel_rfl
theorem ck5 : ckFn T f_deed_parts (srcAt "deed_parts" 12) = true := by kernel_rfl
theorem ck6 : ckFn T f_record_parts (srcAt "record_parts" 13) = true := by kernel_rfl
theorem ck7 : ckFn T f_has_word (srcAt "has_word" 14) = true := by kernel_rfl
theorem ck8 : ckFn T f_is_part (srcAt "is_part" 15) = true := by kernel_rfl
theorem ck9 : ckFn T f_are_parts (srcAt "are_parts" 16) = true := by kernel_rfl
theorem ck10 : ckFn T f_is_record (srcAt "is_record" 17) = true := by kernel_rfl
theorem ck11 : ckFn T f_is_deed (srcAt "is_deed" 18) = true := by kernel_rfl
theorem ck12 : ckFn T f_is_rule (srcAt "is_rule" 19) = true := by kernel_rfl
theorem ck13 : ckFn T f_law_spring (srcAt "_law_spring" 21) = true := by kernel_rfl
theorem ck14 : ckFn T f_law_dip (srcAt "_law_dip" 22) = true := by kernel_rfl
theorem ck15 : ckFn T f_law_pick (srcAt "_law_pick" 23) = true := by kernel_rfl
theorem ck16 : ckFn T f_law_is_integer (srcAt "_law_is_integer" 24) = true := by kernel_rfl
theorem ck17 : ckFn T f_law_is_page (srcAt "_law_is_page" 25) = true := by kernel_rfl
theorem ck18 : ckFn T f_law_is_count (srcAt "_law_is_count" 26) = true := by kernel_rfl
theorem ck19 : ckFn T f_law_is_record (srcAt "_law_is_record" 27) = true := by kernel_rfl
theorem ck20 : ckFn T f_law_is_deed (srcAt "_law_is_deed" 28) = true := by kernel_rfl
theorem ck21 : ckFn T f_law_guards (srcAt "_law_guards" 29) = true := by kernel_rfl
theorem ck22 : ckFn T f_law_is_rule (srcAt "_law_is_rule" 30) = true := by kernel_rfl
theorem ck23 : ckFn T f_law_rule (srcAt "_law_rule" 31) = true := by kernel_rfl
theorem ck24 : ckFn T f_law_pages (srcAt "_law_pages" 32) = true := by kernel_rfl
theorem ck25 : ckFn T f_law_deed (srcAt "_law_deed" 33) = true := by kernel_rfl
theorem ck26 : ckFn T f_law_bent (srcAt "_law_bent" 34) = true := by kernel_rfl
theorem ck27 : ckFn T f_law_record (srcAt "_law_record" 35) = true := by kernel_rfl
theorem ck28 : ckFn T f_law_are_right (srcAt "_law_are_right" 36) = true := by kernel_rfl
theorem ck29 : ckFn T f_law (srcAt "law" 37) = true := by kernel_rfl
theorem c_is_ascending {n : Nat} {S : Sto} {Q : R → Sto → Prop} {r0 : R} (h : WS (callN fns n) b_is_ascending [some r0, none, none] S (finQ S Q)) : WC fns (n + 1) i_is_ascending [r0] S Q := wc_of rfl rfl h
theorem c_is_integer {n : Nat} {S : Sto} {Q : R → Sto → Prop} {r0 : R} (h : WS (callN fns n) b_is_integer [some r0] S (finQ S Q)) : WC fns (n + 1) i_is_integer [r0] S Q := wc_of rfl rfl h
theorem c_is_number {n : Nat} {S : Sto} {Q : R → Sto → Prop} {r0 : R} (h : WS (callN fns n) b_is_number [some r0] S (finQ S Q)) : WC fns (n + 1) i_is_number [r0] S Q := wc_of rfl rfl h
theorem c_is_page {n : Nat} {S : Sto} {Q : R → Sto → Prop} {r0 : R} (h : WS (callN fns n) b_is_page [some r0, none] S (finQ S Q)) : WC fns (n + 1) i_is_page [r0] S Q := wc_of rfl rfl h
theorem c_is_guard {n : Nat} {S : Sto} {Q : R → Sto → Prop} {r0 : R} (h : WS (callN fns n) b_is_guard [some r0] S (finQ S Q)) : WC fns (n + 1) i_is_guard [r0] S Q := wc_of rfl rfl h
theorem c_deed_parts {n : Nat} {S : Sto} {Q : R → Sto → Prop} {r0 : R} (h : WS (callN fns n) b_deed_parts [some r0] S (finQ S Q)) : WC fns (n + 1) i_deed_parts [r0] S Q := wc_of rfl rfl h
theorem c_record_parts {n : Nat} {S : Sto} {Q : R → Sto → Prop} {r0 : R} (h : WS (callN fns n) b_record_parts [some r0] S (finQ S Q)) : WC fns (n + 1) i_record_parts [r0] S Q := wc_of rfl rfl h
theorem c_has_word {n : Nat} {S : Sto} {Q : R → Sto → Prop} {r0 : R} (h : WS (callN fns n) b_has_word [some r0] S (finQ S Q)) : WC fns (n + 1) i_has_word [r0] S Q := wc_of rfl rfl h
theorem c_is_part {n : Nat} {S : Sto} {Q : R → Sto → Prop} {r0 r1 : R} (h : WS (callN fns n) b_is_part [some r0, some r1] S (finQ S Q)) : WC fns (n + 1) i_is_part [r0, r1] S Q := wc_of rfl rfl h
theorem c_are_parts {n : Nat} {S : Sto} {Q : R → Sto → Prop} {r0 r1 : R} (h : WS (callN fns n) b_are_parts [some r0, some r1, none, none] S (finQ S Q)) : WC fns (n + 1) i_are_parts [r0, r1] S Q := wc_of rfl rfl h
theorem c_is_record {n : Nat} {S : Sto} {Q : R → Sto → Prop} {r0 : R} (h : WS (callN fns n) b_is_record [some r0] S (finQ S Q)) : WC fns (n + 1) i_is_record [r0] S Q := wc_of rfl rfl h
theorem c_is_deed {n : Nat} {S : Sto} {Q : R → Sto → Prop} {r0 : R} (h : WS (callN fns n) b_is_deed [some r0] S (finQ S Q)) : WC fns (n + 1) i_is_deed [r0] S Q := wc_of rfl rfl h
theorem c_is_rule {n : Nat} {S : Sto} {Q : R → Sto → Prop} {r0 : R} (h : WS (callN fns n) b_is_rule [some r0, none] S (finQ S Q)) : WC fns (n + 1) i_is_rule [r0] S Q := wc_of rfl rfl h
theorem c_law_spring {n : Nat} {S : Sto} {Q : R → Sto → Prop} {r0 : R} (h : WS (callN fns n) b_law_spring [some r0] S (finQ S Q)) : WC fns (n + 1) i_law_spring [r0] S Q := wc_of rfl rfl h
theorem c_law_dip {n : Nat} {S : Sto} {Q : R → Sto → Prop} {r0 r1 : R} (h : WS (callN fns n) b_law_dip [some r0, some r1, none, none, none, none, none] S (finQ S Q)) : WC fns (n + 1) i_law_dip [r0, r1] S Q := wc_of rfl rfl h
theorem c_law_pick {n : Nat} {S : Sto} {Q : R → Sto → Prop} {r0 r1 : R} (h : WS (callN fns n) b_law_pick [some r0, some r1] S (finQ S Q)) : WC fns (n + 1) i_law_pick [r0, r1] S Q := wc_of rfl rfl h
theorem c_law_is_integer {n : Nat} {S : Sto} {Q : R → Sto → Prop} {r0 : R} (h : WS (callN fns n) b_law_is_integer [some r0] S (finQ S Q)) : WC fns (n + 1) i_law_is_integer [r0] S Q := wc_of rfl rfl h
theorem c_law_is_page {n : Nat} {S : Sto} {Q : R → Sto → Prop} {r0 : R} (h : WS (callN fns n) b_law_is_page [some r0, none] S (finQ S Q)) : WC fns (n + 1) i_law_is_page [r0] S Q := wc_of rfl rfl h
theorem c_law_is_count {n : Nat} {S : Sto} {Q : R → Sto → Prop} {r0 : R} (h : WS (callN fns n) b_law_is_count [some r0] S (finQ S Q)) : WC fns (n + 1) i_law_is_count [r0] S Q := wc_of rfl rfl h
theorem c_law_is_record {n : Nat} {S : Sto} {Q : R → Sto → Prop} {r0 : R} (h : WS (callN fns n) b_law_is_record [some r0] S (finQ S Q)) : WC fns (n + 1) i_law_is_record [r0] S Q := wc_of rfl rfl h
theorem c_law_is_deed {n : Nat} {S : Sto} {Q : R → Sto → Prop} {r0 : R} (h : WS (callN fns n) b_law_is_deed [some r0] S (finQ S Q)) : WC fns (n + 1) i_law_is_deed [r0] S Q := wc_of rfl rfl h
theorem c_law_guards {n : Nat} {S : Sto} {Q : R → Sto → Prop} (h : WS (callN fns n) b_law_guards [none] S (finQ S Q)) : WC fns (n + 1) i_law_guards [] S Q := wc_of rfl rfl h
theorem c_law_is_rule {n : Nat} {S : Sto} {Q : R → Sto → Prop} {r0 : R} (h : WS (callN fns n) b_law_is_rule [some r0, none] S (finQ S Q)) : WC fns (n + 1) i_law_is_rule [r0] S Q := wc_of rfl rfl h
theorem c_law_rule {n : Nat} {S : Sto} {Q : R → Sto → Prop} {r0 : R} (h : WS (callN fns n) b_law_rule [some r0, none, none, none, none] S (finQ S Q)) : WC fns (n + 1) i_law_rule [r0] S Q := wc_of rfl rfl h
theorem c_law_pages {n : Nat} {S : Sto} {Q : R → Sto → Prop} {r0 : R} (h : WS (callN fns n) b_law_pages [some r0, none] S (finQ S Q)) : WC fns (n + 1) i_law_pages [r0] S Q := wc_of rfl rfl h
theorem c_law_deed {n : Nat} {S : Sto} {Q : R → Sto → Prop} {r0 r1 : R} (h : WS (callN fns n) b_law_deed [some r0, some r1, none, none] S (finQ S Q)) : WC fns (n + 1) i_law_deed [r0, r1] S Q := wc_of rfl rfl h
theorem c_law_bent {n : Nat} {S : Sto} {Q : R → Sto → Prop} {r0 r1 : R} (h : WS (callN fns n) b_law_bent [some r0, some r1, none, none, none] S (finQ S Q)) : WC fns (n + 1) i_law_bent [r0, r1] S Q := wc_of rfl rfl h
theorem c_law_record {n : Nat} {S : Sto} {Q : R → Sto → Prop} {r0 r1 : R} (h : WS (callN fns n) b_law_record [some r0, some r1, none, none] S (finQ S Q)) : WC fns (n + 1) i_law_record [r0, r1] S Q := wc_of rfl rfl h
theorem c_law_are_right {n : Nat} {S : Sto} {Q : R → Sto → Prop} {r0 : R} (h : WS (callN fns n) b_law_are_right [some r0, none, none] S (finQ S Q)) : WC fns (n + 1) i_law_are_right [r0] S Q := wc_of rfl rfl h
theorem c_law {n : Nat} {S : Sto} {Q : R → Sto → Prop} {r0 : R} (h : WS (callN fns n) b_law [some r0, none, none, none, none, none, none, none, none] S (finQ S Q)) : WC fns (n + 1) i_law [r0] S Q := wc_of rfl rfl h
end PL.W
end
section
set_option maxHeartbeats 0
namespace PL.W
open PySem PySem.Spec PyProof.Rows L2 PL
abbrev Rw : PySem.W.OpenRow := PySem.W.OpenLaw.row PySem.Challenge.rw_pagelives_k01_kinds
abbrev hk : PySem.W.Hook := He.hookX 4 (faOf T) (fnsOf T srcs) (tsOf T) [] (exB T)
def ob (s : PySem.W.SharedT) : He.AlX := He.obsX 4 (faOf T) (fnsOf T srcs) (tsOf T) [] (exB T) (HandSHeadRun.getT s)
theorem ob_eq (s : PySem.W.SharedT) : ob s = hk.obs s.abs := He.obsX_eq (HandSHeadRun.getT_eq s)
def names0 : List PySem.Str := ["is_ascending", "GUARDS", "HARMS", "LETTERS", "DEED_PARTS", "RECORD_PARTS", "is_integer", "is_number", "is_page", "is_guard", "deed_parts", "record_parts", "has_word", "is_part", "are_parts", "is_record", "is_deed", "is_rule", "_law_spring", "_law_dip"]
def names1 : List PySem.Str := ["_law_pick", "_law_is_integer", "_law_is_page", "_law_is_count", "_law_is_record", "_law_is_deed", "_law_guards", "_law_is_rule", "_law_rule", "_law_pages", "_law_deed", "_law_bent", "_law_record", "_law_are_right"]
def names : List PySem.Str := names0 ++ names1
abbrev lawAt : Nat := 37
theorem hrunF (w : World) : HandSHeadRun.RunEq Rw (PySem.W.view Rw.prog [lawAt]) hk ob 4000 names (w.withFollow "special-get-raises" false) := by
  intro os
  kernel_rfl
theorem hrunT (w : World) : HandSHeadRun.RunEq Rw (PySem.W.view Rw.prog [lawAt]) hk ob 4000 names (w.withFollow "special-get-raises" true) := by
  intro os
  kernel_rfl
theorem hrun (w : World) : HandSHeadRun.RunEq Rw (PySem.W.view Rw.prog [lawAt]) hk ob 4000 names w :=
  PySem.W.byRow2 "special-get-raises" (P := fun w => HandSHeadRun.RunEq Rw (PySem.W.view Rw.prog [lawAt]) hk ob 4000 names w) hrunF hrunT w
end PL.W
end
section
set_option maxHeartbeats 2000000
namespace PL
open PySem PySem.Spec PyProof.Rows L2
section
variable {i j : Int} {a b : Str} {S : Sto} {Q : D → Prop} {xs ys : List D} {k : Bool} {B : Bool → Prop}
theorem lf_add (q : Q (.int (i + j))) : ∃ g w, gBin .Add = some g ∧ bin2 g (.d (.int i)) (.d (.int j)) S = some w ∧ Q w := ⟨_, _, rfl, rfl, q⟩
theorem lf_sub (q : Q (.int (i - j))) : ∃ g w, gBin .Sub = some g ∧ bin2 g (.d (.int i)) (.d (.int j)) S = some w ∧ Q w := ⟨_, _, rfl, rfl, q⟩
theorem lf_mul (h : i.natAbs.log2 + j.natAbs.log2 < 1000000) (q : Q (.int (i * j))) : ∃ g w, gBin .Mult = some g ∧ bin2 g (.d (.int i)) (.d (.int j)) S = some w ∧ Q w :=
  ⟨_, _, rfl, (show (if i.natAbs.log2 + j.natAbs.log2 < 1000000 then some (PyData.int (i * j)) else none) = _ by rw [if_pos h]), q⟩
theorem lf_mod (h : 0 < j) (q : Q (.int (i % j))) : ∃ g w, gBin .Mod = some g ∧ bin2 g (.d (.int i)) (.d (.int j)) S = some w ∧ Q w :=
  ⟨_, _, rfl, (show (if 0 < j then some (PyData.int (i % j)) else none) = _ by rw [if_pos h]), q⟩
theorem lf_div (h : 0 < j ∧ j.natAbs.log2 < 9000) (q : Q (.int (i / j))) : ∃ g w, gBin .FloorDiv = some g ∧ bin2 g (.d (.int i)) (.d (.int j)) S = some w ∧ Q w :=
  ⟨_, _, rfl, (show (if 0 < j ∧ j.natAbs.log2 < 9000 then some (PyData.int (i / j)) else none) = _ by rw [if_pos h]), q⟩
theorem lf_pow (h : 0 ≤ j ∧ j ≤ 1000000 ∧ i.natAbs < 2 ^ 64) (q : Q (.int (i ^ j.toNat))) : ∃ g w, gBin .Pow = some g ∧ bin2 g (.d (.int i)) (.d (.int j)) S = some w ∧ Q w :=
  ⟨_, _, rfl, (show (if 0 ≤ j ∧ j ≤ 1000000 ∧ i.natAbs < 2 ^ 64 then some (PyData.int (i ^ j.toNat)) else none) = _ by rw [if_pos h]), q⟩
theorem lf_addT (h : xs.length + ys.length ≤ sizeLine) (q : Q (.tuple (xs ++ ys))) : ∃ g w, gBin .Add = some g ∧ bin2 g (.d (.tuple xs)) (.d (.tuple ys)) S = some w ∧ Q w :=
  ⟨_, _, rfl, (show (if xs.length + ys.length ≤ sizeLine then some (PyData.tuple (xs ++ ys)) else none) = _ by rw [if_pos h]), q⟩
theorem lf_addL (h : xs.length + ys.length ≤ sizeLine) (q : Q (.list (xs ++ ys))) : ∃ g w, gBin .Add = some g ∧ bin2 g (.d (.list xs)) (.d (.list ys)) S = some w ∧ Q w :=
  ⟨_, _, rfl, (show (if xs.length + ys.length ≤ sizeLine then some (PyData.list (xs ++ ys)) else none) = _ by rw [if_pos h]), q⟩
theorem lf_lt (q : Q (.bool (decide (i < j)))) : ∃ w, bin2 (gCmp .Lt) (.d (.int i)) (.d (.int j)) S = some w ∧ Q w := ⟨_, rfl, q⟩
theorem lf_le (q : Q (.bool (decide (i ≤ j)))) : ∃ w, bin2 (gCmp .LtE) (.d (.int i)) (.d (.int j)) S = some w ∧ Q w := ⟨_, rfl, q⟩
theorem lf_gt (q : Q (.bool (decide (j < i)))) : ∃ w, bin2 (gCmp .Gt) (.d (.int i)) (.d (.int j)) S = some w ∧ Q w := ⟨_, rfl, q⟩
theorem lf_ge (q : Q (.bool (decide (j ≤ i)))) : ∃ w, bin2 (gCmp .GtE) (.d (.int i)) (.d (.int j)) S = some w ∧ Q w := ⟨_, rfl, q⟩
theorem lf_eqI (q : Q (.bool (decide (i = j)))) : ∃ w, bin2 (gCmp .Eq) (.d (.int i)) (.d (.int j)) S = some w ∧ Q w := ⟨_, rfl, q⟩
theorem lf_neI (q : Q (.bool (!decide (i = j)))) : ∃ w, bin2 (gCmp .NotEq) (.d (.int i)) (.d (.int j)) S = some w ∧ Q w := ⟨_, rfl, q⟩
theorem eqvS : PyData.eqv (.str a) (.str b) = decide (a = b) := by
  show (a == b) = _
  by_cases h : a = b
  · subst h; rw [decide_eq_true rfl]; exact beq_self_eq_true a
  · rw [decide_eq_false h]; exact beq_eq_false_iff_ne.mpr h
theorem lf_eqS (q : Q (.bool (decide (a = b)))) : ∃ w, bin2 (gCmp .Eq) (.d (.str a)) (.d (.str b)) S = some w ∧ Q w := ⟨_, by rw [← eqvS]; rfl, q⟩
theorem lf_neS (q : Q (.bool (!decide (a = b)))) : ∃ w, bin2 (gCmp .NotEq) (.d (.str a)) (.d (.str b)) S = some w ∧ Q w := ⟨_, by rw [← eqvS]; rfl, q⟩
theorem lf_isN (q : Q (.bool true)) : ∃ w, bin2 (gCmp .Is) (.d .none) (.d .none) S = some w ∧ Q w := ⟨_, rfl, q⟩
theorem lf_isI (q : Q (.bool false)) : ∃ w, bin2 (gCmp .Is) (.d (.int i)) (.d .none) S = some w ∧ Q w := ⟨_, rfl, q⟩
theorem lf_isnN (q : Q (.bool false)) : ∃ w, bin2 (gCmp .IsNot) (.d .none) (.d .none) S = some w ∧ Q w := ⟨_, rfl, q⟩
theorem lf_isnI (q : Q (.bool true)) : ∃ w, bin2 (gCmp .IsNot) (.d (.int i)) (.d .none) S = some w ∧ Q w := ⟨_, rfl, q⟩
theorem lf_tb (q : B k) : ∃ t, truth (.d (.bool k)) S = some t ∧ B t := ⟨_, rfl, q⟩
theorem lf_tl (q : B (!xs.isEmpty)) : ∃ t, truth (.d (.list xs)) S = some t ∧ B t := ⟨_, rfl, q⟩
theorem lf_tt (q : B (!xs.isEmpty)) : ∃ t, truth (.d (.tuple xs)) S = some t ∧ B t := ⟨_, rfl, q⟩
theorem lf_int (q : Q (.int i)) : ∃ w, un1 (Bi.fn .int) (.d (.int i)) S = some w ∧ Q w := ⟨_, rfl, q⟩
theorem lf_lenL (q : Q (.int xs.length)) : ∃ w, un1 (Bi.fn .len) (.d (.list xs)) S = some w ∧ Q w := ⟨_, rfl, q⟩
theorem lf_lenT (q : Q (.int xs.length)) : ∃ w, un1 (Bi.fn .len) (.d (.tuple xs)) S = some w ∧ Q w := ⟨_, rfl, q⟩
theorem lf_lenS (h : a.length ≤ sizeLine) (q : Q (.int a.length)) : ∃ w, un1 (Bi.fn .len) (.d (.str a)) S = some w ∧ Q w := ⟨_, (show (if a.length ≤ sizeLine then some (PyData.int a.length) else none) = _ by rw [if_pos h]), q⟩
theorem lf_tupL (q : Q (.tuple xs)) : ∃ w, un1 (Bi.fn .tuple) (.d (.list xs)) S = some w ∧ Q w := ⟨_, rfl, q⟩
theorem lf_tupT (q : Q (.tuple xs)) : ∃ w, un1 (Bi.fn .tuple) (.d (.tuple xs)) S = some w ∧ Q w := ⟨_, rfl, q⟩
theorem lf_listL (q : Q (.list xs)) : ∃ w, un1 (Bi.fn .list) (.d (.list xs)) S = some w ∧ Q w := ⟨_, rfl, q⟩
theorem lf_listT (q : Q (.list xs)) : ∃ w, un1 (Bi.fn .list) (.d (.tuple xs)) S = some w ∧ Q w := ⟨_, rfl, q⟩
theorem lf_view {x w : D} {Q : D → Prop} (q : Q x) : ∃ w, view (.d x) S = some w ∧ Q w := ⟨_, rfl, q⟩
theorem lf_ix0T {d : D} (q : Q d) : ∃ w, ixR (.d (.tuple (d :: xs))) (.d (.int 0)) S = some w ∧ Q w :=
  ⟨d, (show atI (d :: xs) 0 = _ by unfold atI ixN; rw [if_pos (by decide), if_pos (by rw [List.length_cons]; omega)]; rfl), q⟩
theorem lf_ix1T {c d : D} (q : Q d) : ∃ w, ixR (.d (.tuple (c :: d :: xs))) (.d (.int 1)) S = some w ∧ Q w :=
  ⟨d, (show atI (c :: d :: xs) 1 = _ by unfold atI ixN; rw [if_pos (by decide), if_pos (by rw [List.length_cons, List.length_cons]; omega)]; rfl), q⟩
theorem lf_ix2T {b c d : D} (q : Q d) : ∃ w, ixR (.d (.tuple (b :: c :: d :: xs))) (.d (.int 2)) S = some w ∧ Q w :=
  ⟨d, (show atI (b :: c :: d :: xs) 2 = _ by unfold atI ixN; rw [if_pos (by decide), if_pos (by rw [List.length_cons, List.length_cons, List.length_cons]; omega)]; rfl), q⟩
theorem lf_sl1 {d : D} (q : Q (.tuple xs)) : ∃ w, slR (.d (.tuple (d :: xs))) (some 1) none S = some w ∧ Q w := by
  have e : cutL (d :: xs) (some 1) none = xs := by
    unfold cutL
    have h1 : HT.sIx (d :: xs).length 0 (some 1) = 1 := by
      simp only [HT.sIx, List.length_cons]
      simp
    have h2 : HT.sIx (d :: xs).length (d :: xs).length none = (d :: xs).length := rfl
    rw [h1, h2]
    simp
  exact ⟨_, (show some (PyData.tuple (cutL (d :: xs) (some 1) none)) = _ by rw [e]), q⟩
theorem flatS (a : Str) (ys : List Str) : (ys.map PyData.str).all flatD = true := by
  rw [List.all_map, List.all_eq_true]
  intro x _
  rfl
theorem lf_inM {ys : List Str} (q : Q (.bool (decide (a ∈ ys)))) : ∃ w, bin2 (gCmp .In) (.d (.str a)) (.d (.tuple (ys.map .str))) S = some w ∧ Q w := by
  refine ⟨_, ?_, q⟩
  clear q
  show (inSeq (.str a) (ys.map .str)).map PyData.bool = _
  unfold inSeq
  rw [if_pos ⟨flatS a ys, .inl rfl⟩, Option.map_some]
  congr 2
  induction ys with
  | nil => simp
  | cons y r ih =>
    rw [List.map_cons, List.any_cons, ih, eqvS]
    by_cases h : y = a
    · subst h; simp
    · have : ¬ a = y := fun z => h z.symm
      simp [h, this]
theorem lf_in2 {b c : Str} (q : Q (.bool (decide (a = b) || decide (a = c)))) : ∃ w, bin2 (gCmp .In) (.d (.str a)) (.d (.tuple [.str b, .str c])) S = some w ∧ Q w := by
  have := lf_inM (a := a) (S := S) (ys := [b, c]) (Q := Q)
  refine this ?_
  have e : decide (a ∈ [b, c]) = (decide (a = b) || decide (a = c)) := by simp
  rw [e]; exact q
theorem lf_in3 {b c d : Str} (q : Q (.bool (decide (a = b) || (decide (a = c) || decide (a = d))))) : ∃ w, bin2 (gCmp .In) (.d (.str a)) (.d (.tuple [.str b, .str c, .str d])) S = some w ∧ Q w := by
  have := lf_inM (a := a) (S := S) (ys := [b, c, d]) (Q := Q)
  refine this ?_
  have e : decide (a ∈ [b, c, d]) = (decide (a = b) || (decide (a = c) || decide (a = d))) := by simp
  rw [e]; exact q
theorem lf_slL {lo hi : Option Int} (q : Q (.list (cutL xs lo hi))) : ∃ w, slR (.d (.list xs)) lo hi S = some w ∧ Q w := ⟨_, rfl, q⟩
theorem lf_slT {lo hi : Option Int} (q : Q (.tuple (cutL xs lo hi))) : ∃ w, slR (.d (.tuple xs)) lo hi S = some w ∧ Q w := ⟨_, rfl, q⟩
end
end PL
end
section
set_option maxHeartbeats 2000000
namespace PL
open PySem PySem.Spec PyProof.Rows L2
/-! what may be shown -/
structure Neat (k w : Nat) (d : D) : Prop where
  lay : d.canLay0 = true
  sh : d.showable = true
  dep : d.depth ≤ k
  wt : d.weight ≤ w
  isn : d.intsShort 62 = true
theorem Neat.mono {k w k' w' : Nat} {d : D} (h : Neat k w d) (hk : k ≤ k') (hw : w ≤ w') : Neat k' w' d := ⟨h.lay, h.sh, Nat.le_trans h.dep hk, Nat.le_trans h.wt hw, h.isn⟩
theorem neat_none {k w : Nat} : Neat k w .none := ⟨rfl, rfl, by simp [PyData.depth], by simp [PyData.weight], rfl⟩
theorem neat_bool {k w : Nat} {b : Bool} : Neat k w (.bool b) := ⟨rfl, rfl, by simp [PyData.depth], by simp [PyData.weight], rfl⟩
theorem neat_str {k w : Nat} {x : Str} (h : PyData.strOk x = true) (hl : x.length ≤ w) : Neat k w (.str x) := ⟨by simpa [PyData.canLay0] using h, rfl, by simp [PyData.depth], by simp only [PyData.weight]; exact hl, rfl⟩
theorem lg_lt {a b : Nat} (h : a < 2 ^ b) (hb : 0 < b) : a.log2 < b := by
  by_cases ha : a = 0
  · subst ha; simpa using hb
  · exact (Nat.log2_lt ha).mpr h
theorem neat_int {k : Nat} {i : Int} (h : i.natAbs < 10 ^ 60) : Neat k 200 (.int i) := by
  have h2 : i.natAbs < 2 ^ 200 := Nat.lt_of_lt_of_le h (by decide)
  have l := lg_lt h2 (by decide)
  refine ⟨rfl, ?_, by simp [PyData.depth], ?_, ?_⟩
  · simp only [PyData.showable, decide_eq_true_eq]; omega
  · simp only [PyData.weight]
    split
    · omega
    · omega
  · simp only [PyData.intsShort, decide_eq_true_eq]
    have e := int_text_length_le10 (k := 60) (by decide) h
    show (Str.ofString (toString i)).length ≤ 62
    rw [PySem.ofString_length]
    omega
theorem neat_all {k w : Nat} : ∀ {ds : List D}, (∀ d ∈ ds, Neat k w d) → PyData.canLayAll0 ds = true ∧ PyData.showableAll ds = true ∧ PyData.depthAll ds ≤ k ∧ PyData.weightAll ds ≤ ds.length * (w + 1) ∧ PyData.intsShortAll 62 ds = true
  | [], _ => ⟨rfl, rfl, by simp [PyData.depthAll], by simp [PyData.weightAll], rfl⟩
  | d :: ds, h => by
    obtain ⟨a, b, c, e, f⟩ := neat_all (ds := ds) fun x hx => h x (List.mem_cons_of_mem _ hx)
    have hd := h d List.mem_cons_self
    refine ⟨by simp [PyData.canLayAll0, hd.lay, a], by simp [PyData.showableAll, hd.sh, b], ?_, ?_, by simp [PyData.intsShortAll, hd.isn, f]⟩
    · simp only [PyData.depthAll]
      exact Nat.max_le.mpr ⟨hd.dep, c⟩
    · simp only [PyData.weightAll, List.length_cons, Nat.succ_mul]
      have := hd.wt
      omega
theorem neat_tuple {k w w' : Nat} {ds : List D} (h : ∀ d ∈ ds, Neat k w d) (hw : ds.length * (w + 1) ≤ w') : Neat (k + 1) w' (.tuple ds) := by
  obtain ⟨a, b, c, e, f⟩ := neat_all h
  exact ⟨by simpa [PyData.canLay0] using a, by simpa [PyData.showable] using b, by simp only [PyData.depth]; omega, by simp only [PyData.weight]; omega, by simpa [PyData.intsShort] using f⟩
theorem neat_list {k w w' : Nat} {ds : List D} (h : ∀ d ∈ ds, Neat k w d) (hw : ds.length * (w + 1) ≤ w') : Neat (k + 1) w' (.list ds) := by
  obtain ⟨a, b, c, e, f⟩ := neat_all h
  exact ⟨by simpa [PyData.canLay0] using a, by simpa [PyData.showable] using b, by simp only [PyData.depth]; omega, by simp only [PyData.weight]; omega, by simpa [PyData.intsShort] using f⟩
theorem Neat.len {k w : Nat} {d : D} (h : Neat k w d) (hw : w ≤ 200000) : d.shown.length ≤ sizeLine := by
  have := PyData.shown_le 62 (by decide) d (PyData.leavesShort_of_canLay0 62 d h.lay h.isn)
  have hh := h.wt
  have e : sizeLine = 16777216 := by decide
  rw [e]
  omega
theorem Neat.repr {k w : Nat} {d : D} (h : Neat k w d) (hk : k ≤ 50) (hw : w ≤ 200000) (S : Sto) : un1 (Bi.fn .repr) (.d d) S = some (.str d.shown) := by
  have hl := h.len hw
  have hs := h.sh
  have hd : d.hasDict = false := PyData.hasDict_of_canLay d h.lay
  have hk := Nat.le_trans h.dep hk
  show gRepr d = _
  have big : shownOk d = true := by
    unfold shownOk
    rw [hs, hd, decide_eq_true hk, decide_eq_true hl]; rfl
  cases d with
  | none => rfl
  | bool b => rfl
  | int i =>
    have : i.natAbs.log2 < 1920 := by simpa [PyData.showable] using hs
    show (if i.natAbs.log2 < 1920 then some (PyData.str (toString i)) else none) = _
    rw [if_pos this]; rfl
  | str x =>
    have hl : (reprText x).length ≤ sizeLine := hl
    show (if (reprText x).length ≤ sizeLine then some (PyData.str (reprText x)) else none) = _
    rw [if_pos hl]; rfl
  | list xs =>
    show (if shownOk (.list xs) = true then some (PyData.str (PyData.shown (.list xs))) else none) = _
    rw [if_pos big]
  | tuple xs =>
    show (if shownOk (.tuple xs) = true then some (PyData.str (PyData.shown (.tuple xs))) else none) = _
    rw [if_pos big]
  | dict _ => simp [PyData.hasDict] at hd
theorem lf_repr {k w : Nat} {d : D} {S : Sto} {Q : D → Prop} (h : Neat k w d) (hk : k ≤ 50) (hw : w ≤ 200000) (q : Q (.str d.shown)) : ∃ u, un1 (Bi.fn .repr) (.d d) S = some u ∧ Q u := ⟨_, h.repr hk hw S, q⟩
theorem lf_eqSame {a : Str} {S : Sto} {Q : D → Prop} (q : Q (.bool true)) : ∃ w, bin2 (gCmp .Eq) (.d (.str a)) (.d (.str a)) S = some w ∧ Q w := lf_eqS (by rw [decide_eq_true rfl]; exact q)
theorem lf_neSame {a : Str} {S : Sto} {Q : D → Prop} (q : Q (.bool false)) : ∃ w, bin2 (gCmp .NotEq) (.d (.str a)) (.d (.str a)) S = some w ∧ Q w := lf_neS (by rw [decide_eq_true rfl]; exact q)
end PL
end
section
set_option maxHeartbeats 4000000
open PL PySem PySem.Spec PyProof.Rows L2
local macro_rules | `(tactic| contradiction) => `(tactic| (first
  | with_reducible refine ws_asg ?_ | with_reducible refine ws_asgL ?_ | with_reducible refine ws_par ?_ | with_reducible refine ws_parC ?_ | with_reducible refine ws_unp ?_ | with_reducible refine ws_dset ?_
  | with_reducible refine ws_expr ?_ | with_reducible refine ws_ret ?_ | with_reducible refine ws_ret0 ?_ | with_reducible refine ws_pass ?_ | with_reducible refine ws_brk ?_ | with_reducible refine ws_cont ?_ | with_reducible refine ws_if ?_ | with_reducible refine ws_for ?_ | with_reducible refine ws_nil ?_
  | with_reducible refine we_int ?_ | with_reducible refine we_str ?_ | with_reducible refine we_bl ?_ | with_reducible refine we_non ?_ | with_reducible refine we_gd ?_
  | ((with_reducible apply we_loc); rfl)
  | with_reducible refine we_bin ?_ | with_reducible refine we_cmp ?_ | with_reducible refine we_cmp2 ?_ | with_reducible refine we_bop ?_ | with_reducible refine wb_nil ?_ | with_reducible refine wb_cons ?_ | with_reducible refine we_not ?_ | with_reducible refine we_neg ?_ | with_reducible refine we_ite ?_
  | with_reducible refine we_tup ?_ | with_reducible refine we_lst ?_ | with_reducible refine we_lstR ?_ | with_reducible refine we_dic0 ?_ | with_reducible refine we_dic ?_ | with_reducible refine we_ix ?_ | with_reducible refine we_sl ?_ | with_reducible refine wo_no ?_ | with_reducible refine wo_so ?_
  | with_reducible refine we_bi ?_ | with_reducible refine we_isi ?_ | with_reducible refine we_call ?_ | with_reducible refine we_callK ?_ | with_reducible refine we_comp ?_ | with_reducible refine we_compR ?_ | with_reducible refine we_get2 ?_ | with_reducible refine we_app ?_ | with_reducible refine we_ext ?_ | with_reducible refine we_join ?_
  | with_reducible refine we_gget2 ?_ | with_reducible refine we_gget ?_ | with_reducible refine we_gix ?_ | with_reducible refine we_gin ?_ | with_reducible refine we_sset ?_ | with_reducible refine we_sortd ?_ | with_reducible refine we_rev ?_ | with_reducible refine we_reprL ?_ | ((with_reducible apply lfV); rfl; exact Nat.le_of_ble_eq_true rfl) | with_reducible refine wes_nil ?_ | with_reducible refine wes_cons ?_ | with_reducible refine wt_nil ?_ | with_reducible refine wt_one ?_
  | with_reducible refine wi_rng ?_ | with_reducible refine wi_rng2 ?_ | with_reducible refine wi_zip ?_ | with_reducible refine wi_enm ?_ | with_reducible refine wi_seq ?_
  | with_reducible refine then_nx ?_ | with_reducible refine then_bk ?_ | with_reducible refine then_ct ?_ | with_reducible refine then_rt ?_ | with_reducible refine qf_same ?_ | with_reducible refine qf_app ?_ | with_reducible refine qf_cons ?_ | with_reducible refine qf_consA ?_ | with_reducible refine qf_ref ?_ | with_reducible refine qf_d ?_ | with_reducible refine qf_nx ?_
  | ((with_reducible apply wk_eq); with_reducible assumption)
  | (with_reducible refine limp (fun hb => ?_) (fun hb => ?_) <;> (first | (cases hb; done) | cases hb | (try rw [hb])))
  | with_reducible refine lf_add ?_ | with_reducible refine lf_sub ?_ | ((with_reducible apply lf_mod); (first | assumption | decide)) | ((with_reducible apply lf_div); (first | assumption | decide)) | with_reducible refine lf_lt ?_ | with_reducible refine lf_le ?_ | with_reducible refine lf_gt ?_ | with_reducible refine lf_ge ?_ | with_reducible refine lf_eqI ?_ | with_reducible refine lf_neI ?_ | with_reducible refine lf_eqSame ?_ | with_reducible refine lf_neSame ?_ | with_reducible refine lf_eqS ?_ | with_reducible refine lf_neS ?_
  | with_reducible refine lf_isN ?_ | with_reducible refine lf_isI ?_ | with_reducible refine lf_isnN ?_ | with_reducible refine lf_isnI ?_ | with_reducible refine lf_tb ?_ | with_reducible refine lf_tl ?_ | with_reducible refine lf_tt ?_ | with_reducible refine lf_int ?_ | with_reducible refine lf_lenL ?_ | with_reducible refine lf_lenT ?_ | ((with_reducible apply lf_lenS); assumption) | with_reducible refine lf_tupL ?_ | with_reducible refine lf_tupT ?_ | with_reducible refine lf_listL ?_ | with_reducible refine lf_listT ?_ | with_reducible refine lf_view ?_ | with_reducible refine lf_in2 ?_ | with_reducible refine lf_in3 ?_ | with_reducible refine lf_inM ?_ | with_reducible refine lf_ix0T ?_ | with_reducible refine lf_ix1T ?_ | with_reducible refine lf_ix2T ?_ | with_reducible refine lf_sl1 ?_ | with_reducible refine lf_slL ?_ | with_reducible refine lf_slT ?_
  | ((with_reducible apply lf_pow); decide) | with_reducible refine lf_mul ?_ ?_ | with_reducible refine lf_pow ?_ ?_ | ((with_reducible apply lf_addT); exact Nat.le_of_ble_eq_true rfl) | ((with_reducible apply lf_addL); exact Nat.le_of_ble_eq_true rfl) | with_reducible refine lf_addT ?_ ?_ | with_reducible refine lf_addL ?_ ?_
  | ((with_reducible apply lf2); rfl; rfl) | ((with_reducible apply lf3); rfl; exact Nat.le_of_ble_eq_true rfl) | ((with_reducible apply lf4); rfl; decide) | ((with_reducible apply lfU); rfl; rfl)
  | with_reducible refine ls_l ?_ | with_reducible refine ls_t ?_ | with_reducible refine ls_s ?_ | ((with_reducible apply ls_r); rfl) | with_reducible refine le_l ?_ | with_reducible refine le_t ?_ | with_reducible refine le_s ?_ | with_reducible refine lz_l ?_ | with_reducible refine lz_t ?_
  | ((with_reducible apply lfR); (first | decide | omega)) | ((with_reducible apply lfR2); (first | decide | omega)) | with_reducible refine lfI ?_
  | ((with_reducible apply lf); rfl) | ((with_reducible apply lfB); rfl) | ((with_reducible apply land); rfl)))
local macro_rules | `(tactic| nofun) => `(tactic| repeat' contradiction)
namespace PL.W
open PySem PySem.Spec PyProof.Rows L2 PL
/-! ### numbers -/
theorem mod_rng (i : Int) {m : Int} (h : 0 < m) : 0 ≤ i % m ∧ i % m < m := ⟨Int.emod_nonneg _ (by omega), Int.emod_lt_of_pos _ h⟩
theorem mod_ok {i j : Int} {S : Sto} (h : 0 < j) : bin2 gMod (.d (.int i)) (.d (.int j)) S = some (.int (i % j)) := by
  show (if 0 < j then some (PyData.int (i % j)) else none) = _
  rw [if_pos h]
theorem div_ok {i j : Int} {S : Sto} (h : 0 < j) (k : j.natAbs.log2 < 9000) : bin2 gDiv (.d (.int i)) (.d (.int j)) S = some (.int (i / j)) := by
  show (if 0 < j ∧ j.natAbs.log2 < 9000 then some (PyData.int (i / j)) else none) = _
  rw [if_pos ⟨h, k⟩]
theorem mul_ok {i j : Int} {S : Sto} (h : i.natAbs.log2 + j.natAbs.log2 < 1000000) : bin2 gMul (.d (.int i)) (.d (.int j)) S = some (.int (i * j)) := by
  show (if i.natAbs.log2 + j.natAbs.log2 < 1000000 then some (PyData.int (i * j)) else none) = _
  rw [if_pos h]
theorem pow_ok {i j : Int} {S : Sto} (h : 0 ≤ j) (k : j ≤ 1000000) (l : i.natAbs < 2 ^ 64) : bin2 gPow (.d (.int i)) (.d (.int j)) S = some (.int (i ^ j.toNat)) := by
  show (if 0 ≤ j ∧ j ≤ 1000000 ∧ i.natAbs < 2 ^ 64 then some (PyData.int (i ^ j.toNat)) else none) = _
  rw [if_pos ⟨h, k, l⟩]
theorem log_lt {a b : Nat} (h : a < 2 ^ b) (hb : 0 < b) : a.log2 < b := by
  by_cases ha : a = 0
  · subst ha; simpa using hb
  · exact (Nat.log2_lt ha).mpr h
theorem pow18 {S : Sto} : bin2 gPow (.d (.int 10)) (.d (.int 18)) S = some (.int (10 ^ 18)) := pow_ok (by decide) (by decide) (by decide)
theorem pow59 {S : Sto} : bin2 gPow (.d (.int 10)) (.d (.int 59)) S = some (.int (10 ^ 59)) := pow_ok (by decide) (by decide) (by decide)
theorem pow9 {S : Sto} : bin2 gPow (.d (.int 10)) (.d (.int 9)) S = some (.int (10 ^ 9)) := pow_ok (by decide) (by decide) (by decide)
/-! ### the spring -/
def spO (cs : List Int) (p r c : Int) : Ob := .dic [(.inr "cells", .list (cs.map .int)), (.inr "place", .int p), (.inr "rest", .int r), (.inr "count", .int c)]
section
variable {cs : List Int} {p r c x : Int} {T : Sto}
theorem sp_count : ixR (.ref 0) (.d (.str "count")) (spO cs p r c :: T) = some (.int c) := rfl
theorem sp_place : ixR (.ref 0) (.d (.str "place")) (spO cs p r c :: T) = some (.int p) := rfl
theorem sp_rest : ixR (.ref 0) (.d (.str "rest")) (spO cs p r c :: T) = some (.int r) := rfl
theorem sp_cells : ixR (.ref 0) (.d (.str "cells")) (spO cs p r c :: T) = some (.list (cs.map .int)) := rfl
theorem st_count : dsetR (.ref 0) (.d (.str "count")) (.d (.int x)) (spO cs p r c :: T) = some (spO cs p r x :: T) := rfl
theorem st_place : dsetR (.ref 0) (.d (.str "place")) (.d (.int x)) (spO cs p r c :: T) = some (spO cs x r c :: T) := rfl
theorem st_rest : dsetR (.ref 0) (.d (.str "rest")) (.d (.int x)) (spO cs p r c :: T) = some (spO cs p x c :: T) := rfl
end
theorem canInts : ∀ cs : List Int, PyData.canLayAll0 (cs.map .int) = true
  | [] => by simp [PyData.canLayAll0]
  | c :: cs => by simp [PyData.canLayAll0, PyData.canLay0, canInts cs]
theorem depInts : ∀ cs : List Int, PyData.depthAll (cs.map .int) = 0
  | [] => by simp [PyData.depthAll]
  | c :: cs => by simp [PyData.depthAll, PyData.depth, depInts cs]
theorem shInts (cs : List Int) : SeqAt.shaped (.list (cs.map .int)) = true := by
  unfold SeqAt.shaped
  simp [PyData.canLay0, canInts, PyData.depth, depInts]
theorem cells_ne {cs : List Int} {S : Sto} : bin2 (gCmp .NotEq) (.d (.list (cs.map .int))) (.d (.list [])) S = some (.bool (!cs.isEmpty)) := by
  show (if bothS (.list (cs.map .int)) (.list []) = true ∨ (SeqAt.shaped (.list (cs.map .int)) = true ∧ SeqAt.shaped (.list []) = true) then some (PyData.bool (!PyData.eqv (.list (cs.map .int)) (.list []))) else none) = _
  rw [if_pos (.inr ⟨shInts cs, by decide +kernel⟩)]
  cases cs <;> simp [PyData.eqv, PyData.eqvAll]
theorem cell_at {cs : List Int} {j : Int} {S : Sto} (h0 : 0 ≤ j) (h1 : j < cs.length) : ∃ x, ixR (.d (.list (cs.map .int))) (.d (.int j)) S = some (.int x) := by
  have hj : j.toNat < cs.length := by omega
  refine ⟨cs[j.toNat], ?_⟩
  show atI (cs.map PyData.int) j = _
  unfold atI ixN
  rw [if_pos h0, List.length_map, if_pos h1]
  show (cs.map PyData.int)[j.toNat]? = _
  rw [List.getElem?_map, List.getElem?_eq_getElem hj]
  rfl
end PL.W
local macro_rules | `(tactic| contradiction) => `(tactic| first | with_reducible refine lf PL.W.sp_count ?_ | with_reducible refine lf PL.W.sp_place ?_ | with_reducible refine lf PL.W.sp_rest ?_ | with_reducible refine lf PL.W.sp_cells ?_ | with_reducible refine lf PL.W.st_count ?_ | with_reducible refine lf PL.W.st_place ?_ | with_reducible refine lf PL.W.st_rest ?_ | with_reducible refine lf PL.W.cells_ne ?_)
namespace PL.W
theorem pow_k {i : Int} {k : Nat} (h : i.natAbs < 2 ^ 64) (hk : (k : Int) ≤ 1000000) : 0 ≤ (k : Int) ∧ (k : Int) ≤ 1000000 ∧ i.natAbs < 2 ^ 64 := ⟨by omega, hk, h⟩
theorem dip_fit : dipA.natAbs < 2 ^ 16 ∧ dipB.natAbs < 2 ^ 16 ∧ dipC.natAbs < 2 ^ 16 ∧ ¬ (10 : Int) ^ Int.toNat 18 ≤ dipCell := by decide
theorem mul_fit {a c : Int} {k : Nat} (h : a.natAbs < 2 ^ 16) (hk : c.natAbs < 2 ^ k) (h0 : 0 < k) (h1 : k < 1000) : a.natAbs.log2 + c.natAbs.log2 < 1000000 := by
  have := log_lt h (by decide)
  have := log_lt hk h0
  omega
theorem prod_fit {a c : Int} (ha : a.natAbs < 2 ^ 16) (hc : c.natAbs ≤ 2 ^ 40) : (a * c).natAbs ≤ 2 ^ 16 * 2 ^ 40 := by
  rw [Int.natAbs_mul]
  exact Nat.mul_le_mul (by omega) hc
theorem lin3 {x a b c : Int} (ha : a.natAbs < 2 ^ 16) (hb : b.natAbs < 2 ^ 16) (hc : c.natAbs ≤ 2 ^ 40) : 0 ≤ (3 : Int) ∧ (3 : Int) ≤ 1000000 ∧ (x % 2147483353 + a * c + b).natAbs < 2 ^ 64 := by
  have h1 := mod_rng x (m := 2147483353) (by decide)
  have h2 := prod_fit ha hc
  generalize a * c = q at h2
  omega
theorem lin5 {x a c : Int} (ha : a.natAbs < 2 ^ 16) (hc : c.natAbs ≤ 2 ^ 40) : 0 ≤ (5 : Int) ∧ (5 : Int) ≤ 1000000 ∧ (x % 2147483647 + a * c).natAbs < 2 ^ 64 := by
  have h1 := mod_rng x (m := 2147483647) (by decide)
  have h2 := prod_fit ha hc
  generalize a * c = q at h2
  omega
theorem dip (n : Nat) {cs : List Int} {p r c m : Int} {T : Sto} (hc0 : 0 ≤ c) (hc : c < 2 ^ 40 - 1) (hm0 : 0 < m) (hm : m < 2 ^ 40) :
    WC fns (n + 1) i_law_dip [.ref 0, .d (.int m)] (spO cs p r c :: T) fun x S' => ∃ v p' r', x = .d (.int v) ∧ 0 ≤ v ∧ v < m ∧ S' = spO cs p' r' (c + 1) :: T := by
  have hl2 : m.natAbs.log2 < 9000 := by
    have := log_lt (show m.natAbs < 2 ^ 40 by omega) (by decide)
    omega
  have hd : 0 < m ∧ m.natAbs.log2 < 9000 := ⟨hm0, hl2⟩
  obtain ⟨fA, fB, fC, fD⟩ := dip_fit
  refine c_law_dip ?_
  nofun
  case' q.q.q.q.refine_2.q.q.q.q.q.refine_1.q.q.q =>
    have hlen : 0 < (cs.length : Int) := by
      rename_i hb
      cases cs with
      | nil => cases hb
      | cons _ _ => rw [List.length_cons]; omega
    rw [List.length_map]
    obtain ⟨x, hx⟩ := cell_at (S := spO cs (p + 1) r (c + 1) :: T) (mod_rng p hlen).1 (mod_rng p hlen).2
    refine lf_mod hlen ?_
    refine lf hx ?_
    nofun
  all_goals first
    | (refine ⟨_, _, _, rfl, ?_, ?_, rfl⟩ <;> first | exact (mod_rng _ hm0).1 | exact (mod_rng _ hm0).2)
    | exact mul_fit (k := 41) fA (by omega) (by decide) (by decide)
    | exact mul_fit (k := 41) fC (by omega) (by decide) (by decide)
    | exact lin3 fA fB (by omega)
    | exact lin5 fC (by omega)
    | skip
  all_goals trace_state
end PL.W
end
section
set_option maxHeartbeats 4000000
open PL PySem PySem.Spec PyProof.Rows L2
local macro_rules | `(tactic| contradiction) => `(tactic| (first
  | with_reducible refine ws_asg ?_ | with_reducible refine ws_asgL ?_ | with_reducible refine ws_par ?_ | with_reducible refine ws_parC ?_ | with_reducible refine ws_unp ?_ | with_reducible refine ws_dset ?_
  | with_reducible refine ws_expr ?_ | with_reducible refine ws_ret ?_ | with_reducible refine ws_ret0 ?_ | with_reducible refine ws_pass ?_ | with_reducible refine ws_brk ?_ | with_reducible refine ws_cont ?_ | with_reducible refine ws_if ?_ | with_reducible refine ws_for ?_ | with_reducible refine ws_nil ?_
  | with_reducible refine we_int ?_ | with_reducible refine we_str ?_ | with_reducible refine we_bl ?_ | with_reducible refine we_non ?_ | with_reducible refine we_gd ?_
  | ((with_reducible apply we_loc); rfl)
  | with_reducible refine we_bin ?_ | with_reducible refine we_cmp ?_ | with_reducible refine we_cmp2 ?_ | with_reducible refine we_bop ?_ | with_reducible refine wb_nil ?_ | with_reducible refine wb_cons ?_ | with_reducible refine we_not ?_ | with_reducible refine we_neg ?_ | with_reducible refine we_ite ?_
  | with_reducible refine we_tup ?_ | with_reducible refine we_lst ?_ | with_reducible refine we_lstR ?_ | with_reducible refine we_dic0 ?_ | with_reducible refine we_dic ?_ | with_reducible refine we_ix ?_ | with_reducible refine we_sl ?_ | with_reducible refine wo_no ?_ | with_reducible refine wo_so ?_
  | with_reducible refine we_bi ?_ | with_reducible refine we_isi ?_ | with_reducible refine we_call ?_ | with_reducible refine we_callK ?_ | with_reducible refine we_comp ?_ | with_reducible refine we_compR ?_ | with_reducible refine we_get2 ?_ | with_reducible refine we_app ?_ | with_reducible refine we_ext ?_ | with_reducible refine we_join ?_
  | with_reducible refine we_gget2 ?_ | with_reducible refine we_gget ?_ | with_reducible refine we_gix ?_ | with_reducible refine we_gin ?_ | with_reducible refine we_sset ?_ | with_reducible refine we_sortd ?_ | with_reducible refine we_rev ?_ | with_reducible refine we_reprL ?_ | ((with_reducible apply lfV); rfl; exact Nat.le_of_ble_eq_true rfl) | with_reducible refine wes_nil ?_ | with_reducible refine wes_cons ?_ | with_reducible refine wt_nil ?_ | with_reducible refine wt_one ?_
  | with_reducible refine wi_rng ?_ | with_reducible refine wi_rng2 ?_ | with_reducible refine wi_zip ?_ | with_reducible refine wi_enm ?_ | with_reducible refine wi_seq ?_
  | with_reducible refine then_nx ?_ | with_reducible refine then_bk ?_ | with_reducible refine then_ct ?_ | with_reducible refine then_rt ?_ | with_reducible refine qf_same ?_ | with_reducible refine qf_app ?_ | with_reducible refine qf_cons ?_ | with_reducible refine qf_consA ?_ | with_reducible refine qf_ref ?_ | with_reducible refine qf_d ?_ | with_reducible refine qf_nx ?_
  | ((with_reducible apply wk_eq); with_reducible assumption)
  | (with_reducible refine limp (fun hb => ?_) (fun hb => ?_) <;> (first | (cases hb; done) | cases hb | (try rw [hb])))
  | with_reducible refine lf_add ?_ | with_reducible refine lf_sub ?_ | ((with_reducible apply lf_mod); (first | assumption | decide)) | ((with_reducible apply lf_div); (first | assumption | decide)) | with_reducible refine lf_lt ?_ | with_reducible refine lf_le ?_ | with_reducible refine lf_gt ?_ | with_reducible refine lf_ge ?_ | with_reducible refine lf_eqI ?_ | with_reducible refine lf_neI ?_ | with_reducible refine lf_eqSame ?_ | with_reducible refine lf_neSame ?_ | with_reducible refine lf_eqS ?_ | with_reducible refine lf_neS ?_
  | with_reducible refine lf_isN ?_ | with_reducible refine lf_isI ?_ | with_reducible refine lf_isnN ?_ | with_reducible refine lf_isnI ?_ | with_reducible refine lf_tb ?_ | with_reducible refine lf_tl ?_ | with_reducible refine lf_tt ?_ | with_reducible refine lf_int ?_ | with_reducible refine lf_lenL ?_ | with_reducible refine lf_lenT ?_ | ((with_reducible apply lf_lenS); assumption) | with_reducible refine lf_tupL ?_ | with_reducible refine lf_tupT ?_ | with_reducible refine lf_listL ?_ | with_reducible refine lf_listT ?_ | with_reducible refine lf_view ?_ | with_reducible refine lf_in2 ?_ | with_reducible refine lf_in3 ?_ | with_reducible refine lf_inM ?_ | with_reducible refine lf_ix0T ?_ | with_reducible refine lf_ix1T ?_ | with_reducible refine lf_ix2T ?_ | with_reducible refine lf_sl1 ?_ | with_reducible refine lf_slL ?_ | with_reducible refine lf_slT ?_
  | ((with_reducible apply lf_pow); decide) | with_reducible refine lf_mul ?_ ?_ | with_reducible refine lf_pow ?_ ?_ | ((with_reducible apply lf_addT); exact Nat.le_of_ble_eq_true rfl) | ((with_reducible apply lf_addL); exact Nat.le_of_ble_eq_true rfl) | with_reducible refine lf_addT ?_ ?_ | with_reducible refine lf_addL ?_ ?_
  | ((with_reducible apply lf2); rfl; rfl) | ((with_reducible apply lf3); rfl; exact Nat.le_of_ble_eq_true rfl) | ((with_reducible apply lf4); rfl; decide) | ((with_reducible apply lfU); rfl; rfl)
  | with_reducible refine ls_l ?_ | with_reducible refine ls_t ?_ | with_reducible refine ls_s ?_ | ((with_reducible apply ls_r); rfl) | with_reducible refine le_l ?_ | with_reducible refine le_t ?_ | with_reducible refine le_s ?_ | with_reducible refine lz_l ?_ | with_reducible refine lz_t ?_
  | ((with_reducible apply lfR); (first | decide | omega)) | ((with_reducible apply lfR2); (first | decide | omega)) | with_reducible refine lfI ?_
  | ((with_reducible apply lf); rfl) | ((with_reducible apply lfB); rfl) | ((with_reducible apply land); rfl)))
local macro_rules | `(tactic| nofun) => `(tactic| repeat' contradiction)
namespace PL.W
open PySem PySem.Spec PyProof.Rows L2 PL
/-! ### the spring's answers -/
def Sp (T : Sto) (k : Int) (S : Sto) : Prop := ∃ cs p r c, S = spO cs p r c :: T ∧ 0 ≤ c ∧ c ≤ k
theorem Sp.mono {T : Sto} {k k' : Int} {S : Sto} (h : Sp T k S) (hk : k ≤ k') : Sp T k' S := by
  obtain ⟨cs, p, r, c, e, h0, h1⟩ := h
  exact ⟨cs, p, r, c, e, h0, by omega⟩
theorem dipS (n : Nat) {T : Sto} {k m : Int} {S : Sto} (h : Sp T k S) (hk : k < 2 ^ 39) (hm0 : 0 < m) (hm : m < 2 ^ 39) : ∃ v S', 0 ≤ v ∧ v < m ∧ callN fns (n + 1) i_law_dip [.ref 0, .d (.int m)] S = some (.d (.int v), S') ∧ Sp T (k + 1) S' := by
  obtain ⟨cs, p, r, c, rfl, h0, h1⟩ := h
  obtain ⟨x, S', e, v, p', r', rfl, a, b, rfl⟩ := dip n (cs := cs) (p := p) (r := r) (c := c) (m := m) (T := T) h0 (by omega) hm0 (by omega)
  exact ⟨v, _, a, b, e, cs, p', r', c + 1, rfl, by omega, by omega⟩
theorem at_list {ds : List D} {j : Int} (h0 : 0 ≤ j) (h1 : j < ds.length) : ∃ x ∈ ds, ∀ S, ixR (.d (.list ds)) (.d (.int j)) S = some x := by
  have hj : j.toNat < ds.length := by omega
  refine ⟨ds[j.toNat], List.getElem_mem hj, fun S => ?_⟩
  show atI ds j = _
  unfold atI ixN
  rw [if_pos h0, if_pos h1]
  exact List.getElem?_eq_getElem hj
theorem Sp.take {T : Sto} {k k' : Int} {S S' : Sto} (h : Sp T k S) (h' : Sp T k' S') : S'.take S.length = S' := by
  obtain ⟨cs, p, r, c, rfl, h0, h1⟩ := h
  obtain ⟨cs', p', r', c', rfl, h0', h1'⟩ := h'
  show (spO cs' p' r' c' :: T).take (T.length + 1) = _
  rw [List.take_succ_cons, List.take_length]
theorem Sp.fin {T T' : Sto} {k k' : Int} {S S' : Sto} (h : Sp T k S) (h' : Sp T k' S') {Q : R → Sto → Prop} {x : D} {L : Loc} (q : Q (.d x) S') : finQ S Q (.rt (.d x)) L S' := by
  obtain ⟨cs, p, r, c, rfl, h0, h1⟩ := h
  obtain ⟨cs', p', r', c', rfl, h0', h1'⟩ := h'
  exact qf_cons q
theorem pickS (n : Nat) {T : Sto} {k : Int} {S : Sto} (h : Sp T k S) (hk : k < 2 ^ 39) {ds : List D} (hd : ds ≠ []) (hl : ds.length < 1000) : ∃ d ∈ ds, ∃ S', callN fns (n + 2) i_law_pick [.ref 0, .d (.list ds)] S = some (.d d, S') ∧ Sp T (k + 1) S' := by
  have h0 : 0 < ds.length := List.length_pos_iff.mpr hd
  obtain ⟨v, S1, a, b, e, h1⟩ := dipS n h hk (m := (ds.length : Int)) (by omega) (by omega)
  obtain ⟨x, hx, ex⟩ := at_list a b
  refine ⟨x, hx, S1, WC.eq (c_law_pick ?_), h1⟩
  nofun
  refine lf (ex _) ?_
  exact ⟨rfl, h.take h1⟩
def PAGES : List (List Str) := [["a", "b", "c"], ["p", "pq", "q"], ["zzzzzzzz", "a", "ab"], ["seal", "stop", "keep"], ["strike", "write", "free"], ["point", "put", "flush"]]
theorem pagesS (n : Nat) {T : Sto} {k : Int} {S : Sto} (h : Sp T k S) (hk : k < 2 ^ 39) : ∃ ps ∈ PAGES, ∃ S', callN fns (n + 3) i_law_pages [.ref 0] S = some (.d (.list (ps.map .str)), S') ∧ Sp T (k + 1) S' := by
  obtain ⟨d, hd, S1, e, h1⟩ := pickS n h hk (ds := PAGES.map fun ps => .list (ps.map .str)) (by decide) (by decide)
  obtain ⟨ps, hp, rfl⟩ := List.mem_map.mp hd
  refine ⟨ps, hp, S1, WC.eq (c_law_pages ?_), h1⟩
  nofun
  refine wk_eq e ?_
  nofun
  exact ⟨rfl, h.take h1⟩
/-! ### records, and what they tell -/
inductive Rec where
  | keep (p : Str) (n : Int)
  | write (p : Str) (n : Int)
  | plain (p : Str) (n : Int)
  | free (p : Str)
  | strike (p : Str)
def Rec.page : Rec → Str
  | .keep p _ => p
  | .write p _ => p
  | .plain p _ => p
  | .free p => p
  | .strike p => p
def Rec.enc : Rec → D
  | .keep p n => .tuple [.str "keep", .str p, .int n]
  | .write p n => .tuple [.str "write", .str p, .int n]
  | .plain p n => .tuple [.str "plain", .str p, .int n]
  | .free p => .tuple [.str "free", .str p]
  | .strike p => .tuple [.str "strike", .str p]
structure Own where
  life : Str
  owner : Int
  due : Option Int
def own0 : Own := ⟨"free", 0, none⟩
def step (o : Own) : Rec → Own
  | .keep _ n => ⟨"kept", n, some n⟩
  | .plain _ n => ⟨"plain", n, none⟩
  | .write _ n => ⟨o.life, o.owner, some n⟩
  | .free _ => own0
  | .strike _ => o
def can (o : Own) (m : Int) : Rec → Prop
  | .keep _ n => o.life = "free" ∧ m < n
  | .plain _ n => o.life = "free" ∧ m < n
  | .write _ n => o.life = "kept" ∧ m < n
  | .free _ => o.life ≠ "free"
  | .strike _ => True
def numOf (m : Int) : Rec → Int
  | .keep _ n => n
  | .plain _ n => n
  | .write _ n => n
  | _ => m
abbrev Own' := Str → Own
def upd1 (st : Own') (r : Rec) : Own' := fun q => if q = r.page then step (st q) r else st q
def ok (st : Own') (m : Int) : List Rec → Prop
  | [] => True
  | r :: rs => can (st r.page) m r ∧ ok (upd1 st r) (numOf m r) rs
def run (st : Own') (rs : List Rec) : Own' := rs.foldl upd1 st
def top (m : Int) (rs : List Rec) : Int := rs.foldl numOf m
theorem ok_app : ∀ (a b : List Rec) (st : Own') (m : Int), ok st m (a ++ b) ↔ ok st m a ∧ ok (run st a) (top m a) b
  | [], b, st, m => by simp [ok, run, top]
  | r :: a, b, st, m => by
    simp only [List.cons_append, ok, ok_app a b, and_assoc]
    rfl
theorem run_app (a b : List Rec) (st : Own') : run st (a ++ b) = run (run st a) b := List.foldl_append ..
theorem top_app (a b : List Rec) (m : Int) : top m (a ++ b) = top (top m a) b := List.foldl_append ..
abbrev st0 : Own' := fun _ => own0
abbrev Log (rs : List Rec) : Prop := ok st0 0 rs
theorem Log.take {rs : List Rec} (h : Log rs) (j : Nat) : Log (rs.take j) := by
  rw [← List.take_append_drop j rs] at h
  exact ((ok_app _ _ _ _).mp h).1
theorem Log.add {rs : List Rec} {r : Rec} (h : Log rs) (c : can (run st0 rs r.page) (top 0 rs) r) : Log (rs ++ [r]) := (ok_app _ _ _ _).mpr ⟨h, c, trivial⟩
/-- a life's word -/
def isLife (l : Str) : Prop := l = "free" ∨ l = "kept" ∨ l = "plain"
theorem step_life {o : Own} (h : isLife o.life) (r : Rec) : isLife (step o r).life := by
  cases r
  · exact .inr (.inl rfl)
  · exact h
  · exact .inr (.inr rfl)
  · exact .inl rfl
  · exact h
theorem run_life (rs : List Rec) : ∀ (st : Own'), (∀ p, isLife (st p).life) → ∀ p, isLife (run st rs p).life := by
  induction rs with
  | nil => exact fun st h => h
  | cons r rs ih =>
    intro st h
    refine ih _ fun p => ?_
    unfold upd1
    split
    · exact step_life (h p) r
    · exact h p
theorem life_of (rs : List Rec) (p : Str) : isLife (run st0 rs p).life := run_life rs st0 (fun _ => .inl rfl) p
end PL.W
end
section
set_option maxHeartbeats 4000000
open PL PySem PySem.Spec PyProof.Rows L2
local macro_rules | `(tactic| contradiction) => `(tactic| (first
  | with_reducible refine ws_asg ?_ | with_reducible refine ws_asgL ?_ | with_reducible refine ws_par ?_ | with_reducible refine ws_parC ?_ | with_reducible refine ws_unp ?_ | with_reducible refine ws_dset ?_
  | with_reducible refine ws_expr ?_ | with_reducible refine ws_ret ?_ | with_reducible refine ws_ret0 ?_ | with_reducible refine ws_pass ?_ | with_reducible refine ws_brk ?_ | with_reducible refine ws_cont ?_ | with_reducible refine ws_if ?_ | with_reducible refine ws_for ?_ | with_reducible refine ws_nil ?_
  | with_reducible refine we_int ?_ | with_reducible refine we_str ?_ | with_reducible refine we_bl ?_ | with_reducible refine we_non ?_ | with_reducible refine we_gd ?_
  | ((with_reducible apply we_loc); rfl)
  | with_reducible refine we_bin ?_ | with_reducible refine we_cmp ?_ | with_reducible refine we_cmp2 ?_ | with_reducible refine we_bop ?_ | with_reducible refine wb_nil ?_ | with_reducible refine wb_cons ?_ | with_reducible refine we_not ?_ | with_reducible refine we_neg ?_ | with_reducible refine we_ite ?_
  | with_reducible refine we_tup ?_ | with_reducible refine we_lst ?_ | with_reducible refine we_lstR ?_ | with_reducible refine we_dic0 ?_ | with_reducible refine we_dic ?_ | with_reducible refine we_ix ?_ | with_reducible refine we_sl ?_ | with_reducible refine wo_no ?_ | with_reducible refine wo_so ?_
  | with_reducible refine we_bi ?_ | with_reducible refine we_isi ?_ | with_reducible refine we_call ?_ | with_reducible refine we_callK ?_ | with_reducible refine we_comp ?_ | with_reducible refine we_compR ?_ | with_reducible refine we_get2 ?_ | with_reducible refine we_app ?_ | with_reducible refine we_ext ?_ | with_reducible refine we_join ?_
  | with_reducible refine we_gget2 ?_ | with_reducible refine we_gget ?_ | with_reducible refine we_gix ?_ | with_reducible refine we_gin ?_ | with_reducible refine we_sset ?_ | with_reducible refine we_sortd ?_ | with_reducible refine we_rev ?_ | with_reducible refine we_reprL ?_ | ((with_reducible apply lfV); rfl; exact Nat.le_of_ble_eq_true rfl) | with_reducible refine wes_nil ?_ | with_reducible refine wes_cons ?_ | with_reducible refine wt_nil ?_ | with_reducible refine wt_one ?_
  | with_reducible refine wi_rng ?_ | with_reducible refine wi_rng2 ?_ | with_reducible refine wi_zip ?_ | with_reducible refine wi_enm ?_ | with_reducible refine wi_seq ?_
  | with_reducible refine then_nx ?_ | with_reducible refine then_bk ?_ | with_reducible refine then_ct ?_ | with_reducible refine then_rt ?_ | with_reducible refine qf_same ?_ | with_reducible refine qf_app ?_ | with_reducible refine qf_cons ?_ | with_reducible refine qf_consA ?_ | with_reducible refine qf_ref ?_ | with_reducible refine qf_d ?_ | with_reducible refine qf_nx ?_
  | ((with_reducible apply wk_eq); with_reducible assumption)
  | (with_reducible refine limp (fun hb => ?_) (fun hb => ?_) <;> (first | (cases hb; done) | cases hb | (try rw [hb])))
  | with_reducible refine lf_add ?_ | with_reducible refine lf_sub ?_ | ((with_reducible apply lf_mod); (first | assumption | decide)) | ((with_reducible apply lf_div); (first | assumption | decide)) | with_reducible refine lf_lt ?_ | with_reducible refine lf_le ?_ | with_reducible refine lf_gt ?_ | with_reducible refine lf_ge ?_ | with_reducible refine lf_eqI ?_ | with_reducible refine lf_neI ?_ | with_reducible refine lf_eqSame ?_ | with_reducible refine lf_neSame ?_ | with_reducible refine lf_eqS ?_ | with_reducible refine lf_neS ?_
  | with_reducible refine lf_isN ?_ | with_reducible refine lf_isI ?_ | with_reducible refine lf_isnN ?_ | with_reducible refine lf_isnI ?_ | with_reducible refine lf_tb ?_ | with_reducible refine lf_tl ?_ | with_reducible refine lf_tt ?_ | with_reducible refine lf_int ?_ | with_reducible refine lf_lenL ?_ | with_reducible refine lf_lenT ?_ | ((with_reducible apply lf_lenS); assumption) | with_reducible refine lf_tupL ?_ | with_reducible refine lf_tupT ?_ | with_reducible refine lf_listL ?_ | with_reducible refine lf_listT ?_ | with_reducible refine lf_view ?_ | with_reducible refine lf_in2 ?_ | with_reducible refine lf_in3 ?_ | with_reducible refine lf_inM ?_ | with_reducible refine lf_ix0T ?_ | with_reducible refine lf_ix1T ?_ | with_reducible refine lf_ix2T ?_ | with_reducible refine lf_sl1 ?_ | with_reducible refine lf_slL ?_ | with_reducible refine lf_slT ?_
  | ((with_reducible apply lf_pow); decide) | with_reducible refine lf_mul ?_ ?_ | with_reducible refine lf_pow ?_ ?_ | ((with_reducible apply lf_addT); exact Nat.le_of_ble_eq_true rfl) | ((with_reducible apply lf_addL); exact Nat.le_of_ble_eq_true rfl) | with_reducible refine lf_addT ?_ ?_ | with_reducible refine lf_addL ?_ ?_
  | ((with_reducible apply lf2); rfl; rfl) | ((with_reducible apply lf3); rfl; exact Nat.le_of_ble_eq_true rfl) | ((with_reducible apply lf4); rfl; decide) | ((with_reducible apply lfU); rfl; rfl)
  | with_reducible refine ls_l ?_ | with_reducible refine ls_t ?_ | with_reducible refine ls_s ?_ | ((with_reducible apply ls_r); rfl) | with_reducible refine le_l ?_ | with_reducible refine le_t ?_ | with_reducible refine le_s ?_ | with_reducible refine lz_l ?_ | with_reducible refine lz_t ?_
  | ((with_reducible apply lfR); (first | decide | omega)) | ((with_reducible apply lfR2); (first | decide | omega)) | with_reducible refine lfI ?_
  | ((with_reducible apply lf); rfl) | ((with_reducible apply lfB); rfl) | ((with_reducible apply land); rfl)))
local macro_rules | `(tactic| nofun) => `(tactic| repeat' contradiction)
namespace PL.W
open PySem PySem.Spec PyProof.Rows L2 PL
/-! ### pages -/
def letterB (c : Nat) : Bool := decide (c ∈ (("abcdefghijklmnopqrstuvwxyz" : Str).cps.toList))
def pageB (z : Str) : Bool := decide (1 ≤ (z.length : Int)) && decide ((z.length : Int) ≤ 8) && z.cps.toList.all letterB
theorem bools_map {α : Type} (l : List α) (f : α → Bool) : bools (l.map fun c => PyData.bool (f c)) = some (l.map f) := by
  induction l with
  | nil => rfl
  | cons c l ih =>
    show (bools (l.map fun c => PyData.bool (f c))).map (f c :: ·) = _
    rw [ih]; rfl
theorem lf_all {α : Type} {l : List α} {f : α → Bool} {S : Sto} {Q : D → Prop} (q : Q (.bool (l.all f))) : ∃ w, un1 (Bi.fn .all) (.d (.list (l.map fun c => .bool (f c)))) S = some w ∧ Q w := by
  refine ⟨_, ?_, q⟩
  show (bools (l.map fun c => PyData.bool (f c))).map (fun bs => PyData.bool (bs.all id)) = _
  rw [bools_map, Option.map_some, List.all_map]; rfl
theorem t_page (n : Nat) (S : Sto) (z : Str) (hz : z.length ≤ sizeLine) : callN fns (n + 1) i_is_page [.d (.str z)] S = some (.d (.bool (pageB z)), S) := by
  have c1 : ∀ c ∈ z.cps.toList, turn (callN fns n) [1] (.one 1) .nil (.cmp .In (.loc 1) (.gd "LETTERS" d_LETTERS)) [some (.d (.str z)), none] (.str ⟨#[c]⟩) S = some (some (.bool (letterB c)), S) := fun c _ => by
    refine turn_eq rfl ?_
    nofun
    exact ⟨_, rfl, rfl, rfl⟩
  refine WC.eq (c_is_page ?_)
  nofun
  all_goals first
    | (refine loop_every (fun c => .bool (letterB c)) (by rw [Array.length_toList]; exact hz) c1 ?_
       refine lf_all ?_
       nofun)
    | skip
  all_goals
    refine ⟨?_, rfl⟩
    unfold pageB
    simp only [decide_eq_true_eq, decide_eq_false_iff_not, Bool.not_false, Bool.not_true, Bool.not_eq_true', Bool.not_eq_false'] at *
    simp_all
  all_goals (intros; omega)
end PL.W
end
section
set_option maxHeartbeats 4000000
open PL PySem PySem.Spec PyProof.Rows L2
local macro_rules | `(tactic| left) => `(tactic| (first
  | with_reducible refine ws_asg ?_ | with_reducible refine ws_asgL ?_ | with_reducible refine ws_par ?_ | with_reducible refine ws_parC ?_ | with_reducible refine ws_unp ?_ | with_reducible refine ws_dset ?_
  | with_reducible refine ws_expr ?_ | with_reducible refine ws_ret ?_ | with_reducible refine ws_ret0 ?_ | with_reducible refine ws_pass ?_ | with_reducible refine ws_brk ?_ | with_reducible refine ws_cont ?_ | with_reducible refine ws_if ?_ | with_reducible refine ws_for ?_ | with_reducible refine ws_nil ?_
  | with_reducible refine we_int ?_ | with_reducible refine we_str ?_ | with_reducible refine we_bl ?_ | with_reducible refine we_non ?_ | with_reducible refine we_gd ?_
  | ((with_reducible apply we_loc); rfl)
  | with_reducible refine we_bin ?_ | with_reducible refine we_cmp ?_ | with_reducible refine we_cmp2 ?_ | with_reducible refine we_bop ?_ | with_reducible refine wb_nil ?_ | with_reducible refine wb_cons ?_ | with_reducible refine we_not ?_ | with_reducible refine we_neg ?_ | with_reducible refine we_ite ?_
  | with_reducible refine we_tup ?_ | with_reducible refine we_lst ?_ | with_reducible refine we_lstR ?_ | with_reducible refine we_dic0 ?_ | with_reducible refine we_dic ?_ | with_reducible refine we_ix ?_ | with_reducible refine we_sl ?_ | with_reducible refine wo_no ?_ | with_reducible refine wo_so ?_
  | with_reducible refine we_bi ?_ | with_reducible refine we_isi ?_ | with_reducible refine we_call ?_ | with_reducible refine we_callK ?_ | with_reducible refine we_comp ?_ | with_reducible refine we_compR ?_ | with_reducible refine we_get2 ?_ | with_reducible refine we_app ?_ | with_reducible refine we_ext ?_ | with_reducible refine we_join ?_
  | with_reducible refine we_gget2 ?_ | with_reducible refine we_gget ?_ | with_reducible refine we_gix ?_ | with_reducible refine we_gin ?_ | with_reducible refine we_sset ?_ | with_reducible refine we_sortd ?_ | with_reducible refine we_rev ?_ | with_reducible refine we_reprL ?_ | ((with_reducible apply lfV); rfl; exact Nat.le_of_ble_eq_true rfl) | with_reducible refine wes_nil ?_ | with_reducible refine wes_cons ?_ | with_reducible refine wt_nil ?_ | with_reducible refine wt_one ?_
  | with_reducible refine wi_rng ?_ | with_reducible refine wi_rng2 ?_ | with_reducible refine wi_zip ?_ | with_reducible refine wi_enm ?_ | with_reducible refine wi_seq ?_
  | with_reducible refine then_nx ?_ | with_reducible refine then_bk ?_ | with_reducible refine then_ct ?_ | with_reducible refine then_rt ?_ | with_reducible refine qf_same ?_ | with_reducible refine qf_app ?_ | with_reducible refine qf_cons ?_ | with_reducible refine qf_consA ?_ | with_reducible refine qf_ref ?_ | with_reducible refine qf_d ?_ | with_reducible refine qf_nx ?_
  | ((with_reducible apply wk_eq); with_reducible assumption)
  | (with_reducible refine limp (fun hb => ?_) (fun hb => ?_) <;> (first | (cases hb; done) | (simp only [Bool.not_false, Bool.not_true, Bool.true_eq_false, Bool.false_eq_true, reduceCtorEq] at hb; done) | cases hb | ((try simp only [Bool.not_false, Bool.not_true] at hb); (try rw [hb]))))
  | with_reducible refine lf_add ?_ | with_reducible refine lf_sub ?_ | ((with_reducible apply lf_mod); (first | assumption | decide)) | ((with_reducible apply lf_div); (first | assumption | decide)) | with_reducible refine lf_lt ?_ | with_reducible refine lf_le ?_ | with_reducible refine lf_gt ?_ | with_reducible refine lf_ge ?_ | with_reducible refine lf_eqI ?_ | with_reducible refine lf_neI ?_ | with_reducible refine lf_eqSame ?_ | with_reducible refine lf_neSame ?_ | with_reducible refine lf_eqS ?_ | with_reducible refine lf_neS ?_
  | with_reducible refine lf_isN ?_ | with_reducible refine lf_isI ?_ | with_reducible refine lf_isnN ?_ | with_reducible refine lf_isnI ?_ | with_reducible refine lf_tb ?_ | with_reducible refine lf_tl ?_ | with_reducible refine lf_tt ?_ | with_reducible refine lf_int ?_ | with_reducible refine lf_lenL ?_ | with_reducible refine lf_lenT ?_ | ((with_reducible apply lf_lenS); assumption) | with_reducible refine lf_tupL ?_ | with_reducible refine lf_tupT ?_ | with_reducible refine lf_listL ?_ | with_reducible refine lf_listT ?_ | with_reducible refine lf_view ?_ | with_reducible refine lf_in2 ?_ | with_reducible refine lf_in3 ?_ | with_reducible refine lf_inM ?_ | with_reducible refine lf_ix0T ?_ | with_reducible refine lf_ix1T ?_ | with_reducible refine lf_ix2T ?_ | with_reducible refine lf_sl1 ?_ | with_reducible refine lf_slL ?_ | with_reducible refine lf_slT ?_
  | ((with_reducible apply lf_pow); decide) | with_reducible refine lf_mul ?_ ?_ | with_reducible refine lf_pow ?_ ?_ | ((with_reducible apply lf_addT); exact Nat.le_of_ble_eq_true rfl) | ((with_reducible apply lf_addL); exact Nat.le_of_ble_eq_true rfl) | with_reducible refine lf_addT ?_ ?_ | with_reducible refine lf_addL ?_ ?_
  | ((with_reducible apply lf2); rfl; rfl) | ((with_reducible apply lf3); rfl; exact Nat.le_of_ble_eq_true rfl) | ((with_reducible apply lf4); rfl; decide) | ((with_reducible apply lfU); rfl; rfl)
  | with_reducible refine ls_l ?_ | with_reducible refine ls_t ?_ | with_reducible refine ls_s ?_ | ((with_reducible apply ls_r); rfl) | with_reducible refine le_l ?_ | with_reducible refine le_t ?_ | with_reducible refine le_s ?_ | with_reducible refine lz_l ?_ | with_reducible refine lz_t ?_
  | ((with_reducible apply lfR); (first | decide | omega)) | ((with_reducible apply lfR2); (first | decide | omega)) | with_reducible refine lfI ?_
  | ((with_reducible apply lf); rfl) | ((with_reducible apply lfB); rfl) | ((with_reducible apply land); rfl)))
local macro_rules | `(tactic| nofun) => `(tactic| repeat' left)
namespace PL.W
open PySem PySem.Spec PyProof.Rows L2 PL
/-! ### values -/
def stB : D → Bool
  | .str z => decide (z.length ≤ 100)
  | _ => true
def smB (d : D) : Bool := d.canLay0 && decide (d.depth ≤ 10) && stB d
def itB (d : D) : Bool := match d with
  | .tuple ds => ds.all smB && decide (ds.length < 60)
  | .list _ => true
  | d => smB d
def pgB (d : D) : Bool := match d with
  | .str z => smB (.str z)
  | _ => true
def intB : D → Bool
  | .int _ => true
  | _ => false
def cntB (k : Int) : D → Bool
  | .int i => decide (k ≤ i)
  | _ => false
def isStr : D → Bool
  | .str _ => true
  | _ => false
def isTup : D → Bool
  | .tuple _ => true
  | _ => false
def pageD : D → Bool
  | .str z => pageB z
  | _ => false
def boolD : D → Bool
  | .bool _ => true
  | _ => false
theorem int_isTy (d : D) : isTy .int d = (intB d || boolD d) := by cases d <;> rfl
theorem str_isTy (d : D) : isTy .str d = isStr d := by cases d <;> rfl
theorem tup_isTy (d : D) : isTy .tuple d = isTup d := by cases d <;> rfl
theorem nstr {d : D} (h : isStr d = false) (hb : (!isTy .str d) = false) : False := by rw [str_isTy, h] at hb; cases hb
theorem ystr {z : Str} (hb : (!isTy .str (.str z)) = true) : False := by rw [str_isTy] at hb; cases hb
theorem ntup {d : D} (h : isTup d = false) (hb : (!isTy .tuple d) = false) : False := by rw [tup_isTy, h] at hb; cases hb
theorem ytup {ds : List D} (hb : (!isTy .tuple (.tuple ds)) = true) : False := by rw [tup_isTy] at hb; cases hb
theorem nstr1 {d : D} (h : isStr d = false) (hb : isTy .str d = true) : False := by rw [str_isTy, h] at hb; cases hb
theorem ystr1 {z : Str} (hb : isTy .str (.str z) = false) : False := by rw [str_isTy] at hb; cases hb
theorem ntup1 {d : D} (h : isTup d = false) (hb : isTy .tuple d = true) : False := by rw [tup_isTy, h] at hb; cases hb
theorem ytup1 {ds : List D} (hb : isTy .tuple (.tuple ds) = false) : False := by rw [tup_isTy] at hb; cases hb
theorem st_len {z : Str} (h : stB (.str z) = true) : z.length ≤ sizeLine := Nat.le_trans (of_decide_eq_true h) (Nat.le_of_ble_eq_true rfl)
theorem sm_st {d : D} (h : smB d = true) : stB d = true := (Bool.and_eq_true_iff.mp h).2
theorem sm_shaped {d : D} (h : smB d = true) : SeqAt.shaped d = true := by
  unfold smB at h
  rw [Bool.and_eq_true, Bool.and_eq_true, decide_eq_true_eq] at h
  unfold SeqAt.shaped
  rw [Bool.and_eq_true, decide_eq_true_eq]
  exact ⟨h.1.1, by omega⟩
theorem it_pg {d : D} (h : itB d = true) : pgB d = true := by
  cases d <;> first | rfl | exact h
theorem sm_pg {d : D} (h : smB d = true) : pgB d = true := by
  cases d <;> first | rfl | exact h
theorem it_st {d : D} (h : itB d = true) : stB d = true := by
  cases d <;> first | rfl | exact sm_st h
theorem it_tup {ds : List D} (h : itB (.tuple ds) = true) : (∀ d ∈ ds, smB d = true) ∧ ds.length < 60 := by
  have h : (ds.all smB && decide (ds.length < 60)) = true := h
  rw [Bool.and_eq_true, decide_eq_true_eq] at h
  exact ⟨List.all_eq_true.mp h.1, h.2⟩
theorem its_tuple {ds : List D} (h : ∀ d ∈ ds, smB d = true) (hl : ds.length < 60) : itB (.tuple ds) = true := by
  show (ds.all smB && decide (ds.length < 60)) = true
  rw [Bool.and_eq_true, decide_eq_true_eq]
  exact ⟨List.all_eq_true.mpr h, hl⟩
/-! ### whole numbers, pages -/
theorem t_isint (n : Nat) (S : Sto) (d : D) : callN fns (n + 1) i_is_integer [.d d] S = some (.d (.bool (intB d)), S) := by
  refine WC.eq (c_is_integer ?_)
  cases d <;> nofun
  all_goals first
    | exact ⟨rfl, rfl⟩
    | (exfalso; rename_i hb; rw [int_isTy] at hb; cases hb)
    | trace_state
theorem t_lawint (n : Nat) (S : Sto) (d : D) : callN fns (n + 1) i_law_is_integer [.d d] S = some (.d (.bool (intB d)), S) := by
  refine WC.eq (c_law_is_integer ?_)
  cases d <;> nofun
  all_goals first
    | exact ⟨rfl, rfl⟩
    | (exfalso; rename_i hb; rw [int_isTy] at hb; cases hb)
    | trace_state
theorem t_isnum (n : Nat) (S : Sto) (d : D) : callN fns (n + 2) i_is_number [.d d] S = some (.d (.bool (cntB 0 d)), S) := by
  have e := t_isint n S d
  refine WC.eq (c_is_number ?_)
  cases d with
  | int i =>
    have e : callN fns (n + 1) i_is_integer [.d (.int i)] S = some (.d (.bool true), S) := e
    nofun
    exact ⟨rfl, rfl⟩
  | _ =>
    have e : callN fns (n + 1) i_is_integer [.d _] S = some (.d (.bool false), S) := e
    nofun
    exact ⟨rfl, rfl⟩
theorem t_lawcount (n : Nat) (S : Sto) (d : D) : callN fns (n + 2) i_law_is_count [.d d] S = some (.d (.bool (cntB 1 d)), S) := by
  have e := t_lawint n S d
  refine WC.eq (c_law_is_count ?_)
  cases d with
  | int i =>
    have e : callN fns (n + 1) i_law_is_integer [.d (.int i)] S = some (.d (.bool true), S) := e
    nofun
    exact ⟨congrArg (fun b => R.d (.bool b)) (decide_eq_decide.mpr (by omega)), rfl⟩
  | _ =>
    have e : callN fns (n + 1) i_law_is_integer [.d _] S = some (.d (.bool false), S) := e
    nofun
    exact ⟨rfl, rfl⟩
theorem t_pageD (n : Nat) (S : Sto) {d : D} (h : stB d = true) : callN fns (n + 1) i_is_page [.d d] S = some (.d (.bool (pageD d)), S) := by
  cases d with
  | str z => exact t_page n S z (st_len h)
  | _ =>
    refine WC.eq (c_is_page ?_)
    nofun
    all_goals first
      | exact ⟨rfl, rfl⟩
      | (exfalso; rename_i hb; exact nstr rfl hb)
      | (exfalso; rename_i hb _; exact nstr rfl hb)
      | (exfalso; rename_i hb _ _; exact nstr rfl hb)
      | trace_state
/-! ### the law's own pages -/
def lawL (c : Nat) : Bool := !decide ([c] < [97]) && !decide ([122] < [c])
theorem lets_are : (("abcdefghijklmnopqrstuvwxyz" : Str).cps.toList) = (List.range 26).map (97 + ·) := by decide +kernel
theorem law_letter (c : Nat) : lawL c = letterB c := by
  have h1 : letterB c = decide (97 ≤ c ∧ c ≤ 122) := by
    unfold letterB
    rw [lets_are]
    refine decide_eq_decide.mpr ?_
    rw [List.mem_map]
    constructor
    · rintro ⟨a, ha, rfl⟩
      rw [List.mem_range] at ha
      omega
    · intro h
      exact ⟨c - 97, List.mem_range.mpr (by omega), by omega⟩
  rw [h1]
  unfold lawL
  have l1 : ([c] < [97]) ↔ c < 97 := by simp [List.cons_lt_cons_iff]
  have l2 : ([122] < [c]) ↔ 122 < c := by simp [List.cons_lt_cons_iff]
  have k1 : decide ([c] < [97]) = decide (c < 97) := decide_eq_decide.mpr l1
  have k2 : decide ([122] < [c]) = decide (122 < c) := decide_eq_decide.mpr l2
  rw [k1, k2]
  by_cases a : c < 97 <;> by_cases b : 122 < c <;> simp [a, b] <;> first | done | omega
theorem cps_a : ("a" : Str).cps.toList = [97] := by decide +kernel
theorem cps_z : ("z" : Str).cps.toList = [122] := by decide +kernel
theorem law_l1 {c : Nat} (h1 : (!decide ([c] < ("a" : Str).cps.toList)) = true) (h2 : (!!decide (("z" : Str).cps.toList < [c])) = true) : lawL c = false := by
  rw [cps_z] at h2
  unfold lawL
  rw [Bool.not_not] at h2
  rw [h2, Bool.not_true, Bool.and_false]
theorem law_l2 {c : Nat} (h1 : (!decide ([c] < ("a" : Str).cps.toList)) = true) (h2 : (!!decide (("z" : Str).cps.toList < [c])) = false) : lawL c = true := by
  rw [cps_a] at h1
  rw [cps_z] at h2
  unfold lawL
  rw [Bool.not_not] at h2
  rw [h1, h2]; rfl
theorem law_l3 {c : Nat} (h1 : (!decide ([c] < ("a" : Str).cps.toList)) = false) : lawL c = false := by
  rw [cps_a] at h1
  unfold lawL
  rw [h1, Bool.false_and]
theorem one_ok {z : Str} (h : PyData.strOk z = true) {c : Nat} (hc : c ∈ z.cps.toList) : PyData.strOk ⟨#[c]⟩ = true := by
  unfold PyData.strOk at h ⊢
  rw [Array.all_eq_true_iff_forall_mem] at h
  have := h c (Array.mem_toList_iff.mp hc)
  simpa using this
theorem chars_shaped {z : Str} (h : PyData.strOk z = true) : ∀ {l : List Nat}, (∀ c ∈ l, c ∈ z.cps.toList) → PyData.canLayAll0 (l.map fun c => PyData.str ⟨#[c]⟩) = true ∧ PyData.depthAll (l.map fun c => PyData.str ⟨#[c]⟩) = 0
  | [], _ => ⟨rfl, by simp [PyData.depthAll]⟩
  | c :: l, hl => by
    obtain ⟨a, b⟩ := chars_shaped h (l := l) fun x hx => hl x (List.mem_cons_of_mem _ hx)
    have := one_ok h (hl c List.mem_cons_self)
    exact ⟨by rw [List.map_cons]; simp only [PyData.canLayAll0, PyData.canLay0, a, this, Bool.and_self], by rw [List.map_cons]; simp only [PyData.depthAll, PyData.depth, b, Nat.max_self]⟩
theorem eq_nil {xs : List D} (h : PyData.canLayAll0 xs = true) (h2 : PyData.depthAll xs ≤ 20) (S : Sto) : bin2 (gCmp .Eq) (.d (.list xs)) (.d (.list [])) S = some (.bool xs.isEmpty) := by
  show gEq (.list xs) (.list []) = _
  have hs : SeqAt.shaped (.list xs) = true := by
    unfold SeqAt.shaped
    rw [Bool.and_eq_true, decide_eq_true_eq]
    exact ⟨by simpa [PyData.canLay0] using h, by simp only [PyData.depth]; omega⟩
  unfold gEq
  rw [if_pos (.inr ⟨hs, by decide +kernel⟩)]
  cases xs <;> simp [PyData.eqv, PyData.eqvAll]
theorem ne_nil {xs : List D} (h : PyData.canLayAll0 xs = true) (h2 : PyData.depthAll xs ≤ 20) (S : Sto) : bin2 (gCmp .NotEq) (.d (.list xs)) (.d (.list [])) S = some (.bool (!xs.isEmpty)) := by
  show gNe (.list xs) (.list []) = _
  have hs : SeqAt.shaped (.list xs) = true := by
    unfold SeqAt.shaped
    rw [Bool.and_eq_true, decide_eq_true_eq]
    exact ⟨by simpa [PyData.canLay0] using h, by simp only [PyData.depth]; omega⟩
  unfold gNe
  rw [if_pos (.inr ⟨hs, by decide +kernel⟩)]
  cases xs <;> simp [PyData.eqv, PyData.eqvAll]
theorem filt_empty {α β : Type} (p : α → Bool) (f : α → β) (l : List α) : ((l.filter fun c => !p c).map f).isEmpty = l.all p := by
  induction l with
  | nil => rfl
  | cons c l ih =>
    rw [List.filter_cons, List.all_cons]
    cases h : p c <;> simp [h, ih]
theorem t_lawpage0 (n : Nat) (S : Sto) {d : D} (h : pgB d = true) : callN fns (n + 1) i_law_is_page [.d d] S = some (.d (.bool (pageD d)), S) := by
  refine WC.eq (c_law_is_page ?_)
  cases d with
  | str z =>
    have h : smB (.str z) = true := h
    have hz := st_len (sm_st h)
    have hok : PyData.strOk z = true := by
      have := sm_shaped h
      unfold SeqAt.shaped at this
      rw [Bool.and_eq_true] at this
      simpa [PyData.canLay0] using this.1
    nofun
    all_goals first
      | (refine loop_filter (fun c => !lawL c) (fun c => .str ⟨#[c]⟩) (by rw [Array.length_toList]; exact hz) (fun c hc => ?_) ?_)
      | skip
    · refine ⟨?_, rfl⟩
      rename_i hb
      rw [decide_eq_true_eq] at hb
      show R.d (.bool false) = R.d (.bool (pageB z))
      unfold pageB
      rw [decide_eq_false (show ¬ (z.length : Int) ≤ 8 by omega), Bool.and_false, Bool.false_and]
    · refine turn_eq rfl ?_
      nofun
      · rename_i h1 h2
        exact ⟨_, rfl, by rw [law_l1 h1 h2]; rfl, rfl⟩
      · rename_i h1 h2
        exact ⟨by rw [law_l2 h1 h2]; rfl, rfl⟩
      · rename_i h1 _
        exact ⟨_, rfl, by rw [law_l3 h1]; rfl, rfl⟩
    · nofun
      have hc : ∀ c ∈ z.cps.toList.filter (fun c => !lawL c), c ∈ z.cps.toList := fun c hc => (List.mem_filter.mp hc).1
      obtain ⟨a1, a2⟩ := chars_shaped hok hc
      refine lf (eq_nil a1 (by rw [a2]; exact Nat.zero_le _) S) ?_
      nofun
      rw [filt_empty]
      refine ⟨?_, rfl⟩
      rename_i h1 h2
      rw [decide_eq_false_iff_not] at h1 h2
      show R.d (.bool _) = R.d (.bool (pageB z))
      unfold pageB
      rw [decide_eq_true (show 1 ≤ (z.length : Int) by omega), decide_eq_true (show (z.length : Int) ≤ 8 by omega), Bool.true_and, Bool.true_and]
      rw [show lawL = letterB from funext law_letter]
    · refine ⟨?_, rfl⟩
      rename_i hb
      rw [decide_eq_true_eq] at hb
      show R.d (.bool false) = R.d (.bool (pageB z))
      unfold pageB
      rw [decide_eq_false (show ¬ 1 ≤ (z.length : Int) by omega), Bool.false_and, Bool.false_and]
    · exfalso
      rename_i hb
      exact ystr hb
  | _ =>
    nofun
    all_goals first
      | exact ⟨rfl, rfl⟩
      | (exfalso; rename_i hb; exact nstr rfl hb)
      | (exfalso; rename_i hb _; exact nstr rfl hb)
      | (exfalso; rename_i hb _ _; exact nstr rfl hb)
      | (exfalso; rename_i hb _ _ _; exact nstr rfl hb)
      | trace_state
theorem t_lawpage (n : Nat) (S : Sto) {d : D} (h : smB d = true) : callN fns (n + 1) i_law_is_page [.d d] S = some (.d (.bool (pageD d)), S) := t_lawpage0 n S (sm_pg h)
end PL.W
end
section
set_option maxHeartbeats 4000000
open PL PySem PySem.Spec PyProof.Rows L2
local macro_rules | `(tactic| left) => `(tactic| (first
  | with_reducible refine ws_asg ?_ | with_reducible refine ws_asgL ?_ | with_reducible refine ws_par ?_ | with_reducible refine ws_parC ?_ | with_reducible refine ws_unp ?_ | with_reducible refine ws_dset ?_
  | with_reducible refine ws_expr ?_ | with_reducible refine ws_ret ?_ | with_reducible refine ws_ret0 ?_ | with_reducible refine ws_pass ?_ | with_reducible refine ws_brk ?_ | with_reducible refine ws_cont ?_ | with_reducible refine ws_if ?_ | with_reducible refine ws_for ?_ | with_reducible refine ws_nil ?_
  | with_reducible refine we_int ?_ | with_reducible refine we_str ?_ | with_reducible refine we_bl ?_ | with_reducible refine we_non ?_ | with_reducible refine we_gd ?_
  | ((with_reducible apply we_loc); rfl)
  | with_reducible refine we_bin ?_ | with_reducible refine we_cmp ?_ | with_reducible refine we_cmp2 ?_ | with_reducible refine we_bop ?_ | with_reducible refine wb_nil ?_ | with_reducible refine wb_cons ?_ | with_reducible refine we_not ?_ | with_reducible refine we_neg ?_ | with_reducible refine we_ite ?_
  | with_reducible refine we_tup ?_ | with_reducible refine we_lst ?_ | with_reducible refine we_lstR ?_ | with_reducible refine we_dic0 ?_ | with_reducible refine we_dic ?_ | with_reducible refine we_ix ?_ | with_reducible refine we_sl ?_ | with_reducible refine wo_no ?_ | with_reducible refine wo_so ?_
  | with_reducible refine we_bi ?_ | with_reducible refine we_isi ?_ | with_reducible refine we_call ?_ | with_reducible refine we_callK ?_ | with_reducible refine we_comp ?_ | with_reducible refine we_compR ?_ | with_reducible refine we_get2 ?_ | with_reducible refine we_app ?_ | with_reducible refine we_ext ?_ | with_reducible refine we_join ?_
  | with_reducible refine we_gget2 ?_ | with_reducible refine we_gget ?_ | with_reducible refine we_gix ?_ | with_reducible refine we_gin ?_ | with_reducible refine we_sset ?_ | with_reducible refine we_sortd ?_ | with_reducible refine we_rev ?_ | with_reducible refine we_reprL ?_ | ((with_reducible apply lfV); rfl; exact Nat.le_of_ble_eq_true rfl) | with_reducible refine wes_nil ?_ | with_reducible refine wes_cons ?_ | with_reducible refine wt_nil ?_ | with_reducible refine wt_one ?_
  | with_reducible refine wi_rng ?_ | with_reducible refine wi_rng2 ?_ | with_reducible refine wi_zip ?_ | with_reducible refine wi_enm ?_ | with_reducible refine wi_seq ?_
  | with_reducible refine then_nx ?_ | with_reducible refine then_bk ?_ | with_reducible refine then_ct ?_ | with_reducible refine then_rt ?_ | with_reducible refine qf_same ?_ | with_reducible refine qf_app ?_ | with_reducible refine qf_cons ?_ | with_reducible refine qf_consA ?_ | with_reducible refine qf_ref ?_ | with_reducible refine qf_d ?_ | with_reducible refine qf_nx ?_
  | ((with_reducible apply wk_eq); with_reducible assumption)
  | (with_reducible refine limp (fun hb => ?_) (fun hb => ?_) <;> (first | (cases hb; done) | (simp only [Bool.not_false, Bool.not_true, Bool.true_eq_false, Bool.false_eq_true, reduceCtorEq] at hb; done) | cases hb | ((try simp only [Bool.not_false, Bool.not_true] at hb); (try rw [hb]))))
  | with_reducible refine lf_add ?_ | with_reducible refine lf_sub ?_ | ((with_reducible apply lf_mod); (first | assumption | decide)) | ((with_reducible apply lf_div); (first | assumption | decide)) | with_reducible refine lf_lt ?_ | with_reducible refine lf_le ?_ | with_reducible refine lf_gt ?_ | with_reducible refine lf_ge ?_ | with_reducible refine lf_eqI ?_ | with_reducible refine lf_neI ?_ | with_reducible refine lf_eqSame ?_ | with_reducible refine lf_neSame ?_ | with_reducible refine lf_eqS ?_ | with_reducible refine lf_neS ?_
  | with_reducible refine lf_isN ?_ | with_reducible refine lf_isI ?_ | with_reducible refine lf_isnN ?_ | with_reducible refine lf_isnI ?_ | with_reducible refine lf_tb ?_ | with_reducible refine lf_tl ?_ | with_reducible refine lf_tt ?_ | with_reducible refine lf_int ?_ | with_reducible refine lf_lenL ?_ | with_reducible refine lf_lenT ?_ | ((with_reducible apply lf_lenS); assumption) | with_reducible refine lf_tupL ?_ | with_reducible refine lf_tupT ?_ | with_reducible refine lf_listL ?_ | with_reducible refine lf_listT ?_ | with_reducible refine lf_view ?_ | with_reducible refine lf_in2 ?_ | with_reducible refine lf_in3 ?_ | with_reducible refine lf_inM ?_ | with_reducible refine lf_ix0T ?_ | with_reducible refine lf_ix1T ?_ | with_reducible refine lf_ix2T ?_ | with_reducible refine lf_sl1 ?_ | with_reducible refine lf_slL ?_ | with_reducible refine lf_slT ?_
  | ((with_reducible apply lf_pow); decide) | with_reducible refine lf_mul ?_ ?_ | with_reducible refine lf_pow ?_ ?_ | ((with_reducible apply lf_addT); exact Nat.le_of_ble_eq_true rfl) | ((with_reducible apply lf_addL); exact Nat.le_of_ble_eq_true rfl) | with_reducible refine lf_addT ?_ ?_ | with_reducible refine lf_addL ?_ ?_
  | ((with_reducible apply lf2); rfl; rfl) | ((with_reducible apply lf3); rfl; exact Nat.le_of_ble_eq_true rfl) | ((with_reducible apply lf4); rfl; decide) | ((with_reducible apply lfU); rfl; rfl)
  | with_reducible refine ls_l ?_ | with_reducible refine ls_t ?_ | with_reducible refine ls_s ?_ | ((with_reducible apply ls_r); rfl) | with_reducible refine le_l ?_ | with_reducible refine le_t ?_ | with_reducible refine le_s ?_ | with_reducible refine lz_l ?_ | with_reducible refine lz_t ?_
  | ((with_reducible apply lfR); (first | decide | omega)) | ((with_reducible apply lfR2); (first | decide | omega)) | with_reducible refine lfI ?_
  | ((with_reducible apply lf); rfl) | ((with_reducible apply lfB); rfl) | ((with_reducible apply land); rfl)))
local macro_rules | `(tactic| nofun) => `(tactic| repeat' left)
namespace PL.W
open PySem PySem.Spec PyProof.Rows L2 PL
/-! ### parts -/
def partB (d : D) (k : Str) : Bool := if k = "page" then pageD d else cntB 1 d
def partsB (ds : List D) (ks : List Str) : Bool := decide (ds.length = ks.length) && (ds.zip ks).all fun p => partB p.1 p.2
theorem t_part (n : Nat) (S : Sto) {d : D} (h : stB d = true) (k : Str) : callN fns (n + 2) i_is_part [.d d, .d (.str k)] S = some (.d (.bool (partB d k)), S) := by
  have e1 := t_pageD n S h
  have e2 := t_isint n S d
  refine WC.eq (c_is_part ?_)
  unfold partB
  by_cases hk : k = "page"
  · rw [if_pos hk]
    nofun
    all_goals first
      | exact ⟨rfl, rfl⟩
      | (exfalso; rename_i hb; rw [decide_eq_false_iff_not] at hb; exact hb hk)
      | (exfalso; rename_i hb _; rw [decide_eq_false_iff_not] at hb; exact hb hk)
  · rw [if_neg hk]
    cases d with
    | int i =>
      have e2 : callN fns (n + 1) i_is_integer [.d (.int i)] S = some (.d (.bool true), S) := e2
      nofun
      all_goals first
        | exact ⟨rfl, rfl⟩
        | (exfalso; rename_i hb; rw [decide_eq_true_eq] at hb; exact hk hb)
    | _ =>
      have e2 : callN fns (n + 1) i_is_integer [.d _] S = some (.d (.bool false), S) := e2
      nofun
      all_goals first
        | exact ⟨rfl, rfl⟩
        | (exfalso; rename_i hb; rw [decide_eq_true_eq] at hb; exact hk hb)
theorem zip_kinds (ds : List D) (ks : List Str) : zipD ds (ks.map .str) = (ds.zip ks).map fun p => .tuple [id p.1, .str p.2] := by
  rw [← zip_map (f := id), List.map_id]
theorem t_parts0 (n : Nat) (S : Sto) (ds : List D) : callN fns (n + 3) i_are_parts [.d (.tuple ds), .d .none] S = some (.d (.bool false), S) := by
  refine WC.eq (c_are_parts ?_)
  nofun
  all_goals first
    | exact ⟨rfl, rfl⟩
    | trace_state
theorem t_parts (n : Nat) (S : Sto) {ds : List D} (h : ∀ d ∈ ds, stB d = true) (hl : ds.length < 100) (ks : List Str) (hk : ks.length < 100) : callN fns (n + 3) i_are_parts [.d (.tuple ds), .d (.tuple (ks.map .str))] S = some (.d (.bool (partsB ds ks)), S) := by
  have e : ∀ p ∈ ds.zip ks, turn (callN fns (n + 2)) [2, 3] (.tup [2, 3]) .nil (.call i_is_part (.cons (.loc 2) (.cons (.loc 3) .nil))) [some (.d (.tuple ds)), some (.d (.tuple (ks.map .str))), none, none] (.tuple [p.1, .str p.2]) S = some (some (.bool (partB p.1 p.2)), S) := fun p hp => by
    obtain ⟨d, k⟩ := p
    have e1 := t_part n S (h d (List.of_mem_zip hp).1) k
    refine turn_eq rfl ?_
    nofun
    exact ⟨_, rfl, rfl, rfl⟩
  refine WC.eq (c_are_parts ?_)
  nofun
  · refine ⟨?_, rfl⟩
    rename_i hb
    rw [List.length_map, Bool.not_eq_true', decide_eq_false_iff_not] at hb
    unfold partsB
    rw [decide_eq_false (fun z => hb (by rw [z])), Bool.false_and]
  · rw [zip_kinds]
    refine loop_every (fun p => .bool (partB p.1 p.2)) (by rw [List.length_zip]; exact Nat.le_trans (show min ds.length ks.length ≤ 100 by omega) (Nat.le_of_ble_eq_true rfl)) e ?_
    refine lf_all ?_
    nofun
    refine ⟨?_, rfl⟩
    rename_i hb
    rw [List.length_map, Bool.not_eq_false', decide_eq_true_eq] at hb
    unfold partsB
    rw [decide_eq_true (show ds.length = ks.length by omega), Bool.true_and]
  · rename_i hb
    cases hb
def hasW : D → Bool
  | .tuple (a :: _) => isStr a
  | _ => false
theorem t_hasword (n : Nat) (S : Sto) (d : D) : callN fns (n + 1) i_has_word [.d d] S = some (.d (.bool (hasW d)), S) := by
  refine WC.eq (c_has_word ?_)
  cases d with
  | tuple ds =>
    rcases ds with _ | ⟨a, r⟩
    · nofun
      all_goals first
        | exact ⟨rfl, rfl⟩
        | (exfalso; rename_i hb; exact ytup1 hb)
        | (exfalso; rename_i hb; revert hb; decide)
    · nofun
      all_goals first
        | (refine ⟨?_, rfl⟩; rw [str_isTy]; done)
        | (refine ⟨?_, rfl⟩; rw [str_isTy]; rfl)
        | (exfalso; rename_i hb; exact ytup1 hb)
        | (exfalso; rename_i hb; rw [decide_eq_false_iff_not, List.length_cons] at hb; omega)
  | _ =>
    nofun
    all_goals first
      | exact ⟨rfl, rfl⟩
      | (exfalso; rename_i hb; exact ntup1 rfl hb)
      | (exfalso; rename_i hb _; exact ntup1 rfl hb)
/-! ### records, deeds -/
theorem look_map (l : List (Str × List Str)) (w : Str) : (l.map fun p => (p.1, PyData.tuple (p.2.map .str))).lookup w = (l.lookup w).map fun ks => .tuple (ks.map .str) := by
  induction l with
  | nil => rfl
  | cons p l ih =>
    obtain ⟨a, b⟩ := p
    rw [List.map_cons, List.lookup_cons, List.lookup_cons]
    cases h : (w == a) with
    | true => rfl
    | false => exact ih
abbrev PG : List Str := ["page"]
abbrev NB : List Str := ["number"]
abbrev PN : List Str := ["page", "number"]
abbrev REC : List (Str × List Str) := [("keep", PN), ("write", PN), ("plain", PN), ("free", PG), ("strike", PG)]
abbrev DEED : List (Str × List Str) := [("keep", PG), ("plain", PG), ("write", PG), ("free", PG), ("strike", PG), ("flush", PG), ("put", PG), ("point", NB), ("seal", []), ("stop", []), ("end", [])]
def kindsD : Option (List Str) → D
  | some ks => .tuple (ks.map .str)
  | none => .none
theorem kinds_get (o : Option (List Str)) : (o.map fun ks => PyData.tuple (ks.map .str)).getD .none = kindsD o := by cases o <;> rfl
theorem tab_rec (w : Str) : getTab t_RECORD_PARTS (.d (.str w)) = some (kindsD (REC.lookup w)) := by
  show some ((t_RECORD_PARTS.lookup w).getD .none) = _
  rw [show t_RECORD_PARTS = REC.map (fun p => (p.1, PyData.tuple (p.2.map .str))) from rfl, look_map, kinds_get]
theorem tab_deed (w : Str) : getTab t_DEED_PARTS (.d (.str w)) = some (kindsD (DEED.lookup w)) := by
  show some ((t_DEED_PARTS.lookup w).getD .none) = _
  rw [show t_DEED_PARTS = DEED.map (fun p => (p.1, PyData.tuple (p.2.map .str))) from rfl, look_map, kinds_get]
def partsO : Option (List Str) → List D → Bool
  | some ks, r => partsB r ks
  | none, _ => false
def formB (tab : List (Str × List Str)) : D → Bool
  | .tuple (.str w :: r) => partsO (tab.lookup w) r
  | _ => false
theorem look_mem {tab : List (Str × List Str)} {w : Str} {ks : List Str} (h : tab.lookup w = some ks) : (w, ks) ∈ tab := by
  induction tab with
  | nil => cases h
  | cons p l ih =>
    obtain ⟨a, b⟩ := p
    rw [List.lookup_cons] at h
    cases hh : (w == a) with
    | true => rw [hh] at h; cases h; rw [eq_of_beq hh]; exact List.mem_cons_self
    | false => rw [hh] at h; exact List.mem_cons_of_mem _ (ih h)
theorem rec_short {w : Str} {ks : List Str} (h : REC.lookup w = some ks) : ks.length < 100 := by
  have : ∀ p ∈ REC, p.2.length < 100 := by decide
  exact this _ (look_mem h)
theorem deed_short {w : Str} {ks : List Str} (h : DEED.lookup w = some ks) : ks.length < 100 := by
  have : ∀ p ∈ DEED, p.2.length < 100 := by decide
  exact this _ (look_mem h)
end PL.W
local macro_rules | `(tactic| left) => `(tactic| first | with_reducible refine lf (PL.W.tab_rec _) ?_ | with_reducible refine lf (PL.W.tab_deed _) ?_)
namespace PL.W
theorem t_recparts (n : Nat) (S : Sto) (w : Str) : callN fns (n + 1) i_record_parts [.d (.str w)] S = some (.d (kindsD (REC.lookup w)), S) := by
  refine WC.eq (c_record_parts ?_)
  nofun
  exact ⟨rfl, rfl⟩
theorem t_deedparts (n : Nat) (S : Sto) (w : Str) : callN fns (n + 1) i_deed_parts [.d (.str w)] S = some (.d (kindsD (DEED.lookup w)), S) := by
  refine WC.eq (c_deed_parts ?_)
  nofun
  exact ⟨rfl, rfl⟩
theorem t_kinds (n : Nat) (S : Sto) {ds : List D} (h : ∀ d ∈ ds, stB d = true) (hl : ds.length < 100) (o : Option (List Str)) (hk : ∀ ks, o = some ks → ks.length < 100) : callN fns (n + 3) i_are_parts [.d (.tuple ds), .d (kindsD o)] S = some (.d (.bool (partsO o ds)), S) := by
  cases o with
  | none => exact t_parts0 n S ds
  | some ks => exact t_parts n S h hl ks (hk ks rfl)
theorem it_rest {w : D} {r : List D} (h : itB (.tuple (w :: r)) = true) : (∀ d ∈ r, stB d = true) ∧ r.length < 100 := by
  obtain ⟨a, b⟩ := it_tup h
  rw [List.length_cons] at b
  exact ⟨fun d hd => sm_st (a d (List.mem_cons_of_mem _ hd)), by omega⟩
theorem form_no {tab : List (Str × List Str)} {d : D} (h : hasW d = false) : formB tab d = false := by
  unfold formB
  split
  · cases h
  · rfl
theorem has_word {d : D} (hw : hasW d = true) : ∃ w r, d = .tuple (.str w :: r) := by
  unfold hasW at hw
  split at hw
  · rename_i a r
    cases a <;> first | exact ⟨_, _, rfl⟩ | cases hw
  · cases hw
theorem t_record (n : Nat) (S : Sto) {d : D} (h : itB d = true) : callN fns (n + 4) i_is_record [.d d] S = some (.d (.bool (formB REC d)), S) := by
  have e0 := t_hasword (n + 2) S d
  refine WC.eq (c_is_record ?_)
  cases hw : hasW d with
  | false =>
    rw [hw] at e0
    rw [form_no hw]
    nofun
    exact ⟨rfl, rfl⟩
  | true =>
    rw [hw] at e0
    obtain ⟨w, r, rfl⟩ := has_word hw
    have e1 := t_recparts (n + 2) S w
    have e2 := t_kinds n S (it_rest h).1 (it_rest h).2 (REC.lookup w) (fun ks hk => rec_short hk)
    nofun
    exact ⟨rfl, rfl⟩
theorem t_deed (n : Nat) (S : Sto) {d : D} (h : itB d = true) : callN fns (n + 4) i_is_deed [.d d] S = some (.d (.bool (formB DEED d)), S) := by
  have e0 := t_hasword (n + 2) S d
  refine WC.eq (c_is_deed ?_)
  cases hw : hasW d with
  | false =>
    rw [hw] at e0
    rw [form_no hw]
    nofun
    exact ⟨rfl, rfl⟩
  | true =>
    rw [hw] at e0
    obtain ⟨w, r, rfl⟩ := has_word hw
    have e1 := t_deedparts (n + 2) S w
    have e2 := t_kinds n S (it_rest h).1 (it_rest h).2 (DEED.lookup w) (fun ks hk => deed_short hk)
    nofun
    exact ⟨rfl, rfl⟩
end PL.W
end
section
set_option maxHeartbeats 4000000
open PL PySem PySem.Spec PyProof.Rows L2
local macro_rules | `(tactic| left) => `(tactic| (first
  | with_reducible refine ws_asg ?_ | with_reducible refine ws_asgL ?_ | with_reducible refine ws_par ?_ | with_reducible refine ws_parC ?_ | with_reducible refine ws_unp ?_ | with_reducible refine ws_dset ?_
  | with_reducible refine ws_expr ?_ | with_reducible refine ws_ret ?_ | with_reducible refine ws_ret0 ?_ | with_reducible refine ws_pass ?_ | with_reducible refine ws_brk ?_ | with_reducible refine ws_cont ?_ | with_reducible refine ws_if ?_ | with_reducible refine ws_for ?_ | with_reducible refine ws_nil ?_
  | with_reducible refine we_int ?_ | with_reducible refine we_str ?_ | with_reducible refine we_bl ?_ | with_reducible refine we_non ?_ | with_reducible refine we_gd ?_
  | ((with_reducible apply we_loc); rfl)
  | with_reducible refine we_bin ?_ | with_reducible refine we_cmp ?_ | with_reducible refine we_cmp2 ?_ | with_reducible refine we_bop ?_ | with_reducible refine wb_nil ?_ | with_reducible refine wb_cons ?_ | with_reducible refine we_not ?_ | with_reducible refine we_neg ?_ | with_reducible refine we_ite ?_
  | with_reducible refine we_tup ?_ | with_reducible refine we_lst ?_ | with_reducible refine we_lstR ?_ | with_reducible refine we_dic0 ?_ | with_reducible refine we_dic ?_ | with_reducible refine we_ix ?_ | with_reducible refine we_sl ?_ | with_reducible refine wo_no ?_ | with_reducible refine wo_so ?_
  | with_reducible refine we_bi ?_ | with_reducible refine we_isi ?_ | with_reducible refine we_call ?_ | with_reducible refine we_callK ?_ | with_reducible refine we_comp ?_ | with_reducible refine we_compR ?_ | with_reducible refine we_get2 ?_ | with_reducible refine we_app ?_ | with_reducible refine we_ext ?_ | with_reducible refine we_join ?_
  | with_reducible refine we_gget2 ?_ | with_reducible refine we_gget ?_ | with_reducible refine we_gix ?_ | with_reducible refine we_gin ?_ | with_reducible refine we_sset ?_ | with_reducible refine we_sortd ?_ | with_reducible refine we_rev ?_ | with_reducible refine we_reprL ?_ | ((with_reducible apply lfV); rfl; exact Nat.le_of_ble_eq_true rfl) | with_reducible refine wes_nil ?_ | with_reducible refine wes_cons ?_ | with_reducible refine wt_nil ?_ | with_reducible refine wt_one ?_
  | with_reducible refine wi_rng ?_ | with_reducible refine wi_rng2 ?_ | with_reducible refine wi_zip ?_ | with_reducible refine wi_enm ?_ | with_reducible refine wi_seq ?_
  | with_reducible refine then_nx ?_ | with_reducible refine then_bk ?_ | with_reducible refine then_ct ?_ | with_reducible refine then_rt ?_ | with_reducible refine qf_same ?_ | with_reducible refine qf_app ?_ | with_reducible refine qf_cons ?_ | with_reducible refine qf_consA ?_ | with_reducible refine qf_ref ?_ | with_reducible refine qf_d ?_ | with_reducible refine qf_nx ?_
  | ((with_reducible apply wk_eq); with_reducible assumption)
  | (with_reducible refine limp (fun hb => ?_) (fun hb => ?_) <;> (first | (cases hb; done) | (simp only [Bool.not_false, Bool.not_true, Bool.true_eq_false, Bool.false_eq_true, reduceCtorEq] at hb; done) | cases hb | ((try simp only [Bool.not_false, Bool.not_true] at hb); (try rw [hb]))))
  | with_reducible refine lf_add ?_ | with_reducible refine lf_sub ?_ | ((with_reducible apply lf_mod); (first | assumption | decide)) | ((with_reducible apply lf_div); (first | assumption | decide)) | with_reducible refine lf_lt ?_ | with_reducible refine lf_le ?_ | with_reducible refine lf_gt ?_ | with_reducible refine lf_ge ?_ | with_reducible refine lf_eqI ?_ | with_reducible refine lf_neI ?_ | with_reducible refine lf_eqSame ?_ | with_reducible refine lf_neSame ?_ | with_reducible refine lf_eqS ?_ | with_reducible refine lf_neS ?_
  | with_reducible refine lf_isN ?_ | with_reducible refine lf_isI ?_ | with_reducible refine lf_isnN ?_ | with_reducible refine lf_isnI ?_ | with_reducible refine lf_tb ?_ | with_reducible refine lf_tl ?_ | with_reducible refine lf_tt ?_ | with_reducible refine lf_int ?_ | with_reducible refine lf_lenL ?_ | with_reducible refine lf_lenT ?_ | ((with_reducible apply lf_lenS); assumption) | with_reducible refine lf_tupL ?_ | with_reducible refine lf_tupT ?_ | with_reducible refine lf_listL ?_ | with_reducible refine lf_listT ?_ | with_reducible refine lf_view ?_ | with_reducible refine lf_in2 ?_ | with_reducible refine lf_in3 ?_ | with_reducible refine lf_inM ?_ | with_reducible refine lf_ix0T ?_ | with_reducible refine lf_ix1T ?_ | with_reducible refine lf_ix2T ?_ | with_reducible refine lf_sl1 ?_ | with_reducible refine lf_slL ?_ | with_reducible refine lf_slT ?_
  | ((with_reducible apply lf_pow); decide) | with_reducible refine lf_mul ?_ ?_ | with_reducible refine lf_pow ?_ ?_ | ((with_reducible apply lf_addT); exact Nat.le_of_ble_eq_true rfl) | ((with_reducible apply lf_addL); exact Nat.le_of_ble_eq_true rfl) | with_reducible refine lf_addT ?_ ?_ | with_reducible refine lf_addL ?_ ?_
  | ((with_reducible apply lf2); rfl; rfl) | ((with_reducible apply lf3); rfl; exact Nat.le_of_ble_eq_true rfl) | ((with_reducible apply lf4); rfl; decide) | ((with_reducible apply lfU); rfl; rfl)
  | with_reducible refine ls_l ?_ | with_reducible refine ls_t ?_ | with_reducible refine ls_s ?_ | ((with_reducible apply ls_r); rfl) | with_reducible refine le_l ?_ | with_reducible refine le_t ?_ | with_reducible refine le_s ?_ | with_reducible refine lz_l ?_ | with_reducible refine lz_t ?_
  | ((with_reducible apply lfR); (first | decide | omega)) | ((with_reducible apply lfR2); (first | decide | omega)) | with_reducible refine lfI ?_
  | ((with_reducible apply lf); rfl) | ((with_reducible apply lfB); rfl) | ((with_reducible apply land); rfl)))
local macro_rules | `(tactic| nofun) => `(tactic| repeat' left)
namespace PL.W
open PySem PySem.Spec PyProof.Rows L2 PL
/-! ### the law's own records and deeds -/
theorem rec_pn {w : Str} (h : w = "keep" ∨ w = "write" ∨ w = "plain") : REC.lookup w = some PN := by rcases h with rfl | rfl | rfl <;> decide +kernel
theorem rec_pg {w : Str} (h : w = "free" ∨ w = "strike") : REC.lookup w = some PG := by rcases h with rfl | rfl <;> decide +kernel
theorem rec_no {w : Str} (h : ¬ (w = "keep" ∨ w = "write" ∨ w = "plain")) (h2 : ¬ (w = "free" ∨ w = "strike")) : REC.lookup w = none := by
  cases hq : REC.lookup w with
  | none => rfl
  | some ks =>
    have := look_mem hq
    simp only [REC, List.mem_cons, List.not_mem_nil, or_false, Prod.mk.injEq] at this
    exfalso
    rcases this with ⟨z, _⟩ | ⟨z, _⟩ | ⟨z, _⟩ | ⟨z, _⟩ | ⟨z, _⟩
    · exact h (.inl z)
    · exact h (.inr (.inl z))
    · exact h (.inr (.inr z))
    · exact h2 (.inl z)
    · exact h2 (.inr z)
theorem parts_pn (b : D) (r : List D) : partsB (b :: r) PN = (pageD b && match r with
    | [c] => cntB 1 c
    | _ => false) := by
  rcases r with _ | ⟨c, _ | ⟨e, t⟩⟩
  · show (decide (1 = 2) && _) = _
    simp
  · show (decide (2 = 2) && (partB b "page" && (partB c "number" && true))) = _
    rw [show partB b "page" = pageD b from if_pos rfl, show partB c "number" = cntB 1 c from if_neg (by decide)]
    simp
  · unfold partsB
    rw [decide_eq_false (by simp only [List.length_cons, List.length_nil]; omega)]
    simp
theorem parts_pg (b : D) (r : List D) : partsB (b :: r) PG = (pageD b && r.isEmpty) := by
  rcases r with _ | ⟨e, t⟩
  · show (decide (1 = 1) && (partB b "page" && true)) = _
    rw [show partB b "page" = pageD b from if_pos rfl]
    simp
  · unfold partsB
    rw [decide_eq_false (by simp only [List.length_cons, List.length_nil]; omega)]
    simp
theorem parts_nb (b : D) (r : List D) : partsB (b :: r) NB = (cntB 1 b && r.isEmpty) := by
  rcases r with _ | ⟨e, t⟩
  · show (decide (1 = 1) && (partB b "number" && true)) = _
    rw [show partB b "number" = cntB 1 b from if_neg (by decide)]
    simp
  · unfold partsB
    rw [decide_eq_false (by simp only [List.length_cons, List.length_nil]; omega)]
    simp
theorem parts_0 (b : D) (r : List D) : partsB (b :: r) [] = false := by
  unfold partsB
  rw [decide_eq_false (by simp)]
  rfl
theorem parts_nil (ks : List Str) : partsB [] ks = ks.isEmpty := by
  unfold partsB
  cases ks <;> simp
abbrev in2 (w : Str) : Bool := decide (w = "free") || decide (w = "strike")
abbrev in3 (w : Str) : Bool := decide (w = "keep") || (decide (w = "write") || decide (w = "plain"))
theorem form_rec (w : Str) (b : D) (r : List D) : formB REC (.tuple (.str w :: b :: r)) = (pageD b && if in2 w = true then r.isEmpty else in3 w && match r with
    | [c] => cntB 1 c
    | _ => false) := by
  show partsO (REC.lookup w) (b :: r) = _
  by_cases h2 : w = "free" ∨ w = "strike"
  · rw [rec_pg h2, show partsO (some PG) (b :: r) = partsB (b :: r) PG from rfl, parts_pg, if_pos (by simpa using h2)]
  · rw [if_neg (by simpa using h2)]
    by_cases h3 : w = "keep" ∨ w = "write" ∨ w = "plain"
    · rw [rec_pn h3, show partsO (some PN) (b :: r) = partsB (b :: r) PN from rfl, parts_pn, show in3 w = true by simpa using h3, Bool.true_and]
    · rw [rec_no h3 h2, show in3 w = false by simpa using h3, Bool.false_and, Bool.and_false]; rfl
theorem form_rec1 (a : D) : formB REC (.tuple [a]) = false := by
  cases a with
  | str w =>
    show partsO (REC.lookup w) [] = _
    cases hq : REC.lookup w with
    | none => rfl
    | some ks =>
      have := look_mem hq
      have h : ∀ p ∈ REC, p.2.isEmpty = false := by decide
      show partsB [] ks = false
      rw [parts_nil]
      exact h _ this
  | _ => rfl
theorem form_nostr {tab : List (Str × List Str)} {a : D} {r : List D} (h : isStr a = false) : formB tab (.tuple (a :: r)) = false := form_no (d := .tuple (a :: r)) h
theorem nstr2 {d : D} (hb : (!isTy .str d) = false) : isStr d = true := by
  rw [str_isTy] at hb
  simpa using hb
theorem lenlt2 (a b : D) (r : List D) (h : decide ((((a :: b :: r).length : Nat) : Int) < 2) = true) : False := by
  rw [decide_eq_true_eq] at h
  simp only [List.length_cons] at h
  omega
theorem t_lawrecord (n : Nat) (S : Sto) {d : D} (h : itB d = true) : callN fns (n + 3) i_law_is_record [.d d] S = some (.d (.bool (formB REC d)), S) := by
  refine WC.eq (c_law_is_record ?_)
  cases d with
  | tuple ds =>
    obtain ⟨hs, hl⟩ := it_tup h
    rcases ds with _ | ⟨a, _ | ⟨b, r⟩⟩
    · nofun
      all_goals first
        | exact ⟨rfl, rfl⟩
        | (exfalso; rename_i hb; exact ytup hb)
        | (exfalso; rename_i hb; revert hb; decide)
        | trace_state
    · rw [form_rec1]
      nofun
      all_goals first
        | exact ⟨rfl, rfl⟩
        | (exfalso; rename_i hb; exact ytup hb)
        | (exfalso; rename_i hb; revert hb; simp; done)
        | (exfalso; rename_i hb _; revert hb; simp; done)
        | trace_state
    · have eb := t_lawpage (n + 1) S (hs b (by simp))
      cases hpg : pageD b with
      | false =>
        rw [hpg] at eb
        have ev : formB REC (.tuple (a :: b :: r)) = false := by
          cases a with
          | str w => rw [form_rec, hpg, Bool.false_and]
          | _ => exact form_nostr rfl
        rw [ev]
        nofun
        all_goals first
          | exact ⟨rfl, rfl⟩
          | (exfalso; rename_i hb; exact ytup hb)
          | (exfalso; rename_i hb; exact lenlt2 _ _ _ hb)
          | trace_state
      | true =>
        rw [hpg] at eb
        cases a with
        | str w =>
          have ev := form_rec w b r
          rw [hpg, Bool.true_and] at ev
          rw [ev]
          clear ev
          rcases r with _ | ⟨c, _ | ⟨e, t⟩⟩
          · nofun
            all_goals first
              | (exfalso; rename_i hb; exact ytup hb)
              | (exfalso; rename_i hb; exact lenlt2 _ _ _ hb)
              | (exfalso; rename_i hb; exact ystr hb)
              | (exfalso; rename_i hb; revert hb; simp; done)
              | (refine ⟨?_, rfl⟩; clear eb h hs hl; simp_all; done)
              | (exfalso; rename_i hb; rw [decide_eq_true_eq] at hb; simp only [List.length_cons] at hb; omega)
              | (refine ⟨?_, rfl⟩; rename_i hb; rw [if_pos hb, decide_eq_false (by simp only [List.length_cons]; omega)]; rfl)
              | trace_state
          · have ec := t_lawcount n S c
            nofun
            all_goals first
              | (exfalso; rename_i hb; exact ytup hb)
              | (exfalso; rename_i hb; exact lenlt2 _ _ _ hb)
              | (exfalso; rename_i hb; exact ystr hb)
              | (exfalso; rename_i hb; revert hb; simp; done)
              | (refine ⟨?_, rfl⟩; clear eb h hs hl; simp_all; done)
              | (exfalso; rename_i hb; rw [decide_eq_true_eq] at hb; simp only [List.length_cons] at hb; omega)
              | (refine ⟨?_, rfl⟩; rename_i hb; rw [if_pos hb, decide_eq_false (by simp only [List.length_cons]; omega)]; rfl)
              | trace_state
          · nofun
            all_goals first
              | (exfalso; rename_i hb; exact ytup hb)
              | (exfalso; rename_i hb; exact lenlt2 _ _ _ hb)
              | (exfalso; rename_i hb; exact ystr hb)
              | (exfalso; rename_i hb; revert hb; simp; done)
              | (refine ⟨?_, rfl⟩; clear eb h hs hl; simp_all; done)
              | (exfalso; rename_i hb; rw [decide_eq_true_eq] at hb; simp only [List.length_cons] at hb; omega)
              | (refine ⟨?_, rfl⟩; rename_i hb; rw [if_pos hb, decide_eq_false (by simp only [List.length_cons]; omega)]; rfl)
              | trace_state
        | _ =>
          rw [form_nostr rfl]
          nofun
          all_goals first
            | exact ⟨rfl, rfl⟩
            | (exfalso; rename_i hb; exact ytup hb)
            | (exfalso; rename_i hb; exact lenlt2 _ _ _ hb)
            | (exfalso; rename_i hb; exact nstr rfl hb)
            | (exfalso; have q := nstr2 (by assumption); cases q)
            | trace_state
  | _ =>
    nofun
    all_goals first
      | exact ⟨rfl, rfl⟩
      | (exfalso; rename_i hb; exact ntup rfl hb)
      | (exfalso; rename_i hb _; exact ntup rfl hb)
      | (exfalso; rename_i hb _ _; exact ntup rfl hb)
      | (exfalso; rename_i hb _ _ _; exact ntup rfl hb)
      | trace_state
end PL.W
end
section
set_option maxHeartbeats 4000000
open PL PySem PySem.Spec PyProof.Rows L2
local macro_rules | `(tactic| left) => `(tactic| (first
  | with_reducible refine ws_asg ?_ | with_reducible refine ws_asgL ?_ | with_reducible refine ws_par ?_ | with_reducible refine ws_parC ?_ | with_reducible refine ws_unp ?_ | with_reducible refine ws_dset ?_
  | with_reducible refine ws_expr ?_ | with_reducible refine ws_ret ?_ | with_reducible refine ws_ret0 ?_ | with_reducible refine ws_pass ?_ | with_reducible refine ws_brk ?_ | with_reducible refine ws_cont ?_ | with_reducible refine ws_if ?_ | with_reducible refine ws_for ?_ | with_reducible refine ws_nil ?_
  | with_reducible refine we_int ?_ | with_reducible refine we_str ?_ | with_reducible refine we_bl ?_ | with_reducible refine we_non ?_ | with_reducible refine we_gd ?_
  | ((with_reducible apply we_loc); rfl)
  | with_reducible refine we_bin ?_ | with_reducible refine we_cmp ?_ | with_reducible refine we_cmp2 ?_ | with_reducible refine we_bop ?_ | with_reducible refine wb_nil ?_ | with_reducible refine wb_cons ?_ | with_reducible refine we_not ?_ | with_reducible refine we_neg ?_ | with_reducible refine we_ite ?_
  | with_reducible refine we_tup ?_ | with_reducible refine we_lst ?_ | with_reducible refine we_lstR ?_ | with_reducible refine we_dic0 ?_ | with_reducible refine we_dic ?_ | with_reducible refine we_ix ?_ | with_reducible refine we_sl ?_ | with_reducible refine wo_no ?_ | with_reducible refine wo_so ?_
  | with_reducible refine we_bi ?_ | with_reducible refine we_isi ?_ | with_reducible refine we_call ?_ | with_reducible refine we_callK ?_ | with_reducible refine we_comp ?_ | with_reducible refine we_compR ?_ | with_reducible refine we_get2 ?_ | with_reducible refine we_app ?_ | with_reducible refine we_ext ?_ | with_reducible refine we_join ?_
  | with_reducible refine we_gget2 ?_ | with_reducible refine we_gget ?_ | with_reducible refine we_gix ?_ | with_reducible refine we_gin ?_ | with_reducible refine we_sset ?_ | with_reducible refine we_sortd ?_ | with_reducible refine we_rev ?_ | with_reducible refine we_reprL ?_ | ((with_reducible apply lfV); rfl; exact Nat.le_of_ble_eq_true rfl) | with_reducible refine wes_nil ?_ | with_reducible refine wes_cons ?_ | with_reducible refine wt_nil ?_ | with_reducible refine wt_one ?_
  | with_reducible refine wi_rng ?_ | with_reducible refine wi_rng2 ?_ | with_reducible refine wi_zip ?_ | with_reducible refine wi_enm ?_ | with_reducible refine wi_seq ?_
  | with_reducible refine then_nx ?_ | with_reducible refine then_bk ?_ | with_reducible refine then_ct ?_ | with_reducible refine then_rt ?_ | with_reducible refine qf_same ?_ | with_reducible refine qf_app ?_ | with_reducible refine qf_cons ?_ | with_reducible refine qf_consA ?_ | with_reducible refine qf_ref ?_ | with_reducible refine qf_d ?_ | with_reducible refine qf_nx ?_
  | ((with_reducible apply wk_eq); with_reducible assumption)
  | (with_reducible refine limp (fun hb => ?_) (fun hb => ?_) <;> (first | (cases hb; done) | (simp only [Bool.not_false, Bool.not_true, Bool.true_eq_false, Bool.false_eq_true, reduceCtorEq] at hb; done) | cases hb | ((try simp only [Bool.not_false, Bool.not_true] at hb); (try rw [hb]))))
  | with_reducible refine lf_add ?_ | with_reducible refine lf_sub ?_ | ((with_reducible apply lf_mod); (first | assumption | decide)) | ((with_reducible apply lf_div); (first | assumption | decide)) | with_reducible refine lf_lt ?_ | with_reducible refine lf_le ?_ | with_reducible refine lf_gt ?_ | with_reducible refine lf_ge ?_ | with_reducible refine lf_eqI ?_ | with_reducible refine lf_neI ?_ | with_reducible refine lf_eqSame ?_ | with_reducible refine lf_neSame ?_ | with_reducible refine lf_eqS ?_ | with_reducible refine lf_neS ?_
  | with_reducible refine lf_isN ?_ | with_reducible refine lf_isI ?_ | with_reducible refine lf_isnN ?_ | with_reducible refine lf_isnI ?_ | with_reducible refine lf_tb ?_ | with_reducible refine lf_tl ?_ | with_reducible refine lf_tt ?_ | with_reducible refine lf_int ?_ | with_reducible refine lf_lenL ?_ | with_reducible refine lf_lenT ?_ | ((with_reducible apply lf_lenS); assumption) | with_reducible refine lf_tupL ?_ | with_reducible refine lf_tupT ?_ | with_reducible refine lf_listL ?_ | with_reducible refine lf_listT ?_ | with_reducible refine lf_view ?_ | with_reducible refine lf_in2 ?_ | with_reducible refine lf_in3 ?_ | with_reducible refine lf_inM ?_ | with_reducible refine lf_ix0T ?_ | with_reducible refine lf_ix1T ?_ | with_reducible refine lf_ix2T ?_ | with_reducible refine lf_sl1 ?_ | with_reducible refine lf_slL ?_ | with_reducible refine lf_slT ?_
  | ((with_reducible apply lf_pow); decide) | with_reducible refine lf_mul ?_ ?_ | with_reducible refine lf_pow ?_ ?_ | ((with_reducible apply lf_addT); exact Nat.le_of_ble_eq_true rfl) | ((with_reducible apply lf_addL); exact Nat.le_of_ble_eq_true rfl) | with_reducible refine lf_addT ?_ ?_ | with_reducible refine lf_addL ?_ ?_
  | ((with_reducible apply lf2); rfl; rfl) | ((with_reducible apply lf3); rfl; exact Nat.le_of_ble_eq_true rfl) | ((with_reducible apply lf4); rfl; decide) | ((with_reducible apply lfU); rfl; rfl)
  | with_reducible refine ls_l ?_ | with_reducible refine ls_t ?_ | with_reducible refine ls_s ?_ | ((with_reducible apply ls_r); rfl) | with_reducible refine le_l ?_ | with_reducible refine le_t ?_ | with_reducible refine le_s ?_ | with_reducible refine lz_l ?_ | with_reducible refine lz_t ?_
  | ((with_reducible apply lfR); (first | decide | omega)) | ((with_reducible apply lfR2); (first | decide | omega)) | with_reducible refine lfI ?_
  | ((with_reducible apply lf); rfl) | ((with_reducible apply lfB); rfl) | ((with_reducible apply land); rfl)))
local macro_rules | `(tactic| nofun) => `(tactic| repeat' left)
namespace PL.W
open PySem PySem.Spec PyProof.Rows L2 PL
theorem deed_0 {w : Str} (h : w = "seal" ∨ w = "stop" ∨ w = "end") : DEED.lookup w = some [] := by rcases h with rfl | rfl | rfl <;> decide +kernel
theorem deed_pt : DEED.lookup ("point" : Str) = some NB := by decide +kernel
abbrev W7 : List Str := ["keep", "plain", "write", "free", "strike", "flush", "put"]
theorem deed_pg {w : Str} (h : w ∈ W7) : DEED.lookup w = some PG := by
  have : ∀ x ∈ W7, DEED.lookup x = some PG := by decide +kernel
  exact this w h
theorem deed_no {w : Str} (h : ¬ (w = "seal" ∨ w = "stop" ∨ w = "end")) (h2 : ¬ w = "point") (h3 : ¬ w ∈ W7) : DEED.lookup w = none := by
  cases hq : DEED.lookup w with
  | none => rfl
  | some ks =>
    have := look_mem hq
    simp only [DEED, List.mem_cons, List.not_mem_nil, or_false, Prod.mk.injEq] at this
    simp only [W7, List.mem_cons, List.not_mem_nil, or_false] at h3
    exfalso
    rcases this with ⟨z, _⟩ | ⟨z, _⟩ | ⟨z, _⟩ | ⟨z, _⟩ | ⟨z, _⟩ | ⟨z, _⟩ | ⟨z, _⟩ | ⟨z, _⟩ | ⟨z, _⟩ | ⟨z, _⟩ | ⟨z, _⟩ <;> simp_all
abbrev end3 (w : Str) : Bool := decide (w = "seal") || (decide (w = "stop") || decide (w = "end"))
theorem form_deed (w : Str) (r : List D) : formB DEED (.tuple (.str w :: r)) = if end3 w = true then r.isEmpty else match r with
    | [b] => if w = "point" then cntB 1 b else decide (w ∈ W7) && pageD b
    | _ => false := by
  show partsO (DEED.lookup w) r = _
  by_cases h3 : w = "seal" ∨ w = "stop" ∨ w = "end"
  · rw [deed_0 h3, if_pos (by simpa using h3)]
    show partsB r [] = _
    cases r with
    | nil => rfl
    | cons b r => rw [parts_0]; rfl
  · rw [if_neg (by simpa using h3)]
    by_cases hp : w = "point"
    · subst hp
      rw [deed_pt]
      show partsB r NB = _
      rcases r with _ | ⟨b, _ | ⟨c, t⟩⟩
      · rw [parts_nil]; rfl
      · show partsB [b] NB = (if ("point" : Str) = "point" then cntB 1 b else decide (("point" : Str) ∈ W7) && pageD b)
        rw [parts_nb, if_pos rfl]; simp
      · rw [parts_nb]; simp
    · by_cases h7 : w ∈ W7
      · rw [deed_pg h7]
        show partsB r PG = _
        rcases r with _ | ⟨b, _ | ⟨c, t⟩⟩
        · rw [parts_nil]; rfl
        · show partsB [b] PG = (if w = "point" then cntB 1 b else decide (w ∈ W7) && pageD b)
          rw [parts_pg, if_neg hp, decide_eq_true h7]; simp
        · rw [parts_pg]; simp
      · rw [deed_no h3 hp h7]
        show false = _
        rcases r with _ | ⟨b, _ | ⟨c, t⟩⟩
        · rfl
        · dsimp only
          rw [if_neg hp, decide_eq_false h7]; rfl
        · rfl
theorem in7_at (w : Str) (S : Sto) : bin2 (gCmp .In) (.d (.str w)) (.d (.tuple [.str "keep", .str "plain", .str "write", .str "free", .str "strike", .str "flush", .str "put"])) S = some (.bool (decide (w ∈ W7))) := by
  obtain ⟨x, h1, h2⟩ := lf_inM (a := w) (ys := W7) (S := S) (Q := fun d => d = .bool (decide (w ∈ W7))) rfl
  rw [← h2]
  exact h1
end PL.W
local macro_rules | `(tactic| left) => `(tactic| first | with_reducible refine lf (PL.W.in7_at _ _) ?_ | with_reducible refine lf (PL.W.in7_at _ _) ?_)
namespace PL.W
open PySem PySem.Spec PyProof.Rows L2 PL
theorem lenlt1 (a : D) (r : List D) (h : decide ((((a :: r).length : Nat) : Int) < 1) = true) : False := by
  rw [decide_eq_true_eq] at h
  simp only [List.length_cons] at h
  omega
theorem len2a {a : D} (h : (!decide ((([a].length : Nat) : Int) = 2)) = false) : False := by
  revert h; simp
theorem len2c {a b c : D} {t : List D} (h : (!decide ((((a :: b :: c :: t).length : Nat) : Int) = 2)) = false) : False := by
  rw [Bool.not_eq_false', decide_eq_true_eq] at h
  simp only [List.length_cons] at h
  omega
theorem t_lawdeed (n : Nat) (S : Sto) {d : D} (h : itB d = true) : callN fns (n + 3) i_law_is_deed [.d d] S = some (.d (.bool (formB DEED d)), S) := by
  refine WC.eq (c_law_is_deed ?_)
  cases d with
  | tuple ds =>
    obtain ⟨hs, hl⟩ := it_tup h
    rcases ds with _ | ⟨a, r⟩
    · nofun
      all_goals first
        | exact ⟨rfl, rfl⟩
        | (exfalso; rename_i hb; exact ytup hb)
        | (exfalso; rename_i hb; revert hb; decide)
        | trace_state
    · cases a with
      | str w =>
        rw [form_deed]
        rcases r with _ | ⟨b, _ | ⟨c, t⟩⟩
        · nofun
          all_goals first
            | (exfalso; rename_i hb; exact ytup hb)
            | (exfalso; rename_i hb; exact lenlt1 _ _ hb)
            | (exfalso; rename_i hb; exact ystr hb)
            | (refine ⟨?_, rfl⟩; clear h hs hl; simp_all; done)
            | (exfalso; exact len2a (by assumption))
            | trace_state
        · have eb := t_lawpage (n + 1) S (hs b (by simp))
          have ec := t_lawcount n S b
          nofun
          all_goals first
            | (exfalso; rename_i hb; exact ytup hb)
            | (exfalso; rename_i hb; exact lenlt1 _ _ hb)
            | (exfalso; rename_i hb; exact ystr hb)
            | (refine ⟨?_, rfl⟩; clear h hs hl eb ec; simp_all; done)
            | (exfalso; rename_i hb; revert hb; simp; done)
            | trace_state
        · nofun
          all_goals first
            | (exfalso; rename_i hb; exact ytup hb)
            | (exfalso; rename_i hb; exact lenlt1 _ _ hb)
            | (exfalso; rename_i hb; exact ystr hb)
            | (refine ⟨?_, rfl⟩; rename_i hb; rw [if_pos hb, decide_eq_false (by simp only [List.length_cons]; omega)]; rfl)
            | (exfalso; exact len2c (by assumption))
            | (refine ⟨?_, rfl⟩; rw [if_neg (show ¬ end3 w = true by rw [Bool.not_eq_true]; assumption)]; done)
            | (refine ⟨?_, rfl⟩; rw [if_neg (show ¬ end3 w = true by rw [Bool.not_eq_true]; assumption)]; rfl)
            | trace_state
      | _ =>
        rw [form_nostr rfl]
        nofun
        all_goals first
          | exact ⟨rfl, rfl⟩
          | (exfalso; rename_i hb; exact ytup hb)
          | (exfalso; have q := nstr2 (by assumption); cases q)
          | trace_state
  | _ =>
    nofun
    all_goals first
      | exact ⟨rfl, rfl⟩
      | (exfalso; rename_i hb; exact ntup rfl hb)
      | (exfalso; rename_i hb _; exact ntup rfl hb)
      | (exfalso; rename_i hb _ _; exact ntup rfl hb)
      | (exfalso; rename_i hb _ _ _; exact ntup rfl hb)
      | trace_state
end PL.W
end
section
set_option maxHeartbeats 4000000
open PL PySem PySem.Spec PyProof.Rows L2
local macro_rules | `(tactic| left) => `(tactic| (first
  | with_reducible refine ws_asg ?_ | with_reducible refine ws_asgL ?_ | with_reducible refine ws_par ?_ | with_reducible refine ws_parC ?_ | with_reducible refine ws_unp ?_ | with_reducible refine ws_dset ?_
  | with_reducible refine ws_expr ?_ | with_reducible refine ws_ret ?_ | with_reducible refine ws_ret0 ?_ | with_reducible refine ws_pass ?_ | with_reducible refine ws_brk ?_ | with_reducible refine ws_cont ?_ | with_reducible refine ws_if ?_ | with_reducible refine ws_for ?_ | with_reducible refine ws_nil ?_
  | with_reducible refine we_int ?_ | with_reducible refine we_str ?_ | with_reducible refine we_bl ?_ | with_reducible refine we_non ?_ | with_reducible refine we_gd ?_
  | ((with_reducible apply we_loc); rfl)
  | with_reducible refine we_bin ?_ | with_reducible refine we_cmp ?_ | with_reducible refine we_cmp2 ?_ | with_reducible refine we_bop ?_ | with_reducible refine wb_nil ?_ | with_reducible refine wb_cons ?_ | with_reducible refine we_not ?_ | with_reducible refine we_neg ?_ | with_reducible refine we_ite ?_
  | with_reducible refine we_tup ?_ | with_reducible refine we_lst ?_ | with_reducible refine we_lstR ?_ | with_reducible refine we_dic0 ?_ | with_reducible refine we_dic ?_ | with_reducible refine we_ix ?_ | with_reducible refine we_sl ?_ | with_reducible refine wo_no ?_ | with_reducible refine wo_so ?_
  | with_reducible refine we_bi ?_ | with_reducible refine we_isi ?_ | with_reducible refine we_call ?_ | with_reducible refine we_callK ?_ | with_reducible refine we_comp ?_ | with_reducible refine we_compR ?_ | with_reducible refine we_get2 ?_ | with_reducible refine we_app ?_ | with_reducible refine we_ext ?_ | with_reducible refine we_join ?_
  | with_reducible refine we_gget2 ?_ | with_reducible refine we_gget ?_ | with_reducible refine we_gix ?_ | with_reducible refine we_gin ?_ | with_reducible refine we_sset ?_ | with_reducible refine we_sortd ?_ | with_reducible refine we_rev ?_ | with_reducible refine we_reprL ?_ | ((with_reducible apply lfV); rfl; exact Nat.le_of_ble_eq_true rfl) | with_reducible refine wes_nil ?_ | with_reducible refine wes_cons ?_ | with_reducible refine wt_nil ?_ | with_reducible refine wt_one ?_
  | with_reducible refine wi_rng ?_ | with_reducible refine wi_rng2 ?_ | with_reducible refine wi_zip ?_ | with_reducible refine wi_enm ?_ | with_reducible refine wi_seq ?_
  | with_reducible refine then_nx ?_ | with_reducible refine then_bk ?_ | with_reducible refine then_ct ?_ | with_reducible refine then_rt ?_ | with_reducible refine qf_same ?_ | with_reducible refine qf_app ?_ | with_reducible refine qf_cons ?_ | with_reducible refine qf_consA ?_ | with_reducible refine qf_ref ?_ | with_reducible refine qf_d ?_ | with_reducible refine qf_nx ?_
  | ((with_reducible apply wk_eq); with_reducible assumption)
  | (with_reducible refine limp (fun hb => ?_) (fun hb => ?_) <;> (first | (cases hb; done) | (simp only [Bool.not_false, Bool.not_true, Bool.true_eq_false, Bool.false_eq_true, reduceCtorEq] at hb; done) | cases hb | ((try simp only [Bool.not_false, Bool.not_true] at hb); (try rw [hb]))))
  | with_reducible refine lf_add ?_ | with_reducible refine lf_sub ?_ | ((with_reducible apply lf_mod); (first | assumption | decide)) | ((with_reducible apply lf_div); (first | assumption | decide)) | with_reducible refine lf_lt ?_ | with_reducible refine lf_le ?_ | with_reducible refine lf_gt ?_ | with_reducible refine lf_ge ?_ | with_reducible refine lf_eqI ?_ | with_reducible refine lf_neI ?_ | with_reducible refine lf_eqSame ?_ | with_reducible refine lf_neSame ?_ | with_reducible refine lf_eqS ?_ | with_reducible refine lf_neS ?_
  | with_reducible refine lf_isN ?_ | with_reducible refine lf_isI ?_ | with_reducible refine lf_isnN ?_ | with_reducible refine lf_isnI ?_ | with_reducible refine lf_tb ?_ | with_reducible refine lf_tl ?_ | with_reducible refine lf_tt ?_ | with_reducible refine lf_int ?_ | with_reducible refine lf_lenL ?_ | with_reducible refine lf_lenT ?_ | ((with_reducible apply lf_lenS); assumption) | with_reducible refine lf_tupL ?_ | with_reducible refine lf_tupT ?_ | with_reducible refine lf_listL ?_ | with_reducible refine lf_listT ?_ | with_reducible refine lf_view ?_ | with_reducible refine lf_in2 ?_ | with_reducible refine lf_in3 ?_ | with_reducible refine lf_inM ?_ | with_reducible refine lf_ix0T ?_ | with_reducible refine lf_ix1T ?_ | with_reducible refine lf_ix2T ?_ | with_reducible refine lf_sl1 ?_ | with_reducible refine lf_slL ?_ | with_reducible refine lf_slT ?_
  | ((with_reducible apply lf_pow); decide) | with_reducible refine lf_mul ?_ ?_ | with_reducible refine lf_pow ?_ ?_ | ((with_reducible apply lf_addT); exact Nat.le_of_ble_eq_true rfl) | ((with_reducible apply lf_addL); exact Nat.le_of_ble_eq_true rfl) | with_reducible refine lf_addT ?_ ?_ | with_reducible refine lf_addL ?_ ?_
  | ((with_reducible apply lf2); rfl; rfl) | ((with_reducible apply lf3); rfl; exact Nat.le_of_ble_eq_true rfl) | ((with_reducible apply lf4); rfl; decide) | ((with_reducible apply lfU); rfl; rfl)
  | with_reducible refine ls_l ?_ | with_reducible refine ls_t ?_ | with_reducible refine ls_s ?_ | ((with_reducible apply ls_r); rfl) | with_reducible refine le_l ?_ | with_reducible refine le_t ?_ | with_reducible refine le_s ?_ | with_reducible refine lz_l ?_ | with_reducible refine lz_t ?_
  | ((with_reducible apply lfR); (first | decide | omega)) | ((with_reducible apply lfR2); (first | decide | omega)) | with_reducible refine lfI ?_
  | ((with_reducible apply lf); rfl) | ((with_reducible apply lfB); rfl) | ((with_reducible apply land); rfl)))
local macro_rules | `(tactic| nofun) => `(tactic| repeat' left)
namespace PL.W
open PySem PySem.Spec PyProof.Rows L2 PL
/-! ### rows that rise -/
def ltS (a b : Str) : Prop := a.cps.toList < b.cps.toList
def ascB (ws : List Str) : Bool := (ws.zip (ws.drop 1)).all fun p => decide (p.1.cps.toList < p.2.cps.toList)
theorem asc_cons (a b : Str) (r : List Str) : ascB (a :: b :: r) = (decide (a.cps.toList < b.cps.toList) && ascB (b :: r)) := rfl
theorem ltS_trans {a b c : Str} (h : ltS a b) (k : ltS b c) : ltS a c := List.lt_trans h k
theorem ltS_irr {a : Str} (h : ltS a a) : False := List.lt_irrefl _ h
theorem asc_pair : ∀ ws : List Str, ascB ws = true → ws.Pairwise ltS
  | [], _ => List.Pairwise.nil
  | [a], _ => List.pairwise_singleton _ _
  | a :: b :: r, h => by
    rw [asc_cons, Bool.and_eq_true, decide_eq_true_eq] at h
    have ih := asc_pair (b :: r) h.2
    refine List.pairwise_cons.mpr ⟨fun c hc => ?_, ih⟩
    rcases List.mem_cons.mp hc with rfl | hc
    · exact h.1
    · exact ltS_trans h.1 ((List.pairwise_cons.mp ih).1 c hc)
theorem pair_asc : ∀ ws : List Str, ws.Pairwise ltS → ascB ws = true
  | [], _ => rfl
  | [a], _ => rfl
  | a :: b :: r, h => by
    rw [asc_cons, Bool.and_eq_true, decide_eq_true_eq]
    obtain ⟨h1, h2⟩ := List.pairwise_cons.mp h
    exact ⟨h1 b List.mem_cons_self, pair_asc (b :: r) h2⟩
theorem ltS_le {a b : Str} (h : ltS a b) : leS a b = true := (leS_iff a b).mpr (List.le_of_lt h)
theorem asc_set (ws : List Str) : decide (ws = sortS (onceS ws)) = ascB ws := by
  rw [Bool.eq_iff_iff, decide_eq_true_eq]
  constructor
  · intro e
    have p : ws.Perm (onceS ws) := by
      have := sortS_perm (onceS ws)
      rwa [← e] at this
    have nd : ws.Nodup := p.nodup_iff.mpr (once_nodup ws)
    have so : ws.Pairwise fun a b => leS a b = true := by
      have := sortS_sorted (onceS ws)
      rwa [← e] at this
    refine pair_asc ws ((List.Pairwise.and so nd).imp fun {a b} q => ?_)
    obtain ⟨q1, q2⟩ := q
    unfold ltS
    by_cases hh : a.cps.toList < b.cps.toList
    · exact hh
    · exact absurd (leS_anti q1 ((leS_iff b a).mpr (List.not_lt.mp hh))) q2
  · intro h
    have pw := asc_pair ws h
    have nd : ws.Nodup := pw.imp fun {a b} q e => by subst e; exact ltS_irr q
    have p : ws.Perm (onceS ws) := (List.perm_ext_iff_of_nodup nd (once_nodup ws)).mpr fun z => (once_mem z ws).symm
    exact List.Perm.eq_of_pairwise (fun x y _ _ h1 h2 => leS_anti h1 h2) (pw.imp fun q => ltS_le q) (sortS_sorted _) (p.trans (sortS_perm _).symm)
theorem cut1 (xs : List D) : cutL xs (some 1) none = xs.drop 1 := by
  cases xs with
  | nil => rfl
  | cons d r =>
    show (r.drop 0).take _ = r
    rw [List.drop_zero]
    exact List.take_of_length_le (by show r.length ≤ (d :: r).length - _; simp [HT.sIx])
theorem t_asc (n : Nat) (S : Sto) (ws : List Str) (hl : ws.length < 100) : callN fns (n + 1) i_is_ascending [.d (.tuple (ws.map .str))] S = some (.d (.bool (ascB ws)), S) := by
  refine WC.eq (c_is_ascending ?_)
  nofun
  rw [cut1, ← List.map_drop, zip_map]
  refine loop_every (fun p => .bool (decide (p.1.cps.toList < p.2.cps.toList))) (by rw [List.length_zip]; exact Nat.le_trans (show min ws.length (ws.drop 1).length ≤ 100 by omega) (Nat.le_of_ble_eq_true rfl)) (fun p _ => ?_) ?_
  · refine turn_eq rfl ?_
    nofun
    exact ⟨_, rfl, rfl, rfl⟩
  · refine lf_all ?_
    nofun
    exact ⟨rfl, rfl⟩
/-! ### guards, rules -/
abbrev GU : List Str := ["ahead", "quiet", "calm", "struck", "first", "clean", "whole", "level", "settled", "dead", "walked", "fixed"]
def guardB : D → Bool
  | .str z => decide (z ∈ GU)
  | _ => false
theorem in_guards (w : Str) (S : Sto) : bin2 (gCmp .In) (.d (.str w)) (.d d_GUARDS) S = some (.bool (decide (w ∈ GU))) := by
  obtain ⟨x, h1, h2⟩ := lf_inM (a := w) (ys := GU) (S := S) (Q := fun d => d = .bool (decide (w ∈ GU))) rfl
  rw [← h2]
  exact h1
theorem notin_words (w : Str) (ws : List Str) (S : Sto) : bin2 (gCmp .NotIn) (.d (.str w)) (.d (.list (ws.map .str))) S = some (.bool (!decide (w ∈ ws))) := by
  have h : inSeq (.str w) (ws.map .str) = some (decide (w ∈ ws)) := by
    obtain ⟨x, h1, h2⟩ := lf_inM (a := w) (ys := ws) (S := S) (Q := fun d => d = .bool (decide (w ∈ ws))) rfl
    subst h2
    have h1 : (inSeq (.str w) (ws.map .str)).map PyData.bool = some (.bool (decide (w ∈ ws))) := h1
    cases hq : inSeq (.str w) (ws.map .str) with
    | none => rw [hq] at h1; cases h1
    | some b => rw [hq] at h1; cases h1; rfl
  show (inSeq (.str w) (ws.map .str)).map (fun b => PyData.bool (!b)) = _
  rw [h]; rfl
end PL.W
local macro_rules | `(tactic| left) => `(tactic| first | with_reducible refine lf (PL.W.in_guards _ _) ?_ | with_reducible refine lf (PL.W.in_guards _ _) ?_)
namespace PL.W
theorem t_guard (n : Nat) (S : Sto) (d : D) : callN fns (n + 1) i_is_guard [.d d] S = some (.d (.bool (guardB d)), S) := by
  refine WC.eq (c_is_guard ?_)
  cases d <;> nofun
  all_goals first
    | exact ⟨rfl, rfl⟩
    | (exfalso; rename_i hb; rw [str_isTy] at hb; cases hb)
    | trace_state
theorem t_lawguards (n : Nat) (S : Sto) : callN fns (n + 1) i_law_guards [] S = some (.d (.list (GU.map .str)), S) := by
  refine WC.eq (c_law_guards ?_)
  nofun
  exact ⟨rfl, rfl⟩
def strOf : D → Str
  | .str z => z
  | _ => ""
theorem all_strs : ∀ {ds : List D}, ds.all guardB = true → (ds.map strOf).map .str = ds
  | [], _ => rfl
  | d :: ds, h => by
    rw [List.all_cons, Bool.and_eq_true] at h
    rw [List.map_cons, List.map_cons, all_strs h.2]
    cases d <;> first | rfl | cases h.1
def ruleB : D → Bool
  | .tuple ds => ds.all guardB && ascB (ds.map strOf)
  | _ => false
theorem t_rule (n : Nat) (S : Sto) {d : D} (h : itB d = true) : callN fns (n + 2) i_is_rule [.d d] S = some (.d (.bool (ruleB d)), S) := by
  cases d with
  | tuple ds =>
    obtain ⟨hs, hl⟩ := it_tup h
    have e : ∀ d ∈ ds, turn (callN fns (n + 1)) [1] (.one 1) .nil (.call i_is_guard (.cons (.loc 1) .nil)) [some (.d (.tuple ds)), none] (id d) S = some (some (.bool (guardB d)), S) := fun d _ => by
      have e1 := t_guard n S d
      refine turn_eq rfl ?_
      nofun
      refine wk_eq e1 ?_
      nofun
      exact ⟨_, rfl, rfl, rfl⟩
    refine WC.eq (c_is_rule ?_)
    cases hg : ds.all guardB with
    | false =>
      have ev : ruleB (.tuple ds) = false := by show (ds.all guardB && _) = false; rw [hg]; rfl
      rw [ev]
      nofun
      · have hm : ∀ {t : D → Sto → Option (Option D × Sto)} {Q : List D → Sto → Prop}, WL none t (ds.map id) S Q → WL none t ds S Q := fun h => by rwa [List.map_id] at h
        refine hm ?_
        refine loop_every (g := id) (fun d => .bool (guardB d)) (Nat.le_trans (show ds.length ≤ 100 by omega) (Nat.le_of_ble_eq_true rfl)) e ?_
        refine lf_all ?_
        rw [hg]
        nofun
        exact ⟨rfl, rfl⟩
      · exact ⟨rfl, rfl⟩
    | true =>
      have e2 := t_asc n S (ds.map strOf) (by rw [List.length_map]; omega)
      rw [all_strs hg] at e2
      have ev : ruleB (.tuple ds) = ascB (ds.map strOf) := by show (ds.all guardB && _) = _; rw [hg]; rfl
      rw [ev]
      nofun
      · have hm : ∀ {t : D → Sto → Option (Option D × Sto)} {Q : List D → Sto → Prop}, WL none t (ds.map id) S Q → WL none t ds S Q := fun h => by rwa [List.map_id] at h
        refine hm ?_
        refine loop_every (g := id) (fun d => .bool (guardB d)) (Nat.le_trans (show ds.length ≤ 100 by omega) (Nat.le_of_ble_eq_true rfl)) e ?_
        refine lf_all ?_
        rw [hg]
        nofun
        exact ⟨rfl, rfl⟩
      · rename_i hb
        exact (ytup hb).elim
  | _ =>
    refine WC.eq (c_is_rule ?_)
    nofun
    all_goals first
      | exact ⟨rfl, rfl⟩
      | (exfalso; rename_i hb; exact ntup rfl hb)
      | (exfalso; rename_i hb _; exact ntup rfl hb)
      | (exfalso; rename_i hb _ _; exact ntup rfl hb)
      | trace_state
theorem sm_all : ∀ {ds : List D}, (∀ d ∈ ds, smB d = true) → PyData.canLayAll0 ds = true ∧ PyData.depthAll ds ≤ 10
  | [], _ => ⟨rfl, by simp [PyData.depthAll]⟩
  | d :: ds, h => by
    obtain ⟨a, b⟩ := sm_all (ds := ds) fun x hx => h x (List.mem_cons_of_mem _ hx)
    have hd := h d List.mem_cons_self
    unfold smB at hd
    rw [Bool.and_eq_true, Bool.and_eq_true, decide_eq_true_eq] at hd
    exact ⟨by simp only [PyData.canLayAll0, hd.1.1, a, Bool.and_self], by simp only [PyData.depthAll]; exact Nat.max_le.mpr ⟨hd.1.2, b⟩⟩
theorem eqv_strs : ∀ (ws vs : List Str), PyData.eqvAll (ws.map .str) (vs.map .str) = decide (ws = vs)
  | [], [] => by simp [PyData.eqvAll]
  | [], v :: vs => by simp [PyData.eqvAll]
  | w :: ws, [] => by simp [PyData.eqvAll]
  | w :: ws, v :: vs => by
    rw [List.map_cons, List.map_cons]
    simp only [PyData.eqvAll, eqvS, eqv_strs ws vs]
    by_cases h : w = v <;> by_cases k : ws = vs <;> simp [h, k]
theorem strs_lay : ∀ {ws : List Str}, (∀ w ∈ ws, PyData.strOk w = true) → PyData.canLayAll0 (ws.map .str) = true ∧ PyData.depthAll (ws.map .str) = 0
  | [], _ => ⟨rfl, by simp [PyData.depthAll]⟩
  | w :: ws, h => by
    obtain ⟨a, b⟩ := strs_lay (ws := ws) fun x hx => h x (List.mem_cons_of_mem _ hx)
    exact ⟨by rw [List.map_cons]; simp only [PyData.canLayAll0, PyData.canLay0, a, h w List.mem_cons_self, Bool.and_self], by rw [List.map_cons]; simp only [PyData.depthAll, PyData.depth, b, Nat.max_self]⟩
theorem list_shaped {xs : List D} (h : PyData.canLayAll0 xs = true) (h2 : PyData.depthAll xs ≤ 20) : SeqAt.shaped (.list xs) = true := by
  unfold SeqAt.shaped
  rw [Bool.and_eq_true, decide_eq_true_eq]
  exact ⟨by simpa [PyData.canLay0] using h, by simp only [PyData.depth]; omega⟩
theorem eq_strs {ws vs : List Str} (h : ∀ w ∈ ws, PyData.strOk w = true) (k : ∀ w ∈ vs, PyData.strOk w = true) (S : Sto) : bin2 (gCmp .Eq) (.d (.list (ws.map .str))) (.d (.list (vs.map .str))) S = some (.bool (decide (ws = vs))) := by
  show gEq (.list (ws.map .str)) (.list (vs.map .str)) = _
  obtain ⟨a1, a2⟩ := strs_lay h
  obtain ⟨b1, b2⟩ := strs_lay k
  unfold gEq
  rw [if_pos (.inr ⟨list_shaped a1 (by omega), list_shaped b1 (by omega)⟩)]
  show some (PyData.bool (PyData.eqvAll (ws.map .str) (vs.map .str))) = _
  rw [eqv_strs]
theorem strs_of : ∀ ws : List Str, strsD (ws.map .str) = some ws
  | [] => rfl
  | w :: ws => by
    show (strsD (ws.map .str)).map (w :: ·) = _
    rw [strs_of ws]; rfl
theorem once_len : ∀ ws : List Str, (onceS ws).length ≤ ws.length
  | [] => Nat.le_refl _
  | w :: ws => by
    have := once_len ws
    simp only [onceS]
    split
    · rw [List.length_cons]; omega
    · rw [List.length_cons, List.length_cons]; omega
theorem sset_at {ws : List Str} (h : ws.length < 60) (S : Sto) : un1 gSSet (.d (.tuple (ws.map .str))) S = some (.list ((sortS (onceS ws)).map .str)) := by
  show gSSet (.tuple (ws.map .str)) = _
  unfold gSSet
  show (match strsD (ws.map .str) with
  | some xs => if xs.length < 4000 ∧ (onceS xs).length < 64 then some (PyData.list ((sortS (onceS xs)).map PyData.str)) else none
  | none => _) = _
  rw [strs_of]
  have := once_len ws
  dsimp only
  rw [if_pos ⟨by omega, by omega⟩]
theorem gu_ok : ∀ w ∈ GU, PyData.strOk w = true := by decide +kernel
theorem notin_gu (w : Str) (S : Sto) : bin2 (gCmp .NotIn) (.d (.str w)) (.d (.list (GU.map .str))) S = some (.bool (!decide (w ∈ GU))) := notin_words w GU S
end PL.W
local macro_rules | `(tactic| left) => `(tactic| first | with_reducible refine lf (PL.W.notin_gu _ _) ?_ | with_reducible refine lf (PL.W.notin_gu _ _) ?_)
namespace PL.W
theorem t_lawrule (n : Nat) (S : Sto) {d : D} (h : itB d = true) : callN fns (n + 2) i_law_is_rule [.d d] S = some (.d (.bool (ruleB d)), S) := by
  have eg := t_lawguards n S
  cases d with
  | tuple ds =>
    obtain ⟨hs, hl⟩ := it_tup h
    have e : ∀ d ∈ ds, turn (callN fns (n + 1)) [1] (.one 1) (.cons (.bop false (.not (.isi .str (.loc 1))) (.cons (.cmp .NotIn (.loc 1) (.call i_law_guards .nil)) .nil)) .nil) (.loc 1) [some (.d (.tuple ds)), none] d S = some (if (!guardB d) = true then some d else none, S) := fun d _ => by
      cases d with
      | str z =>
        refine turn_eq rfl ?_
        nofun
        · rename_i hb
          exact ⟨_, rfl, by rw [show guardB (.str z) = decide (z ∈ GU) from rfl, hb]; rfl, rfl⟩
        · rename_i hb
          exact ⟨by rw [show guardB (.str z) = decide (z ∈ GU) from rfl, hb]; rfl, rfl⟩
        · rename_i hb
          exact (ystr hb).elim
      | _ =>
        refine turn_eq rfl ?_
        nofun
        all_goals first
          | exact ⟨_, rfl, rfl, rfl⟩
          | (exfalso; rename_i hb; exact nstr rfl hb)
          | (exfalso; have q := nstr2 (by assumption); cases q)
          | trace_state
    have hm : ∀ {t : D → Sto → Option (Option D × Sto)} {Q : List D → Sto → Prop}, WL none t (ds.map id) S Q → WL none t ds S Q := fun h => by rwa [List.map_id] at h
    refine WC.eq (c_law_is_rule ?_)
    nofun
    · rename_i hb
      exact (ytup hb).elim
    · refine hm ?_
      refine loop_filter (fun d => !guardB d) id (Nat.le_trans (show ds.length ≤ 100 by omega) (Nat.le_of_ble_eq_true rfl)) e ?_
      have hsm : ∀ z ∈ (ds.filter fun d => !guardB d).map id, smB z = true := fun z hz => by
        rw [List.map_id] at hz
        exact hs z (List.mem_filter.mp hz).1
      obtain ⟨a1, a2⟩ := sm_all hsm
      nofun
      refine lf (ne_nil a1 (by omega) S) ?_
      rw [filt_empty]
      nofun
      · rename_i hb
        rw [Bool.not_eq_true'] at hb
        refine ⟨?_, rfl⟩
        show _ = R.d (.bool (ds.all guardB && _))
        rw [hb]; rfl
      · rename_i hb
        rw [Bool.not_eq_false'] at hb
        have hw := all_strs hb
        have hgu : ∀ w ∈ ds.map strOf, w ∈ GU := fun w hw => by
          obtain ⟨d, hd, rfl⟩ := List.mem_map.mp hw
          have := List.all_eq_true.mp hb d hd
          cases d <;> first | exact of_decide_eq_true this | cases this
        have hl2 : (ds.map strOf).length < 60 := by rw [List.length_map]; exact hl
        have ev : ruleB (.tuple ds) = ascB (ds.map strOf) := by show (ds.all guardB && _) = _; rw [hb]; rfl
        rw [ev]
        clear ev hm e eg hs h hsm a1 a2 hb
        revert hl2 hgu
        generalize ds.map strOf = ws at hw
        subst hw
        intro hgu hl2
        refine lf (sset_at hl2 S) ?_
        refine lf (eq_strs (fun w hw => gu_ok w (hgu w hw)) (fun w hw => gu_ok w (hgu w ((once_mem w ws).mp ((sortS_perm _).mem_iff.mp hw)))) S) ?_
        rw [asc_set]
        nofun
        exact ⟨rfl, rfl⟩
  | _ =>
    refine WC.eq (c_law_is_rule ?_)
    nofun
    all_goals first
      | exact ⟨rfl, rfl⟩
      | (exfalso; rename_i hb; exact ntup rfl hb)
      | (exfalso; rename_i hb _; exact ntup rfl hb)
      | (exfalso; rename_i hb _ _; exact ntup rfl hb)
      | trace_state
end PL.W
end
section
set_option maxHeartbeats 4000000
open PL PySem PySem.Spec PyProof.Rows L2
local macro_rules | `(tactic| left) => `(tactic| (first
  | with_reducible refine ws_asg ?_ | with_reducible refine ws_asgL ?_ | with_reducible refine ws_par ?_ | with_reducible refine ws_parC ?_ | with_reducible refine ws_unp ?_ | with_reducible refine ws_dset ?_
  | with_reducible refine ws_expr ?_ | with_reducible refine ws_ret ?_ | with_reducible refine ws_ret0 ?_ | with_reducible refine ws_pass ?_ | with_reducible refine ws_brk ?_ | with_reducible refine ws_cont ?_ | with_reducible refine ws_if ?_ | with_reducible refine ws_for ?_ | with_reducible refine ws_nil ?_
  | with_reducible refine we_int ?_ | with_reducible refine we_str ?_ | with_reducible refine we_bl ?_ | with_reducible refine we_non ?_ | with_reducible refine we_gd ?_
  | ((with_reducible apply we_loc); rfl)
  | with_reducible refine we_bin ?_ | with_reducible refine we_cmp ?_ | with_reducible refine we_cmp2 ?_ | with_reducible refine we_bop ?_ | with_reducible refine wb_nil ?_ | with_reducible refine wb_cons ?_ | with_reducible refine we_not ?_ | with_reducible refine we_neg ?_ | with_reducible refine we_ite ?_
  | with_reducible refine we_tup ?_ | with_reducible refine we_lst ?_ | with_reducible refine we_lstR ?_ | with_reducible refine we_dic0 ?_ | with_reducible refine we_dic ?_ | with_reducible refine we_ix ?_ | with_reducible refine we_sl ?_ | with_reducible refine wo_no ?_ | with_reducible refine wo_so ?_
  | with_reducible refine we_bi ?_ | with_reducible refine we_isi ?_ | with_reducible refine we_call ?_ | with_reducible refine we_callK ?_ | with_reducible refine we_comp ?_ | with_reducible refine we_compR ?_ | with_reducible refine we_get2 ?_ | with_reducible refine we_app ?_ | with_reducible refine we_ext ?_ | with_reducible refine we_join ?_
  | with_reducible refine we_gget2 ?_ | with_reducible refine we_gget ?_ | with_reducible refine we_gix ?_ | with_reducible refine we_gin ?_ | with_reducible refine we_sset ?_ | with_reducible refine we_sortd ?_ | with_reducible refine we_rev ?_ | with_reducible refine we_reprL ?_ | ((with_reducible apply lfV); rfl; exact Nat.le_of_ble_eq_true rfl) | with_reducible refine wes_nil ?_ | with_reducible refine wes_cons ?_ | with_reducible refine wt_nil ?_ | with_reducible refine wt_one ?_
  | with_reducible refine wi_rng ?_ | with_reducible refine wi_rng2 ?_ | with_reducible refine wi_zip ?_ | with_reducible refine wi_enm ?_ | with_reducible refine wi_seq ?_
  | with_reducible refine then_nx ?_ | with_reducible refine then_bk ?_ | with_reducible refine then_ct ?_ | with_reducible refine then_rt ?_ | with_reducible refine qf_same ?_ | with_reducible refine qf_app ?_ | with_reducible refine qf_cons ?_ | with_reducible refine qf_consA ?_ | with_reducible refine qf_ref ?_ | with_reducible refine qf_d ?_ | with_reducible refine qf_nx ?_
  | ((with_reducible apply wk_eq); with_reducible assumption)
  | (with_reducible refine limp (fun hb => ?_) (fun hb => ?_) <;> (first | (cases hb; done) | (simp only [Bool.not_false, Bool.not_true, Bool.true_eq_false, Bool.false_eq_true, reduceCtorEq] at hb; done) | cases hb | ((try simp only [Bool.not_false, Bool.not_true] at hb); (try rw [hb]))))
  | with_reducible refine lf_add ?_ | with_reducible refine lf_sub ?_ | ((with_reducible apply lf_mod); (first | assumption | decide)) | ((with_reducible apply lf_div); (first | assumption | decide)) | with_reducible refine lf_lt ?_ | with_reducible refine lf_le ?_ | with_reducible refine lf_gt ?_ | with_reducible refine lf_ge ?_ | with_reducible refine lf_eqI ?_ | with_reducible refine lf_neI ?_ | with_reducible refine lf_eqSame ?_ | with_reducible refine lf_neSame ?_ | with_reducible refine lf_eqS ?_ | with_reducible refine lf_neS ?_
  | with_reducible refine lf_isN ?_ | with_reducible refine lf_isI ?_ | with_reducible refine lf_isnN ?_ | with_reducible refine lf_isnI ?_ | with_reducible refine lf_tb ?_ | with_reducible refine lf_tl ?_ | with_reducible refine lf_tt ?_ | with_reducible refine lf_int ?_ | with_reducible refine lf_lenL ?_ | with_reducible refine lf_lenT ?_ | ((with_reducible apply lf_lenS); assumption) | with_reducible refine lf_tupL ?_ | with_reducible refine lf_tupT ?_ | with_reducible refine lf_listL ?_ | with_reducible refine lf_listT ?_ | with_reducible refine lf_view ?_ | with_reducible refine lf_in2 ?_ | with_reducible refine lf_in3 ?_ | with_reducible refine lf_inM ?_ | with_reducible refine lf_ix0T ?_ | with_reducible refine lf_ix1T ?_ | with_reducible refine lf_ix2T ?_ | with_reducible refine lf_sl1 ?_ | with_reducible refine lf_slL ?_ | with_reducible refine lf_slT ?_
  | ((with_reducible apply lf_pow); decide) | with_reducible refine lf_mul ?_ ?_ | with_reducible refine lf_pow ?_ ?_ | ((with_reducible apply lf_addT); exact Nat.le_of_ble_eq_true rfl) | ((with_reducible apply lf_addL); exact Nat.le_of_ble_eq_true rfl) | with_reducible refine lf_addT ?_ ?_ | with_reducible refine lf_addL ?_ ?_
  | ((with_reducible apply lf2); rfl; rfl) | ((with_reducible apply lf3); rfl; exact Nat.le_of_ble_eq_true rfl) | ((with_reducible apply lf4); rfl; decide) | ((with_reducible apply lfU); rfl; rfl)
  | with_reducible refine ls_l ?_ | with_reducible refine ls_t ?_ | with_reducible refine ls_s ?_ | ((with_reducible apply ls_r); rfl) | with_reducible refine le_l ?_ | with_reducible refine le_t ?_ | with_reducible refine le_s ?_ | with_reducible refine lz_l ?_ | with_reducible refine lz_t ?_
  | ((with_reducible apply lfR); (first | decide | omega)) | ((with_reducible apply lfR2); (first | decide | omega)) | with_reducible refine lfI ?_
  | ((with_reducible apply lf); rfl) | ((with_reducible apply lfB); rfl) | ((with_reducible apply land); rfl)))
local macro_rules | `(tactic| nofun) => `(tactic| repeat' left)
namespace PL.W
open PySem PySem.Spec PyProof.Rows L2 PL
/-! ### the judge -/
theorem six_neat (a b c d e f : Bool) : Neat 3 20000 (.list [.bool a, .bool b, .bool c, .bool d, .bool e, .bool f]) := by
  refine (neat_list (k := 0) (w := 200) (w' := 20000) (fun x hx => ?_) (by simp only [List.length_cons, List.length_nil]; omega)).mono (by decide) (Nat.le_refl _)
  simp only [List.mem_cons, List.not_mem_nil, or_false] at hx
  rcases hx with rfl | rfl | rfl | rfl | rfl | rfl <;> exact neat_bool
theorem judge (n : Nat) (S : Sto) (d : D) (b1 p r de ru : Bool) {b0 : Bool}
    (e1 : callN fns (n + 4) i_is_integer [.d d] S = some (.d (.bool b0), S)) (e2 : callN fns (n + 4) i_is_number [.d d] S = some (.d (.bool b1), S)) (e3 : callN fns (n + 4) i_is_page [.d d] S = some (.d (.bool p), S))
    (e4 : callN fns (n + 4) i_is_record [.d d] S = some (.d (.bool r), S)) (e5 : callN fns (n + 4) i_is_deed [.d d] S = some (.d (.bool de), S)) (e6 : callN fns (n + 4) i_is_rule [.d d] S = some (.d (.bool ru), S))
    (f1 : callN fns (n + 4) i_law_is_integer [.d d] S = some (.d (.bool b0), S)) (f3 : callN fns (n + 4) i_law_is_page [.d d] S = some (.d (.bool p), S))
    (f4 : callN fns (n + 4) i_law_is_record [.d d] S = some (.d (.bool r), S)) (f5 : callN fns (n + 4) i_law_is_deed [.d d] S = some (.d (.bool de), S)) (f6 : callN fns (n + 4) i_law_is_rule [.d d] S = some (.d (.bool ru), S))
    (hi : b0 = true → bin2 (gCmp .GtE) (.d d) (.d (.int 0)) S = some (.bool b1)) (hn : b0 = false → b1 = false) : callN fns (n + 5) i_law_are_right [.d d] S = some (.d (.bool true), S) := by
  refine WC.eq (c_law_are_right ?_)
  cases b0 with
  | true =>
    have hi := hi rfl
    clear hn
    nofun
    refine lf hi ?_
    nofun
    refine lf_repr (six_neat true b1 p r de ru) (by decide) (by decide) ?_
    refine we_bi ?_
    refine we_bin ?_
    nofun
    refine lf_repr (six_neat true b1 p r de ru) (by decide) (by decide) ?_
    refine lf_eqSame ?_
    nofun
    exact ⟨rfl, rfl⟩
  | false =>
    cases hn rfl
    clear hi hn
    nofun
    refine lf_repr (six_neat false false p r de ru) (by decide) (by decide) ?_
    refine we_bi ?_
    refine we_bin ?_
    nofun
    refine lf_repr (six_neat false false p r de ru) (by decide) (by decide) ?_
    refine lf_eqSame ?_
    nofun
    exact ⟨rfl, rfl⟩
theorem t_right (n : Nat) (S : Sto) {d : D} (h : itB d = true) : callN fns (n + 5) i_law_are_right [.d d] S = some (.d (.bool true), S) := by
  refine judge n S d (cntB 0 d) (pageD d) (formB REC d) (formB DEED d) (ruleB d) (t_isint (n + 3) S d) (t_isnum (n + 2) S d) (t_pageD (n + 3) S (it_st h)) (t_record n S h) (t_deed n S h) (t_rule (n + 2) S h)
    (t_lawint (n + 3) S d) (t_lawpage0 (n + 3) S (it_pg h)) (t_lawrecord (n + 1) S h) (t_lawdeed (n + 1) S h) (t_lawrule (n + 2) S h) ?_ ?_
  · intro q
    cases d <;> first | rfl | cases q
  · intro q
    cases d <;> first | rfl | cases q
end PL.W
end
section
set_option maxHeartbeats 4000000
open PL PySem PySem.Spec PyProof.Rows L2
local macro_rules | `(tactic| left) => `(tactic| (first
  | with_reducible refine ws_asg ?_ | with_reducible refine ws_asgL ?_ | with_reducible refine ws_par ?_ | with_reducible refine ws_parC ?_ | with_reducible refine ws_unp ?_ | with_reducible refine ws_dset ?_
  | with_reducible refine ws_expr ?_ | with_reducible refine ws_ret ?_ | with_reducible refine ws_ret0 ?_ | with_reducible refine ws_pass ?_ | with_reducible refine ws_brk ?_ | with_reducible refine ws_cont ?_ | with_reducible refine ws_if ?_ | with_reducible refine ws_for ?_ | with_reducible refine ws_nil ?_
  | with_reducible refine we_int ?_ | with_reducible refine we_str ?_ | with_reducible refine we_bl ?_ | with_reducible refine we_non ?_ | with_reducible refine we_gd ?_
  | ((with_reducible apply we_loc); rfl)
  | with_reducible refine we_bin ?_ | with_reducible refine we_cmp ?_ | with_reducible refine we_cmp2 ?_ | with_reducible refine we_bop ?_ | with_reducible refine wb_nil ?_ | with_reducible refine wb_cons ?_ | with_reducible refine we_not ?_ | with_reducible refine we_neg ?_ | with_reducible refine we_ite ?_
  | with_reducible refine we_tup ?_ | with_reducible refine we_lst ?_ | with_reducible refine we_lstR ?_ | with_reducible refine we_dic0 ?_ | with_reducible refine we_dic ?_ | with_reducible refine we_ix ?_ | with_reducible refine we_sl ?_ | with_reducible refine wo_no ?_ | with_reducible refine wo_so ?_
  | with_reducible refine we_bi ?_ | with_reducible refine we_isi ?_ | with_reducible refine we_call ?_ | with_reducible refine we_callK ?_ | with_reducible refine we_comp ?_ | with_reducible refine we_compR ?_ | with_reducible refine we_get2 ?_ | with_reducible refine we_app ?_ | with_reducible refine we_ext ?_ | with_reducible refine we_join ?_
  | with_reducible refine we_gget2 ?_ | with_reducible refine we_gget ?_ | with_reducible refine we_gix ?_ | with_reducible refine we_gin ?_ | with_reducible refine we_sset ?_ | with_reducible refine we_sortd ?_ | with_reducible refine we_rev ?_ | with_reducible refine we_reprL ?_ | ((with_reducible apply lfV); rfl; exact Nat.le_of_ble_eq_true rfl) | with_reducible refine wes_nil ?_ | with_reducible refine wes_cons ?_ | with_reducible refine wt_nil ?_ | with_reducible refine wt_one ?_
  | with_reducible refine wi_rng ?_ | with_reducible refine wi_rng2 ?_ | with_reducible refine wi_zip ?_ | with_reducible refine wi_enm ?_ | with_reducible refine wi_seq ?_
  | with_reducible refine then_nx ?_ | with_reducible refine then_bk ?_ | with_reducible refine then_ct ?_ | with_reducible refine then_rt ?_ | with_reducible refine qf_same ?_ | with_reducible refine qf_app ?_ | with_reducible refine qf_cons ?_ | with_reducible refine qf_consA ?_ | with_reducible refine qf_ref ?_ | with_reducible refine qf_d ?_ | with_reducible refine qf_nx ?_
  | ((with_reducible apply wk_eq); with_reducible assumption)
  | (with_reducible refine limp (fun hb => ?_) (fun hb => ?_) <;> (first | (cases hb; done) | (simp only [Bool.not_false, Bool.not_true, Bool.true_eq_false, Bool.false_eq_true, reduceCtorEq] at hb; done) | cases hb | ((try simp only [Bool.not_false, Bool.not_true] at hb); (try rw [hb]))))
  | with_reducible refine lf_add ?_ | with_reducible refine lf_sub ?_ | ((with_reducible apply lf_mod); (first | assumption | decide)) | ((with_reducible apply lf_div); (first | assumption | decide)) | with_reducible refine lf_lt ?_ | with_reducible refine lf_le ?_ | with_reducible refine lf_gt ?_ | with_reducible refine lf_ge ?_ | with_reducible refine lf_eqI ?_ | with_reducible refine lf_neI ?_ | with_reducible refine lf_eqSame ?_ | with_reducible refine lf_neSame ?_ | with_reducible refine lf_eqS ?_ | with_reducible refine lf_neS ?_
  | with_reducible refine lf_isN ?_ | with_reducible refine lf_isI ?_ | with_reducible refine lf_isnN ?_ | with_reducible refine lf_isnI ?_ | with_reducible refine lf_tb ?_ | with_reducible refine lf_tl ?_ | with_reducible refine lf_tt ?_ | with_reducible refine lf_int ?_ | with_reducible refine lf_lenL ?_ | with_reducible refine lf_lenT ?_ | ((with_reducible apply lf_lenS); assumption) | with_reducible refine lf_tupL ?_ | with_reducible refine lf_tupT ?_ | with_reducible refine lf_listL ?_ | with_reducible refine lf_listT ?_ | with_reducible refine lf_view ?_ | with_reducible refine lf_in2 ?_ | with_reducible refine lf_in3 ?_ | with_reducible refine lf_inM ?_ | with_reducible refine lf_ix0T ?_ | with_reducible refine lf_ix1T ?_ | with_reducible refine lf_ix2T ?_ | with_reducible refine lf_sl1 ?_ | with_reducible refine lf_slL ?_ | with_reducible refine lf_slT ?_
  | ((with_reducible apply lf_pow); decide) | with_reducible refine lf_mul ?_ ?_ | with_reducible refine lf_pow ?_ ?_ | ((with_reducible apply lf_addT); exact Nat.le_of_ble_eq_true rfl) | ((with_reducible apply lf_addL); exact Nat.le_of_ble_eq_true rfl) | with_reducible refine lf_addT ?_ ?_ | with_reducible refine lf_addL ?_ ?_
  | ((with_reducible apply lf2); rfl; rfl) | ((with_reducible apply lf3); rfl; exact Nat.le_of_ble_eq_true rfl) | ((with_reducible apply lf4); rfl; decide) | ((with_reducible apply lfU); rfl; rfl)
  | with_reducible refine ls_l ?_ | with_reducible refine ls_t ?_ | with_reducible refine ls_s ?_ | ((with_reducible apply ls_r); rfl) | with_reducible refine le_l ?_ | with_reducible refine le_t ?_ | with_reducible refine le_s ?_ | with_reducible refine lz_l ?_ | with_reducible refine lz_t ?_
  | ((with_reducible apply lfR); (first | decide | omega)) | ((with_reducible apply lfR2); (first | decide | omega)) | with_reducible refine lfI ?_
  | ((with_reducible apply lf); rfl) | ((with_reducible apply lfB); rfl) | ((with_reducible apply land); rfl)))
local macro_rules | `(tactic| nofun) => `(tactic| repeat' left)
namespace PL.W
open PySem PySem.Spec PyProof.Rows L2 PL
/-! ### what is drawn -/
theorem pickW (n : Nat) {T : Sto} {k : Int} {S : Sto} (h : Sp T k S) (hk : k < 2 ^ 39) (ws : List Str) (hw : ws ≠ []) (hl : ws.length < 1000) : ∃ x ∈ ws, ∃ S', callN fns (n + 2) i_law_pick [.ref 0, .d (.list (ws.map .str))] S = some (.d (.str x), S') ∧ Sp T (k + 1) S' := by
  obtain ⟨d, hd, S', e, h'⟩ := pickS n h hk (ds := ws.map .str) (by simpa using hw) (by simpa using hl)
  obtain ⟨x, hx, rfl⟩ := List.mem_map.mp hd
  exact ⟨x, hx, S', e, h'⟩
def okW (ws : List Str) : Bool := ws.all fun w => PyData.strOk w && decide (w.length ≤ 100)
theorem sm_words {ws : List Str} (h : okW ws = true) {x : Str} (hx : x ∈ ws) : smB (.str x) = true := by
  have := List.all_eq_true.mp h x hx
  rw [Bool.and_eq_true] at this
  unfold smB
  simp [PyData.canLay0, PyData.depth, stB, this.1, of_decide_eq_true this.2]
theorem sm_int (i : Int) : smB (.int i) = true := by
  unfold smB
  simp [PyData.canLay0, PyData.depth, stB]
theorem pages_ok {ps : List Str} (h : ps ∈ PAGES) : okW ps = true ∧ ps ≠ [] ∧ ps.length < 1000 := by
  simp only [PAGES, List.mem_cons, List.not_mem_nil, or_false] at h
  rcases h with rfl | rfl | rfl | rfl | rfl | rfl <;> exact ⟨by decide +kernel, by simp, by decide⟩
/-- a row that is drawn: its parts are small -/
def DrawnQ (T : Sto) (k : Int) (x : R) (S' : Sto) : Prop := ∃ ds, x = .d (.tuple ds) ∧ Sp T k S' ∧ (∀ y ∈ ds, smB y = true) ∧ ds.length ≤ 12
abbrev DW11 : List Str := ["keep", "plain", "write", "free", "strike", "flush", "put", "seal", "point", "stop", "end"]
theorem t_deedD (n : Nat) {T : Sto} {k : Int} {S : Sto} (h : Sp T k S) (hk : k < 2 ^ 38) {ps : List Str} (hp : ps ∈ PAGES) : WC fns (n + 3) i_law_deed [.ref 0, .d (.list (ps.map .str))] S (DrawnQ T (k + 4)) := by
  obtain ⟨w, hw, S1, e1, h1⟩ := pickW n h (by omega) DW11 (by simp) (by decide)
  have e1 : callN fns (n + 2) i_law_pick [.ref 0, .d (.list [.str "keep", .str "plain", .str "write", .str "free", .str "strike", .str "flush", .str "put", .str "seal", .str "point", .str "stop", .str "end"])] S = some (.d (.str w), S1) := e1
  obtain ⟨v, S2, _, _, e2, h2⟩ := dipS (n + 1) h1 (by omega) (m := 60) (by decide) (by decide)
  obtain ⟨d, hd, S3, e3, h3⟩ := pickS n h2 (by omega) (ds := [.int 1, .int 2, .int 9, .int 10, .int (1 + v), .int ((10 : Int) ^ (59 : Int).toNat)]) (by simp) (by simp)
  obtain ⟨q1, q2, q3⟩ := pages_ok hp
  obtain ⟨p, hpp, S4, e4, h4⟩ := pickW n h1 (by omega) ps q2 q3
  have z1 : smB (.str w) = true := sm_words (ws := DW11) (by decide +kernel) hw
  have z2 : smB (.str p) = true := sm_words q1 hpp
  have z3 : smB d = true := by
    simp only [List.mem_cons, List.not_mem_nil, or_false] at hd
    rcases hd with rfl | rfl | rfl | rfl | rfl | rfl <;> exact sm_int _
  refine c_law_deed ?_
  nofun
  all_goals first
    | (refine ⟨_, rfl, by rw [h.take h3]; exact h3.mono (by omega), fun y hy => ?_, Nat.le_of_ble_eq_true rfl⟩
       have hy : y ∈ ([PyData.str w, d] : List D) := hy
       simp only [List.mem_cons, List.not_mem_nil, or_false] at hy
       rcases hy with rfl | rfl <;> assumption)
    | (refine ⟨_, rfl, by rw [h.take h4]; exact h4.mono (by omega), fun y hy => ?_, Nat.le_of_ble_eq_true rfl⟩
       have hy : y ∈ ([PyData.str w, .str p] : List D) := hy
       simp only [List.mem_cons, List.not_mem_nil, or_false] at hy
       rcases hy with rfl | rfl <;> assumption)
    | (refine ⟨_, rfl, by rw [h.take h1]; exact h1.mono (by omega), fun y hy => ?_, Nat.le_of_ble_eq_true rfl⟩
       have hy : y ∈ ([PyData.str w] : List D) := hy
       simp only [List.mem_cons, List.not_mem_nil, or_false] at hy
       subst hy; assumption)
    | trace_state
abbrev RW5 : List Str := ["keep", "write", "plain", "free", "strike"]
theorem t_recordD (n : Nat) {T : Sto} {k : Int} {S : Sto} (h : Sp T k S) (hk : k < 2 ^ 38) {ps : List Str} (hp : ps ∈ PAGES) : WC fns (n + 3) i_law_record [.ref 0, .d (.list (ps.map .str))] S (DrawnQ T (k + 4)) := by
  obtain ⟨w, hw, S1, e1, h1⟩ := pickW n h (by omega) RW5 (by simp) (by decide)
  have e1 : callN fns (n + 2) i_law_pick [.ref 0, .d (.list [.str "keep", .str "write", .str "plain", .str "free", .str "strike"])] S = some (.d (.str w), S1) := e1
  obtain ⟨q1, q2, q3⟩ := pages_ok hp
  obtain ⟨p, hpp, S4, e4, h4⟩ := pickW n h1 (by omega) ps q2 q3
  obtain ⟨v, S2, _, _, e2, h2⟩ := dipS (n + 1) h4 (by omega) (m := 9) (by decide) (by decide)
  have z1 : smB (.str w) = true := sm_words (ws := RW5) (by decide +kernel) hw
  have z2 : smB (.str p) = true := sm_words q1 hpp
  refine c_law_record ?_
  nofun
  all_goals first
    | (refine ⟨_, rfl, by rw [h.take h4]; exact h4.mono (by omega), fun y hy => ?_, Nat.le_of_ble_eq_true rfl⟩
       have hy : y ∈ ([PyData.str w, .str p] : List D) := hy
       simp only [List.mem_cons, List.not_mem_nil, or_false] at hy
       rcases hy with rfl | rfl <;> assumption)
    | (refine ⟨_, rfl, by rw [h.take h2]; exact h2.mono (by omega), fun y hy => ?_, Nat.le_of_ble_eq_true rfl⟩
       have hy : y ∈ ([PyData.str w, .str p, .int (1 + v)] : List D) := hy
       simp only [List.mem_cons, List.not_mem_nil, or_false] at hy
       rcases hy with rfl | rfl | rfl <;> first | assumption | exact sm_int _)
    | trace_state
theorem sort_strs {ps : List Str} (h : ps.length < 64) (S : Sto) : un1 (Bi.fn .sorted) (.d (.list (ps.map .str))) S = some (.list ((sortS ps).map .str)) := by
  show gSorted (.list (ps.map .str)) = _
  unfold gSorted
  dsimp only
  rw [strs_of]
  dsimp only
  rw [if_pos h]
abbrev SG : List Str := sortS GU
theorem sg_len : SG.length = 12 := (sortS_perm GU).length_eq
theorem sg_ok {x : Str} (h : x ∈ SG) : smB (.str x) = true := sm_words (ws := GU) (by decide +kernel) ((sortS_perm GU).mem_iff.mp h)
theorem cut_mem {ds : List D} {lo hi : Option Int} {x : D} (h : x ∈ cutL ds lo hi) : x ∈ ds := by
  unfold cutL at h
  exact List.mem_of_mem_drop (List.mem_of_mem_take h)
theorem cut_len (ds : List D) (lo hi : Option Int) : (cutL ds lo hi).length ≤ ds.length := by
  unfold cutL
  rw [List.length_take, List.length_drop]
  omega
theorem loop_keep {t : D → Sto → Option (Option D × Sto)} {T : Sto} {K : Int} : ∀ (l acc : List D) (k : Int) (S : Sto), (∀ d ∈ l, ∀ S k, Sp T k S → k < K → ∃ (b : Bool) (S' : Sto), t d S = some (if b = true then some d else none, S') ∧ Sp T (k + 1) S') → Sp T k S → k + l.length < K → acc.length + l.length ≤ sizeLine → ∃ (ys : List D) (S' : Sto), loopM none t l acc S = some (acc ++ ys, S') ∧ ys.length ≤ l.length ∧ (∀ y ∈ ys, y ∈ l) ∧ Sp T (k + l.length) S'
  | [], acc, k, S, _, h, _, _ => ⟨[], S, by simp only [loopM, List.append_nil], Nat.le_refl _, fun y hy => hy, h.mono (by simp)⟩
  | d :: l, acc, k, S, ht, h, hK, hl => by
    rw [List.length_cons] at hK hl
    obtain ⟨b, S1, e, h1⟩ := ht d List.mem_cons_self S k h (by omega)
    cases b with
    | false =>
      obtain ⟨ys, S', e2, hb, hm, h2⟩ := loop_keep l acc (k + 1) S1 (fun d hd => ht d (List.mem_cons_of_mem _ hd)) h1 (by omega) (by omega)
      refine ⟨ys, S', ?_, by rw [List.length_cons]; omega, fun y hy => List.mem_cons_of_mem _ (hm y hy), h2.mono (by rw [List.length_cons]; omega)⟩
      simp only [loopM, e]
      rw [if_pos (show lockB none S1 = true from rfl)]
      exact e2
    | true =>
      obtain ⟨ys, S', e2, hb, hm, h2⟩ := loop_keep l (acc ++ [d]) (k + 1) S1 (fun d hd => ht d (List.mem_cons_of_mem _ hd)) h1 (by omega) (by rw [List.length_append, List.length_singleton]; omega)
      refine ⟨d :: ys, S', ?_, by rw [List.length_cons, List.length_cons]; omega, fun y hy => ?_, h2.mono (by rw [List.length_cons]; omega)⟩
      · simp only [loopM, e]
        rw [if_pos (show lockB none S1 = true from rfl)]
        show (if acc.length < sizeLine then loopM none t l (acc ++ [d]) S1 else none) = _
        rw [if_pos (by omega), e2, List.append_assoc]
        rfl
      · rcases List.mem_cons.mp hy with rfl | hy
        · exact List.mem_cons_self
        · exact List.mem_cons_of_mem _ (hm y hy)
theorem wl_keep {t : D → Sto → Option (Option D × Sto)} {T : Sto} {k : Int} {S : Sto} {l : List D} {Q : List D → Sto → Prop} (h : Sp T k S) (hl : l.length ≤ 1000) (ht : ∀ d ∈ l, ∀ S k', Sp T k' S → k' < k + 1001 → ∃ (b : Bool) (S' : Sto), t d S = some (if b = true then some d else none, S') ∧ Sp T (k' + 1) S')
    (q : ∀ (ys : List D) (S' : Sto), ys.length ≤ l.length → (∀ y ∈ ys, y ∈ l) → Sp T (k + l.length) S' → Q ys S') : WL none t l S Q := by
  obtain ⟨ys, S', e, hb, hm, h2⟩ := loop_keep (K := k + 1001) l [] k S ht h (by omega) (by have : (1000 : Nat) ≤ sizeLine := Nat.le_of_ble_eq_true rfl; simp only [List.length_nil]; omega)
  exact ⟨_, S', e, q ys S' hb hm h2⟩
end PL.W
local macro_rules | `(tactic| left) => `(tactic| first | with_reducible refine lf (PL.W.sort_strs (ps := PL.W.GU) (Nat.le_of_ble_eq_true rfl) _) ?_ | with_reducible refine lf (PL.W.sort_strs (ps := PL.W.GU) (Nat.le_of_ble_eq_true rfl) _) ?_)
namespace PL.W
theorem t_ruleD (n : Nat) {T : Sto} {k : Int} {S : Sto} (h : Sp T k S) (hk : k < 2 ^ 38) : WC fns (n + 3) i_law_rule [.ref 0] S (DrawnQ T (k + 20)) := by
  obtain ⟨v, S1, v0, v1, e1, h1⟩ := dipS (n + 1) h (by omega) (m := 6) (by decide) (by decide)
  have e0 := t_lawguards (n + 1) S1
  obtain ⟨x, hx, S2, e2, h2⟩ := pickW n h1 (by omega) SG (fun z => by have := sg_len; rw [z] at this; cases this) (by rw [sg_len]; decide)
  refine c_law_rule ?_
  nofun
  · have := log_lt (show v.natAbs < 2 ^ 8 by omega) (by decide)
    have := log_lt (show (Int.natAbs 12) < 2 ^ 8 by decide) (by decide)
    omega
  · refine ⟨_, rfl, by rw [h.take h1]; exact h1.mono (by omega), fun y hy => ?_, ?_⟩
    · obtain ⟨x, hx, rfl⟩ := List.mem_map.mp (cut_mem hy)
      exact sg_ok hx
    · have := cut_len (SG.map PyData.str) none (some (12 * v))
      rw [List.length_map, sg_len] at this
      exact this
  · refine loop_filter (fun w => !decide (w = x)) PyData.str (by rw [sg_len]; exact Nat.le_of_ble_eq_true rfl) (fun w hw => ?_) ?_
    · refine turn_eq rfl ?_
      nofun
      all_goals first
        | exact ⟨_, rfl, rfl, rfl⟩
        | exact ⟨rfl, rfl⟩
    · nofun
      refine ⟨_, rfl, by rw [h.take h2]; exact h2.mono (by omega), fun y hy => ?_, ?_⟩
      · obtain ⟨x, hx, rfl⟩ := List.mem_map.mp hy
        exact sg_ok (List.mem_filter.mp hx).1
      · rw [List.length_map]
        exact Nat.le_trans (List.length_filter_le _ _) (by rw [sg_len]; exact Nat.le_refl _)
  · refine wl_keep h1 (by rw [List.length_map, sg_len]; decide) (fun d hd S0 k' h0 hk0 => ?_) (fun ys S6 hl hm h6 => ?_)
    · obtain ⟨u, S7, _, _, e7, h7⟩ := dipS (n + 1) h0 (by omega) (m := 3) (by decide) (by decide)
      refine ⟨decide (u = 0), S7, ?_, h7⟩
      refine turn_eq rfl ?_
      nofun
      all_goals first
        | exact ⟨_, rfl, rfl, rfl⟩
        | exact ⟨rfl, rfl⟩
    · rw [List.length_map, sg_len] at hl h6
      nofun
      refine ⟨_, rfl, by rw [h.take h6]; exact h6.mono (by omega), fun y hy => ?_, hl⟩
      obtain ⟨x, hx, rfl⟩ := List.mem_map.mp (hm y hy)
      exact sg_ok hx
end PL.W
end
section
set_option maxHeartbeats 4000000
open PL PySem PySem.Spec PyProof.Rows L2
local macro_rules | `(tactic| left) => `(tactic| (first
  | with_reducible refine ws_asg ?_ | with_reducible refine ws_asgL ?_ | with_reducible refine ws_par ?_ | with_reducible refine ws_parC ?_ | with_reducible refine ws_unp ?_ | with_reducible refine ws_dset ?_
  | with_reducible refine ws_expr ?_ | with_reducible refine ws_ret ?_ | with_reducible refine ws_ret0 ?_ | with_reducible refine ws_pass ?_ | with_reducible refine ws_brk ?_ | with_reducible refine ws_cont ?_ | with_reducible refine ws_if ?_ | with_reducible refine ws_for ?_ | with_reducible refine ws_nil ?_
  | with_reducible refine we_int ?_ | with_reducible refine we_str ?_ | with_reducible refine we_bl ?_ | with_reducible refine we_non ?_ | with_reducible refine we_gd ?_
  | ((with_reducible apply we_loc); rfl)
  | with_reducible refine we_bin ?_ | with_reducible refine we_cmp ?_ | with_reducible refine we_cmp2 ?_ | with_reducible refine we_bop ?_ | with_reducible refine wb_nil ?_ | with_reducible refine wb_cons ?_ | with_reducible refine we_not ?_ | with_reducible refine we_neg ?_ | with_reducible refine we_ite ?_
  | with_reducible refine we_tup ?_ | with_reducible refine we_lst ?_ | with_reducible refine we_lstR ?_ | with_reducible refine we_dic0 ?_ | with_reducible refine we_dic ?_ | with_reducible refine we_ix ?_ | with_reducible refine we_sl ?_ | with_reducible refine wo_no ?_ | with_reducible refine wo_so ?_
  | with_reducible refine we_bi ?_ | with_reducible refine we_isi ?_ | with_reducible refine we_call ?_ | with_reducible refine we_callK ?_ | with_reducible refine we_comp ?_ | with_reducible refine we_compR ?_ | with_reducible refine we_get2 ?_ | with_reducible refine we_app ?_ | with_reducible refine we_ext ?_ | with_reducible refine we_join ?_
  | with_reducible refine we_gget2 ?_ | with_reducible refine we_gget ?_ | with_reducible refine we_gix ?_ | with_reducible refine we_gin ?_ | with_reducible refine we_sset ?_ | with_reducible refine we_sortd ?_ | with_reducible refine we_rev ?_ | with_reducible refine we_reprL ?_ | ((with_reducible apply lfV); rfl; exact Nat.le_of_ble_eq_true rfl) | with_reducible refine wes_nil ?_ | with_reducible refine wes_cons ?_ | with_reducible refine wt_nil ?_ | with_reducible refine wt_one ?_
  | with_reducible refine wi_rng ?_ | with_reducible refine wi_rng2 ?_ | with_reducible refine wi_zip ?_ | with_reducible refine wi_enm ?_ | with_reducible refine wi_seq ?_
  | with_reducible refine then_nx ?_ | with_reducible refine then_bk ?_ | with_reducible refine then_ct ?_ | with_reducible refine then_rt ?_ | with_reducible refine qf_same ?_ | with_reducible refine qf_app ?_ | with_reducible refine qf_cons ?_ | with_reducible refine qf_consA ?_ | with_reducible refine qf_ref ?_ | with_reducible refine qf_d ?_ | with_reducible refine qf_nx ?_
  | ((with_reducible apply wk_eq); with_reducible assumption)
  | (with_reducible refine limp (fun hb => ?_) (fun hb => ?_) <;> (first | (cases hb; done) | (simp only [Bool.not_false, Bool.not_true, Bool.true_eq_false, Bool.false_eq_true, reduceCtorEq] at hb; done) | cases hb | ((try simp only [Bool.not_false, Bool.not_true] at hb); (try rw [hb]))))
  | with_reducible refine lf_add ?_ | with_reducible refine lf_sub ?_ | ((with_reducible apply lf_mod); (first | assumption | decide)) | ((with_reducible apply lf_div); (first | assumption | decide)) | with_reducible refine lf_lt ?_ | with_reducible refine lf_le ?_ | with_reducible refine lf_gt ?_ | with_reducible refine lf_ge ?_ | with_reducible refine lf_eqI ?_ | with_reducible refine lf_neI ?_ | with_reducible refine lf_eqSame ?_ | with_reducible refine lf_neSame ?_ | with_reducible refine lf_eqS ?_ | with_reducible refine lf_neS ?_
  | with_reducible refine lf_isN ?_ | with_reducible refine lf_isI ?_ | with_reducible refine lf_isnN ?_ | with_reducible refine lf_isnI ?_ | with_reducible refine lf_tb ?_ | with_reducible refine lf_tl ?_ | with_reducible refine lf_tt ?_ | with_reducible refine lf_int ?_ | with_reducible refine lf_lenL ?_ | with_reducible refine lf_lenT ?_ | ((with_reducible apply lf_lenS); assumption) | with_reducible refine lf_tupL ?_ | with_reducible refine lf_tupT ?_ | with_reducible refine lf_listL ?_ | with_reducible refine lf_listT ?_ | with_reducible refine lf_view ?_ | with_reducible refine lf_in2 ?_ | with_reducible refine lf_in3 ?_ | with_reducible refine lf_inM ?_ | with_reducible refine lf_ix0T ?_ | with_reducible refine lf_ix1T ?_ | with_reducible refine lf_ix2T ?_ | with_reducible refine lf_sl1 ?_ | with_reducible refine lf_slL ?_ | with_reducible refine lf_slT ?_
  | ((with_reducible apply lf_pow); decide) | with_reducible refine lf_mul ?_ ?_ | with_reducible refine lf_pow ?_ ?_ | ((with_reducible apply lf_addT); exact Nat.le_of_ble_eq_true rfl) | ((with_reducible apply lf_addL); exact Nat.le_of_ble_eq_true rfl) | with_reducible refine lf_addT ?_ ?_ | with_reducible refine lf_addL ?_ ?_
  | ((with_reducible apply lf2); rfl; rfl) | ((with_reducible apply lf3); rfl; exact Nat.le_of_ble_eq_true rfl) | ((with_reducible apply lf4); rfl; decide) | ((with_reducible apply lfU); rfl; rfl)
  | with_reducible refine ls_l ?_ | with_reducible refine ls_t ?_ | with_reducible refine ls_s ?_ | ((with_reducible apply ls_r); rfl) | with_reducible refine le_l ?_ | with_reducible refine le_t ?_ | with_reducible refine le_s ?_ | with_reducible refine lz_l ?_ | with_reducible refine lz_t ?_
  | ((with_reducible apply lfR); (first | decide | omega)) | ((with_reducible apply lfR2); (first | decide | omega)) | with_reducible refine lfI ?_
  | ((with_reducible apply lf); rfl) | ((with_reducible apply lfB); rfl) | ((with_reducible apply land); rfl)))
local macro_rules | `(tactic| nofun) => `(tactic| repeat' left)
namespace PL.W
open PySem PySem.Spec PyProof.Rows L2 PL
theorem at_tuple {ds : List D} {j : Int} (h0 : 0 ≤ j) (h1 : j < ds.length) : ∃ x ∈ ds, ∀ S, ixR (.d (.tuple ds)) (.d (.int j)) S = some x := by
  have hj : j.toNat < ds.length := by omega
  refine ⟨ds[j.toNat], List.getElem_mem hj, fun S => ?_⟩
  show atI ds j = _
  unfold atI ixN
  rw [if_pos h0, if_pos h1]
  exact List.getElem?_eq_getElem hj
abbrev ODD : List D := [.int 0, .int 1, .int (-1), .bool true, .none, .str "", .str "a", .str "A", .str "abcdefghi", .str "a b", .str "keep", .str "free", .tuple [], .str "1", .int ((10 : Int) ^ (59 : Int).toNat)]
theorem odd_sm : ∀ d ∈ ODD, smB d = true := List.all_eq_true.mp (show ODD.all smB = true by decide +kernel)
theorem rev_mem {ds : List D} {x : D} (h : x ∈ ds.reverse) : x ∈ ds := List.mem_reverse.mp h
theorem line20 {a : Nat} (h : a ≤ 1000) : a ≤ sizeLine := Nat.le_trans h (Nat.le_of_ble_eq_true rfl)
def BentQ (T : Sto) (k : Int) (x : R) (S' : Sto) : Prop := ∃ d, x = .d d ∧ Sp T k S' ∧ itB d = true
theorem t_bentD (n : Nat) {T : Sto} {k : Int} {S : Sto} (h : Sp T k S) (hk : k < 2 ^ 38) {ds : List D} (hs : ∀ y ∈ ds, smB y = true) (h12 : ds.length ≤ 12) : WC fns (n + 3) i_law_bent [.ref 0, .d (.tuple ds)] S (BentQ T (k + 4)) := by
  obtain ⟨a, S1, a0, a1, e1, h1⟩ := dipS (n + 1) h (by omega) (m := ((ds.length : Nat) : Int) + 1) (by omega) (by omega)
  obtain ⟨w, S2, _, _, e2, h2⟩ := dipS (n + 1) h1 (by omega) (m := 5) (by decide) (by decide)
  obtain ⟨o, ho, S3, e3, h3⟩ := pickS n h2 (by omega) (ds := ODD) (by simp) (by decide)
  have c := fun lo hi => cut_len ds lo hi
  have hso := odd_sm o ho
  have m : ∀ lo hi, ∀ y ∈ cutL ds lo hi, smB y = true := fun lo hi y hy => hs y (cut_mem hy)
  refine c_law_bent ?_
  nofun
  all_goals first
    | (refine line20 ?_
       have c1 := c none (some a)
       have c2 := c (some (a + 1)) none
       have c3 := c (some a) none
       try simp only [List.length_append, List.length_cons, List.length_nil]
       omega)
    | (refine ⟨_, rfl, ?_, (rfl : itB (.list ds) = true)⟩
       rw [h.take h3]
       exact h3.mono (by omega))
    | (refine ⟨_, rfl, by rw [h.take h3]; exact h3.mono (by omega), its_tuple (fun y hy => ?_) ?_⟩
       · first
         | exact hs y (List.mem_reverse.mp hy)
         | (simp only [List.mem_append, List.mem_cons, List.not_mem_nil, or_false] at hy
            first
              | (rcases hy with hy | hy
                 · exact m _ _ y hy
                 · exact m _ _ y hy)
              | (rcases hy with (hy | hy) | hy
                 · exact m _ _ y hy
                 · subst hy; assumption
                 · exact m _ _ y hy))
       · have c1 := c none (some a)
         have c2 := c (some (a + 1)) none
         have c3 := c (some a) none
         try simp only [List.length_append, List.length_cons, List.length_nil, List.length_reverse]
         omega)
    | trace_state
end PL.W
end
section
set_option maxHeartbeats 4000000
open PL PySem PySem.Spec PyProof.Rows L2
local macro_rules | `(tactic| left) => `(tactic| (first
  | with_reducible refine ws_asg ?_ | with_reducible refine ws_asgL ?_ | with_reducible refine ws_par ?_ | with_reducible refine ws_parC ?_ | with_reducible refine ws_unp ?_ | with_reducible refine ws_dset ?_
  | with_reducible refine ws_expr ?_ | with_reducible refine ws_ret ?_ | with_reducible refine ws_ret0 ?_ | with_reducible refine ws_pass ?_ | with_reducible refine ws_brk ?_ | with_reducible refine ws_cont ?_ | with_reducible refine ws_if ?_ | with_reducible refine ws_for ?_ | with_reducible refine ws_nil ?_
  | with_reducible refine we_int ?_ | with_reducible refine we_str ?_ | with_reducible refine we_bl ?_ | with_reducible refine we_non ?_ | with_reducible refine we_gd ?_
  | ((with_reducible apply we_loc); rfl)
  | with_reducible refine we_bin ?_ | with_reducible refine we_cmp ?_ | with_reducible refine we_cmp2 ?_ | with_reducible refine we_bop ?_ | with_reducible refine wb_nil ?_ | with_reducible refine wb_cons ?_ | with_reducible refine we_not ?_ | with_reducible refine we_neg ?_ | with_reducible refine we_ite ?_
  | with_reducible refine we_tup ?_ | with_reducible refine we_lst ?_ | with_reducible refine we_lstR ?_ | with_reducible refine we_dic0 ?_ | with_reducible refine we_dic ?_ | with_reducible refine we_ix ?_ | with_reducible refine we_sl ?_ | with_reducible refine wo_no ?_ | with_reducible refine wo_so ?_
  | with_reducible refine we_bi ?_ | with_reducible refine we_isi ?_ | with_reducible refine we_call ?_ | with_reducible refine we_callK ?_ | with_reducible refine we_comp ?_ | with_reducible refine we_compR ?_ | with_reducible refine we_get2 ?_ | with_reducible refine we_app ?_ | with_reducible refine we_ext ?_ | with_reducible refine we_join ?_
  | with_reducible refine we_gget2 ?_ | with_reducible refine we_gget ?_ | with_reducible refine we_gix ?_ | with_reducible refine we_gin ?_ | with_reducible refine we_sset ?_ | with_reducible refine we_sortd ?_ | with_reducible refine we_rev ?_ | with_reducible refine we_reprL ?_ | ((with_reducible apply lfV); rfl; exact Nat.le_of_ble_eq_true rfl) | with_reducible refine wes_nil ?_ | with_reducible refine wes_cons ?_ | with_reducible refine wt_nil ?_ | with_reducible refine wt_one ?_
  | with_reducible refine wi_rng ?_ | with_reducible refine wi_rng2 ?_ | with_reducible refine wi_zip ?_ | with_reducible refine wi_enm ?_ | with_reducible refine wi_seq ?_
  | with_reducible refine then_nx ?_ | with_reducible refine then_bk ?_ | with_reducible refine then_ct ?_ | with_reducible refine then_rt ?_ | with_reducible refine qf_same ?_ | with_reducible refine qf_app ?_ | with_reducible refine qf_cons ?_ | with_reducible refine qf_consA ?_ | with_reducible refine qf_ref ?_ | with_reducible refine qf_d ?_ | with_reducible refine qf_nx ?_
  | ((with_reducible apply wk_eq); with_reducible assumption)
  | (with_reducible refine limp (fun hb => ?_) (fun hb => ?_) <;> (first | (cases hb; done) | (simp only [Bool.not_false, Bool.not_true, Bool.true_eq_false, Bool.false_eq_true, reduceCtorEq] at hb; done) | cases hb | ((try simp only [Bool.not_false, Bool.not_true] at hb); (try rw [hb]))))
  | with_reducible refine lf_add ?_ | with_reducible refine lf_sub ?_ | ((with_reducible apply lf_mod); (first | assumption | decide)) | ((with_reducible apply lf_div); (first | assumption | decide)) | with_reducible refine lf_lt ?_ | with_reducible refine lf_le ?_ | with_reducible refine lf_gt ?_ | with_reducible refine lf_ge ?_ | with_reducible refine lf_eqI ?_ | with_reducible refine lf_neI ?_ | with_reducible refine lf_eqSame ?_ | with_reducible refine lf_neSame ?_ | with_reducible refine lf_eqS ?_ | with_reducible refine lf_neS ?_
  | with_reducible refine lf_isN ?_ | with_reducible refine lf_isI ?_ | with_reducible refine lf_isnN ?_ | with_reducible refine lf_isnI ?_ | with_reducible refine lf_tb ?_ | with_reducible refine lf_tl ?_ | with_reducible refine lf_tt ?_ | with_reducible refine lf_int ?_ | with_reducible refine lf_lenL ?_ | with_reducible refine lf_lenT ?_ | ((with_reducible apply lf_lenS); assumption) | with_reducible refine lf_tupL ?_ | with_reducible refine lf_tupT ?_ | with_reducible refine lf_listL ?_ | with_reducible refine lf_listT ?_ | with_reducible refine lf_view ?_ | with_reducible refine lf_in2 ?_ | with_reducible refine lf_in3 ?_ | with_reducible refine lf_inM ?_ | with_reducible refine lf_ix0T ?_ | with_reducible refine lf_ix1T ?_ | with_reducible refine lf_ix2T ?_ | with_reducible refine lf_sl1 ?_ | with_reducible refine lf_slL ?_ | with_reducible refine lf_slT ?_
  | ((with_reducible apply lf_pow); decide) | with_reducible refine lf_mul ?_ ?_ | with_reducible refine lf_pow ?_ ?_ | ((with_reducible apply lf_addT); exact Nat.le_of_ble_eq_true rfl) | ((with_reducible apply lf_addL); exact Nat.le_of_ble_eq_true rfl) | with_reducible refine lf_addT ?_ ?_ | with_reducible refine lf_addL ?_ ?_
  | ((with_reducible apply lf2); rfl; rfl) | ((with_reducible apply lf3); rfl; exact Nat.le_of_ble_eq_true rfl) | ((with_reducible apply lf4); rfl; decide) | ((with_reducible apply lfU); rfl; rfl)
  | with_reducible refine ls_l ?_ | with_reducible refine ls_t ?_ | with_reducible refine ls_s ?_ | ((with_reducible apply ls_r); rfl) | with_reducible refine le_l ?_ | with_reducible refine le_t ?_ | with_reducible refine le_s ?_ | with_reducible refine lz_l ?_ | with_reducible refine lz_t ?_
  | ((with_reducible apply lfR); (first | decide | omega)) | ((with_reducible apply lfR2); (first | decide | omega)) | with_reducible refine lfI ?_
  | ((with_reducible apply lf); rfl) | ((with_reducible apply lfB); rfl) | ((with_reducible apply land); rfl)))
local macro_rules | `(tactic| nofun) => `(tactic| repeat' left)
namespace PL.W
open PySem PySem.Spec PyProof.Rows L2 PL
theorem ext10 {o : Ob} {xs ys : List D} (h : xs.length + ys.length ≤ sizeLine) : extR (.ref 1) (.d (.list ys)) [o, .lst xs] = some [o, .lst (xs ++ ys)] := by
  show (if xs.length + ys.length ≤ sizeLine then some [o, Ob.lst (xs ++ ys)] else none) = _
  rw [if_pos h]
end PL.W
local macro_rules | `(tactic| left) => `(tactic| first | with_reducible refine lf (PL.W.ext10 ?_) ?_ | with_reducible refine lf (PL.W.ext10 ?_) ?_)
namespace PL.W
/-- while the items grow -/
def GrowI (r0 r2 : Option R) (ds : List D) (L : Loc) (S : Sto) : Prop := ∃ (l4 l5 l6 : Option R) (xs : List D) (k : Int), L = [r0, some (.ref 0), r2, some (.ref 1), l4, l5, l6, none, none] ∧ Sp [.lst xs] k S ∧ (∀ d ∈ xs, itB d = true) ∧ xs.length + 6 * ds.length ≤ 500 ∧ k + 100 * ds.length ≤ 100000
theorem growT (n : Nat) {r0 : Option R} {ps : List Str} (hp : ps ∈ PAGES) (tg : List Sx) (htg : b_law = b_law.take 6 ++ [.fors (.one 4) (.rng (.int 6)) tg] ++ b_law.drop 7)
    (d : D) (r : List D) (L : Loc) (S : Sto) (hi : GrowI r0 (some (.d (.list (ps.map .str)))) (d :: r) L S) : ∃ g L' S', lapT (callN fns (n + 3)) (.one 4) tg d L S = some (g, L', S') ∧ (g = .nx ∨ g = .ct) ∧ lockB none S' = true ∧ GrowI r0 (some (.d (.list (ps.map .str)))) r L' S' := by
  cases htg
  obtain ⟨l4, l5, l6, xs, k, rfl, h, hx, hl, hk⟩ := hi
  rw [List.length_cons] at hl hk
  obtain ⟨_, S1, e1, d1, rfl, h1, s1, m1⟩ := t_deedD n h (by omega) hp
  obtain ⟨_, S2, e2, d2, rfl, h2, s2, m2⟩ := t_recordD n h1 (by omega) hp
  obtain ⟨_, S3, e3, d3, rfl, h3, s3, m3⟩ := t_ruleD n h2 (by omega)
  obtain ⟨_, S4, e4, d4, rfl, h4, i4⟩ := t_bentD n h3 (by omega) s1 m1
  obtain ⟨_, S5, e5, d5, rfl, h5, i5⟩ := t_bentD n h4 (by omega) s2 m2
  obtain ⟨_, S6, e6, d6, rfl, h6, i6⟩ := t_bentD n h5 (by omega) s3 m3
  obtain ⟨_, _, _, _, rfl, _, _⟩ := h1
  obtain ⟨_, _, _, _, rfl, _, _⟩ := h2
  obtain ⟨_, _, _, _, rfl, _, _⟩ := h3
  obtain ⟨a4, b4, c4, f4, rfl, _, _⟩ := h4
  obtain ⟨a5, b5, c5, f5, rfl, _, _⟩ := h5
  obtain ⟨cs, p, q, c, rfl, c0, c1⟩ := h6
  refine lap_of rfl ?_
  nofun
  refine wl_lit ?_
  refine wl_yes (y := d4) (S1 := [spO a4 b4 c4 f4, .lst xs]) (turn_eq rfl ?_) ?_ (Nat.le_of_ble_eq_true rfl)
  · nofun
    exact ⟨_, rfl, rfl, rfl⟩
  refine wl_yes (y := d5) (S1 := [spO a5 b5 c5 f5, .lst xs]) (turn_eq rfl ?_) ?_ (Nat.le_of_ble_eq_true rfl)
  · nofun
    exact ⟨_, rfl, rfl, rfl⟩
  refine wl_yes (y := d6) (S1 := [spO cs p q c, .lst xs]) (turn_eq rfl ?_) ?_ (Nat.le_of_ble_eq_true rfl)
  · nofun
    exact ⟨_, rfl, rfl, rfl⟩
  refine wl_end ?_
  nofun
  · exact line20 (by simp only [List.length_append, List.length_cons, List.length_nil]; omega)
  · refine ⟨.inl rfl, rfl, some (.d d), some (.d (.list [.tuple d1, .tuple d2, .tuple d3])), l6, _, k + 60, rfl, ⟨cs, p, q, c, rfl, c0, by omega⟩, ?_, ?_, by omega⟩
    · intro y hy
      rcases List.mem_append.mp hy with hy | hy
      · exact hx y hy
      · have hy : y ∈ ([.tuple d1, .tuple d2, .tuple d3, d4, d5, d6] : List D) := hy
        simp only [List.mem_cons, List.not_mem_nil, or_false] at hy
        rcases hy with rfl | rfl | rfl | rfl | rfl | rfl
        · exact its_tuple s1 (by omega)
        · exact its_tuple s2 (by omega)
        · exact its_tuple s3 (by omega)
        · exact i4
        · exact i5
        · exact i6
    · simp only [List.length_append, List.length_cons, List.length_nil]; omega
end PL.W
end
section
set_option maxHeartbeats 4000000
open PL PySem PySem.Spec PyProof.Rows L2
local macro_rules | `(tactic| left) => `(tactic| (first
  | with_reducible refine ws_asg ?_ | with_reducible refine ws_asgL ?_ | with_reducible refine ws_par ?_ | with_reducible refine ws_parC ?_ | with_reducible refine ws_unp ?_ | with_reducible refine ws_dset ?_
  | with_reducible refine ws_expr ?_ | with_reducible refine ws_ret ?_ | with_reducible refine ws_ret0 ?_ | with_reducible refine ws_pass ?_ | with_reducible refine ws_brk ?_ | with_reducible refine ws_cont ?_ | with_reducible refine ws_if ?_ | with_reducible refine ws_for ?_ | with_reducible refine ws_nil ?_
  | with_reducible refine we_int ?_ | with_reducible refine we_str ?_ | with_reducible refine we_bl ?_ | with_reducible refine we_non ?_ | with_reducible refine we_gd ?_
  | ((with_reducible apply we_loc); rfl)
  | with_reducible refine we_bin ?_ | with_reducible refine we_cmp ?_ | with_reducible refine we_cmp2 ?_ | with_reducible refine we_bop ?_ | with_reducible refine wb_nil ?_ | with_reducible refine wb_cons ?_ | with_reducible refine we_not ?_ | with_reducible refine we_neg ?_ | with_reducible refine we_ite ?_
  | with_reducible refine we_tup ?_ | with_reducible refine we_lst ?_ | with_reducible refine we_lstR ?_ | with_reducible refine we_dic0 ?_ | with_reducible refine we_dic ?_ | with_reducible refine we_ix ?_ | with_reducible refine we_sl ?_ | with_reducible refine wo_no ?_ | with_reducible refine wo_so ?_
  | with_reducible refine we_bi ?_ | with_reducible refine we_isi ?_ | with_reducible refine we_call ?_ | with_reducible refine we_callK ?_ | with_reducible refine we_comp ?_ | with_reducible refine we_compR ?_ | with_reducible refine we_get2 ?_ | with_reducible refine we_app ?_ | with_reducible refine we_ext ?_ | with_reducible refine we_join ?_
  | with_reducible refine we_gget2 ?_ | with_reducible refine we_gget ?_ | with_reducible refine we_gix ?_ | with_reducible refine we_gin ?_ | with_reducible refine we_sset ?_ | with_reducible refine we_sortd ?_ | with_reducible refine we_rev ?_ | with_reducible refine we_reprL ?_ | ((with_reducible apply lfV); rfl; exact Nat.le_of_ble_eq_true rfl) | with_reducible refine wes_nil ?_ | with_reducible refine wes_cons ?_ | with_reducible refine wt_nil ?_ | with_reducible refine wt_one ?_
  | with_reducible refine wi_rng ?_ | with_reducible refine wi_rng2 ?_ | with_reducible refine wi_zip ?_ | with_reducible refine wi_enm ?_ | with_reducible refine wi_seq ?_
  | with_reducible refine then_nx ?_ | with_reducible refine then_bk ?_ | with_reducible refine then_ct ?_ | with_reducible refine then_rt ?_ | with_reducible refine qf_same ?_ | with_reducible refine qf_app ?_ | with_reducible refine qf_cons ?_ | with_reducible refine qf_consA ?_ | with_reducible refine qf_ref ?_ | with_reducible refine qf_d ?_ | with_reducible refine qf_nx ?_
  | ((with_reducible apply wk_eq); with_reducible assumption)
  | (with_reducible refine limp (fun hb => ?_) (fun hb => ?_) <;> (first | (cases hb; done) | (simp only [Bool.not_false, Bool.not_true, Bool.true_eq_false, Bool.false_eq_true, reduceCtorEq] at hb; done) | cases hb | ((try simp only [Bool.not_false, Bool.not_true] at hb); (try rw [hb]))))
  | with_reducible refine lf_add ?_ | with_reducible refine lf_sub ?_ | ((with_reducible apply lf_mod); (first | assumption | decide)) | ((with_reducible apply lf_div); (first | assumption | decide)) | with_reducible refine lf_lt ?_ | with_reducible refine lf_le ?_ | with_reducible refine lf_gt ?_ | with_reducible refine lf_ge ?_ | with_reducible refine lf_eqI ?_ | with_reducible refine lf_neI ?_ | with_reducible refine lf_eqSame ?_ | with_reducible refine lf_neSame ?_ | with_reducible refine lf_eqS ?_ | with_reducible refine lf_neS ?_
  | with_reducible refine lf_isN ?_ | with_reducible refine lf_isI ?_ | with_reducible refine lf_isnN ?_ | with_reducible refine lf_isnI ?_ | with_reducible refine lf_tb ?_ | with_reducible refine lf_tl ?_ | with_reducible refine lf_tt ?_ | with_reducible refine lf_int ?_ | with_reducible refine lf_lenL ?_ | with_reducible refine lf_lenT ?_ | ((with_reducible apply lf_lenS); assumption) | with_reducible refine lf_tupL ?_ | with_reducible refine lf_tupT ?_ | with_reducible refine lf_listL ?_ | with_reducible refine lf_listT ?_ | with_reducible refine lf_view ?_ | with_reducible refine lf_in2 ?_ | with_reducible refine lf_in3 ?_ | with_reducible refine lf_inM ?_ | with_reducible refine lf_ix0T ?_ | with_reducible refine lf_ix1T ?_ | with_reducible refine lf_ix2T ?_ | with_reducible refine lf_sl1 ?_ | with_reducible refine lf_slL ?_ | with_reducible refine lf_slT ?_
  | ((with_reducible apply lf_pow); decide) | with_reducible refine lf_mul ?_ ?_ | with_reducible refine lf_pow ?_ ?_ | ((with_reducible apply lf_addT); exact Nat.le_of_ble_eq_true rfl) | ((with_reducible apply lf_addL); exact Nat.le_of_ble_eq_true rfl) | with_reducible refine lf_addT ?_ ?_ | with_reducible refine lf_addL ?_ ?_
  | ((with_reducible apply lf2); rfl; rfl) | ((with_reducible apply lf3); rfl; exact Nat.le_of_ble_eq_true rfl) | ((with_reducible apply lf4); rfl; decide) | ((with_reducible apply lfU); rfl; rfl)
  | with_reducible refine ls_l ?_ | with_reducible refine ls_t ?_ | with_reducible refine ls_s ?_ | ((with_reducible apply ls_r); rfl) | with_reducible refine le_l ?_ | with_reducible refine le_t ?_ | with_reducible refine le_s ?_ | with_reducible refine lz_l ?_ | with_reducible refine lz_t ?_
  | ((with_reducible apply lfR); (first | decide | omega)) | ((with_reducible apply lfR2); (first | decide | omega)) | with_reducible refine lfI ?_
  | ((with_reducible apply lf); rfl) | ((with_reducible apply lfB); rfl) | ((with_reducible apply land); rfl)))
local macro_rules | `(tactic| nofun) => `(tactic| repeat' left)
local macro_rules | `(tactic| left) => `(tactic| first | with_reducible refine lf (PL.W.ext10 (Nat.le_of_ble_eq_true rfl)) ?_ | with_reducible refine lf (PL.W.ext10 (Nat.le_of_ble_eq_true rfl)) ?_)
namespace PL.W
open PySem PySem.Spec PyProof.Rows L2 PL
theorem at_b {k f : Nat} {rs : List R} {S S' : Sto} {b : Bool} (h : callN fns k f rs S = some (.d (.bool b), S')) (hb : b = true) : callN fns k f rs S = some (.d (.bool true), S') := by rw [h, hb]
abbrev RR : D := .list [.tuple (GU.map .str), .tuple [.str "old", .str "missed", .str "open"], .list [.bool true, .bool true, .bool true, .bool true, .bool true, .bool true]]
theorem rr_neat : Neat 3 20000 RR := by
  refine neat_list (k := 2) (w := 4000) (fun d hd => ?_) (by simp only [List.length_cons, List.length_nil]; omega)
  simp only [List.mem_cons, List.not_mem_nil, or_false] at hd
  rcases hd with rfl | rfl | rfl
  · refine (neat_tuple (k := 0) (w := 200) (w' := 4000) (fun d hd => ?_) (by decide)).mono (by decide) (Nat.le_refl _)
    obtain ⟨w, hw, rfl⟩ := List.mem_map.mp hd
    have : ∀ w ∈ GU, PyData.strOk w = true ∧ w.length ≤ 200 := by decide +kernel
    exact neat_str (this w hw).1 (this w hw).2
  · refine (neat_tuple (k := 0) (w := 200) (w' := 4000) (fun d hd => ?_) (by simp only [List.length_cons, List.length_nil]; omega)).mono (by decide) (Nat.le_refl _)
    simp only [List.mem_cons, List.not_mem_nil, or_false] at hd
    rcases hd with rfl | rfl | rfl <;> exact neat_str (by decide +kernel) (by decide +kernel)
  · refine (neat_list (k := 0) (w := 200) (w' := 4000) (fun d hd => ?_) (by simp only [List.length_cons, List.length_nil]; omega)).mono (by decide) (Nat.le_refl _)
    simp only [List.mem_cons, List.not_mem_nil, or_false] at hd
    rcases hd with rfl | rfl | rfl | rfl | rfl | rfl <;> exact neat_bool
theorem law_true (n : Nat) (ns : List Int) : ∃ S', callN fns (n + 11) i_law [.scr ns] [] = some (.d (.bool true), S') := by
  have e0 : callN fns (n + 10) i_law_spring [.scr ns] [] = some (.ref 0, [spO (cutL ns none (some 60)) 0 0 0]) := rfl
  have h0 : Sp [] 0 [spO (cutL ns none (some 60)) 0 0 0] := ⟨_, _, _, _, rfl, Int.le_refl _, Int.le_refl _⟩
  obtain ⟨ps, hp, S1, e1, h1⟩ := pagesS (n + 7) h0 (by decide)
  obtain ⟨cs, p, q, c, rfl, c0, c1⟩ := h1
  have main : WC fns (n + 11) i_law [.scr ns] [] fun x S' => x = .d (.bool true) := by
    refine c_law ?_
    nofun
    refine for_to (GrowI (some (.scr ns)) (some (.d (.list (ps.map .str))))) ⟨none, none, none, _, 1, rfl, ⟨_, _, _, _, rfl, c0, c1⟩, fun d hd => List.all_eq_true.mp (by decide +kernel) d hd, Nat.le_of_ble_eq_true rfl, by decide +kernel⟩ (fun d r L S h => growT (n + 7) hp _ rfl d r L S h) ?_
    rintro L' S' ⟨l4, l5, l6, xs, k, rfl, ⟨cs2, p2, q2, c2, rfl, _, _⟩, hx, hlen, _⟩
    have hm : ∀ {lk : Lk} {S : Sto} {t : D → Sto → Option (Option D × Sto)} {Q : List D → Sto → Prop}, WL lk t (xs.map id) S Q → WL lk t xs S Q := fun h => by rwa [List.map_id] at h
    have lk : lockB (some (1, xs)) [spO cs2 p2 q2 c2, .lst xs] = true := dEqs_refl xs
    nofun
    refine ⟨lk, ?_⟩
    refine hm ?_
    refine loop_filter (fun _ => false) id (line20 (by omega)) (fun d hd => ?_) ?_ lk
    · have e := t_right (n + 5) [spO cs2 p2 q2 c2, .lst xs] (hx d hd)
      refine turn_eq rfl ?_
      nofun
      refine wk_eq e ?_
      nofun
      exact ⟨rfl, rfl⟩
    · rw [show xs.filter (fun _ => false) = [] by simp]
      have g1 : callN fns (n + 10) i_is_integer [.d (.int 1)] [spO cs2 p2 q2 c2, .lst xs] = some (.d (.bool true), [spO cs2 p2 q2 c2, .lst xs]) := at_b (t_isint (n + 9) _ _) (by decide +kernel)
      have g2 : callN fns (n + 10) i_is_number [.d (.int 1)] [spO cs2 p2 q2 c2, .lst xs] = some (.d (.bool true), [spO cs2 p2 q2 c2, .lst xs]) := at_b (t_isnum (n + 8) _ _) (by decide +kernel)
      have g3 : callN fns (n + 10) i_is_page [.d (.str "a")] [spO cs2 p2 q2 c2, .lst xs] = some (.d (.bool true), [spO cs2 p2 q2 c2, .lst xs]) := at_b (t_pageD (n + 9) _ (by decide +kernel)) (by decide +kernel)
      have g4 : callN fns (n + 10) i_is_record [.d (.tuple [.str "free", .str "a"])] [spO cs2 p2 q2 c2, .lst xs] = some (.d (.bool true), [spO cs2 p2 q2 c2, .lst xs]) := at_b (t_record (n + 6) _ (by decide +kernel)) (by decide +kernel)
      have g5 : callN fns (n + 10) i_is_deed [.d (.tuple [.str "end"])] [spO cs2 p2 q2 c2, .lst xs, .lst [.bool true, .bool true, .bool true, .bool true]] = some (.d (.bool true), [spO cs2 p2 q2 c2, .lst xs, .lst [.bool true, .bool true, .bool true, .bool true]]) := at_b (t_deed (n + 6) _ (by decide +kernel)) (by decide +kernel)
      have g6 : callN fns (n + 10) i_is_rule [.d (.tuple [])] [spO cs2 p2 q2 c2, .lst xs, .lst [.bool true, .bool true, .bool true, .bool true]] = some (.d (.bool true), [spO cs2 p2 q2 c2, .lst xs, .lst [.bool true, .bool true, .bool true, .bool true]]) := at_b (t_rule (n + 8) _ (by decide +kernel)) (by decide +kernel)
      have g7 := t_lawguards (n + 9) [spO cs2 p2 q2 c2, .lst xs, .lst [.bool true, .bool true, .bool true, .bool true, .bool true, .bool true]]
      nofun
      all_goals first
        | (exfalso; rename_i hb; exact absurd hb (by decide +kernel))
        | skip
      refine wk_eq g5 ?_
      nofun
      refine lf (show gRepr RR = _ from rr_neat.repr (by decide) (by decide) []) ?_
      nofun
      refine wk_eq (t_lawguards (n + 9) _) ?_
      nofun
      refine lf_repr rr_neat (by decide) (by decide) ?_
      nofun
      exact congrArg (fun b => R.d (.bool b)) (decide_eq_true (congrArg PyData.shown rfl))
  obtain ⟨x, S', e, rfl⟩ := main
  exact ⟨S', e⟩
end PL.W
end
section
set_option maxHeartbeats 0
namespace PL.W
open PySem PySem.Spec PyProof.Rows L2 PL
theorem cks : (T.fns.zip srcs).all (fun p => ckFn T p.1 p.2) = true := by kernel_rfl
end PL.W
open PySem PySem.W PySem.Calls PyProof.Rows
theorem PySem.Challenge.cw_pagelives_k01_kinds_holds : PySem.Challenge.rw_pagelives_k01_kinds.Holds := by
  w_on; o_law
  refine HandSHeadRun.head_any (r := PL.W.Rw) (q := view PL.W.Rw.prog [PL.W.lawAt]) (H := PL.W.hk) (ob := PL.W.ob) (M := 4000) (loose := PL.W.names) (d := HandSHeadRun.topDef PL.W.Rw.prog PL.W.lawAt) (kwd := []) PL.W.ob_eq
    (by kernel_rfl) (fun s => by kernel_rfl) PL.W.hrun (by kernel_rfl) (by kernel_rfl) (by kernel_rfl) (by rfl) (by first | assumption | decide +kernel) (by decide +kernel) ⟨rfl, rfl, rfl, rfl, rfl, by decide +kernel⟩ ?hw ?hc
  case hw => w_witness2
  case hc =>
    refine PL.walk_pl (l := PySem.Challenge.rw_pagelives_k01_kinds) (n := 63) (k := 20) (i := PL.W.i_law) (T := PL.W.T) (src := PL.W.srcs) (D := PL.W.f_law) (x := "_law_script") rfl (by decide) (by kernel_rfl) ⟨rfl, by decide, by decide⟩ rfl (by kernel_rfl) rfl ?F (fun ns _ _ => PL.W.law_true 9 ns)
    intro w mg fa h Y G hmg
    obtain ⟨K, KX, c⟩ := Y
    exact ⟨K, KX, PL.txt_of KX G c PL.W.cks rfl⟩
end
