import PyProof.Rows.All
import Wide.All
import OpenK.AllK
import Wide.FinOn
import HandS.SetTxt0
import HandS.Set
import HandS.Sort
import HandS.SetFor
import HandS.Strs
import PyProof.Rows.SortStr
import HandS.Base
import HandS.Call
import HandS.List
import HandS.Comp
import HandS.Dict
import HandS.Iter
import HandS.Text
import HandS.Flow
import HandS.Words
import HandS.More
import HandS.RaiseMore
import HandS.WrittenGet
import PyProof.ReprRoads
import HandS.Wide
import HandS.IsInst
import HandS.Deep
import HandS.TupAny
import HandS.TupLe
import HandS.Conv
import KE.GoesMore
import PyProof.ListStr
import HandS.SortInts
import PyProof.FString5
import HandS.Star
import HandS.Style
import HandS.Zip
import HandS.Defaults
import HandS.EndBits
import HandS.Head0
import HandS.Head1
import HandS.Head2
import HandS.HeadEnd
import HandS.HeadHook1
import HandS.HeadHook2
import HandS.HeadHook3
import HandS.HeadHook4
import KE.KStateDown
import Lean
import PySem.Challenge.RW_pagelives_k05_whole_parts_of_logs
set_option Elab.async false
set_option linter.all false
set_option maxRecDepth 100000
section
set_option maxHeartbeats 2000000
/-! sets of texts, made of a row of texts -/
namespace PLS
open PySem PySem.Froz L2
variable {P : Program} {w : World}
/-- a set's payload: the texts ks, each once, on a table that can be walked -/
structure Tx (P : Program) (w : World) (D : SD) (ks : List Str) : Prop where
  ok : TxOk P w D ks
  ris : Ris D.2.2.place.toList
  led : w.params.followText "set-order" = true ∨ D.2.2.led = true
theorem plain_place (t : SetTable) : (if t.plain = true then { t with plain := false } else t).place = t.place ∧ (if t.plain = true then { t with plain := false } else t).led = t.led := by
  split <;> exact ⟨rfl, rfl⟩
theorem tail_walk {ep : Nat} {es : Array (Int × Value)} {t : SetTable} {d : Bool} (r : Ris t.place.toList) : Ris (tailTx ep es t d).2.2.place.toList ∧ (tailTx ep es t d).2.2.led = t.led := by
  unfold tailTx
  split
  · exact ⟨relayAll_ris _ _ _, relayAll_led _ _ _⟩
  · exact ⟨r, rfl⟩
theorem Tx.add {D : SD} {ks : List Str} {k : Str} (u : Tok) (T : Tx P w D ks) : Tx P w (addTx (hashStr w k) (.str k u) D) (k :: ks) := by
  have e := plain_place (layNew D.2.2 D.1 (hashStr w k) (.str k u)).2.1
  have r0 := layNew_ris D.2.2 D.1 (hashStr w k) (.str k u) T.ris
  have l0 := layNew_led D.2.2 D.1 (hashStr w k) (.str k u)
  have r1 : Ris (if (layNew D.2.2 D.1 (hashStr w k) (.str k u)).2.1.plain = true then { (layNew D.2.2 D.1 (hashStr w k) (.str k u)).2.1 with plain := false } else (layNew D.2.2 D.1 (hashStr w k) (.str k u)).2.1).place.toList := by
    rw [e.1]; exact r0
  obtain ⟨a, b⟩ := tail_walk (ep := D.2.1) (es := (layNew D.2.2 D.1 (hashStr w k) (.str k u)).1) (d := (layNew D.2.2 D.1 (hashStr w k) (.str k u)).2.2.1) r1
  refine ⟨add_ok u T.ok, a, T.led.imp id fun z => ?_⟩
  show (tailTx _ _ _ _).2.2.led = true
  rw [b, e.2, l0]; exact z
section
variable {A : Around} {E : Value → Shared → Prop} {s : Shared} {a : Addr} {D : SD} {ks : List Str} {k : Str} {u : Tok}
/-- a text that is there already -/
theorem add_old {Q : Bool → Shared → Prop} (ho : s.heap.get? a = some (sObj "set" D)) (T : TxOk P w D ks) (hk : k ∈ ks) (hb : ks.length < scanBound) (h : Q false s) : wpAny (model P w) A (setAddHashed a (.str k u) (hashStr w k)) Q E s := by
  obtain ⟨es, ep, t⟩ := D
  have hsz : es.size = ks.length := T.sz
  have hb0 : es.size < scanBound := by omega
  have hel : ElemsOf (strKind P w) es.toList := T.el
  have there : ∃ j, List.findIdx? (fun e => (strKind P w).is k e.2) es.toList = some j := by
    obtain ⟨e, he, hi⟩ := (T.mem k).mp hk
    cases hr : List.findIdx? (fun e => (strKind P w).is k e.2) es.toList with
    | some j => exact ⟨j, rfl⟩
    | none =>
      have := List.findIdx?_eq_none_iff.mp hr e he
      rw [hi] at this; cases this
  obtain ⟨j, hj⟩ := there
  unfold setAddHashed setAddHashedIn
  refine wpAny_holding (wpAny_bind (wpAny_setState_of ho rfl T.fit ?_))
  dsimp only
  rw [byScan_of rfl hb0 hel]
  simp only [↓reduceIte]
  unfold setAddByScan
  refine wpAny_bind (wpAny_bind (wpAny_rule ?_))
  refine wpAny_bind (wpAny_setScan_of (knd := strKind P w) (k := k) (is_str k u) ho rfl T.fit hel ?_)
  rw [hj]
  dsimp only
  exact wpAny_pure (wpAny_pure h)
theorem add_text {Q : Bool → Shared → Prop} (ho : s.heap.get? a = some (sObj "set" D)) (T : Tx P w D ks) (nd : ks.Nodup) (hb : ks.length + 1 < scanBound)
    (h : ∀ b h' D' ks', Heap.SameBut a s.heap h' → h'.get? a = some (sObj "set" D') → Tx P w D' ks' → ks'.Nodup → (∀ z, z ∈ ks' ↔ z = k ∨ z ∈ ks) → ks'.length ≤ ks.length + 1 → Q b { s with heap := h' }) : wpAny (model P w) A (setAddHashed a (.str k u) (hashStr w k)) Q E s := by
  by_cases hk : k ∈ ks
  · exact add_old ho T.ok hk (by omega) (h false s.heap D ks (Heap.SameBut.refl a s.heap) ho T nd (fun z => ⟨.inr, fun c => c.elim (fun e => e ▸ hk) id⟩) (Nat.le_succ _))
  · refine add_x ho T.ok hk hb ?_
    exact h true _ _ (k :: ks) (Heap.SameBut.update s.heap a _) (get_upd _ ho rfl) (T.add u) (List.nodup_cons.mpr ⟨hk, nd⟩) (fun z => List.mem_cons) (by rw [List.length_cons]; exact Nat.le_refl _)
end
section
variable {A : Around} {R : Result → Shared → Prop} {I : Addr} {fp wr : List Addr} {G : Array GenState → Array GenState → Prop} {n : Nat} {Pv : Nat → Value → Prop} {St : Nat → Shared → Prop}
/-- what the walk leaves: the texts of the row, each once -/
abbrev Left (P : Program) (w : World) (S : Addr) (xs : List Str) (i : Nat) (s : Shared) : Prop := ∃ D ks, s.heap.get? S = some (sObj "set" D) ∧ Tx P w D ks ∧ ks.Nodup ∧ (∀ z, z ∈ ks ↔ z ∈ xs.take i) ∧ ks.length ≤ i
theorem take_more {xs : List Str} {i : Nat} (h : i < xs.length) (z : Str) : z ∈ xs.take (i + 1) ↔ z = xs.getD i Str.empty ∨ z ∈ xs.take i := by
  rw [List.take_add_one, List.mem_append, List.getElem?_eq_getElem h, List.getD_eq_getElem?_getD, List.getElem?_eq_getElem h]
  simp only [Option.toList, List.mem_singleton, Option.getD_some]
  exact Or.comm
theorem loop_texts (W : WalksS P w A.in1 I fp wr G n Pv St) (S : Addr) (hSf : S ∉ fp) (xs : List Str) (hx : xs.length = n) (hval : ∀ i v, Pv i v → ∃ t, v = .str (xs.getD i Str.empty) t) (hb : n + 1 < scanBound) :
    ∀ (m i : Nat) (s : Shared), n - i = m → i ≤ n → St i s → Left P w S xs i s → (∀ s', Moved (S :: wr) G s s' → Left P w S xs n s' → R (.ok (.ret .none)) s') → codeAny (model P w) A (.builtin "set.update.loop" ⟨[.ref S, .ref I], []⟩) R s := by
  have hSw : S ∉ wr := fun q => hSf (W.sub _ q)
  have inc : ∀ b ∈ wr, b ∈ S :: wr := fun b q => List.mem_cons_of_mem _ q
  have keep : ∀ {s s' : Shared} {i : Nat}, Left P w S xs i s → (∀ o, s.heap.get? S = some o → s'.heap.get? S = some o) → Left P w S xs i s' := fun ⟨D, ks, ho, r⟩ k => ⟨D, ks, k _ ho, r⟩
  intro m
  induction m with
  | zero =>
    intro i s hm hi hst hL hR
    obtain rfl : i = n := by omega
    refine codeAny_builtin PyProof.Rows.F.entry_set_update_loop ?z
    case z =>
      rw [Around.under_plainId PyProof.Rows.F.plain_set_update_loop _]
      refine (show wpAny _ A.in1 (pyNext (.ref I) >>= _) _ _ s from wpAny_bind (W.done s _ _ hst fun s' hm' => (show wpAny _ A.in1 (ret Value.none) _ _ s' from wpAny_pure (hR s' (hm'.mono inc) (keep hL (hm'.heap S · hSw))))))
  | succ m ih =>
    intro i s hm hi hst hL hR
    have hlt : i < n := by omega
    refine codeAny_builtin PyProof.Rows.F.entry_set_update_loop ?z
    case z =>
      rw [Around.under_plainId PyProof.Rows.F.plain_set_update_loop _]
      refine (show wpAny _ A.in1 (pyNext (.ref I) >>= _) _ _ s from wpAny_bind (W.item i s _ _ hlt hst fun v s' hP hst' hm' => ?_))
      obtain ⟨t, rfl⟩ := hval i v hP
      obtain ⟨D, ks, ho, T, nd, mem, len⟩ := keep hL (hm'.heap S · hSw)
      refine (show wpAny _ A.in1 (holding [Value.str (xs.getD i Str.empty) t] (setAdd S (.str (xs.getD i Str.empty) t)) >>= _) _ _ s' from wpAny_bind (wpAny_holding ?_))
      unfold setAdd
      refine wpAny_holding (wpAny_bind ((strKind P w).pyHash (k := xs.getD i Str.empty) (is_str _ _) ?_))
      refine add_text (s := { s' with toks := s'.toks + 1 }) ho T nd (by omega) fun b h' D' ks' sb ho' T' nd' mem' len' => ?_
      have L' : Left P w S xs (i + 1) { s' with heap := h', toks := s'.toks + 1 } := ⟨D', ks', ho', T', nd', fun z => (mem' z).trans ((or_congr_right (mem z)).trans (take_more (by omega) z).symm), by omega⟩
      refine wpAny_pure ⟨plainId_quiet PyProof.Rows.F.plain_set_update_loop _, ih (i + 1) _ (by omega) hlt (W.frame _ s' _ _ hst' (Nat.le_succ _) fun b hb' o e => ?_) L' fun s'' hm'' hL'' => ?_⟩
      · rw [sb.2 b fun q : b = S => hSf (q ▸ hb')]; exact e
      · refine hR s'' (Moved.trans W.gtrans ((hm'.mono inc).then_heap (Nat.le_succ _) fun b o hb' e => ?_) hm'') hL''
        rw [sb.2 b fun q : b = S => hb' (q ▸ List.mem_cons_self)]; exact e
end
end PLS
end
section
set_option maxHeartbeats 3200000
namespace PLS
open PySem PySem.Froz L2
variable {P : Program} {w : World} {A : Around} {E : Value → Shared → Prop} {s : Shared}
abbrev fresh (w : World) : Obj := { cls := .type "set", dict := none, data := .set #[] 0 (.fresh 0 0 (!w.params.followText "set-order")) }
theorem Tx.fresh : Tx P w (#[], 0, .fresh 0 0 (!w.params.followText "set-order")) [] := by
  refine ⟨TxOk.nil (by generalize (!w.params.followText "set-order") = b; cases b <;> decide +kernel), ?_, ?_⟩
  · exact List.Pairwise.nil
  · cases h : w.params.followText "set-order" with
    | true => exact .inl rfl
    | false => exact .inr rfl
theorem set_list {l : Addr} {items : Array Value} {xs : List Str} {Q : Value → Shared → Prop} (hh : A.handled = none) (hl : s.heap.IsList l items) (hi : PyProof.Rows.StrsAre items.toList xs) (hb : xs.length + 1 < scanBound)
    (h : ∀ (h' : Heap) (tk : Nat) (D : SD) (ks : List Str), h'.get? s.heap.objs.size = some (sObj "set" D) → Tx P w D ks → ks.Nodup → (∀ z, z ∈ ks ↔ z ∈ xs) → ks.length ≤ xs.length → (∀ b o, s.heap.get? b = some o → h'.get? b = some o) → Q (.ref s.heap.objs.size) { s with heap := h', toks := tk }) :
    wpAny (model P w) A (call (.type "set") [.ref l]) Q E s := by
  have sz : xs.length = items.size := by
    have q := PyProof.Rows.StrsAre.length hi
    rw [Array.length_toList] at q; exact q.symm
  obtain ⟨c, tl, hmro⟩ := F.called_set.mro
  have g1 := F.called_set.made; have g2 := F.called_set.sub; have g3 := F.called_set.notType; have g4 := F.called_set.canCreate; have g5 := F.typeCall_set_1 (.ref l)
  refine wpAny_call (codeAny_of_tree (show wpAny _ _ (callAny (.type "set") _) _ _ _ from wpAny_pure ⟨Code.quiet_builtin _ (by decide +kernel), codeAny_builtin F.entry_type_call ?_⟩))
  rw [Around.under_plain (weight_type_call_type "set" [.ref l] []) rfl]
  repeat any_goals first | assumption | wp_step
  refine codeAny_mono (code_set_led1 (.ref l) (E := E) (Q₁ := fun obj s₁ => obj = .ref s.heap.objs.size ∧ s₁ = { s with heap := s.heap.push (fresh w) }) ⟨rfl, rfl⟩) fun r s₁ hr => ?_
  rcases r with e | fl
  · exact hr
  cases fl <;> first | exact hr.elim | skip
  obtain ⟨rfl, rfl⟩ := hr
  have at0 : (s.heap.push (fresh w)).get? s.heap.objs.size = some (fresh w) := Heap.get?_push_size _ rfl
  have ty0 : Shared.TypeIs { s with heap := s.heap.push (fresh w) } (.ref s.heap.objs.size) "set" := ⟨_, at0, rfl⟩
  have g6 := F.called_set.init.lookup; have g7 := F.called_set.init.bind (.ref s.heap.objs.size)
  repeat any_goals first | assumption | wp_step
  refine codeAny_mono (codeAny_call_builtin (R := wants (fun r s₂ => r = .none ∧ ∃ h' tk, s₂ = { s with heap := h', toks := tk } ∧ (∃ D ks, h'.get? s.heap.objs.size = some (sObj "set" D) ∧ Tx P w D ks ∧ ks.Nodup ∧ (∀ z, z ∈ ks ↔ z ∈ xs) ∧ ks.length ≤ xs.length) ∧ ∀ b o, s.heap.get? b = some o → h'.get? b = some o) E) F.called_set.init.plain F.entry_set_init (check_set_init_1 ty0 ?_)) fun r₂ s₂ hr₂ => ?_
  · obtain ⟨⟨ocls, odict, odata, oslots⟩, hol, hcl, nl, hdl⟩ := hl
    simp only at hcl hdl
    subst hcl; subst hdl
    have q1 := F.sub_list_set; have q2 := F.sub_list_frozenset
    have q3 : (Value.type "list" == Value.type "dict") = false := by decide
    have q4 : (s.heap.push (fresh w)).get? l = some { cls := .type "list", dict := odict, data := .seq items nl, slots := oslots } := Heap.get?_push_of_some _ hol
    have q5 : (s.heap.push (fresh w)).IsList l items := ⟨_, q4, rfl, nl, rfl⟩
    unfold Builtin.«set.__init__» noKeywords Builtin.Frozenset.updateFrom
    generalize hPI : pyIter = PI
    wp_walk
    subst hPI
    refine wpAny_pyIter_list q5 (wpAny_bind (wpAny_runValue ?_))
    have low : l < s.heap.objs.size := Heap.lt_size hol
    have ne1 : l ≠ (s.heap.push (fresh w)).objs.size := by
      rw [Heap.size_push]; exact Nat.ne_of_lt (Nat.lt_succ_of_lt low)
    have out : s.heap.objs.size ∉ [(s.heap.push (fresh w)).objs.size, l] := by
      rw [Heap.size_push]; intro z
      rcases List.mem_cons.mp z with z | z
      · exact absurd z (Nat.ne_of_lt (Nat.lt_succ_self _))
      · exact absurd (List.mem_singleton.mp z) (Nat.ne_of_gt low)
    refine loop_texts ((Walks.list (by simp [hh]) _ l ne1 items).toS) s.heap.objs.size out xs sz (fun i v hv => SS.strs_at hi i v (by rw [Array.getElem?_toList]; exact hv)) (by rw [← sz]; exact hb) (items.size - 0) 0 _ (by omega) (Nat.zero_le _)
      ⟨⟨_, Heap.get?_push_size _ rfl, rfl, rfl⟩, q5.push _⟩ ?_ ?_
    · exact ⟨(#[], 0, .fresh 0 0 (!w.params.followText "set-order")), [], Heap.get?_push_of_some _ at0, Tx.fresh, List.nodup_nil, fun z => by simp, Nat.le_refl _⟩
    · intro s' hm ⟨D, ks, ho, T, nd, mem, len⟩
      obtain ⟨h', g', d', tk', os'⟩ := s'
      obtain rfl : g' = s.gens := hm.gens
      obtain rfl : d' = s.drawn := hm.drawn
      obtain rfl : os' = s.os := hm.os
      refine (show wpAny _ _ _ _ _ _ from wpAny_pure (show wpAny _ _ (ret Value.none) _ _ _ from wpAny_pure ⟨rfl, h', tk', rfl, ⟨D, ks, ho, T, nd, fun z => by rw [mem z, ← sz, List.take_length], by omega⟩, fun b o e => ?_⟩))
      have lt : b < s.heap.objs.size := Heap.lt_size e
      refine hm.heap b o ?_ (Heap.get?_push_of_some _ (Heap.get?_push_of_some _ e))
      rw [Heap.size_push]; intro z
      rcases List.mem_cons.mp z with z | z
      · exact absurd z (Nat.ne_of_lt lt)
      · exact absurd (List.mem_singleton.mp z) (Nat.ne_of_lt (Nat.lt_succ_of_lt lt))
  · rcases r₂ with e | fl₂
    · exact hr₂
    cases fl₂ <;> first | exact hr₂.elim | skip
    obtain ⟨rfl, h', tk, rfl, ⟨D, ks, ho, T, nd, mem, len⟩, hk⟩ := hr₂
    repeat any_goals first | assumption | wp_step
    exact h _ _ D ks ho T nd mem len hk
theorem set_tuple {l : Addr} {items : Array Value} {xs : List Str} {Q : Value → Shared → Prop} (hh : A.handled = none) (hl : s.heap.IsTuple l items) (hi : PyProof.Rows.StrsAre items.toList xs) (hb : xs.length + 1 < scanBound)
    (h : ∀ (h' : Heap) (tk : Nat) (D : SD) (ks : List Str), h'.get? s.heap.objs.size = some (sObj "set" D) → Tx P w D ks → ks.Nodup → (∀ z, z ∈ ks ↔ z ∈ xs) → ks.length ≤ xs.length → (∀ b o, s.heap.get? b = some o → h'.get? b = some o) → Q (.ref s.heap.objs.size) { s with heap := h', toks := tk }) :
    wpAny (model P w) A (call (.type "set") [.ref l]) Q E s := by
  have sz : xs.length = items.size := by
    have q := PyProof.Rows.StrsAre.length hi
    rw [Array.length_toList] at q; exact q.symm
  obtain ⟨c, tl, hmro⟩ := F.called_set.mro
  have g1 := F.called_set.made; have g2 := F.called_set.sub; have g3 := F.called_set.notType; have g4 := F.called_set.canCreate; have g5 := F.typeCall_set_1 (.ref l)
  refine wpAny_call (codeAny_of_tree (show wpAny _ _ (callAny (.type "set") _) _ _ _ from wpAny_pure ⟨Code.quiet_builtin _ (by decide +kernel), codeAny_builtin F.entry_type_call ?_⟩))
  rw [Around.under_plain (weight_type_call_type "set" [.ref l] []) rfl]
  repeat any_goals first | assumption | wp_step
  refine codeAny_mono (code_set_led1 (.ref l) (E := E) (Q₁ := fun obj s₁ => obj = .ref s.heap.objs.size ∧ s₁ = { s with heap := s.heap.push (fresh w) }) ⟨rfl, rfl⟩) fun r s₁ hr => ?_
  rcases r with e | fl
  · exact hr
  cases fl <;> first | exact hr.elim | skip
  obtain ⟨rfl, rfl⟩ := hr
  have at0 : (s.heap.push (fresh w)).get? s.heap.objs.size = some (fresh w) := Heap.get?_push_size _ rfl
  have ty0 : Shared.TypeIs { s with heap := s.heap.push (fresh w) } (.ref s.heap.objs.size) "set" := ⟨_, at0, rfl⟩
  have g6 := F.called_set.init.lookup; have g7 := F.called_set.init.bind (.ref s.heap.objs.size)
  repeat any_goals first | assumption | wp_step
  refine codeAny_mono (codeAny_call_builtin (R := wants (fun r s₂ => r = .none ∧ ∃ h' tk, s₂ = { s with heap := h', toks := tk } ∧ (∃ D ks, h'.get? s.heap.objs.size = some (sObj "set" D) ∧ Tx P w D ks ∧ ks.Nodup ∧ (∀ z, z ∈ ks ↔ z ∈ xs) ∧ ks.length ≤ xs.length) ∧ ∀ b o, s.heap.get? b = some o → h'.get? b = some o) E) F.called_set.init.plain F.entry_set_init (check_set_init_1 ty0 ?_)) fun r₂ s₂ hr₂ => ?_
  · obtain ⟨⟨ocls, odict, odata, oslots⟩, hol, hcl, nl, hdl⟩ := hl
    simp only at hcl hdl
    subst hcl; subst hdl
    have q1 := F.sub_tuple_set; have q2 := F.sub_tuple_frozenset
    have q3 : (Value.type "tuple" == Value.type "dict") = false := by decide
    have q4 : (s.heap.push (fresh w)).get? l = some { cls := .type "tuple", dict := odict, data := .seq items nl, slots := oslots } := Heap.get?_push_of_some _ hol
    have q5 : (s.heap.push (fresh w)).IsTuple l items := ⟨_, q4, rfl, nl, rfl⟩
    unfold Builtin.«set.__init__» noKeywords Builtin.Frozenset.updateFrom
    generalize hPI : pyIter = PI
    wp_walk
    subst hPI
    refine wpAny_pyIter_tuple q5 (wpAny_bind (wpAny_runValue ?_))
    have low : l < s.heap.objs.size := Heap.lt_size hol
    have ne1 : l ≠ (s.heap.push (fresh w)).objs.size := by
      rw [Heap.size_push]; exact Nat.ne_of_lt (Nat.lt_succ_of_lt low)
    have out : s.heap.objs.size ∉ [(s.heap.push (fresh w)).objs.size, l] := by
      rw [Heap.size_push]; intro z
      rcases List.mem_cons.mp z with z | z
      · exact absurd z (Nat.ne_of_lt (Nat.lt_succ_self _))
      · exact absurd (List.mem_singleton.mp z) (Nat.ne_of_gt low)
    refine loop_texts ((Walks.tuple (by simp [hh]) _ l ne1 items).toS) s.heap.objs.size out xs sz (fun i v hv => SS.strs_at hi i v (by rw [Array.getElem?_toList]; exact hv)) (by rw [← sz]; exact hb) (items.size - 0) 0 _ (by omega) (Nat.zero_le _)
      ⟨⟨_, Heap.get?_push_size _ rfl, rfl, rfl⟩, q5.push _⟩ ?_ ?_
    · exact ⟨(#[], 0, .fresh 0 0 (!w.params.followText "set-order")), [], Heap.get?_push_of_some _ at0, Tx.fresh, List.nodup_nil, fun z => by simp, Nat.le_refl _⟩
    · intro s' hm ⟨D, ks, ho, T, nd, mem, len⟩
      obtain ⟨h', g', d', tk', os'⟩ := s'
      obtain rfl : g' = s.gens := hm.gens
      obtain rfl : d' = s.drawn := hm.drawn
      obtain rfl : os' = s.os := hm.os
      refine (show wpAny _ _ _ _ _ _ from wpAny_pure (show wpAny _ _ (ret Value.none) _ _ _ from wpAny_pure ⟨rfl, h', tk', rfl, ⟨D, ks, ho, T, nd, fun z => by rw [mem z, ← sz, List.take_length], by omega⟩, fun b o e => ?_⟩))
      have lt : b < s.heap.objs.size := Heap.lt_size e
      refine hm.heap b o ?_ (Heap.get?_push_of_some _ (Heap.get?_push_of_some _ e))
      rw [Heap.size_push]; intro z
      rcases List.mem_cons.mp z with z | z
      · exact absurd z (Nat.ne_of_lt lt)
      · exact absurd (List.mem_singleton.mp z) (Nat.ne_of_lt (Nat.lt_succ_of_lt lt))
  · rcases r₂ with e | fl₂
    · exact hr₂
    cases fl₂ <;> first | exact hr₂.elim | skip
    obtain ⟨rfl, h', tk, rfl, ⟨D, ks, ho, T, nd, mem, len⟩, hk⟩ := hr₂
    repeat any_goals first | assumption | wp_step
    exact h _ _ D ks ho T nd mem len hk
end PLS
end
section
set_option maxHeartbeats 3200000
namespace PLS
open PySem PySem.Froz L2 PyProof.Rows PySem.Spec
variable {P : Program} {w : World} {A : Around} {E : Value → Shared → Prop} {s : Shared}
theorem perm_of {α : Type} [DecidableEq α] : ∀ (ks m : List α), ks.Nodup → (∀ z ∈ ks, z ∈ m) → m.length ≤ ks.length → m.Perm ks
  | [], m, _, _, h => by
    have : m = [] := List.length_eq_zero_iff.mp (by simpa using h)
    subst this
    exact List.Perm.refl _
  | k :: r, m, nd, h, hl => by
    obtain ⟨n1, n2⟩ := List.nodup_cons.mp nd
    obtain ⟨m1, m2, rfl⟩ := List.append_of_mem (h k List.mem_cons_self)
    rw [List.length_append, List.length_cons, List.length_cons] at hl
    have ih := perm_of r (m1 ++ m2) n2 (fun z hz => by
      have := h z (List.mem_cons_of_mem _ hz)
      rcases List.mem_append.mp this with q | q
      · exact List.mem_append_left _ q
      · rcases List.mem_cons.mp q with q | q
        · exact absurd (q ▸ hz) n1
        · exact List.mem_append_right _ q) (by rw [List.length_append]; omega)
    exact List.perm_middle.trans (ih.cons k)
def txt (v : Value) : Str := match v with
  | .str x _ => x
  | _ => Str.empty
theorem strs_of : ∀ l : List Value, (∀ v ∈ l, ∃ k t, v = Value.str k t) → StrsAre l (l.map txt)
  | [], _ => .nil
  | v :: l, h => by
    obtain ⟨k, t, rfl⟩ := h v List.mem_cons_self
    exact .cons k t (strs_of l fun u hu => h u (List.mem_cons_of_mem _ hu))
/-- sorted(a set of texts) -/
theorem sorted_texts {a : Addr} {D : SD} {ks : List Str} {Q : Value → Shared → Prop} (ho : s.heap.get? a = some (sObj "set" D)) (T : Tx P w D ks) (nd : ks.Nodup) (hh : A.handled = none) (h64 : ks.length < 64)
    (hQ : ∀ (s' : Shared) (p : Addr) (out : Array Value) (c : Nat) (ys : List Str), (∀ b o, s.heap.get? b = some o → s'.heap.get? b = some o) → s'.gens = s.gens → s'.os = s.os → s.heap.objs.size ≤ p → s'.heap.get? p = some (seqObj "list" out c) → StrsAre out.toList ys → ys.Perm ks → sortedS ys = true → Q (.ref p) s') :
    wpAny (model P w) A (call (.builtin "sorted") [.ref a]) Q E s := by
  have hsz : D.1.size = ks.length := T.ok.sz
  have kind : ∀ e ∈ D.1.toList, ∃ k t, e.2 = Value.str k t := fun e he => by
    obtain ⟨⟨k, hk, _⟩, _⟩ := T.ok.el e he
    have hk : Value.isStrOf k e.2 = true := hk
    cases q : e.2 <;> first | (rw [q] at hk; simp [Value.isStrOf] at hk; done) | exact ⟨_, _, rfl⟩
  have pk : (D.1.toList.map fun e => txt e.2).Perm ks := by
    refine perm_of ks _ nd (fun z hz => ?_) (by rw [List.length_map, Array.length_toList, hsz]; exact Nat.le_refl _)
    obtain ⟨e, he, hi⟩ := (T.ok.mem z).mp hz
    refine List.mem_map.mpr ⟨e, he, ?_⟩
    obtain ⟨k, t, q⟩ := kind e he
    have hi : Value.isStrOf z e.2 = true := hi
    rw [q] at hi ⊢
    simpa [Value.isStrOf, txt] using hi
  refine Calls.call_function_entry kind_sorted plain_sorted entry_sorted (args_sorted1 _) ?_
  unfold Builtin.«sorted»
  refine wpAny_bind (m := checkCount "sorted" 1 1 _) (wpAny_pure (wpAny_bind (collect_set (A := A.in1) (es := D.1) (ep := D.2.1) (t := D.2.2) hh ⟨_, ho, rfl, rfl⟩ T.ok.fit (by rw [hsz]; unfold scanBound; omega) T.ris T.led fun s1 vs k1 hz g1 o1 pm => ?_)))
  have vl : vs.length = ks.length := by rw [pm.length_eq, List.length_map, Array.length_toList, hsz]
  have hS : StrsAre vs (vs.map txt) := strs_of vs fun v hv => by
    obtain ⟨e, he, q⟩ := List.mem_map.mp (pm.mem_iff.mp hv)
    obtain ⟨k, t, r⟩ := kind e he
    exact ⟨k, t, q ▸ r⟩
  have pv : (vs.map txt).Perm ks := by
    have q := pm.map txt
    rw [List.map_map] at q
    exact q.trans pk
  refine wpAny_bind (wpAny_newList ?_ (by rw [vl, sizeLine_eq]; omega))
  have hoL : (s1.heap.push (seqObj "list" vs.toArray 0)).get? s1.heap.objs.size = some (seqObj "list" vs.toArray 0) := Heap.get?_push_size _ rfl
  refine wpAny_bind (wpAny_holding (wpAny_call_entry slot_list_sort ⟨_, hoL, rfl⟩ entry_list_sort (list_sort_treeK strKind_oneLt hoL hS.keysOf (fun v₁ v₂ rest e => keyKind_strs (by rw [← e]; exact hS)) (by rw [vl]; exact h64) fun st' a1 a2 => ⟨_, rfl, ?_⟩) (args_list_sort _)))
  obtain ⟨ys, b1, b2, b3⟩ := sorted_out_str hS a1 a2
  obtain ⟨c, hc⟩ := sortedHeap_at (vs := vs) (out := (arrOf st').map (·.2)) hoL
  refine wpAny_pure ⟨_, rfl, hQ _ s1.heap.objs.size _ c ys (fun b u e => ?_) g1 o1 hz hc b1 (b2.trans pv) b3⟩
  have lt := Heap.lt_size (k1 b u e)
  exact (sortedHeap_old (Nat.ne_of_lt lt) (by rw [size_push']; exact Nat.lt_succ_of_lt lt)).trans (Heap.get?_push_of_some _ (k1 b u e))
end PLS
end
section
set_option maxHeartbeats 3200000
/-! sets of whole numbers, made of a row of whole numbers -/
namespace PLI
open PySem PySem.Froz L2
variable {P : Program} {w : World}
section
variable {A : Around} {R : Result → Shared → Prop} {I : Addr} {fp wr : List Addr} {G : Array GenState → Array GenState → Prop} {n : Nat} {Pv : Nat → Value → Prop} {St : Nat → Shared → Prop}
/-- what the walk leaves: the numbers of the row, each once -/
abbrev LeftI (w : World) (S : Addr) (xs : List Int) (i : Nat) (s : Shared) : Prop := ∃ m, SetR w s.heap S (fun k => decide (k ∈ xs.take i)) m ∧ m ≤ i
theorem take_moreI {xs : List Int} {i : Nat} (h : i < xs.length) (z : Int) : z ∈ xs.take (i + 1) ↔ z ∈ xs.take i ∨ z = xs.getD i 0 := by
  rw [List.take_add_one, List.mem_append, List.getElem?_eq_getElem h, List.getD_eq_getElem?_getD, List.getElem?_eq_getElem h]
  simp only [Option.toList, List.mem_singleton, Option.getD_some]
theorem loop_ints (W : WalksS P w A.in1 I fp wr G n Pv St) (S : Addr) (hSf : S ∉ fp) (xs : List Int) (hx : xs.length = n) (hval : ∀ i v, Pv i v → ∃ t, v = .int (xs.getD i 0) t) (hb : n + 1 < scanBound) :
    ∀ (m i : Nat) (s : Shared), n - i = m → i ≤ n → St i s → LeftI w S xs i s → (∀ s', Moved (S :: wr) G s s' → LeftI w S xs n s' → R (.ok (.ret .none)) s') → codeAny (model P w) A (.builtin "set.update.loop" ⟨[.ref S, .ref I], []⟩) R s := by
  have hSw : S ∉ wr := fun q => hSf (W.sub _ q)
  have inc : ∀ b ∈ wr, b ∈ S :: wr := fun b q => List.mem_cons_of_mem _ q
  have keep : ∀ {s s' : Shared} {i : Nat}, LeftI w S xs i s → (∀ o, s.heap.get? S = some o → s'.heap.get? S = some o) → LeftI w S xs i s' := fun ⟨m, R, l⟩ k => ⟨m, R.at k, l⟩
  intro m
  induction m with
  | zero =>
    intro i s hm hi hst hL hR
    obtain rfl : i = n := by omega
    refine codeAny_builtin PyProof.Rows.F.entry_set_update_loop ?z
    case z =>
      rw [Around.under_plainId PyProof.Rows.F.plain_set_update_loop _]
      exact (show wpAny _ A.in1 (pyNext (.ref I) >>= _) _ _ s from wpAny_bind (W.done s _ _ hst fun s' hm' => (show wpAny _ A.in1 (ret Value.none) _ _ s' from wpAny_pure (hR s' (hm'.mono inc) (keep hL (hm'.heap S · hSw))))))
  | succ m ih =>
    intro i s hm hi hst hL hR
    have hlt : i < n := by omega
    refine codeAny_builtin PyProof.Rows.F.entry_set_update_loop ?z
    case z =>
      rw [Around.under_plainId PyProof.Rows.F.plain_set_update_loop _]
      refine (show wpAny _ A.in1 (pyNext (.ref I) >>= _) _ _ s from wpAny_bind (W.item i s _ _ hlt hst fun v s' hP hst' hm' => ?_))
      obtain ⟨t, rfl⟩ := hval i v hP
      obtain ⟨c, R, lc⟩ := keep hL (hm'.heap S · hSw)
      refine (show wpAny _ A.in1 (holding [Value.int (xs.getD i 0) t] (setAdd S (.int (xs.getD i 0) t)) >>= _) _ _ s' from wpAny_bind (wpAny_holding ?_))
      unfold setAdd
      refine wpAny_holding (wpAny_bind ((intKind P w).pyHash (k := xs.getD i 0) (intKind_is P w _ _) ?_))
      refine setR_add_hashed (s := { s' with toks := s'.toks + 1 }) R (by omega) fun h' sb R' => ?_
      have L' : LeftI w S xs (i + 1) { s' with heap := h', toks := s'.toks + 1 } := ⟨_, R'.congr fun k => by
        rw [← Bool.decide_or]
        exact decide_eq_decide.mpr (take_moreI (by omega) k), by split <;> omega⟩
      refine wpAny_pure ⟨plainId_quiet PyProof.Rows.F.plain_set_update_loop _, ih (i + 1) _ (by omega) hlt (W.frame _ s' _ _ hst' (Nat.le_succ _) fun b hb' o e => ?_) L' fun s'' hm'' hL'' => ?_⟩
      · rw [sb.2 b fun q : b = S => hSf (q ▸ hb')]; exact e
      · refine hR s'' (Moved.trans W.gtrans ((hm'.mono inc).then_heap (Nat.le_succ _) fun b o hb' e => ?_) hm'') hL''
        rw [sb.2 b fun q : b = S => hb' (q ▸ List.mem_cons_self)]; exact e
end
end PLI
end
section
set_option maxHeartbeats 3200000
namespace PLI
open PySem PySem.Froz L2
open PyProof.Rows (IntsAre)
variable {P : Program} {w : World} {A : Around} {E : Value → Shared → Prop} {s : Shared}
theorem ints_at : ∀ {us : List Value} {ns : List Int}, IntsAre us ns → ∀ (i : Nat) (v : Value), us[i]? = some v → ∃ t, v = .int (ns.getD i 0) t
  | _, _, .nil, i, v, h => by simp at h
  | _, _, .cons n t r, 0, v, h => by
    simp only [List.getElem?_cons_zero, Option.some.injEq] at h
    exact ⟨t, h.symm⟩
  | _, _, .cons n t r, i + 1, v, h => ints_at r i v (by simpa using h)
theorem set_listI {l : Addr} {items : Array Value} {xs : List Int} {Q : Value → Shared → Prop} (hh : A.handled = none) (hl : s.heap.IsList l items) (hi : IntsAre items.toList xs) (hb : xs.length + 1 < scanBound)
    (h : ∀ (h' : Heap) (tk : Nat) (m : Nat), SetR w h' s.heap.objs.size (fun k => decide (k ∈ xs)) m → m ≤ xs.length → (∀ b o, s.heap.get? b = some o → h'.get? b = some o) → Q (.ref s.heap.objs.size) { s with heap := h', toks := tk }) :
    wpAny (model P w) A (call (.type "set") [.ref l]) Q E s := by
  have sz : xs.length = items.size := by
    have q := hi.length
    rw [Array.length_toList] at q; omega
  obtain ⟨c, tl, hmro⟩ := F.called_set.mro
  have g1 := F.called_set.made; have g2 := F.called_set.sub; have g3 := F.called_set.notType; have g4 := F.called_set.canCreate; have g5 := F.typeCall_set_1 (.ref l)
  refine wpAny_call (codeAny_of_tree (show wpAny _ _ (callAny (.type "set") _) _ _ _ from wpAny_pure ⟨Code.quiet_builtin _ (by decide +kernel), codeAny_builtin F.entry_type_call ?_⟩))
  rw [Around.under_plain (weight_type_call_type "set" [.ref l] []) rfl]
  repeat any_goals first | assumption | wp_step
  refine codeAny_mono (code_set_led1 (.ref l) (E := E) (Q₁ := fun obj s₁ => obj = .ref s.heap.objs.size ∧ s₁ = { s with heap := s.heap.push (PLS.fresh w) }) ⟨rfl, rfl⟩) fun r s₁ hr => ?_
  rcases r with e | fl
  · exact hr
  cases fl <;> first | exact hr.elim | skip
  obtain ⟨rfl, rfl⟩ := hr
  have at0 : (s.heap.push (PLS.fresh w)).get? s.heap.objs.size = some (PLS.fresh w) := Heap.get?_push_size _ rfl
  have ty0 : Shared.TypeIs { s with heap := s.heap.push (PLS.fresh w) } (.ref s.heap.objs.size) "set" := ⟨_, at0, rfl⟩
  have g6 := F.called_set.init.lookup; have g7 := F.called_set.init.bind (.ref s.heap.objs.size)
  repeat any_goals first | assumption | wp_step
  refine codeAny_mono (codeAny_call_builtin (R := wants (fun r s₂ => r = .none ∧ ∃ h' tk, s₂ = { s with heap := h', toks := tk } ∧ (∃ m, SetR w h' s.heap.objs.size (fun k => decide (k ∈ xs)) m ∧ m ≤ xs.length) ∧ ∀ b o, s.heap.get? b = some o → h'.get? b = some o) E) F.called_set.init.plain F.entry_set_init (check_set_init_1 ty0 ?_)) fun r₂ s₂ hr₂ => ?_
  · obtain ⟨⟨ocls, odict, odata, oslots⟩, hol, hcl, nl, hdl⟩ := hl
    simp only at hcl hdl
    subst hcl; subst hdl
    have q1 := F.sub_list_set; have q2 := F.sub_list_frozenset
    have q3 : (Value.type "list" == Value.type "dict") = false := by decide
    have q4 : (s.heap.push (PLS.fresh w)).get? l = some { cls := .type "list", dict := odict, data := .seq items nl, slots := oslots } := Heap.get?_push_of_some _ hol
    have q5 : (s.heap.push (PLS.fresh w)).IsList l items := ⟨_, q4, rfl, nl, rfl⟩
    unfold Builtin.«set.__init__» noKeywords Builtin.Frozenset.updateFrom
    generalize hPI : pyIter = PI
    wp_walk
    subst hPI
    refine wpAny_pyIter_list q5 (wpAny_bind (wpAny_runValue ?_))
    have low : l < s.heap.objs.size := Heap.lt_size hol
    have ne1 : l ≠ (s.heap.push (PLS.fresh w)).objs.size := by
      rw [Heap.size_push]; exact Nat.ne_of_lt (Nat.lt_succ_of_lt low)
    have out : s.heap.objs.size ∉ [(s.heap.push (PLS.fresh w)).objs.size, l] := by
      rw [Heap.size_push]; intro z
      rcases List.mem_cons.mp z with z | z
      · exact absurd z (Nat.ne_of_lt (Nat.lt_succ_self _))
      · exact absurd (List.mem_singleton.mp z) (Nat.ne_of_gt low)
    refine PLI.loop_ints ((Walks.list (by simp [hh]) _ l ne1 items).toS) s.heap.objs.size out xs sz (fun i v hv => ints_at hi i v (by rw [Array.getElem?_toList]; exact hv)) (by rw [← sz]; exact hb) (items.size - 0) 0 _ (by omega) (Nat.zero_le _)
      ⟨⟨_, Heap.get?_push_size _ rfl, rfl, rfl⟩, q5.push _⟩ ?_ ?_
    · exact ⟨0, ((setR_fresh (h := s.heap) w).at fun o e => Heap.get?_push_of_some _ e).congr fun k => by simp, Nat.le_refl _⟩
    · intro s' hm ⟨m, R, len⟩
      obtain ⟨h', g', d', tk', os'⟩ := s'
      obtain rfl : g' = s.gens := hm.gens
      obtain rfl : d' = s.drawn := hm.drawn
      obtain rfl : os' = s.os := hm.os
      refine (show wpAny _ _ _ _ _ _ from wpAny_pure (show wpAny _ _ (ret Value.none) _ _ _ from wpAny_pure ⟨rfl, h', tk', rfl, ⟨m, R.congr fun k => by rw [← sz, List.take_length], by omega⟩, fun b o e => ?_⟩))
      have lt : b < s.heap.objs.size := Heap.lt_size e
      refine hm.heap b o ?_ (Heap.get?_push_of_some _ (Heap.get?_push_of_some _ e))
      rw [Heap.size_push]; intro z
      rcases List.mem_cons.mp z with z | z
      · exact absurd z (Nat.ne_of_lt lt)
      · exact absurd (List.mem_singleton.mp z) (Nat.ne_of_lt (Nat.lt_succ_of_lt lt))
  · rcases r₂ with e | fl₂
    · exact hr₂
    cases fl₂ <;> first | exact hr₂.elim | skip
    obtain ⟨rfl, h', tk, rfl, ⟨m, R, len⟩, hk⟩ := hr₂
    repeat any_goals first | assumption | wp_step
    exact h _ _ m R len hk
theorem set_tupleI {l : Addr} {items : Array Value} {xs : List Int} {Q : Value → Shared → Prop} (hh : A.handled = none) (hl : s.heap.IsTuple l items) (hi : IntsAre items.toList xs) (hb : xs.length + 1 < scanBound)
    (h : ∀ (h' : Heap) (tk : Nat) (m : Nat), SetR w h' s.heap.objs.size (fun k => decide (k ∈ xs)) m → m ≤ xs.length → (∀ b o, s.heap.get? b = some o → h'.get? b = some o) → Q (.ref s.heap.objs.size) { s with heap := h', toks := tk }) :
    wpAny (model P w) A (call (.type "set") [.ref l]) Q E s := by
  have sz : xs.length = items.size := by
    have q := hi.length
    rw [Array.length_toList] at q; omega
  obtain ⟨c, tl, hmro⟩ := F.called_set.mro
  have g1 := F.called_set.made; have g2 := F.called_set.sub; have g3 := F.called_set.notType; have g4 := F.called_set.canCreate; have g5 := F.typeCall_set_1 (.ref l)
  refine wpAny_call (codeAny_of_tree (show wpAny _ _ (callAny (.type "set") _) _ _ _ from wpAny_pure ⟨Code.quiet_builtin _ (by decide +kernel), codeAny_builtin F.entry_type_call ?_⟩))
  rw [Around.under_plain (weight_type_call_type "set" [.ref l] []) rfl]
  repeat any_goals first | assumption | wp_step
  refine codeAny_mono (code_set_led1 (.ref l) (E := E) (Q₁ := fun obj s₁ => obj = .ref s.heap.objs.size ∧ s₁ = { s with heap := s.heap.push (PLS.fresh w) }) ⟨rfl, rfl⟩) fun r s₁ hr => ?_
  rcases r with e | fl
  · exact hr
  cases fl <;> first | exact hr.elim | skip
  obtain ⟨rfl, rfl⟩ := hr
  have at0 : (s.heap.push (PLS.fresh w)).get? s.heap.objs.size = some (PLS.fresh w) := Heap.get?_push_size _ rfl
  have ty0 : Shared.TypeIs { s with heap := s.heap.push (PLS.fresh w) } (.ref s.heap.objs.size) "set" := ⟨_, at0, rfl⟩
  have g6 := F.called_set.init.lookup; have g7 := F.called_set.init.bind (.ref s.heap.objs.size)
  repeat any_goals first | assumption | wp_step
  refine codeAny_mono (codeAny_call_builtin (R := wants (fun r s₂ => r = .none ∧ ∃ h' tk, s₂ = { s with heap := h', toks := tk } ∧ (∃ m, SetR w h' s.heap.objs.size (fun k => decide (k ∈ xs)) m ∧ m ≤ xs.length) ∧ ∀ b o, s.heap.get? b = some o → h'.get? b = some o) E) F.called_set.init.plain F.entry_set_init (check_set_init_1 ty0 ?_)) fun r₂ s₂ hr₂ => ?_
  · obtain ⟨⟨ocls, odict, odata, oslots⟩, hol, hcl, nl, hdl⟩ := hl
    simp only at hcl hdl
    subst hcl; subst hdl
    have q1 := F.sub_tuple_set; have q2 := F.sub_tuple_frozenset
    have q3 : (Value.type "tuple" == Value.type "dict") = false := by decide
    have q4 : (s.heap.push (PLS.fresh w)).get? l = some { cls := .type "tuple", dict := odict, data := .seq items nl, slots := oslots } := Heap.get?_push_of_some _ hol
    have q5 : (s.heap.push (PLS.fresh w)).IsTuple l items := ⟨_, q4, rfl, nl, rfl⟩
    unfold Builtin.«set.__init__» noKeywords Builtin.Frozenset.updateFrom
    generalize hPI : pyIter = PI
    wp_walk
    subst hPI
    refine wpAny_pyIter_tuple q5 (wpAny_bind (wpAny_runValue ?_))
    have low : l < s.heap.objs.size := Heap.lt_size hol
    have ne1 : l ≠ (s.heap.push (PLS.fresh w)).objs.size := by
      rw [Heap.size_push]; exact Nat.ne_of_lt (Nat.lt_succ_of_lt low)
    have out : s.heap.objs.size ∉ [(s.heap.push (PLS.fresh w)).objs.size, l] := by
      rw [Heap.size_push]; intro z
      rcases List.mem_cons.mp z with z | z
      · exact absurd z (Nat.ne_of_lt (Nat.lt_succ_self _))
      · exact absurd (List.mem_singleton.mp z) (Nat.ne_of_gt low)
    refine PLI.loop_ints ((Walks.tuple (by simp [hh]) _ l ne1 items).toS) s.heap.objs.size out xs sz (fun i v hv => ints_at hi i v (by rw [Array.getElem?_toList]; exact hv)) (by rw [← sz]; exact hb) (items.size - 0) 0 _ (by omega) (Nat.zero_le _)
      ⟨⟨_, Heap.get?_push_size _ rfl, rfl, rfl⟩, q5.push _⟩ ?_ ?_
    · exact ⟨0, ((setR_fresh (h := s.heap) w).at fun o e => Heap.get?_push_of_some _ e).congr fun k => by simp, Nat.le_refl _⟩
    · intro s' hm ⟨m, R, len⟩
      obtain ⟨h', g', d', tk', os'⟩ := s'
      obtain rfl : g' = s.gens := hm.gens
      obtain rfl : d' = s.drawn := hm.drawn
      obtain rfl : os' = s.os := hm.os
      refine (show wpAny _ _ _ _ _ _ from wpAny_pure (show wpAny _ _ (ret Value.none) _ _ _ from wpAny_pure ⟨rfl, h', tk', rfl, ⟨m, R.congr fun k => by rw [← sz, List.take_length], by omega⟩, fun b o e => ?_⟩))
      have lt : b < s.heap.objs.size := Heap.lt_size e
      refine hm.heap b o ?_ (Heap.get?_push_of_some _ (Heap.get?_push_of_some _ e))
      rw [Heap.size_push]; intro z
      rcases List.mem_cons.mp z with z | z
      · exact absurd z (Nat.ne_of_lt lt)
      · exact absurd (List.mem_singleton.mp z) (Nat.ne_of_lt (Nat.lt_succ_of_lt lt))
  · rcases r₂ with e | fl₂
    · exact hr₂
    cases fl₂ <;> first | exact hr₂.elim | skip
    obtain ⟨rfl, h', tk, rfl, ⟨m, R, len⟩, hk⟩ := hr₂
    repeat any_goals first | assumption | wp_step
    exact h _ _ m R len hk
end PLI
end
section
set_option maxHeartbeats 2000000
namespace PL
open PySem PySem.Spec PyProof.Rows L2
abbrev D := PyData
/-- a value of the machine of plain data: a datum, or the n-th changing thing -/
inductive R where
  | d (x : D)
  | ref (n : Nat)
  | scr (ns : List Int)
/-- a changing thing: it holds data alone -/
inductive Ob where
  | lst (xs : List D)
  | dic (kvs : List (Key × D))
  | mix (kvs : List (Key × R))
  | dicL (kvs : List (Key × D))
abbrev Sto := List Ob
abbrev Loc := List (Option R)
theorem same_upd {H : Hp} {p : Addr} {o : HO} (h : H p = none) : Same H (upd H p o) := by
  intro b x e
  rw [upd_ne (ne_of_none e h)]; exact e
mutual
/-- a datum, by what never changes -/
inductive DV (K : PySem.W.Frag) (G : Hp) : V → D → Prop
  | non : DV K G .non .none
  | bl (b : Bool) : DV K G (.bl b) (.bool b)
  | int (i : Int) : DV K G (.int i) (.int i)
  | str (x : Str) : DV K G (.str x) (.str x)
  | lst {a : Addr} {xs : List V} {ds : List D} : G a = some (.lst xs) → DVs K G xs ds → DV K G (.ref a) (.list ds)
  | tup {a : Addr} {xs : List V} {ds : List D} : SqT K G a xs → DVs K G xs ds → DV K G (.ref a) (.tuple ds)
inductive DVs (K : PySem.W.Frag) (G : Hp) : List V → List D → Prop
  | nil : DVs K G [] []
  | cons {v : V} {vs : List V} {d : D} {ds : List D} : DV K G v d → DVs K G vs ds → DVs K G (v :: vs) (d :: ds)
end
section
variable {K : PySem.W.Frag}
theorem Same.sqt {G G' : Hp} {a : Addr} {xs : List V} (e : Same G G') (h : SqT K G a xs) : SqT K G' a xs := by
  rcases h with (h | ⟨o, h⟩) | h
  · exact .inl (.inl (e _ _ h))
  · exact .inl (.inr ⟨o, e _ _ h⟩)
  · exact .inr h
mutual
theorem dv_mono {G G' : Hp} (e : Same G G') : ∀ (d : D) (v : V), DV K G v d → DV K G' v d
  | .none, _, h => by cases h; exact .non
  | .bool b, _, h => by cases h; exact .bl b
  | .int i, _, h => by cases h; exact .int i
  | .str x, _, h => by cases h; exact .str x
  | .list ds, _, h => by cases h with | lst h1 h2 => exact .lst (e _ _ h1) (dvs_mono e ds _ h2)
  | .tuple ds, _, h => by cases h with | tup h1 h2 => exact .tup (Same.sqt e h1) (dvs_mono e ds _ h2)
  | .dict _, _, h => by cases h
theorem dvs_mono {G G' : Hp} (e : Same G G') : ∀ (ds : List D) (vs : List V), DVs K G vs ds → DVs K G' vs ds
  | [], _, h => by cases h; exact .nil
  | d :: ds, _, h => by cases h with | cons h1 h2 => exact .cons (dv_mono e d _ h1) (dvs_mono e ds _ h2)
end
theorem dvs_len {G : Hp} : ∀ {vs : List V} {ds : List D}, DVs K G vs ds → vs.length = ds.length
  | _, _, .nil => rfl
  | _, _, .cons _ t => congrArg Nat.succ (dvs_len t)
theorem dvs_get {G : Hp} : ∀ {vs : List V} {ds : List D} {i : Nat} {d : D}, DVs K G vs ds → ds[i]? = some d → ∃ v, vs[i]? = some v ∧ DV K G v d
  | _, _, _, _, .nil, e => by simp at e
  | _, _, 0, _, .cons h _, e => by simp at e; subst e; exact ⟨_, rfl, h⟩
  | _, _, i + 1, _, .cons _ t, e => by
    obtain ⟨v, h1, h2⟩ := dvs_get (i := i) t (by simpa using e)
    exact ⟨v, by simpa using h1, h2⟩
theorem dvs_get' {G : Hp} : ∀ {vs : List V} {ds : List D} {i : Nat} {v : V}, DVs K G vs ds → vs[i]? = some v → ∃ d, ds[i]? = some d ∧ DV K G v d
  | _, _, _, _, .nil, e => by simp at e
  | _, _, 0, _, .cons h _, e => by simp at e; subst e; exact ⟨_, rfl, h⟩
  | _, _, i + 1, _, .cons _ t, e => by
    obtain ⟨v, h1, h2⟩ := dvs_get' (i := i) t (by simpa using e)
    exact ⟨v, by simpa using h1, h2⟩
theorem dvs_app {G : Hp} : ∀ {vs ws : List V} {ds es : List D}, DVs K G vs ds → DVs K G ws es → DVs K G (vs ++ ws) (ds ++ es)
  | _, _, _, _, .nil, h => h
  | _, _, _, _, .cons a t, h => .cons a (dvs_app t h)
theorem dvs_drop {G : Hp} : ∀ {vs : List V} {ds : List D} (n : Nat), DVs K G vs ds → DVs K G (vs.drop n) (ds.drop n)
  | _, _, 0, h => h
  | _, _, _ + 1, .nil => .nil
  | _, _, n + 1, .cons _ t => dvs_drop n t
theorem dvs_take {G : Hp} : ∀ {vs : List V} {ds : List D} (n : Nat), DVs K G vs ds → DVs K G (vs.take n) (ds.take n)
  | _, _, 0, _ => .nil
  | _, _, _ + 1, .nil => .nil
  | _, _, n + 1, .cons h t => .cons h (dvs_take n t)
/-- a dict's pairs -/
def KD (K : PySem.W.Frag) (G : Hp) : List (Key × V) → List (Key × D) → Prop := Paired fun p q => p.1 = q.1 ∧ DV K G p.2 q.2
theorem kd_mono {G G' : Hp} (e : Same G G') {kvs : List (Key × V)} {ks : List (Key × D)} (h : KD K G kvs ks) : KD K G' kvs ks :=
  Paired.mapP h fun _ _ ⟨h1, h2⟩ => ⟨h1, dv_mono e _ _ h2⟩
def RV (K : PySem.W.Frag) (G : Hp) (ρ : List Addr) : R → V → Prop
  | .d x, v => DV K G v x
  | .ref n, v => ∃ a, ρ[n]? = some a ∧ v = .ref a
  | .scr ns, v => ∃ a, v = .ref a ∧ SqL K G a (ns.map V.int)
theorem pre_get {α : Type} {l l' : List α} (h : l <+: l') {n : Nat} {a : α} (e : l[n]? = some a) : l'[n]? = some a := by
  obtain ⟨t, rfl⟩ := h
  rw [List.getElem?_append_left (List.getElem?_eq_some_iff.mp e).1]; exact e
theorem rv_mono {G G' : Hp} {ρ ρ' : List Addr} (e : Same G G') (p : ρ <+: ρ') : ∀ {r : R} {v : V}, RV K G ρ r v → RV K G' ρ' r v
  | .d _, _, h => dv_mono e _ _ h
  | .ref _, _, ⟨a, h1, h2⟩ => ⟨a, pre_get p h1, h2⟩
  | .scr _, _, ⟨a, h1, h2⟩ => ⟨a, h1, e.seq h2⟩
/-- a dict's pairs, of values that may be changing things -/
def KR (K : PySem.W.Frag) (G : Hp) (ρ : List Addr) : List (Key × V) → List (Key × R) → Prop := Paired fun p q => p.1 = q.1 ∧ RV K G ρ q.2 p.2
theorem kr_mono {G G' : Hp} {ρ ρ' : List Addr} (e : Same G G') (p : ρ <+: ρ') {kvs : List (Key × V)} {ks : List (Key × R)} (h : KR K G ρ kvs ks) : KR K G' ρ' kvs ks :=
  Paired.mapP h fun _ _ ⟨h1, h2⟩ => ⟨h1, rv_mono e p h2⟩
def RO (K : PySem.W.Frag) (G : Hp) (ρ : List Addr) : Ob → HO → Prop
  | .lst xs, o => ∃ vs, o = .lst vs ∧ DVs K G vs xs
  | .dic ks, o => ∃ kvs, o = .dK kvs ∧ KD K G kvs ks
  | .mix ks, o => ∃ kvs, o = .dK kvs ∧ KR K G ρ kvs ks
  | .dicL ks, o => ∃ od kvs, o = .frz od (.dK kvs) ∧ KD K G kvs ks
/-- a thing that is locked -/
def isFrz : HO → Bool
  | .frz _ _ => true
  | _ => false
theorem ro_mono {G G' : Hp} {ρ ρ' : List Addr} (e : Same G G') (p : ρ <+: ρ') : ∀ {b : Ob} {o : HO}, RO K G ρ b o → RO K G' ρ' b o
  | .lst xs, _, ⟨vs, h1, h2⟩ => ⟨vs, h1, dvs_mono e _ _ h2⟩
  | .dic ks, _, ⟨kvs, h1, h2⟩ => ⟨kvs, h1, kd_mono e h2⟩
  | .mix ks, _, ⟨kvs, h1, h2⟩ => ⟨kvs, h1, kr_mono e p h2⟩
  | .dicL ks, _, ⟨od, kvs, h1, h2⟩ => ⟨od, kvs, h1, kd_mono e h2⟩
def lockO : Ob → Bool
  | .dicL _ => true
  | _ => false
/-- the state: F what is held by others, G what never changes, ρ where the changing things stand -/
structure SOk (K : PySem.W.Frag) (F G : Hp) (ρ : List Addr) (S : Sto) (H : Hp) : Prop where
  len : ρ.length = S.length
  nd : ρ.Nodup
  subF : Same F H
  subG : Same G H
  out : ∀ a ∈ ρ, G a = none ∧ ∀ o, F a = some o → isFrz o = true
  dis : ∀ a, F a ≠ none → G a = none
  obj : ∀ (n : Nat) (b : Ob) (a : Addr), S[n]? = some b → ρ[n]? = some a → ∃ o, H a = some o ∧ RO K G ρ b o
  lck : ∀ (n : Nat) (b : Ob) (a : Addr), S[n]? = some b → ρ[n]? = some a → lockO b = true → F a ≠ none
def LOk (K : PySem.W.Frag) (G : Hp) (ρ : List Addr) (L : Loc) (σ : L2.St) : Prop :=
  L.length = σ.length ∧ ∀ (i : Nat) (r : R), L[i]? = some (some r) → ∃ v, σ[i]? = some (some v) ∧ RV K G ρ r v
theorem lok_mono {G G' : Hp} {ρ ρ' : List Addr} (e : Same G G') (p : ρ <+: ρ') {L : Loc} {σ : L2.St} (h : LOk K G ρ L σ) : LOk K G' ρ' L σ :=
  ⟨h.1, fun i r q => let ⟨v, h1, h2⟩ := h.2 i r q; ⟨v, h1, rv_mono e p h2⟩⟩
theorem lok_set {G : Hp} {ρ : List Addr} {L : Loc} {σ : L2.St} (h : LOk K G ρ L σ) {r : R} {v : V} (i : Nat) (q : RV K G ρ r v) : LOk K G ρ (L.set i (some r)) (σ.set i (some v)) := by
  refine ⟨by simp [h.1], fun j r' e => ?_⟩
  by_cases hj : i = j
  · subst hj
    by_cases hl : i < L.length
    · rw [List.getElem?_set_self hl] at e
      cases e
      exact ⟨v, List.getElem?_set_self (by rw [← h.1]; exact hl), q⟩
    · rw [List.getElem?_eq_none (by simpa using hl)] at e; cases e
  · rw [List.getElem?_set_ne hj] at e ⊢
    exact h.2 j r' e
theorem lok_unset {G : Hp} {ρ : List Addr} {L : Loc} {σ : L2.St} (h : LOk K G ρ L σ) (i : Nat) : LOk K G ρ (L.set i none) (σ.set i none) := by
  refine ⟨by simp [h.1], fun j r' e => ?_⟩
  by_cases hj : i = j
  · subst hj
    by_cases hl : i < L.length
    · rw [List.getElem?_set_self hl] at e; cases e
    · rw [List.getElem?_eq_none (by simpa using hl)] at e; cases e
  · rw [List.getElem?_set_ne hj] at e ⊢
    exact h.2 j r' e
def wipeL (L : Loc) : List Nat → Loc
  | [] => L
  | v :: vs => (wipeL L vs).set v none
theorem lok_wipe {G : Hp} {ρ : List Addr} {L : Loc} {σ : L2.St} (h : LOk K G ρ L σ) : ∀ vs : List Nat, LOk K G ρ (wipeL L vs) (wipe σ vs)
  | [] => h
  | v :: vs => lok_unset (lok_wipe h vs) v
/-- what is wanted behind a value: it may be told by more of what never changes and more changing things -/
def Post (K : PySem.W.Frag) (F G : Hp) (ρ : List Addr) (S' : Sto) (r : R) (Q : VK) : Prop :=
  ∀ (G' : Hp) (ρ' : List Addr) (H' : Hp) (v : V), Same G G' → ρ <+: ρ' → SOk K F G' ρ' S' H' → RV K G' ρ' r v → Q v H'
theorem Post.mono {F G G1 : Hp} {ρ ρ1 : List Addr} {S' : Sto} {r : R} {Q : VK} (h : Post K F G ρ S' r Q) (e : Same G G1) (p : ρ <+: ρ1) : Post K F G1 ρ1 S' r Q :=
  fun G' ρ' H' v e' p' s q => h G' ρ' H' v (e.trans e') (p.trans p') s q
abbrev Ev := Loc → Sto → Option (R × Sto)
/-- an expression's reading by its evaluation -/
def tE (K : PySem.W.Frag) (ev : Ev) : TE := fun σ H Q => ∃ F G ρ S L r S', SOk K F G ρ S H ∧ LOk K G ρ L σ ∧ ev L S = some (r, S') ∧ Post K F G ρ S' r Q
abbrev Prim := List R → Sto → Option (R × Sto)
inductive RVs (K : PySem.W.Frag) (G : Hp) (ρ : List Addr) : List R → List V → Prop
  | nil : RVs K G ρ [] []
  | cons {r : R} {v : V} {rs : List R} {vs : List V} : RV K G ρ r v → RVs K G ρ rs vs → RVs K G ρ (r :: rs) (v :: vs)
theorem rvs_mono {G G' : Hp} {ρ ρ' : List Addr} (e : Same G G') (p : ρ <+: ρ') : ∀ {rs : List R} {vs : List V}, RVs K G ρ rs vs → RVs K G' ρ' rs vs
  | _, _, .nil => .nil
  | _, _, .cons h t => .cons (rv_mono e p h) (rvs_mono e p t)
theorem rvs_len {G : Hp} {ρ : List Addr} : ∀ {rs : List R} {vs : List V}, RVs K G ρ rs vs → rs.length = vs.length
  | _, _, .nil => rfl
  | _, _, .cons _ t => congrArg Nat.succ (rvs_len t)
/-- a step by values -/
def tP (K : PySem.W.Frag) (f : Prim) : List V → Hp → VK → Prop := fun vs H Q => ∃ F G ρ S rs r S', SOk K F G ρ S H ∧ RVs K G ρ rs vs ∧ f rs S = some (r, S') ∧ Post K F G ρ S' r Q
theorem PE.weak {X : Cx} {e : Expr} {t t' : TE} (h : PE X e t) (q : ∀ σ H Q, t' σ H Q → t σ H Q) : PE X e t' := ⟨fun pins s σ H Q I w => h.run pins s σ H Q I (q σ H Q w)⟩
theorem PT.weak {X : Cx} {e : Expr} {t t' : TT} (h : PT X e t) (q : ∀ σ H Q, t' σ H Q → t σ H Q) : PT X e t' := ⟨fun pins s σ H Q I w => h.run pins s σ H Q I (q σ H Q w)⟩
theorem PS.weak {X : Cx} {e : Stmt} {t t' : TS} (h : PS X e t) (q : ∀ D σ H, t' D σ H → t D σ H) : PS X e t' := ⟨fun pins s σ H D I w => h.run pins s σ H D I (q D σ H w)⟩
theorem PSs.weak {X : Cx} {e : List Stmt} {t t' : TS} (h : PSs X e t) (q : ∀ D σ H, t' D σ H → t D σ H) : PSs X e t' := ⟨fun pins s σ H D I w => h.run pins s σ H D I (q D σ H w)⟩
theorem PA.weak {X : Cx} {e : List Expr} {t t' : TA} (h : PA X e t) (q : ∀ σ H Q, t' σ H Q → t σ H Q) : PA X e t' := ⟨fun pos pins s σ H Q I w => h.run pos pins s σ H Q I (q σ H Q w)⟩
abbrev Evs := Loc → Sto → Option (List R × Sto)
def tA (K : PySem.W.Frag) (ev : Evs) : TA := fun σ H Q => ∃ F G ρ S L rs S', SOk K F G ρ S H ∧ LOk K G ρ L σ ∧ ev L S = some (rs, S') ∧
  ∀ (G' : Hp) (ρ' : List Addr) (H' : Hp) (vs : List V), Same G G' → ρ <+: ρ' → SOk K F G' ρ' S' H' → RVs K G' ρ' rs vs → Q vs H'
/-- a new thing that never changes -/
theorem SOk.fix {F G : Hp} {ρ : List Addr} {S : Sto} {H : Hp} (s : SOk K F G ρ S H) {p : Addr} {o : HO} (h : H p = none) : SOk K F (upd G p o) ρ S (upd H p o) ∧ Same G (upd G p o) := by
  have hg : G p = none := Same.free s.subG h
  have hf : F p = none := Same.free s.subF h
  have hp : ∀ a ∈ ρ, a ≠ p := fun a ha z => by
    subst z
    obtain ⟨n, hn, e⟩ := List.getElem_of_mem ha
    have hn' : n < S.length := by rw [← s.len]; exact hn
    obtain ⟨o, ho, _⟩ := s.obj n S[n] a (List.getElem?_eq_getElem hn') (by rw [List.getElem?_eq_getElem hn, e])
    rw [h] at ho; cases ho
  refine ⟨⟨s.len, s.nd, s.subF.trans (same_upd h), fun b u e => ?_, fun a ha => ?_, fun a ha => ?_, fun n b a e1 e2 => ?_, s.lck⟩, same_upd hg⟩
  · by_cases hb : b = p
    · subst hb; rw [upd_same] at e ⊢; exact e
    · rw [upd_ne hb] at e ⊢; exact s.subG b u e
  · rw [upd_ne (hp a ha)]; exact s.out a ha
  · have : a ≠ p := fun z => ha (by rw [z]; exact hf)
    rw [upd_ne this]; exact s.dis a ha
  · obtain ⟨u, hu, r⟩ := s.obj n b a e1 e2
    refine ⟨u, ?_, ro_mono (same_upd hg) (List.prefix_refl _) r⟩
    rw [upd_ne (hp a (List.mem_of_getElem? e2))]; exact hu
/-- a new changing thing -/
theorem SOk.new {F G : Hp} {ρ : List Addr} {S : Sto} {H : Hp} (s : SOk K F G ρ S H) {p : Addr} {o : HO} {b : Ob} (h : H p = none) (r : RO K G ρ b o) (hb : lockO b = false := by rfl) : SOk K F G (ρ ++ [p]) (S ++ [b]) (upd H p o) := by
  have hg : G p = none := Same.free s.subG h
  have hf : F p = none := Same.free s.subF h
  have hp : p ∉ ρ := fun ha => by
    obtain ⟨n, hn, e⟩ := List.getElem_of_mem ha
    have hn' : n < S.length := by rw [← s.len]; exact hn
    obtain ⟨o, ho, _⟩ := s.obj n S[n] p (List.getElem?_eq_getElem hn') (by rw [List.getElem?_eq_getElem hn, e])
    rw [h] at ho; cases ho
  refine ⟨by simp [s.len], ?_, s.subF.trans (same_upd h), s.subG.trans (same_upd h), fun a ha => ?_, s.dis, fun n b' a e1 e2 => ?_, fun n b' a e1 e2 hk => ?_⟩
  · rw [List.nodup_append]
    refine ⟨s.nd, by simp, fun a ha b hb => ?_⟩
    rw [List.mem_singleton] at hb; subst hb
    exact fun z => hp (z ▸ ha)
  · rcases List.mem_append.mp ha with ha | ha
    · exact s.out a ha
    · rw [List.mem_singleton] at ha; subst ha; exact ⟨hg, fun o e => by rw [hf] at e; cases e⟩
  · by_cases hn : n < S.length
    · rw [List.getElem?_append_left hn] at e1
      rw [List.getElem?_append_left (by rw [s.len]; exact hn)] at e2
      obtain ⟨u, hu, q⟩ := s.obj n b' a e1 e2
      have ha : a ≠ p := fun z => by
        subst z
        exact hp (List.mem_of_getElem? e2)
      exact ⟨u, by rw [upd_ne ha]; exact hu, ro_mono (Same.refl _) (List.prefix_append _ _) q⟩
    · have hn' : n = S.length := by
        have := (List.getElem?_eq_some_iff.mp e1).1
        simp at this; omega
      subst hn'
      rw [List.getElem?_append_right (Nat.le_refl _), Nat.sub_self] at e1
      rw [List.getElem?_append_right (by rw [s.len]; exact Nat.le_refl _), s.len, Nat.sub_self] at e2
      cases e1; cases e2
      exact ⟨o, upd_same, ro_mono (Same.refl _) (List.prefix_append _ _) r⟩
  · by_cases hn : n < S.length
    · rw [List.getElem?_append_left hn] at e1
      rw [List.getElem?_append_left (by rw [s.len]; exact hn)] at e2
      exact s.lck n b' a e1 e2 hk
    · have hn' : n = S.length := by
        have := (List.getElem?_eq_some_iff.mp e1).1
        simp at this; omega
      subst hn'
      rw [List.getElem?_append_right (Nat.le_refl _), Nat.sub_self] at e1
      cases e1
      rw [hb] at hk; cases hk
/-- a changing thing changed -/
theorem SOk.set {F G : Hp} {ρ : List Addr} {S : Sto} {H : Hp} (s : SOk K F G ρ S H) {n : Nat} {p : Addr} {o : HO} {b : Ob} (e : ρ[n]? = some p) (r : RO K G ρ b o) {o0 : HO} (h0 : H p = some o0) (hz : isFrz o0 = false := by rfl) (hb : lockO b = false := by rfl) : SOk K F G ρ (S.set n b) (upd H p o) := by
  have hm := List.mem_of_getElem? e
  obtain ⟨hg, hfz⟩ := s.out p hm
  have hf : F p = none := by
    cases hq : F p with
    | none => rfl
    | some o' =>
      have h1 := s.subF p o' hq
      rw [h0] at h1
      cases h1
      rw [hfz _ hq] at hz
      cases hz
  have hk : ∀ {T : Hp}, Same T H → T p = none → Same T (upd H p o) := fun {T} hs ht b u q => by
    rw [upd_ne (ne_of_none q ht)]; exact hs b u q
  have hl : n < S.length := by rw [← s.len]; exact (List.getElem?_eq_some_iff.mp e).1
  refine ⟨by simp [s.len], s.nd, hk s.subF hf, hk s.subG hg, s.out, s.dis, fun m b' a e1 e2 => ?_, fun m b' a e1 e2 hq => ?_⟩
  · by_cases hmn : n = m
    · subst hmn
      rw [List.getElem?_set_self hl] at e1
      cases e1
      rw [e] at e2; cases e2
      exact ⟨o, upd_same, r⟩
    · rw [List.getElem?_set_ne hmn] at e1
      obtain ⟨u, hu, q⟩ := s.obj m b' a e1 e2
      have : a ≠ p := fun z => by
        subst z
        obtain ⟨h1, h1'⟩ := List.getElem?_eq_some_iff.mp e
        obtain ⟨h2, h2'⟩ := List.getElem?_eq_some_iff.mp e2
        exact hmn ((List.getElem_inj (h₀ := h1) (h₁ := h2) s.nd).mp (by rw [h1', h2']))
      exact ⟨u, by rw [upd_ne this]; exact hu, q⟩
  · by_cases hmn : n = m
    · subst hmn
      rw [List.getElem?_set_self hl] at e1
      cases e1
      rw [hb] at hq; cases hq
    · rw [List.getElem?_set_ne hmn] at e1
      exact s.lck m b' a e1 e2 hq
/-- a thing that holds no later ones -/
def shutV (m : Nat) : R → Bool
  | .ref n => decide (n < m)
  | _ => true
def shutO (m : Nat) : Ob → Bool
  | .mix ks => ks.all fun kv => shutV m kv.2
  | _ => true
theorem RV.shut {G : Hp} {ρ : List Addr} {r : R} {v : V} (h : RV K G ρ r v) : shutV ρ.length r = true := by
  cases r with
  | ref n =>
    obtain ⟨a, h1, _⟩ := h
    exact decide_eq_true (List.getElem?_eq_some_iff.mp h1).1
  | _ => rfl
theorem RO.shut {G : Hp} {ρ : List Addr} {b : Ob} {o : HO} (h : RO K G ρ b o) : shutO ρ.length b = true := by
  cases b with
  | mix ks =>
    obtain ⟨kvs, e, h⟩ := h
    show ks.all _ = true
    clear e
    induction h with
    | nil => rfl
    | cons h t ih => rw [List.all_cons, h.2.shut, ih]; rfl
  | _ => rfl
theorem RV.cut {G : Hp} {ρ t : List Addr} {r : R} {v : V} (h : RV K G (ρ ++ t) r v) (c : shutV ρ.length r = true) : RV K G ρ r v := by
  cases r with
  | ref n =>
    obtain ⟨a, h1, h2⟩ := h
    exact ⟨a, by rwa [List.getElem?_append_left (of_decide_eq_true c)] at h1, h2⟩
  | _ => exact h
theorem RO.cut {G : Hp} {ρ t : List Addr} {b : Ob} {o : HO} (h : RO K G (ρ ++ t) b o) (c : shutO ρ.length b = true) : RO K G ρ b o := by
  cases b with
  | mix ks =>
    obtain ⟨kvs, e, h⟩ := h
    refine ⟨kvs, e, ?_⟩
    unfold KR at h ⊢
    replace c : (ks.all fun kv => shutV ρ.length kv.2) = true := c
    clear e
    induction h with
    | nil => exact .nil
    | cons h t ih =>
      rw [List.all_cons, Bool.and_eq_true] at c
      exact Paired.cons ⟨h.1, h.2.cut c.1⟩ (ih c.2)
  | _ => exact h
/-- the later things forgotten -/
theorem SOk.cut {F G : Hp} {ρ ρ' : List Addr} {S' : Sto} {H : Hp} (s : SOk K F G ρ' S' H) (p : ρ <+: ρ') (c : ∀ (n : Nat) (b : Ob), n < ρ.length → S'[n]? = some b → shutO ρ.length b = true) : SOk K F G ρ (S'.take ρ.length) H := by
  obtain ⟨t, rfl⟩ := p
  have hl := s.len
  rw [List.length_append] at hl
  refine ⟨by rw [List.length_take]; omega, (List.nodup_append.mp s.nd).1, s.subF, s.subG, fun a ha => s.out a (List.mem_append_left _ ha), s.dis, fun n b a e1 e2 => ?_, fun n b a e1 e2 hk => ?_⟩
  · have hn := (List.getElem?_eq_some_iff.mp e2).1
    rw [List.getElem?_take_of_lt hn] at e1
    obtain ⟨o, h1, h2⟩ := s.obj n b a e1 (by rw [List.getElem?_append_left hn]; exact e2)
    exact ⟨o, h1, h2.cut (c n b hn e1)⟩
  · have hn := (List.getElem?_eq_some_iff.mp e2).1
    rw [List.getElem?_take_of_lt hn] at e1
    exact s.lck n b a e1 (by rw [List.getElem?_append_left hn]; exact e2) hk
/-! ### what may be read as a datum -/
mutual
theorem dv_dp {G : Hp} : ∀ (d : D) (v : V), DV K G v d → Dp K G v d
  | .none, _, h => by cases h; exact .non
  | .bool b, _, h => by cases h; exact .bl b
  | .int i, _, h => by cases h; exact .int i
  | .str x, _, h => by cases h; exact .str x
  | .list ds, _, h => by cases h with | lst h1 h2 => exact .lst (.of h1) (dvs_dp ds _ h2)
  | .tuple ds, _, h => by cases h with | tup h1 h2 => exact .tup h1 (dvs_dp ds _ h2)
  | .dict _, _, h => by cases h
theorem dvs_dp {G : Hp} : ∀ (ds : List D) (vs : List V), DVs K G vs ds → DpAll K G vs ds
  | [], _, h => by cases h; exact .nil
  | d :: ds, _, h => by cases h with | cons h1 h2 => exact .cons (dv_dp d _ h1) (dvs_dp ds _ h2)
end
/-- read as a datum: a datum, or a list that changes, as it stands -/
def DW (K : PySem.W.Frag) (G H : Hp) (v : V) (d : D) : Prop := DV K G v d ∨ ∃ a vs xs, d = .list xs ∧ v = .ref a ∧ H a = some (.lst vs) ∧ DVs K G vs xs
def view : R → Sto → Option D
  | .d x, _ => some x
  | .ref n, S => match S[n]? with
    | some (.lst xs) => some (.list xs)
    | _ => none
  | .scr _, _ => none
theorem view_ok {F G : Hp} {ρ : List Addr} {S : Sto} {H : Hp} (s : SOk K F G ρ S H) {r : R} {v : V} {d : D} (q : RV K G ρ r v) (e : view r S = some d) : DW K G H v d := by
  cases r with
  | d x => cases e; exact .inl q
  | scr ns => cases e
  | ref n =>
    obtain ⟨a, ea, rfl⟩ := q
    simp only [view] at e
    cases hs : S[n]? with
    | none => rw [hs] at e; cases e
    | some b =>
      rw [hs] at e
      cases b with
      | dic ks => cases e
      | mix ks => cases e
      | dicL ks => cases e
      | lst xs =>
        cases e
        obtain ⟨o, ho, vs, rfl, hv⟩ := s.obj n _ a hs ea
        exact .inr ⟨a, vs, xs, rfl, rfl, ho, hv⟩
theorem DW.dp {F G : Hp} {ρ : List Addr} {S : Sto} {H : Hp} (s : SOk K F G ρ S H) {v : V} {d : D} (h : DW K G H v d) : Dp K H v d := by
  rcases h with h | ⟨a, vs, xs, rfl, rfl, h1, h2⟩
  · exact dv_dp d v (dv_mono s.subG d v h)
  · exact .lst (.of h1) (dvs_dp _ _ (dvs_mono s.subG _ _ h2))
/-- a list: it stands at an address -/
theorem DW.lst {F G : Hp} {ρ : List Addr} {S : Sto} {H : Hp} (s : SOk K F G ρ S H) {v : V} {xs : List D} (h : DW K G H v (.list xs)) : ∃ a vs, v = .ref a ∧ H a = some (.lst vs) ∧ DVs K G vs xs := by
  rcases h with h | ⟨a, vs, ys, e, rfl, h1, h2⟩
  · cases h with | lst h1 h2 => exact ⟨_, _, rfl, s.subG _ _ h1, h2⟩
  · cases e; exact ⟨a, vs, rfl, h1, h2⟩
theorem DW.tup {F G : Hp} {ρ : List Addr} {S : Sto} {H : Hp} (s : SOk K F G ρ S H) {v : V} {xs : List D} (h : DW K G H v (.tuple xs)) : ∃ a vs, v = .ref a ∧ SqT K H a vs ∧ DVs K G vs xs := by
  rcases h with h | ⟨a, vs, ys, e, rfl, h1, h2⟩
  · cases h with | tup h1 h2 => exact ⟨_, _, rfl, Same.sqt s.subG h1, h2⟩
  · cases e
/-- a new datum -/
theorem Post.dnew {F G : Hp} {ρ : List Addr} {S : Sto} {d : D} {Q : VK} (h : Post K F G ρ S (.d d) Q) {H : Hp} (s : SOk K F G ρ S H) {o : HO}
    (hd : ∀ p G', Same G G' → G' p = some o → DV K G' (.ref p) d) : ∀ p, H p = none → Q (.ref p) (upd H p o) := fun p hp =>
  let ⟨s', e⟩ := s.fix (o := o) hp
  h _ ρ _ _ e (List.prefix_refl _) s' (hd p _ e upd_same)
theorem Post.now {F G : Hp} {ρ : List Addr} {S : Sto} {r : R} {Q : VK} (h : Post K F G ρ S r Q) {H : Hp} (s : SOk K F G ρ S H) {v : V} (q : RV K G ρ r v) : Q v H := h G ρ H v (Same.refl _) (List.prefix_refl _) s q
theorem Post.rnew {F G : Hp} {ρ : List Addr} {S : Sto} {b : Ob} {Q : VK} (h : Post K F G ρ (S ++ [b]) (.ref S.length) Q) {H : Hp} (s : SOk K F G ρ S H) {o : HO} (r : RO K G ρ b o) (hb : lockO b = false := by rfl) : ∀ p, H p = none → Q (.ref p) (upd H p o) := fun p hp =>
  h G (ρ ++ [p]) _ _ (Same.refl _) (List.prefix_append _ _) (s.new hp r hb) ⟨p, by rw [List.getElem?_append_right (by rw [s.len]; exact Nat.le_refl _), s.len, Nat.sub_self]; rfl, rfl⟩
end
end PL
end
section
set_option maxHeartbeats 2000000
namespace PL
open PySem PySem.Spec PyProof.Rows L2
/-! ### texts in order -/
def leS (a b : Str) : Bool := !ltCps b.cps.toList a.cps.toList
theorem leS_iff (a b : Str) : leS a b = true ↔ a.cps.toList ≤ b.cps.toList := by
  unfold leS
  rw [ltCps_eq]
  simp [List.not_lt]
theorem leS_total (a b : Str) : leS a b = true ∨ leS b a = true := by
  rw [leS_iff, leS_iff]
  exact List.le_total _ _
theorem leS_trans {a b c : Str} (h : leS a b = true) (k : leS b c = true) : leS a c = true := by
  rw [leS_iff] at *
  exact List.le_trans h k
theorem leS_anti {a b : Str} (h : leS a b = true) (k : leS b a = true) : a = b := by
  rw [leS_iff] at *
  have := List.le_antisymm h k
  obtain ⟨⟨a⟩⟩ := a
  obtain ⟨⟨b⟩⟩ := b
  cases this
  rfl
def insS (x : Str) : List Str → List Str
  | [] => [x]
  | y :: r => if leS x y = true then x :: y :: r else y :: insS x r
def sortS : List Str → List Str
  | [] => []
  | x :: r => insS x (sortS r)
theorem insS_perm (x : Str) : ∀ l : List Str, (insS x l).Perm (x :: l)
  | [] => List.Perm.refl _
  | y :: r => by
    unfold insS
    split
    · exact List.Perm.refl _
    · exact ((insS_perm x r).cons y).trans (List.Perm.swap _ _ _)
theorem sortS_perm : ∀ l : List Str, (sortS l).Perm l
  | [] => List.Perm.refl _
  | x :: r => (insS_perm x (sortS r)).trans ((sortS_perm r).cons x)
theorem insS_sorted (x : Str) : ∀ l : List Str, l.Pairwise (fun a b => leS a b = true) → (insS x l).Pairwise (fun a b => leS a b = true)
  | [], _ => List.pairwise_singleton _ _
  | y :: r, h => by
    obtain ⟨h1, h2⟩ := List.pairwise_cons.mp h
    unfold insS
    split
    · rename_i hxy
      refine List.pairwise_cons.mpr ⟨fun z hz => ?_, h⟩
      rcases List.mem_cons.mp hz with rfl | hz
      · exact hxy
      · exact leS_trans hxy (h1 z hz)
    · rename_i hxy
      have hyx : leS y x = true := (leS_total y x).resolve_right hxy
      refine List.pairwise_cons.mpr ⟨fun z hz => ?_, insS_sorted x r h2⟩
      rcases List.mem_cons.mp ((insS_perm x r).mem_iff.mp hz) with rfl | hz
      · exact hyx
      · exact h1 z hz
theorem sortS_sorted : ∀ l : List Str, (sortS l).Pairwise (fun a b => leS a b = true)
  | [] => List.Pairwise.nil
  | x :: r => insS_sorted x _ (sortS_sorted r)
theorem rising_le : ∀ (p : Str) (l : List Str), risingS p l = true → (p :: l).Pairwise (fun a b => leS a b = true)
  | p, [], _ => List.pairwise_singleton _ _
  | p, x :: r, h => by
    have h : (!ltCps x.cps.toList p.cps.toList && risingS x r) = true := h
    rw [Bool.and_eq_true] at h
    have ih := rising_le x r h.2
    refine List.pairwise_cons.mpr ⟨fun z hz => ?_, ih⟩
    rcases List.mem_cons.mp hz with rfl | hz
    · exact h.1
    · exact leS_trans h.1 ((List.pairwise_cons.mp ih).1 z hz)
theorem sorted_le : ∀ (l : List Str), sortedS l = true → l.Pairwise (fun a b => leS a b = true)
  | [], _ => List.Pairwise.nil
  | x :: r, h => rising_le x r h
theorem sortS_only {ys xs : List Str} (p : ys.Perm xs) (h : sortedS ys = true) : ys = sortS xs :=
  List.Perm.eq_of_pairwise (fun a b _ _ h1 h2 => leS_anti h1 h2) (sorted_le ys h) (sortS_sorted xs) (p.trans (sortS_perm xs).symm)
end PL
end
section
set_option maxHeartbeats 2000000
namespace PL
open PySem PySem.Spec PyProof.Rows L2
section
variable {X : Cx}
theorem OpR.imp {f : Value → Value → Sem Value} {r r' : R2} (h : OpR X f r) (q : ∀ x y H Q, r' x y H Q → r x y H Q) : OpR X f r' :=
  fun pins s σ H x y v u Q I r1 r2 w => h pins s σ H x y v u Q I r1 r2 (q x y H Q w)
theorem CallR.imp {f : Value} {r r' : List V → Hp → VK → Prop} (h : CallR X f r) (q : ∀ xs H Q, r' xs H Q → r xs H Q) : CallR X f r' :=
  fun pins s σ H vs us Q I r1 w => h pins s σ H vs us Q I r1 (q vs H Q w)
end
/-! ### two values -/
def t2 (K : PySem.W.Frag) (g : D → D → Option D) : R2 := fun x y H Q => ∃ F G ρ S dx dy d, SOk K F G ρ S H ∧ DW K G H x dx ∧ DW K G H y dy ∧ g dx dy = some d ∧ Post K F G ρ S (.d d) Q
def t1 (K : PySem.W.Frag) (g : D → Option D) : V → Hp → VK → Prop := fun x H Q => ∃ F G ρ S dx d, SOk K F G ρ S H ∧ DW K G H x dx ∧ g dx = some d ∧ Post K F G ρ S (.d d) Q
section
variable {K : PySem.W.Frag} {G H : Hp} {v : V}
theorem DW.int {i : Int} (h : DW K G H v (.int i)) : v = .int i := by
  rcases h with h | ⟨_, _, _, e, _⟩
  · cases h; rfl
  · cases e
theorem DW.str {i : Str} (h : DW K G H v (.str i)) : v = .str i := by
  rcases h with h | ⟨_, _, _, e, _⟩
  · cases h; rfl
  · cases e
theorem DW.bl {i : Bool} (h : DW K G H v (.bool i)) : v = .bl i := by
  rcases h with h | ⟨_, _, _, e, _⟩
  · cases h; rfl
  · cases e
theorem DW.non (h : DW K G H v .none) : v = .non := by
  rcases h with h | ⟨_, _, _, e, _⟩
  · cases h; rfl
  · cases e
theorem DW.nodict {ks : List (D × D)} (h : DW K G H v (.dict ks)) : False := by
  rcases h with h | ⟨_, _, _, e, _⟩
  · cases h
  · cases e
end
theorem Post.int {K : PySem.W.Frag} {F G : Hp} {ρ : List Addr} {S : Sto} {H : Hp} {Q : VK} {i : Int} (h : Post K F G ρ S (.d (.int i)) Q) (s : SOk K F G ρ S H) : Q (.int i) H := h.now s (.int i)
theorem Post.str {K : PySem.W.Frag} {F G : Hp} {ρ : List Addr} {S : Sto} {H : Hp} {Q : VK} {i : Str} (h : Post K F G ρ S (.d (.str i)) Q) (s : SOk K F G ρ S H) : Q (.str i) H := h.now s (.str i)
theorem Post.bl {K : PySem.W.Frag} {F G : Hp} {ρ : List Addr} {S : Sto} {H : Hp} {Q : VK} {i : Bool} (h : Post K F G ρ S (.d (.bool i)) Q) (s : SOk K F G ρ S H) : Q (.bl i) H := h.now s (.bl i)
/-- a new list of data -/
theorem Post.lst {K : PySem.W.Frag} {F G : Hp} {ρ : List Addr} {S : Sto} {H : Hp} {Q : VK} {ds : List D} {vs : List V} (h : Post K F G ρ S (.d (.list ds)) Q) (s : SOk K F G ρ S H) (a : DVs K G vs ds) : ∀ p, H p = none → Q (.ref p) (upd H p (.lst vs)) :=
  h.dnew s fun p G' e q => .lst q (dvs_mono e _ _ a)
theorem Post.tup {K : PySem.W.Frag} {F G : Hp} {ρ : List Addr} {S : Sto} {H : Hp} {Q : VK} {ds : List D} {vs : List V} (h : Post K F G ρ S (.d (.tuple ds)) Q) (s : SOk K F G ρ S H) (a : DVs K G vs ds) : ∀ p, H p = none → Q (.ref p) (upd H p (.tup vs)) :=
  h.dnew s fun p G' e q => .tup (.of q) (dvs_mono e _ _ a)
theorem sqt_of {K : PySem.W.Frag} {F G : Hp} {ρ : List Addr} {S : Sto} {H : Hp} {a : Addr} {vs : List V} {ds : List D} {v : V} (s : SOk K F G ρ S H) (h : DW K G H v (.tuple ds)) : ∃ a vs, v = .ref a ∧ SqT K G a vs ∧ DVs K G vs ds := by
  rcases h with h | ⟨_, _, _, e, _⟩
  · cases h with | tup h1 h2 => exact ⟨_, _, rfl, h1, h2⟩
  · cases e
theorem tup_of {K : PySem.W.Frag} {G H : Hp} {ds : List D} {v : V} (h : DW K G H v (.tuple ds)) : ∃ a vs, v = .ref a ∧ SqT K G a vs ∧ DVs K G vs ds := by
  rcases h with h | ⟨_, _, _, e, _⟩
  · cases h with | tup h1 h2 => exact ⟨_, _, rfl, h1, h2⟩
  · cases e
def gAdd : D → D → Option D
  | .int i, .int j => some (.int (i + j))
  | .str a, .str b => if a.length + b.length ≤ sizeLine then some (.str (a ++ b)) else none
  | .tuple a, .tuple b => if a.length + b.length ≤ sizeLine then some (.tuple (a ++ b)) else none
  | .list a, .list b => if a.length + b.length ≤ sizeLine then some (.list (a ++ b)) else none
  | _, _ => none
def gSub : D → D → Option D
  | .int i, .int j => some (.int (i - j))
  | _, _ => none
def gMul : D → D → Option D
  | .int i, .int j => if i.natAbs.log2 + j.natAbs.log2 < 1000000 then some (.int (i * j)) else none
  | .list xs, .int k => if -(2 ^ 63) ≤ k ∧ k < 2 ^ 63 ∧ xs.length * k.toNat ≤ sizeLine then some (.list (List.replicate k.toNat xs).flatten) else none
  | _, _ => none
def gDiv : D → D → Option D
  | .int i, .int j => if 0 < j ∧ j.natAbs.log2 < 9000 then some (.int (i / j)) else none
  | _, _ => none
def gMod : D → D → Option D
  | .int i, .int j => if 0 < j then some (.int (i % j)) else none
  | _, _ => none
def gPow : D → D → Option D
  | .int i, .int j => if 0 ≤ j ∧ j ≤ 1000000 ∧ i.natAbs < 2 ^ 64 then some (.int (i ^ j.toNat)) else none
  | _, _ => none
theorem some_if {α : Type} {c : Prop} [Decidable c] {x y : α} (h : (if c then some x else none) = some y) : c ∧ x = y := by
  by_cases hc : c
  · rw [if_pos hc] at h; exact ⟨hc, Option.some.inj h⟩
  · rw [if_neg hc] at h; cases h
section
variable {X : Cx}
theorem o_add : OpR X (binaryOp .Add) (t2 X.K gAdd) := by
  refine OpR.imp (op_add.or (op_add_str.or (op_catA.or op_cat))) fun x y H Q h => ?_
  obtain ⟨F, G, ρ, S, dx, dy, d, s, hx, hy, e, q⟩ := h
  unfold gAdd at e
  split at e
  · cases e; cases hx.int; cases hy.int
    exact .inl ⟨_, _, rfl, rfl, q.int s⟩
  · obtain ⟨c, rfl⟩ := some_if e
    cases hx.str; cases hy.str
    exact .inr (.inl ⟨_, _, rfl, rfl, c, q.str s⟩)
  · obtain ⟨c, rfl⟩ := some_if e
    obtain ⟨a, vs, rfl, h1, h2⟩ := tup_of hx
    obtain ⟨b, ws, rfl, k1, k2⟩ := tup_of hy
    refine .inr (.inr (.inl ⟨a, b, vs, ws, rfl, rfl, Same.sqt s.subG h1, Same.sqt s.subG k1, by rw [dvs_len h2, dvs_len k2]; exact c, fun z => ?_, fun z1 z2 => ?_, fun z1 z2 => ?_⟩))
    · subst z; cases h2
      exact q.now s (.tup k1 k2)
    · subst z2; cases k2
      rw [List.append_nil] at q
      exact q.now s (.tup h1 h2)
    · exact q.tup s (dvs_app h2 k2)
  · obtain ⟨c, rfl⟩ := some_if e
    obtain ⟨a, vs, rfl, h1, h2⟩ := hx.lst s
    obtain ⟨b, ws, rfl, k1, k2⟩ := hy.lst s
    exact .inr (.inr (.inr ⟨a, b, vs, ws, rfl, rfl, h1, k1, by rw [dvs_len h2, dvs_len k2]; exact c, q.lst s (dvs_app h2 k2)⟩))
  · cases e
theorem o_sub : OpR X (binaryOp .Sub) (t2 X.K gSub) := by
  refine OpR.imp op_sub fun x y H Q h => ?_
  obtain ⟨F, G, ρ, S, dx, dy, d, s, hx, hy, e, q⟩ := h
  unfold gSub at e
  split at e
  · cases e; cases hx.int; cases hy.int
    exact ⟨_, _, rfl, rfl, q.int s⟩
  · cases e
theorem dvs_rep {K : PySem.W.Frag} {G : Hp} {vs : List V} {ds : List D} (h : DVs K G vs ds) : ∀ k : Nat, DVs K G (List.replicate k vs).flatten (List.replicate k ds).flatten
  | 0 => .nil
  | k + 1 => by
    rw [List.replicate_succ, List.replicate_succ, List.flatten_cons, List.flatten_cons]
    exact dvs_app h (dvs_rep h k)
theorem o_mul : OpR X (binaryOp .Mult) (t2 X.K gMul) := by
  refine OpR.imp (op_mulW.or op_rep) fun x y H Q h => ?_
  obtain ⟨F, G, ρ, S, dx, dy, d, s, hx, hy, e, q⟩ := h
  unfold gMul at e
  split at e
  · obtain ⟨c, rfl⟩ := some_if e
    cases hx.int; cases hy.int
    exact .inl ⟨_, _, rfl, rfl, c, q.int s⟩
  · obtain ⟨c, rfl⟩ := some_if e
    obtain ⟨a, vs, rfl, h1, h2⟩ := hx.lst s
    cases hy.int
    exact .inr ⟨a, _, vs, rfl, rfl, h1, c.1, c.2.1, by rw [dvs_len h2]; exact c.2.2, q.lst s (dvs_rep h2 _)⟩
  · cases e
theorem o_div : OpR X (binaryOp .FloorDiv) (t2 X.K gDiv) := by
  refine OpR.imp op_fdivW fun x y H Q h => ?_
  obtain ⟨F, G, ρ, S, dx, dy, d, s, hx, hy, e, q⟩ := h
  unfold gDiv at e
  split at e
  · obtain ⟨c, rfl⟩ := some_if e
    cases hx.int; cases hy.int
    exact ⟨_, _, rfl, rfl, c, q.int s⟩
  · cases e
theorem o_mod : OpR X (binaryOp .Mod) (t2 X.K gMod) := by
  refine OpR.imp op_mod fun x y H Q h => ?_
  obtain ⟨F, G, ρ, S, dx, dy, d, s, hx, hy, e, q⟩ := h
  unfold gMod at e
  split at e
  · obtain ⟨c, rfl⟩ := some_if e
    cases hx.int; cases hy.int
    exact ⟨_, _, rfl, rfl, c, q.int s⟩
  · cases e
theorem o_pow : OpR X (binaryOp .Pow) (t2 X.K gPow) := by
  refine OpR.imp op_pow fun x y H Q h => ?_
  obtain ⟨F, G, ρ, S, dx, dy, d, s, hx, hy, e, q⟩ := h
  unfold gPow at e
  split at e
  · obtain ⟨c, rfl⟩ := some_if e
    cases hx.int; cases hy.int
    exact ⟨_, _, rfl, rfl, c, q.int s⟩
  · cases e
end
/-! ### comparisons -/
def bothS : D → D → Bool
  | .str _, .str _ => true
  | _, _ => false
theorem bothS_ok {x y : D} (h : bothS x y = true) : ∃ a b, x = .str a ∧ y = .str b := by
  unfold bothS at h
  split at h
  · exact ⟨_, _, rfl, rfl⟩
  · cases h
def gEq (x y : D) : Option D := if bothS x y = true ∨ (SeqAt.shaped x = true ∧ SeqAt.shaped y = true) then some (.bool (PyData.eqv x y)) else none
def gNe (x y : D) : Option D := if bothS x y = true ∨ (SeqAt.shaped x = true ∧ SeqAt.shaped y = true) then some (.bool (!PyData.eqv x y)) else none
def gLt : D → D → Option D
  | .int i, .int j => some (.bool (decide (i < j)))
  | .str a, .str b => some (.bool (decide (a.cps.toList < b.cps.toList)))
  | _, _ => none
def gLe : D → D → Option D
  | .int i, .int j => some (.bool (decide (i ≤ j)))
  | .str a, .str b => some (.bool (!decide (b.cps.toList < a.cps.toList)))
  | _, _ => none
def gGt : D → D → Option D
  | .int i, .int j => some (.bool (decide (j < i)))
  | .str a, .str b => some (.bool (decide (b.cps.toList < a.cps.toList)))
  | _, _ => none
def gGe : D → D → Option D
  | .int i, .int j => some (.bool (decide (j ≤ i)))
  | .str a, .str b => some (.bool (!decide (a.cps.toList < b.cps.toList)))
  | _, _ => none
def flatD : D → Bool
  | .none => true
  | .bool _ => true
  | .int _ => true
  | .str _ => true
  | _ => false
def items : D → Option (List D)
  | .list xs => some xs
  | .tuple xs => some xs
  | _ => none
def inSeq (x : D) (ys : List D) : Option Bool := if (ys.all flatD = true ∧ flatD x = true) ∨ (SeqAt.shaped x = true ∧ SeqAt.shaped (.list ys) = true) then some (ys.any fun y => PyData.eqv y x) else none
def inB : D → D → Option Bool
  | x, .list ys => inSeq x ys
  | x, .tuple ys => inSeq x ys
  | .str c, .str z => match c.cps.toList with
    | [n] => some (decide (n ∈ z.cps.toList))
    | _ => some (!(Builtin.Str.occurrences z c 0 z.length 1).isEmpty)
  | _, _ => none
def gIn (x y : D) : Option D := (inB x y).map .bool
def gNotIn (x y : D) : Option D := (inB x y).map fun b => .bool (!b)
def isNon : D → Bool
  | .none => true
  | _ => false
def gIs : D → D → Option D
  | x, .none => some (.bool (isNon x))
  | .bool a, .bool b => some (.bool (decide (a = b)))
  | _, _ => none
def gIsNot : D → D → Option D
  | x, .none => some (.bool (!isNon x))
  | .bool a, .bool b => some (.bool (!decide (a = b)))
  | _, _ => none
theorem flatV_of {K : PySem.W.Frag} {G : Hp} {v : V} {d : D} (h : DV K G v d) (f : flatD d = true) : flatV v = true := by
  cases h <;> first | rfl | cases f
theorem flatVs_of {K : PySem.W.Frag} {G : Hp} : ∀ {vs : List V} {ds : List D}, DVs K G vs ds → ds.all flatD = true → vs.all flatV = true
  | _, _, .nil, _ => rfl
  | _, _, .cons h t, f => by
    rw [List.all_cons, Bool.and_eq_true] at f ⊢
    exact ⟨flatV_of h f.1, flatVs_of t f.2⟩
theorem eqV_of {K : PySem.W.Frag} {G : Hp} {v w : V} {d e : D} (h : DV K G v d) (k : DV K G w e) (f : flatD d = true) (f' : flatD e = true) : eqV v w = PyData.eqv d e := by
  cases h <;> first | (cases f; done) | (cases k <;> first | (cases f'; done) | rfl | simp [eqV, PyData.eqv])
theorem any_of {K : PySem.W.Frag} {G : Hp} {w : V} {e : D} (k : DV K G w e) (f' : flatD e = true) : ∀ {vs : List V} {ds : List D}, DVs K G vs ds → ds.all flatD = true → (vs.any fun y => eqV y w) = ds.any fun y => PyData.eqv y e
  | _, _, .nil, _ => rfl
  | _, _, .cons h t, f => by
    rw [List.all_cons, Bool.and_eq_true] at f
    rw [List.any_cons, List.any_cons, eqV_of h k f.1 f', any_of k f' t f.2]
section
variable {X : Cx}
theorem shapedL {x : D} : SeqAt.shaped x = true → SeqAt.shaped x = true := id
theorem o_eq (hu : X.A.units + 64 < cLine) : OpR X (compareOp .Eq) (t2 X.K gEq) := by
  refine OpR.imp ((op_eqD hu).or op_eq) fun x y H Q h => ?_
  obtain ⟨F, G, ρ, S, dx, dy, d, s, hx, hy, e, q⟩ := h
  obtain ⟨c, rfl⟩ := some_if e
  rcases c with c | c
  · obtain ⟨a, b, rfl, rfl⟩ := bothS_ok c
    cases hx.str
    cases hy.str
    refine .inr ⟨rfl, ?_⟩
    rw [dec_str]
    exact q.bl s
  · exact .inl ⟨dx, dy, hx.dp s, hy.dp s, c.1, c.2, q.bl s⟩
theorem o_ne (hu : X.A.units + 64 < cLine) : OpR X (compareOp .NotEq) (t2 X.K gNe) := by
  refine OpR.imp ((op_neD hu).or op_ne) fun x y H Q h => ?_
  obtain ⟨F, G, ρ, S, dx, dy, d, s, hx, hy, e, q⟩ := h
  obtain ⟨c, rfl⟩ := some_if e
  rcases c with c | c
  · obtain ⟨a, b, rfl, rfl⟩ := bothS_ok c
    cases hx.str
    cases hy.str
    refine .inr ⟨rfl, ?_⟩
    rw [dec_str]
    exact q.bl s
  · exact .inl ⟨dx, dy, hx.dp s, hy.dp s, c.1, c.2, q.bl s⟩
theorem o_lt : OpR X (compareOp .Lt) (t2 X.K gLt) := by
  refine OpR.imp (op_lt.or op_lt_str) fun x y H Q h => ?_
  obtain ⟨F, G, ρ, S, dx, dy, d, s, hx, hy, e, q⟩ := h
  unfold gLt at e
  split at e
  · cases e; cases hx.int; cases hy.int; exact .inl ⟨_, _, rfl, rfl, q.bl s⟩
  · cases e; cases hx.str; cases hy.str; exact .inr ⟨_, _, rfl, rfl, q.bl s⟩
  · cases e
theorem o_le : OpR X (compareOp .LtE) (t2 X.K gLe) := by
  refine OpR.imp (op_le.or op_le_str) fun x y H Q h => ?_
  obtain ⟨F, G, ρ, S, dx, dy, d, s, hx, hy, e, q⟩ := h
  unfold gLe at e
  split at e
  · cases e; cases hx.int; cases hy.int; exact .inl ⟨_, _, rfl, rfl, q.bl s⟩
  · cases e; cases hx.str; cases hy.str; exact .inr ⟨_, _, rfl, rfl, q.bl s⟩
  · cases e
theorem o_gt : OpR X (compareOp .Gt) (t2 X.K gGt) := by
  refine OpR.imp (op_gt.or op_gt_str) fun x y H Q h => ?_
  obtain ⟨F, G, ρ, S, dx, dy, d, s, hx, hy, e, q⟩ := h
  unfold gGt at e
  split at e
  · cases e; cases hx.int; cases hy.int; exact .inl ⟨_, _, rfl, rfl, q.bl s⟩
  · cases e; cases hx.str; cases hy.str; exact .inr ⟨_, _, rfl, rfl, q.bl s⟩
  · cases e
theorem o_ge : OpR X (compareOp .GtE) (t2 X.K gGe) := by
  refine OpR.imp (op_ge.or op_ge_str) fun x y H Q h => ?_
  obtain ⟨F, G, ρ, S, dx, dy, d, s, hx, hy, e, q⟩ := h
  unfold gGe at e
  split at e
  · cases e; cases hx.int; cases hy.int; exact .inl ⟨_, _, rfl, rfl, q.bl s⟩
  · cases e; cases hx.str; cases hy.str; exact .inr ⟨_, _, rfl, rfl, q.bl s⟩
  · cases e
theorem flat_depth : ∀ {ys : List D}, ys.all flatD = true → PyData.depthAll ys = 0
  | [], _ => by simp [PyData.depthAll]
  | y :: r, h => by
    rw [List.all_cons, Bool.and_eq_true] at h
    cases y <;> first | (simp [flatD] at h; done) | simp [PyData.depthAll, PyData.depth, flat_depth h.2]
theorem dep_of_shaped {ds : List D} (h : SeqAt.shaped (.list ds) = true) : PyData.depthAll ds ≤ 63 := by
  unfold SeqAt.shaped at h
  rw [Bool.and_eq_true, decide_eq_true_eq] at h
  have := h.2
  simp only [PyData.depth] at this
  omega
/-- in, not in a list or a tuple of flat things, of anything -/
def rDp (neg : Bool) (X : Cx) : R2 := fun x y H Q => X.A.units + 64 < cLine ∧ ∃ d ds, Dp X.K H x d ∧ (Dp X.K H y (.list ds) ∨ Dp X.K H y (.tuple ds)) ∧ SeqAt.shaped d = true ∧ SeqAt.shaped (.list ds) = true ∧ Q (.bl (if neg then !(ds.any fun z => PyData.eqv z d) else ds.any fun z => PyData.eqv z d)) H
theorem in_deep : OpR X (compareOp .In) (rDp false X) := by
  intro pins s σ H x y v u Q I rx ry h
  obtain ⟨hu, d, ds, hd, he, sd, se, q⟩ := h
  obtain ⟨as, r1⟩ := Dp.reads I d x v hd rx
  have hm : X.A.units + 1 + min (PyData.depthAll ds) d.depth < cLine := by have := dep_of_shaped se; omega
  rcases he with he | he
  · obtain ⟨bs, r2⟩ := Dp.reads I (.list ds) y u he ry
    exact SeqAt.in_list_reads r2 r1 (SeqAt.canLay_of_shaped se) (SeqAt.canLay_of_shaped sd) hm ⟨.bl _, H, I, rfl, q⟩
  · obtain ⟨bs, r2⟩ := Dp.reads I (.tuple ds) y u he ry
    exact SeqAt.in_tuple_reads r2 r1 (SeqAt.canLay_of_shaped se) (SeqAt.canLay_of_shaped sd) hm ⟨.bl _, H, I, rfl, q⟩
theorem notin_deep : OpR X (compareOp .NotIn) (rDp true X) := by
  intro pins s σ H x y v u Q I rx ry h
  obtain ⟨hu, d, ds, hd, he, sd, se, q⟩ := h
  obtain ⟨as, r1⟩ := Dp.reads I d x v hd rx
  have hm : X.A.units + 1 + min (PyData.depthAll ds) d.depth < cLine := by have := dep_of_shaped se; omega
  rcases he with he | he
  · obtain ⟨bs, r2⟩ := Dp.reads I (.list ds) y u he ry
    exact SeqAt.notIn_list_reads r2 r1 (SeqAt.canLay_of_shaped se) (SeqAt.canLay_of_shaped sd) hm ⟨.bl _, H, I, rfl, q⟩
  · obtain ⟨bs, r2⟩ := Dp.reads I (.tuple ds) y u he ry
    exact SeqAt.notIn_tuple_reads r2 r1 (SeqAt.canLay_of_shaped se) (SeqAt.canLay_of_shaped sd) hm ⟨.bl _, H, I, rfl, q⟩
/-- what in asks, by the value that the operator gives for the truth b -/
theorem in_cases {K : PySem.W.Frag} {F G : Hp} {ρ : List Addr} {S : Sto} {H : Hp} {x y : V} {dx dy : D} {b : Bool} (s : SOk K F G ρ S H) (hx : DW K G H x dx) (hy : DW K G H y dy) (e : inB dx dy = some b) :
    (∃ p vs, y = .ref p ∧ (SqL K H p vs ∨ SqT K H p vs) ∧ flatV x = true ∧ vs.all flatV = true ∧ inV x vs = b) ∨
    (∃ ds, (Dp K H y (.list ds) ∨ Dp K H y (.tuple ds)) ∧ SeqAt.shaped dx = true ∧ SeqAt.shaped (.list ds) = true ∧ (ds.any fun z => PyData.eqv z dx) = b) ∨
    (∃ (c : Nat) (z : Str), x = .str ⟨#[c]⟩ ∧ y = .str z ∧ decide (c ∈ z.cps.toList) = b) ∨
    (∃ i j, x = .str i ∧ y = .str j ∧ (!(Builtin.Str.occurrences j i 0 j.length 1).isEmpty) = b) := by
  have seq : ∀ {ys : List D} {p : Addr} {vs : List V}, inSeq dx ys = some b → DVs K G vs ys → (flatV x = true ∧ vs.all flatV = true ∧ inV x vs = b) ∨ (SeqAt.shaped dx = true ∧ SeqAt.shaped (.list ys) = true ∧ (ys.any fun z => PyData.eqv z dx) = b) := fun {ys p vs} e hv => by
    obtain ⟨c, rfl⟩ := some_if e
    rcases c with ⟨c1, c2⟩ | c2
    · rcases hx with hx | ⟨_, _, _, ex, _⟩
      · exact .inl ⟨flatV_of hx c2, flatVs_of hv c1, any_of hx c2 hv c1⟩
      · subst ex; exact absurd c2 (by simp [flatD])
    · exact .inr ⟨c2.1, c2.2, rfl⟩
  unfold inB at e
  split at e
  · obtain ⟨a, vs, rfl, h1, h2⟩ := hy.lst s
    rcases seq (p := a) e h2 with q | q
    · exact .inl ⟨a, vs, rfl, .inl (.of h1), q⟩
    · exact .inr (.inl ⟨_, .inl (hy.dp s), q⟩)
  · obtain ⟨a, vs, rfl, h1, h2⟩ := tup_of hy
    rcases seq (p := a) e h2 with q | q
    · exact .inl ⟨a, vs, rfl, .inr (Same.sqt s.subG h1), q⟩
    · exact .inr (.inl ⟨_, .inr (hy.dp s), q⟩)
  · rename_i c z
    cases hx.str; cases hy.str
    split at e
    · rename_i n hn
      cases e
      refine .inr (.inr (.inl ⟨n, _, ?_, rfl, rfl⟩))
      have : c = ⟨#[n]⟩ := by
        obtain ⟨a⟩ := c
        have h1 : a.toList = [n] := hn
        have h2 : a = #[n] := Array.ext' h1
        rw [h2]
      rw [this]
    · cases e
      exact .inr (.inr (.inr ⟨_, _, rfl, rfl, rfl⟩))
  · cases e
theorem o_in (hu : X.A.units + 64 < cLine) : OpR X (compareOp .In) (t2 X.K gIn) := by
  refine OpR.imp (op_in_seq.or (in_deep.or (op_in_sign.or op_in_str))) fun x y H Q h => ?_
  obtain ⟨F, G, ρ, S, dx, dy, d, s, hx, hy, e, q⟩ := h
  obtain ⟨b, eb, rfl⟩ := Option.map_eq_some_iff.mp e
  rcases in_cases s hx hy eb with ⟨p, vs, rfl, h1, h2, h3, rfl⟩ | ⟨ds, h1, h2, h3, rfl⟩ | ⟨c, z, rfl, rfl, rfl⟩ | ⟨i, j, rfl, rfl, rfl⟩
  · exact .inl ⟨p, vs, rfl, h1, h2, h3, q.bl s⟩
  · exact .inr (.inl ⟨hu, _, _, hx.dp s, h1, h2, h3, q.bl s⟩)
  · exact .inr (.inr (.inl ⟨c, z, rfl, rfl, q.bl s⟩))
  · exact .inr (.inr (.inr ⟨i, j, rfl, rfl, q.bl s⟩))
theorem o_notin (hu : X.A.units + 64 < cLine) : OpR X (compareOp .NotIn) (t2 X.K gNotIn) := by
  refine OpR.imp (op_notIn_seq.or (notin_deep.or (op_notIn_sign.or op_notIn_str))) fun x y H Q h => ?_
  obtain ⟨F, G, ρ, S, dx, dy, d, s, hx, hy, e, q⟩ := h
  obtain ⟨b, eb, rfl⟩ := Option.map_eq_some_iff.mp e
  rcases in_cases s hx hy eb with ⟨p, vs, rfl, h1, h2, h3, rfl⟩ | ⟨ds, h1, h2, h3, rfl⟩ | ⟨c, z, rfl, rfl, rfl⟩ | ⟨i, j, rfl, rfl, rfl⟩
  · exact .inl ⟨p, vs, rfl, h1, h2, h3, q.bl s⟩
  · exact .inr (.inl ⟨hu, _, _, hx.dp s, h1, h2, h3, q.bl s⟩)
  · exact .inr (.inr (.inl ⟨c, z, rfl, rfl, q.bl s⟩))
  · exact .inr (.inr (.inr ⟨i, j, rfl, rfl, q.bl s⟩))
theorem isNon_of {K : PySem.W.Frag} {G H : Hp} {v : V} {d : D} (h : DW K G H v d) : decide (v = .non) = isNon d := by
  rcases h with h | ⟨a, vs, xs, rfl, rfl, _⟩
  · cases h <;> first | rfl | simp [isNon]
  · simp [isNon]
theorem o_is : OpR X (compareOp .Is) (t2 X.K gIs) := by
  refine OpR.imp (op_isN.or op_is_bl) fun x y H Q h => ?_
  obtain ⟨F, G, ρ, S, dx, dy, d, s, hx, hy, e, q⟩ := h
  unfold gIs at e
  split at e
  · cases e
    refine .inl ⟨hy.non, ?_⟩
    rw [isNon_of hx]; exact q.bl s
  · cases e
    exact .inr ⟨_, _, hx.bl, hy.bl, q.bl s⟩
  · cases e
theorem o_isnot : OpR X (compareOp .IsNot) (t2 X.K gIsNot) := by
  refine OpR.imp (op_notN.or op_isnot_bl) fun x y H Q h => ?_
  obtain ⟨F, G, ρ, S, dx, dy, d, s, hx, hy, e, q⟩ := h
  unfold gIsNot at e
  split at e
  · cases e
    refine .inl ⟨hy.non, ?_⟩
    rw [isNon_of hx]; exact q.bl s
  · cases e
    exact .inr ⟨_, _, hx.bl, hy.bl, q.bl s⟩
  · cases e
/-- the operators of the text -/
def gBin : Operator → Option (D → D → Option D)
  | .Add => some gAdd
  | .Sub => some gSub
  | .Mult => some gMul
  | .FloorDiv => some gDiv
  | .Mod => some gMod
  | .Pow => some gPow
  | _ => none
theorem o_bin {op : Operator} {g : D → D → Option D} (h : gBin op = some g) : OpR X (binaryOp op) (t2 X.K g) := by
  cases op <;> first | (cases h; done) | (cases h; first | exact o_add | exact o_sub | exact o_mul | exact o_div | exact o_mod | exact o_pow)
def gCmp : CmpOp → D → D → Option D
  | .Eq => gEq
  | .NotEq => gNe
  | .Lt => gLt
  | .LtE => gLe
  | .Gt => gGt
  | .GtE => gGe
  | .In => gIn
  | .NotIn => gNotIn
  | .Is => gIs
  | .IsNot => gIsNot
theorem o_cmp (hu : X.A.units + 64 < cLine) (op : CmpOp) : OpR X (compareOp op) (t2 X.K (gCmp op)) := by
  cases op
  all_goals first | exact o_eq hu | exact o_ne hu | exact o_lt | exact o_le | exact o_gt | exact o_ge | exact o_in hu | exact o_notin hu | exact o_is | exact o_isnot
end
end PL
end
section
set_option maxHeartbeats 2000000
/-! numbered walks over a tuple and over a text; list(text) -/
namespace PLT
open PySem PySem.Spec PyProof.Rows L2
set_option maxHeartbeats 1000000 in
theorem new_numbered {v : Value} {o : Obj} {J : Heap → Prop} (B : Begins v o J) :
    Meets (Builtin.«enumerate.__new__» ⟨[.type "enumerate", v], []⟩) (fun _ R s => J s.heap ∧
      R (.ok (.ret (.ref (s.heap.push o).objs.size))) { s with heap := (s.heap.push o).push { cls := .type "enumerate", data := .fields #[.none, .bool false, .ref s.heap.objs.size, rawInt 0, .none, .none] } }) :=
  .of_wp fun prog w A R s h => by
    obtain ⟨hp, ge, di, tk, ou⟩ := s; obtain ⟨h1, h⟩ := h
    have sb := sub_enumerate
    have go : ∀ {A' : Around} {E Q : Value → Shared → Prop}, Q (.ref hp.objs.size) ⟨hp.push o, ge, di, tk, ou⟩ → wpAny (model prog w) A' (pyIter v) Q E ⟨hp, ge, di, tk, ou⟩ :=
      fun q => B.iter prog w _ _ ⟨hp, ge, di, tk, ou⟩ _ h1 q
    wp_walk using go
    refine wpAny_stack_any fun st => wpAny_pure ?_
    split
    · rename_i c _ _ _ _ _
      cases (c == Value.type "enumerate")
      · wp_walk using go
        exact ⟨_, rfl, h⟩
      · wp_walk using go
        exact ⟨_, rfl, h⟩
    · wp_walk using go
      exact ⟨_, rfl, h⟩
theorem call_numbered {prog : Program} {w : World} {A : Around} {E : Value → Shared → Prop} {s : Shared} {v : Value} {o : Obj} {J : Heap → Prop} {Q : Value → Shared → Prop} (B : Begins v o J) (h1 : J s.heap)
    (h : ∀ h', IsEnum h' (s.heap.objs.size + 1) s.heap.objs.size 0 .none → h'.get? s.heap.objs.size = some o → (∀ b u, s.heap.get? b = some u → h'.get? b = some u) → Q (.ref (s.heap.objs.size + 1)) { s with heap := h' }) :
    wpAny (model prog w) A (call (.type "enumerate") [v]) Q E s := by
  refine callType_new PySem.F.called_enumerate (by decide) (PySem.F.typeCall_enumerate_1 _) (PySem.F.newCall_enumerate_1 _) (fun obj => PySem.F.args_object_init_2 obj _) PySem.F.entry_enumerate_new (new_numbered B) ⟨h1, ?_⟩
  have sz : (s.heap.push o).objs.size = s.heap.objs.size + 1 := Heap.size_push ..
  show _ ∧ _
  rw [sz]
  have he : IsEnum ((s.heap.push o).push { cls := .type "enumerate", data := .fields #[.none, .bool false, .ref s.heap.objs.size, rawInt 0, .none, .none] }) (s.heap.objs.size + 1) s.heap.objs.size 0 .none := by
    have := Heap.get?_push_size (s.heap.push o) (o := { cls := .type "enumerate", data := .fields #[.none, .bool false, .ref s.heap.objs.size, rawInt 0, .none, .none] }) rfl
    rw [sz] at this
    exact this
  exact ⟨⟨_, he, rfl⟩, h _ he (Heap.get?_push_of_some _ (Heap.get?_push_size _ B.free)) fun b u x => Heap.get?_push_of_some _ (Heap.get?_push_of_some _ x)⟩
/-- the tuple at a, its items in new pairs with their places -/
def ItN (K : PySem.W.Frag) (a : Addr) : It :=
  ⟨fun i H => ∃ (xs : List V) (x : V), SqT K H a xs ∧ xs[i]? = some x, fun i H v H' => ∃ T x, v = .ref T ∧ H T = none ∧ H' = upd H T (.tup [.int (i : Nat), x]) ∧ ∀ xs, SqT K H a xs → xs[i]? = some x, fun i H => ∃ xs : List V, SqT K H a xs ∧ xs.length ≤ i⟩
/-- a walk that stands at its end -/
theorem ends_tup {prog : Program} {w : World} {A : Around} (hh : A.handled = none) (it t : Addr) (items : Array Value) (i : Nat) (hi : items[i]? = none) :
    Draws prog w A it [it, t] i (fun _ _ => False) (fun j h => j = i ∧ h.IsTupleIter it t i ∧ h.IsTuple t items) where
  live := fun _ _ st => let ⟨o, ho, _⟩ := st.2.1; ⟨o, ho⟩
  frame := fun _ _ _ st hk => ⟨st.1, st.2.1.at fun o e => hk it (by simp) o e, st.2.2.at fun o e => hk t (by simp) o e⟩
  item := fun j s Q E hj st hQ => absurd st.1 (Nat.ne_of_lt hj)
  done := fun s Q E st hE => wpAny_nextOf_tuple_end hh st.2.1 st.2.2 hi hE
theorem apart_tup {h : Heap} {t it : Addr} {items : Array Value} {a : Addr} {i : Nat} (p : h.IsTuple t items) (q : h.IsTupleIter it a i) : t ≠ it := fun z => by
  subst z
  obtain ⟨o, h1, h2, _⟩ := p
  obtain ⟨o', k1, k2, _⟩ := q
  rw [h1] at k1; cases k1
  rw [h2] at k2; injection k2 with z; exact absurd z (by decide)
theorem apart_enum {h : Heap} {t e it : Addr} {items : Array Value} {c : Int} {old : Value} (p : h.IsTuple t items) (q : IsEnum h e it c old) : e ≠ t := fun z => by
  subst z
  obtain ⟨o, h1, h2, _⟩ := p
  have q : h.get? e = _ := q
  rw [h1] at q; cases q
  injection (show Value.type "enumerate" = .type "tuple" from h2) with z
  exact absurd z (by decide)
theorem turn_num {P : Program} {w : World} {K : PySem.W.Frag} {elts : List Expr} {kk : Nat} {tpos : Pos} (a e it : Addr) :
    Turn P w K (.Tuple elts kk tpos) (ItN K a) [e, it] e (fun i h => (∃ old, IsEnum h e it ((i : Nat) : Int) old) ∧ h.IsTupleIter it a i ∧ e ≠ it) where
  mem := by simp
  obj := fun i h st b hb => by
    obtain ⟨⟨old, he⟩, ⟨o, ho, hc, hd⟩, _⟩ := st
    rcases (by simpa using hb : b = e ∨ b = it) with z | z
    · rw [z]; exact ⟨_, he, fun v q => nomatch q⟩
    · rw [z]; exact ⟨o, ho, fun v q => by rw [hd] at q; cases q⟩
  keep := fun i h h' st k => let ⟨⟨old, he⟩, hi, hne⟩ := st; ⟨⟨old, k e (by simp) _ he⟩, hi.at fun o q => k it (by simp) o q, hne⟩
  item := by
    intro X hP hw hK hc i pins s σ H E I hf st hg
    subst hP hw hK
    obtain ⟨⟨old, he⟩, hit, hne⟩ := st
    obtain ⟨xs, x, hq, hx⟩ := hg
    obtain ⟨its, rv, p, hz⟩ := I.tuple hq
    have p : s.heap.IsTuple a its.toArray := p
    obtain ⟨u, hu, ru⟩ := rv.get hx
    have hel : e < s.heap.objs.size := Heap.lt_size he
    have hil : it < s.heap.objs.size := by obtain ⟨_, q, _⟩ := hit; exact Heap.lt_size q
    have hlt : i < its.toArray.size := by rw [List.size_toArray]; exact (List.getElem?_eq_some_iff.mp hu).1
    have hef : e ∉ [it, a] := fun z => by
      rcases (by simpa using z : e = it ∨ e = a) with z | z
      · exact hne z
      · exact apart_enum p he z
    refine wpAny_pyNext_enum_itemD (Draws.tuple (A := X.A.in1) (I.ok.hd hc) it a (apart_tup p hit) its.toArray) he ⟨hit, p⟩ hlt hne hef fun y h' tk hy ho st' hT hsz hk => ?_
    have ey : y = u := by
      have hu' : its.toArray[i]? = some u := by simpa using hu
      rw [hu'] at hy
      exact (Option.some.inj hy).symm
    subst ey
    refine ⟨_, rfl, wpAny_letOwnedTupleGo_enum (s := { s with heap := h', toks := tk + 1 }) ho fun h'' he' sb => ?_⟩
    have hT2 : h''.get? s.heap.objs.size = some { cls := .type "tuple", data := .seq #[.int i tk, y] } := (sb.2 _ (Nat.ne_of_gt hel)).trans hT
    have new : ObjOk X.prog X.w (upd H s.heap.objs.size (.tup [.int (i : Nat), x])) h'' s.heap.objs.size (.tup [.int (i : Nat), x]) :=
      ⟨by show 2 ≤ sizeLine; decide, [.int i tk, y], .cons ⟨_, rfl⟩ (.cons ru .nil), ⟨_, hT2, rfl, _, rfl⟩⟩
    have I1 : Inv X pins σ (upd H s.heap.objs.size (.tup [.int (i : Nat), x])) { s with heap := h'', toks := tk + 1 } :=
      I.turnedNew (ch := [e, it]) (fun b ob hb q => (sb.2 b (fun z => hb (by simp [z]))).trans (hk b ob (fun z => hb (by simp [z])) (fun z => hb (by simp [z])) q)) hf (Nat.le_refl _) new
    refine ⟨.ref s.heap.objs.size, _, I1, rfl, ⟨_, x, rfl, I.hok.fresh (Nat.le_refl _), rfl, fun ys hy => by rw [I.tuple_inj hy hq]; exact hx⟩, ⟨⟨y, ?_⟩, st'.1.at fun o q => (sb.2 it (Ne.symm hne)).trans q, hne⟩, fun b hb => ?_⟩
    · have e1 : ((i + 1 : Nat) : Int) = (i : Int) + 1 := by omega
      rw [e1]; exact he'
    · have hb' : b < s.heap.objs.size := by
        rcases (by simpa using hb : b = e ∨ b = it) with z | z
        · rw [z]; exact hel
        · rw [z]; exact hil
      rw [upd_ne (Nat.ne_of_lt hb')]
      exact (hf b hb).1
  done := by
    intro X hP hw hK hc i pins s σ H E I hf st hg
    subst hP hw hK
    obtain ⟨⟨old, he⟩, hit, hne⟩ := st
    obtain ⟨xs, hq, hx⟩ := hg
    obtain ⟨its, rv, p, hz⟩ := I.tuple hq
    obtain ⟨f0, f1, f2, f3, f4, f5⟩ := hf it (by simp)
    have hl := rv.length
    have hn : its.toArray[i]? = none := by simp; omega
    exact wpAny_pyNext_enum_endD (ends_tup (A := X.A.in1) (I.ok.hd hc) it a its.toArray i hn) he ⟨rfl, hit, p⟩ fun h' eb => ⟨rfl, I.turned (t' := s.toks) (fun b o hb q => eb b o hb q) f0 f1 f3 f4 f5⟩
  self := fun A i s Q E st h => let ⟨⟨_, he⟩, _⟩ := st; wpAny_pyIter_enum he h
def iNum (K : PySem.W.Frag) (ta : TA) : TI := fun σ H R => ta σ H fun vs H1 => ∃ a xs, vs = [.ref a] ∧ SqT K H1 a xs ∧ R (ItN K a) H1
theorem pi_num {X : Cx} {e : Expr} {ta : TA} {p pos tpos : Pos} {elts : List Expr} {kk : Nat} (hg : Gl X "enumerate") (hm : X.mg "enumerate" = none) (ha : PA X [e] ta) (hs : starEach [e] X.env = [(false, eval e X.env)] := by rfl) :
    PI X (.Tuple elts kk tpos) (.Call (.Name "enumerate" p) [e] [] pos) (iNum X.K ta) := by
  refine ⟨fun pins s σ H R I h => ?_⟩
  refine Call_ (ld_blt I hg hm boot_enumerate (PyProof.Rows.callWith_type1 (thn (ha.run pos pins s σ H _ I h) fun us s1 ⟨vs, H1, I1, r1, q1⟩ => ?_) hs rfl))
  obtain ⟨a, xs, rfl, hq, q⟩ := q1
  cases r1 with
  | cons r rr =>
    cases rr
    cases r
    obtain ⟨its, rv, p', hz⟩ := I1.tuple hq
    have p' : s1.heap.IsTuple a its.toArray := p'
    refine call_numbered (begins_tuple a its.toArray) p' fun h' he hit hk => wpAny_pyIter_enum he ?_
    have I2 : Inv X pins σ H1 { s1 with heap := h' } := I1.kept (t' := s1.toks) hk
    refine ⟨s1.heap.objs.size + 1, [s1.heap.objs.size + 1, s1.heap.objs.size], _, _, H1, rfl, I2, turn_num a (s1.heap.objs.size + 1) s1.heap.objs.size, ⟨⟨.none, he⟩, ⟨_, hit, rfl, rfl⟩, Nat.succ_ne_self _⟩, fun b hb => ?_, q⟩
    have hle : s1.heap.objs.size ≤ b := by
      rcases (by simpa using hb : b = s1.heap.objs.size + 1 ∨ b = s1.heap.objs.size) with z | z
      · rw [z]; exact Nat.le_add_right _ _
      · rw [z]; exact Nat.le_refl _
    exact I1.fpOk hle (I1.hok.fresh hle)
end PLT
end
section
set_option maxHeartbeats 2000000
namespace PLT
open PySem PySem.Spec PyProof.Rows L2
/-- the text z, its signs in new pairs with their places -/
def ItC (z : Str) : It :=
  ⟨fun i _ => i < z.cps.size, fun i H v H' => ∃ T c, v = .ref T ∧ H T = none ∧ H' = upd H T (.tup [.int (i : Nat), .str ⟨#[c]⟩]) ∧ z.cps[i]? = some c, fun i _ => z.cps.size ≤ i⟩
theorem ends_txt {prog : Program} {w : World} {A : Around} (hh : A.handled = none) (it : Addr) (x : Str) (t : Tok) (i : Nat) (hi : x.cps[i]? = none) :
    Draws prog w A it [it] i (fun _ _ => False) (fun j h => j = i ∧ h.IsStrIter it (strIterType x) x t i) where
  live := fun _ _ st => let ⟨o, ho, _⟩ := st.2; ⟨o, ho⟩
  frame := fun _ _ _ st hk => let ⟨o, ho, r⟩ := st.2; ⟨st.1, o, hk it (by simp) o ho, r⟩
  item := fun j s Q E hj st hQ => absurd st.1 (Nat.ne_of_lt hj)
  done := fun s Q E st hE => by
    have st := st.2
    unfold strIterType at st
    cases ha : x.cps.all (· < 128)
    · rw [ha] at st
      exact wpAny_nextOf_wide_end hh st hi hE
    · rw [ha] at st
      exact wpAny_nextOf_ascii_end hh st hi hE
theorem turn_txt {P : Program} {w : World} {K : PySem.W.Frag} {elts : List Expr} {kk : Nat} {tpos : Pos} (z : Str) (t : Tok) (e it : Addr) :
    Turn P w K (.Tuple elts kk tpos) (ItC z) [e, it] e (fun i h => (∃ old, IsEnum h e it ((i : Nat) : Int) old) ∧ h.IsStrIter it (strIterType z) z t i ∧ e ≠ it) where
  mem := by simp
  obj := fun i h st b hb => by
    obtain ⟨⟨old, he⟩, ⟨o, ho, hc, hd⟩, _⟩ := st
    rcases (by simpa using hb : b = e ∨ b = it) with z | z
    · rw [z]; exact ⟨_, he, fun v q => nomatch q⟩
    · rw [z]; exact ⟨o, ho, fun v q => by rw [hd] at q; cases q⟩
  keep := fun i h h' st k => let ⟨⟨old, he⟩, ⟨o, ho, r⟩, hne⟩ := st; ⟨⟨old, k e (by simp) _ he⟩, ⟨o, k it (by simp) o ho, r⟩, hne⟩
  item := by
    intro X hP hw hK hc i pins s σ H E I hf st hg
    subst hP hw hK
    obtain ⟨⟨old, he⟩, hit, hne⟩ := st
    have hel : e < s.heap.objs.size := Heap.lt_size he
    have hil : it < s.heap.objs.size := by obtain ⟨_, q, _⟩ := hit; exact Heap.lt_size q
    have hef : e ∉ [it] := fun z => hne (by simpa using z)
    refine wpAny_pyNext_enum_itemD (Draws.text (A := X.A.in1) (I.ok.hd hc) it z t) he hit hg hne hef fun y h' tk hy ho st' hT hsz hk => ?_
    obtain ⟨c, u, hc', rfl⟩ := hy
    refine ⟨_, rfl, wpAny_letOwnedTupleGo_enum (s := { s with heap := h', toks := tk + 1 }) ho fun h'' he' sb => ?_⟩
    have hT2 : h''.get? s.heap.objs.size = some { cls := .type "tuple", data := .seq #[.int i tk, .str ⟨#[c]⟩ u] } := (sb.2 _ (Nat.ne_of_gt hel)).trans hT
    have new : ObjOk X.prog X.w (upd H s.heap.objs.size (.tup [.int (i : Nat), .str ⟨#[c]⟩])) h'' s.heap.objs.size (.tup [.int (i : Nat), .str ⟨#[c]⟩]) :=
      ⟨by show 2 ≤ sizeLine; decide, [.int i tk, .str ⟨#[c]⟩ u], .cons ⟨_, rfl⟩ (.cons ⟨_, rfl⟩ .nil), ⟨_, hT2, rfl, _, rfl⟩⟩
    have I1 : Inv X pins σ (upd H s.heap.objs.size (.tup [.int (i : Nat), .str ⟨#[c]⟩])) { s with heap := h'', toks := tk + 1 } :=
      I.turnedNew (ch := [e, it]) (fun b ob hb q => (sb.2 b (fun z => hb (by simp [z]))).trans (hk b ob (fun z => hb (by simp [z])) (fun z => hb (by simp [z])) q)) hf (Nat.le_refl _) new
    obtain ⟨o2, ho2, r2⟩ := st'
    refine ⟨.ref s.heap.objs.size, _, I1, rfl, ⟨_, c, rfl, I.hok.fresh (Nat.le_refl _), rfl, hc'⟩, ⟨⟨.str ⟨#[c]⟩ u, ?_⟩, ⟨o2, (sb.2 it (Ne.symm hne)).trans ho2, r2⟩, hne⟩, fun b hb => ?_⟩
    · have e1 : ((i + 1 : Nat) : Int) = (i : Int) + 1 := by omega
      rw [e1]; exact he'
    · have hb' : b < s.heap.objs.size := by
        rcases (by simpa using hb : b = e ∨ b = it) with z | z
        · rw [z]; exact hel
        · rw [z]; exact hil
      rw [upd_ne (Nat.ne_of_lt hb')]
      exact (hf b hb).1
  done := by
    intro X hP hw hK hc i pins s σ H E I hf st hg
    subst hP hw hK
    obtain ⟨⟨old, he⟩, hit, hne⟩ := st
    obtain ⟨f0, f1, f2, f3, f4, f5⟩ := hf it (by simp)
    have hn : z.cps[i]? = none := Array.getElem?_eq_none hg
    exact wpAny_pyNext_enum_endD (ends_txt (A := X.A.in1) (I.ok.hd hc) it z t i hn) he ⟨rfl, hit⟩ fun h' eb => ⟨rfl, I.turned (t' := s.toks) (fun b o hb q => eb b o hb q) f0 f1 f3 f4 f5⟩
  self := fun A i s Q E st h => let ⟨⟨_, he⟩, _⟩ := st; wpAny_pyIter_enum he h
def iTxt (ta : TA) : TI := fun σ H R => ta σ H fun vs H1 => ∃ z, vs = [.str z] ∧ R (ItC z) H1
theorem pi_txt {X : Cx} {e : Expr} {ta : TA} {p pos tpos : Pos} {elts : List Expr} {kk : Nat} (hg : Gl X "enumerate") (hm : X.mg "enumerate" = none) (ha : PA X [e] ta) (hs : starEach [e] X.env = [(false, eval e X.env)] := by rfl) :
    PI X (.Tuple elts kk tpos) (.Call (.Name "enumerate" p) [e] [] pos) (iTxt ta) := by
  refine ⟨fun pins s σ H R I h => ?_⟩
  refine Call_ (ld_blt I hg hm boot_enumerate (PyProof.Rows.callWith_type1 (thn (ha.run pos pins s σ H _ I h) fun us s1 ⟨vs, H1, I1, r1, q1⟩ => ?_) hs rfl))
  obtain ⟨z, rfl, q⟩ := q1
  cases r1 with
  | cons r rr =>
    cases rr
    obtain ⟨t, rfl⟩ := r
    refine call_numbered (begins_text z t) trivial fun h' he hit hk => wpAny_pyIter_enum he ?_
    have I2 : Inv X pins σ H1 { s1 with heap := h' } := I1.kept (t' := s1.toks) hk
    refine ⟨s1.heap.objs.size + 1, [s1.heap.objs.size + 1, s1.heap.objs.size], _, _, H1, rfl, I2, turn_txt z t (s1.heap.objs.size + 1) s1.heap.objs.size, ⟨⟨.none, he⟩, ⟨_, hit, rfl, rfl⟩, Nat.succ_ne_self _⟩, fun b hb => ?_, q⟩
    have hle : s1.heap.objs.size ≤ b := by
      rcases (by simpa using hb : b = s1.heap.objs.size + 1 ∨ b = s1.heap.objs.size) with z | z
      · rw [z]; exact Nat.le_add_right _ _
      · rw [z]; exact Nat.le_refl _
    exact I1.fpOk hle (I1.hok.fresh hle)
/-- list(z) of a text -/
theorem c_listTxt {X : Cx} (hc : X.calm = true) : CallR X (.type "list") (fun xs H Q => ∃ z : Str, xs = [.str z] ∧ z.cps.size ≤ sizeLine ∧ ∀ p, H p = none → Q (.ref p) (upd H p (.lst (z.cps.toList.map fun c => V.str ⟨#[c]⟩)))) := by
  intro pins s σ H xs us Q I r h
  obtain ⟨z, ex, hz, q⟩ := h
  subst ex
  obtain ⟨u, eu, rx⟩ := vals1 r
  subst eu
  obtain ⟨t, rfl⟩ := rx
  refine call_list_str (I.ok.hd hc) z t (fun h' tk acc c' hk hD hacc => ?_) hz
  refine ⟨.ref s.heap.objs.size, upd H s.heap.objs.size (.lst (z.cps.toList.map fun c => V.str ⟨#[c]⟩)), I.laid (t' := tk) hk (Nat.le_refl _)
    (show ObjOk X.prog X.w _ _ _ (.lst (z.cps.toList.map fun c => V.str ⟨#[c]⟩)) from ⟨by rw [List.length_map, Array.length_toList]; exact hz, acc.toList, c', ?_, by rw [Array.toArray_toList]; exact hD⟩), rfl, q _ (I.hok.fresh (Nat.le_refl _))⟩
  refine vals_of_idx _ _ (by rw [List.length_map, Array.length_toList, Array.length_toList]; exact hacc.1) fun j u hj => ?_
  obtain ⟨c, t', hc, rfl⟩ := hacc.2 j u (by rw [← Array.getElem?_toList]; exact hj)
  exact ⟨.str ⟨#[c]⟩, by rw [List.getElem?_map, Array.getElem?_toList, hc]; rfl, ⟨_, rfl⟩⟩
end PLT
end
section
set_option maxHeartbeats 2000000
namespace PL
open PySem PySem.Spec PyProof.Rows L2
/-! ### truth -/
def truth : R → Sto → Option Bool
  | .d .none, _ => some false
  | .d (.bool b), _ => some b
  | .d (.int i), _ => some (i != 0)
  | .d (.str y), _ => if y.length ≤ sizeLine then some ((y.length : Int) != 0) else none
  | .d (.list xs), _ => some (!xs.isEmpty)
  | .d (.tuple xs), _ => some (!xs.isEmpty)
  | .d (.dict _), _ => none
  | .ref n, S => match S[n]? with
    | some (.lst xs) => some (!xs.isEmpty)
    | some (.dic ks) => some (!ks.isEmpty)
    | some (.mix ks) => some (!ks.isEmpty)
    | some (.dicL _) => none
    | none => none
  | .scr _, _ => none
theorem dvs_isE {K : PySem.W.Frag} {G : Hp} {vs : List V} {ds : List D} (h : DVs K G vs ds) : vs.isEmpty = ds.isEmpty := by cases h <;> rfl
theorem kd_isE {K : PySem.W.Frag} {G : Hp} {vs : List (Key × V)} {ds : List (Key × D)} (h : KD K G vs ds) : vs.isEmpty = ds.isEmpty := by cases h <;> rfl
theorem kr_isE {K : PySem.W.Frag} {G : Hp} {ρ : List Addr} {vs : List (Key × V)} {ds : List (Key × R)} (h : KR K G ρ vs ds) : vs.isEmpty = ds.isEmpty := by cases h <;> rfl
theorem truth_ok {K : PySem.W.Frag} {F G : Hp} {ρ : List Addr} {S : Sto} {H : Hp} (s : SOk K F G ρ S H) {r : R} {v : V} {k : Bool} (q : RV K G ρ r v) (e : truth r S = some k) : TruV K v H k := by
  cases r with
  | scr _ => cases e
  | d x =>
    cases q with
    | non => cases e; exact rfl
    | bl b => cases e; exact rfl
    | int i => cases e; exact rfl
    | str y => obtain ⟨c, rfl⟩ := some_if e; exact ⟨c, rfl⟩
    | lst h1 h2 => cases e; exact .inl ⟨_, .of (s.subG _ _ h1), by rw [dvs_isE h2]⟩
    | tup h1 h2 => cases e; exact .inr (.inl ⟨_, Same.sqt s.subG h1, by rw [dvs_isE h2]⟩)
  | ref n =>
    obtain ⟨a, ea, rfl⟩ := q
    simp only [truth] at e
    cases hs : S[n]? with
    | none => rw [hs] at e; cases e
    | some b =>
      rw [hs] at e
      obtain ⟨o, ho, hr⟩ := s.obj n b a hs ea
      cases b with
      | lst xs =>
        obtain ⟨vs, rfl, hv⟩ := hr
        cases e
        exact .inl ⟨vs, .of ho, by rw [dvs_isE hv]⟩
      | dic ks =>
        obtain ⟨kvs, rfl, hv⟩ := hr
        cases e
        exact .inr (.inr ⟨kvs, ho, by rw [kd_isE hv]⟩)
      | mix ks =>
        obtain ⟨kvs, rfl, hv⟩ := hr
        cases e
        exact .inr (.inr ⟨kvs, ho, by rw [kr_isE hv]⟩)
      | dicL ks => cases e
/-! ### one value -/
def gNeg : D → Option D
  | .int i => some (.int (-i))
  | _ => none
def gLen : D → Option D
  | .str z => if z.length ≤ sizeLine then some (.int z.length) else none
  | .list xs => some (.int xs.length)
  | .tuple xs => some (.int xs.length)
  | _ => none
def bools : List D → Option (List Bool)
  | [] => some []
  | .bool b :: r => (bools r).map (b :: ·)
  | _ :: _ => none
def gAll : D → Option D
  | .list xs => (bools xs).map fun bs => .bool (bs.all id)
  | _ => none
def gAny : D → Option D
  | .list xs => (bools xs).map fun bs => .bool (bs.any id)
  | _ => none
def gTuple : D → Option D
  | .list xs => some (.tuple xs)
  | .tuple xs => some (.tuple xs)
  | _ => none
def signs (z : Str) : List D := z.cps.toList.map fun c => .str ⟨#[c]⟩
theorem dvs_signs {K : PySem.W.Frag} {G : Hp} : ∀ l : List Nat, DVs K G (l.map fun c => V.str ⟨#[c]⟩) (l.map fun c => PyData.str ⟨#[c]⟩)
  | [] => .nil
  | c :: r => .cons (.str _) (dvs_signs r)
def gList : D → Option D
  | .list xs => some (.list xs)
  | .tuple xs => some (.list xs)
  | .str z => if z.cps.size ≤ sizeLine then some (.list (signs z)) else none
  | _ => none
def gInt : D → Option D
  | .int i => some (.int i)
  | .bool b => some (.int (if b then 1 else 0))
  | _ => none
def strsD : List D → Option (List Str)
  | [] => some []
  | .str b :: r => (strsD r).map (b :: ·)
  | _ :: _ => none
theorem bools_of {K : PySem.W.Frag} {G : Hp} : ∀ {ds : List D} {vs : List V} {bs : List Bool}, DVs K G vs ds → bools ds = some bs → vs = bs.map V.bl
  | [], _, _, h, e => by cases h; cases e; rfl
  | d :: ds, _, bs, h, e => by
    cases h with
    | cons h1 h2 =>
      cases h1 with
      | bl b =>
        have e : (bools ds).map (b :: ·) = some bs := e
        obtain ⟨cs, ec, rfl⟩ := Option.map_eq_some_iff.mp e
        rw [bools_of h2 ec]; rfl
      | _ => cases e
theorem strsD_of {K : PySem.W.Frag} {G : Hp} : ∀ {ds : List D} {vs : List V} {bs : List Str}, DVs K G vs ds → strsD ds = some bs → vs = bs.map V.str
  | [], _, _, h, e => by cases h; cases e; rfl
  | d :: ds, _, bs, h, e => by
    cases h with
    | cons h1 h2 =>
      cases h1 with
      | str b =>
        have e : (strsD ds).map (b :: ·) = some bs := e
        obtain ⟨cs, ec, rfl⟩ := Option.map_eq_some_iff.mp e
        rw [strsD_of h2 ec]; rfl
      | _ => cases e
def tc1 (K : PySem.W.Frag) (g : D → Option D) : List V → Hp → VK → Prop := fun vs H Q => ∃ x, vs = [x] ∧ t1 K g x H Q
section
variable {X : Cx}
theorem u_neg : UnR X (unaryOp .USub) (t1 X.K gNeg) := fun pins s σ H x v Q I r h => by
  obtain ⟨F, G, ρ, S, dx, d, s', hx, e, q⟩ := h
  refine un_neg pins s σ H x v Q I r ?_
  unfold gNeg at e
  split at e
  · cases e; cases hx.int; exact ⟨_, rfl, q.int s'⟩
  · cases e
theorem c_len : CallR X (.builtin "len") (tc1 X.K gLen) := by
  refine CallR.imp (call_len_seq.or call_len_str) fun xs H Q h => ?_
  obtain ⟨x, rfl, F, G, ρ, S, dx, d, s, hx, e, q⟩ := h
  unfold gLen at e
  split at e
  · obtain ⟨c, rfl⟩ := some_if e
    cases hx.str; exact .inr ⟨_, rfl, c, q.int s⟩
  · cases e
    obtain ⟨a, vs, rfl, h1, h2⟩ := hx.lst s
    refine .inl ⟨a, vs, rfl, .inl (.of h1), ?_⟩
    rw [dvs_len h2]; exact q.int s
  · cases e
    obtain ⟨a, vs, rfl, h1, h2⟩ := tup_of hx
    refine .inl ⟨a, vs, rfl, .inr (Same.sqt s.subG h1), ?_⟩
    rw [dvs_len h2]; exact q.int s
  · cases e
theorem c_all (hc : X.calm = true) : CallR X (.builtin "all") (tc1 X.K gAll) := by
  refine CallR.imp (cr_all hc) fun xs H Q h => ?_
  obtain ⟨x, rfl, F, G, ρ, S, dx, d, s, hx, e, q⟩ := h
  unfold gAll at e
  split at e
  · obtain ⟨bs, eb, rfl⟩ := Option.map_eq_some_iff.mp e
    obtain ⟨a, vs, rfl, h1, h2⟩ := hx.lst s
    cases bools_of h2 eb
    exact ⟨a, bs, rfl, .of h1, q.bl s⟩
  · cases e
theorem c_any (hc : X.calm = true) : CallR X (.builtin "any") (tc1 X.K gAny) := by
  refine CallR.imp (cr_any hc) fun xs H Q h => ?_
  obtain ⟨x, rfl, F, G, ρ, S, dx, d, s, hx, e, q⟩ := h
  unfold gAny at e
  split at e
  · obtain ⟨bs, eb, rfl⟩ := Option.map_eq_some_iff.mp e
    obtain ⟨a, vs, rfl, h1, h2⟩ := hx.lst s
    cases bools_of h2 eb
    exact ⟨a, bs, rfl, .of h1, q.bl s⟩
  · cases e
theorem c_tuple : CallR X (.type "tuple") (tc1 X.K gTuple) := by
  refine CallR.imp call_tuple_of fun xs H Q h => ?_
  obtain ⟨x, rfl, F, G, ρ, S, dx, d, s, hx, e, q⟩ := h
  unfold gTuple at e
  split at e
  · cases e
    obtain ⟨a, vs, rfl, h1, h2⟩ := hx.lst s
    exact ⟨a, vs, rfl, .inl ⟨.of h1, q.tup s h2⟩⟩
  · cases e
    obtain ⟨a, vs, rfl, h1, h2⟩ := tup_of hx
    exact ⟨a, vs, rfl, .inr ⟨Same.sqt s.subG h1, q.now s (.tup h1 h2)⟩⟩
  · cases e
theorem c_list (hc : X.calm = true) : CallR X (.type "list") (tc1 X.K gList) := by
  refine CallR.imp (call_list_of.or (PLT.c_listTxt hc)) fun xs H Q h => ?_
  obtain ⟨x, rfl, F, G, ρ, S, dx, d, s, hx, e, q⟩ := h
  unfold gList at e
  split at e
  · cases e
    obtain ⟨a, vs, rfl, h1, h2⟩ := hx.lst s
    exact .inl ⟨a, vs, rfl, .inl (.of h1), q.lst s h2⟩
  · cases e
    obtain ⟨a, vs, rfl, h1, h2⟩ := tup_of hx
    exact .inl ⟨a, vs, rfl, .inr (Same.sqt s.subG h1), q.lst s h2⟩
  · obtain ⟨c, rfl⟩ := some_if e
    cases hx.str
    exact .inr ⟨_, rfl, c, q.lst s (dvs_signs _)⟩
  · cases e
theorem c_int : CallR X (.type "int") (tc1 X.K gInt) := by
  refine CallR.imp call_int1 fun xs H Q h => ?_
  obtain ⟨x, rfl, F, G, ρ, S, dx, d, s, hx, e, q⟩ := h
  unfold gInt at e
  split at e
  · cases e; cases hx.int; exact .inl ⟨_, rfl, q.int s⟩
  · cases e; cases hx.bl; exact .inr ⟨_, rfl, q.int s⟩
  · cases e
end
/-! ### isinstance -/
def tyN : D → String
  | .none => "NoneType"
  | .bool _ => "bool"
  | .int _ => "int"
  | .str _ => "str"
  | .list _ => "list"
  | .tuple _ => "tuple"
  | .dict _ => "dict"
/-- the built-in classes that are asked for -/
inductive Ty where
  | int | bool | str | tuple | list
  deriving DecidableEq
def Ty.name : Ty → String
  | .int => "int"
  | .bool => "bool"
  | .str => "str"
  | .tuple => "tuple"
  | .list => "list"
def isTy : Ty → D → Bool
  | .int, .int _ => true
  | .int, .bool _ => true
  | .bool, .bool _ => true
  | .str, .str _ => true
  | .tuple, .tuple _ => true
  | .list, .list _ => true
  | _, _ => false
theorem kit_all (t : Ty) (d : D) (h : ∀ ks, d ≠ .dict ks) : kitB (tyN d) t.name = some (isTy t d) := by
  have k (a : String) (b : String) (r : Bool) (h : kitB a b = some r) : kitB a b = some r := h
  cases d <;> first | exact absurd rfl (h _) | (cases t <;> first | exact k "NoneType" "int" false (by decide +kernel) | exact k "NoneType" "bool" false (by decide +kernel) | exact k "NoneType" "str" false (by decide +kernel) | exact k "NoneType" "tuple" false (by decide +kernel) | exact k "NoneType" "list" false (by decide +kernel) | exact k "bool" "int" true (by decide +kernel) | exact k "bool" "bool" true (by decide +kernel) | exact k "bool" "str" false (by decide +kernel) | exact k "bool" "tuple" false (by decide +kernel) | exact k "bool" "list" false (by decide +kernel) | exact k "int" "int" true (by decide +kernel) | exact k "int" "bool" false (by decide +kernel) | exact k "int" "str" false (by decide +kernel) | exact k "int" "tuple" false (by decide +kernel) | exact k "int" "list" false (by decide +kernel) | exact k "str" "int" false (by decide +kernel) | exact k "str" "bool" false (by decide +kernel) | exact k "str" "str" true (by decide +kernel) | exact k "str" "tuple" false (by decide +kernel) | exact k "str" "list" false (by decide +kernel) | exact k "list" "int" false (by decide +kernel) | exact k "list" "bool" false (by decide +kernel) | exact k "list" "str" false (by decide +kernel) | exact k "list" "tuple" false (by decide +kernel) | exact k "list" "list" true (by decide +kernel) | exact k "tuple" "int" false (by decide +kernel) | exact k "tuple" "bool" false (by decide +kernel) | exact k "tuple" "str" false (by decide +kernel) | exact k "tuple" "tuple" true (by decide +kernel) | exact k "tuple" "list" false (by decide +kernel))
theorem tyX_of {K : PySem.W.Frag} {F G : Hp} {ρ : List Addr} {S : Sto} {H : Hp} (s : SOk K F G ρ S H) {v : V} {d : D} (h : DW K G H v d) : TyX K H v (.type (tyN d)) := by
  rcases h with h | ⟨a, vs, xs, rfl, rfl, h1, _⟩
  · cases h with
    | non => exact .base .non
    | bl b => exact .base (.bl b)
    | int i => exact .base (.int i)
    | str x => exact .base (.str x)
    | lst h1 _ => exact .base (.lst (s.subG _ _ h1))
    | tup h1 _ =>
      rcases h1 with (h1 | ⟨o, h1⟩) | ⟨o, its, n, h1, h2, _⟩
      · exact .base (.tup (s.subG _ _ h1))
      · exact .fTuple (s.subG _ _ h1)
      · exact .kTuple h1 h2
  · exact .base (.lst h1)
/-- the second argument is the class -/
def tIsi (K : PySem.W.Frag) (t : Ty) : List V → Hp → VK → Prop := fun vs H Q => ∃ x, vs = [x, .ty t.name] ∧ t1 K (fun d => some (.bool (isTy t d))) x H Q
theorem c_isi {X : Cx} (t : Ty) : CallR X (.builtin "isinstance") (tIsi X.K t) := by
  refine CallR.imp call_isi fun xs H Q h => ?_
  obtain ⟨x, rfl, F, G, ρ, S, dx, d, s, hx, e, q⟩ := h
  cases e
  exact ⟨x, .ty t.name, .type (tyN dx), .type t.name, isTy t dx, rfl, .ty _, tyX_of s hx, kit_ty (kit_all t dx fun ks z => by subst z; exact hx.nodict), q.bl s⟩
/-! ### items and parts -/
def cutL {α : Type} (xs : List α) (lo hi : Option Int) : List α := (xs.drop (HT.sIx xs.length 0 lo)).take (HT.sIx xs.length xs.length hi - HT.sIx xs.length 0 lo)
theorem cutV_eq (xs : List V) (lo hi : Option Int) : cutV xs lo hi = cutL xs lo hi := rfl
theorem dvs_cut {K : PySem.W.Frag} {G : Hp} {vs : List V} {ds : List D} (h : DVs K G vs ds) (lo hi : Option Int) : DVs K G (cutV vs lo hi) (cutL ds lo hi) := by
  rw [cutV_eq]; unfold cutL
  rw [dvs_len h]
  exact dvs_take _ (dvs_drop _ h)
theorem dvs_ints {K : PySem.W.Frag} {G : Hp} : ∀ ns : List Int, DVs K G (ns.map V.int) (ns.map PyData.int)
  | [] => .nil
  | n :: r => .cons (.int n) (dvs_ints r)
def slR : R → Option Int → Option Int → Sto → Option D
  | .scr ns, lo, hi, _ => some (.list ((cutL ns lo hi).map .int))
  | r, lo, hi, S => match view r S with
    | some (.list xs) => some (.list (cutL xs lo hi))
    | some (.tuple xs) => some (.tuple (cutL xs lo hi))
    | some (.str z) => if z.length ≤ sizeLine then some (.str (cutS z lo hi)) else none
    | _ => none
def tSlR (K : PySem.W.Frag) : V → Option Int → Option Int → Hp → VK → Prop := fun x lo hi H Q => ∃ F G ρ S r d, SOk K F G ρ S H ∧ RV K G ρ r x ∧ slR r lo hi S = some d ∧ Post K F G ρ S (.d d) Q
theorem SlR.imp {X : Cx} {r r' : V → Option Int → Option Int → Hp → VK → Prop} (h : SlR X r) (q : ∀ x lo hi H Q, r' x lo hi H Q → r x lo hi H Q) : SlR X r' :=
  fun pins s σ H x v vl vu lo hi sl Q I rx hs pl pu w => h pins s σ H x v vl vu lo hi sl Q I rx hs pl pu (q x lo hi H Q w)
theorem cut_whole {α : Type} {xs : List α} {lo hi : Option Int} (h : HT.sIx xs.length 0 lo = 0 ∧ HT.sIx xs.length xs.length hi = xs.length) : cutL xs lo hi = xs := by
  unfold cutL
  rw [h.1, h.2, List.drop_zero, Nat.sub_zero, List.take_length]
theorem s_all {X : Cx} : SlR X (tSlR X.K) := by
  refine SlR.imp (sl_list.or (sl_tupA.or sl_str)) fun x lo hi H Q h => ?_
  obtain ⟨F, G, ρ, S, r, d, s, qr, e, q⟩ := h
  have gen : ∀ dx, view r S = some dx → (match some dx with
    | some (.list xs) => some (.list (cutL xs lo hi))
    | some (.tuple xs) => some (.tuple (cutL xs lo hi))
    | some (.str z) => if z.length ≤ sizeLine then some (.str (cutS z lo hi)) else none
    | _ => none) = some d → rSlL X.K x lo hi H Q ∨ rSlA X.K x lo hi H Q ∨ rSlS x lo hi H Q := fun dx ev e => by
    have hx := view_ok s qr ev
    split at e
    · rename_i xs ex
      cases ex; cases e
      obtain ⟨a, vs, rfl, h1, h2⟩ := hx.lst s
      exact .inl ⟨a, vs, rfl, .of h1, q.lst s (dvs_cut h2 lo hi)⟩
    · rename_i xs ex
      cases ex; cases e
      obtain ⟨a, vs, rfl, h1, h2⟩ := tup_of hx
      refine .inr (.inl ⟨a, vs, rfl, Same.sqt s.subG h1, fun z => ?_, fun _ => q.tup s (dvs_cut h2 lo hi)⟩)
      rw [dvs_len h2] at z
      rw [cut_whole z] at q
      exact q.now s (.tup h1 h2)
    · rename_i z ex
      cases ex
      obtain ⟨c, rfl⟩ := some_if e
      cases hx.str
      exact .inr (.inr ⟨_, rfl, c, q.str s⟩)
    · cases e
  cases r with
  | scr ns =>
    cases e
    obtain ⟨a, rfl, h1⟩ := qr
    refine .inl ⟨a, _, rfl, s.subG.seq h1, q.lst s ?_⟩
    rw [cutV_eq]
    have : cutL (ns.map V.int) lo hi = (cutL ns lo hi).map V.int := by
      unfold cutL
      rw [List.length_map, ← List.map_drop, ← List.map_take]
    rw [this]
    exact dvs_ints _
  | d dx => exact gen dx rfl e
  | ref n =>
    have e : (match view (.ref n) S with
      | some (.list xs) => some (.list (cutL xs lo hi))
      | some (.tuple xs) => some (.tuple (cutL xs lo hi))
      | some (.str z) => if z.length ≤ sizeLine then some (.str (cutS z lo hi)) else none
      | _ => none) = some d := e
    cases ev : view (.ref n) S with
    | none => rw [ev] at e; cases e
    | some dx => rw [ev] at e; exact gen dx ev e
def gIx : D → D → Option D
  | .list xs, .int i => atI xs i
  | .tuple xs, .int i => atI xs i
  | .str z, .int i => if z.length ≤ sizeLine then (atI z.cps.toList i).map fun c => .str ⟨#[c]⟩ else none
  | _, _ => none
theorem dvs_atI {K : PySem.W.Frag} {G : Hp} {vs : List V} {ds : List D} (h : DVs K G vs ds) {i : Int} {d : D} (e : atI ds i = some d) : ∃ v, atI vs i = some v ∧ DV K G v d := by
  unfold atI at e ⊢
  rw [dvs_len h]
  cases hi : ixN ds.length i with
  | none => rw [hi] at e; cases e
  | some j =>
    rw [hi] at e
    exact dvs_get h e
theorem IxR.imp {X : Cx} {r r' : R2} (h : IxR X r) (q : ∀ x y H Q, r' x y H Q → r x y H Q) : IxR X r' :=
  fun value slice pins s σ H x y v u Q I r1 r2 w => h value slice pins s σ H x y v u Q I r1 r2 (q x y H Q w)
theorem i_all {X : Cx} : IxR X (t2 X.K gIx) := by
  refine IxR.imp ix_seq fun x y H Q h => ?_
  obtain ⟨F, G, ρ, S, dx, dy, d, s, hx, hy, e, q⟩ := h
  unfold gIx at e
  split at e
  · obtain ⟨a, vs, rfl, h1, h2⟩ := hx.lst s
    cases hy.int
    obtain ⟨v, ev, hv⟩ := dvs_atI h2 e
    exact .inl ⟨a, vs, _, v, rfl, rfl, .of h1, ev, q.now s hv⟩
  · obtain ⟨a, vs, rfl, h1, h2⟩ := tup_of hx
    cases hy.int
    obtain ⟨v, ev, hv⟩ := dvs_atI h2 e
    exact .inr (.inl ⟨a, vs, _, v, rfl, rfl, Same.sqt s.subG h1, ev, q.now s hv⟩)
  · rename_i z i
    cases hx.str; cases hy.int
    by_cases c : z.length ≤ sizeLine
    · rw [if_pos c] at e
      obtain ⟨n, en, rfl⟩ := Option.map_eq_some_iff.mp e
      exact .inr (.inr ⟨_, _, n, rfl, rfl, c, en, q.str s⟩)
    · rw [if_neg c] at e; cases e
  · cases e
/-! ### dicts -/
def keyD : D → Option Key
  | .int i => some (.inl i)
  | .str x => some (.inr x)
  | _ => none
def lookK {α : Type} (ks : List (Key × α)) (k : Key) : Option α := (ks.find? fun kv => decide (kv.1 = k)).map (·.2)
def storeK {α : Type} (kvs : List (Key × α)) (k : Key) (v : α) : List (Key × α) :=
  if (kvs.any fun kv => decide (kv.1 = k)) = true then kvs.map (fun kv => if kv.1 = k then (kv.1, v) else kv) else kvs ++ [(k, v)]
theorem keyD_of {K : PySem.W.Frag} {G H : Hp} {v : V} {d : D} {k : Key} (h : DW K G H v d) (e : keyD d = some k) : v = kV k := by
  unfold keyD at e
  split at e
  · cases e; exact h.int
  · cases e; exact h.str
  · cases e
theorem kd_look {K : PySem.W.Frag} {G : Hp} {k : Key} : ∀ {kvs : List (Key × V)} {ks : List (Key × D)}, KD K G kvs ks → (∀ d, lookK ks k = some d → ∃ v, valV kvs k = some v ∧ DV K G v d) ∧ (lookK ks k = none → valV kvs k = none)
  | _, _, .nil => ⟨fun d e => (nomatch e), fun _ => rfl⟩
  | (k1, v1) :: kvs, (k2, d2) :: ks, .cons ⟨(h1 : k1 = k2), (h2 : DV K G v1 d2)⟩ t => by
    subst h1
    by_cases hk : k1 = k
    · subst hk
      have e1 : lookK ((k1, d2) :: ks) k1 = some d2 := by simp [lookK]
      have e2 : valV ((k1, v1) :: kvs) k1 = some v1 := by simp [valV]
      rw [e1, e2]
      exact ⟨fun d e => by cases e; exact ⟨v1, rfl, h2⟩, fun e => nomatch e⟩
    · have e1 : lookK ((k1, d2) :: ks) k = lookK ks k := by simp [lookK, List.find?_cons, hk]
      have e2 : valV ((k1, v1) :: kvs) k = valV kvs k := by simp [valV, List.find?_cons, hk]
      rw [e1, e2]
      exact kd_look t
theorem kd_any {K : PySem.W.Frag} {G : Hp} {k : Key} : ∀ {kvs : List (Key × V)} {ks : List (Key × D)}, KD K G kvs ks → (kvs.any fun kv => decide (kv.1 = k)) = ks.any fun kv => decide (kv.1 = k)
  | _, _, .nil => rfl
  | (k1, v1) :: kvs, (k2, d2) :: ks, .cons ⟨(h1 : k1 = k2), _⟩ t => by
    subst h1
    rw [List.any_cons, List.any_cons, kd_any t]
theorem kd_map {K : PySem.W.Frag} {G : Hp} {k : Key} {v : V} {d : D} (q : DV K G v d) : ∀ {kvs : List (Key × V)} {ks : List (Key × D)}, KD K G kvs ks → KD K G (kvs.map (fun kv => if kv.1 = k then (kv.1, v) else kv)) (ks.map (fun kv => if kv.1 = k then (kv.1, d) else kv))
  | _, _, .nil => .nil
  | (k1, v1) :: kvs, (k2, d2) :: ks, .cons ⟨(h1 : k1 = k2), (h2 : DV K G v1 d2)⟩ t => by
    subst h1
    refine .cons ?_ (kd_map q t)
    show (if k1 = k then (k1, v) else (k1, v1)).1 = (if k1 = k then (k1, d) else (k1, d2)).1 ∧ DV K G (if k1 = k then (k1, v) else (k1, v1)).2 (if k1 = k then (k1, d) else (k1, d2)).2
    by_cases hk : k1 = k
    · rw [if_pos hk, if_pos hk]; exact ⟨rfl, q⟩
    · rw [if_neg hk, if_neg hk]; exact ⟨rfl, h2⟩
theorem kd_app {K : PySem.W.Frag} {G : Hp} : ∀ {kvs kvs2 : List (Key × V)} {ks ks2 : List (Key × D)}, KD K G kvs ks → KD K G kvs2 ks2 → KD K G (kvs ++ kvs2) (ks ++ ks2)
  | _, _, _, _, .nil, h => h
  | _, _, _, _, .cons a t, h => .cons a (kd_app t h)
theorem kd_put {K : PySem.W.Frag} {G : Hp} {k : Key} {v : V} {d : D} (q : DV K G v d) {kvs : List (Key × V)} {ks : List (Key × D)} (h : KD K G kvs ks) : KD K G (putK kvs k v) (storeK ks k d) := by
  unfold putK storeK
  rw [kd_any h]
  by_cases c : (ks.any fun kv => decide (kv.1 = k)) = true
  · rw [if_pos c, if_pos c]; exact kd_map q h
  · rw [if_neg c, if_neg c]; exact kd_app h (.cons ⟨rfl, q⟩ .nil)
theorem kd_len {K : PySem.W.Frag} {G : Hp} {kvs : List (Key × V)} {ks : List (Key × D)} (h : KD K G kvs ks) : kvs.length = ks.length := Paired.length h
theorem kr_look {K : PySem.W.Frag} {G : Hp} {ρ : List Addr} {k : Key} : ∀ {kvs : List (Key × V)} {ks : List (Key × R)}, KR K G ρ kvs ks → (∀ d, lookK ks k = some d → ∃ v, valV kvs k = some v ∧ RV K G ρ d v) ∧ (lookK ks k = none → valV kvs k = none)
  | _, _, .nil => ⟨fun d e => (nomatch e), fun _ => rfl⟩
  | (k1, v1) :: kvs, (k2, d2) :: ks, .cons ⟨(h1 : k1 = k2), (h2 : RV K G ρ d2 v1)⟩ t => by
    subst h1
    by_cases hk : k1 = k
    · subst hk
      have e1 : lookK ((k1, d2) :: ks) k1 = some d2 := by simp [lookK]
      have e2 : valV ((k1, v1) :: kvs) k1 = some v1 := by simp [valV]
      rw [e1, e2]
      exact ⟨fun d e => by cases e; exact ⟨v1, rfl, h2⟩, fun e => nomatch e⟩
    · have e1 : lookK ((k1, d2) :: ks) k = lookK ks k := by simp [lookK, List.find?_cons, hk]
      have e2 : valV ((k1, v1) :: kvs) k = valV kvs k := by simp [valV, List.find?_cons, hk]
      rw [e1, e2]
      exact kr_look t
theorem kr_any {K : PySem.W.Frag} {G : Hp} {ρ : List Addr} {k : Key} : ∀ {kvs : List (Key × V)} {ks : List (Key × R)}, KR K G ρ kvs ks → (kvs.any fun kv => decide (kv.1 = k)) = ks.any fun kv => decide (kv.1 = k)
  | _, _, .nil => rfl
  | (k1, v1) :: kvs, (k2, d2) :: ks, .cons ⟨(h1 : k1 = k2), _⟩ t => by
    subst h1
    rw [List.any_cons, List.any_cons, kr_any t]
theorem kr_map {K : PySem.W.Frag} {G : Hp} {ρ : List Addr} {k : Key} {v : V} {d : R} (q : RV K G ρ d v) : ∀ {kvs : List (Key × V)} {ks : List (Key × R)}, KR K G ρ kvs ks → KR K G ρ (kvs.map (fun kv => if kv.1 = k then (kv.1, v) else kv)) (ks.map (fun kv => if kv.1 = k then (kv.1, d) else kv))
  | _, _, .nil => .nil
  | (k1, v1) :: kvs, (k2, d2) :: ks, .cons ⟨(h1 : k1 = k2), (h2 : RV K G ρ d2 v1)⟩ t => by
    subst h1
    refine .cons ?_ (kr_map q t)
    show (if k1 = k then (k1, v) else (k1, v1)).1 = (if k1 = k then (k1, d) else (k1, d2)).1 ∧ RV K G ρ (if k1 = k then (k1, d) else (k1, d2)).2 (if k1 = k then (k1, v) else (k1, v1)).2
    by_cases hk : k1 = k
    · rw [if_pos hk, if_pos hk]; exact ⟨rfl, q⟩
    · rw [if_neg hk, if_neg hk]; exact ⟨rfl, h2⟩
theorem kr_app {K : PySem.W.Frag} {G : Hp} {ρ : List Addr} : ∀ {kvs kvs2 : List (Key × V)} {ks ks2 : List (Key × R)}, KR K G ρ kvs ks → KR K G ρ kvs2 ks2 → KR K G ρ (kvs ++ kvs2) (ks ++ ks2)
  | _, _, _, _, .nil, h => h
  | _, _, _, _, .cons a t, h => .cons a (kr_app t h)
theorem kr_put {K : PySem.W.Frag} {G : Hp} {ρ : List Addr} {k : Key} {v : V} {d : R} (q : RV K G ρ d v) {kvs : List (Key × V)} {ks : List (Key × R)} (h : KR K G ρ kvs ks) : KR K G ρ (putK kvs k v) (storeK ks k d) := by
  unfold putK storeK
  rw [kr_any h]
  by_cases c : (ks.any fun kv => decide (kv.1 = k)) = true
  · rw [if_pos c, if_pos c]; exact kr_map q h
  · rw [if_neg c, if_neg c]; exact kr_app h (.cons ⟨rfl, q⟩ .nil)
theorem kr_len {K : PySem.W.Frag} {G : Hp} {ρ : List Addr} {kvs : List (Key × V)} {ks : List (Key × R)} (h : KR K G ρ kvs ks) : kvs.length = ks.length := Paired.length h
end PL
end
section
set_option maxHeartbeats 2000000
namespace PL
open PySem PySem.Spec PyProof.Rows L2
/-! ### repr, sorted, str, join, and what a written dict holds -/
def shownOk (d : D) : Bool := d.showable && decide (d.depth ≤ 50) && !d.hasDict && decide (d.shown.length ≤ sizeLine)
def gRepr : D → Option D
  | .list xs => if shownOk (.list xs) = true then some (.str (PyData.shown (.list xs))) else none
  | .tuple xs => if shownOk (.tuple xs) = true then some (.str (PyData.shown (.tuple xs))) else none
  | .str x => if (reprText x).length ≤ sizeLine then some (.str (reprText x)) else none
  | .int i => if i.natAbs.log2 < 1920 then some (.str (toString i)) else none
  | .bool b => some (.str (if b then "True" else "False"))
  | .none => some (.str "None")
  | _ => none
theorem repr_of_nothing {prog : Program} {w : World} {A : Around} {E : Value → Shared → Prop} {s : Shared} {Q : Value → Shared → Prop} (h : Q (.str "None" s.toks) { s with toks := s.toks + 1 }) : wpAny (model prog w) A (call (.builtin "repr") [.none]) Q E s :=
  call_repr_gives (typeIs_none s) PySem.F.slot_NoneType_repr PySem.F.entry_NoneType_repr (PySem.F.args_NoneType_repr_1 _) gives_none_repr h (hx := by decide)
def gStr : D → Option D
  | .int i => if i.natAbs.log2 < 1920 then some (.str (toString i)) else none
  | .str x => some (.str x)
  | _ => none
def insI (x : Int) : List Int → List Int
  | [] => [x]
  | y :: r => if x ≤ y then x :: y :: r else y :: insI x r
def sortI : List Int → List Int
  | [] => []
  | x :: r => insI x (sortI r)
theorem insI_perm (x : Int) : ∀ l : List Int, (insI x l).Perm (x :: l)
  | [] => List.Perm.refl _
  | y :: r => by
    unfold insI
    split
    · exact List.Perm.refl _
    · exact ((insI_perm x r).cons y).trans (List.Perm.swap _ _ _)
theorem sortI_perm : ∀ l : List Int, (sortI l).Perm l
  | [] => List.Perm.refl _
  | x :: r => (insI_perm x (sortI r)).trans ((sortI_perm r).cons x)
theorem insI_sorted (x : Int) : ∀ l : List Int, l.Pairwise (· ≤ ·) → (insI x l).Pairwise (· ≤ ·)
  | [], _ => List.pairwise_singleton _ _
  | y :: r, h => by
    have h2 := List.pairwise_cons.mp h
    unfold insI
    split
    · rename_i c
      exact List.pairwise_cons.mpr ⟨fun z hz => by
        rcases List.mem_cons.mp hz with rfl | hz
        · exact c
        · exact Int.le_trans c (h2.1 z hz), h⟩
    · rename_i c
      refine List.pairwise_cons.mpr ⟨fun z hz => ?_, insI_sorted x r h2.2⟩
      rcases List.mem_cons.mp ((insI_perm x r).mem_iff.mp hz) with rfl | hz
      · omega
      · exact h2.1 z hz
theorem sortI_sorted : ∀ l : List Int, (sortI l).Pairwise (· ≤ ·)
  | [] => List.Pairwise.nil
  | x :: r => insI_sorted x _ (sortI_sorted r)
theorem sortI_only {ys xs : List Int} (p : ys.Perm xs) (h : ys.Pairwise (· ≤ ·)) : ys = sortI xs :=
  List.Perm.eq_of_pairwise (fun a b _ _ h1 h2 => Int.le_antisymm h1 h2) h (sortI_sorted xs) (p.trans (sortI_perm xs).symm)
def intsD : List D → Option (List Int)
  | [] => some []
  | .int b :: r => (intsD r).map (b :: ·)
  | _ :: _ => none
theorem intsD_of {K : PySem.W.Frag} {G : Hp} : ∀ {ds : List D} {vs : List V} {bs : List Int}, DVs K G vs ds → intsD ds = some bs → vs = bs.map V.int
  | [], _, _, h, e => by cases h; cases e; rfl
  | d :: ds, _, bs, h, e => by
    cases h with
    | cons h1 h2 =>
      cases h1 with
      | int b =>
        have e : (intsD ds).map (b :: ·) = some bs := e
        obtain ⟨cs, ec, rfl⟩ := Option.map_eq_some_iff.mp e
        rw [intsD_of h2 ec]; rfl
      | _ => cases e
def gSorted : D → Option D
  | .list ds => match strsD ds with
    | some xs => if xs.length < 64 then some (.list ((sortS xs).map PyData.str)) else none
    | none => match intsD ds with
      | some ns => some (.list ((sortI ns).map PyData.int))
      | none => none
  | _ => none
def seqD : D → Option (List D)
  | .list ds => some ds
  | .tuple ds => some ds
  | _ => none
def gJoin (a b : D) : Option D := match a, (seqD b).bind strsD with
  | .str a, some xs => if (xs.map (·.length)).sum + xs.length * a.length ≤ 16777216 then some (.str (Txt.join a xs)) else none
  | _, _ => none
theorem dvs_strs {K : PySem.W.Frag} {G : Hp} : ∀ xs : List Str, DVs K G (xs.map V.str) (xs.map PyData.str)
  | [] => .nil
  | x :: r => .cons (.str x) (dvs_strs r)
theorem shownOk_and {d : D} (h : shownOk d = true) : d.showable = true ∧ d.depth ≤ 50 ∧ d.hasDict = false ∧ d.shown.length ≤ sizeLine := by
  simp only [shownOk, Bool.and_eq_true, decide_eq_true_eq, Bool.not_eq_true'] at h
  exact ⟨h.1.1.1, h.1.1.2, h.1.2, h.2⟩
section
variable {X : Cx}
theorem c_repr (hg : X.A.guards = some []) (hu : X.A.units + 64 < cLine) : CallR X (.builtin "repr") (tc1 X.K gRepr) := by
  intro pins s σ H xs us Q I r h
  obtain ⟨x, rfl, F, G, ρ, S, dx, d, sk, hx, e, q⟩ := h
  obtain ⟨u, rfl, r1⟩ := vals1 r
  have big : ∀ (a : Addr) (dd : D), x = .ref a → dx = dd → shownOk dd = true → d = .str dd.shown → wpAny (model X.prog X.w) X.A (PySem.call (.builtin "repr") [u]) (EP X pins σ Q) X.xe s := fun a dd ea ed ok eq => by
    subst ea ed eq
    obtain ⟨h1, h2, h3, h4⟩ := shownOk_and ok
    obtain ⟨as, rd⟩ := Dp.reads I _ _ _ (hx.dp sk) r1
    obtain rfl : u = Value.ref a := r1
    exact repr_of_reads' rd h1 (PyData.noDict_hsm h3) hg (by omega) (fun _ _ e => e) (fun h' t tk hk => ⟨.str _, H, I.kept hk, ⟨_, rfl⟩, q.now sk (.str _)⟩) h4
  cases dx with
  | list ds =>
    obtain ⟨c, rfl⟩ := some_if (show (if shownOk (.list ds) = true then some (PyData.str (PyData.shown (.list ds))) else none) = some d from e)
    obtain ⟨a, vs, ea, _, _⟩ := hx.lst sk
    exact big a _ ea rfl c rfl
  | tuple ds =>
    obtain ⟨c, rfl⟩ := some_if (show (if shownOk (.tuple ds) = true then some (PyData.str (PyData.shown (.tuple ds))) else none) = some d from e)
    obtain ⟨a, vs, ea, _, _⟩ := hx.tup sk
    exact big a _ ea rfl c rfl
  | str z =>
    obtain ⟨c, rfl⟩ := some_if (show (if (reprText z).length ≤ sizeLine then some (PyData.str (reprText z)) else none) = some d from e)
    cases hx.str
    obtain ⟨t, rfl⟩ := r1
    exact PySem.P.repr_of_str ⟨.str _, H, I.tok _, ⟨_, rfl⟩, q.now sk (.str _)⟩ c
  | int i =>
    obtain ⟨c, rfl⟩ := some_if (show (if i.natAbs.log2 < 1920 then some (PyData.str (toString i)) else none) = some d from e)
    cases hx.int
    obtain ⟨t, rfl⟩ := r1
    exact PySem.P.repr_of_int c ⟨.str _, H, I.tok _, ⟨_, rfl⟩, q.now sk (.str _)⟩
  | bool b =>
    cases e
    cases hx.bl
    obtain rfl : u = Value.bool b := r1
    exact PySem.P.repr_of_bool ⟨.str _, H, I.tok _, ⟨_, rfl⟩, q.now sk (.str _)⟩
  | none =>
    cases e
    cases hx.non
    obtain rfl : u = Value.none := r1
    exact repr_of_nothing ⟨.str _, H, I.tok _, ⟨_, rfl⟩, q.now sk (.str _)⟩
  | _ => cases e
theorem c_str : CallR X (.type "str") (tc1 X.K gStr) := by
  refine CallR.imp (call_str_int.or SkE.call_str_str) fun xs H Q h => ?_
  obtain ⟨x, rfl, F, G, ρ, S, dx, d, s, hx, e, q⟩ := h
  unfold gStr at e
  split at e
  · obtain ⟨c, rfl⟩ := some_if e
    cases hx.int; exact .inl ⟨_, rfl, c, q.now s (.str _)⟩
  · cases e
    cases hx.str; exact .inr ⟨_, rfl, q.now s (.str _)⟩
  · cases e
theorem c_sorted : CallR X (.builtin "sorted") (tc1 X.K gSorted) := by
  refine CallR.imp (cr_sortedS.or cr_sortedI) fun xs H Q h => ?_
  obtain ⟨x, rfl, F, G, ρ, S, dx, d, s, hx, e, q⟩ := h
  unfold gSorted at e
  split at e
  case h_2 => cases e
  rename_i ds
  obtain ⟨a, vs, rfl, h1, h2⟩ := hx.lst s
  split at e
  · rename_i zs hz
    obtain ⟨c, rfl⟩ := some_if e
    cases strsD_of h2 hz
    refine .inl ⟨a, zs, rfl, .of h1, c, fun ys p p1 p2 hp => ?_⟩
    cases sortS_only p1 p2
    exact q.lst s (dvs_strs _) p hp
  · split at e
    case h_2 => cases e
    rename_i ns hn
    cases e
    cases intsD_of h2 hn
    refine .inr ⟨a, ns, rfl, .of h1, fun ys p p1 p2 hp => ?_⟩
    cases sortI_only p1 p2
    exact q.lst s (dvs_ints _) p hp
/-- the keys of a changing dict of texts -/
def strKeys : List (Key × D) → Option (List Str)
  | [] => some []
  | (.inr x, _) :: r => (strKeys r).map (x :: ·)
  | (.inl _, _) :: _ => none
def gSortD : R → Sto → Option D
  | .ref n, S => match S[n]? with
    | some (.dic ks) => match strKeys ks with
      | some zs => if zs.length < 64 then some (.list ((sortS zs).map PyData.str)) else none
      | none => none
    | _ => none
  | _, _ => none
theorem strKeys_of {K : PySem.W.Frag} {G : Hp} : ∀ {kvs : List (Key × V)} {ks : List (Key × D)} {zs : List Str}, KD K G kvs ks → strKeys ks = some zs → kvs.map (·.1) = zs.map Sum.inr
  | _, _, _, .nil, e => by cases e; rfl
  | (k1, v1) :: kvs, (k2, d2) :: ks, zs, .cons ⟨(h1 : k1 = k2), _⟩ t, e => by
    subst h1
    cases k1 with
    | inl i => cases e
    | inr x =>
      have e : (strKeys ks).map (x :: ·) = some zs := e
      obtain ⟨ys, ey, rfl⟩ := Option.map_eq_some_iff.mp e
      rw [List.map_cons, List.map_cons, strKeys_of t ey]
theorem c_sortedD (hc : X.calm = true) : CallR X (.builtin "sorted") (fun xs H Q => ∃ v, xs = [v] ∧ ∃ F G ρ S r d, SOk X.K F G ρ S H ∧ RV X.K G ρ r v ∧ gSortD r S = some d ∧ Post X.K F G ρ S (.d d) Q) := by
  refine CallR.imp (call_sortedD hc) fun xs H Q h => ?_
  obtain ⟨v, rfl, F, G, ρ, S, r, d, s, hr, e, q⟩ := h
  unfold gSortD at e
  split at e
  · rename_i n
    split at e
    · rename_i ks hs
      split at e
      · rename_i zs hz
        obtain ⟨c, rfl⟩ := some_if e
        obtain ⟨a, ea, rfl⟩ := hr
        obtain ⟨o, ho, kvs, rfl, hk⟩ := s.obj n _ a hs ea
        refine ⟨a, kvs, zs, rfl, .inl ho, strKeys_of hk hz, c, fun ys p p1 p2 hp => ?_⟩
        cases sortS_only p1 p2
        exact q.lst s (dvs_strs _) p hp
      · cases e
    · cases e
  · cases e
theorem m_join : MtR X "str.join" fun x xs H Q => ∃ y, xs = [y] ∧ t2 X.K gJoin x y H Q := by
  intro pins s0 σ H x xs v us Q I rx rs h
  refine mt_join pins s0 σ H x xs v us Q I rx rs ?_
  obtain ⟨y, rfl, F, G, ρ, S, dx, dy, d, s, hx, hy, e, q⟩ := h
  unfold gJoin at e
  split at e
  · rename_i a zs hz
    obtain ⟨c, rfl⟩ := some_if e
    cases hx.str
    cases dy with
    | list ds =>
      obtain ⟨b, vs, rfl, h1, h2⟩ := hy.lst s
      cases strsD_of h2 (show strsD ds = some zs from hz)
      exact ⟨a, b, zs, rfl, rfl, .inl (.of h1), c, q.now s (.str _)⟩
    | tuple ds =>
      obtain ⟨b, vs, rfl, h1, h2⟩ := tup_of hy
      cases strsD_of h2 (show strsD ds = some zs from hz)
      exact ⟨a, b, zs, rfl, rfl, .inr (Same.sqt s.subG h1), c, q.now s (.str _)⟩
    | _ => cases hz
  · cases e
end
end PL
end
section
set_option maxHeartbeats 3200000
namespace PL
open PySem PySem.Spec PyProof.Rows L2
/-! ### sorted(set(texts)) -/
def SetX (P : Program) (w : World) (p : Addr) (ks : List Str) : HO := .ext fun h => ∃ D, h.get? p = some (PySem.Froz.sObj "set" D) ∧ PLS.Tx P w D ks ∧ ks.Nodup
theorem setX_new {P : Program} {w : World} {H : Hp} {h : Heap} {p : Addr} {ks : List Str} (R : ∃ D, h.get? p = some (PySem.Froz.sObj "set" D) ∧ PLS.Tx P w D ks ∧ ks.Nodup) : ObjOk P w H h p (SetX P w p ks) := by
  have ⟨D, ho, _⟩ := R
  exact ⟨R, ⟨_, ho⟩, fun h1 h2 ⟨D, ho, r⟩ k => ⟨D, k _ ho, r⟩⟩
def onceS : List Str → List Str
  | [] => []
  | x :: r => if x ∈ onceS r then onceS r else x :: onceS r
theorem once_mem (z : Str) : ∀ xs : List Str, z ∈ onceS xs ↔ z ∈ xs
  | [] => Iff.rfl
  | x :: r => by
    unfold onceS
    split
    · rename_i h
      rw [once_mem z r, List.mem_cons]
      exact ⟨.inr, fun q => q.elim (fun e => e ▸ (once_mem x r).mp h) id⟩
    · rw [List.mem_cons, List.mem_cons, once_mem z r]
theorem once_nodup : ∀ xs : List Str, (onceS xs).Nodup
  | [] => List.nodup_nil
  | x :: r => by
    unfold onceS
    split
    · exact once_nodup r
    · rename_i h
      exact List.nodup_cons.mpr ⟨h, once_nodup r⟩
def onceI : List Int → List Int
  | [] => []
  | x :: r => if x ∈ onceI r then onceI r else x :: onceI r
theorem onceI_mem (z : Int) : ∀ xs : List Int, z ∈ onceI xs ↔ z ∈ xs
  | [] => Iff.rfl
  | x :: r => by
    unfold onceI
    split
    · rename_i h
      rw [onceI_mem z r, List.mem_cons]
      exact ⟨.inr, fun q => q.elim (fun e => e ▸ (onceI_mem x r).mp h) id⟩
    · rw [List.mem_cons, List.mem_cons, onceI_mem z r]
theorem onceI_nodup : ∀ xs : List Int, (onceI xs).Nodup
  | [] => List.nodup_nil
  | x :: r => by
    unfold onceI
    split
    · exact onceI_nodup r
    · rename_i h
      exact List.nodup_cons.mpr ⟨h, onceI_nodup r⟩
def gSSet (d : D) : Option D := match (seqD d).bind strsD with
  | some xs => if xs.length < 4000 ∧ (onceS xs).length < 64 then some (.list ((sortS (onceS xs)).map PyData.str)) else none
  | none => match (seqD d).bind intsD with
    | some ns => if ns.length < 4000 ∧ (onceI ns).length < 64 then some (.list ((sortI (onceI ns)).map PyData.int)) else none
    | none => none
/-- the number of members is the number of the row's numbers, each once -/
theorem setR_len {w : World} {h : Heap} {a : Addr} {zs : List Int} {m : Nat} (R : SetR w h a (fun k => decide (k ∈ zs)) m) : m = (onceI zs).length := by
  obtain ⟨o, es, ep, t, ho, hx, hd, g, nd, hm, hb, hf, hn, _⟩ := R
  have p : (es.toList.map keyOf).Perm (onceI zs) := (List.perm_ext_iff_of_nodup nd (onceI_nodup zs)).mpr fun z => ((hm z).symm.trans (by simp)).trans (onceI_mem z zs).symm
  rw [← p.length_eq, List.length_map, Array.length_toList, hn]
section
variable {X : Cx}
theorem c_setXI (hc : X.calm = true) : CallR X (.type "set") fun vs H Q => ∃ (a : Addr) (zs : List Int), vs = [.ref a] ∧ (SqL X.K H a (zs.map V.int) ∨ SqT X.K H a (zs.map V.int)) ∧ zs.length < 4000 ∧
    ∀ p, H p = none → Q (.ref p) (upd H p (SetO X.w p (fun k => decide (k ∈ zs)) (onceI zs).length)) := by
  intro pins s σ H vs us Q I r h
  obtain ⟨a, zs, rfl, hs, h64, q⟩ := h
  rw [Vals.ref1 r]
  have room : zs.length + 1 < scanBound := by unfold scanBound; omega
  rcases hs with hs | hs
  · obtain ⟨its, rv, hl, _⟩ := I.list hs
    refine PLI.set_listI (I.ok.hd hc) hl.isList rv.ints room fun h' tk m R len hk => ?_
    cases setR_len R
    exact ⟨.ref _, upd H s.heap.objs.size (SetO X.w s.heap.objs.size (fun k => decide (k ∈ zs)) (onceI zs).length), I.laid (t' := tk) hk (Nat.le_refl _) (setO_new R), rfl, q _ (I.hok.fresh (Nat.le_refl _))⟩
  · obtain ⟨its, rv, hl, _⟩ := I.tuple hs
    refine PLI.set_tupleI (I.ok.hd hc) hl rv.ints room fun h' tk m R len hk => ?_
    cases setR_len R
    exact ⟨.ref _, upd H s.heap.objs.size (SetO X.w s.heap.objs.size (fun k => decide (k ∈ zs)) (onceI zs).length), I.laid (t' := tk) hk (Nat.le_refl _) (setO_new R), rfl, q _ (I.hok.fresh (Nat.le_refl _))⟩
theorem c_setX (hc : X.calm = true) : CallR X (.type "set") fun vs H Q => ∃ (a : Addr) (zs : List Str), vs = [.ref a] ∧ (SqL X.K H a (zs.map V.str) ∨ SqT X.K H a (zs.map V.str)) ∧ zs.length < 4000 ∧
    ∀ p ks, H p = none → ks.Nodup → (∀ z, z ∈ ks ↔ z ∈ zs) → ks.length ≤ zs.length → Q (.ref p) (upd H p (SetX X.prog X.w p ks)) := by
  intro pins s σ H vs us Q I r h
  obtain ⟨a, zs, rfl, hs, h64, q⟩ := h
  rw [Vals.ref1 r]
  have room : zs.length + 1 < scanBound := by unfold scanBound; omega
  rcases hs with hs | hs
  · obtain ⟨its, rv, hl, _⟩ := I.list hs
    exact PLS.set_list (I.ok.hd hc) hl.isList rv.strs room fun h' tk D ks ho T nd mem len hk => ⟨.ref _, upd H s.heap.objs.size (SetX X.prog X.w s.heap.objs.size ks), I.laid (t' := tk) hk (Nat.le_refl _) (setX_new ⟨D, ho, T, nd⟩), rfl, q _ ks (I.hok.fresh (Nat.le_refl _)) nd mem len⟩
  · obtain ⟨its, rv, hl, _⟩ := I.tuple hs
    exact PLS.set_tuple (I.ok.hd hc) hl rv.strs room fun h' tk D ks ho T nd mem len hk => ⟨.ref _, upd H s.heap.objs.size (SetX X.prog X.w s.heap.objs.size ks), I.laid (t' := tk) hk (Nat.le_refl _) (setX_new ⟨D, ho, T, nd⟩), rfl, q _ ks (I.hok.fresh (Nat.le_refl _)) nd mem len⟩
theorem c_sortX (hc : X.calm = true) : CallR X (.builtin "sorted") fun vs H Q => ∃ (a : Addr) (ks : List Str), vs = [.ref a] ∧ H a = some (SetX X.prog X.w a ks) ∧ ks.length < 64 ∧
    ∀ ys p, ys.Perm ks → sortedS ys = true → H p = none → Q (.ref p) (upd H p (.lst (ys.map V.str))) := by
  intro pins s σ H vs us Q I r h
  obtain ⟨a, ks, rfl, ha, h64, q⟩ := h
  obtain ⟨D, ho, T, nd⟩ := (I.hok a _ ha).1
  rw [Vals.ref1 r]
  refine PLS.sorted_texts ho T nd (I.ok.hd hc) h64 fun s' p out c ys k g o hp hg hi pm hs => ?_
  have hlen : (ys.map V.str).length ≤ sizeLine := by rw [List.length_map, pm.length_eq, sizeLine_eq]; omega
  have hn : H p = none := I.hok.fresh hp
  have J : Inv X pins σ (upd H p (.lst (ys.map V.str))) { s with heap := s'.heap, gens := s'.gens, drawn := s'.drawn, toks := s'.toks } :=
    I.call (ch := []) (Un.laid k hp hn) (I.hok.laid k hp ⟨hlen, out.toList, c, vals_of_strs hi, hg⟩) (by rw [g]; exact I.bare) (fun _ z => nomatch z)
  have e : s' = { s with heap := s'.heap, gens := s'.gens, drawn := s'.drawn, toks := s'.toks } := by
    obtain ⟨_, _, _, _, _⟩ := s'
    obtain ⟨_, _, _, _, _⟩ := s
    cases o
    rfl
  rw [e]
  exact ⟨.ref p, _, J, rfl, q ys p pm hs hn⟩
end
end PL
end
section
set_option maxHeartbeats 2000000
namespace PL
open PySem PySem.Spec PyProof.Rows L2
/-! ### equality of data, decided -/
mutual
def dEq : D → D → Bool
  | .none, .none => true
  | .bool a, .bool b => a == b
  | .int a, .int b => a == b
  | .str a, .str b => decide (a = b)
  | .list a, .list b => dEqs a b
  | .tuple a, .tuple b => dEqs a b
  | .dict a, .dict b => dEqp a b
  | _, _ => false
def dEqs : List D → List D → Bool
  | [], [] => true
  | a :: as, b :: bs => dEq a b && dEqs as bs
  | _, _ => false
def dEqp : List (D × D) → List (D × D) → Bool
  | [], [] => true
  | (a, x) :: as, (b, y) :: bs => dEq a b && dEq x y && dEqp as bs
  | _, _ => false
end
mutual
theorem dEq_eq : ∀ (a b : D), dEq a b = true → a = b
  | .none, b, h => by cases b <;> first | rfl | (simp [dEq] at h; done)
  | .bool a, b, h => by cases b <;> first | (simp [dEq] at h; done) | (simp [dEq] at h; rw [h])
  | .int a, b, h => by cases b <;> first | (simp [dEq] at h; done) | (simp [dEq] at h; rw [h])
  | .str a, b, h => by cases b <;> first | (simp [dEq] at h; done) | (simp [dEq] at h; rw [h])
  | .list a, b, h => by cases b <;> first | (simp [dEq] at h; done) | (simp only [dEq] at h; rw [dEqs_eq a _ h])
  | .tuple a, b, h => by cases b <;> first | (simp [dEq] at h; done) | (simp only [dEq] at h; rw [dEqs_eq a _ h])
  | .dict a, b, h => by cases b <;> first | (simp [dEq] at h; done) | (simp only [dEq] at h; rw [dEqp_eq a _ h])
theorem dEqs_eq : ∀ (a b : List D), dEqs a b = true → a = b
  | [], [], _ => rfl
  | [], _ :: _, h => by simp [dEqs] at h
  | _ :: _, [], h => by simp [dEqs] at h
  | x :: xs, y :: ys, h => by
    simp only [dEqs, Bool.and_eq_true] at h
    rw [dEq_eq x y h.1, dEqs_eq xs ys h.2]
theorem dEqp_eq : ∀ (a b : List (D × D)), dEqp a b = true → a = b
  | [], [], _ => rfl
  | [], _ :: _, h => by simp [dEqp] at h
  | _ :: _, [], h => by simp [dEqp] at h
  | (x, u) :: xs, (y, v) :: ys, h => by
    simp only [dEqp, Bool.and_eq_true] at h
    rw [dEq_eq x y h.1.1, dEq_eq u v h.1.2, dEqp_eq xs ys h.2]
end
mutual
theorem dEq_refl : ∀ a : D, dEq a a = true
  | .none => rfl
  | .bool a => by simp [dEq]
  | .int a => by simp [dEq]
  | .str a => by simp [dEq]
  | .list a => by simp only [dEq]; exact dEqs_refl a
  | .tuple a => by simp only [dEq]; exact dEqs_refl a
  | .dict a => by simp only [dEq]; exact dEqp_refl a
theorem dEqs_refl : ∀ a : List D, dEqs a a = true
  | [] => rfl
  | x :: xs => by simp only [dEqs, dEq_refl x, dEqs_refl xs, Bool.and_self]
theorem dEqp_refl : ∀ a : List (D × D), dEqp a a = true
  | [] => rfl
  | (x, y) :: xs => by simp only [dEqp, dEq_refl x, dEq_refl y, dEqp_refl xs, Bool.and_self]
end
/-! ### the text -/
def gRev : D → Option D
  | .list xs => some (.list xs.reverse)
  | .tuple xs => some (.tuple xs.reverse)
  | _ => none
/-- built-ins of one argument -/
inductive Bi where
  | len | all | any | tuple | list | int | repr | sorted | str
def Bi.fn : Bi → D → Option D
  | .len => gLen
  | .all => gAll
  | .any => gAny
  | .tuple => gTuple
  | .list => gList
  | .int => gInt
  | .repr => gRepr
  | .sorted => gSorted
  | .str => gStr
def Bi.name : Bi → Str
  | .len => "len"
  | .all => "all"
  | .any => "any"
  | .tuple => "tuple"
  | .list => "list"
  | .int => "int"
  | .repr => "repr"
  | .sorted => "sorted"
  | .str => "str"
/-- what a loop's item is stored in -/
inductive Tg where
  | one (i : Nat)
  | tup (is : List Nat)
mutual
inductive E where
  | loc (i : Nat)
  | int (i : Int)
  | str (x : Str)
  | bl (b : Bool)
  | non
  | gd (x : Str) (d : D)
  | bin (op : Operator) (a b : E)
  | cmp (op : CmpOp) (a b : E)
  | cmp2 (o p : CmpOp) (a b c : E)
  | bop (isAnd : Bool) (a : E) (r : Es)
  | not (a : E)
  | neg (a : E)
  | ite (c a b : E)
  | tup (es : Es)
  | lst (es : Es)
  | lstR (es : Es)
  | dic0
  | dic (ks : List Str) (es : Es)
  | ix (a i : E)
  | sl (a : E) (lo hi : O)
  | bi (b : Bi) (a : E)
  | isi (t : Ty) (a : E)
  | call (f : Nat) (es : Es)
  | comp (own : List Nat) (tg : Tg) (it : It') (cs : Es) (e : E)
  | compR (own : List Nat) (tg : Tg) (it : It') (cs : Es) (e : E)
  | get2 (d k e : E)
  | app (a e : E)
  | ext (a e : E)
  | join (a e : E)
  | gget (x : Str) (tab : List (Str × D)) (k : E)
  | gget2 (x : Str) (tab : List (Str × D)) (k e : E)
  | callK (f : Nat) (x : Str) (e : E)
  | gix (x : Str) (tab : List (Str × D)) (k : E)
  | sset (a : E)
  | gin (neg : Bool) (x : Str) (tab : List (Str × D)) (k : E)
  | sortd (a : E)
  | rev (a : E)
  | reprL (es : Es)
  | dcopy (a : E)
  | upd (a e : E)
  | tupS (ks : List Bool) (es : Es)
  | dlist (a : E)
  | deq0 (a : E)
  | compd (own : List Nat) (tg : Tg) (d : E) (cs : Es) (e : E)
inductive Es where
  | nil
  | cons (e : E) (es : Es)
inductive O where
  | no
  | so (e : E)
inductive It' where
  | seq (e : E)
  | rng (e : E)
  | zip (a b : E)
  | enm (a : E)
  | rng2 (a b : E)
end
inductive Sx where
  | asg (i : Nat) (e : E)
  | asgL (i : Nat) (e : E)
  | par (is : List Nat) (es : Es)
  | parC (is : List Nat) (es : Es)
  | unp (is : List Nat) (e : E)
  | dset (d k v : E)
  | expr (e : E)
  | ret (e : E)
  | ret0
  | ifs (c : E) (a b : List Sx)
  | fors (tg : Tg) (it : It') (b : List Sx)
  | ford (tg : Tg) (d : E) (b : List Sx)
  | never
  | pass
  | brk
  | cont
/-! ### the evaluation -/
abbrev Cl := Nat → List R → Sto → Option (R × Sto)
def asD : R → Option D
  | .d x => some x
  | _ => none
def asDs : List R → Option (List D)
  | [] => some []
  | .d x :: r => (asDs r).map (x :: ·)
  | _ :: _ => none
def bindIx : List Nat → List D → Loc → Option Loc
  | [], [], L => some L
  | i :: is, d :: ds, L => bindIx is ds (L.set i (some (.d d)))
  | _, _, _ => none
def bindT : Tg → D → Loc → Option Loc
  | .one i, d, L => some (L.set i (some (.d d)))
  | .tup is, .tuple ds, L => bindIx is ds L
  | .tup _, _, _ => none
def setAll : List Nat → List R → Loc → Option Loc
  | [], [], L => some L
  | i :: is, r :: rs, L => setAll is rs (L.set i (some r))
  | _, _, _ => none
abbrev Lk := Option (Nat × List D)
def lockB : Lk → Sto → Bool
  | none, _ => true
  | some (n, xs), S => match S[n]? with
    | some (.lst ys) => dEqs ys xs
    | _ => false
def zipD : List D → List D → List D
  | x :: xs, y :: ys => .tuple [x, y] :: zipD xs ys
  | _, _ => []
def enumD (n : Nat) : List D → List D
  | [] => []
  | x :: xs => .tuple [.int (n : Int), x] :: enumD (n + 1) xs
def rngD (n : Int) : List D := (List.range n.toNat).map fun (i : Nat) => PyData.int (i : Int)
/-- a comprehension's turns: t gives what is put in, if it is -/
def loopM (lk : Lk) (t : D → Sto → Option (Option D × Sto)) : List D → List D → Sto → Option (List D × Sto)
  | [], acc, S => some (acc, S)
  | d :: ds, acc, S => match t d S with
    | some (o, S') => if lockB lk S' = true then (match o with
        | some y => if acc.length < sizeLine then loopM lk t ds (acc ++ [y]) S' else none
        | none => loopM lk t ds acc S') else none
    | none => none
inductive Fl where
  | nx | bk | ct
  | rt (r : R)
def forM' (lk : Lk) (t : D → Loc → Sto → Option (Fl × Loc × Sto)) : List D → Loc → Sto → Option (Fl × Loc × Sto)
  | [], L, S => some (.nx, L, S)
  | d :: ds, L, S => match t d L S with
    | some (.rt r, L', S') => some (.rt r, L', S')
    | some (.bk, L', S') => some (.nx, L', S')
    | some (_, L', S') => if lockB lk S' = true then forM' lk t ds L' S' else none
    | none => none
def ixR (a i : R) (S : Sto) : Option D :=
  match a with
  | .ref n => match S[n]? with
    | some (.dic ks) => match i with
      | .d k => match keyD k with
        | some k => lookK ks k
        | none => none
      | _ => none
    | some (.dicL ks) => match i with
      | .d k => match keyD k with
        | some k => lookK ks k
        | none => none
      | _ => none
    | some (.lst xs) => match i with
      | .d k => gIx (.list xs) k
      | _ => none
    | _ => none
  | .d x => match i with
    | .d k => gIx x k
    | _ => none
  | .scr _ => none
/-- what a dict of any values holds -/
def ixM (a i : R) (S : Sto) : Option R :=
  match a, i with
  | .ref n, .d k => match S[n]?, keyD k with
    | some (.mix ks), some k => lookK ks k
    | _, _ => none
  | _, _ => none
def dsetR (d k v : R) (S : Sto) : Option Sto :=
  match d, k with
  | .ref n, .d k => match S[n]?, keyD k, v with
    | some (.dic ks), some k, .d v => if ks.length < sizeLine then some (S.set n (.dic (storeK ks k v))) else none
    | some (.mix ks), some k, v => if ks.length < sizeLine then some (S.set n (.mix (storeK ks k v))) else none
    | _, _, _ => none
  | _, _ => none
def get2R (d k e : R) (S : Sto) : Option R :=
  match d, k with
  | .ref n, .d k => match S[n]?, keyD k with
    | some (.dic ks), some k => match lookK ks k with
      | some v => some (.d v)
      | none => some e
    | some (.mix ks), some k => match lookK ks k with
      | some v => some v
      | none => some e
    | some (.dicL ks), some k => match lookK ks k with
      | some v => some (.d v)
      | none => some e
    | _, _ => none
  | _, _ => none
def appR (a e : R) (S : Sto) : Option Sto :=
  match a, e with
  | .ref n, .d y => match S[n]? with
    | some (.lst xs) => if xs.length < sizeLine then some (S.set n (.lst (xs ++ [y]))) else none
    | _ => none
  | _, _ => none
def extR (a e : R) (S : Sto) : Option Sto :=
  match a with
  | .ref n => match S[n]?, view e S with
    | some (.lst xs), some (.list ys) => if xs.length + ys.length ≤ sizeLine then some (S.set n (.lst (xs ++ ys))) else none
    | _, _ => none
  | _ => none
def bin2 (g : D → D → Option D) (x y : R) (S : Sto) : Option D := match view x S, view y S with
  | some a, some b => g a b
  | _, _ => none
def un1 (g : D → Option D) (x : R) (S : Sto) : Option D := match view x S with
  | some a => g a
  | none => none
def putS {α : Type} (ks : List (Key × α)) : List Str → List α → List (Key × α)
  | k :: r, d :: ds => putS (storeK ks (.inr k) d) r ds
  | _, _ => ks
def okOr {α β : Type} (o : Option α) (f : α → Option β) : Option β := match o with
  | some a => f a
  | none => none
def isDic : R → Sto → Bool
  | .ref n, S => match S[n]? with
    | some (.dic _) => true
    | some (.mix _) => true
    | some (.dicL _) => true
    | _ => false
  | _, _ => false
def isMut : R → Sto → Bool
  | .ref n, S => match S[n]? with
    | some (.dic _) => true
    | some (.mix _) => true
    | _ => false
  | _, _ => false
def isLst : R → Sto → Bool
  | .ref n, S => match S[n]? with
    | some (.lst _) => true
    | _ => false
  | _, _ => false
def isS : R → Bool
  | .d (.str _) => true
  | _ => false
/-- what a written dict holds -/
def getTab (tab : List (Str × D)) : R → Option D
  | .d (.str z) => some ((tab.lookup z).getD .none)
  | _ => none
def getTab2 (tab : List (Str × D)) : R → R → Option D
  | .d (.str s), .d z => some ((tab.lookup s).getD z)
  | _, _ => none
def ixTab (tab : List (Str × D)) : R → Option D
  | .d (.str z) => tab.lookup z
  | _ => none
def inTab (tab : List (Str × D)) : R → Option Bool
  | .d (.str z) => some (tab.lookup z).isSome
  | _ => none
def rng2D (i j : Int) : List D := (List.range (j - i).toNat).map fun (k : Nat) => PyData.int (i + (k : Int))
def copyD : R → Sto → Option Ob
  | .ref n, S => match S[n]? with
    | some (.dic ks) => some (.dic ks)
    | some (.mix ks) => some (.mix ks)
    | _ => none
  | _, _ => none
/-- a dict of pairs -/
def pairsOf : List D → Option (List (Key × D))
  | [] => some []
  | .tuple [k, v] :: r => match keyD k, pairsOf r with
    | some k, some t => some ((k, v) :: t)
    | _, _ => none
  | _ :: _ => none
def dlistD : D → Option (List (Key × D))
  | .list ds => pairsOf ds
  | _ => none
def isE0 : R → Sto → Bool
  | .ref n, S => match S[n]? with
    | some (.dic []) => true
    | _ => false
  | _, _ => false
/-- a dict that is walked is locked till the walk is over -/
def keyVal : Key → D
  | .inl i => .int i
  | .inr x => .str x
def keysD (ks : List (Key × D)) : List D := ks.map fun kv => keyVal kv.1
def lockD : R → Sto → Option (Nat × Sto)
  | .ref n, S => match S[n]? with
    | some (.dic ks) => some (n, S.set n (.dicL ks))
    | _ => none
  | _, _ => none
def unlockD (n : Nat) (S : Sto) : Option Sto := match S[n]? with
  | some (.dicL ks) => some (S.set n (.dic ks))
  | _ => none
def keysAt : R → Sto → Option (List D)
  | .ref n, S => match S[n]? with
    | some (.dicL ks) => some (keysD ks)
    | _ => none
  | _, _ => none
def seqR : R → Option (List D)
  | .d (.list xs) => some xs
  | .d (.tuple xs) => some xs
  | _ => none
/-- the pairs of a dict stored in another one -/
def mergeP {α : Type} (ks more : List (Key × α)) : List (Key × α) := more.foldl (fun acc kv => storeK acc kv.1 kv.2) ks
def pairsR : List (Key × D) → List (Key × R) := List.map fun kv => (kv.1, .d kv.2)
def updR (x y : R) (S : Sto) : Option Sto := match x, y with
  | .ref n, .ref m => if n = m then none else match S[n]?, S[m]? with
    | some (.dic ks), some (.dic ls) => if ks.length + ls.length ≤ sizeLine then some (S.set n (.dic (mergeP ks ls))) else none
    | some (.mix ks), some (.dic ls) => if ks.length + ls.length ≤ sizeLine then some (S.set n (.mix (mergeP ks (pairsR ls)))) else none
    | some (.mix ks), some (.mix ls) => if ks.length + ls.length ≤ sizeLine then some (S.set n (.mix (mergeP ks ls))) else none
    | _, _ => none
  | _, _ => none
def viewAll : List R → Sto → Option (List D)
  | [], _ => some []
  | r :: rs, S => match view r S, viewAll rs S with
    | some d, some ds => some (d :: ds)
    | _, _ => none
def guardB {α : Type} (b : Bool) (o : Option α) : Option α := match b with
  | true => o
  | false => none
section
variable (cl : Cl)
mutual
def evE : E → Loc → Sto → Option (R × Sto)
  | .loc i, L, S => match L[i]? with
    | some (some r) => some (r, S)
    | _ => none
  | .int i, _, S => some (.d (.int i), S)
  | .str x, _, S => some (.d (.str x), S)
  | .bl b, _, S => some (.d (.bool b), S)
  | .non, _, S => some (.d .none, S)
  | .gd _ d, _, S => some (.d d, S)
  | .bin op a b, L, S => okOr (evE a L S) fun (x, S1) => okOr (evE b L S1) fun (y, S2) => okOr (gBin op) fun g => okOr (bin2 g x y S2) fun d => some (.d d, S2)
  | .cmp op a b, L, S => okOr (evE a L S) fun (x, S1) => okOr (evE b L S1) fun (y, S2) => okOr (bin2 (gCmp op) x y S2) fun d => some (.d d, S2)
  | .cmp2 o p a b c, L, S => okOr (evE a L S) fun (x, S1) => okOr (evE b L S1) fun (y, S2) => okOr (bin2 (gCmp o) x y S2) fun d => match d with
    | .bool true => okOr (evE c L S2) fun (z, S3) => okOr (bin2 (gCmp p) y z S3) fun d => some (.d d, S3)
    | .bool false => some (.d (.bool false), S2)
    | _ => none
  | .bop k a r, L, S => okOr (evE a L S) fun (x, S1) => evB k r x L S1
  | .not a, L, S => okOr (evE a L S) fun (x, S1) => okOr (truth x S1) fun b => some (.d (.bool (!b)), S1)
  | .neg a, L, S => okOr (evE a L S) fun (x, S1) => okOr (un1 gNeg x S1) fun d => some (.d d, S1)
  | .ite c a b, L, S => okOr (evE c L S) fun (x, S1) => okOr (truth x S1) fun k => match k with
    | true => evE a L S1
    | false => evE b L S1
  | .tup es, L, S => okOr (evEs es L S) fun (rs, S1) => okOr (asDs rs) fun ds => if ds.length ≤ sizeLine then some (.d (.tuple ds), S1) else none
  | .lst es, L, S => okOr (evEs es L S) fun (rs, S1) => okOr (asDs rs) fun ds => if ds.length ≤ sizeLine then some (.d (.list ds), S1) else none
  | .lstR es, L, S => okOr (evEs es L S) fun (rs, S1) => okOr (asDs rs) fun ds => if ds.length ≤ sizeLine then some (.ref S1.length, S1 ++ [.lst ds]) else none
  | .dic0, _, S => some (.ref S.length, S ++ [.dic []])
  | .dic ks es, L, S => okOr (evEs es L S) fun (rs, S1) => match asDs rs with
    | some ds => if ds.length = ks.length ∧ ks.length ≤ 15 ∧ ks ≠ [] then some (.ref S1.length, S1 ++ [.dic (putS [] ks ds)]) else none
    | none => if rs.length = ks.length ∧ ks.length ≤ 15 ∧ ks ≠ [] then some (.ref S1.length, S1 ++ [.mix (putS [] ks rs)]) else none
  | .ix a i, L, S => okOr (evE a L S) fun (x, S1) => okOr (evE i L S1) fun (y, S2) => match ixR x y S2 with
    | some d => some (.d d, S2)
    | none => okOr (ixM x y S2) fun r => some (r, S2)
  | .sl a lo hi, L, S => okOr (evE a L S) fun (x, S1) => okOr (evO lo L S1) fun (l, S2) => okOr (evO hi L S2) fun (h, S3) => okOr (slR x l h S3) fun d => some (.d d, S3)
  | .bi b a, L, S => okOr (evE a L S) fun (x, S1) => okOr (un1 b.fn x S1) fun d => some (.d d, S1)
  | .isi t a, L, S => okOr (evE a L S) fun (x, S1) => okOr (un1 (fun d => some (.bool (isTy t d))) x S1) fun d => some (.d d, S1)
  | .call f es, L, S => okOr (evEs es L S) fun (rs, S1) => cl f rs S1
  | .comp own tg it cs e, L, S => okOr (evI it L S) fun (ds, lk, S1) => guardB (lockB lk S1)
      (okOr (loopM lk (fun d S => okOr (bindT tg d (wipeL L own)) fun L' => okOr (evT cs L' S) fun (b, S') => match b with
        | true => okOr (evE e L' S') fun (y, S2) => okOr (asD y) fun y => some (some y, S2)
        | false => some (none, S')) ds [] S1) fun (ys, S2) => some (.d (.list ys), S2))
  | .compR own tg it cs e, L, S => okOr (evI it L S) fun (ds, lk, S1) => guardB (lockB lk S1)
      (okOr (loopM lk (fun d S => okOr (bindT tg d (wipeL L own)) fun L' => okOr (evT cs L' S) fun (b, S') => match b with
        | true => okOr (evE e L' S') fun (y, S2) => okOr (asD y) fun y => some (some y, S2)
        | false => some (none, S')) ds [] S1) fun (ys, S2) => some (.ref S2.length, S2 ++ [.lst ys]))
  | .get2 d k e, L, S => okOr (evE d L S) fun (x, S1) => guardB (isDic x S1) (okOr (evE k L S1) fun (y, S2) => okOr (evE e L S2) fun (z, S3) => okOr (get2R x y z S3) fun r => some (r, S3))
  | .app a e, L, S => okOr (evE a L S) fun (x, S1) => guardB (isLst x S1) (okOr (evE e L S1) fun (y, S2) => okOr (appR x y S2) fun S3 => some (.d .none, S3))
  | .ext a e, L, S => okOr (evE a L S) fun (x, S1) => guardB (isLst x S1) (okOr (evE e L S1) fun (y, S2) => okOr (extR x y S2) fun S3 => some (.d .none, S3))
  | .join a e, L, S => okOr (evE a L S) fun (x, S1) => guardB (isS x) (okOr (evE e L S1) fun (y, S2) => okOr (bin2 gJoin x y S2) fun d => some (.d d, S2))
  | .gget2 _ tab k e, L, S => okOr (evE k L S) fun (y, S1) => okOr (evE e L S1) fun (z, S2) => okOr (getTab2 tab y z) fun d => some (.d d, S2)
  | .gget _ tab k, L, S => okOr (evE k L S) fun (y, S1) => okOr (getTab tab y) fun d => some (.d d, S1)
  | .callK f _ e, L, S => okOr (evE e L S) fun (x, S1) => cl f [x] S1
  | .sset a, L, S => okOr (evE a L S) fun (x, S1) => okOr (un1 gSSet x S1) fun d => some (.d d, S1)
  | .gix _ tab k, L, S => okOr (evE k L S) fun (y, S1) => okOr (ixTab tab y) fun d => some (.d d, S1)
  | .gin neg _ tab k, L, S => okOr (evE k L S) fun (y, S1) => okOr (inTab tab y) fun b => some (.d (.bool (if neg = true then !b else b)), S1)
  | .sortd a, L, S => okOr (evE a L S) fun (x, S1) => okOr (gSortD x S1) fun d => some (.d d, S1)
  | .upd a e, L, S => okOr (evE a L S) fun (x, S1) => guardB (isMut x S1) (okOr (evE e L S1) fun (y, S2) => okOr (updR x y S2) fun S3 => some (.d .none, S3))
  | .dlist a, L, S => okOr (evE a L S) fun (x, S1) => okOr (view x S1) fun d => okOr (dlistD d) fun ks => some (.ref S1.length, S1 ++ [.dic (mergeP [] ks)])
  | .deq0 a, L, S => okOr (evE a L S) fun (x, S1) => guardB (isE0 x S1) (some (.d (.bool true), S1 ++ [.dic []]))
  | .compd own tg d cs e, L, S => okOr (evE d L S) fun (x, _) => okOr (lockD x S) fun (n, S0) =>
      okOr (okOr (okOr (evE d L S0) fun (x, S1) => okOr (keysAt x S1) fun ds => some (ds, (none : Lk), S1)) fun (ds, lk, S1) => guardB (lockB lk S1)
        (okOr (loopM lk (fun d S => okOr (bindT tg d (wipeL L own)) fun L' => okOr (evT cs L' S) fun (b, S') => match b with
          | true => okOr (evE e L' S') fun (y, S2) => okOr (asD y) fun y => some (some y, S2)
          | false => some (none, S')) ds [] S1) fun (ys, S2) => some (R.d (.list ys), S2))) fun (r, S4) => okOr (unlockD n S4) fun S5 => some (r, S5)
  | .tupS ks es, L, S => okOr (evSt es ks L S) fun (rs, S1) => okOr (asDs rs) fun ds => if ds.length ≤ sizeLine then some (.d (.tuple ds), S1) else none
  | .dcopy a, L, S => okOr (evE a L S) fun (x, S1) => okOr (copyD x S1) fun b => some (.ref S1.length, S1 ++ [b])
  | .reprL es, L, S => okOr (evEs es L S) fun (rs, S1) => okOr (viewAll rs S1) fun ds => if ds.length ≤ sizeLine then okOr (gRepr (.list ds)) fun d => some (.d d, S1) else none
  | .rev a, L, S => okOr (evE a L S) fun (x, S1) => okOr (un1 gRev x S1) fun d => some (.d d, S1)
/-- and, or: x stands, r follows -/
def evB (k : Bool) : Es → R → Loc → Sto → Option (R × Sto)
  | .nil, x, _, S => some (x, S)
  | .cons e es, x, L, S => okOr (truth x S) fun b => if b = k then okOr (evE e L S) fun (y, S1) => evB k es y L S1 else some (x, S)
def evEs : Es → Loc → Sto → Option (List R × Sto)
  | .nil, _, S => some ([], S)
  | .cons e es, L, S => okOr (evE e L S) fun (x, S1) => okOr (evEs es L S1) fun (xs, S2) => some (x :: xs, S2)
/-- a display's values, those of the starred ones one by one -/
def evSt : Es → List Bool → Loc → Sto → Option (List R × Sto)
  | .nil, _, _, S => some ([], S)
  | .cons e es, true :: ks, L, S => okOr (evE e L S) fun (x, S1) => okOr (seqR x) fun ds => okOr (evSt es ks L S1) fun (xs, S2) => some (ds.map .d ++ xs, S2)
  | .cons e es, false :: ks, L, S => okOr (evE e L S) fun (x, S1) => okOr (evSt es ks L S1) fun (xs, S2) => some (x :: xs, S2)
  | .cons _ _, [], _, _ => none
/-- a clause's tests, none or one -/
def evT : Es → Loc → Sto → Option (Bool × Sto)
  | .nil, _, S => some (true, S)
  | .cons e .nil, L, S => okOr (evE e L S) fun (x, S1) => okOr (truth x S1) fun b => some (b, S1)
  | .cons _ _, _, _ => none
def evO : O → Loc → Sto → Option (Option Int × Sto)
  | .no, _, S => some (none, S)
  | .so e, L, S => okOr (evE e L S) fun (x, S1) => match x with
    | .d (.int i) => some (some i, S1)
    | _ => none
def evI : It' → Loc → Sto → Option (List D × Lk × Sto)
  | .seq e, L, S => okOr (evE e L S) fun (x, S1) => match x with
    | .d (.list xs) => some (xs, none, S1)
    | .d (.tuple xs) => some (xs, none, S1)
    | .d (.str z) => some (signs z, none, S1)
    | .ref n => (match S1[n]? with
      | some (.lst xs) => some (xs, some (n, xs), S1)
      | _ => none)
    | _ => none
  | .rng e, L, S => okOr (evE e L S) fun (x, S1) => match x with
    | .d (.int i) => if -(2 ^ 62) ≤ i ∧ i < 2 ^ 62 then some (rngD i, none, S1) else none
    | _ => none
  | .zip a b, L, S => okOr (evE a L S) fun (x, S1) => okOr (evE b L S1) fun (y, S2) => match x, y with
    | .d (.list xs), .d (.list ys) => some (zipD xs ys, none, S2)
    | .d (.tuple xs), .d (.tuple ys) => some (zipD xs ys, none, S2)
    | _, _ => none
  | .enm a, L, S => okOr (evE a L S) fun (x, S1) => match x with
    | .d (.list xs) => some (enumD 0 xs, none, S1)
    | .d (.tuple xs) => some (enumD 0 xs, none, S1)
    | .d (.str z) => some (enumD 0 (signs z), none, S1)
    | _ => none
  | .rng2 a b, L, S => okOr (evE a L S) fun (x, S1) => okOr (evE b L S1) fun (y, S2) => match x, y with
    | .d (.int i), .d (.int j) => if -(2 ^ 62) ≤ i ∧ i < 2 ^ 62 ∧ -(2 ^ 62) ≤ j ∧ j < 2 ^ 62 then some (rng2D i j, none, S2) else none
    | _, _ => none
end
mutual
def evS : Sx → Loc → Sto → Option (Fl × Loc × Sto)
  | .asg i e, L, S => okOr (evE cl e L S) fun (x, S1) => some (.nx, L.set i (some x), S1)
  | .asgL i e, L, S => okOr (evE cl e L S) fun (x, S1) => some (.nx, L.set i (some x), S1)
  | .par is es, L, S => okOr (evEs cl es L S) fun (rs, S1) => okOr (setAll is rs L) fun L' => some (.nx, L', S1)
  | .parC is es, L, S => okOr (evEs cl es L S) fun (rs, S1) => okOr (setAll is rs L) fun L' => some (.nx, L', S1)
  | .unp is e, L, S => okOr (evE cl e L S) fun (x, S1) => match x with
    | .d (.tuple ds) => okOr (bindIx is ds L) fun L' => some (.nx, L', S1)
    | _ => none
  | .dset d k v, L, S => okOr (evE cl v L S) fun (z, S1) => okOr (evE cl d L S1) fun (x, S2) => okOr (evE cl k L S2) fun (y, S3) => okOr (dsetR x y z S3) fun S4 => some (.nx, L, S4)
  | .expr e, L, S => okOr (evE cl e L S) fun (_, S1) => some (.nx, L, S1)
  | .ret e, L, S => okOr (evE cl e L S) fun (x, S1) => some (.rt x, L, S1)
  | .ret0, L, S => some (.rt (.d .none), L, S)
  | .ifs c a b, L, S => okOr (evE cl c L S) fun (x, S1) => okOr (truth x S1) fun k => match k with
    | true => evSs a L S1
    | false => evSs b L S1
  | .fors tg it b, L, S => okOr (evI cl it L S) fun (ds, lk, S1) => guardB (lockB lk S1) (forM' lk (fun d L S => okOr (bindT tg d L) fun L' => evSs b L' S) ds L S1)
  | .ford tg d b, L, S => okOr (evE cl d L S) fun (x, _) => okOr (lockD x S) fun (n, S0) =>
      okOr (okOr (okOr (evE cl d L S0) fun (x, S1) => okOr (keysAt x S1) fun ds => some (ds, (none : Lk), S1)) fun (ds, lk, S1) => guardB (lockB lk S1)
        (forM' lk (fun d L S => okOr (bindT tg d L) fun L' => evSs b L' S) ds L S1)) fun (f, L', S4) => okOr (unlockD n S4) fun S5 => some (f, L', S5)
  | .never, _, _ => none
  | .pass, L, S => some (.nx, L, S)
  | .brk, L, S => some (.bk, L, S)
  | .cont, L, S => some (.ct, L, S)
def evSs : List Sx → Loc → Sto → Option (Fl × Loc × Sto)
  | [], L, S => some (.nx, L, S)
  | s :: r, L, S => okOr (evS s L S) fun (f, L', S') => match f with
    | .nx => evSs r L' S'
    | f => some (f, L', S')
end
end
/-- a def: its name, its names by slot, how many of them are parameters, its body -/
structure Fn where
  name : Str
  names : List Str
  np : Nat
  body : List Sx
/-- values, things, stores that are the same -/
def rEq : R → R → Bool
  | .d a, .d b => dEq a b
  | .ref m, .ref n => m == n
  | .scr a, .scr b => decide (a = b)
  | _, _ => false
def pEqD : List (Key × D) → List (Key × D) → Bool
  | [], [] => true
  | p :: r, q :: t => decide (p.1 = q.1) && dEq p.2 q.2 && pEqD r t
  | _, _ => false
def pEqR : List (Key × R) → List (Key × R) → Bool
  | [], [] => true
  | p :: r, q :: t => decide (p.1 = q.1) && rEq p.2 q.2 && pEqR r t
  | _, _ => false
def obEq : Ob → Ob → Bool
  | .lst a, .lst b => dEqs a b
  | .dic a, .dic b => pEqD a b
  | .mix a, .mix b => pEqR a b
  | .dicL a, .dicL b => pEqD a b
  | _, _ => false
/-- what is left behind a call holds nothing that was made within -/
def okCut (m : Nat) : Sto → Sto → Bool
  | a :: S, b :: T => (shutO m b || obEq a b) && okCut m S T
  | [], [] => true
  | _, _ => false
def cutS (S S' : Sto) : Option Sto := if okCut S.length S (S'.take S.length) = true then some (S'.take S.length) else none
theorem rEq_refl (r : R) : rEq r r = true := by
  cases r with
  | d x => exact dEq_refl x
  | ref n => simp [rEq]
  | scr a => simp [rEq]
theorem pEqD_refl : ∀ a : List (Key × D), pEqD a a = true
  | [] => rfl
  | p :: r => by simp only [pEqD, decide_true, dEq_refl, pEqD_refl r, Bool.and_self]
theorem pEqR_refl : ∀ a : List (Key × R), pEqR a a = true
  | [] => rfl
  | p :: r => by simp only [pEqR, decide_true, rEq_refl, pEqR_refl r, Bool.and_self]
theorem obEq_refl (o : Ob) : obEq o o = true := by
  cases o with
  | lst a => exact dEqs_refl a
  | dic a => exact pEqD_refl a
  | mix a => exact pEqR_refl a
  | dicL a => exact pEqD_refl a
theorem rEq_eq {a b : R} (h : rEq a b = true) : a = b := by
  cases a <;> cases b <;> first | cases h | skip
  · rw [dEq_eq _ _ h]
  · simp only [rEq, beq_iff_eq] at h; rw [h]
  · simp only [rEq, decide_eq_true_eq] at h; rw [h]
theorem pEqR_eq : ∀ {a b : List (Key × R)}, pEqR a b = true → a = b
  | [], [], _ => rfl
  | [], _ :: _, h => nomatch h
  | _ :: _, [], h => nomatch h
  | p :: r, q :: t, h => by
    simp only [pEqR, Bool.and_eq_true, decide_eq_true_eq] at h
    obtain ⟨⟨h1, h2⟩, h3⟩ := h
    rw [pEqR_eq h3]
    obtain ⟨a, b⟩ := p
    obtain ⟨c, d⟩ := q
    cases h1
    rw [show b = d from rEq_eq h2]
theorem okCut_refl (m : Nat) : ∀ S : Sto, okCut m S S = true
  | [] => rfl
  | o :: S => by simp only [okCut, obEq_refl, Bool.or_true, okCut_refl m S, Bool.and_self]
theorem cutS_same (S : Sto) : cutS S S = some S := by
  unfold cutS
  rw [List.take_length, if_pos (okCut_refl _ _)]
theorem cutS_app (S T : Sto) : cutS S (S ++ T) = some S := by
  unfold cutS
  rw [List.take_left' rfl, if_pos (okCut_refl _ _)]
theorem cutS_cons {o o' : Ob} (T U : Sto) (h : shutO (T.length + 1) o' = true) : cutS (o :: T) (o' :: (T ++ U)) = some (o' :: T) := by
  unfold cutS
  have e : (o' :: (T ++ U)).take (o :: T).length = o' :: T := by
    rw [List.length_cons, List.take_succ_cons, List.take_left' rfl]
  rw [e, if_pos]
  simp only [okCut, List.length_cons, h, Bool.true_or, okCut_refl, Bool.and_self]
theorem obEq_shut {m : Nat} {a b : Ob} (h : obEq a b = true) (k : shutO m a = true) : shutO m b = true := by
  cases a <;> cases b <;> first | rfl | cases h | skip
  cases pEqR_eq h
  exact k
theorem okCut_shut {m : Nat} : ∀ {S T : Sto}, okCut m S T = true → (∀ (n : Nat) (b : Ob), S[n]? = some b → shutO m b = true) → ∀ (n : Nat) (b : Ob), T[n]? = some b → shutO m b = true
  | [], [], _, _, n, b, e => by simp at e
  | [], _ :: _, h, _, _, _, _ => nomatch h
  | _ :: _, [], h, _, _, _, _ => nomatch h
  | a :: S, c :: T, h, k, n, b, e => by
    simp only [okCut, Bool.and_eq_true, Bool.or_eq_true] at h
    cases n with
    | zero =>
      simp at e
      subst e
      rcases h.1 with q | q
      · exact q
      · exact obEq_shut q (k 0 a rfl)
    | succ n => exact okCut_shut h.2 (fun n b q => k (n + 1) b (by simpa using q)) n b (by simpa using e)
/-- a call's value: where it is a datum, what was made within is forgotten -/
def callN (P : List Fn) : Nat → Cl
  | 0, _, _, _ => none
  | n + 1, f, rs, S => match P[f]? with
    | some d => if rs.length = d.np then (match evSs (callN P n) d.body (rs.map some ++ List.replicate (d.names.length - rs.length) none) S with
        | some (.rt (.d x), _, S') => okOr (cutS S S') fun T => some (.d x, T)
        | some (.rt r, _, S') => some (r, S')
        | some (.nx, _, S') => okOr (cutS S S') fun T => some (.d .none, T)
        | _ => none) else none
    | none => none
end PL
end
section
set_option maxHeartbeats 2000000
namespace PL
open PySem PySem.Spec PyProof.Rows L2
theorem okOr_some {α β : Type} {o : Option α} {f : α → Option β} {b : β} (h : okOr o f = some b) : ∃ a, o = some a ∧ f a = some b := by
  cases o with
  | none => cases h
  | some a => exact ⟨a, rfl, h⟩
theorem res_eq {α : Type} {x r : α} {S S' : Sto} (h : some (x, S) = some (r, S')) : x = r ∧ S = S' := by
  injection h with h
  injection h with h1 h2
  exact ⟨h1, h2⟩
theorem okOr_eq {α β : Type} (a : α) (f : α → Option β) : okOr (some a) f = f a := rfl
/-- a test's reading -/
def tT (K : PySem.W.Frag) (ev : Loc → Sto → Option (Bool × Sto)) : TT := fun σ H Q => ∃ F G ρ S L b S', SOk K F G ρ S H ∧ LOk K G ρ L σ ∧ ev L S = some (b, S') ∧
  ∀ (G' : Hp) (ρ' : List Addr) (H' : Hp), Same G G' → ρ <+: ρ' → SOk K F G' ρ' S' H' → Q b H'
def tstE (ev : Ev) : Loc → Sto → Option (Bool × Sto) := fun L S => okOr (ev L S) fun (x, S1) => okOr (truth x S1) fun b => some (b, S1)
def tO (K : PySem.W.Frag) (ev : Loc → Sto → Option (Option Int × Sto)) : TO := fun σ H Q => ∃ F G ρ S L b S', SOk K F G ρ S H ∧ LOk K G ρ L σ ∧ ev L S = some (b, S') ∧
  ∀ (G' : Hp) (ρ' : List Addr) (H' : Hp), Same G G' → ρ <+: ρ' → SOk K F G' ρ' S' H' → Q b H'
theorem PO.weak {X : Cx} {e : Option Expr} {t t' : TO} (h : PO X e t) (q : ∀ σ H Q, t' σ H Q → t σ H Q) : PO X e t' := ⟨fun pins s σ H Q I w => h.run pins s σ H Q I (q σ H Q w)⟩
section
variable {X : Cx} {a b c : Expr} {ea eb ec : Ev} {pos : Pos}
theorem e_loc {i : Nat} {x : Str} (hN : X.N[i]? = some x) (hv : Vis X.env.scope x) (hd : (x == ("__debug__" : Str)) = false) (hcd : (x == ("__classdict__" : Str)) = false) :
    PE X (.Name x pos) (tE X.K fun L S => match L[i]? with
      | some (some r) => some (r, S)
      | _ => none) := by
  refine PE.weak (pe_var (i := i) hN hv hd hcd) fun σ H Q h => ?_
  obtain ⟨F, G, ρ, S, L, r, S', s, l, e, q⟩ := h
  dsimp only at e
  split at e
  · rename_i r' hr
    cases e
    obtain ⟨v, hv, rv⟩ := l.2 i _ hr
    exact ⟨v, hv, q.now s rv⟩
  · cases e
theorem e_const {v : V} {d : D} (h : PE X a (tC v)) (hd : ∀ G, DV X.K G v d) : PE X a (tE X.K fun _ S => some (.d d, S)) := by
  refine PE.weak h fun σ H Q h => ?_
  obtain ⟨F, G, ρ, S, L, r, S', s, l, e, q⟩ := h
  cases e
  exact q.now s (hd G)
theorem e_bin {op : Operator} (ha : PE X a (tE X.K ea)) (hb : PE X b (tE X.K eb)) : PE X (.BinOp a op b pos) (tE X.K fun L S => okOr (ea L S) fun (x, S1) => okOr (eb L S1) fun (y, S2) => okOr (gBin op) fun g => okOr (bin2 g x y S2) fun d => some (.d d, S2)) := by
  cases hg : gBin op with
  | none =>
    refine ⟨fun pins s σ H Q I h => ?_⟩
    obtain ⟨F, G, ρ, S, L, r, S', s, l, e, q⟩ := h
    obtain ⟨⟨x, S1⟩, e1, e⟩ := okOr_some e
    obtain ⟨⟨y, S2⟩, e2, e⟩ := okOr_some e
    obtain ⟨g', eg, e⟩ := okOr_some e
    cases eg
  | some g =>
    refine PE.weak (pe_op (o_bin hg) ha hb) fun σ H Q h => ?_
    obtain ⟨F, G, ρ, S, L, r, S', s, l, e, q⟩ := h
    obtain ⟨⟨x, S1⟩, e1, e⟩ := okOr_some e
    obtain ⟨⟨y, S2⟩, e2, e⟩ := okOr_some e
    obtain ⟨g', eg, e⟩ := okOr_some e
    cases eg
    obtain ⟨d, e3, e⟩ := okOr_some e
    obtain ⟨rfl, rfl⟩ := res_eq e
    refine ⟨F, G, ρ, S, L, x, S1, s, l, e1, fun G1 ρ1 H1 v1 g1 p1 s1 q1 => ⟨F, G1, ρ1, S1, L, y, S2, s1, lok_mono g1 p1 l, e2, fun G2 ρ2 H2 v2 g2 p2 s2 q2 => ?_⟩⟩
    simp only [bin2] at e3
    split at e3
    · rename_i dx dy hx hy
      exact ⟨F, G2, ρ2, S2, dx, dy, d, s2, view_ok s2 (rv_mono g2 p2 q1) hx, view_ok s2 q2 hy, e3, (q.mono (g1.trans g2) (p1.trans p2))⟩
    · cases e3
/-- the shared reading of a comparison -/
theorem cmp_read {K : PySem.W.Frag} {g : D → D → Option D} {σ : L2.St} {H : Hp} {Q : VK} (h : tE K (fun L S => okOr (ea L S) fun (x, S1) => okOr (eb L S1) fun (y, S2) => okOr (bin2 g x y S2) fun d => some (.d d, S2)) σ H Q) :
    tOp (t2 K g) (tE K ea) (tE K eb) σ H Q := by
  obtain ⟨F, G, ρ, S, L, r, S', s, l, e, q⟩ := h
  obtain ⟨⟨x, S1⟩, e1, e⟩ := okOr_some e
  obtain ⟨⟨y, S2⟩, e2, e⟩ := okOr_some e
  obtain ⟨d, e3, e⟩ := okOr_some e
  obtain ⟨rfl, rfl⟩ := res_eq e
  refine ⟨F, G, ρ, S, L, x, S1, s, l, e1, fun G1 ρ1 H1 v1 g1 p1 s1 q1 => ⟨F, G1, ρ1, S1, L, y, S2, s1, lok_mono g1 p1 l, e2, fun G2 ρ2 H2 v2 g2 p2 s2 q2 => ?_⟩⟩
  simp only [bin2] at e3
  split at e3
  · rename_i dx dy hx hy
    exact ⟨F, G2, ρ2, S2, dx, dy, d, s2, view_ok s2 (rv_mono g2 p2 q1) hx, view_ok s2 q2 hy, e3, (q.mono (g1.trans g2) (p1.trans p2))⟩
  · cases e3
theorem e_cmp {op : CmpOp} (hu : X.A.units + 64 < cLine) (ha : PE X a (tE X.K ea)) (hb : PE X b (tE X.K eb)) (hm : behindInMarks op b = false) :
    PE X (.Compare a [op] [b] pos) (tE X.K fun L S => okOr (ea L S) fun (x, S1) => okOr (eb L S1) fun (y, S2) => okOr (bin2 (gCmp op) x y S2) fun d => some (.d d, S2)) :=
  PE.weak (pe_cmpR (o_cmp hu op) ha hb hm) fun σ H Q h => cmp_read h
/-- a test that is an expression's truth, from a reading in which the value is a bool -/
theorem tst_bool {K : PySem.W.Frag} {ev : Ev} {t : TE} {σ : L2.St} {H : Hp} {Q : Bool → Hp → Prop} (hb : ∀ L S r S', ev L S = some (r, S') → ∃ b, r = .d (.bool b)) (h : tT K (tstE ev) σ H Q) : tE K ev σ H fun x H' => ∃ k, x = .bl k ∧ Q k H' := by
  obtain ⟨F, G, ρ, S, L, b, S', s, l, e, q⟩ := h
  obtain ⟨⟨x, S1⟩, e1, e⟩ := okOr_some e
  obtain ⟨k, e2, e⟩ := okOr_some e
  cases e
  obtain ⟨b', rfl⟩ := hb _ _ _ _ e1
  cases e2
  exact ⟨F, G, ρ, S, L, _, _, s, l, e1, fun G1 ρ1 H1 v1 g1 p1 s1 q1 => by cases q1; exact ⟨_, rfl, q G1 ρ1 H1 g1 p1 s1⟩⟩
theorem gCmp_bool {op : CmpOp} {x y d : D} (h : gCmp op x y = some d) : ∃ b, d = .bool b := by
  cases op <;> simp only [gCmp] at h
  · obtain ⟨_, rfl⟩ := some_if h; exact ⟨_, rfl⟩
  · obtain ⟨_, rfl⟩ := some_if h; exact ⟨_, rfl⟩
  · unfold gLt at h; split at h <;> first | (cases h; exact ⟨_, rfl⟩) | cases h
  · unfold gLe at h; split at h <;> first | (cases h; exact ⟨_, rfl⟩) | cases h
  · unfold gGt at h; split at h <;> first | (cases h; exact ⟨_, rfl⟩) | cases h
  · unfold gGe at h; split at h <;> first | (cases h; exact ⟨_, rfl⟩) | cases h
  · unfold gIs at h; split at h <;> first | (cases h; exact ⟨_, rfl⟩) | cases h
  · unfold gIsNot at h; split at h <;> first | (cases h; exact ⟨_, rfl⟩) | cases h
  · obtain ⟨b, _, rfl⟩ := Option.map_eq_some_iff.mp h; exact ⟨_, rfl⟩
  · obtain ⟨b, _, rfl⟩ := Option.map_eq_some_iff.mp h; exact ⟨_, rfl⟩
theorem bin2_some {g : D → D → Option D} {x y : R} {S : Sto} {d : D} (h : bin2 g x y S = some d) : ∃ a b, view x S = some a ∧ view y S = some b ∧ g a b = some d := by
  simp only [bin2] at h
  split at h
  · exact ⟨_, _, by assumption, by assumption, h⟩
  · cases h
theorem un1_some {g : D → Option D} {x : R} {S : Sto} {d : D} (h : un1 g x S = some d) : ∃ a, view x S = some a ∧ g a = some d := by
  simp only [un1] at h
  split at h
  · exact ⟨_, by assumption, h⟩
  · cases h
theorem p_cmp {op : CmpOp} (hu : X.A.units + 64 < cLine) (ha : PE X a (tE X.K ea)) (hb : PE X b (tE X.K eb)) (hm : behindInMarks op b = false) :
    PT X (.Compare a [op] [b] pos) (tT X.K (tstE fun L S => okOr (ea L S) fun (x, S1) => okOr (eb L S1) fun (y, S2) => okOr (bin2 (gCmp op) x y S2) fun d => some (.d d, S2))) :=
  PT.weak (pt_cmpR (o_cmp hu op) ha hb hm) fun σ H Q h => cmp_read (tst_bool (t := fun _ _ _ => True) (fun L S r S' e => by
    obtain ⟨⟨x, S1⟩, _, e⟩ := okOr_some e
    obtain ⟨⟨y, S2⟩, _, e⟩ := okOr_some e
    obtain ⟨d, e3, e⟩ := okOr_some e
    obtain ⟨_, _, _, _, e3⟩ := bin2_some e3
    obtain ⟨b, rfl⟩ := gCmp_bool e3
    cases e
    exact ⟨b, rfl⟩) h)
abbrev ev2 (o p : CmpOp) (ea eb ec : Ev) : Ev := fun L S => okOr (ea L S) fun (x, S1) => okOr (eb L S1) fun (y, S2) => okOr (bin2 (gCmp o) x y S2) fun d => match d with
    | .bool true => okOr (ec L S2) fun (z, S3) => okOr (bin2 (gCmp p) y z S3) fun d => some (.d d, S3)
    | .bool false => some (.d (.bool false), S2)
    | _ => none
theorem chain_read {K : PySem.W.Frag} {o p : CmpOp} {σ : L2.St} {H : Hp} {Q : VK} (h : tE K (ev2 o p ea eb ec) σ H Q) : tChain (t2 K (gCmp o)) (t2 K (gCmp p)) (tE K ea) (tE K eb) (tE K ec) σ H Q := by
  obtain ⟨F, G, ρ, S, L, r, S', s, l, e, q⟩ := h
  obtain ⟨⟨x, S1⟩, e1, e⟩ := okOr_some e
  obtain ⟨⟨y, S2⟩, e2, e⟩ := okOr_some e
  obtain ⟨d, e3, e⟩ := okOr_some e
  obtain ⟨dx, dy, hx, hy, e3⟩ := bin2_some e3
  obtain ⟨k, rfl⟩ := gCmp_bool e3
  refine ⟨F, G, ρ, S, L, x, S1, s, l, e1, fun G1 ρ1 H1 v1 g1 p1 s1 q1 => ⟨F, G1, ρ1, S1, L, y, S2, s1, lok_mono g1 p1 l, e2, fun G2 ρ2 H2 v2 g2 p2 s2 q2 => ?_⟩⟩
  refine ⟨F, G2, ρ2, S2, dx, dy, _, s2, view_ok s2 (rv_mono g2 p2 q1) hx, view_ok s2 q2 hy, e3, fun G3 ρ3 H3 v3 g3 p3 s3 q3 => ?_⟩
  cases q3
  refine ⟨k, rfl, ?_⟩
  cases k with
  | false =>
    cases e
    rw [if_neg Bool.false_ne_true]
    exact (q.mono (g1.trans (g2.trans g3)) (p1.trans (p2.trans p3))).bl s3
  | true =>
    rw [if_pos rfl]
    obtain ⟨⟨z, S3⟩, e4, e⟩ := okOr_some e
    obtain ⟨d, e5, e⟩ := okOr_some e
    obtain ⟨rfl, rfl⟩ := res_eq e
    obtain ⟨dy', dz, hy', hz, e5⟩ := bin2_some e5
    refine ⟨F, G3, ρ3, S2, L, z, S3, s3, lok_mono (g1.trans (g2.trans g3)) (p1.trans (p2.trans p3)) l, e4, fun G4 ρ4 H4 v4 g4 p4 s4 q4 => ?_⟩
    exact ⟨F, G4, ρ4, S3, dy', dz, d, s4, view_ok s4 (rv_mono (g3.trans g4) (p3.trans p4) q2) hy', view_ok s4 q4 hz, e5, q.mono (g1.trans (g2.trans (g3.trans g4))) (p1.trans (p2.trans (p3.trans p4)))⟩
end
end PL
end
section
set_option maxHeartbeats 2000000
namespace PL
open PySem PySem.Spec PyProof.Rows L2
section
variable {X : Cx} {a b c : Expr} {ea eb ec : Ev} {pos : Pos}
theorem e_cmp2 {o p : CmpOp} (hu : X.A.units + 64 < cLine) (ha : PE X a (tE X.K ea)) (hb : PE X b (tE X.K eb)) (hc : PE X c (tE X.K ec)) (hm : lastMarks [o, p] [b, c] = false) :
    PE X (.Compare a [o, p] [b, c] pos) (tE X.K (ev2 o p ea eb ec)) := PE.weak (pe_chain (o_cmp hu o) (o_cmp hu p) ha hb hc hm) fun σ H Q h => chain_read h
theorem p_cmp2 {o p : CmpOp} (hu : X.A.units + 64 < cLine) (ha : PE X a (tE X.K ea)) (hb : PE X b (tE X.K eb)) (hc : PE X c (tE X.K ec)) (hm : lastMarks [o, p] [b, c] = false) :
    PT X (.Compare a [o, p] [b, c] pos) (tT X.K (tstE (ev2 o p ea eb ec))) := by
  refine PT.weak (pt_chain (o_cmp hu o) (o_cmp hu p) ha hb hc hm) fun σ H Q h => chain_read (tst_bool (t := fun _ _ _ => True) (fun L S r S' e => ?_) h)
  obtain ⟨⟨x, S1⟩, _, e⟩ := okOr_some e
  obtain ⟨⟨y, S2⟩, _, e⟩ := okOr_some e
  obtain ⟨d, e3, e⟩ := okOr_some e
  obtain ⟨_, _, _, _, e3⟩ := bin2_some e3
  obtain ⟨k, rfl⟩ := gCmp_bool e3
  cases k with
  | false => cases e; exact ⟨false, rfl⟩
  | true =>
    obtain ⟨⟨z, S3⟩, _, e⟩ := okOr_some e
    obtain ⟨d, e5, e⟩ := okOr_some e
    obtain ⟨_, _, _, _, e5⟩ := bin2_some e5
    obtain ⟨k, rfl⟩ := gCmp_bool e5
    cases e; exact ⟨k, rfl⟩
/-- truth of a value -/
theorem truth_read {K : PySem.W.Frag} {σ : L2.St} {H : Hp} {Q : Bool → Hp → Prop} (h : tT K (tstE ea) σ H Q) : tE K ea σ H fun x H' => ∃ k, TruV K x H' k ∧ Q k H' := by
  obtain ⟨F, G, ρ, S, L, b, S', s, l, e, q⟩ := h
  obtain ⟨⟨x, S1⟩, e1, e⟩ := okOr_some e
  obtain ⟨k, e2, e⟩ := okOr_some e
  obtain ⟨rfl, rfl⟩ := res_eq e
  exact ⟨F, G, ρ, S, L, x, S1, s, l, e1, fun G1 ρ1 H1 v1 g1 p1 s1 q1 => ⟨k, truth_ok s1 q1 e2, q G1 ρ1 H1 g1 p1 s1⟩⟩
theorem p_val (ha : PE X a (tE X.K ea)) (hw : ∀ whole, isTrue a X.env whole = (do let v ← whole; standAt a.pos; holding [v] (truthy v))) : PT X a (tT X.K (tstE ea)) :=
  PT.weak (pt_truth ha hw) fun σ H Q h => truth_read h
abbrev evNot (ea : Ev) : Ev := fun L S => okOr (ea L S) fun (x, S1) => okOr (truth x S1) fun b => some (.d (.bool (!b)), S1)
theorem e_not (ha : PE X a (tE X.K ea)) : PE X (.UnaryOp .Not a pos) (tE X.K (evNot ea)) := by
  refine PE.weak (pe_notT ha) fun σ H Q h => ?_
  obtain ⟨F, G, ρ, S, L, b, S', s, l, e, q⟩ := h
  obtain ⟨⟨x, S1⟩, e1, e⟩ := okOr_some e
  obtain ⟨k, e2, e⟩ := okOr_some e
  obtain ⟨rfl, rfl⟩ := res_eq e
  exact ⟨F, G, ρ, S, L, x, S1, s, l, e1, fun G1 ρ1 H1 v1 g1 p1 s1 q1 => ⟨k, truth_ok s1 q1 e2, (q.mono g1 p1).bl s1⟩⟩
theorem p_not (ha : PT X a (tT X.K (tstE ea))) : PT X (.UnaryOp .Not a pos) (tT X.K (tstE (evNot ea))) := by
  refine PT.weak (pt_not ha) fun σ H Q h => ?_
  obtain ⟨F, G, ρ, S, L, b, S', s, l, e, q⟩ := h
  obtain ⟨⟨x, S1⟩, e1, e⟩ := okOr_some e
  obtain ⟨k, e2, e⟩ := okOr_some e
  obtain ⟨rfl, rfl⟩ := res_eq e
  obtain ⟨⟨y, S2⟩, e3, e1⟩ := okOr_some e1
  obtain ⟨k', e4, e1⟩ := okOr_some e1
  obtain ⟨rfl, rfl⟩ := res_eq e1
  cases e2
  refine ⟨F, G, ρ, S, L, k', S2, s, l, ?_, fun G1 ρ1 H1 g1 p1 s1 => q G1 ρ1 H1 g1 p1 s1⟩
  show okOr (ea L S) _ = _
  rw [e3]
  show okOr (truth y S2) _ = _
  rw [e4]; rfl
theorem e_neg (ha : PE X a (tE X.K ea)) : PE X (.UnaryOp .USub a pos) (tE X.K fun L S => okOr (ea L S) fun (x, S1) => okOr (un1 gNeg x S1) fun d => some (.d d, S1)) := by
  refine PE.weak (pe_un u_neg ha) fun σ H Q h => ?_
  obtain ⟨F, G, ρ, S, L, b, S', s, l, e, q⟩ := h
  obtain ⟨⟨x, S1⟩, e1, e⟩ := okOr_some e
  obtain ⟨d, e2, e⟩ := okOr_some e
  obtain ⟨rfl, rfl⟩ := res_eq e
  obtain ⟨dx, hx, e2⟩ := un1_some e2
  exact ⟨F, G, ρ, S, L, x, S1, s, l, e1, fun G1 ρ1 H1 v1 g1 p1 s1 q1 => ⟨F, G1, ρ1, S1, dx, d, s1, view_ok s1 q1 hx, e2, q.mono g1 p1⟩⟩
abbrev evIte (ec ea eb : Ev) : Ev := fun L S => okOr (ec L S) fun (x, S1) => okOr (truth x S1) fun k => match k with
    | true => ea L S1
    | false => eb L S1
theorem tst_of {L : Loc} {S S1 : Sto} {x : R} {k : Bool} (e1 : ec L S = some (x, S1)) (e2 : truth x S1 = some k) : tstE ec L S = some (k, S1) := by
  show okOr (ec L S) _ = _
  rw [e1]
  show okOr (truth x S1) _ = _
  rw [e2]; rfl
theorem e_ite (hc : PT X c (tT X.K (tstE ec))) (ha : PE X a (tE X.K ea)) (hb : PE X b (tE X.K eb)) : PE X (.IfExp c a b pos) (tE X.K (evIte ec ea eb)) := by
  refine PE.weak (pe_ifExp hc ha hb) fun σ H Q h => ?_
  obtain ⟨F, G, ρ, S, L, r, S', s, l, e, q⟩ := h
  obtain ⟨⟨x, S1⟩, e1, e⟩ := okOr_some e
  obtain ⟨k, e2, e⟩ := okOr_some e
  refine ⟨F, G, ρ, S, L, k, S1, s, l, tst_of e1 e2, fun G1 ρ1 H1 g1 p1 s1 => ?_⟩
  cases k with
  | true => rw [if_pos rfl]; exact ⟨F, G1, ρ1, S1, L, r, S', s1, lok_mono g1 p1 l, e, q.mono g1 p1⟩
  | false => rw [if_neg Bool.false_ne_true]; exact ⟨F, G1, ρ1, S1, L, r, S', s1, lok_mono g1 p1 l, e, q.mono g1 p1⟩
theorem pt_ifE {tc ta tb : TT} (hc : PT X c tc) (ha : PT X a ta) (hb : PT X b tb) : PT X (.IfExp c a b pos) (fun σ H Q => tc σ H fun k H1 => if k = true then ta σ H1 Q else tb σ H1 Q) := by
  refine ⟨fun pins s0 σ H Q I h => ?_⟩
  show wpAny _ _ (PySem.isTrue c X.env (eval c X.env) >>= fun t => if t = true then PySem.isTrue a X.env (eval a X.env) else PySem.isTrue b X.env (eval b X.env)) _ _ s0
  refine wpAny_bind (thn (hc.run pins s0 σ H (fun k H1 => if k = true then ta σ H1 Q else tb σ H1 Q) I h) fun t s1 ⟨H1, I1, q1⟩ => ?_)
  cases t with
  | true => exact ha.run pins s1 σ H1 Q I1 q1
  | false => exact hb.run pins s1 σ H1 Q I1 q1
theorem p_ite (hc : PT X c (tT X.K (tstE ec))) (ha : PT X a (tT X.K (tstE ea))) (hb : PT X b (tT X.K (tstE eb))) : PT X (.IfExp c a b pos) (tT X.K (tstE (evIte ec ea eb))) := by
  refine PT.weak (pt_ifE hc ha hb) fun σ H Q h => ?_
  obtain ⟨F, G, ρ, S, L, r, S', s, l, e, q⟩ := h
  obtain ⟨⟨y, S2⟩, e0, e⟩ := okOr_some e
  obtain ⟨k2, e3, e⟩ := okOr_some e
  obtain ⟨rfl, rfl⟩ := res_eq e
  obtain ⟨⟨x, S1⟩, e1, e0⟩ := okOr_some e0
  obtain ⟨k, e2, e0⟩ := okOr_some e0
  refine ⟨F, G, ρ, S, L, k, S1, s, l, tst_of e1 e2, fun G1 ρ1 H1 g1 p1 s1 => ?_⟩
  cases k with
  | true => rw [if_pos rfl]; exact ⟨F, G1, ρ1, S1, L, k2, S2, s1, lok_mono g1 p1 l, tst_of e0 e3, fun G2 ρ2 H2 g2 p2 s2 => q G2 ρ2 H2 (g1.trans g2) (p1.trans p2) s2⟩
  | false => rw [if_neg Bool.false_ne_true]; exact ⟨F, G1, ρ1, S1, L, k2, S2, s1, lok_mono g1 p1 l, tst_of e0 e3, fun G2 ρ2 H2 g2 p2 s2 => q G2 ρ2 H2 (g1.trans g2) (p1.trans p2) s2⟩
/-! ### and, or -/
/-- how the rest of an and (or) goes on, from the value that stands -/
abbrev EvB := R → Loc → Sto → Option (R × Sto)
abbrev evBop (k : Bool) (ea : Ev) (r : EvB) : Ev := fun L S => okOr (ea L S) fun (x, S1) => r x L S1
abbrev nilB : EvB := fun x _ S => some (x, S)
abbrev consB (k : Bool) (e : Ev) (r : EvB) : EvB := fun x L S => okOr (truth x S) fun b => if b = k then okOr (e L S) fun (y, S1) => r y L S1 else some (x, S)
variable {rest : List Expr} {r : EvB}
theorem e_bop1 {op : BoolOp} {k : Bool} (ha : PE X a (tE X.K ea)) : PE X (.BoolOp op [a] pos) (tE X.K (evBop k ea nilB)) := by
  refine PE.weak (pe_one ha) fun σ H Q h => ?_
  obtain ⟨F, G, ρ, S, L, r, S', s, l, e, q⟩ := h
  obtain ⟨⟨x, S1⟩, e1, e⟩ := okOr_some e
  obtain ⟨rfl, rfl⟩ := res_eq e
  exact ⟨F, G, ρ, S, L, x, S1, s, l, e1, q⟩
theorem e_and (ha : PE X a (tE X.K ea)) (hb : PE X (.BoolOp .And (b :: rest) pos) (tE X.K (evBop true eb r))) : PE X (.BoolOp .And (a :: b :: rest) pos) (tE X.K (evBop true ea (consB true eb r))) := by
  refine PE.weak (pe_andT ha hb) fun σ H Q h => ?_
  obtain ⟨F, G, ρ, S, L, r', S', s, l, e, q⟩ := h
  obtain ⟨⟨x, S1⟩, e1, e⟩ := okOr_some e
  obtain ⟨k, e2, e⟩ := okOr_some e
  refine ⟨F, G, ρ, S, L, x, S1, s, l, e1, fun G1 ρ1 H1 v1 g1 p1 s1 q1 => ⟨k, truth_ok s1 q1 e2, ?_⟩⟩
  cases k with
  | true => rw [if_pos rfl] at e ⊢; exact ⟨F, G1, ρ1, S1, L, r', S', s1, lok_mono g1 p1 l, e, q.mono g1 p1⟩
  | false =>
    rw [if_neg Bool.false_ne_true] at e ⊢
    obtain ⟨rfl, rfl⟩ := res_eq e
    exact q G1 ρ1 H1 v1 g1 p1 s1 q1
theorem e_or (ha : PE X a (tE X.K ea)) (hb : PE X (.BoolOp .Or (b :: rest) pos) (tE X.K (evBop false eb r))) : PE X (.BoolOp .Or (a :: b :: rest) pos) (tE X.K (evBop false ea (consB false eb r))) := by
  refine PE.weak (pe_orT ha hb) fun σ H Q h => ?_
  obtain ⟨F, G, ρ, S, L, r', S', s, l, e, q⟩ := h
  obtain ⟨⟨x, S1⟩, e1, e⟩ := okOr_some e
  obtain ⟨k, e2, e⟩ := okOr_some e
  refine ⟨F, G, ρ, S, L, x, S1, s, l, e1, fun G1 ρ1 H1 v1 g1 p1 s1 q1 => ⟨k, truth_ok s1 q1 e2, ?_⟩⟩
  cases k with
  | false => rw [if_pos rfl] at e; rw [if_neg Bool.false_ne_true]; exact ⟨F, G1, ρ1, S1, L, r', S', s1, lok_mono g1 p1 l, e, q.mono g1 p1⟩
  | true =>
    rw [if_neg (by decide)] at e
    rw [if_pos rfl]
    obtain ⟨rfl, rfl⟩ := res_eq e
    exact q G1 ρ1 H1 v1 g1 p1 s1 q1
theorem p_and1 {k : Bool} (ha : PT X a (tT X.K (tstE ea))) : PW X (.BoolOp .And [a] pos) (tT X.K (tstE (evBop k ea nilB))) := by
  refine ⟨fun wh pins s σ H Q I h => (pw_and1 ha).run wh pins s σ H Q I ?_⟩
  obtain ⟨F, G, ρ, S, L, r, S', s, l, e, q⟩ := h
  obtain ⟨⟨x, S1⟩, e1, e⟩ := okOr_some e
  obtain ⟨b, e2, e⟩ := okOr_some e
  obtain ⟨rfl, rfl⟩ := res_eq e
  obtain ⟨⟨x', S1'⟩, e1', e0⟩ := okOr_some e1
  obtain ⟨rfl, rfl⟩ := res_eq e0
  exact ⟨F, G, ρ, S, L, _, _, s, l, tst_of e1' e2, q⟩
theorem p_or1 {k : Bool} (ha : PT X a (tT X.K (tstE ea))) : PW X (.BoolOp .Or [a] pos) (tT X.K (tstE (evBop k ea nilB))) := by
  refine ⟨fun wh pins s σ H Q I h => (pw_or1 ha).run wh pins s σ H Q I ?_⟩
  obtain ⟨F, G, ρ, S, L, r, S', s, l, e, q⟩ := h
  obtain ⟨⟨x, S1⟩, e1, e⟩ := okOr_some e
  obtain ⟨b, e2, e⟩ := okOr_some e
  obtain ⟨rfl, rfl⟩ := res_eq e
  obtain ⟨⟨x', S1'⟩, e1', e0⟩ := okOr_some e1
  obtain ⟨rfl, rfl⟩ := res_eq e0
  exact ⟨F, G, ρ, S, L, _, _, s, l, tst_of e1' e2, q⟩
theorem p_and (ha : PT X a (tT X.K (tstE ea))) (hb : PW X (.BoolOp .And (b :: rest) pos) (tT X.K (tstE (evBop true eb r)))) : PW X (.BoolOp .And (a :: b :: rest) pos) (tT X.K (tstE (evBop true ea (consB true eb r)))) := by
  refine ⟨fun wh pins s σ H Q I h => (pw_and ha hb).run wh pins s σ H Q I ?_⟩
  obtain ⟨F, G, ρ, S, L, r', S', s, l, e, q⟩ := h
  obtain ⟨⟨y, S2⟩, e0, e⟩ := okOr_some e
  obtain ⟨k2, e3, e⟩ := okOr_some e
  obtain ⟨rfl, rfl⟩ := res_eq e
  obtain ⟨⟨x, S1⟩, e1, e0⟩ := okOr_some e0
  obtain ⟨k, e2, e0⟩ := okOr_some e0
  refine ⟨F, G, ρ, S, L, k, S1, s, l, tst_of e1 e2, fun G1 ρ1 H1 g1 p1 s1 => ?_⟩
  cases k with
  | true => rw [if_pos rfl] at e0 ⊢; exact ⟨F, G1, ρ1, S1, L, k2, S2, s1, lok_mono g1 p1 l, tst_of (ec := evBop true eb r) e0 e3, fun G2 ρ2 H2 g2 p2 s2 => q G2 ρ2 H2 (g1.trans g2) (p1.trans p2) s2⟩
  | false =>
    rw [if_neg Bool.false_ne_true] at e0 ⊢
    obtain ⟨rfl, rfl⟩ := res_eq e0
    rw [e2] at e3; cases e3
    exact q G1 ρ1 H1 g1 p1 s1
theorem p_or (ha : PT X a (tT X.K (tstE ea))) (hb : PW X (.BoolOp .Or (b :: rest) pos) (tT X.K (tstE (evBop false eb r)))) : PW X (.BoolOp .Or (a :: b :: rest) pos) (tT X.K (tstE (evBop false ea (consB false eb r)))) := by
  refine ⟨fun wh pins s σ H Q I h => (pw_or ha hb).run wh pins s σ H Q I ?_⟩
  obtain ⟨F, G, ρ, S, L, r', S', s, l, e, q⟩ := h
  obtain ⟨⟨y, S2⟩, e0, e⟩ := okOr_some e
  obtain ⟨k2, e3, e⟩ := okOr_some e
  obtain ⟨rfl, rfl⟩ := res_eq e
  obtain ⟨⟨x, S1⟩, e1, e0⟩ := okOr_some e0
  obtain ⟨k, e2, e0⟩ := okOr_some e0
  refine ⟨F, G, ρ, S, L, k, S1, s, l, tst_of e1 e2, fun G1 ρ1 H1 g1 p1 s1 => ?_⟩
  cases k with
  | false => rw [if_pos rfl] at e0; rw [if_neg Bool.false_ne_true]; exact ⟨F, G1, ρ1, S1, L, k2, S2, s1, lok_mono g1 p1 l, tst_of (ec := evBop false eb r) e0 e3, fun G2 ρ2 H2 g2 p2 s2 => q G2 ρ2 H2 (g1.trans g2) (p1.trans p2) s2⟩
  | true =>
    rw [if_neg (by decide)] at e0
    rw [if_pos rfl]
    obtain ⟨rfl, rfl⟩ := res_eq e0
    rw [e2] at e3; cases e3
    exact q G1 ρ1 H1 g1 p1 s1
/-! ### argument lists, displays -/
variable {es : List Expr} {eas : Evs}
theorem a_nil : PA X [] (tA X.K fun _ S => some ([], S)) := by
  refine PA.weak pa_nil fun σ H Q h => ?_
  obtain ⟨F, G, ρ, S, L, rs, S', s, l, e, q⟩ := h
  cases e
  exact q G ρ H [] (Same.refl _) (List.prefix_refl _) s .nil
theorem a_cons (ha : PE X a (tE X.K ea)) (hr : PA X es (tA X.K eas)) (hs : starEach (a :: es) X.env = (false, eval a X.env) :: starEach es X.env) :
    PA X (a :: es) (tA X.K fun L S => okOr (ea L S) fun (x, S1) => okOr (eas L S1) fun (xs, S2) => some (x :: xs, S2)) := by
  refine PA.weak (pa_cons ha hr hs) fun σ H Q h => ?_
  obtain ⟨F, G, ρ, S, L, rs, S', s, l, e, q⟩ := h
  obtain ⟨⟨x, S1⟩, e1, e⟩ := okOr_some e
  obtain ⟨⟨xs, S2⟩, e2, e⟩ := okOr_some e
  obtain ⟨rfl, rfl⟩ := res_eq e
  exact ⟨F, G, ρ, S, L, x, S1, s, l, e1, fun G1 ρ1 H1 v1 g1 p1 s1 q1 => ⟨F, G1, ρ1, S1, L, xs, S2, s1, lok_mono g1 p1 l, e2, fun G2 ρ2 H2 vs g2 p2 s2 q2 =>
    q G2 ρ2 H2 _ (g1.trans g2) (p1.trans p2) s2 (.cons (rv_mono g2 p2 q1) q2)⟩⟩
theorem rvs_dvs {K : PySem.W.Frag} {G : Hp} {ρ : List Addr} : ∀ {rs : List R} {vs : List V} {ds : List D}, RVs K G ρ rs vs → asDs rs = some ds → DVs K G vs ds
  | _, _, _, .nil, e => by cases e; exact .nil
  | .d x :: rs, _, ds, .cons h t, e => by
    have e : (asDs rs).map (x :: ·) = some ds := e
    obtain ⟨es, ee, rfl⟩ := Option.map_eq_some_iff.mp e
    exact .cons h (rvs_dvs t ee)
  | .ref n :: rs, _, _, .cons h t, e => by cases e
  | .scr n :: rs, _, _, .cons h t, e => by cases e
theorem e_tup {k : Nat} (h : PA X es (tA X.K eas)) : PE X (.Tuple es k pos) (tE X.K fun L S => okOr (eas L S) fun (rs, S1) => okOr (asDs rs) fun ds => if ds.length ≤ sizeLine then some (.d (.tuple ds), S1) else none) := by
  refine PE.weak (pe_tup h) fun σ H Q h => ?_
  obtain ⟨F, G, ρ, S, L, r, S', s, l, e, q⟩ := h
  obtain ⟨⟨rs, S1⟩, e1, e⟩ := okOr_some e
  obtain ⟨ds, e2, e⟩ := okOr_some e
  obtain ⟨c, e⟩ := some_if e
  obtain ⟨rfl, rfl⟩ := res_eq (congrArg some e)
  refine ⟨F, G, ρ, S, L, rs, S1, s, l, e1, fun G1 ρ1 H1 vs g1 p1 s1 q1 => ?_⟩
  have hd := rvs_dvs q1 e2
  exact ⟨by rw [dvs_len hd]; exact c, (q.mono g1 p1).tup s1 hd⟩
theorem rvs_ds {K : PySem.W.Frag} {G : Hp} {ρ : List Addr} : ∀ {vs : List V} {ds : List D} {rs : List R} {ws : List V}, DVs K G vs ds → RVs K G ρ rs ws → RVs K G ρ (ds.map .d ++ rs) (vs ++ ws)
  | _, _, _, _, .nil, h => h
  | _, _, _, _, .cons a t, h => .cons a (rvs_ds t h)
theorem a_star {p : Pos} (ha : PE X a (tE X.K ea)) (hr : PA X es (tA X.K eas)) (hs : starEach (.Starred a p :: es) X.env = (true, eval a X.env) :: starEach es X.env) :
    PA X (.Starred a p :: es) (tA X.K fun L S => okOr (ea L S) fun (x, S1) => okOr (seqR x) fun ds => okOr (eas L S1) fun (xs, S2) => some (ds.map .d ++ xs, S2)) := by
  refine PA.weak (StX.pa_star ha hr hs) fun σ H Q h => ?_
  obtain ⟨F, G, ρ, S, L, rs, S', s, l, e, q⟩ := h
  obtain ⟨⟨x, S1⟩, e1, e⟩ := okOr_some e
  obtain ⟨ds, e0, e⟩ := okOr_some e
  obtain ⟨⟨xs, S2⟩, e2, e⟩ := okOr_some e
  obtain ⟨rfl, rfl⟩ := res_eq e
  refine ⟨F, G, ρ, S, L, x, S1, s, l, e1, fun G1 ρ1 H1 v1 g1 p1 s1 q1 => ?_⟩
  unfold seqR at e0
  split at e0
  · cases e0
    cases q1 with
    | lst h1 h2 =>
      refine ⟨_, _, rfl, .inr (.of (s1.subG _ _ h1)), F, G1, ρ1, S1, L, xs, S2, s1, lok_mono g1 p1 l, e2, fun G2 ρ2 H2 vs g2 p2 s2 q2 => ?_⟩
      exact q G2 ρ2 H2 _ (g1.trans g2) (p1.trans p2) s2 (rvs_ds (dvs_mono g2 _ _ h2) q2)
  · cases e0
    cases q1 with
    | tup h1 h2 =>
      refine ⟨_, _, rfl, .inl (Same.sqt s1.subG h1), F, G1, ρ1, S1, L, xs, S2, s1, lok_mono g1 p1 l, e2, fun G2 ρ2 H2 vs g2 p2 s2 q2 => ?_⟩
      exact q G2 ρ2 H2 _ (g1.trans g2) (p1.trans p2) s2 (rvs_ds (dvs_mono g2 _ _ h2) q2)
  · cases e0
theorem e_lst (h : PA X es (tA X.K eas)) : PE X (.List es pos) (tE X.K fun L S => okOr (eas L S) fun (rs, S1) => okOr (asDs rs) fun ds => if ds.length ≤ sizeLine then some (.d (.list ds), S1) else none) := by
  refine PE.weak (pe_lst h) fun σ H Q h => ?_
  obtain ⟨F, G, ρ, S, L, r, S', s, l, e, q⟩ := h
  obtain ⟨⟨rs, S1⟩, e1, e⟩ := okOr_some e
  obtain ⟨ds, e2, e⟩ := okOr_some e
  obtain ⟨c, e⟩ := some_if e
  obtain ⟨rfl, rfl⟩ := res_eq (congrArg some e)
  refine ⟨F, G, ρ, S, L, rs, S1, s, l, e1, fun G1 ρ1 H1 vs g1 p1 s1 q1 => ?_⟩
  have hd := rvs_dvs q1 e2
  exact ⟨by rw [dvs_len hd]; exact c, (q.mono g1 p1).lst s1 hd⟩
theorem e_lstR (h : PA X es (tA X.K eas)) : PE X (.List es pos) (tE X.K fun L S => okOr (eas L S) fun (rs, S1) => okOr (asDs rs) fun ds => if ds.length ≤ sizeLine then some (.ref S1.length, S1 ++ [.lst ds]) else none) := by
  refine PE.weak (pe_lst h) fun σ H Q h => ?_
  obtain ⟨F, G, ρ, S, L, r, S', s, l, e, q⟩ := h
  obtain ⟨⟨rs, S1⟩, e1, e⟩ := okOr_some e
  obtain ⟨ds, e2, e⟩ := okOr_some e
  obtain ⟨c, e⟩ := some_if e
  obtain ⟨rfl, rfl⟩ := res_eq (congrArg some e)
  refine ⟨F, G, ρ, S, L, rs, S1, s, l, e1, fun G1 ρ1 H1 vs g1 p1 s1 q1 => ?_⟩
  have hd := rvs_dvs q1 e2
  exact ⟨by rw [dvs_len hd]; exact c, (q.mono g1 p1).rnew s1 ⟨vs, rfl, hd⟩⟩
theorem e_dic0 : PE X (.Dict [] [] pos) (tE X.K fun _ S => some (.ref S.length, S ++ [.dic []])) := by
  refine PE.weak pe_dnewK fun σ H Q h => ?_
  obtain ⟨F, G, ρ, S, L, r, S', s, l, e, q⟩ := h
  obtain ⟨rfl, rfl⟩ := res_eq e
  exact q.rnew s ⟨[], rfl, .nil⟩
end
end PL
end
section
set_option maxHeartbeats 2000000
namespace HT
open PySem PySem.Spec PyProof.Rows
section
variable {prog : Program} {w : World} {A : Around} {E : Value → Shared → Prop} {s : Shared}
theorem adjust_rev (n : Nat) : Builtin.Slice.sliceAdjust none none (-1) (n : Int) = ((n : Int) - 1, -1) := by
  have h1 : ((-1 : Int) < 0) := by omega
  unfold Builtin.Slice.sliceAdjust
  simp only [h1, if_true]
theorem places_rev (n : Nat) : Builtin.Slice.slicePlaces ((n : Int) - 1) (-1) (-1) = n := by
  unfold Builtin.Slice.slicePlaces
  have h1 : ¬ ((-1 : Int) > 0) := by omega
  have h2 : (- -1 : Int) = 1 := by omega
  simp only [h1, if_false, h2, Int.ediv_one]
  split <;> omega
theorem sliceApplied_rev {sl : Addr} {vs : Value} {n : Nat} {Q : Int × Int × Nat → Shared → Prop} (hs : s.heap.IsSliceOf sl .none .none vs) (ps : IsPart vs (some (-1)))
    (h : Q ((n : Int) - 1, -1, n) s) : wpAny (model prog w) A (Builtin.Slice.sliceApplied (.ref sl) (pure (n : Int))) Q E s := by
  obtain ⟨os, hos, hcs, hds⟩ := id hs
  unfold Builtin.Slice.sliceApplied Builtin.Slice.sliceFields
  refine wpAny_bind (wpAny_bind (wpAny_field hos hds (x := .none) rfl (wpAny_bind (wpAny_field hos hds (x := .none) rfl (wpAny_bind (wpAny_field hos hds (x := vs) rfl (wpAny_pure ?_)))))))
  refine wpAny_bind (slicePart_ ps ?_)
  show wpAny _ _ (if ((-1 : Int) == 0) = true then _ else _) _ _ s
  rw [if_neg (by decide)]
  refine wpAny_bind (slicePart_none (wpAny_bind (slicePart_none (wpAny_bind (wpAny_pure ?_)))))
  show wpAny _ _ (match Builtin.Slice.sliceAdjust none none (-1) (n : Int) with | (lo, hi) => pure (lo, (-1 : Int), Builtin.Slice.slicePlaces lo hi (-1))) _ _ s
  rw [adjust_rev n]
  show wpAny _ _ (pure ((n : Int) - 1, (-1 : Int), Builtin.Slice.slicePlaces ((n : Int) - 1) (-1) (-1))) _ _ s
  rw [places_rev]
  exact wpAny_pure h
theorem filtM_congr {α β : Type} {f g : α → Option β} : ∀ {l : List α}, (∀ x ∈ l, f x = g x) → l.filterMap f = l.filterMap g
  | [], _ => rfl
  | x :: l, h => by
    rw [List.filterMap_cons, List.filterMap_cons, h x List.mem_cons_self, filtM_congr fun y hy => h y (List.mem_cons_of_mem _ hy)]
theorem pick_rev (xs : Array Value) : ((List.range xs.size).filterMap fun (m : Nat) => xs[(((xs.size : Nat) : Int) - 1 + (m : Int) * -1).toNat]?).toArray = xs.toList.reverse.toArray := by
  have e : ((List.range xs.size).filterMap fun (m : Nat) => xs[(((xs.size : Nat) : Int) - 1 + (m : Int) * -1).toNat]?) = ((List.range xs.size).map fun k => xs.size - 1 - k).filterMap (xs[·]?) := by
    rw [List.filterMap_map]
    have : ∀ m ∈ List.range xs.size, xs[(((xs.size : Nat) : Int) - 1 + (m : Int) * -1).toNat]? = ((fun x => xs[x]?) ∘ fun k => xs.size - 1 - k) m := fun m hm => by
      have := List.mem_range.mp hm
      have q : (((xs.size : Nat) : Int) - 1 + (m : Int) * -1).toNat = xs.size - 1 - m := by omega
      rw [q]; rfl
    exact filtM_congr this
  rw [e, PySem.W.krv_range, List.filterMap_reverse, PySem.W.krv_all]
theorem getItem_tuple_rev {t sl : Addr} {items : Array Value} {vs : Value} {Q : Value → Shared → Prop} (ht : IsTup s.heap t items) (hs : s.heap.IsSliceOf sl .none .none vs) (ps : IsPart vs (some (-1)))
    (h : Q (.ref s.heap.objs.size) { s with heap := s.heap.push { cls := .type "tuple", data := .seq items.toList.reverse.toArray } })
    (hsz : items.size ≤ sizeLine) : wpAny (model prog w) A (getItem (.ref t) (.ref sl)) Q E s := by
  have htake : sizeOk (.seq items.toList.reverse.toArray) := by
    show items.toList.reverse.toArray.size ≤ sizeLine
    rw [List.size_toArray, List.length_reverse, Array.length_toList]
    omega
  obtain ⟨os, hos, hcs, hds⟩ := id hs
  have hTs : s.TypeIs (.ref sl) "slice" := ⟨os, hos, hcs⟩
  unfold getItem
  try with_reducible refine wpAny_holding ?_
  first | refine wpAny_bind (wpAny_pure ?_) | skip
  refine wpAny_bind (wpAny_sequenceKey ht.typeIs (by decide) ?_)
  refine wpAny_bind (wpAny_callSpecial?_slot (name := Str.ofString "__getitem__") ht.typeIs PyProof.Rows.slot_tuple_getitem
    (wpAny_call_entry PyProof.Rows.slot_tuple_getitem ht.typeIs entry_tuple_getitem ?_ (args_tuple_getitem _ _)))
  show wpAny _ _ (Builtin.Tuple.tupleItemsOf (.ref t) >>= _) _ _ s
  refine wpAny_bind (tupleItemsOf_ ht ?_)
  refine wpAny_bind (wpAny_typeOf hTs ?_)
  rw [if_pos (by decide)]
  refine wpAny_bind (sliceApplied_rev hs ps ?_)
  have hno : ¬ ((((items.size : Nat) : Int) - 1 == 0 && (-1 : Int) == 1 && items.size == items.size) = true) := by
    intro q
    rw [Bool.and_eq_true, Bool.and_eq_true] at q
    exact absurd q.1.2 (by decide)
  show wpAny _ _ (if (((items.size : Nat) : Int) - 1 == 0 && (-1 : Int) == 1 && items.size == items.size) = true then _ else _) _ _ s
  rw [if_neg hno, pick_rev]
  first
    | exact wpAny_bind (m := Builtin.Tuple.tupleExact _) (wpAny_newObj_type (wpAny_pure ⟨_, rfl, wpAny_pure h⟩) htake)
    | exact wpAny_bind (m := Builtin.Tuple.tupleExact _) (wpAny_newObj_type (wpAny_bind (wpAny_pure (wpAny_pure ⟨_, rfl, wpAny_pure h⟩))) htake)
    | exact wpAny_bind (wpAny_bind (m := Builtin.Tuple.tupleExact _) (wpAny_newObj_type (wpAny_pure (wpAny_pure ⟨_, rfl, wpAny_pure h⟩)) htake))
    | exact wpAny_bind (wpAny_bind (m := Builtin.Tuple.tupleExact _) (wpAny_newObj_type (wpAny_pure ⟨_, rfl, wpAny_pure h⟩) htake))
end
end HT
namespace PL
open PySem PySem.Spec PyProof.Rows L2
section
variable {X : Cx}
/-- t[::-1] of a tuple or a list -/
def tRevA (K : PySem.W.Frag) (te : TE) : TE := fun σ H Q => te σ H fun x H1 => ∃ a xs, x = .ref a ∧ ((SqL K H1 a xs ∧ ∀ p, H1 p = none → Q (.ref p) (upd H1 p (.lst xs.reverse))) ∨ (SqT K H1 a xs ∧ ∀ p, H1 p = none → Q (.ref p) (upd H1 p (.tup xs.reverse))))
theorem pe_revA {e : Expr} {te : TE} {k : Nat} {p1 p2 p3 pos : Pos} (he : PE X e te) : PE X (.Subscript e (.Slice none none (some (.UnaryOp .USub (.Constant (.int 1) k p1) p2)) p3) pos) (tRevA X.K te) := by
  refine ⟨fun pins s σ H Q I h => ?_⟩
  refine Subscript_ (thn (he.run pins s σ H _ I h) fun v s1 ⟨x, H1, I1, r1, q1⟩ => ?_)
  obtain ⟨a, xs, ex, hq⟩ := q1
  subst ex
  cases r1
  have hst : PO X (some (.UnaryOp .USub (.Constant (.int 1) k p1) p2)) (tPart (tUn (rU fun i => .int (-i)) (tC (.int 1)))) := po_some (pe_un un_neg pe_int)
  refine wpAny_Slice (thn (po_none.run pins s1 σ H1 (fun o H2 => o = none ∧ H2 = H1) I1 ⟨rfl, rfl⟩) fun vl s2 ⟨l, H2, I2, pl, el, e2⟩ => ?_)
  subst el e2
  refine thn (po_none.run pins s2 σ H2 (fun o H3 => o = none ∧ H3 = H2) I2 ⟨rfl, rfl⟩) fun vu s3 ⟨u, H3, I3, pu, eu, e3⟩ => ?_
  subst eu e3
  refine thn (hst.run pins s3 σ H3 (fun o H4 => o = some (-1) ∧ H4 = H3) I3 ⟨1, rfl, -1, rfl, rfl, rfl⟩) fun vs s4 ⟨o, H4, I4, ps, eo, e4⟩ => ?_
  subst eo e4
  have I5 : Inv X pins σ H4 { s4 with heap := s4.heap.push { cls := .type "slice", data := .fields #[vl, vu, vs] } } := I4.kept (t' := s4.toks) fun b ob q => Heap.get?_push_of_some _ q
  show wpAny (model X.prog X.w) X.A (subscriptTail e (.Slice none none (some (.UnaryOp .USub (.Constant (.int 1) k p1) p2)) p3) (.ref a) (.ref s4.heap.objs.size)) (EP X pins σ Q) X.xe { s4 with heap := s4.heap.push { cls := .type "slice", data := .fields #[vl, vu, vs] } }
  rcases hq with ⟨hx, q⟩ | ⟨hx, q⟩
  · obtain ⟨its, r, ht, hz⟩ := I5.list hx
    have hlen := r.length
    refine tail_any (ops := [.ref a, .ref s4.heap.objs.size]) ht.isList.typeIs (PySem.slot_list_getitem.lookup) ?_ (by with_unfolding_all rfl)
    refine wpAny_getItem_list_slice ht.isList (Heap.IsSliceOf.new _ vl vu vs) pl pu ps (by decide) ?_ (by rw [List.size_toArray]; omega)
    rw [PySem.W.krv_pick]
    refine ⟨.ref _, _, I5.laid (t' := s4.toks) (o := .lst xs.reverse) (fun b ob q => Heap.get?_push_of_some _ q) (Nat.le_refl _) ?_, rfl, q _ (I5.hok.fresh (Nat.le_refl _))⟩
    exact ⟨by rw [List.length_reverse]; exact hz, _, 0, r.reverse, Heap.get?_push_size _ rfl⟩
  · obtain ⟨its, r, ht, hz⟩ := I5.tuple hx
    have hlen := r.length
    cases pl
    cases pu
    refine tail_any (ops := [.ref a, .ref s4.heap.objs.size]) ht.typeIs (PyProof.Rows.slot_tuple_getitem.lookup) ?_ (by with_unfolding_all rfl)
    refine HT.getItem_tuple_rev ht (Heap.IsSliceOf.new _ .none .none vs) ps ?_ (by rw [List.size_toArray]; omega)
    refine ⟨.ref _, _, I5.laid (t' := s4.toks) (o := .tup xs.reverse) (fun b ob q => Heap.get?_push_of_some _ q) (Nat.le_refl _) ?_, rfl, q _ (I5.hok.fresh (Nat.le_refl _))⟩
    exact ⟨by rw [List.length_reverse]; exact hz, _, r.reverse, IsTup.new _ _⟩
end
end PL
end
section
set_option maxHeartbeats 2000000
namespace PL
open PySem PySem.Spec PyProof.Rows L2
section
variable {X : Cx} {a b c : Expr} {ea eb ec : Ev} {pos : Pos}
theorem ixR_some {x y : R} {S : Sto} {d : D} (h : ixR x y S = some d) :
    (∃ n ks k kd, x = .ref n ∧ (S[n]? = some (.dic ks) ∨ S[n]? = some (.dicL ks)) ∧ y = .d kd ∧ keyD kd = some k ∧ lookK ks k = some d) ∨ (∃ dx dy, view x S = some dx ∧ view y S = some dy ∧ gIx dx dy = some d) := by
  unfold ixR at h
  cases x with
  | scr _ => cases h
  | d x =>
    dsimp only at h
    cases y with
    | d k => exact .inr ⟨x, k, rfl, rfl, h⟩
    | _ => cases h
  | ref n =>
    dsimp only at h
    cases hs : S[n]? with
    | none => rw [hs] at h; cases h
    | some o =>
      rw [hs] at h
      cases o with
      | dic ks =>
        dsimp only at h
        cases y with
        | d kd =>
          dsimp only at h
          cases hk : keyD kd with
          | none => rw [hk] at h; cases h
          | some k => rw [hk] at h; exact .inl ⟨n, ks, k, kd, rfl, .inl hs, rfl, hk, h⟩
        | _ => cases h
      | mix ks => cases h
      | dicL ks =>
        dsimp only at h
        cases y with
        | d kd =>
          dsimp only at h
          cases hk : keyD kd with
          | none => rw [hk] at h; cases h
          | some k => rw [hk] at h; exact .inl ⟨n, ks, k, kd, rfl, .inr hs, rfl, hk, h⟩
        | _ => cases h
      | lst xs =>
        dsimp only at h
        cases y with
        | d kd => exact .inr ⟨.list xs, kd, by simp only [view, hs], rfl, h⟩
        | _ => cases h
theorem ixM_some {x y : R} {S : Sto} {r : R} (h : ixM x y S = some r) : ∃ n ks k kd, x = .ref n ∧ S[n]? = some (.mix ks) ∧ y = .d kd ∧ keyD kd = some k ∧ lookK ks k = some r := by
  unfold ixM at h
  split at h
  · rename_i n kd
    split at h
    · exact ⟨_, _, _, _, rfl, by assumption, rfl, by assumption, h⟩
    · cases h
  · cases h
theorem e_ix (hu : X.A.units + 1 < cLine) (ha : PE X a (tE X.K ea)) (hb : PE X b (tE X.K eb)) (hp : PlainIx b) :
    PE X (.Subscript a b pos) (tE X.K fun L S => okOr (ea L S) fun (x, S1) => okOr (eb L S1) fun (y, S2) => match ixR x y S2 with
      | some d => some (.d d, S2)
      | none => okOr (ixM x y S2) fun r => some (r, S2)) := by
  refine ⟨fun pins s0 σ H Q I h => ?_⟩
  obtain ⟨F, G, ρ, S, L, r, S', s, l, e, q⟩ := h
  obtain ⟨⟨x, S1⟩, e1, e⟩ := okOr_some e
  obtain ⟨⟨y, S2⟩, e2, e⟩ := okOr_some e
  dsimp only at e
  split at e
  rotate_left
  · obtain ⟨r', e3, e⟩ := okOr_some e
    obtain ⟨rfl, rfl⟩ := res_eq e
    obtain ⟨n, ks, k, kd, rfl, hs, rfl, hk, hl⟩ := ixM_some e3
    refine (pe_dget hu ha hb hp).run pins s0 σ H Q I ?_
    refine ⟨F, G, ρ, S, L, _, S1, s, l, e1, fun G1 ρ1 H1 v1 g1 p1 s1 q1 => ⟨F, G1, ρ1, S1, L, _, S2, s1, lok_mono g1 p1 l, e2, fun G2 ρ2 H2 v2 g2 p2 s2 q2 => ?_⟩⟩
    obtain ⟨a, ea', rfl⟩ := q1
    obtain ⟨o, ho, kvs, rfl, hkd⟩ := s2.obj n _ a hs (pre_get p2 ea')
    obtain ⟨v, hv, qv⟩ := (kr_look hkd).1 _ hl
    have ev2 : v2 = kV k := keyD_of (H := H2) (.inl q2) hk
    refine ⟨a, v, rfl, ?_, (q.mono (g1.trans g2) (p1.trans p2)).now s2 qv⟩
    rw [ev2, ← hv]
    exact DGet.k ho
  rename_i d e3
  obtain ⟨rfl, rfl⟩ := res_eq e
  rcases ixR_some e3 with ⟨n, ks, k, kd, rfl, hs, rfl, hk, hl⟩ | ⟨dx, dy, hx, hy, hg⟩
  · refine (pe_dget hu ha hb hp).run pins s0 σ H Q I ?_
    refine ⟨F, G, ρ, S, L, _, S1, s, l, e1, fun G1 ρ1 H1 v1 g1 p1 s1 q1 => ⟨F, G1, ρ1, S1, L, _, S2, s1, lok_mono g1 p1 l, e2, fun G2 ρ2 H2 v2 g2 p2 s2 q2 => ?_⟩⟩
    obtain ⟨a, ea', rfl⟩ := q1
    have hrd : ∃ kvs, Rd H2 a (.dK kvs) ∧ KD X.K G2 kvs ks := by
      rcases hs with hs | hs
      · obtain ⟨o, ho, kvs, rfl, hkd⟩ := s2.obj n _ a hs (pre_get p2 ea')
        exact ⟨kvs, .inl ho, hkd⟩
      · obtain ⟨o, ho, od, kvs, rfl, hkd⟩ := s2.obj n _ a hs (pre_get p2 ea')
        exact ⟨kvs, .inr ⟨od, ho⟩, hkd⟩
    obtain ⟨kvs, ho, hkd⟩ := hrd
    obtain ⟨v, hv, qv⟩ := (kd_look hkd).1 d hl
    have ev2 : v2 = kV k := keyD_of (H := H2) (.inl q2) hk
    refine ⟨a, v, rfl, ?_, (q.mono (g1.trans g2) (p1.trans p2)).now s2 qv⟩
    rw [ev2, ← hv]
    exact .inl ⟨kvs, k, ho, rfl, rfl⟩
  · refine (pe_ix i_all ha hb hp).run pins s0 σ H Q I ?_
    exact ⟨F, G, ρ, S, L, _, S1, s, l, e1, fun G1 ρ1 H1 v1 g1 p1 s1 q1 => ⟨F, G1, ρ1, S1, L, _, S2, s1, lok_mono g1 p1 l, e2, fun G2 ρ2 H2 v2 g2 p2 s2 q2 =>
      ⟨F, G2, ρ2, S2, dx, dy, d, s2, view_ok s2 (rv_mono g2 p2 q1) hx, view_ok s2 q2 hy, hg, q.mono (g1.trans g2) (p1.trans p2)⟩⟩⟩
abbrev noO : Loc → Sto → Option (Option Int × Sto) := fun _ S => some (none, S)
abbrev soO (e : Ev) : Loc → Sto → Option (Option Int × Sto) := fun L S => okOr (e L S) fun (x, S1) => match x with
    | .d (.int i) => some (some i, S1)
    | _ => none
theorem o_none : PO X none (tO X.K noO) := by
  refine PO.weak po_none fun σ H Q h => ?_
  obtain ⟨F, G, ρ, S, L, r, S', s, l, e, q⟩ := h
  obtain ⟨rfl, rfl⟩ := res_eq e
  exact q G ρ H (Same.refl _) (List.prefix_refl _) s
theorem o_some (ha : PE X a (tE X.K ea)) : PO X (some a) (tO X.K (soO ea)) := by
  refine PO.weak (po_some ha) fun σ H Q h => ?_
  obtain ⟨F, G, ρ, S, L, r, S', s, l, e, q⟩ := h
  obtain ⟨⟨x, S1⟩, e1, e⟩ := okOr_some e
  dsimp only at e
  split at e
  · obtain ⟨rfl, rfl⟩ := res_eq e
    exact ⟨F, G, ρ, S, L, _, S1, s, l, e1, fun G1 ρ1 H1 v1 g1 p1 s1 q1 => by cases q1; exact ⟨_, rfl, q G1 ρ1 H1 g1 p1 s1⟩⟩
  · cases e
theorem e_sl {lo hi : Option Expr} {el eh : Loc → Sto → Option (Option Int × Sto)} {p2 : Pos} (ha : PE X a (tE X.K ea)) (hl : PO X lo (tO X.K el)) (hh : PO X hi (tO X.K eh)) :
    PE X (.Subscript a (.Slice lo hi none p2) pos) (tE X.K fun L S => okOr (ea L S) fun (x, S1) => okOr (el L S1) fun (l, S2) => okOr (eh L S2) fun (h, S3) => okOr (slR x l h S3) fun d => some (.d d, S3)) := by
  refine PE.weak (pe_slice s_all ha hl hh) fun σ H Q h => ?_
  obtain ⟨F, G, ρ, S, L, r, S', s, l, e, q⟩ := h
  obtain ⟨⟨x, S1⟩, e1, e⟩ := okOr_some e
  obtain ⟨⟨y, S2⟩, e2, e⟩ := okOr_some e
  obtain ⟨⟨z, S3⟩, e3, e⟩ := okOr_some e
  obtain ⟨d, e4, e⟩ := okOr_some e
  obtain ⟨rfl, rfl⟩ := res_eq e
  refine ⟨F, G, ρ, S, L, x, S1, s, l, e1, fun G1 ρ1 H1 v1 g1 p1 s1 q1 => ⟨F, G1, ρ1, S1, L, y, S2, s1, lok_mono g1 p1 l, e2, fun G2 ρ2 H2 g2 p2 s2 => ⟨F, G2, ρ2, S2, L, z, S3, s2, lok_mono (g1.trans g2) (p1.trans p2) l, e3, fun G3 ρ3 H3 g3 p3 s3 => ?_⟩⟩⟩
  exact ⟨F, G3, ρ3, S3, x, d, s3, rv_mono (g2.trans g3) (p2.trans p3) q1, e4, q.mono (g1.trans (g2.trans g3)) (p1.trans (p2.trans p3))⟩
/-- a built-in of one argument, by values -/
theorem one_read {K : PySem.W.Frag} {g : D → Option D} {σ : L2.St} {H : Hp} {Q : VK} (h : tE K (fun L S => okOr (ea L S) fun (x, S1) => okOr (un1 g x S1) fun d => some (.d d, S1)) σ H Q) :
    tE K ea σ H fun x H' => t1 K g x H' Q := by
  obtain ⟨F, G, ρ, S, L, r, S', s, l, e, q⟩ := h
  obtain ⟨⟨x, S1⟩, e1, e⟩ := okOr_some e
  obtain ⟨d, e2, e⟩ := okOr_some e
  obtain ⟨rfl, rfl⟩ := res_eq e
  obtain ⟨dx, hx, e2⟩ := un1_some e2
  exact ⟨F, G, ρ, S, L, x, S1, s, l, e1, fun G1 ρ1 H1 v1 g1 p1 s1 q1 => ⟨F, G1, ρ1, S1, dx, d, s1, view_ok s1 q1 hx, e2, q.mono g1 p1⟩⟩
theorem star1 {env : Env} (h : ∀ e p, a ≠ .Starred e p) (es : List Expr) : starEach (a :: es) env = (false, eval a env) :: starEach es env := by
  cases a <;> first | rfl | exact absurd rfl (h _ _)
theorem back_nil (p : Pos) (env : Env) : (backTo p (starEach [] env)).any (·.1) = false := rfl
theorem e_fun {id : String} {x : Str} {p : Pos} {g : D → Option D} (hc : CallR X (.builtin id) (tc1 X.K g)) (hg : Gl X x) (hm : X.mg x = none) (hv : bootBuiltins x = some (.builtin id)) (hn : x ≠ "__name__") (hdb : (x == ("__debug__" : Str)) = false)
    (ha : PE X a (tE X.K ea)) (hst : ∀ e p, a ≠ .Starred e p) :
    PE X (.Call (.Name x p) [a] [] pos) (tE X.K fun L S => okOr (ea L S) fun (x, S1) => okOr (un1 g x S1) fun d => some (.d d, S1)) := by
  refine PE.weak (pe_callB hc hg hm hv (pa_cons ha pa_nil (star1 hst [])) hn hdb (star1 hst []) (back_nil _ _)) fun σ H Q h => ?_
  obtain ⟨F, G, ρ, S, L, x, S1, s, l, e1, q⟩ := one_read h
  exact ⟨F, G, ρ, S, L, x, S1, s, l, e1, fun G1 ρ1 H1 v1 g1 p1 s1 q1 => ⟨v1, rfl, q G1 ρ1 H1 v1 g1 p1 s1 q1⟩⟩
theorem e_type {id : String} {x : Str} {p : Pos} {g : D → Option D} (hc : CallR X (.type id) (tc1 X.K g)) (hg : Gl X x) (hm : X.mg x = none) (hv : bootBuiltins x = some (.type id)) (hn : x ≠ "__name__") (hdb : (x == ("__debug__" : Str)) = false)
    (ha : PE X a (tE X.K ea)) (hst : ∀ e p, a ≠ .Starred e p) :
    PE X (.Call (.Name x p) [a] [] pos) (tE X.K fun L S => okOr (ea L S) fun (x, S1) => okOr (un1 g x S1) fun d => some (.d d, S1)) := by
  refine PE.weak (pe_callTy hc hg hm hv (pa_cons ha pa_nil (star1 hst [])) hn hdb (star1 hst []) (back_nil _ _)) fun σ H Q h => ?_
  obtain ⟨F, G, ρ, S, L, x, S1, s, l, e1, q⟩ := one_read h
  exact ⟨F, G, ρ, S, L, x, S1, s, l, e1, fun G1 ρ1 H1 v1 g1 p1 s1 q1 => ⟨v1, rfl, q G1 ρ1 H1 v1 g1 p1 s1 q1⟩⟩
theorem e_bi (t : Bi) {p : Pos} (hc : X.calm = true) (hgd : X.A.guards = some []) (hun : X.A.units + 64 < cLine) (hg : Gl X t.name) (hm : X.mg t.name = none) (ha : PE X a (tE X.K ea)) (hst : ∀ e p, a ≠ .Starred e p) :
    PE X (.Call (.Name t.name p) [a] [] pos) (tE X.K fun L S => okOr (ea L S) fun (x, S1) => okOr (un1 t.fn x S1) fun d => some (.d d, S1)) := by
  cases t
  · exact e_fun c_len hg hm PySem.boot_len (by decide) (by decide) ha hst
  · exact e_fun (c_all hc) hg hm (by decide +kernel) (by decide) (by decide) ha hst
  · exact e_fun (c_any hc) hg hm (by decide +kernel) (by decide) (by decide) ha hst
  · exact e_type c_tuple hg hm (by decide +kernel) (by decide) (by decide) ha hst
  · exact e_type (c_list hc) hg hm (by decide +kernel) (by decide) (by decide) ha hst
  · exact e_type c_int hg hm (by decide +kernel) (by decide) (by decide) ha hst
  · exact e_fun (c_repr hgd hun) hg hm (by decide +kernel) (by decide) (by decide) ha hst
  · exact e_fun c_sorted hg hm (by decide +kernel) (by decide) (by decide) ha hst
  · exact e_type c_str hg hm (by decide +kernel) (by decide) (by decide) ha hst
theorem dvs_rev {K : PySem.W.Frag} {G : Hp} : ∀ {vs : List V} {ds : List D}, DVs K G vs ds → DVs K G vs.reverse ds.reverse
  | _, _, .nil => .nil
  | _, _, .cons h t => by
    rw [List.reverse_cons, List.reverse_cons]
    exact dvs_app (dvs_rev t) (.cons h .nil)
theorem e_rev {k : Nat} {p1 p2 p3 : Pos} (ha : PE X a (tE X.K ea)) : PE X (.Subscript a (.Slice none none (some (.UnaryOp .USub (.Constant (.int 1) k p1) p2)) p3) pos) (tE X.K fun L S => okOr (ea L S) fun (x, S1) => okOr (un1 gRev x S1) fun d => some (.d d, S1)) := by
  refine PE.weak (pe_revA ha) fun σ H Q h => ?_
  obtain ⟨F, G, ρ, S, L, x, S1, s, l, e1, q⟩ := one_read h
  refine ⟨F, G, ρ, S, L, x, S1, s, l, e1, fun G1 ρ1 H1 v1 g1 p1 s1 q1 => ?_⟩
  obtain ⟨F2, G2, ρ2, S2, dx, d, sk, hx, e, qq⟩ := q G1 ρ1 H1 v1 g1 p1 s1 q1
  unfold gRev at e
  split at e
  · cases e
    obtain ⟨a, vs, rfl, h1, h2⟩ := hx.lst sk
    exact ⟨a, vs, rfl, .inl ⟨.of h1, qq.lst sk (dvs_rev h2)⟩⟩
  · cases e
    obtain ⟨a, vs, rfl, h1, h2⟩ := tup_of hx
    exact ⟨a, vs, rfl, .inr ⟨Same.sqt sk.subG h1, qq.tup sk (dvs_rev h2)⟩⟩
  · cases e
theorem rising_sorted : ∀ {ns : List Int}, ns.Pairwise (· < ·) → ns.Pairwise (· ≤ ·) := fun h => h.imp fun q => Int.le_of_lt q
theorem e_sset {p p2 pos2 : Pos} (hc : X.calm = true) (hg : Gl X "sorted") (hm : X.mg "sorted" = none) (hg2 : Gl X "set") (hm2 : X.mg "set" = none) (ha : PE X a (tE X.K ea)) (hst : ∀ e p, a ≠ .Starred e p) :
    PE X (.Call (.Name "sorted" p) [.Call (.Name "set" p2) [a] [] pos2] [] pos) (tE X.K fun L S => okOr (ea L S) fun (x, S1) => okOr (un1 gSSet x S1) fun d => some (.d d, S1)) := by
  refine PE.weak (pe_callB ((c_sortX hc).or (cr_sortedSet hc)) hg hm (by decide +kernel) (pa_cons (pe_callTy ((c_setX hc).or (c_setXI hc)) hg2 hm2 (by decide +kernel) (pa_cons ha pa_nil (star1 hst [])) (by decide) (by decide) (star1 hst []) (back_nil _ _)) pa_nil rfl) (by decide) (by decide) rfl rfl) fun σ H Q h => ?_
  obtain ⟨F, G, ρ, S, L, x, S1, s, l, e1, q⟩ := one_read h
  refine ⟨F, G, ρ, S, L, x, S1, s, l, e1, fun G1 ρ1 H1 v1 g1 p1 s1 q1 => ?_⟩
  obtain ⟨F2, G2, ρ2, S2, dx, d, sk, hx, e, qq⟩ := q G1 ρ1 H1 v1 g1 p1 s1 q1
  unfold gSSet at e
  split at e
  · rename_i zs hz
    obtain ⟨c, rfl⟩ := some_if e
    have fin : ∀ p ks, H1 p = none → ks.Nodup → (∀ z, z ∈ ks ↔ z ∈ zs) → ks.length ≤ zs.length → ∃ (a : Addr) (ks' : List Str), [V.ref p] = [.ref a] ∧ (upd H1 p (SetX X.prog X.w p ks)) a = some (SetX X.prog X.w a ks') ∧ ks'.length < 64 ∧
        ∀ ys p', ys.Perm ks' → sortedS ys = true → (upd H1 p (SetX X.prog X.w p ks)) p' = none → Q (.ref p') (upd (upd H1 p (SetX X.prog X.w p ks)) p' (.lst (ys.map V.str))) := fun p ks hp nd mem len => by
      have pk : ks.Perm (onceS zs) := (List.perm_ext_iff_of_nodup nd (once_nodup zs)).mpr fun z => (mem z).trans (once_mem z zs).symm
      refine ⟨p, ks, rfl, upd_same, by rw [pk.length_eq]; exact c.2, fun ys p' pm hs hp' => ?_⟩
      obtain ⟨sk', sm⟩ := sk.fix (o := SetX X.prog X.w p ks) hp
      cases sortS_only (pm.trans pk) hs
      exact (qq.mono sm (List.prefix_refl _)).lst sk' (dvs_strs _) p' hp'
    cases dx with
    | list ds =>
      obtain ⟨b, vs, rfl, h1, h2⟩ := hx.lst sk
      cases strsD_of h2 (show strsD ds = some zs from hz)
      exact .inl ⟨b, zs, rfl, .inl (.of h1), c.1, fun p ks a1 a2 a3 a4 => .inl (fin p ks a1 a2 a3 a4)⟩
    | tuple ds =>
      obtain ⟨b, vs, rfl, h1, h2⟩ := tup_of hx
      cases strsD_of h2 (show strsD ds = some zs from hz)
      exact .inl ⟨b, zs, rfl, .inr (Same.sqt sk.subG h1), c.1, fun p ks a1 a2 a3 a4 => .inl (fin p ks a1 a2 a3 a4)⟩
    | _ => cases hz
  · split at e
    case h_2 => cases e
    rename_i zs hz
    obtain ⟨c, rfl⟩ := some_if e
    have fin : ∀ p, H1 p = none → ∃ (a : Addr) (S : Int → Bool) (n : Nat), [V.ref p] = [.ref a] ∧ (upd H1 p (SetO X.w p (fun k => decide (k ∈ zs)) (onceI zs).length)) a = some (SetO X.w a S n) ∧ n < 64 ∧
        ∀ (ns : List Int) (p' : Addr), ns.Pairwise (· < ·) → (∀ k : Int, k ∈ ns ↔ S k = true) → ns.length = n → (upd H1 p (SetO X.w p (fun k => decide (k ∈ zs)) (onceI zs).length)) p' = none → Q (.ref p') (upd (upd H1 p (SetO X.w p (fun k => decide (k ∈ zs)) (onceI zs).length)) p' (.lst (ns.map V.int))) := fun p hp => by
      refine ⟨p, _, _, rfl, upd_same, c.2, fun ns p' hs hm hl hp' => ?_⟩
      have nd : ns.Nodup := hs.imp fun q => Int.ne_of_lt q
      have pk : ns.Perm (onceI zs) := (List.perm_ext_iff_of_nodup nd (onceI_nodup zs)).mpr fun z => ((hm z).trans (by simp)).trans (onceI_mem z zs).symm
      obtain ⟨sk', sm⟩ := sk.fix (o := SetO X.w p (fun k => decide (k ∈ zs)) (onceI zs).length) hp
      cases sortI_only pk (rising_sorted hs)
      exact (qq.mono sm (List.prefix_refl _)).lst sk' (dvs_ints _) p' hp'
    cases dx with
    | list ds =>
      obtain ⟨b, vs, rfl, h1, h2⟩ := hx.lst sk
      cases intsD_of h2 (show intsD ds = some zs from hz)
      exact .inr ⟨b, zs, rfl, .inl (.of h1), c.1, fun p a1 => .inr (fin p a1)⟩
    | tuple ds =>
      obtain ⟨b, vs, rfl, h1, h2⟩ := tup_of hx
      cases intsD_of h2 (show intsD ds = some zs from hz)
      exact .inr ⟨b, zs, rfl, .inr (Same.sqt sk.subG h1), c.1, fun p a1 => .inr (fin p a1)⟩
    | _ => cases hz
theorem e_sortd {p : Pos} (hc : X.calm = true) (hg : Gl X "sorted") (hm : X.mg "sorted" = none) (ha : PE X a (tE X.K ea)) (hst : ∀ e p, a ≠ .Starred e p) :
    PE X (.Call (.Name "sorted" p) [a] [] pos) (tE X.K fun L S => okOr (ea L S) fun (x, S1) => okOr (gSortD x S1) fun d => some (.d d, S1)) := by
  refine PE.weak (pe_callB (c_sortedD hc) hg hm (by decide +kernel) (pa_cons ha pa_nil (star1 hst [])) (by decide) (by decide) (star1 hst []) (back_nil _ _)) fun σ H Q h => ?_
  obtain ⟨F, G, ρ, S, L, r, S', s, l, e, q⟩ := h
  obtain ⟨⟨x, S1⟩, e1, e⟩ := okOr_some e
  obtain ⟨d, e2, e⟩ := okOr_some e
  obtain ⟨rfl, rfl⟩ := res_eq e
  exact ⟨F, G, ρ, S, L, x, S1, s, l, e1, fun G1 ρ1 H1 v1 g1 p1 s1 q1 => ⟨v1, rfl, F, G1, ρ1, S1, x, d, s1, q1, e2, q.mono g1 p1⟩⟩
def Ty.nm (t : Ty) : Str := Str.ofString t.name
theorem boot_ty (t : Ty) : bootBuiltins t.nm = some (.type t.name) := by cases t <;> decide +kernel
theorem ty_ne (t : Ty) : t.nm ≠ "__name__" ∧ (t.nm == ("__debug__" : Str)) = false := by cases t <;> decide
theorem e_isi (t : Ty) {p p2 : Pos} (hg : Gl X "isinstance") (hm : X.mg "isinstance" = none) (hg2 : Gl X t.nm) (hm2 : X.mg t.nm = none) (ha : PE X a (tE X.K ea)) (hst : ∀ e p, a ≠ .Starred e p) :
    PE X (.Call (.Name "isinstance" p) [a, .Name t.nm p2] [] pos) (tE X.K fun L S => okOr (ea L S) fun (x, S1) => okOr (un1 (fun d => some (.bool (isTy t d))) x S1) fun d => some (.d d, S1)) := by
  refine PE.weak (pe_callB (c_isi t) hg hm (by decide +kernel) (pa_cons ha (pa_cons (pe_bltn (v := .ty t.name) hg2 hm2 (boot_ty t) rfl (ty_ne t).1 (ty_ne t).2) pa_nil rfl) (star1 hst _)) (by decide) (by decide) (star1 hst _) rfl) fun σ H Q h => ?_
  obtain ⟨F, G, ρ, S, L, x, S1, s, l, e1, q⟩ := one_read h
  exact ⟨F, G, ρ, S, L, x, S1, s, l, e1, fun G1 ρ1 H1 v1 g1 p1 s1 q1 => ⟨v1, rfl, q G1 ρ1 H1 v1 g1 p1 s1 q1⟩⟩
/-! ### methods -/
theorem base_of {o : Expr} {m : Str} (h : ∀ p q, o ≠ .Call (.Name "super" p) [] [] q) : attributeBase o m X.env (eval o X.env) = eval o X.env := by
  unfold attributeBase
  split
  · rename_i id p pos
    have hid : (id != ("super" : Str)) = true := by
      have : id ≠ ("super" : Str) := fun z => h p pos (by rw [z])
      simpa using this
    rw [if_pos (by rw [hid]; rfl)]
  · rfl
end
end PL
end
section
set_option maxHeartbeats 2000000
namespace PL
open PySem PySem.Spec PyProof.Rows L2
section
variable {K : PySem.W.Frag}
theorem SOk.notin {F G : Hp} {ρ : List Addr} {S : Sto} {H : Hp} (s : SOk K F G ρ S H) {p : Addr} (h : H p = none ∨ ∃ o, F p = some o ∧ isFrz o = false) : p ∉ ρ := fun ha => by
  rcases h with h | h
  · obtain ⟨n, hn, e⟩ := List.getElem_of_mem ha
    have hn' : n < S.length := by rw [← s.len]; exact hn
    obtain ⟨o, ho, _⟩ := s.obj n S[n] p (List.getElem?_eq_getElem hn') (by rw [List.getElem?_eq_getElem hn, e])
    rw [h] at ho; cases ho
  · obtain ⟨o, h1, h2⟩ := h
    rw [(s.out p ha).2 o h1] at h2; cases h2
/-- a dict that is walked -/
theorem SOk.lock {F G : Hp} {ρ : List Addr} {S : Sto} {H : Hp} (s : SOk K F G ρ S H) {n : Nat} {p : Addr} {ks : List (Key × D)} {kvs : List (Key × V)} (e1 : S[n]? = some (.dic ks)) (e2 : ρ[n]? = some p) (h : H p = some (.dK kvs)) (hk : KD K G kvs ks) (od : Obj) :
    SOk K (upd F p (.frz od (.dK kvs))) G ρ (S.set n (.dicL ks)) (upd H p (.frz od (.dK kvs))) := by
  have hm := List.mem_of_getElem? e2
  obtain ⟨hg, _⟩ := s.out p hm
  have hl : n < S.length := (List.getElem?_eq_some_iff.mp e1).1
  have apart : ∀ {m : Nat} {a : Addr}, ρ[m]? = some a → ¬ n = m → a ≠ p := fun {m a} q hmn z => by
    subst z
    obtain ⟨h1, h1'⟩ := List.getElem?_eq_some_iff.mp e2
    obtain ⟨h2, h2'⟩ := List.getElem?_eq_some_iff.mp q
    exact hmn ((List.getElem_inj (h₀ := h1) (h₁ := h2) s.nd).mp (by rw [h1', h2']))
  refine ⟨by simp [s.len], s.nd, fun b u e => ?_, fun b u e => ?_, fun a ha => ⟨(s.out a ha).1, fun o e => ?_⟩, fun a ha => ?_, fun m b a q1 q2 => ?_, fun m b a q1 q2 hq => ?_⟩
  · by_cases hb : b = p
    · subst hb; rw [upd_same] at e ⊢; exact e
    · rw [upd_ne hb] at e ⊢; exact s.subF b u e
  · have hb : b ≠ p := fun z => by subst z; rw [hg] at e; cases e
    rw [upd_ne hb]; exact s.subG b u e
  · by_cases hb : a = p
    · subst hb; rw [upd_same] at e; cases e; rfl
    · rw [upd_ne hb] at e; exact (s.out a ha).2 o e
  · by_cases hb : a = p
    · rw [hb]; exact hg
    · rw [upd_ne hb] at ha; exact s.dis a ha
  · by_cases hmn : n = m
    · subst hmn
      rw [List.getElem?_set_self hl] at q1
      cases q1
      rw [e2] at q2; cases q2
      exact ⟨_, upd_same, od, kvs, rfl, hk⟩
    · rw [List.getElem?_set_ne hmn] at q1
      obtain ⟨u, hu, r⟩ := s.obj m b a q1 q2
      exact ⟨u, by rw [upd_ne (apart q2 hmn)]; exact hu, r⟩
  · by_cases hmn : n = m
    · subst hmn
      rw [e2] at q2; cases q2
      rw [upd_same]; exact fun z => nomatch z
    · rw [List.getElem?_set_ne hmn] at q1
      rw [upd_ne (apart q2 hmn)]; exact s.lck m b a q1 q2 hq
theorem SOk.unlock {F G : Hp} {ρ : List Addr} {S : Sto} {H : Hp} {n : Nat} {p : Addr} {ks : List (Key × D)} {kvs : List (Key × V)} {od : Obj} (s : SOk K (upd F p (.frz od (.dK kvs))) G ρ S H) (hf : F p = none) (e1 : S[n]? = some (.dicL ks)) (e2 : ρ[n]? = some p) :
    SOk K F G ρ (S.set n (.dic ks)) (upd H p (.dK kvs)) := by
  have hm := List.mem_of_getElem? e2
  obtain ⟨hg, _⟩ := s.out p hm
  have hl : n < S.length := (List.getElem?_eq_some_iff.mp e1).1
  have hH : H p = some (.frz od (.dK kvs)) := s.subF p _ upd_same
  have apart : ∀ {m : Nat} {a : Addr}, ρ[m]? = some a → ¬ n = m → a ≠ p := fun {m a} q hmn z => by
    subst z
    obtain ⟨h1, h1'⟩ := List.getElem?_eq_some_iff.mp e2
    obtain ⟨h2, h2'⟩ := List.getElem?_eq_some_iff.mp q
    exact hmn ((List.getElem_inj (h₀ := h1) (h₁ := h2) s.nd).mp (by rw [h1', h2']))
  have hsub : ∀ b u, F b = some u → b ≠ p := fun b u e z => by subst z; rw [hf] at e; cases e
  refine ⟨by simp [s.len], s.nd, fun b u e => ?_, fun b u e => ?_, fun a ha => ⟨(s.out a ha).1, fun o e => ?_⟩, fun a ha => ?_, fun m b a q1 q2 => ?_, fun m b a q1 q2 hq => ?_⟩
  · rw [upd_ne (hsub b u e)]; exact s.subF b u (by rw [upd_ne (hsub b u e)]; exact e)
  · have hb : b ≠ p := fun z => by subst z; rw [hg] at e; cases e
    rw [upd_ne hb]; exact s.subG b u e
  · exact (s.out a ha).2 o (by rw [upd_ne (hsub a o e)]; exact e)
  · have hne : a ≠ p := fun z => ha (by rw [z]; exact hf)
    exact s.dis a (by rw [upd_ne hne]; exact ha)
  · by_cases hmn : n = m
    · subst hmn
      rw [List.getElem?_set_self hl] at q1
      cases q1
      rw [e2] at q2; cases q2
      obtain ⟨o, ho, od', kvs', rfl, hk⟩ := s.obj n _ p e1 e2
      rw [hH] at ho
      cases ho
      exact ⟨_, upd_same, kvs, rfl, hk⟩
    · rw [List.getElem?_set_ne hmn] at q1
      obtain ⟨u, hu, r⟩ := s.obj m b a q1 q2
      exact ⟨u, by rw [upd_ne (apart q2 hmn)]; exact hu, r⟩
  · by_cases hmn : n = m
    · subst hmn
      rw [List.getElem?_set_self hl] at q1
      cases q1
      cases hq
    · rw [List.getElem?_set_ne hmn] at q1
      have := s.lck m b a q1 q2 hq
      rw [upd_ne (apart q2 hmn)] at this; exact this
theorem lockD_some {x : R} {S S0 : Sto} {n : Nat} (h : lockD x S = some (n, S0)) : ∃ ks, x = .ref n ∧ S[n]? = some (.dic ks) ∧ S0 = S.set n (.dicL ks) := by
  unfold lockD at h
  split at h
  · split at h
    · cases h; exact ⟨_, rfl, by assumption, rfl⟩
    · cases h
  · cases h
theorem unlockD_some {S S0 : Sto} {n : Nat} (h : unlockD n S = some S0) : ∃ ks, S[n]? = some (.dicL ks) ∧ S0 = S.set n (.dic ks) := by
  unfold unlockD at h
  split at h
  · cases h; exact ⟨_, by assumption, rfl⟩
  · cases h
/-- a new thing, held apart -/
theorem SOk.hold {F G : Hp} {ρ : List Addr} {S : Sto} {H : Hp} (s : SOk K F G ρ S H) {p : Addr} {o : HO} (h : H p = none) : SOk K (upd F p o) G ρ S (upd H p o) := by
  have hg : G p = none := Same.free s.subG h
  have hf : F p = none := Same.free s.subF h
  have hp := s.notin (.inl h)
  refine ⟨s.len, s.nd, fun b u e => ?_, s.subG.trans (same_upd h), fun a ha => ?_, fun a ha => ?_, fun n b a e1 e2 => ?_, fun n b a e1 e2 hk => ?_⟩
  · by_cases hb : b = p
    · subst hb; rw [upd_same] at e ⊢; exact e
    · rw [upd_ne hb] at e ⊢; exact s.subF b u e
  · have hne : a ≠ p := fun z => hp (z ▸ ha)
    rw [upd_ne hne]; exact s.out a ha
  · by_cases hb : a = p
    · rw [hb]; exact hg
    · rw [upd_ne hb] at ha; exact s.dis a ha
  · obtain ⟨u, hu, r⟩ := s.obj n b a e1 e2
    have hne : a ≠ p := fun z => hp (z ▸ List.mem_of_getElem? e2)
    exact ⟨u, by rw [upd_ne hne]; exact hu, r⟩
  · have hne : a ≠ p := fun z => hp (z ▸ List.mem_of_getElem? e2)
    rw [upd_ne hne]; exact s.lck n b a e1 e2 hk
/-- what is held apart, changed -/
theorem SOk.held {F G : Hp} {ρ : List Addr} {S : Sto} {H : Hp} {p : Addr} {o : HO} (s : SOk K (upd F p o) G ρ S H) (o' : HO) (hz : isFrz o = false := by rfl) : SOk K (upd F p o') G ρ S (upd H p o') := by
  have hF : upd F p o p ≠ none := by rw [upd_same]; exact fun z => nomatch z
  have hg : G p = none := s.dis p hF
  have hp := s.notin (.inr ⟨o, upd_same, hz⟩)
  refine ⟨s.len, s.nd, fun b u e => ?_, fun b u e => ?_, fun a ha => ?_, fun a ha => ?_, fun n b a e1 e2 => ?_, fun n b a e1 e2 hk => ?_⟩
  · by_cases hb : b = p
    · subst hb; rw [upd_same] at e ⊢; exact e
    · rw [upd_ne hb] at e ⊢; exact s.subF b u (by rw [upd_ne hb]; exact e)
  · have hb : b ≠ p := fun z => by subst z; rw [hg] at e; cases e
    rw [upd_ne hb]; exact s.subG b u e
  · have hne : a ≠ p := fun z => hp (z ▸ ha)
    have := s.out a ha
    rw [upd_ne hne] at this ⊢; exact this
  · by_cases hb : a = p
    · rw [hb]; exact hg
    · rw [upd_ne hb] at ha; exact s.dis a (by rw [upd_ne hb]; exact ha)
  · obtain ⟨u, hu, r⟩ := s.obj n b a e1 e2
    have hne : a ≠ p := fun z => hp (z ▸ List.mem_of_getElem? e2)
    exact ⟨u, by rw [upd_ne hne]; exact hu, r⟩
  · have hne : a ≠ p := fun z => hp (z ▸ List.mem_of_getElem? e2)
    have := s.lck n b a e1 e2 hk
    rw [upd_ne hne] at this ⊢; exact this
theorem SOk.heldAt {F G : Hp} {ρ : List Addr} {S : Sto} {H : Hp} {p : Addr} {o : HO} (s : SOk K (upd F p o) G ρ S H) : H p = some o := s.subF p o upd_same
/-- .. becomes a thing that never changes -/
theorem SOk.heldFix {F G : Hp} {ρ : List Addr} {S : Sto} {H : Hp} {p : Addr} {o : HO} (s : SOk K (upd F p o) G ρ S H) (hf : F p = none) (hz : isFrz o = false := by rfl) : SOk K F (upd G p o) ρ S H ∧ Same G (upd G p o) := by
  have hF : upd F p o p ≠ none := by rw [upd_same]; exact fun z => nomatch z
  have hg : G p = none := s.dis p hF
  have hp := s.notin (.inr ⟨o, upd_same, hz⟩)
  have hsub : ∀ b u, F b = some u → b ≠ p := fun b u e z => by subst z; rw [hf] at e; cases e
  refine ⟨⟨s.len, s.nd, fun b u e => s.subF b u (by rw [upd_ne (hsub b u e)]; exact e), fun b u e => ?_, fun a ha => ?_, fun a ha => ?_, fun n b a e1 e2 => ?_, fun n b a e1 e2 hk => ?_⟩, same_upd hg⟩
  · by_cases hb : b = p
    · subst hb; rw [upd_same] at e; cases e; exact s.heldAt
    · rw [upd_ne hb] at e; exact s.subG b u e
  · have hne : a ≠ p := fun z => hp (z ▸ ha)
    have := s.out a ha
    rw [upd_ne hne] at this ⊢; exact this
  · have hne : a ≠ p := fun z => ha (by rw [z]; exact hf)
    rw [upd_ne hne]
    exact s.dis a (by rw [upd_ne hne]; exact ha)
  · obtain ⟨u, hu, r⟩ := s.obj n b a e1 e2
    exact ⟨u, hu, ro_mono (same_upd hg) (List.prefix_refl _) r⟩
  · have hne : a ≠ p := fun z => hp (z ▸ List.mem_of_getElem? e2)
    have := s.lck n b a e1 e2 hk
    rw [upd_ne hne] at this; exact this
/-- .. becomes a changing thing -/
theorem SOk.heldNew {F G : Hp} {ρ : List Addr} {S : Sto} {H : Hp} {p : Addr} {o : HO} (s : SOk K (upd F p o) G ρ S H) (hf : F p = none) {b : Ob} {o' : HO} (r : RO K G ρ b o') (hz : isFrz o = false := by rfl) (hb : lockO b = false := by rfl) : SOk K F G (ρ ++ [p]) (S ++ [b]) (upd H p o') := by
  have hF : upd F p o p ≠ none := by rw [upd_same]; exact fun z => nomatch z
  have hg : G p = none := s.dis p hF
  have hp := s.notin (.inr ⟨o, upd_same, hz⟩)
  have hsub : ∀ b u, F b = some u → b ≠ p := fun b u e z => by subst z; rw [hf] at e; cases e
  have hsubG : ∀ b u, G b = some u → b ≠ p := fun b u e z => by subst z; rw [hg] at e; cases e
  refine ⟨by simp [s.len], ?_, fun b u e => ?_, fun b u e => ?_, fun a ha => ?_, fun a ha => ?_, fun n b' a e1 e2 => ?_, fun n b' a e1 e2 hk => ?_⟩
  · rw [List.nodup_append]
    refine ⟨s.nd, by simp, fun a ha c hc => ?_⟩
    rw [List.mem_singleton] at hc; subst hc
    exact fun z => hp (z ▸ ha)
  · rw [upd_ne (hsub b u e)]; exact s.subF b u (by rw [upd_ne (hsub b u e)]; exact e)
  · rw [upd_ne (hsubG b u e)]; exact s.subG b u e
  · rcases List.mem_append.mp ha with ha | ha
    · have hne : a ≠ p := fun z => hp (z ▸ ha)
      have := s.out a ha
      rw [upd_ne hne] at this; exact this
    · rw [List.mem_singleton] at ha; subst ha; exact ⟨hg, fun o e => by rw [hf] at e; cases e⟩
  · have hne : a ≠ p := fun z => ha (by rw [z]; exact hf)
    exact s.dis a (by rw [upd_ne hne]; exact ha)
  · by_cases hn : n < S.length
    · rw [List.getElem?_append_left hn] at e1
      rw [List.getElem?_append_left (by rw [s.len]; exact hn)] at e2
      obtain ⟨u, hu, q⟩ := s.obj n b' a e1 e2
      have hne : a ≠ p := fun z => hp (z ▸ List.mem_of_getElem? e2)
      exact ⟨u, by rw [upd_ne hne]; exact hu, ro_mono (Same.refl _) (List.prefix_append _ _) q⟩
    · have hn' : n = S.length := by
        have := (List.getElem?_eq_some_iff.mp e1).1
        simp at this; omega
      subst hn'
      rw [List.getElem?_append_right (Nat.le_refl _), Nat.sub_self] at e1
      rw [List.getElem?_append_right (by rw [s.len]; exact Nat.le_refl _), s.len, Nat.sub_self] at e2
      cases e1; cases e2
      exact ⟨o', upd_same, ro_mono (Same.refl _) (List.prefix_append _ _) r⟩
  · by_cases hn : n < S.length
    · rw [List.getElem?_append_left hn] at e1
      rw [List.getElem?_append_left (by rw [s.len]; exact hn)] at e2
      have hne : a ≠ p := fun z => hp (z ▸ List.mem_of_getElem? e2)
      have := s.lck n b' a e1 e2 hk
      rw [upd_ne hne] at this; exact this
    · have hn' : n = S.length := by
        have := (List.getElem?_eq_some_iff.mp e1).1
        simp at this; omega
      subst hn'
      rw [List.getElem?_append_right (Nat.le_refl _), Nat.sub_self] at e1
      cases e1
      rw [hb] at hk; cases hk
end
section
variable {X : Cx} {a b c : Expr} {ea eb ec : Ev} {pos apos : Pos}
theorem get2R_some {x y z : R} {S : Sto} {r : R} (h : get2R x y z S = some r) : ∃ n k kd, x = .ref n ∧ y = .d kd ∧ keyD kd = some k ∧
    ((∃ ks, (S[n]? = some (.dic ks) ∨ S[n]? = some (.dicL ks)) ∧ ((∃ v, lookK ks k = some v ∧ r = .d v) ∨ (lookK ks k = none ∧ r = z))) ∨ (∃ ks, S[n]? = some (.mix ks) ∧ ((∃ v, lookK ks k = some v ∧ r = v) ∨ (lookK ks k = none ∧ r = z)))) := by
  unfold get2R at h
  split at h
  · rename_i n kd
    cases hs : S[n]? with
    | none => rw [hs] at h; cases h
    | some o =>
      rw [hs] at h
      cases hk : keyD kd with
      | none => rw [hk] at h; cases o <;> cases h
      | some k =>
        rw [hk] at h
        refine ⟨n, k, kd, rfl, rfl, hk, ?_⟩
        cases o with
        | lst _ => cases h
        | dic ks =>
          dsimp only at h
          refine .inl ⟨ks, .inl hs, ?_⟩
          cases hl : lookK ks k with
          | none => rw [hl] at h; cases h; exact .inr ⟨rfl, rfl⟩
          | some v => rw [hl] at h; cases h; exact .inl ⟨v, rfl, rfl⟩
        | dicL ks =>
          dsimp only at h
          refine .inl ⟨ks, .inr hs, ?_⟩
          cases hl : lookK ks k with
          | none => rw [hl] at h; cases h; exact .inr ⟨rfl, rfl⟩
          | some v => rw [hl] at h; cases h; exact .inl ⟨v, rfl, rfl⟩
        | mix ks =>
          dsimp only at h
          refine .inr ⟨ks, hs, ?_⟩
          cases hl : lookK ks k with
          | none => rw [hl] at h; cases h; exact .inr ⟨rfl, rfl⟩
          | some v => rw [hl] at h; cases h; exact .inl ⟨_, rfl, rfl⟩
  · cases h
theorem m2_of {o e f : Expr} {m : Str} {cpos : Pos} (hb : attributeBase o m X.env (eval o X.env) = eval o X.env) (hl : (apos.endLine == cpos.line) = true) (h1 : ∀ e' p, e ≠ .Starred e' p) (h2 : ∀ e' p, f ≠ .Starred e' p) : M2 X o m apos e f cpos := by
  have e1 : starEach [e, f] X.env = [(false, eval e X.env), (false, eval f X.env)] := by rw [star1 h1, star1 h2]; rfl
  refine ⟨hb, ?_, hl, ?_⟩
  · rw [e1]; rfl
  · rw [e1]; rfl
theorem guardB_some {α : Type} {k : Bool} {o : Option α} {x : α} (h : guardB k o = some x) : k = true ∧ o = some x := by
  cases k with
  | true => exact ⟨rfl, h⟩
  | false => cases h
theorem isDic_some {x : R} {S : Sto} (h : isDic x S = true) : ∃ n b, x = .ref n ∧ S[n]? = some b ∧ ((∃ ks, b = .dic ks) ∨ (∃ ks, b = .mix ks) ∨ ∃ ks, b = .dicL ks) := by
  unfold isDic at h
  split at h
  · split at h
    · exact ⟨_, _, rfl, by assumption, .inl ⟨_, rfl⟩⟩
    · exact ⟨_, _, rfl, by assumption, .inr (.inl ⟨_, rfl⟩)⟩
    · exact ⟨_, _, rfl, by assumption, .inr (.inr ⟨_, rfl⟩)⟩
    · cases h
  · cases h
theorem isLst_some {x : R} {S : Sto} (h : isLst x S = true) : ∃ n ks, x = .ref n ∧ S[n]? = some (.lst ks) := by
  unfold isLst at h
  split at h
  · split at h
    · exact ⟨_, _, rfl, by assumption⟩
    · cases h
  · cases h
theorem e_get2 (hu : X.A.units + 1 < cLine) (ha : PE X a (tE X.K ea)) (hb : PE X b (tE X.K eb)) (hc : PE X c (tE X.K ec)) (m : M2 X a "get" apos b c pos) :
    PE X (.Call (.Attribute a "get" apos) [b, c] [] pos) (tE X.K fun L S => okOr (ea L S) fun (x, S1) => guardB (isDic x S1) (okOr (eb L S1) fun (y, S2) => okOr (ec L S2) fun (z, S3) => okOr (get2R x y z S3) fun r => some (r, S3))) := by
  refine PE.weak (pe_dget2 hu ha hb hc m) fun σ H Q h => ?_
  obtain ⟨F, G, ρ, S, L, r, S', s, l, e, q⟩ := h
  obtain ⟨⟨x, S1⟩, e1, e⟩ := okOr_some e
  obtain ⟨hd, e⟩ := guardB_some e
  obtain ⟨⟨y, S2⟩, e2, e⟩ := okOr_some e
  obtain ⟨⟨z, S3⟩, e3, e⟩ := okOr_some e
  obtain ⟨r', e4, e⟩ := okOr_some e
  obtain ⟨rfl, rfl⟩ := res_eq e
  obtain ⟨n, k, kd, rfl, rfl, hk, hl⟩ := get2R_some e4
  obtain ⟨n', b1, en, hs1, hb1⟩ := isDic_some hd
  cases en
  refine ⟨F, G, ρ, S, L, _, S1, s, l, e1, fun G1 ρ1 H1 v1 g1 p1 s1 q1 => ?_⟩
  obtain ⟨p, ep, rfl⟩ := q1
  have hd1 : ∃ kvs1, Rd H1 p (.dK kvs1) := by
    obtain ⟨o1, ho1, hr⟩ := s1.obj n _ p hs1 ep
    rcases hb1 with ⟨ks, rfl⟩ | ⟨ks, rfl⟩ | ⟨ks, rfl⟩
    · obtain ⟨kvs1, rfl, _⟩ := hr; exact ⟨kvs1, .inl ho1⟩
    · obtain ⟨kvs1, rfl, _⟩ := hr; exact ⟨kvs1, .inl ho1⟩
    · obtain ⟨od, kvs1, rfl, _⟩ := hr; exact ⟨kvs1, .inr ⟨od, ho1⟩⟩
  obtain ⟨kvs1, ho1⟩ := hd1
  refine ⟨p, rfl, .inl ⟨kvs1, ho1⟩, F, G1, ρ1, S1, L, _, S2, s1, lok_mono g1 p1 l, e2, fun G2 ρ2 H2 v2 g2 p2 s2 q2 => ⟨F, G2, ρ2, S2, L, z, S3, s2, lok_mono (g1.trans g2) (p1.trans p2) l, e3, fun G3 ρ3 H3 v3 g3 p3 s3 q3 => ?_⟩⟩
  have ev2 : v2 = kV k := keyD_of (H := H2) (.inl q2) hk
  rcases hl with ⟨ks, hs, hl⟩ | ⟨ks, hs, hl⟩
  · have hrd : ∃ kvs, Rd H3 p (.dK kvs) ∧ KD X.K G3 kvs ks := by
      rcases hs with hs | hs
      · obtain ⟨o, ho, kvs, rfl, hkd⟩ := s3.obj n _ p hs (pre_get p3 (pre_get p2 ep))
        exact ⟨kvs, .inl ho, hkd⟩
      · obtain ⟨o, ho, od, kvs, rfl, hkd⟩ := s3.obj n _ p hs (pre_get p3 (pre_get p2 ep))
        exact ⟨kvs, .inr ⟨od, ho⟩, hkd⟩
    obtain ⟨kvs, ho, hkd⟩ := hrd
    refine ⟨valV kvs k, by rw [ev2]; exact .inl ⟨kvs, k, ho, rfl, rfl⟩, ?_⟩
    rcases hl with ⟨v, hv, rfl⟩ | ⟨hv, rfl⟩
    · obtain ⟨w', hw, qw⟩ := (kd_look hkd).1 v hv
      rw [hw]
      exact (q.mono (g1.trans (g2.trans g3)) (p1.trans (p2.trans p3))).now s3 qw
    · rw [(kd_look hkd).2 hv]
      exact (q.mono (g1.trans (g2.trans g3)) (p1.trans (p2.trans p3))).now s3 q3
  · obtain ⟨o, ho, kvs, rfl, hkd⟩ := s3.obj n _ p hs (pre_get p3 (pre_get p2 ep))
    refine ⟨valV kvs k, by rw [ev2]; exact DGet.k ho, ?_⟩
    rcases hl with ⟨v, hv, rfl⟩ | ⟨hv, rfl⟩
    · obtain ⟨w', hw, qw⟩ := (kr_look hkd).1 _ hv
      rw [hw]
      exact (q.mono (g1.trans (g2.trans g3)) (p1.trans (p2.trans p3))).now s3 qw
    · rw [(kr_look hkd).2 hv]
      exact (q.mono (g1.trans (g2.trans g3)) (p1.trans (p2.trans p3))).now s3 q3
theorem appR_some {x y : R} {S S' : Sto} (h : appR x y S = some S') : ∃ n xs d, x = .ref n ∧ y = .d d ∧ S[n]? = some (.lst xs) ∧ xs.length < sizeLine ∧ S' = S.set n (.lst (xs ++ [d])) := by
  unfold appR at h
  split at h
  · split at h
    · obtain ⟨c, rfl⟩ := some_if h
      exact ⟨_, _, _, rfl, rfl, by assumption, c, rfl⟩
    · cases h
  · cases h
theorem extR_some {x y : R} {S S' : Sto} (h : extR x y S = some S') : ∃ n xs ys, x = .ref n ∧ view y S = some (.list ys) ∧ S[n]? = some (.lst xs) ∧ xs.length + ys.length ≤ sizeLine ∧ S' = S.set n (.lst (xs ++ ys)) := by
  unfold extR at h
  split at h
  · split at h
    · obtain ⟨c, rfl⟩ := some_if h
      exact ⟨_, _, _, rfl, by assumption, by assumption, c, rfl⟩
    · cases h
  · cases h
theorem few1 {cpos : Pos} (h1 : ∀ e' p, b ≠ .Starred e' p) : ((backTo cpos (starEach [b] X.env)).all (fun x => !x.1) && (backToKw cpos (keywordEach [] X.env)).all (fun x => x.1.isSome)
    && decide (([b] : List Expr).length + ([] : List Keyword).length + (if ([] : List Keyword).isEmpty then 0 else 1) < 30)) = true := by
  rw [star1 h1]; rfl
theorem e_app (ha : PE X a (tE X.K ea)) (hb : PE X b (tE X.K eb)) (hbase : attributeBase a "append" X.env (eval a X.env) = eval a X.env) (hl : (apos.endLine == pos.line) = true) (h1 : ∀ e' p, b ≠ .Starred e' p) :
    PE X (.Call (.Attribute a "append" apos) [b] [] pos) (tE X.K fun L S => okOr (ea L S) fun (x, S1) => guardB (isLst x S1) (okOr (eb L S1) fun (y, S2) => okOr (appR x y S2) fun S3 => some (.d .none, S3))) := by
  refine PE.weak (pe_bm PySem.F.plainAttrs_list PySem.F.slot_list_append PySem.F.type_list_append mt_append ha (pa_cons hb pa_nil (star1 h1 [])) hbase (few1 h1) hl (star1 h1 []) rfl) fun σ H Q h => ?_
  obtain ⟨F, G, ρ, S, L, r, S', s, l, e, q⟩ := h
  obtain ⟨⟨x, S1⟩, e1, e⟩ := okOr_some e
  obtain ⟨hd, e⟩ := guardB_some e
  obtain ⟨⟨y, S2⟩, e2, e⟩ := okOr_some e
  obtain ⟨S3, e3, e⟩ := okOr_some e
  obtain ⟨rfl, rfl⟩ := res_eq e
  obtain ⟨n, xs, d, rfl, rfl, hs, hz, rfl⟩ := appR_some e3
  obtain ⟨n', xs1, en, hs1⟩ := isLst_some hd
  cases en
  refine ⟨F, G, ρ, S, L, _, S1, s, l, e1, fun G1 ρ1 H1 v1 g1 p1 s1 q1 => ?_⟩
  obtain ⟨p, ep, rfl⟩ := q1
  obtain ⟨o1, ho1, vs1, rfl, _⟩ := s1.obj n _ p hs1 ep
  refine ⟨.inl ⟨rfl, vs1, .of ho1⟩, F, G1, ρ1, S1, L, _, S2, s1, lok_mono g1 p1 l, e2, fun G2 ρ2 H2 v2 g2 p2 s2 q2 => ?_⟩
  obtain ⟨o, ho, vs, rfl, hv⟩ := s2.obj n _ p hs (pre_get p2 ep)
  refine ⟨p, vs, v2, rfl, rfl, ho, by rw [dvs_len hv]; exact hz, ?_⟩
  exact q G2 ρ2 _ _ (g1.trans g2) (p1.trans p2) (s2.set (pre_get p2 ep) ⟨_, rfl, dvs_app hv (.cons q2 .nil)⟩ ho) .non
theorem e_ext (ha : PE X a (tE X.K ea)) (hb : PE X b (tE X.K eb)) (hbase : attributeBase a "extend" X.env (eval a X.env) = eval a X.env) (hl : (apos.endLine == pos.line) = true) (h1 : ∀ e' p, b ≠ .Starred e' p) :
    PE X (.Call (.Attribute a "extend" apos) [b] [] pos) (tE X.K fun L S => okOr (ea L S) fun (x, S1) => guardB (isLst x S1) (okOr (eb L S1) fun (y, S2) => okOr (extR x y S2) fun S3 => some (.d .none, S3))) := by
  refine PE.weak (pe_bm PySem.F.plainAttrs_list PySem.F.slot_list_extend PySem.F.type_list_extend mt_extend ha (pa_cons hb pa_nil (star1 h1 [])) hbase (few1 h1) hl (star1 h1 []) rfl) fun σ H Q h => ?_
  obtain ⟨F, G, ρ, S, L, r, S', s, l, e, q⟩ := h
  obtain ⟨⟨x, S1⟩, e1, e⟩ := okOr_some e
  obtain ⟨hd, e⟩ := guardB_some e
  obtain ⟨⟨y, S2⟩, e2, e⟩ := okOr_some e
  obtain ⟨S3, e3, e⟩ := okOr_some e
  obtain ⟨rfl, rfl⟩ := res_eq e
  obtain ⟨n, xs, ys, rfl, hy, hs, hz, rfl⟩ := extR_some e3
  obtain ⟨n', xs1, en, hs1⟩ := isLst_some hd
  cases en
  refine ⟨F, G, ρ, S, L, _, S1, s, l, e1, fun G1 ρ1 H1 v1 g1 p1 s1 q1 => ?_⟩
  obtain ⟨p, ep, rfl⟩ := q1
  obtain ⟨o1, ho1, vs1, rfl, _⟩ := s1.obj n _ p hs1 ep
  refine ⟨.inl ⟨rfl, vs1, .of ho1⟩, F, G1, ρ1, S1, L, _, S2, s1, lok_mono g1 p1 l, e2, fun G2 ρ2 H2 v2 g2 p2 s2 q2 => ?_⟩
  obtain ⟨o, ho, vs, rfl, hv⟩ := s2.obj n _ p hs (pre_get p2 ep)
  obtain ⟨b', ws, rfl, hb', hw⟩ := (view_ok s2 q2 hy).lst s2
  refine ⟨p, b', vs, ws, rfl, rfl, ho, hb', by rw [dvs_len hv, dvs_len hw]; exact hz, ?_⟩
  exact q G2 ρ2 _ _ (g1.trans g2) (p1.trans p2) (s2.set (pre_get p2 ep) ⟨_, rfl, dvs_app hv hw⟩ ho) .non
/-! ### a dict display -/
abbrev pairE (x : Str) (e : Ev) : TE × TE := (tC (.str x), tE X.K e)
/-- the values of a display, from the left, while the dict is held apart -/
theorem pairs_read {F : Hp} {L : Loc} {σ : L2.St} : ∀ (ks : List Str) (evs : List Ev) (H : Hp) (G1 : Hp) (ρ1 : List Addr) (S1 : Sto) (Q : List (V × V) → Hp → Prop) (rs : List R) (S' : Sto),
    ks.length = evs.length → SOk X.K F G1 ρ1 S1 H → LOk X.K G1 ρ1 L σ → (evs.foldr (fun (e : Ev) (k : Evs) => fun L S => okOr (e L S) fun (x, S1) => okOr (k L S1) fun (xs, S2) => some (x :: xs, S2)) (fun _ S => some ([], S))) L S1 = some (rs, S') →
    (∀ (G' : Hp) (ρ' : List Addr) (H' : Hp) (vs : List V), Same G1 G' → ρ1 <+: ρ' → SOk X.K F G' ρ' S' H' → RVs X.K G' ρ' rs vs → Q ((ks.map V.str).zip vs) H') →
    tPairs ((ks.zip evs).map fun p => pairE (X := X) p.1 p.2) σ H Q
  | [], [], H, G1, ρ1, S1, Q, rs, S', _, s, l, e, q => by
    obtain ⟨rfl, rfl⟩ := res_eq e
    exact q G1 ρ1 H [] (Same.refl _) (List.prefix_refl _) s .nil
  | k :: ks, ev :: evs, H, G1, ρ1, S1, Q, rs, S', hl, s, l, e, q => by
    obtain ⟨⟨x, S2⟩, e1, e⟩ := okOr_some e
    obtain ⟨⟨xs, S3⟩, e2, e⟩ := okOr_some e
    obtain ⟨rfl, rfl⟩ := res_eq e
    refine ⟨F, G1, ρ1, S1, L, x, S2, s, l, e1, fun G2 ρ2 H2 v2 g2 p2 s2 q2 => ?_⟩
    refine pairs_read ks evs H2 G2 ρ2 S2 _ xs S3 (by simpa using hl) s2 (lok_mono g2 p2 l) e2 fun G3 ρ3 H3 vs g3 p3 s3 q3 => ?_
    exact q G3 ρ3 H3 (v2 :: vs) (g2.trans g3) (p2.trans p3) s3 (.cons (rv_mono g3 p3 q2) q3)
  | [], _ :: _, _, _, _, _, _, _, _, hl, _, _, _, _ => by simp at hl
  | _ :: _, [], _, _, _, _, _, _, _, hl, _, _, _, _ => by simp at hl
theorem kd_merge {K : PySem.W.Frag} {G : Hp} : ∀ (ks : List Str) (vs : List V) (ds : List D) (acc : List (Key × V)) (accD : List (Key × D)), ks.length = ds.length → DVs K G vs ds → KD K G acc accD →
    KD K G (((ks.zip vs).map fun p => ((Sum.inr p.1 : Key), p.2)).foldl (fun acc kv => putK acc kv.1 kv.2) acc) (putS accD ks ds)
  | [], vs, ds, acc, accD, hl, h, k => by
    cases ds with
    | nil => cases h; exact k
    | cons _ _ => simp at hl
  | x :: ks, _, _, acc, accD, hl, .nil, k => by simp at hl
  | x :: ks, _, _, acc, accD, hl, .cons h t, k => kd_merge ks _ _ _ _ (by simpa using hl) t (kd_put h k)
theorem kr_merge {K : PySem.W.Frag} {G : Hp} {ρ : List Addr} : ∀ (ks : List Str) (vs : List V) (ds : List R) (acc : List (Key × V)) (accD : List (Key × R)), ks.length = ds.length → RVs K G ρ ds vs → KR K G ρ acc accD →
    KR K G ρ (((ks.zip vs).map fun p => ((Sum.inr p.1 : Key), p.2)).foldl (fun acc kv => putK acc kv.1 kv.2) acc) (putS accD ks ds)
  | [], vs, ds, acc, accD, hl, h, k => by
    cases ds with
    | nil => cases h; exact k
    | cons _ _ => simp at hl
  | x :: ks, _, _, acc, accD, hl, .nil, k => by simp at hl
  | x :: ks, _, _, acc, accD, hl, .cons h t, k => kr_merge ks _ _ _ _ (by simpa using hl) t (kr_put h k)
theorem asDs_len : ∀ {rs : List R} {ds : List D}, asDs rs = some ds → rs.length = ds.length
  | [], ds, h => by cases h; rfl
  | .d x :: rs, ds, h => by
    simp only [asDs, Option.map_eq_some_iff] at h
    obtain ⟨t, h, rfl⟩ := h
    rw [List.length_cons, List.length_cons, asDs_len h]
  | .ref _ :: _, _, h => nomatch h
  | .scr _ :: _, _, h => nomatch h
theorem e_dic {ks : List Str} {keys : List (Option Expr)} {values : List Expr} {evs : List Ev} (h : PPs X pos keys values ((ks.zip evs).map fun p => pairE (X := X) p.1 p.2)) (hall : keys.all (·.isSome) = true) (hlen : keys.length = values.length) (h0 : keys ≠ [])
    (h15 : keys.length ≤ 15) (hk : ks.length = evs.length) :
    PE X (.Dict keys values pos) (tE X.K fun L S => okOr ((evs.foldr (fun (e : Ev) (k : Evs) => fun L S => okOr (e L S) fun (x, S1) => okOr (k L S1) fun (xs, S2) => some (x :: xs, S2)) (fun _ S => some ([], S))) L S) fun (rs, S1) => match asDs rs with
      | some ds => if ds.length = ks.length ∧ ks.length ≤ 15 ∧ ks ≠ [] then some (.ref S1.length, S1 ++ [.dic (putS [] ks ds)]) else none
      | none => if rs.length = ks.length ∧ ks.length ≤ 15 ∧ ks ≠ [] then some (.ref S1.length, S1 ++ [.mix (putS [] ks rs)]) else none) := by
  refine PE.weak (pe_disp h hall hlen h0 h15) fun σ H Q hw => ?_
  obtain ⟨F, G, ρ, S, L, r, S', s, l, e, q⟩ := hw
  obtain ⟨⟨rs, S1⟩, e1, e⟩ := okOr_some e
  obtain ⟨bO, hS, hbl, hlen2, c2, hro⟩ : ∃ bO, some (R.ref S1.length, S1 ++ [bO]) = some (r, S') ∧ lockO bO = false ∧ rs.length = ks.length ∧ ks.length ≤ 15 ∧ ∀ (G1 : Hp) (ρ1 : List Addr) (vs : List V), RVs X.K G1 ρ1 rs vs → RO X.K G1 ρ1 bO (.dK (((ks.zip vs).map fun p => ((Sum.inr p.1 : Key), p.2)).foldl (fun acc kv => putK acc kv.1 kv.2) [])) := by
    dsimp only at e
    split at e
    · rename_i ds e2
      obtain ⟨⟨c1, c2, c3⟩, e⟩ := some_if e
      refine ⟨_, congrArg some e, rfl, ?_, c2, fun G1 ρ1 vs q1 => ⟨_, rfl, kd_merge ks vs ds [] [] c1.symm (rvs_dvs q1 e2) .nil⟩⟩
      rw [← c1]
      exact asDs_len e2
    · obtain ⟨⟨c1, c2, c3⟩, e⟩ := some_if e
      exact ⟨_, congrArg some e, rfl, c1, c2, fun G1 ρ1 vs q1 => ⟨_, rfl, kr_merge ks vs rs [] [] c1.symm q1 .nil⟩⟩
  obtain ⟨rfl, rfl⟩ := res_eq hS
  intro p hp
  have hf : F p = none := Same.free s.subF hp
  refine pairs_read (F := upd F p (.dK [])) (L := L) ks evs _ G ρ S _ rs S1 hk (s.hold hp) l e1 fun G1 ρ1 H1 vs g1 p1 s1 q1 => ?_
  refine ⟨s1.heldAt, (ks.zip vs).map fun p => (Sum.inr p.1, p.2), ?_, ?_, ?_⟩
  · rw [List.map_map]
    have : ∀ (ks : List Str) (vs : List V), (ks.map V.str).zip vs = (ks.zip vs).map ((fun kv : Key × V => (kV kv.1, kv.2)) ∘ fun p => (Sum.inr p.1, p.2)) := fun ks => by
      induction ks with
      | nil => intro vs; rfl
      | cons x ks ih =>
        intro vs
        cases vs with
        | nil => rfl
        | cons v vs =>
          rw [List.map_cons, List.zip_cons_cons, List.zip_cons_cons, List.map_cons, ih vs]
          rfl
    exact this ks vs
  · rw [List.length_map, List.length_zip]
    exact Nat.le_trans (Nat.min_le_left _ _) c2
  · refine q G1 (ρ1 ++ [p]) _ _ g1 (p1.trans (List.prefix_append _ _)) (s1.heldNew hf (b := bO) (hro G1 ρ1 vs q1) rfl hbl) ⟨p, ?_, rfl⟩
    rw [List.getElem?_append_right (by rw [s1.len]; exact Nat.le_refl _), s1.len, Nat.sub_self]; rfl
theorem isS_some {x : R} (h : isS x = true) : ∃ z, x = .d (.str z) := by
  unfold isS at h
  split at h
  · exact ⟨_, rfl⟩
  · cases h
theorem e_join (ha : PE X a (tE X.K ea)) (hb : PE X b (tE X.K eb)) (hbase : attributeBase a "join" X.env (eval a X.env) = eval a X.env) (hl : (apos.endLine == pos.line) = true) (h1 : ∀ e' p, b ≠ .Starred e' p) :
    PE X (.Call (.Attribute a "join" apos) [b] [] pos) (tE X.K fun L S => okOr (ea L S) fun (x, S1) => guardB (isS x) (okOr (eb L S1) fun (y, S2) => okOr (bin2 gJoin x y S2) fun d => some (.d d, S2))) := by
  refine PE.weak (pe_m1 PySem.F.slot_str_join PySem.F.type_str_join m_join ha hb (star1 h1 []) hbase hl) fun σ H Q h => ?_
  obtain ⟨F, G, ρ, S, L, r, S', s, l, e, q⟩ := h
  obtain ⟨⟨x, S1⟩, e1, e⟩ := okOr_some e
  obtain ⟨hd, e⟩ := guardB_some e
  obtain ⟨z, rfl⟩ := isS_some hd
  obtain ⟨⟨y, S2⟩, e2, e⟩ := okOr_some e
  obtain ⟨d, e3, e⟩ := okOr_some e
  obtain ⟨rfl, rfl⟩ := res_eq e
  obtain ⟨dx, dy, hx, hy, hg⟩ := bin2_some e3
  refine ⟨F, G, ρ, S, L, _, S1, s, l, e1, fun G1 ρ1 H1 v1 g1 p1 s1 q1 => ?_⟩
  refine ⟨by cases q1; exact ⟨_, rfl⟩, F, G1, ρ1, S1, L, _, S2, s1, lok_mono g1 p1 l, e2, fun G2 ρ2 H2 v2 g2 p2 s2 q2 => ?_⟩
  exact ⟨v2, rfl, F, G2, ρ2, S2, dx, dy, d, s2, view_ok s2 (rv_mono g2 p2 q1) hx, view_ok s2 q2 hy, hg, q.mono (g1.trans g2) (p1.trans p2)⟩
/-- a dict that is written in the module, and never changed: what it holds of each text -/
def KTab (K : PySem.W.Frag) (w : World) (a : Addr) (tab : List (Str × D)) : Prop := ∃ es n, K.lookup a = some ⟨.type "dict", none, .dict es n, #[]⟩ ∧ PySem.W.KeysLit w.params es.toList ∧ (a == sysModules) = false ∧
  ∀ z : Str, ∃ r, PySem.W.nsIn K a z = some r ∧ match tab.lookup z with
    | some d => ∃ u v, r = some u ∧ RelV v u ∧ ∀ G, DV K G v d
    | none => r = none
theorem m1_of {o e : Expr} {m : Str} {cpos : Pos} (hb : attributeBase o m X.env (eval o X.env) = eval o X.env) (hl : (apos.endLine == cpos.line) = true) (h1 : ∀ e' p, e ≠ .Starred e' p) : M1 X o m apos e cpos := by
  have e1 : starEach [e] X.env = [(false, eval e X.env)] := by rw [star1 h1]; rfl
  refine ⟨hb, ?_, hl, ?_⟩
  · rw [e1]; rfl
  · rw [e1]; rfl
theorem getTab_some {tab : List (Str × D)} {y : R} {d : D} (h : getTab tab y = some d) : ∃ z, y = .d (.str z) ∧ d = (tab.lookup z).getD .none := by
  unfold getTab at h
  split at h
  · cases h; exact ⟨_, rfl, rfl⟩
  · cases h
theorem e_gget {x : Str} {p : Pos} {addr : Addr} {tab : List (Str × D)} (hg : Gl X x) (hm : X.mg x = some (.ref addr)) (hdb : (x == ("__debug__" : Str)) = false) (kt : KTab X.K X.w addr tab) (hb : PE X b (tE X.K eb))
    (m : M1 X (.Name x p) "get" apos b pos) : PE X (.Call (.Attribute (.Name x p) "get" apos) [b] [] pos) (tE X.K fun L S => okOr (eb L S) fun (y, S1) => okOr (getTab tab y) fun d => some (.d d, S1)) := by
  obtain ⟨es, n, hk, lit, low, all⟩ := kt
  refine ⟨fun pins s0 σ H Q I h => ?_⟩
  refine wpAny_Call_method m.base m.few m.line PySem.F.plainAttrs_dict PySem.F.slot_dict_get PySem.F.type_dict_get (thn ((pe_glob (v := .ref addr) hg hm rfl hdb).run pins s0 σ H (fun v H' => v = .ref addr ∧ tE X.K (fun L S => okOr (eb L S) fun (y, S1) => okOr (getTab tab y) fun d => some (.d d, S1)) σ H' Q) I ⟨rfl, h⟩) fun u s1 ⟨v1, H1, I1, rx, ev, h⟩ => ?_)
  subst ev
  obtain rfl : u = Value.ref addr := rx
  have mo := PySem.W.mapOf_K (prog := X.prog) (w := X.w) I1.kIn hk lit
  refine ⟨mo.typeIs, fun b hb => ?_, ?_⟩
  · cases hb
    exact ⟨_, I1.kIn _ _ hk, rfl⟩
  rw [m.trees]
  obtain ⟨F, G, ρ, S, L, r, S', s, l, e, q⟩ := h
  obtain ⟨⟨y, S1⟩, e1, e⟩ := okOr_some e
  obtain ⟨d, e2, e⟩ := okOr_some e
  obtain ⟨rfl, rfl⟩ := res_eq e
  obtain ⟨z, rfl, rfl⟩ := getTab_some e2
  refine Calls.callWith_builtin rfl (Calls.evalArgs_plain (Calls.spliced_cons (thn (hb.run pins s1 σ H1 (fun v H' => v = .str z ∧ ∃ G1 ρ1, SOk X.K F G1 ρ1 S1 H' ∧ Post X.K F G1 ρ1 S1 (.d ((tab.lookup z).getD .none)) Q) I1
    ⟨F, G, ρ, S, L, _, S1, s, l, e1, fun G1 ρ1 H2 v2 g1 p1 s2 q2 => ⟨by cases q2; rfl, G1, ρ1, s2, q.mono g1 p1⟩⟩) fun iv s2 ⟨v2, H2, I2, ry, ev, G1, ρ1, sk, q2⟩ => Calls.spliced_nil ?_)))
  subst ev
  obtain ⟨t, rfl⟩ := (show ∃ t, iv = Value.str z t from ry)
  have mo2 := PySem.W.mapOf_K (prog := X.prog) (w := X.w) I2.kIn hk lit
  refine PySem.call_meetsIn PySem.F.slot_dict_get mo2.typeIs PySem.F.entry_dict_get (PySem.F.args_dict_get_2 _ _) (PySem.meets_dict_get (strKind X.prog X.w) addr (strKind_is X.prog X.w z t) low) ⟨_, mo2, ?_⟩
  obtain ⟨r0, hr, c⟩ := all z
  rw [PySem.W.find_K hk hr]
  cases hz : tab.lookup z with
  | none =>
    rw [hz] at c q2
    subst c
    exact ⟨.non, H2, I2.tok _, rfl, q2.now sk .non⟩
  | some d =>
    rw [hz] at c q2
    obtain ⟨u, v, rfl, ru, dv⟩ := c
    exact ⟨v, H2, I2.tok _, ru, q2.now sk (dv _)⟩
theorem getTab2_some {tab : List (Str × D)} {y z : R} {d : D} (h : getTab2 tab y z = some d) : ∃ s e, y = .d (.str s) ∧ z = .d e ∧ d = (tab.lookup s).getD e := by
  unfold getTab2 at h
  split at h
  · cases h; exact ⟨_, _, rfl, rfl, rfl⟩
  · cases h
theorem e_gget2 {x : Str} {p : Pos} {addr : Addr} {tab : List (Str × D)} (hg : Gl X x) (hm : X.mg x = some (.ref addr)) (hdb : (x == ("__debug__" : Str)) = false) (kt : KTab X.K X.w addr tab) (hb : PE X b (tE X.K eb)) (hc : PE X c (tE X.K ec))
    (m : M2 X (.Name x p) "get" apos b c pos) : PE X (.Call (.Attribute (.Name x p) "get" apos) [b, c] [] pos) (tE X.K fun L S => okOr (eb L S) fun (y, S1) => okOr (ec L S1) fun (z, S2) => okOr (getTab2 tab y z) fun d => some (.d d, S2)) := by
  obtain ⟨es, n, hk, lit, low, all⟩ := kt
  refine ⟨fun pins s0 σ H Q I h => ?_⟩
  refine wpAny_Call_method m.base m.few m.line PySem.F.plainAttrs_dict PySem.F.slot_dict_get PySem.F.type_dict_get (thn ((pe_glob (v := .ref addr) hg hm rfl hdb).run pins s0 σ H (fun v H' => v = .ref addr ∧ tE X.K (fun L S => okOr (eb L S) fun (y, S1) => okOr (ec L S1) fun (z, S2) => okOr (getTab2 tab y z) fun d => some (.d d, S2)) σ H' Q) I ⟨rfl, h⟩) fun u s1 ⟨v1, H1, I1, rx, ev, h⟩ => ?_)
  subst ev
  obtain rfl : u = Value.ref addr := rx
  have mo := PySem.W.mapOf_K (prog := X.prog) (w := X.w) I1.kIn hk lit
  refine ⟨mo.typeIs, fun b hb => ?_, ?_⟩
  · cases hb
    exact ⟨_, I1.kIn _ _ hk, rfl⟩
  rw [m.trees]
  obtain ⟨F, G, ρ, S, L, r, S', s, l, e, q⟩ := h
  obtain ⟨⟨y, S1⟩, e1, e⟩ := okOr_some e
  obtain ⟨⟨y2, S2⟩, e2, e⟩ := okOr_some e
  obtain ⟨d, e3, e⟩ := okOr_some e
  obtain ⟨rfl, rfl⟩ := res_eq e
  obtain ⟨z, dz, rfl, rfl, rfl⟩ := getTab2_some e3
  refine Calls.callWith_builtin rfl (Calls.evalArgs_plain (Calls.spliced_cons (thn (hb.run pins s1 σ H1 (fun v H' => v = .str z ∧ ∃ G1 ρ1, SOk X.K F G1 ρ1 S1 H' ∧ Same G G1 ∧ ρ <+: ρ1) I1
    ⟨F, G, ρ, S, L, _, S1, s, l, e1, fun G1 ρ1 H2 v2 g1 p1 s2 q2 => ⟨by cases q2; rfl, G1, ρ1, s2, g1, p1⟩⟩) fun iv s2 ⟨v2, H2, I2, ry, ev, G1, ρ1, sk, g1, p1⟩ => Calls.spliced_cons (thn (hc.run pins s2 σ H2 (fun v H' => ∃ G2 ρ2, SOk X.K F G2 ρ2 S2 H' ∧ RV X.K G2 ρ2 (.d dz) v ∧ Post X.K F G2 ρ2 S2 (.d ((tab.lookup z).getD dz)) Q) I2
    ⟨F, G1, ρ1, S1, L, _, S2, sk, lok_mono g1 p1 l, e2, fun G2 ρ2 H3 v3 g2 p2 s3 q3 => ⟨G2, ρ2, s3, q3, q.mono (g1.trans g2) (p1.trans p2)⟩⟩) fun jv s3 ⟨v3, H3, I3, rz, G2, ρ2, sk3, qz, q2⟩ => Calls.spliced_nil ?_))))
  subst ev
  obtain ⟨t, rfl⟩ := (show ∃ t, iv = Value.str z t from ry)
  have mo2 := PySem.W.mapOf_K (prog := X.prog) (w := X.w) I3.kIn hk lit
  refine PySem.call_meetsIn PySem.F.slot_dict_get mo2.typeIs PySem.F.entry_dict_get (PySem.F.args_dict_get_3 _ _ _) (PySem.meets_dict_get_default (strKind X.prog X.w) addr (strKind_is X.prog X.w z t) low _) ⟨_, mo2, ?_⟩
  obtain ⟨r0, hr, c⟩ := all z
  rw [PySem.W.find_K hk hr]
  cases hz : tab.lookup z with
  | none =>
    rw [hz] at c q2
    subst c
    exact ⟨v3, H3, I3.tok _, rz, q2.now sk3 qz⟩
  | some d =>
    rw [hz] at c q2
    obtain ⟨u, v, rfl, ru, dv⟩ := c
    exact ⟨v, H3, I3.tok _, ru, q2.now sk3 (dv _)⟩
theorem ixTab_some {tab : List (Str × D)} {y : R} {d : D} (h : ixTab tab y = some d) : ∃ z, y = .d (.str z) ∧ tab.lookup z = some d := by
  unfold ixTab at h
  split at h
  · exact ⟨_, rfl, h⟩
  · cases h
theorem e_gix {x : Str} {p : Pos} {addr : Addr} {tab : List (Str × D)} (hg : Gl X x) (hm : X.mg x = some (.ref addr)) (hdb : (x == ("__debug__" : Str)) = false) (kt : KTab X.K X.w addr tab) (hb : PE X b (tE X.K eb)) (hp : PlainIx b) :
    PE X (.Subscript (.Name x p) b pos) (tE X.K fun L S => okOr (eb L S) fun (y, S1) => okOr (ixTab tab y) fun d => some (.d d, S1)) := by
  obtain ⟨es, n, hk, lit, low, all⟩ := kt
  refine PE.weak (pe_ix ix_kdict (pe_glob (v := .ref addr) hg hm rfl hdb) hb hp) fun σ H Q h => ?_
  obtain ⟨F, G, ρ, S, L, r, S', s, l, e, q⟩ := h
  obtain ⟨⟨y, S1⟩, e1, e⟩ := okOr_some e
  obtain ⟨d, e2, e⟩ := okOr_some e
  obtain ⟨rfl, rfl⟩ := res_eq e
  obtain ⟨z, rfl, hz⟩ := ixTab_some e2
  refine ⟨F, G, ρ, S, L, _, S1, s, l, e1, fun G1 ρ1 H1 v1 g1 p1 s1 q1 => ?_⟩
  obtain ⟨r0, hr, c⟩ := all z
  rw [hz] at c
  obtain ⟨u, v, rfl, ru, dv⟩ := c
  cases q1
  exact ⟨addr, z, v, rfl, rfl, ⟨es, n, u, hk, lit, hr, ru⟩, (q.mono g1 p1).now s1 (dv _)⟩
theorem inTab_some {tab : List (Str × D)} {y : R} {b : Bool} (h : inTab tab y = some b) : ∃ z, y = .d (.str z) ∧ (tab.lookup z).isSome = b := by
  unfold inTab at h
  split at h
  · cases h; exact ⟨_, rfl, rfl⟩
  · cases h
theorem tab_in {K : PySem.W.Frag} {w : World} {addr : Addr} {tab : List (Str × D)} (kt : KTab K w addr tab) (z : Str) : ∃ es n r, KDict K w addr es n ∧ PySem.W.nsIn K addr z = some r ∧ r.isSome = (tab.lookup z).isSome := by
  obtain ⟨es, n, hk, lit, low, all⟩ := kt
  obtain ⟨r0, hr, c⟩ := all z
  refine ⟨es, n, r0, ⟨hk, lit, low⟩, hr, ?_⟩
  cases hz : tab.lookup z with
  | none => rw [hz] at c; rw [c]; rfl
  | some d => rw [hz] at c; obtain ⟨u, v, rfl, _⟩ := c; rfl
/-- in a written dict -/
def rTab (neg : Bool) (addr : Addr) (tab : List (Str × D)) : R2 := fun x y H Q => ∃ z, x = .str z ∧ y = .ref addr ∧ Q (.bl (if neg = true then !(tab.lookup z).isSome else (tab.lookup z).isSome)) H
theorem o_tab {addr : Addr} {tab : List (Str × D)} (kt : KTab X.K X.w addr tab) : OpR X (compareOp .In) (rTab false addr tab) := by
  intro pins s σ H x y v u Q I rx ry h
  obtain ⟨z, rfl, rfl, q⟩ := h
  obtain ⟨es, n, r, kd, hr, hs⟩ := tab_in kt z
  exact op_in_kd kd pins s σ H _ _ v u Q I rx ry ⟨z, r, rfl, rfl, hr, by rw [hs]; exact q⟩
theorem o_tabN {addr : Addr} {tab : List (Str × D)} (kt : KTab X.K X.w addr tab) : OpR X (compareOp .NotIn) (rTab true addr tab) := by
  intro pins s σ H x y v u Q I rx ry h
  obtain ⟨z, rfl, rfl, q⟩ := h
  obtain ⟨es, n, r, kd, hr, hs⟩ := tab_in kt z
  exact op_notIn_kd kd pins s σ H _ _ v u Q I rx ry ⟨z, r, rfl, rfl, hr, by rw [hs]; exact q⟩
def inOp (neg : Bool) : CmpOp := if neg = true then .NotIn else .In
abbrev evGin (neg : Bool) (tab : List (Str × D)) (eb : Ev) : Ev := fun L S => okOr (eb L S) fun (y, S1) => okOr (inTab tab y) fun b => some (.d (.bool (if neg = true then !b else b)), S1)
theorem gin_read {K : PySem.W.Frag} {neg : Bool} {addr : Addr} {tab : List (Str × D)} {σ : L2.St} {H : Hp} {Q : VK} (h : tE K (evGin neg tab eb) σ H Q) : tOp (rTab neg addr tab) (tE K eb) (tC (.ref addr)) σ H Q := by
  obtain ⟨F, G, ρ, S, L, r, S', s, l, e, q⟩ := h
  obtain ⟨⟨y, S1⟩, e1, e⟩ := okOr_some e
  obtain ⟨b, e2, e⟩ := okOr_some e
  obtain ⟨rfl, rfl⟩ := res_eq e
  obtain ⟨z, rfl, rfl⟩ := inTab_some e2
  exact ⟨F, G, ρ, S, L, _, S1, s, l, e1, fun G1 ρ1 H1 v1 g1 p1 s1 q1 => ⟨z, by cases q1; rfl, rfl, (q.mono g1 p1).bl s1⟩⟩
theorem e_gin {neg : Bool} {x : Str} {p : Pos} {addr : Addr} {tab : List (Str × D)} (hg : Gl X x) (hm : X.mg x = some (.ref addr)) (hdb : (x == ("__debug__" : Str)) = false) (kt : KTab X.K X.w addr tab) (hb : PE X b (tE X.K eb)) :
    PE X (.Compare b [inOp neg] [.Name x p] pos) (tE X.K (evGin neg tab eb)) ∧ PT X (.Compare b [inOp neg] [.Name x p] pos) (tT X.K (tstE (evGin neg tab eb))) := by
  have hn : PE X (.Name x p) (tC (.ref addr)) := pe_glob (v := .ref addr) hg hm rfl hdb
  have bool : ∀ L S r S', evGin neg tab eb L S = some (r, S') → ∃ k, r = .d (.bool k) := fun L S r S' e => by
    obtain ⟨⟨y, S1⟩, _, e⟩ := okOr_some e
    obtain ⟨k, _, e⟩ := okOr_some e
    obtain ⟨rfl, rfl⟩ := res_eq e
    exact ⟨_, rfl⟩
  cases neg with
  | false =>
    exact ⟨PE.weak (pe_cmpR (o_tab kt) hb hn rfl) fun σ H Q h => gin_read (neg := false) h, PT.weak (pt_cmpR (o_tab kt) hb hn rfl) fun σ H Q h => gin_read (neg := false) (tst_bool (t := fun _ _ _ => True) bool h)⟩
  | true =>
    exact ⟨PE.weak (pe_cmpR (o_tabN kt) hb hn rfl) fun σ H Q h => gin_read (neg := true) h, PT.weak (pt_cmpR (o_tabN kt) hb hn rfl) fun σ H Q h => gin_read (neg := true) (tst_bool (t := fun _ _ _ => True) bool h)⟩
/-- repr of a new list of values that can be seen -/
theorem viewAll_dp {K : PySem.W.Frag} {F G0 G : Hp} {ρ : List Addr} {S : Sto} {H : Hp} (s : SOk K F G ρ S H) (g : Same G0 G) : ∀ {rs : List R} {vs : List V} {ds : List D}, RVs K G0 ρ rs vs → viewAll rs S = some ds → DpAll K H vs ds ∧ vs.length = ds.length
  | _, _, _, .nil, e => by cases e; exact ⟨.nil, rfl⟩
  | _, _, _, .cons (r := r) (rs := rs) h t, e => by
    simp only [viewAll] at e
    split at e
    · rename_i d ds h1 h2
      cases e
      obtain ⟨a, b⟩ := viewAll_dp s g t h2
      exact ⟨.cons ((view_ok s (rv_mono g (List.prefix_refl _) h) h1).dp s) a, by rw [List.length_cons, List.length_cons, b]⟩
    · cases e
theorem c_reprD {X : Cx} (hg : X.A.guards = some []) (hu : X.A.units + 64 < cLine) : CallR X (.builtin "repr") (fun xs H Q => ∃ a ds d F G ρ S, xs = [.ref a] ∧ SOk X.K F G ρ S H ∧ Dp X.K H (.ref a) (.list ds) ∧ gRepr (.list ds) = some d ∧ Post X.K F G ρ S (.d d) Q) := by
  intro pins s σ H xs us Q I r h
  obtain ⟨a, ds, d, F, G, ρ, S, rfl, sk, hx, e, q⟩ := h
  obtain ⟨u, rfl, r1⟩ := vals1 r
  obtain ⟨ok, rfl⟩ := some_if (show (if shownOk (.list ds) = true then some (PyData.str (PyData.shown (.list ds))) else none) = some d from e)
  obtain ⟨h1, h2, h3, h4⟩ := shownOk_and ok
  obtain ⟨as, rd⟩ := Dp.reads I _ _ _ hx r1
  obtain rfl : u = Value.ref a := r1
  exact repr_of_reads' rd h1 (PyData.noDict_hsm h3) hg (by omega) (fun _ _ e => e) (fun h' t tk hk => ⟨.str _, H, I.kept hk, ⟨_, rfl⟩, q.now sk (.str _)⟩) h4
theorem e_reprL {X : Cx} {es : List Expr} {eas : Evs} {p lp pos : Pos} (hgd : X.A.guards = some []) (hun : X.A.units + 64 < cLine) (hg : Gl X "repr") (hm : X.mg "repr" = none) (h : PA X es (tA X.K eas)) :
    PE X (.Call (.Name "repr" p) [.List es lp] [] pos) (tE X.K fun L S => okOr (eas L S) fun (rs, S1) => okOr (viewAll rs S1) fun ds => if ds.length ≤ sizeLine then okOr (gRepr (.list ds)) fun d => some (.d d, S1) else none) := by
  refine PE.weak (pe_callB (c_reprD hgd hun) hg hm (by decide +kernel) (pa_cons (pe_lst h) pa_nil rfl) (by decide) (by decide) rfl rfl) fun σ H Q h => ?_
  obtain ⟨F, G, ρ, S, L, r, S', s, l, e, q⟩ := h
  obtain ⟨⟨rs, S1⟩, e1, e⟩ := okOr_some e
  obtain ⟨ds, e2, e⟩ := okOr_some e
  split at e
  · rename_i c
    obtain ⟨d, e3, e⟩ := okOr_some e
    obtain ⟨rfl, rfl⟩ := res_eq e
    refine ⟨F, G, ρ, S, L, rs, S1, s, l, e1, fun G1 ρ1 H1 vs g1 p1 s1 q1 => ?_⟩
    have hl := (viewAll_dp s1 (Same.refl _) q1 e2).2
    refine ⟨by rw [hl]; exact c, fun p hp => ?_⟩
    obtain ⟨s2, g2⟩ := s1.fix (o := .lst vs) hp
    exact ⟨p, ds, d, F, _, ρ1, S1, rfl, s2, .lst (.of upd_same) (viewAll_dp s2 g2 q1 e2).1, e3, q.mono (g1.trans g2) p1⟩
  · cases e
/-- dict(d): a new one of the same -/
theorem copyD_some {x : R} {S : Sto} {b : Ob} (h : copyD x S = some b) : ∃ n, x = .ref n ∧ S[n]? = some b ∧ ((∃ ks, b = .dic ks) ∨ ∃ ks, b = .mix ks) := by
  unfold copyD at h
  split at h
  · split at h
    · cases h; exact ⟨_, rfl, by assumption, .inl ⟨_, rfl⟩⟩
    · cases h; exact ⟨_, rfl, by assumption, .inr ⟨_, rfl⟩⟩
    · cases h
  · cases h
theorem e_dcopy {X : Cx} {a : Expr} {ea : Ev} {p pos : Pos} (hg : Gl X "dict") (hm : X.mg "dict" = none) (ha : PE X a (tE X.K ea)) (hst : ∀ e p, a ≠ .Starred e p) :
    PE X (.Call (.Name "dict" p) [a] [] pos) (tE X.K fun L S => okOr (ea L S) fun (x, S1) => okOr (copyD x S1) fun b => some (.ref S1.length, S1 ++ [b])) := by
  refine PE.weak (pe_callTy call_dictD hg hm (by decide +kernel) (pa_cons ha pa_nil (star1 hst [])) (by decide) (by decide) (star1 hst []) (back_nil _ _)) fun σ H Q h => ?_
  obtain ⟨F, G, ρ, S, L, r, S', s, l, e, q⟩ := h
  obtain ⟨⟨x, S1⟩, e1, e⟩ := okOr_some e
  obtain ⟨b, e2, e⟩ := okOr_some e
  obtain ⟨rfl, rfl⟩ := res_eq e
  obtain ⟨n, rfl, hs, hb⟩ := copyD_some e2
  refine ⟨F, G, ρ, S, L, _, S1, s, l, e1, fun G1 ρ1 H1 v1 g1 p1 s1 q1 => ?_⟩
  obtain ⟨a, ea', rfl⟩ := q1
  obtain ⟨o, ho, hr⟩ := s1.obj n _ a hs ea'
  have hk : ∃ kvs, o = .dK kvs := by
    rcases hb with ⟨ks, rfl⟩ | ⟨ks, rfl⟩
    · obtain ⟨kvs, rfl, _⟩ := hr; exact ⟨kvs, rfl⟩
    · obtain ⟨kvs, rfl, _⟩ := hr; exact ⟨kvs, rfl⟩
  obtain ⟨kvs, rfl⟩ := hk
  exact ⟨a, kvs, rfl, .inl ho, (q.mono g1 p1).rnew s1 hr (by rcases hb with ⟨ks, rfl⟩ | ⟨ks, rfl⟩ <;> rfl)⟩
/-- d.update(d2) -/
def rDUpd : V → List V → Hp → VK → Prop := fun x vs H Q => ∃ (a b : Addr) (kvs more : List (Key × V)), x = .ref a ∧ vs = [.ref b] ∧ a ≠ b ∧ H a = some (.dK kvs) ∧ H b = some (.dK more) ∧ kvs.length + more.length ≤ sizeLine ∧ Q .non (upd H a (.dK (mergeK kvs more)))
theorem putK_len2 (kvs : List (Key × V)) (k : Key) (v : V) : (putK kvs k v).length ≤ kvs.length + 1 := by
  unfold putK
  split
  · rw [List.length_map]; omega
  · rw [List.length_append, List.length_singleton]; exact Nat.le_refl _
theorem mergeK_len : ∀ (more kvs : List (Key × V)), (mergeK kvs more).length ≤ kvs.length + more.length
  | [], kvs => Nat.le_refl _
  | p :: r, kvs => by
    have h1 := mergeK_len r (putK kvs p.1 p.2)
    have h2 := putK_len2 kvs p.1 p.2
    show (mergeK (putK kvs p.1 p.2) r).length ≤ _
    rw [List.length_cons]; omega
theorem mtd_update {X : Cx} : MtR X "dict.update" rDUpd := by
  intro pins s σ H x vs v us Q I rx rv h
  obtain ⟨a, b, kvs, more, ex, ev, hne, e1, e2, hz, q⟩ := h
  subst ex
  subst ev
  obtain rfl : v = Value.ref a := rx
  obtain ⟨u, rfl, ru⟩ := vals1 rv
  obtain rfl : u = Value.ref b := ru
  obtain ⟨z1, hd1, vs1, rel1, dd1⟩ := dk_of I.hok e1
  obtain ⟨z2, hd2, vs2, rel2, dd2⟩ := dk_of I.hok e2
  refine call_meetsIn PySem.F.slot_dict_update dd1.typeIs PySem.F.entry_dict_update (PySem.F.args_dict_update_2 _ _) (meets_dict_update (mixKind X.prog X.w) a b hne hd2)
    ⟨vs1, vs2, dd1, dd2, by rw [← rel1.length, ← rel2.length]; exact hz, fun h' dd' _ hs => ?_⟩
  have he : ∃ q, h'.get? a = some q := let ⟨q, _, _, hq, _⟩ := dd'; ⟨q, hq⟩
  exact ⟨.non, _, d_write (t' := s.toks) I (by rw [e1]; exact True.intro) hs he (dk_new (Nat.le_trans (mergeK_len _ _) hz) hd1 (KV.merge rel2 rel1) dd'), rfl, q⟩
theorem kd_mergeK {K : PySem.W.Frag} {G : Hp} : ∀ {more : List (Key × V)} {ls : List (Key × D)} {kvs : List (Key × V)} {ks : List (Key × D)}, KD K G more ls → KD K G kvs ks → KD K G (mergeK kvs more) (mergeP ks ls)
  | _, _, _, _, .nil, k => k
  | (k1, v1) :: _, (k2, d2) :: _, _, _, .cons ⟨(h1 : k1 = k2), (h2 : DV K G v1 d2)⟩ t, k => by
    subst h1
    show KD K G (mergeK (putK _ k1 v1) _) (mergeP (storeK _ k1 d2) _)
    exact kd_mergeK t (kd_put h2 k)
theorem kr_mergeK {K : PySem.W.Frag} {G : Hp} {ρ : List Addr} : ∀ {more : List (Key × V)} {ls : List (Key × R)} {kvs : List (Key × V)} {ks : List (Key × R)}, KR K G ρ more ls → KR K G ρ kvs ks → KR K G ρ (mergeK kvs more) (mergeP ks ls)
  | _, _, _, _, .nil, k => k
  | (k1, v1) :: _, (k2, d2) :: _, _, _, .cons ⟨(h1 : k1 = k2), (h2 : RV K G ρ d2 v1)⟩ t, k => by
    subst h1
    show KR K G ρ (mergeK (putK _ k1 v1) _) (mergeP (storeK _ k1 d2) _)
    exact kr_mergeK t (kr_put h2 k)
theorem kd_kr {K : PySem.W.Frag} {G : Hp} {ρ : List Addr} : ∀ {more : List (Key × V)} {ls : List (Key × D)}, KD K G more ls → KR K G ρ more (pairsR ls)
  | _, _, .nil => .nil
  | (k1, v1) :: _, (k2, d2) :: _, .cons ⟨h1, h2⟩ t => .cons ⟨h1, h2⟩ (kd_kr t)
theorem updR_some {x y : R} {S S' : Sto} (h : updR x y S = some S') : ∃ n m, x = .ref n ∧ y = .ref m ∧ n ≠ m ∧
    ((∃ ks ls, S[n]? = some (.dic ks) ∧ S[m]? = some (.dic ls) ∧ ks.length + ls.length ≤ sizeLine ∧ S' = S.set n (.dic (mergeP ks ls))) ∨
     (∃ ks ls, S[n]? = some (.mix ks) ∧ S[m]? = some (.dic ls) ∧ ks.length + ls.length ≤ sizeLine ∧ S' = S.set n (.mix (mergeP ks (pairsR ls)))) ∨
     (∃ ks ls, S[n]? = some (.mix ks) ∧ S[m]? = some (.mix ls) ∧ ks.length + ls.length ≤ sizeLine ∧ S' = S.set n (.mix (mergeP ks ls)))) := by
  unfold updR at h
  split at h
  · split at h
    · cases h
    · rename_i n m hne
      refine ⟨n, m, rfl, rfl, hne, ?_⟩
      split at h
      · obtain ⟨c, rfl⟩ := some_if h
        exact .inl ⟨_, _, by assumption, by assumption, c, rfl⟩
      · obtain ⟨c, rfl⟩ := some_if h
        exact .inr (.inl ⟨_, _, by assumption, by assumption, c, rfl⟩)
      · obtain ⟨c, rfl⟩ := some_if h
        exact .inr (.inr ⟨_, _, by assumption, by assumption, c, rfl⟩)
      · cases h
  · cases h
theorem isMut_some {x : R} {S : Sto} (h : isMut x S = true) : ∃ n b, x = .ref n ∧ S[n]? = some b ∧ ((∃ ks, b = .dic ks) ∨ ∃ ks, b = .mix ks) := by
  unfold isMut at h
  split at h
  · split at h
    · exact ⟨_, _, rfl, by assumption, .inl ⟨_, rfl⟩⟩
    · exact ⟨_, _, rfl, by assumption, .inr ⟨_, rfl⟩⟩
    · cases h
  · cases h
theorem e_upd (ha : PE X a (tE X.K ea)) (hb : PE X b (tE X.K eb)) (hbase : attributeBase a "update" X.env (eval a X.env) = eval a X.env) (hl : (apos.endLine == pos.line) = true) (h1 : ∀ e' p, b ≠ .Starred e' p) :
    PE X (.Call (.Attribute a "update" apos) [b] [] pos) (tE X.K fun L S => okOr (ea L S) fun (x, S1) => guardB (isMut x S1) (okOr (eb L S1) fun (y, S2) => okOr (updR x y S2) fun S3 => some (.d .none, S3))) := by
  refine PE.weak (pe_bm PySem.F.plainAttrs_dict PySem.F.slot_dict_update PySem.F.type_dict_update mtd_update ha (pa_cons hb pa_nil (star1 h1 [])) hbase (few1 h1) hl (star1 h1 []) rfl) fun σ H Q h => ?_
  obtain ⟨F, G, ρ, S, L, r, S', s, l, e, q⟩ := h
  obtain ⟨⟨x, S1⟩, e1, e⟩ := okOr_some e
  obtain ⟨hd, e⟩ := guardB_some e
  obtain ⟨⟨y, S2⟩, e2, e⟩ := okOr_some e
  obtain ⟨S3, e3, e⟩ := okOr_some e
  obtain ⟨rfl, rfl⟩ := res_eq e
  obtain ⟨n, m, rfl, rfl, hne, hcase⟩ := updR_some e3
  obtain ⟨n', b1, en, hs1, hb1⟩ := isMut_some hd
  cases en
  refine ⟨F, G, ρ, S, L, _, S1, s, l, e1, fun G1 ρ1 H1 v1 g1 p1 s1 q1 => ?_⟩
  obtain ⟨p, ep, rfl⟩ := q1
  have hd1 : ∃ kvs1, H1 p = some (.dK kvs1) := by
    obtain ⟨o1, ho1, hr⟩ := s1.obj n _ p hs1 ep
    rcases hb1 with ⟨ks, rfl⟩ | ⟨ks, rfl⟩
    · obtain ⟨kvs1, rfl, _⟩ := hr; exact ⟨kvs1, ho1⟩
    · obtain ⟨kvs1, rfl, _⟩ := hr; exact ⟨kvs1, ho1⟩
  refine ⟨.inr (.inr (.inl ⟨rfl, .inl hd1⟩)), F, G1, ρ1, S1, L, _, S2, s1, lok_mono g1 p1 l, e2, fun G2 ρ2 H2 v2 g2 p2 s2 q2 => ?_⟩
  obtain ⟨p', ep', rfl⟩ := q2
  have ep2 := pre_get p2 ep
  have hpp : p ≠ p' := fun z => by
    subst z
    obtain ⟨h1, h1'⟩ := List.getElem?_eq_some_iff.mp ep2
    obtain ⟨h2, h2'⟩ := List.getElem?_eq_some_iff.mp ep'
    exact hne ((List.getElem_inj (h₀ := h1) (h₁ := h2) s2.nd).mp (by rw [h1', h2']))
  rcases hcase with ⟨ks, ls, hs, ht, hz, rfl⟩ | ⟨ks, ls, hs, ht, hz, rfl⟩ | ⟨ks, ls, hs, ht, hz, rfl⟩
  · obtain ⟨o, ho, kvs, rfl, hkd⟩ := s2.obj n _ p hs ep2
    obtain ⟨o', ho', more, rfl, hmd⟩ := s2.obj m _ p' ht ep'
    exact ⟨p, p', kvs, more, rfl, rfl, hpp, ho, ho', by rw [kd_len hkd, kd_len hmd]; exact hz, q G2 ρ2 _ _ (g1.trans g2) (p1.trans p2) (s2.set ep2 ⟨_, rfl, kd_mergeK hmd hkd⟩ ho) .non⟩
  · obtain ⟨o, ho, kvs, rfl, hkd⟩ := s2.obj n _ p hs ep2
    obtain ⟨o', ho', more, rfl, hmd⟩ := s2.obj m _ p' ht ep'
    exact ⟨p, p', kvs, more, rfl, rfl, hpp, ho, ho', by rw [kr_len hkd, kd_len hmd]; exact hz, q G2 ρ2 _ _ (g1.trans g2) (p1.trans p2) (s2.set ep2 ⟨_, rfl, kr_mergeK (kd_kr hmd) hkd⟩ ho) .non⟩
  · obtain ⟨o, ho, kvs, rfl, hkd⟩ := s2.obj n _ p hs ep2
    obtain ⟨o', ho', more, rfl, hmd⟩ := s2.obj m _ p' ht ep'
    exact ⟨p, p', kvs, more, rfl, rfl, hpp, ho, ho', by rw [kr_len hkd, kr_len hmd]; exact hz, q G2 ρ2 _ _ (g1.trans g2) (p1.trans p2) (s2.set ep2 ⟨_, rfl, kr_mergeK hmd hkd⟩ ho) .non⟩
/-- dict(pairs) -/
theorem pairs_of {K : PySem.W.Frag} {G H : Hp} (g : Same G H) : ∀ {vs : List V} {ds : List D} {ks : List (Key × D)}, DVs K G vs ds → pairsOf ds = some ks → ∃ (ps : List Addr) (kvs : List (Key × V)), vs = ps.map V.ref ∧ Paired (fun p kv => SqT K H p [kV kv.1, kv.2]) ps kvs ∧ KD K G kvs ks
  | _, _, _, .nil, e => by cases e; exact ⟨[], [], rfl, .nil, .nil⟩
  | _, _, ks, .cons (d := d) h t, e => by
    unfold pairsOf at e
    split at e
    · rename_i heq; cases heq
    · rename_i kd vd r heq
      cases heq
      split at e
      · rename_i k tl hk ht
        cases e
        obtain ⟨ps, kvs, rfl, h2, h3⟩ := pairs_of g t ht
        cases h with
        | tup a b =>
          cases b with
          | cons b1 b2 =>
            cases b2 with
            | cons b2 b3 =>
              cases b3
              cases keyD_of (H := H) (.inl b1) hk
              exact ⟨_ :: ps, (k, _) :: kvs, rfl, .cons (Same.sqt g a) h2, .cons ⟨rfl, b2⟩ h3⟩
      · cases e
    · cases e
theorem e_dlist {X : Cx} {a : Expr} {ea : Ev} {p pos : Pos} (hc : X.calm = true) (hg : Gl X "dict") (hm : X.mg "dict" = none) (ha : PE X a (tE X.K ea)) (hst : ∀ e p, a ≠ .Starred e p) :
    PE X (.Call (.Name "dict" p) [a] [] pos) (tE X.K fun L S => okOr (ea L S) fun (x, S1) => okOr (view x S1) fun d => okOr (dlistD d) fun ks => some (.ref S1.length, S1 ++ [.dic (mergeP [] ks)])) := by
  refine PE.weak (pe_callTy (call_dictP hc) hg hm (by decide +kernel) (pa_cons ha pa_nil (star1 hst [])) (by decide) (by decide) (star1 hst []) (back_nil _ _)) fun σ H Q h => ?_
  obtain ⟨F, G, ρ, S, L, r, S', s, l, e, q⟩ := h
  obtain ⟨⟨x, S1⟩, e1, e⟩ := okOr_some e
  obtain ⟨d, e2, e⟩ := okOr_some e
  obtain ⟨ks, e3, e⟩ := okOr_some e
  obtain ⟨rfl, rfl⟩ := res_eq e
  refine ⟨F, G, ρ, S, L, _, S1, s, l, e1, fun G1 ρ1 H1 v1 g1 p1 s1 q1 => ?_⟩
  cases d with
  | list ds =>
    obtain ⟨b, vs, rfl, h1, h2⟩ := (view_ok s1 q1 e2).lst s1
    obtain ⟨ps, kvs, rfl, h3, h4⟩ := pairs_of s1.subG h2 (show pairsOf ds = some ks from e3)
    exact ⟨b, ps, kvs, rfl, .of h1, h3, (q.mono g1 p1).rnew s1 ⟨_, rfl, kd_mergeK h4 .nil⟩⟩
  | _ => cases e3
/-- d == {} -/
theorem isE0_some {x : R} {S : Sto} (h : isE0 x S = true) : ∃ n, x = .ref n ∧ S[n]? = some (.dic []) := by
  unfold isE0 at h
  split at h
  · split at h
    · exact ⟨_, rfl, by assumption⟩
    · cases h
  · cases h
abbrev evE0 (ea : Ev) : Ev := fun L S => okOr (ea L S) fun (x, S1) => guardB (isE0 x S1) (some (.d (.bool true), S1 ++ [.dic []]))
theorem deq_read {K : PySem.W.Frag} {ea : Ev} {σ : L2.St} {H : Hp} {Q : VK} (h : tE K (evE0 ea) σ H Q) :
    tOp (fun x y H Q => ∃ a b kvs, x = .ref a ∧ y = .ref b ∧ H a = some (.dK kvs) ∧ H b = some (.dK kvs) ∧ (kvs.map (·.1)).Nodup ∧ (∀ p ∈ kvs, flatB p.2 = true) ∧ Q (.bl true) H) (tE K ea) tDNewK σ H Q := by
  obtain ⟨F, G, ρ, S, L, r, S', s, l, e, q⟩ := h
  obtain ⟨⟨x, S1⟩, e1, e⟩ := okOr_some e
  obtain ⟨hd, e⟩ := guardB_some e
  obtain ⟨rfl, rfl⟩ := res_eq e
  obtain ⟨n, rfl, hs⟩ := isE0_some hd
  refine ⟨F, G, ρ, S, L, _, S1, s, l, e1, fun G1 ρ1 H1 v1 g1 p1 s1 q1 => fun p hp => ?_⟩
  obtain ⟨b, eb, rfl⟩ := q1
  obtain ⟨o, ho, kvs, rfl, hk⟩ := s1.obj n _ b hs eb
  cases hk
  have hne : b ≠ p := fun z => by subst z; rw [hp] at ho; cases ho
  have s2 := s1.new (b := .dic []) (o := .dK []) hp ⟨[], rfl, .nil⟩
  refine ⟨b, p, [], rfl, rfl, by rw [upd_ne hne]; exact ho, upd_same, List.nodup_nil, fun _ hp => by simp at hp, ?_⟩
  exact q G1 (ρ1 ++ [p]) _ _ g1 (p1.trans (List.prefix_append _ _)) s2 (.bl true)
theorem e_deq0 {X : Cx} {a : Expr} {ea : Ev} {p2 pos : Pos} (hun : X.A.units + 64 < cLine) (ha : PE X a (tE X.K ea)) :
    PE X (.Compare a [.Eq] [.Dict [] [] p2] pos) (tE X.K (evE0 ea)) := PE.weak (pe_cmpR (op_eq_dict (by omega)) ha (pe_dnewK (pos := p2)) rfl) fun σ H Q h => deq_read h
theorem p_deq0 {X : Cx} {a : Expr} {ea : Ev} {p2 pos : Pos} (hun : X.A.units + 64 < cLine) (ha : PE X a (tE X.K ea)) :
    PT X (.Compare a [.Eq] [.Dict [] [] p2] pos) (tT X.K (tstE (evE0 ea))) := PT.weak (pt_cmpR (op_eq_dict (by omega)) ha (pe_dnewK (pos := p2)) rfl) fun σ H Q h => deq_read (tst_bool (t := fun _ _ _ => True) (fun L S r S' e => by
      obtain ⟨⟨x, S1⟩, _, e⟩ := okOr_some e
      obtain ⟨_, e⟩ := guardB_some e
      obtain ⟨rfl, rfl⟩ := res_eq e
      exact ⟨true, rfl⟩) h)
end
end PL
end
section
set_option maxHeartbeats 2000000
namespace PL
open PySem PySem.Spec PyProof.Rows L2
/-- what a loop draws: these data, while the lock holds -/
structure Feed (K : PySem.W.Frag) (F G : Hp) (ρ : List Addr) (J : It) (ds : List D) (lk : Lk) : Prop where
  go : ∀ (F' G' : Hp) (ρ' : List Addr) (S' : Sto) (H' : Hp) (i : Nat) (d : D), Same F F' → Same G G' → ρ <+: ρ' → SOk K F' G' ρ' S' H' → lockB lk S' = true → ds[i]? = some d → J.go i H'
  yld : ∀ (F' G' : Hp) (ρ' : List Addr) (S' : Sto) (H' : Hp) (i : Nat) (d : D) (x : V) (H2 : Hp), Same F F' → Same G G' → ρ <+: ρ' → SOk K F' G' ρ' S' H' → lockB lk S' = true → ds[i]? = some d → J.yld i H' x H2 → ∃ G2, Same G' G2 ∧ SOk K F' G2 ρ' S' H2 ∧ DV K G2 x d
  stop : ∀ (F' G' : Hp) (ρ' : List Addr) (S' : Sto) (H' : Hp) (i : Nat), Same F F' → Same G G' → ρ <+: ρ' → SOk K F' G' ρ' S' H' → lockB lk S' = true → ds.length ≤ i → J.stop i H'
abbrev EvI := Loc → Sto → Option (List D × Lk × Sto)
def tI (K : PySem.W.Frag) (ev : EvI) : TI := fun σ H R => ∃ F G ρ S L ds lk S', SOk K F G ρ S H ∧ LOk K G ρ L σ ∧ ev L S = some (ds, lk, S') ∧ lockB lk S' = true ∧
  ∀ (J : It) (G' : Hp) (ρ' : List Addr) (H' : Hp), Same G G' → ρ <+: ρ' → SOk K F G' ρ' S' H' → Feed K F G' ρ' J ds lk → R J H'
section
variable {K : PySem.W.Frag}
theorem feed_list {F G : Hp} {ρ : List Addr} {a : Addr} {vs : List V} {ds : List D} (h : G a = some (.lst vs)) (hv : DVs K G vs ds) : Feed K F G ρ (Itl K a) ds none where
  go := fun F' G' ρ' S' H' i d ef e p s lk hd => by
    obtain ⟨v, h1, _⟩ := dvs_get hv hd
    exact ⟨vs, v, .of (s.subG _ _ (e _ _ h)), h1⟩
  yld := fun F' G' ρ' S' H' i d x H2 ef e p s lk hd y => by
    obtain ⟨rfl, y⟩ := y
    obtain ⟨v, h1, h2⟩ := dvs_get hv hd
    have := y vs (.of (s.subG _ _ (e _ _ h)))
    rw [h1] at this; cases this
    exact ⟨G', Same.refl _, s, dv_mono e _ _ h2⟩
  stop := fun F' G' ρ' S' H' i ef e p s lk hd => ⟨vs, .of (s.subG _ _ (e _ _ h)), by rw [dvs_len hv]; exact hd⟩
theorem feed_tup {F G : Hp} {ρ : List Addr} {a : Addr} {vs : List V} {ds : List D} (h : SqT K G a vs) (hv : DVs K G vs ds) : Feed K F G ρ (Itt K a) ds none where
  go := fun F' G' ρ' S' H' i d ef e p s lk hd => by
    obtain ⟨v, h1, _⟩ := dvs_get hv hd
    exact ⟨vs, v, Same.sqt s.subG (Same.sqt e h), h1⟩
  yld := fun F' G' ρ' S' H' i d x H2 ef e p s lk hd y => by
    obtain ⟨rfl, y⟩ := y
    obtain ⟨v, h1, h2⟩ := dvs_get hv hd
    have := y vs (Same.sqt s.subG (Same.sqt e h))
    rw [h1] at this; cases this
    exact ⟨G', Same.refl _, s, dv_mono e _ _ h2⟩
  stop := fun F' G' ρ' S' H' i ef e p s lk hd => ⟨vs, Same.sqt s.subG (Same.sqt e h), by rw [dvs_len hv]; exact hd⟩
theorem lockB_some {n : Nat} {xs : List D} {S : Sto} (h : lockB (some (n, xs)) S = true) : S[n]? = some (.lst xs) := by
  simp only [lockB] at h
  split at h
  · rename_i ys hy
    rw [hy, dEqs_eq _ _ h]
  · cases h
theorem feed_ref {F G : Hp} {ρ : List Addr} {a : Addr} {n : Nat} {ds : List D} (h : ρ[n]? = some a) : Feed K F G ρ (Itl K a) ds (some (n, ds)) where
  go := fun F' G' ρ' S' H' i d ef e p s lk hd => by
    obtain ⟨o, ho, vs, rfl, hv⟩ := s.obj n _ a (lockB_some lk) (pre_get p h)
    obtain ⟨v, h1, _⟩ := dvs_get hv hd
    exact ⟨vs, v, .of ho, h1⟩
  yld := fun F' G' ρ' S' H' i d x H2 ef e p s lk hd y => by
    obtain ⟨rfl, y⟩ := y
    obtain ⟨o, ho, vs, rfl, hv⟩ := s.obj n _ a (lockB_some lk) (pre_get p h)
    obtain ⟨v, h1, h2⟩ := dvs_get hv hd
    have := y vs (.of ho)
    rw [h1] at this; cases this
    exact ⟨G', Same.refl _, s, h2⟩
  stop := fun F' G' ρ' S' H' i ef e p s lk hd => by
    obtain ⟨o, ho, vs, rfl, hv⟩ := s.obj n _ a (lockB_some lk) (pre_get p h)
    exact ⟨vs, .of ho, by rw [dvs_len hv]; exact hd⟩
theorem signs_get {z : Str} {i : Nat} {d : D} (h : (signs z)[i]? = some d) : ∃ c, z.cps[i]? = some c ∧ d = .str ⟨#[c]⟩ := by
  unfold signs at h
  rw [List.getElem?_map] at h
  obtain ⟨c, hc, rfl⟩ := Option.map_eq_some_iff.mp h
  exact ⟨c, by rw [← Array.getElem?_toList]; exact hc, rfl⟩
theorem signs_len (z : Str) : (signs z).length = z.cps.size := by unfold signs; rw [List.length_map, Array.length_toList]
theorem feed_str {F G : Hp} {ρ : List Addr} (z : Str) : Feed K F G ρ (Its z) (signs z) none where
  go := fun F' G' ρ' S' H' i d ef e p s lk hd => by
    have := (List.getElem?_eq_some_iff.mp hd).1
    rw [signs_len] at this; exact this
  yld := fun F' G' ρ' S' H' i d x H2 ef e p s lk hd y => by
    obtain ⟨rfl, c, hc, rfl⟩ := y
    obtain ⟨c', hc', rfl⟩ := signs_get hd
    rw [hc] at hc'; cases hc'
    exact ⟨G', Same.refl _, s, .str _⟩
  stop := fun F' G' ρ' S' H' i ef e p s lk hd => by
    rw [signs_len] at hd; exact hd
theorem feed_rng {F G : Hp} {ρ : List Addr} (n : Nat) : Feed K F G ρ (Itr 0 n) ((List.range n).map fun (i : Nat) => PyData.int (i : Int)) none where
  go := fun F' G' ρ' S' H' i d ef e p s lk hd => by
    have := (List.getElem?_eq_some_iff.mp hd).1
    rw [List.length_map, List.length_range] at this; exact this
  yld := fun F' G' ρ' S' H' i d x H2 ef e p s lk hd y => by
    obtain ⟨rfl, rfl⟩ := y
    rw [List.getElem?_map] at hd
    obtain ⟨j, hj, rfl⟩ := Option.map_eq_some_iff.mp hd
    rw [List.getElem?_range (by have := (List.getElem?_eq_some_iff.mp hj).1; simpa using this)] at hj
    cases hj
    refine ⟨G', Same.refl _, s, ?_⟩
    rw [Int.zero_add]; exact .int _
  stop := fun F' G' ρ' S' H' i ef e p s lk hd => by
    rw [List.length_map, List.length_range] at hd; exact hd
theorem zip_len : ∀ (xs ys : List D), (zipD xs ys).length = min xs.length ys.length
  | [], _ => by simp [zipD]
  | _ :: _, [] => by simp [zipD]
  | x :: xs, y :: ys => by simp only [zipD, List.length_cons, zip_len xs ys]; omega
theorem zip_get : ∀ {xs ys : List D} {i : Nat} {d : D}, (zipD xs ys)[i]? = some d → ∃ x y, xs[i]? = some x ∧ ys[i]? = some y ∧ d = .tuple [x, y]
  | [], _, i, d, h => by simp [zipD] at h
  | _ :: _, [], i, d, h => by simp [zipD] at h
  | x :: xs, y :: ys, 0, d, h => by
    simp only [zipD, List.getElem?_cons_zero, Option.some.injEq] at h
    exact ⟨x, y, rfl, rfl, h.symm⟩
  | x :: xs, y :: ys, i + 1, d, h => by
    simp only [zipD, List.getElem?_cons_succ] at h
    obtain ⟨x', y', h1, h2, h3⟩ := zip_get (xs := xs) (ys := ys) (i := i) h
    exact ⟨x', y', by simpa using h1, by simpa using h2, h3⟩
/-- a pair just made -/
theorem pair_new {F G : Hp} {ρ : List Addr} {S : Sto} {H : Hp} (s : SOk K F G ρ S H) {T : Addr} {x y : V} {dx dy : D} (h : H T = none) (hx : DV K G x dx) (hy : DV K G y dy) :
    ∃ G2, Same G G2 ∧ SOk K F G2 ρ S (upd H T (.tup [x, y])) ∧ DV K G2 (.ref T) (.tuple [dx, dy]) := by
  obtain ⟨s2, e⟩ := s.fix (o := .tup [x, y]) h
  exact ⟨_, e, s2, .tup (.of upd_same) (.cons (dv_mono e _ _ hx) (.cons (dv_mono e _ _ hy) .nil))⟩
theorem feed_zipL {F G : Hp} {ρ : List Addr} {a b : Addr} {vs ws : List V} {ds es : List D} (h : G a = some (.lst vs)) (hv : DVs K G vs ds) (k : G b = some (.lst ws)) (kv : DVs K G ws es) : Feed K F G ρ (Itz K a b) (zipD ds es) none where
  go := fun F' G' ρ' S' H' i d ef e p s lk hd => by
    obtain ⟨x, y, h1, h2, _⟩ := zip_get hd
    obtain ⟨v, v1, _⟩ := dvs_get hv h1
    obtain ⟨w, w1, _⟩ := dvs_get kv h2
    exact ⟨vs, ws, v, w, .of (s.subG _ _ (e _ _ h)), .of (s.subG _ _ (e _ _ k)), v1, w1⟩
  yld := fun F' G' ρ' S' H' i d x H2 ef e p s lk hd y => by
    obtain ⟨T, x1, y1, rfl, hT, rfl, q1, q2⟩ := y
    obtain ⟨dx, dy, h1, h2, rfl⟩ := zip_get hd
    obtain ⟨v, v1, hv'⟩ := dvs_get hv h1
    obtain ⟨w, w1, kv'⟩ := dvs_get kv h2
    have e1 := q1 vs (.of (s.subG _ _ (e _ _ h)))
    have e2 := q2 ws (.of (s.subG _ _ (e _ _ k)))
    rw [v1] at e1; cases e1
    rw [w1] at e2; cases e2
    exact pair_new s hT (dv_mono e _ _ hv') (dv_mono e _ _ kv')
  stop := fun F' G' ρ' S' H' i ef e p s lk hd => by
    rw [zip_len] at hd
    refine ⟨vs, ws, .of (s.subG _ _ (e _ _ h)), .of (s.subG _ _ (e _ _ k)), ?_⟩
    rw [dvs_len hv, dvs_len kv]; omega
theorem feed_zipT {F G : Hp} {ρ : List Addr} {a b : Addr} {vs ws : List V} {ds es : List D} (h : SqT K G a vs) (hv : DVs K G vs ds) (k : SqT K G b ws) (kv : DVs K G ws es) : Feed K F G ρ (RZ.ItzT K a b) (zipD ds es) none where
  go := fun F' G' ρ' S' H' i d ef e p s lk hd => by
    obtain ⟨x, y, h1, h2, _⟩ := zip_get hd
    obtain ⟨v, v1, _⟩ := dvs_get hv h1
    obtain ⟨w, w1, _⟩ := dvs_get kv h2
    exact ⟨vs, ws, v, w, Same.sqt s.subG (Same.sqt e h), Same.sqt s.subG (Same.sqt e k), v1, w1⟩
  yld := fun F' G' ρ' S' H' i d x H2 ef e p s lk hd y => by
    obtain ⟨T, x1, y1, rfl, hT, rfl, q1, q2⟩ := y
    obtain ⟨dx, dy, h1, h2, rfl⟩ := zip_get hd
    obtain ⟨v, v1, hv'⟩ := dvs_get hv h1
    obtain ⟨w, w1, kv'⟩ := dvs_get kv h2
    have e1 := q1 vs (Same.sqt s.subG (Same.sqt e h))
    have e2 := q2 ws (Same.sqt s.subG (Same.sqt e k))
    rw [v1] at e1; cases e1
    rw [w1] at e2; cases e2
    exact pair_new s hT (dv_mono e _ _ hv') (dv_mono e _ _ kv')
  stop := fun F' G' ρ' S' H' i ef e p s lk hd => by
    rw [zip_len] at hd
    refine ⟨vs, ws, Same.sqt s.subG (Same.sqt e h), Same.sqt s.subG (Same.sqt e k), ?_⟩
    rw [dvs_len hv, dvs_len kv]; omega
theorem enum_len : ∀ (n : Nat) (xs : List D), (enumD n xs).length = xs.length
  | _, [] => rfl
  | n, x :: xs => by simp only [enumD, List.length_cons, enum_len (n + 1) xs]
theorem enum_get : ∀ {xs : List D} {n i : Nat} {d : D}, (enumD n xs)[i]? = some d → ∃ x, xs[i]? = some x ∧ d = .tuple [.int ((n + i : Nat) : Int), x]
  | [], n, i, d, h => by simp [enumD] at h
  | x :: xs, n, 0, d, h => by
    simp only [enumD, List.getElem?_cons_zero, Option.some.injEq] at h
    exact ⟨x, rfl, h.symm⟩
  | x :: xs, n, i + 1, d, h => by
    simp only [enumD, List.getElem?_cons_succ] at h
    obtain ⟨y, h1, rfl⟩ := enum_get (xs := xs) (n := n + 1) (i := i) h
    exact ⟨y, by simpa using h1, by rw [show n + 1 + i = n + (i + 1) by omega]⟩
theorem feed_enm {F G : Hp} {ρ : List Addr} {a : Addr} {vs : List V} {ds : List D} (h : G a = some (.lst vs)) (hv : DVs K G vs ds) : Feed K F G ρ (Ite K a) (enumD 0 ds) none where
  go := fun F' G' ρ' S' H' i d ef e p s lk hd => by
    obtain ⟨x, h1, _⟩ := enum_get hd
    obtain ⟨v, v1, _⟩ := dvs_get hv h1
    exact ⟨vs, v, .of (s.subG _ _ (e _ _ h)), v1⟩
  yld := fun F' G' ρ' S' H' i d x H2 ef e p s lk hd y => by
    obtain ⟨T, x1, rfl, hT, rfl, q1⟩ := y
    obtain ⟨dx, h1, rfl⟩ := enum_get hd
    obtain ⟨v, v1, hv'⟩ := dvs_get hv h1
    have e1 := q1 vs (.of (s.subG _ _ (e _ _ h)))
    rw [v1] at e1; cases e1
    rw [Nat.zero_add]
    exact pair_new s hT (.int _) (dv_mono e _ _ hv')
  stop := fun F' G' ρ' S' H' i ef e p s lk hd => by
    rw [enum_len] at hd
    exact ⟨vs, .of (s.subG _ _ (e _ _ h)), by rw [dvs_len hv]; exact hd⟩
end
/-! ### the sources of the text -/
section
variable {K : PySem.W.Frag}
theorem feed_num {F G : Hp} {ρ : List Addr} {a : Addr} {vs : List V} {ds : List D} (h : SqT K G a vs) (hv : DVs K G vs ds) : Feed K F G ρ (PLT.ItN K a) (enumD 0 ds) none where
  go := fun F' G' ρ' S' H' i d ef e p s lk hd => by
    obtain ⟨x, h1, _⟩ := enum_get hd
    obtain ⟨v, v1, _⟩ := dvs_get hv h1
    exact ⟨vs, v, Same.sqt s.subG (Same.sqt e h), v1⟩
  yld := fun F' G' ρ' S' H' i d x H2 ef e p s lk hd y => by
    obtain ⟨T, x1, rfl, hT, rfl, q1⟩ := y
    obtain ⟨dx, h1, rfl⟩ := enum_get hd
    obtain ⟨v, v1, hv'⟩ := dvs_get hv h1
    have e1 := q1 vs (Same.sqt s.subG (Same.sqt e h))
    rw [v1] at e1; cases e1
    rw [Nat.zero_add]
    exact pair_new s hT (.int _) (dv_mono e _ _ hv')
  stop := fun F' G' ρ' S' H' i ef e p s lk hd => by
    rw [enum_len] at hd
    exact ⟨vs, Same.sqt s.subG (Same.sqt e h), by rw [dvs_len hv]; exact hd⟩
theorem feed_txt {F G : Hp} {ρ : List Addr} (z : Str) : Feed K F G ρ (PLT.ItC z) (enumD 0 (signs z)) none where
  go := fun F' G' ρ' S' H' i d ef e p s lk hd => by
    have := (List.getElem?_eq_some_iff.mp hd).1
    rw [enum_len, signs_len] at this; exact this
  yld := fun F' G' ρ' S' H' i d x H2 ef e p s lk hd y => by
    obtain ⟨T, c, rfl, hT, rfl, q1⟩ := y
    obtain ⟨dx, h1, rfl⟩ := enum_get hd
    obtain ⟨c', h2, rfl⟩ := signs_get h1
    rw [q1] at h2; cases h2
    rw [Nat.zero_add]
    exact pair_new s hT (.int _) (.str _)
  stop := fun F' G' ρ' S' H' i ef e p s lk hd => by
    rw [enum_len, signs_len] at hd
    exact hd
theorem feed_rng2 {F G : Hp} {ρ : List Addr} (lo : Int) (n : Nat) : Feed K F G ρ (Itr lo n) ((List.range n).map fun (k : Nat) => PyData.int (lo + (k : Int))) none where
  go := fun F' G' ρ' S' H' i d ef e p s lk hd => by
    have := (List.getElem?_eq_some_iff.mp hd).1
    rw [List.length_map, List.length_range] at this; exact this
  yld := fun F' G' ρ' S' H' i d x H2 ef e p s lk hd y => by
    obtain ⟨rfl, rfl⟩ := y
    rw [List.getElem?_map] at hd
    obtain ⟨j, hj, rfl⟩ := Option.map_eq_some_iff.mp hd
    rw [List.getElem?_range (by have := (List.getElem?_eq_some_iff.mp hj).1; simpa using this)] at hj
    cases hj
    exact ⟨G', Same.refl _, s, .int _⟩
  stop := fun F' G' ρ' S' H' i ef e p s lk hd => by
    rw [List.length_map, List.length_range] at hd; exact hd
end
section
variable {X : Cx} {tg a b : Expr} {ea eb : Ev} {pos : Pos}
abbrev evSeq (ea : Ev) : EvI := fun L S => okOr (ea L S) fun (x, S1) => match x with
    | .d (.list xs) => some (xs, none, S1)
    | .d (.tuple xs) => some (xs, none, S1)
    | .d (.str z) => some (signs z, none, S1)
    | .ref n => (match S1[n]? with
      | some (.lst xs) => some (xs, some (n, xs), S1)
      | _ => none)
    | _ => none
theorem kd_at {K : PySem.W.Frag} {G : Hp} : ∀ {kvs : List (Key × V)} {ks : List (Key × D)} {i : Nat} {d : D}, KD K G kvs ks → (keysD ks)[i]? = some d → ∃ k v, kvs[i]? = some (k, v) ∧ d = keyVal k
  | _, _, _, _, .nil, e => by simp [keysD] at e
  | (k1, v1) :: _, (k2, d2) :: _, 0, _, .cons ⟨(h1 : k1 = k2), _⟩ _, e => by
    subst h1
    simp [keysD] at e
    exact ⟨k1, v1, rfl, e.symm⟩
  | (k1, v1) :: _, (k2, d2) :: _, i + 1, d, .cons _ t, e => by
    obtain ⟨k, v, h1, h2⟩ := kd_at (i := i) (d := d) t (by simpa [keysD] using e)
    exact ⟨k, v, by simpa using h1, h2⟩
theorem dv_key {K : PySem.W.Frag} {G : Hp} (k : Key) : DV K G (kV k) (keyVal k) := by
  cases k with
  | inl i => exact .int i
  | inr x => exact .str x
theorem feed_keys {K : PySem.W.Frag} {F G : Hp} {ρ : List Addr} {a : Addr} {od : Obj} {kvs : List (Key × V)} {ks : List (Key × D)} (h : F a = some (.frz od (.dK kvs))) (hk : KD K G kvs ks) : Feed K F G ρ (Itk a od kvs) (keysD ks) none where
  go := fun F' G' ρ' S' H' i d ef e p s lk hd => by
    obtain ⟨k, v, h1, _⟩ := kd_at hk hd
    exact ⟨s.subF a _ (ef a _ h), (List.getElem?_eq_some_iff.mp h1).1⟩
  yld := fun F' G' ρ' S' H' i d x H2 ef e p s lk hd y => by
    obtain ⟨rfl, k, v, h1, rfl⟩ := y
    obtain ⟨k', v', h2, rfl⟩ := kd_at hk hd
    rw [h1] at h2; cases h2
    exact ⟨G', Same.refl _, s, dv_key k⟩
  stop := fun F' G' ρ' S' H' i ef e p s lk hd => ⟨s.subF a _ (ef a _ h), by
    have : (keysD ks).length = ks.length := List.length_map ..
    rw [kd_len hk, ← this]; exact hd⟩
abbrev evKeys (ea : Ev) : EvI := fun L S => okOr (ea L S) fun (x, S1) => okOr (keysAt x S1) fun ds => some (ds, (none : Lk), S1)
theorem keysAt_some {x : R} {S : Sto} {ds : List D} (h : keysAt x S = some ds) : ∃ n ks, x = .ref n ∧ S[n]? = some (.dicL ks) ∧ ds = keysD ks := by
  unfold keysAt at h
  split at h
  · split at h
    · cases h; exact ⟨_, _, rfl, by assumption, rfl⟩
    · cases h
  · cases h
theorem i_keys (ha : PE X a (tE X.K ea)) : PI X tg a (tI X.K (evKeys ea)) := by
  refine ⟨fun pins s0 σ H R I h => ?_⟩
  obtain ⟨F, G, ρ, S, L, ds, lk, S', s, l, e, hlk, q⟩ := h
  obtain ⟨⟨x, S1⟩, e1, e⟩ := okOr_some e
  obtain ⟨ds', e2, e⟩ := okOr_some e
  cases e
  obtain ⟨n, ks, rfl, hs, rfl⟩ := keysAt_some e2
  refine (pi_keys ha).run pins s0 σ H R I ⟨F, G, ρ, S, L, _, _, s, l, e1, fun G1 ρ1 H1 v1 g1 p1 s1 q1 => ?_⟩
  obtain ⟨a, ea', rfl⟩ := q1
  obtain ⟨o, ho, od, kvs, rfl, hk⟩ := s1.obj n _ a hs ea'
  refine ⟨a, od, rfl, .inl ⟨kvs, ho, q _ G1 ρ1 H1 g1 p1 s1 (feed_keys ?_ hk)⟩⟩
  cases hF : F a with
  | none => exact absurd hF (s1.lck n _ a hs ea' rfl)
  | some o' =>
    have := s1.subF a o' hF
    rw [ho] at this
    exact this.symm
theorem i_seq (ha : PE X a (tE X.K ea)) : PI X tg a (tI X.K (evSeq ea)) := by
  refine ⟨fun pins s0 σ H R I h => ?_⟩
  obtain ⟨F, G, ρ, S, L, ds, lk, S', s, l, e, hlk, q⟩ := h
  obtain ⟨⟨x, S1⟩, e1, e⟩ := okOr_some e
  dsimp only at e
  split at e
  · cases e
    refine (pi_list ha).run pins s0 σ H R I ⟨F, G, ρ, S, L, _, _, s, l, e1, fun G1 ρ1 H1 v1 g1 p1 s1 q1 => ?_⟩
    cases q1 with
    | lst h1 h2 => exact ⟨_, rfl, ⟨_, .of (s1.subG _ _ h1)⟩, q _ G1 ρ1 H1 g1 p1 s1 (feed_list h1 h2)⟩
  · cases e
    refine (pi_tup ha).run pins s0 σ H R I ⟨F, G, ρ, S, L, _, _, s, l, e1, fun G1 ρ1 H1 v1 g1 p1 s1 q1 => ?_⟩
    cases q1 with
    | tup h1 h2 => exact ⟨_, rfl, ⟨_, Same.sqt s1.subG h1⟩, q _ G1 ρ1 H1 g1 p1 s1 (feed_tup h1 h2)⟩
  · cases e
    refine (pi_str ha).run pins s0 σ H R I ⟨F, G, ρ, S, L, _, _, s, l, e1, fun G1 ρ1 H1 v1 g1 p1 s1 q1 => ?_⟩
    cases q1
    exact ⟨_, rfl, q _ G1 ρ1 H1 g1 p1 s1 (feed_str _)⟩
  · rename_i n
    split at e
    · rename_i xs hx
      cases e
      refine (pi_list ha).run pins s0 σ H R I ⟨F, G, ρ, S, L, _, _, s, l, e1, fun G1 ρ1 H1 v1 g1 p1 s1 q1 => ?_⟩
      obtain ⟨p, ep, rfl⟩ := q1
      obtain ⟨o, ho, vs, rfl, hv⟩ := s1.obj n _ p hx ep
      exact ⟨p, rfl, ⟨vs, .of ho⟩, q _ G1 ρ1 H1 g1 p1 s1 (feed_ref ep)⟩
    · cases e
  · cases e
abbrev evRng (ea : Ev) : EvI := fun L S => okOr (ea L S) fun (x, S1) => match x with
    | .d (.int i) => if -(2 ^ 62) ≤ i ∧ i < 2 ^ 62 then some (rngD i, none, S1) else none
    | _ => none
theorem i_rng {p : Pos} (hg : Gl X "range") (hm : X.mg "range" = none) (ha : PE X a (tE X.K ea)) (hst : ∀ e p, a ≠ .Starred e p) : PI X tg (.Call (.Name "range" p) [a] [] pos) (tI X.K (evRng ea)) := by
  refine ⟨fun pins s0 σ H R I h => ?_⟩
  obtain ⟨F, G, ρ, S, L, ds, lk, S', s, l, e, hlk, q⟩ := h
  obtain ⟨⟨x, S1⟩, e1, e⟩ := okOr_some e
  dsimp only at e
  split at e
  · obtain ⟨c, e⟩ := some_if e
    cases e
    refine (pi_range1 hg hm (pa_cons ha pa_nil (star1 hst [])) (star1 hst [])).run pins s0 σ H R I ⟨F, G, ρ, S, L, _, _, s, l, e1, fun G1 ρ1 H1 v1 g1 p1 s1 q1 => ?_⟩
    cases q1
    exact ⟨_, rfl, c.1, c.2, q _ G1 ρ1 H1 g1 p1 s1 (feed_rng _)⟩
  · cases e
abbrev evZip (ea eb : Ev) : EvI := fun L S => okOr (ea L S) fun (x, S1) => okOr (eb L S1) fun (y, S2) => match x, y with
    | .d (.list xs), .d (.list ys) => some (zipD xs ys, none, S2)
    | .d (.tuple xs), .d (.tuple ys) => some (zipD xs ys, none, S2)
    | _, _ => none
theorem i_zip {p tpos : Pos} {elts : List Expr} {kk : Nat} (hg : Gl X "zip") (hm : X.mg "zip" = none) (ha : PE X a (tE X.K ea)) (hb : PE X b (tE X.K eb)) (hst : ∀ e p, a ≠ .Starred e p) (hst2 : ∀ e p, b ≠ .Starred e p) :
    PI X (.Tuple elts kk tpos) (.Call (.Name "zip" p) [a, b] [] pos) (tI X.K (evZip ea eb)) := by
  refine ⟨fun pins s0 σ H R I h => ?_⟩
  obtain ⟨F, G, ρ, S, L, ds, lk, S', s, l, e, hlk, q⟩ := h
  obtain ⟨⟨x, S1⟩, e1, e⟩ := okOr_some e
  obtain ⟨⟨y, S2⟩, e2, e⟩ := okOr_some e
  have hpl : (backTo pos (starEach [b] X.env)).any (·.1) = false := by rw [star1 hst2]; rfl
  refine (RZ.pi_zipA hg hm (pa_cons ha (pa_cons hb pa_nil (star1 hst2 [])) (star1 hst _)) (star1 hst _) hpl).run pins s0 σ H R I ⟨F, G, ρ, S, L, _, _, s, l, e1, fun G1 ρ1 H1 v1 g1 p1 s1 q1 => ⟨F, G1, ρ1, S1, L, _, _, s1, lok_mono g1 p1 l, e2, fun G2 ρ2 H2 v2 g2 p2 s2 q2 => ?_⟩⟩
  dsimp only at e
  split at e
  · cases e
    have q1 := rv_mono g2 p2 q1
    cases q1 with
    | lst h1 h2 =>
      cases q2 with
      | lst k1 k2 => exact ⟨_, _, _, _, rfl, .inl ⟨.of (s2.subG _ _ h1), .of (s2.subG _ _ k1), q _ G2 ρ2 H2 (g1.trans g2) (p1.trans p2) s2 (feed_zipL h1 h2 k1 k2)⟩⟩
  · cases e
    have q1 := rv_mono g2 p2 q1
    cases q1 with
    | tup h1 h2 =>
      cases q2 with
      | tup k1 k2 => exact ⟨_, _, _, _, rfl, .inr ⟨Same.sqt s2.subG h1, Same.sqt s2.subG k1, q _ G2 ρ2 H2 (g1.trans g2) (p1.trans p2) s2 (feed_zipT h1 h2 k1 k2)⟩⟩
  · cases e
abbrev evEnm (ea : Ev) : EvI := fun L S => okOr (ea L S) fun (x, S1) => match x with
    | .d (.list xs) => some (enumD 0 xs, none, S1)
    | .d (.tuple xs) => some (enumD 0 xs, none, S1)
    | .d (.str z) => some (enumD 0 (signs z), none, S1)
    | _ => none
theorem i_enm {p tpos : Pos} {elts : List Expr} {kk : Nat} (hg : Gl X "enumerate") (hm : X.mg "enumerate" = none) (ha : PE X a (tE X.K ea)) (hst : ∀ e p, a ≠ .Starred e p) : PI X (.Tuple elts kk tpos) (.Call (.Name "enumerate" p) [a] [] pos) (tI X.K (evEnm ea)) := by
  refine ⟨fun pins s0 σ H R I h => ?_⟩
  obtain ⟨F, G, ρ, S, L, ds, lk, S', s, l, e, hlk, q⟩ := h
  obtain ⟨⟨x, S1⟩, e1, e⟩ := okOr_some e
  dsimp only at e
  split at e
  · cases e
    refine (pi_enum hg hm (pa_cons ha pa_nil (star1 hst [])) (star1 hst [])).run pins s0 σ H R I ⟨F, G, ρ, S, L, _, _, s, l, e1, fun G1 ρ1 H1 v1 g1 p1 s1 q1 => ?_⟩
    cases q1 with
    | lst h1 h2 => exact ⟨_, _, rfl, .of (s1.subG _ _ h1), q _ G1 ρ1 H1 g1 p1 s1 (feed_enm h1 h2)⟩
  · cases e
    refine (PLT.pi_num hg hm (pa_cons ha pa_nil (star1 hst [])) (star1 hst [])).run pins s0 σ H R I ⟨F, G, ρ, S, L, _, _, s, l, e1, fun G1 ρ1 H1 v1 g1 p1 s1 q1 => ?_⟩
    cases q1 with
    | tup h1 h2 => exact ⟨_, _, rfl, Same.sqt s1.subG h1, q _ G1 ρ1 H1 g1 p1 s1 (feed_num h1 h2)⟩
  · cases e
    refine (PLT.pi_txt hg hm (pa_cons ha pa_nil (star1 hst [])) (star1 hst [])).run pins s0 σ H R I ⟨F, G, ρ, S, L, _, _, s, l, e1, fun G1 ρ1 H1 v1 g1 p1 s1 q1 => ?_⟩
    cases q1
    exact ⟨_, rfl, q _ G1 ρ1 H1 g1 p1 s1 (feed_txt _)⟩
  · cases e
abbrev evRng2 (ea eb : Ev) : EvI := fun L S => okOr (ea L S) fun (x, S1) => okOr (eb L S1) fun (y, S2) => match x, y with
    | .d (.int i), .d (.int j) => if -(2 ^ 62) ≤ i ∧ i < 2 ^ 62 ∧ -(2 ^ 62) ≤ j ∧ j < 2 ^ 62 then some (rng2D i j, none, S2) else none
    | _, _ => none
theorem i_rng2 {p : Pos} (hg : Gl X "range") (hm : X.mg "range" = none) (ha : PE X a (tE X.K ea)) (hb : PE X b (tE X.K eb)) (hst : ∀ e p, a ≠ .Starred e p) (hst2 : ∀ e p, b ≠ .Starred e p) :
    PI X tg (.Call (.Name "range" p) [a, b] [] pos) (tI X.K (evRng2 ea eb)) := by
  refine ⟨fun pins s0 σ H R I h => ?_⟩
  obtain ⟨F, G, ρ, S, L, ds, lk, S', s, l, e, hlk, q⟩ := h
  obtain ⟨⟨x, S1⟩, e1, e⟩ := okOr_some e
  obtain ⟨⟨y, S2⟩, e2, e⟩ := okOr_some e
  have h1 : starEach [b] X.env = [(false, eval b X.env)] := star1 hst2 []
  have h2 : starEach [a, b] X.env = [(false, eval a X.env), (false, eval b X.env)] := by rw [star1 hst, h1]
  dsimp only at e
  split at e
  · obtain ⟨c, e⟩ := some_if e
    cases e
    refine (pi_range2 hg hm (pa_cons ha (pa_cons hb pa_nil h1) (star1 hst _)) h2 h1).run pins s0 σ H R I ⟨F, G, ρ, S, L, _, _, s, l, e1, fun G1 ρ1 H1 v1 g1 p1 s1 q1 => ⟨F, G1, ρ1, S1, L, _, _, s1, lok_mono g1 p1 l, e2, fun G2 ρ2 H2 v2 g2 p2 s2 q2 => ?_⟩⟩
    cases q1
    cases q2
    exact ⟨_, _, rfl, c, q _ G2 ρ2 H2 (g1.trans g2) (p1.trans p2) s2 (feed_rng2 _ _)⟩
  · cases e
end
end PL
end
section
set_option maxHeartbeats 2000000
namespace PL
open PySem PySem.Spec PyProof.Rows L2
theorem upd_self {H : Hp} {a : Addr} {o : HO} (h : H a = some o) : upd H a o = H := by
  funext b
  unfold upd
  split
  · rename_i e; rw [e, h]
  · rfl
/-! ### targets -/
def gNames : List Nat → TGs
  | [] => gNil
  | i :: is => gCons (gName i) (gNames is)
def gT (K : PySem.W.Frag) : Tg → TG
  | .one i => gName i
  | .tup is => gTup K is.length (gNames is)
def Tg.ixs : Tg → List Nat
  | .one i => [i]
  | .tup is => is
theorem wipe_set {σ : L2.St} {i : Nat} {o : Option V} : ∀ {own : List Nat}, i ∈ own → wipe (σ.set i o) own = wipe σ own
  | [], h => absurd h (by simp)
  | v :: vs, h => by
    unfold wipe
    by_cases hv : i ∈ vs
    · rw [wipe_set hv]
    · have e : i = v := by
        rcases List.mem_cons.mp h with e | e
        · exact e
        · exact absurd e hv
      subst e
      have k : ∀ (ws : List Nat), i ∉ ws → wipe (σ.set i o) ws = (wipe σ ws).set i o := fun ws => by
        induction ws with
        | nil => intro _; rfl
        | cons w ws ih =>
          intro hw
          simp only [List.mem_cons, not_or] at hw
          show (wipe (σ.set i o) ws).set w none = ((wipe σ ws).set w none).set i o
          rw [ih hw.2, List.set_comm _ _ hw.1]
      rw [k vs hv, List.set_set]
section
variable {K : PySem.W.Frag}
theorem names_ok {G : Hp} {ρ : List Addr} {H : Hp} {own : List Nat} : ∀ {is : List Nat} {ds : List D} {vs : List V} {L L' : Loc} {σ : L2.St} {Q : L2.St → Hp → Prop}, DVs K G vs ds → bindIx is ds L = some L' → (∀ i ∈ is, i ∈ own) → LOk K G ρ L σ →
    (∀ σ', LOk K G ρ L' σ' → wipe σ' own = wipe σ own → Q σ' H) → gNames is vs σ H Q
  | [], ds, vs, L, L', σ, Q, hv, e, hi, l, q => by
    cases ds with
    | nil => cases hv; cases e; exact ⟨rfl, q σ l rfl⟩
    | cons _ _ => cases e
  | i :: is, ds, vs, L, L', σ, Q, hv, e, hi, l, q => by
    cases hv with
    | nil => cases e
    | cons h t =>
      refine ⟨_, _, rfl, ?_⟩
      refine names_ok t e (fun j hj => hi j (List.mem_cons_of_mem _ hj)) (lok_set (r := .d _) l i h) fun σ' l' w => q σ' l' ?_
      rw [w, wipe_set (hi i List.mem_cons_self)]
theorem tg_ok {F G : Hp} {ρ : List Addr} {S : Sto} {H : Hp} (s : SOk K F G ρ S H) {own : List Nat} {tg : Tg} {d : D} {v : V} {L L' : Loc} {σ : L2.St} {Q : L2.St → Hp → Prop} (h : DV K G v d) (e : bindT tg d L = some L') (hi : ∀ i ∈ tg.ixs, i ∈ own) (l : LOk K G ρ L σ)
    (q : ∀ σ', LOk K G ρ L' σ' → wipe σ' own = wipe σ own → Q σ' H) : gT K tg v σ H Q := by
  cases tg with
  | one i =>
    cases e
    exact q _ (lok_set (r := .d d) l i h) (wipe_set (hi i (List.mem_singleton.mpr rfl)))
  | tup is =>
    cases h with
    | tup h1 h2 =>
      have hl : ∀ {is : List Nat} {ds : List D} {L : Loc}, bindIx is ds L = some L' → ds.length = is.length := fun {is} => by
        induction is with
        | nil => intro ds L e; cases ds <;> first | rfl | cases e
        | cons i is ih => intro ds L e; cases ds <;> first | cases e | exact congrArg Nat.succ (ih e)
      exact ⟨_, _, rfl, Same.sqt s.subG h1, by rw [dvs_len h2]; exact hl e, names_ok h2 e hi l q⟩
    | _ => cases e
end
/-! ### a comprehension -/
section
variable {X : Cx} {own : List Nat} {tg : Tg} {ei : EvI} {et : Loc → Sto → Option (Bool × Sto)} {ee : Ev}
abbrev turnC (own : List Nat) (tg : Tg) (et : Loc → Sto → Option (Bool × Sto)) (ee : Ev) (L : Loc) : D → Sto → Option (Option D × Sto) := fun d S => okOr (bindT tg d (wipeL L own)) fun L' => okOr (et L' S) fun (b, S') => match b with
        | true => okOr (ee L' S') fun (y, S2) => okOr (asD y) fun y => some (some y, S2)
        | false => some (none, S')
theorem asD_some {y : R} {d : D} (h : asD y = some d) : y = .d d := by
  cases y <;> first | (cases h; rfl) | cases h
theorem lc_read {K : PySem.W.Frag} {σ : L2.St} {H : Hp} {Q : VK} {fin : List D → Sto → R × Sto} (hown : ∀ i ∈ tg.ixs, i ∈ own)
    (hfin : ∀ (F G : Hp) (ρ : List Addr) (S : Sto) (H : Hp) (p : Addr) (ys : List D) (vs : List V) (Q : VK), SOk K (upd F p (.lst vs)) G ρ S H → F p = none → DVs K G vs ys → Post K F G ρ (fin ys S).2 (fin ys S).1 Q → Q (.ref p) H)
    (h : tE K (fun L S => okOr (ei L S) fun (ds, lk, S1) => guardB (lockB lk S1) (okOr (loopM lk (turnC own tg et ee L) ds [] S1) fun (ys, S2) => some (fin ys S2))) σ H Q) :
    tLc (tI K ei) (gT K tg) (tT K et) (tE K ee) own σ H Q := by
  obtain ⟨F, G, ρ, S, L, r, Sf, s, l, e, q⟩ := h
  obtain ⟨⟨ds, lk, S1⟩, e1, e⟩ := okOr_some e
  obtain ⟨hlk, e⟩ := guardB_some e
  obtain ⟨⟨ys, S2⟩, e2, e⟩ := okOr_some e
  have ef : fin ys S2 = (r, Sf) := Option.some.inj e
  refine ⟨F, G, ρ, S, L, ds, lk, S1, s, l, e1, hlk, fun J G1 ρ1 H1 g1 p1 s1 feed => ?_⟩
  intro D hD
  have hF : F D = none := Same.free s1.subF hD
  let W : Nat → Nat → Hp → Prop := fun i m H => m = ds.length - i ∧ i ≤ ds.length ∧ ∃ G' ρ' S' acc vs, Same G1 G' ∧ ρ1 <+: ρ' ∧ SOk K (upd F D (.lst vs)) G' ρ' S' H ∧ DVs K G' vs acc ∧ lockB lk S' = true ∧ loopM lk (turnC own tg et ee L) (ds.drop i) acc S' = some (ys, S2)
  refine ⟨W, ⟨ds.length, by simp, Nat.zero_le _, G1, ρ1, S1, [], [], Same.refl _, List.prefix_refl _, s1.hold hD, .nil, hlk, e2⟩, ?_⟩
  rintro i m H2 ⟨rfl, hi, G', ρ', S', acc, vs, g2, p2, s2, hv, hk, hl⟩
  by_cases hlt : i < ds.length
  · refine .inr ⟨feed.go _ G' ρ' S' H2 i ds[i] (same_upd hF) g2 p2 s2 hk (List.getElem?_eq_getElem hlt), W (i + 1) (ds.length - (i + 1)), fun H' w => ⟨_, by omega, w⟩, fun x H3 hy => ?_⟩
    obtain ⟨G3, g3, s3, hx⟩ := feed.yld _ G' ρ' S' H2 i ds[i] x H3 (same_upd hF) g2 p2 s2 hk (List.getElem?_eq_getElem hlt) hy
    rw [List.drop_eq_getElem_cons hlt] at hl
    simp only [loopM] at hl
    split at hl
    · rename_i o S3 ht
      by_cases hk3 : lockB lk S3 = true
      · rw [if_pos hk3] at hl
        obtain ⟨L', eb, ht⟩ := okOr_some ht
        obtain ⟨⟨b, S4⟩, et', ht⟩ := okOr_some ht
        have gall := g1.trans (g2.trans g3)
        have pall := p1.trans p2
        refine tg_ok s3 hx eb hown (lok_wipe (lok_mono gall pall l) own) fun σ2 l2 w2 => ⟨?_, ?_⟩
        · rw [w2]
          clear w2 l2
          have ww : ∀ (us vs : List Nat) (τ : L2.St), (∀ v ∈ vs, v ∈ us) → wipe (wipe τ us) vs = wipe τ us := fun us vs => by
            induction vs with
            | nil => intro τ _; rfl
            | cons v vs ih =>
              intro τ hh
              show (wipe (wipe τ us) vs).set v none = wipe τ us
              rw [ih τ fun w hw => hh w (List.mem_cons_of_mem _ hw)]
              apply List.ext_getElem?
              intro j
              by_cases hj : v = j
              · subst hj
                by_cases hb : v < (wipe τ us).length
                · rw [List.getElem?_set_self hb]
                  cases hq : (wipe τ us)[v]? with
                  | none => rw [List.getElem?_eq_none_iff] at hq; omega
                  | some o =>
                    cases o with
                    | none => rfl
                    | some y => exact absurd (hh v List.mem_cons_self) (wipe_some hq).2
                · rw [List.getElem?_eq_none (by simpa using hb), List.getElem?_eq_none (by simpa using hb)]
              · rw [List.getElem?_set_ne hj]
          exact ww own own σ fun v hv => hv
        · refine ⟨_, G3, ρ', S', L', b, S4, s3, l2, et', fun G4 ρ4 H4 g4 p4 s4 => ?_⟩
          cases b with
          | true =>
            rw [if_pos rfl]
            obtain ⟨⟨y, S5⟩, ey, ht⟩ := okOr_some ht
            obtain ⟨dy, ed, ht⟩ := okOr_some ht
            cases asD_some ed
            obtain ⟨rfl, rfl⟩ := res_eq ht
            dsimp only at hl
            obtain ⟨hz, hl⟩ : acc.length < sizeLine ∧ loopM lk (turnC own tg et ee L) (ds.drop (i + 1)) (acc ++ [dy]) S5 = some (ys, S2) := by
              by_cases hz : acc.length < sizeLine
              · rw [if_pos hz] at hl; exact ⟨hz, hl⟩
              · rw [if_neg hz] at hl; cases hl
            refine ⟨_, G4, ρ4, S4, L', _, S5, s4, lok_mono g4 p4 l2, ey, fun G5 ρ5 H5 v5 g5 p5 s5 q5 => ?_⟩
            have gv := g3.trans (g4.trans g5)
            refine ⟨vs, s5.heldAt, by rw [dvs_len hv]; exact hz, rfl, hlt, G5, ρ5, S5, acc ++ [dy], vs ++ [v5], g2.trans gv, p2.trans (p4.trans p5), s5.held _, dvs_app (dvs_mono gv _ _ hv) (.cons q5 .nil), hk3, hl⟩
          | false =>
            rw [if_neg Bool.false_ne_true]
            obtain ⟨rfl, rfl⟩ := res_eq ht
            dsimp only at hl
            have gv := g3.trans g4
            exact ⟨rfl, hlt, G4, ρ4, S4, acc, vs, g2.trans gv, p2.trans p4, s4, dvs_mono gv _ _ hv, hk3, hl⟩
      · rw [if_neg hk3] at hl; cases hl
    · cases hl
  · have hi' : i = ds.length := by omega
    subst hi'
    refine .inl ⟨feed.stop _ G' ρ' S' H2 _ (same_upd hF) g2 p2 s2 hk (Nat.le_refl _), ?_⟩
    rw [List.drop_length] at hl
    obtain ⟨rfl, rfl⟩ := res_eq hl
    refine hfin F G' ρ' S' H2 D acc vs Q s2 hF hv ?_
    rw [ef]
    exact q.mono (g1.trans g2) (p1.trans p2)
theorem fin_d {K : PySem.W.Frag} (F G : Hp) (ρ : List Addr) (S : Sto) (H : Hp) (p : Addr) (ys : List D) (vs : List V) (Q : VK) (s : SOk K (upd F p (.lst vs)) G ρ S H) (hF : F p = none) (hv : DVs K G vs ys) (q : Post K F G ρ S (.d (.list ys)) Q) : Q (.ref p) H := by
  obtain ⟨s', e⟩ := s.heldFix hF
  exact q _ ρ H _ e (List.prefix_refl _) s' (.lst upd_same (dvs_mono e _ _ hv))
theorem fin_r {K : PySem.W.Frag} (F G : Hp) (ρ : List Addr) (S : Sto) (H : Hp) (p : Addr) (ys : List D) (vs : List V) (Q : VK) (s : SOk K (upd F p (.lst vs)) G ρ S H) (hF : F p = none) (hv : DVs K G vs ys) (q : Post K F G ρ (S ++ [.lst ys]) (.ref S.length) Q) : Q (.ref p) H := by
  have s' := s.heldNew hF (b := .lst ys) (o' := .lst vs) ⟨vs, rfl, hv⟩
  rw [upd_self s.heldAt] at s'
  exact q G (ρ ++ [p]) H _ (Same.refl _) (List.prefix_append _ _) s' ⟨p, by rw [List.getElem?_append_right (by rw [s.len]; exact Nat.le_refl _), s.len, Nat.sub_self]; rfl, rfl⟩
abbrev evC (own : List Nat) (tg : Tg) (ei : EvI) (et : Loc → Sto → Option (Bool × Sto)) (ee : Ev) (fin : List D → Sto → R × Sto) : Ev := fun L S => okOr (ei L S) fun (ds, lk, S1) => guardB (lockB lk S1) (okOr (loopM lk (turnC own tg et ee L) ds [] S1) fun (ys, S2) => some (fin ys S2))
abbrev finD : List D → Sto → R × Sto := fun ys S => (.d (.list ys), S)
abbrev finR : List D → Sto → R × Sto := fun ys S => (.ref S.length, S ++ [.lst ys])
end
end PL
end
section
set_option maxHeartbeats 2000000
namespace PL
open PySem PySem.Spec PyProof.Rows L2
def SPost (K : PySem.W.Frag) (F G : Hp) (ρ : List Addr) (f : Fl) (L' : Loc) (S' : Sto) (Dn : Ends) : Prop :=
  match f with
  | .nx => ∀ (G' : Hp) (ρ' : List Addr) (H' : Hp) (σ' : L2.St), Same G G' → ρ <+: ρ' → SOk K F G' ρ' S' H' → LOk K G' ρ' L' σ' → Dn.nx σ' H'
  | .bk => ∀ (G' : Hp) (ρ' : List Addr) (H' : Hp) (σ' : L2.St), Same G G' → ρ <+: ρ' → SOk K F G' ρ' S' H' → LOk K G' ρ' L' σ' → Dn.bk σ' H'
  | .ct => ∀ (G' : Hp) (ρ' : List Addr) (H' : Hp) (σ' : L2.St), Same G G' → ρ <+: ρ' → SOk K F G' ρ' S' H' → LOk K G' ρ' L' σ' → Dn.ct σ' H'
  | .rt r => ∀ (G' : Hp) (ρ' : List Addr) (H' : Hp) (v : V), Same G G' → ρ <+: ρ' → SOk K F G' ρ' S' H' → RV K G' ρ' r v → Dn.rt v H'
theorem SPost.mono {K : PySem.W.Frag} {F G G1 : Hp} {ρ ρ1 : List Addr} {f : Fl} {L' : Loc} {S' : Sto} {Dn : Ends} (h : SPost K F G ρ f L' S' Dn) (e : Same G G1) (p : ρ <+: ρ1) : SPost K F G1 ρ1 f L' S' Dn := by
  cases f <;> exact fun G' ρ' H' v e' p' s q => h G' ρ' H' v (e.trans e') (p.trans p') s q
abbrev EvS := Loc → Sto → Option (Fl × Loc × Sto)
def tS (K : PySem.W.Frag) (ev : EvS) : TS := fun Dn σ H => ∃ F G ρ S L f L' S', SOk K F G ρ S H ∧ LOk K G ρ L σ ∧ ev L S = some (f, L', S') ∧ SPost K F G ρ f L' S' Dn
theorem fl_eq {f f' : Fl} {L L' : Loc} {S S' : Sto} (h : some (f, L, S) = some (f', L', S')) : f = f' ∧ L = L' ∧ S = S' := by
  injection h with h
  injection h with h1 h2
  injection h2 with h2 h3
  exact ⟨h1, h2, h3⟩
section
variable {X : Cx} {a b c : Expr} {ea eb ec : Ev} {pos : Pos} {st : Stmt} {rest : List Stmt} {u w : EvS}
theorem s_nil : PSs X [] (tS X.K fun L S => some (.nx, L, S)) := by
  refine PSs.weak pss_nil fun Dn σ H h => ?_
  obtain ⟨F, G, ρ, S, L, f, L', S', s, l, e, q⟩ := h
  obtain ⟨rfl, rfl, rfl⟩ := fl_eq e
  exact q G ρ H σ (Same.refl _) (List.prefix_refl _) s l
abbrev evSeqS (u w : EvS) : EvS := fun L S => okOr (u L S) fun (f, L', S') => match f with
    | .nx => w L' S'
    | f => some (f, L', S')
theorem s_cons (h1 : PS X st (tS X.K u)) (h2 : PSs X rest (tS X.K w)) : PSs X (st :: rest) (tS X.K (evSeqS u w)) := by
  refine PSs.weak (pss_cons h1 h2) fun Dn σ H h => ?_
  obtain ⟨F, G, ρ, S, L, f, L', S', s, l, e, q⟩ := h
  obtain ⟨⟨f1, L1, S1⟩, e1, e⟩ := okOr_some e
  refine ⟨F, G, ρ, S, L, f1, L1, S1, s, l, e1, ?_⟩
  cases f1 with
  | nx => exact fun G1 ρ1 H1 σ1 g1 p1 s1 l1 => ⟨F, G1, ρ1, S1, L1, f, L', S', s1, l1, e, q.mono g1 p1⟩
  | bk => obtain ⟨rfl, rfl, rfl⟩ := fl_eq e; exact q
  | ct => obtain ⟨rfl, rfl, rfl⟩ := fl_eq e; exact q
  | rt r => obtain ⟨rfl, rfl, rfl⟩ := fl_eq e; exact q
theorem s_asg {i : Nat} {x : Str} {pos' : Pos} (hN : X.N.Nodup) (hi : X.N[i]? = some x) (hx : L2.Loc X.env.scope x) (ha : PE X a (tE X.K ea)) (hs : swapsWith a (some (.Name x pos')) pos.line X.env = pure false) (hf : X.fn x = true) :
    PS X (.Assign [.Name x pos'] a pos) (tS X.K fun L S => okOr (ea L S) fun (x, S1) => some (.nx, L.set i (some x), S1)) := by
  refine PS.weak (ps_set hN hi hx ha hs (.inl hf)) fun Dn σ H h => ?_
  obtain ⟨F, G, ρ, S, L, f, L', S', s, l, e, q⟩ := h
  obtain ⟨⟨x, S1⟩, e1, e⟩ := okOr_some e
  obtain ⟨rfl, rfl, rfl⟩ := fl_eq e
  exact ⟨F, G, ρ, S, L, x, S1, s, l, e1, fun G1 ρ1 H1 v1 g1 p1 s1 q1 => q G1 ρ1 H1 _ g1 p1 s1 (lok_set (lok_mono g1 p1 l) i q1)⟩
theorem s_expr (ha : PE X a (tE X.K ea)) (hs : swapsWith a none pos.line X.env = pure false) : PS X (.Expr a pos) (tS X.K fun L S => okOr (ea L S) fun (_, S1) => some (.nx, L, S1)) := by
  refine PS.weak (ps_expr ha hs) fun Dn σ H h => ?_
  obtain ⟨F, G, ρ, S, L, f, L', S', s, l, e, q⟩ := h
  obtain ⟨⟨x, S1⟩, e1, e⟩ := okOr_some e
  obtain ⟨rfl, rfl, rfl⟩ := fl_eq e
  exact ⟨F, G, ρ, S, L, x, S1, s, l, e1, fun G1 ρ1 H1 v1 g1 p1 s1 q1 => q G1 ρ1 H1 _ g1 p1 s1 (lok_mono g1 p1 l)⟩
theorem s_ret (ha : PE X a (tE X.K ea)) : PS X (.Return (some a) pos) (tS X.K fun L S => okOr (ea L S) fun (x, S1) => some (.rt x, L, S1)) := by
  refine PS.weak (ps_ret ha) fun Dn σ H h => ?_
  obtain ⟨F, G, ρ, S, L, f, L', S', s, l, e, q⟩ := h
  obtain ⟨⟨x, S1⟩, e1, e⟩ := okOr_some e
  obtain ⟨rfl, rfl, rfl⟩ := fl_eq e
  exact ⟨F, G, ρ, S, L, x, S1, s, l, e1, q⟩
theorem s_ret0 : PS X (.Return none pos) (tS X.K fun L S => some (.rt (.d .none), L, S)) := by
  refine PS.weak ps_retN fun Dn σ H h => ?_
  obtain ⟨F, G, ρ, S, L, f, L', S', s, l, e, q⟩ := h
  obtain ⟨rfl, rfl, rfl⟩ := fl_eq e
  exact q G ρ H .non (Same.refl _) (List.prefix_refl _) s .non
theorem s_pass : PS X (.Pass pos) (tS X.K fun L S => some (.nx, L, S)) := by
  refine PS.weak ps_pass fun Dn σ H h => ?_
  obtain ⟨F, G, ρ, S, L, f, L', S', s, l, e, q⟩ := h
  obtain ⟨rfl, rfl, rfl⟩ := fl_eq e
  exact q G ρ H σ (Same.refl _) (List.prefix_refl _) s l
theorem s_brk : PS X (.Break pos) (tS X.K fun L S => some (.bk, L, S)) := by
  refine PS.weak ps_break fun Dn σ H h => ?_
  obtain ⟨F, G, ρ, S, L, f, L', S', s, l, e, q⟩ := h
  obtain ⟨rfl, rfl, rfl⟩ := fl_eq e
  exact q G ρ H σ (Same.refl _) (List.prefix_refl _) s l
theorem s_cont : PS X (.Continue pos) (tS X.K fun L S => some (.ct, L, S)) := by
  refine PS.weak ps_continue fun Dn σ H h => ?_
  obtain ⟨F, G, ρ, S, L, f, L', S', s, l, e, q⟩ := h
  obtain ⟨rfl, rfl, rfl⟩ := fl_eq e
  exact q G ρ H σ (Same.refl _) (List.prefix_refl _) s l
theorem s_never : PS X st (tS X.K fun _ _ => none) := by
  refine PS.weak ps_never fun Dn σ H h => ?_
  obtain ⟨F, G, ρ, S, L, f, L', S', s, l, e, q⟩ := h
  cases e
abbrev evIfS (ec : Ev) (u w : EvS) : EvS := fun L S => okOr (ec L S) fun (x, S1) => okOr (truth x S1) fun k => match k with
    | true => u L S1
    | false => w L S1
theorem s_if {bs cs : List Stmt} (hc : PT X c (tT X.K (tstE ec))) (h1 : PSs X bs (tS X.K u)) (h2 : PSs X cs (tS X.K w)) : PS X (.If c bs cs pos) (tS X.K (evIfS ec u w)) := by
  refine PS.weak (ps_if hc h1 h2) fun Dn σ H h => ?_
  obtain ⟨F, G, ρ, S, L, f, L', S', s, l, e, q⟩ := h
  obtain ⟨⟨x, S1⟩, e1, e⟩ := okOr_some e
  obtain ⟨k, e2, e⟩ := okOr_some e
  refine ⟨F, G, ρ, S, L, k, S1, s, l, tst_of e1 e2, fun G1 ρ1 H1 g1 p1 s1 => ?_⟩
  cases k with
  | true => rw [if_pos rfl]; exact ⟨F, G1, ρ1, S1, L, f, L', S', s1, lok_mono g1 p1 l, e, q.mono g1 p1⟩
  | false => rw [if_neg Bool.false_ne_true]; exact ⟨F, G1, ρ1, S1, L, f, L', S', s1, lok_mono g1 p1 l, e, q.mono g1 p1⟩
/-! ### d[k] = v -/
theorem dsetR_some {x y z : R} {S S' : Sto} (h : dsetR x y z S = some S') : ∃ n k kd, x = .ref n ∧ y = .d kd ∧ keyD kd = some k ∧
    ((∃ ks d, z = .d d ∧ S[n]? = some (.dic ks) ∧ ks.length < sizeLine ∧ S' = S.set n (.dic (storeK ks k d))) ∨ (∃ ks, S[n]? = some (.mix ks) ∧ ks.length < sizeLine ∧ S' = S.set n (.mix (storeK ks k z)))) := by
  unfold dsetR at h
  split at h
  · split at h
    · obtain ⟨c, rfl⟩ := some_if h
      exact ⟨_, _, _, rfl, rfl, by assumption, .inl ⟨_, _, rfl, by assumption, c, rfl⟩⟩
    · obtain ⟨c, rfl⟩ := some_if h
      exact ⟨_, _, _, rfl, rfl, by assumption, .inr ⟨_, by assumption, c, rfl⟩⟩
    · cases h
  · cases h
theorem s_dset {pos' : Pos} (hu : X.A.units + 1 < cLine) (ha : PE X a (tE X.K ea)) (hb : PE X b (tE X.K eb)) (hc : PE X c (tE X.K ec)) (hs : swapsWith c (some (.Subscript a b pos')) pos.line X.env = pure false) :
    PS X (.Assign [.Subscript a b pos'] c pos) (tS X.K fun L S => okOr (ec L S) fun (z, S1) => okOr (ea L S1) fun (x, S2) => okOr (eb L S2) fun (y, S3) => okOr (dsetR x y z S3) fun S4 => some (.nx, L, S4)) := by
  refine PS.weak (ps_dput hu ha hb hc hs) fun Dn σ H h => ?_
  obtain ⟨F, G, ρ, S, L, f, L', S', s, l, e, q⟩ := h
  obtain ⟨⟨z, S1⟩, e1, e⟩ := okOr_some e
  obtain ⟨⟨x, S2⟩, e2, e⟩ := okOr_some e
  obtain ⟨⟨y, S3⟩, e3, e⟩ := okOr_some e
  obtain ⟨S4, e4, e⟩ := okOr_some e
  obtain ⟨rfl, rfl, rfl⟩ := fl_eq e
  obtain ⟨n, k, kd, rfl, rfl, hk, hcase⟩ := dsetR_some e4
  refine ⟨F, G, ρ, S, L, _, S1, s, l, e1, fun G1 ρ1 H1 v1 g1 p1 s1 q1 => ⟨F, G1, ρ1, S1, L, _, S2, s1, lok_mono g1 p1 l, e2, fun G2 ρ2 H2 v2 g2 p2 s2 q2 =>
    ⟨F, G2, ρ2, S2, L, _, S3, s2, lok_mono (g1.trans g2) (p1.trans p2) l, e3, fun G3 ρ3 H3 v3 g3 p3 s3 q3 => ?_⟩⟩⟩
  obtain ⟨p, ep, rfl⟩ := q2
  have ev3 : v3 = kV k := keyD_of (H := H3) (.inl q3) hk
  rcases hcase with ⟨ks, d, rfl, hs, hz, rfl⟩ | ⟨ks, hs, hz, rfl⟩
  · obtain ⟨o, ho, kvs, rfl, hkd⟩ := s3.obj n _ p hs (pre_get p3 ep)
    refine ⟨p, upd H3 p (.dK (putK kvs k v1)), rfl, by rw [ev3]; exact DPut.k ho (by rw [kd_len hkd]; exact hz), ?_⟩
    refine q G3 ρ3 _ σ (g1.trans (g2.trans g3)) (p1.trans (p2.trans p3)) (s3.set (pre_get p3 ep) ⟨_, rfl, kd_put ?_ hkd⟩ ho) (lok_mono (g1.trans (g2.trans g3)) (p1.trans (p2.trans p3)) l)
    exact dv_mono (g2.trans g3) _ _ q1
  · obtain ⟨o, ho, kvs, rfl, hkd⟩ := s3.obj n _ p hs (pre_get p3 ep)
    refine ⟨p, upd H3 p (.dK (putK kvs k v1)), rfl, by rw [ev3]; exact DPut.k ho (by rw [kr_len hkd]; exact hz), ?_⟩
    refine q G3 ρ3 _ σ (g1.trans (g2.trans g3)) (p1.trans (p2.trans p3)) (s3.set (pre_get p3 ep) ⟨_, rfl, kr_put ?_ hkd⟩ ho) (lok_mono (g1.trans (g2.trans g3)) (p1.trans (p2.trans p3)) l)
    exact rv_mono (g2.trans g3) (p2.trans p3) q1
/-! ### several names -/
theorem pgs_names : ∀ {is : List Nat} {es : List Expr}, (List.length is = es.length) → (∀ p ∈ is.zip es, PG X p.2 (gName p.1) ∧ ∀ e q, p.2 ≠ .Starred e q) → PGs X es (gNames is)
  | [], [], _, _ => pgs_nil
  | [], _ :: _, h, _ => by simp at h
  | _ :: _, [], h, _ => by simp at h
  | i :: is, e :: es, h, hp => by
    have h0 := hp (i, e) (by simp)
    refine pgs_cons h0.1 (pgs_names (by simpa using h) fun p hm => hp p (by simp [hm])) ?_
    cases e <;> first | rfl | exact absurd rfl (h0.2 _ _)
theorem each_len : ∀ {es : List Expr} {env : Env}, (∀ e ∈ es, ∀ e' q, e ≠ .Starred e' q) → (assignEach es env).length = es.length ∧ (assignEach es env).findIdx? (·.1) = none
  | [], _, _ => ⟨rfl, rfl⟩
  | e :: es, env, h => by
    have ih := each_len (env := env) fun e' he' => h e' (List.mem_cons_of_mem _ he')
    have h0 := h e List.mem_cons_self
    have e1 : assignEach (e :: es) env = (false, assign e env) :: assignEach es env := by
      cases e <;> first | rfl | exact absurd rfl (h0 _ _)
    rw [e1]
    refine ⟨by rw [List.length_cons, List.length_cons, ih.1], ?_⟩
    rw [List.findIdx?_cons, ih.2]; rfl
theorem setAll_ok {K : PySem.W.Frag} {G : Hp} {ρ : List Addr} {H : Hp} : ∀ {is : List Nat} {rs : List R} {vs : List V} {L L' : Loc} {σ : L2.St} {Q : L2.St → Hp → Prop}, RVs K G ρ rs vs → setAll is rs L = some L' → LOk K G ρ L σ → (∀ σ', LOk K G ρ L' σ' → Q σ' H) → gNames is vs σ H Q
  | [], rs, vs, L, L', σ, Q, hv, e, l, q => by
    cases hv with
    | nil => cases e; exact ⟨rfl, q σ l⟩
    | cons _ _ => cases e
  | i :: is, rs, vs, L, L', σ, Q, hv, e, l, q => by
    cases hv with
    | nil => cases e
    | cons h t => exact ⟨_, _, rfl, setAll_ok t e (lok_set l i h) q⟩
theorem setAll_len : ∀ {is : List Nat} {rs : List R} {L L' : Loc}, setAll is rs L = some L' → rs.length = is.length
  | [], [], _, _, _ => rfl
  | [], _ :: _, _, _, h => by cases h
  | _ :: _, [], _, _, h => by cases h
  | i :: is, r :: rs, L, L', h => congrArg Nat.succ (setAll_len (is := is) (rs := rs) h)
theorem bindIx_len : ∀ {is : List Nat} {rs : List D} {L L' : Loc}, bindIx is rs L = some L' → rs.length = is.length
  | [], [], _, _, _ => rfl
  | [], _ :: _, _, _, h => by cases h
  | _ :: _, [], _, _, h => by cases h
  | i :: is, r :: rs, L, L', h => congrArg Nat.succ (bindIx_len (is := is) (rs := rs) h)
/-- a tuple's display stored in names, by way of the tuple -/
theorem s_parC {is : List Nat} {ts es : List Expr} {eas : Evs} {k k2 : Nat} {tp ep : Pos} (hc : X.calm = true) (hz : List.length is ≤ sizeLine) (hl : List.length is = ts.length) (hp : ∀ p ∈ is.zip ts, PG X p.2 (gName p.1) ∧ ∀ e q, p.2 ≠ .Starred e q) (ha : PA X es (tA X.K eas))
    (hw : swappedStores [.Tuple ts k tp] (.Tuple es k2 ep) X.env = pure none) :
    PS X (.Assign [.Tuple ts k tp] (.Tuple es k2 ep) pos) (tS X.K fun L S => okOr (eas L S) fun (rs, S1) => okOr (setAll is rs L) fun L' => some (.nx, L', S1)) := by
  have hts : ∀ e ∈ ts, ∀ e' q, e ≠ .Starred e' q := fun e he => by
    obtain ⟨n, hn, rfl⟩ := List.getElem_of_mem he
    have hn' : n < is.length := by rw [hl]; exact hn
    have hz : n < (is.zip ts).length := by rw [List.length_zip]; omega
    have := (hp (is.zip ts)[n] (List.getElem_mem hz)).2
    rw [List.getElem_zip] at this
    exact this
  have el := each_len (env := X.env) hts
  refine PS.weak (ps_asg (pe_tup ha) (pg_tup (n := is.length) hc (pgs_names hl hp) (by rw [el.1, hl]) el.2) rfl hw rfl) fun Dn σ H h => ?_
  obtain ⟨F, G, ρ, S, L, f, L', S', s, l, e, q⟩ := h
  obtain ⟨⟨rs, S1⟩, e1, e⟩ := okOr_some e
  obtain ⟨L1, e2, e⟩ := okOr_some e
  obtain ⟨rfl, rfl, rfl⟩ := fl_eq e
  refine ⟨F, G, ρ, S, L, rs, S1, s, l, e1, fun G1 ρ1 H1 vs g1 p1 s1 q1 => ?_⟩
  have hlen : vs.length = is.length := by rw [← rvs_len q1]; exact setAll_len e2
  refine ⟨by rw [hlen]; exact hz, fun p hp => ?_⟩
  obtain ⟨s2, g2⟩ := s1.fix (o := .tup vs) hp
  refine ⟨p, vs, rfl, .of upd_same, hlen, ?_⟩
  refine setAll_ok (G := upd G1 p (.tup vs)) (rvs_mono g2 (List.prefix_refl _) q1) e2 (lok_mono (g1.trans g2) p1 l) fun σ' l' => q _ ρ1 _ σ' (g1.trans g2) p1 s2 l'
theorem s_unp {is : List Nat} {ts : List Expr} {k : Nat} {tp : Pos} (hc : X.calm = true) (hl : List.length is = ts.length) (hp : ∀ p ∈ is.zip ts, PG X p.2 (gName p.1) ∧ ∀ e q, p.2 ≠ .Starred e q) (ha : PE X a (tE X.K ea))
    (hs : swapsWithSole [.Tuple ts k tp] a pos.line X.env = pure false) (hw : swappedStores [.Tuple ts k tp] a X.env = pure none) :
    PS X (.Assign [.Tuple ts k tp] a pos) (tS X.K fun L S => okOr (ea L S) fun (x, S1) => match x with
    | .d (.tuple ds) => okOr (bindIx is ds L) fun L' => some (.nx, L', S1)
    | _ => none) := by
  have hts : ∀ e ∈ ts, ∀ e' q, e ≠ .Starred e' q := fun e he => by
    obtain ⟨n, hn, rfl⟩ := List.getElem_of_mem he
    have hn' : n < is.length := by rw [hl]; exact hn
    have hz : n < (is.zip ts).length := by rw [List.length_zip]; omega
    have := (hp (is.zip ts)[n] (List.getElem_mem hz)).2
    rw [List.getElem_zip] at this
    exact this
  have el := each_len (env := X.env) hts
  refine PS.weak (ps_asg ha (pg_tup (n := is.length) hc (pgs_names hl hp) (by rw [el.1, hl]) el.2) hs hw rfl) fun Dn σ H h => ?_
  obtain ⟨F, G, ρ, S, L, f, L', S', s, l, e, q⟩ := h
  obtain ⟨⟨x, S1⟩, e1, e⟩ := okOr_some e
  dsimp only at e
  split at e
  · obtain ⟨L1, e2, e⟩ := okOr_some e
    obtain ⟨rfl, rfl, rfl⟩ := fl_eq e
    refine ⟨F, G, ρ, S, L, _, S1, s, l, e1, fun G1 ρ1 H1 v1 g1 p1 s1 q1 => ?_⟩
    cases q1 with
    | tup h1 h2 =>
      exact ⟨_, _, rfl, Same.sqt s1.subG h1, by rw [dvs_len h2]; exact bindIx_len e2, names_ok (own := is) h2 e2 (fun i hi => hi) (lok_mono g1 p1 l) fun σ' l' _ => q G1 ρ1 _ σ' g1 p1 s1 l'⟩
  · cases e
/-- two names, two values, stored from the right -/
theorem s_par2 {i j : Nat} {x y : Str} {px py pt : Pos} {kt k2 pt2} {eas : Evs} (hc : X.calm = true) (hN : X.N.Nodup) (hi : X.N[i]? = some x) (hj : X.N[j]? = some y) (hij : i ≠ j) (hx : X.env.scope.names.lookup x = some .local) (hy : X.env.scope.names.lookup y = some .local)
    (ha : PA X [a, b] (tA X.K eas)) (hw : swappedStores [.Tuple [.Name x px, .Name y py] kt pt] (.Tuple [a, b] k2 pt2) X.env = pure (some [x, y])) :
    PS X (.Assign [.Tuple [.Name x px, .Name y py] kt pt] (.Tuple [a, b] k2 pt2) pos) (tS X.K fun L S => okOr (eas L S) fun (rs, S1) => okOr (setAll [i, j] rs L) fun L' => some (.nx, L', S1)) := by
  refine PS.weak (ps_par hc hN hi hj hij hx hy ha hw) fun Dn σ H h => ?_
  obtain ⟨F, G, ρ, S, L, f, L', S', s, l, e, q⟩ := h
  obtain ⟨⟨rs, S1⟩, e1, e⟩ := okOr_some e
  obtain ⟨L1, e2, e⟩ := okOr_some e
  obtain ⟨rfl, rfl, rfl⟩ := fl_eq e
  refine ⟨F, G, ρ, S, L, rs, S1, s, l, e1, fun G1 ρ1 H1 vs g1 p1 s1 q1 => ?_⟩
  cases q1 with
  | nil => cases e2
  | cons h t =>
    cases t with
    | nil => cases e2
    | cons h' t' =>
      cases t' with
      | cons _ _ => cases e2
      | nil =>
        cases e2
        exact ⟨_, _, rfl, q G1 ρ1 _ _ g1 p1 s1 (lok_set (lok_set (lok_mono g1 p1 l) i h) j h')⟩
/-- three names, three values -/
def tPar3 (i j k : Nat) (ta : TA) : TS := fun D σ H => ta σ H fun vs H1 => ∃ v w z, vs = [v, w, z] ∧ D.nx (((σ.set i (some v)).set j (some w)).set k (some z)) H1
theorem ps_par3 {i j k : Nat} {x y z : Str} {ta : TA} {px py pz pt : Pos} {kt k2 pt2} (hc : X.calm = true) (hN : X.N.Nodup) (hi : X.N[i]? = some x) (hj : X.N[j]? = some y) (hk : X.N[k]? = some z) (hij : i ≠ j) (hik : i ≠ k) (hjk : j ≠ k)
    (hx : X.env.scope.names.lookup x = some .local) (hy : X.env.scope.names.lookup y = some .local) (hz : X.env.scope.names.lookup z = some .local) (ha : PA X [a, b, c] ta)
    (hw : swappedStores [.Tuple [.Name x px, .Name y py, .Name z pz] kt pt] (.Tuple [a, b, c] k2 pt2) X.env = pure (some [x, y, z])) :
    PS X (.Assign [.Tuple [.Name x px, .Name y py, .Name z pz] kt pt] (.Tuple [a, b, c] k2 pt2) pos) (tPar3 i j k ta) := by
  refine ⟨fun pins s0 σ H Dn I h => ?_⟩
  rw [exec_Assign_arm]
  refine wpAny_bind (wpAny_standAt ?_)
  rw [show swapsWithSole [.Tuple [.Name x px, .Name y py, .Name z pz] kt pt] (.Tuple [a, b, c] k2 pt2) pos.line X.env = pure false from rfl]
  refine wpAny_bind (wpAny_pure ?_)
  rw [if_neg (by decide)]
  refine wpAny_bind (Tuple_ (thn (ha.run _ pins s0 σ H _ I h) fun us s1 ⟨vs, H1, I1, r1, q1⟩ => ?_))
  obtain ⟨v, w, u, e1, q1⟩ := q1
  subst e1
  obtain ⟨u1, u2, u3, rfl, rv, rw', ru⟩ : ∃ u1 u2 u3, us = [u1, u2, u3] ∧ RelV v u1 ∧ RelV w u2 ∧ RelV u u3 := by
    cases r1 with
    | cons p q => cases q with
      | cons p' q' => cases q' with
        | cons p'' q'' => cases q''; exact ⟨_, _, _, rfl, p, p', p''⟩
  refine wpAny_newObj_type ?_ (by show 3 ≤ sizeLine; decide)
  have I2 : L2.Inv X pins σ H1 { s1 with heap := s1.heap.push { cls := .type "tuple", data := .seq [u1, u2, u3].toArray } } := I1.kept (t' := s1.toks) fun _ _ e => Heap.get?_push_of_some _ e
  rw [hw]
  refine wpAny_bind (wpAny_pure ?_)
  show wpAny (model X.prog X.w) X.A (do
    rule "assign.swapped-stores"
    let items ← unpackItems (.ref s1.heap.objs.size) 3 none
    assignInOrder [fun v => bindName X.env z v, fun v => bindName X.env y v, fun v => bindName X.env x v] items.reverse
    pure Flow.next) _ _ _
  refine wpAny_bind (wpAny_rule (wpAny_bind (unpackItems_tuple (items := #[u1, u2, u3]) (I.ok.hd hc) (IsTup.new s1.heap _) fun h' hx' => ?_)))
  have I3 := I2.kept (h' := h') (t' := s1.toks) fun b o e => hx' b o (Nat.ne_of_lt (Heap.lt_size e)) e
  show wpAny _ _ (assignInOrder [fun v => bindName X.env z v, fun v => bindName X.env y v, fun v => bindName X.env x v] [u3, u2, u1] >>= fun _ => pure Flow.next) _ _ _
  refine wpAny_bind (assignInOrder_cons (wpAny_bindName (store_ok I3 hN hk (.inl hz) ru (fun s2 I4 => ?_) (.inr hz))))
  refine assignInOrder_cons (wpAny_bindName (store_ok I4 hN hj (.inl hy) rw' (fun s3 I5 => ?_) (.inr hy)))
  refine assignInOrder_cons (wpAny_bindName (store_ok I5 hN hi (.inl hx) rv (fun s4 I6 => assignInOrder_nil (wpAny_pure ?_)) (.inr hx)))
  have e6 : (((σ.set k (some u)).set j (some w)).set i (some v)) = (((σ.set i (some v)).set j (some w)).set k (some u)) := by
    rw [List.set_comm _ _ (Ne.symm hij), List.set_comm (some u) (some v) (Ne.symm hik), List.set_comm (some u) (some w) (Ne.symm hjk)]
  rw [e6] at I6
  exact ⟨_, H1, I6, q1⟩
theorem s_par3 {i j k : Nat} {x y z : Str} {px py pz pt : Pos} {kt k2 pt2} {eas : Evs} (hc : X.calm = true) (hN : X.N.Nodup) (hi : X.N[i]? = some x) (hj : X.N[j]? = some y) (hk : X.N[k]? = some z) (hij : i ≠ j) (hik : i ≠ k) (hjk : j ≠ k)
    (hx : X.env.scope.names.lookup x = some .local) (hy : X.env.scope.names.lookup y = some .local) (hz : X.env.scope.names.lookup z = some .local) (ha : PA X [a, b, c] (tA X.K eas))
    (hw : swappedStores [.Tuple [.Name x px, .Name y py, .Name z pz] kt pt] (.Tuple [a, b, c] k2 pt2) X.env = pure (some [x, y, z])) :
    PS X (.Assign [.Tuple [.Name x px, .Name y py, .Name z pz] kt pt] (.Tuple [a, b, c] k2 pt2) pos) (tS X.K fun L S => okOr (eas L S) fun (rs, S1) => okOr (setAll [i, j, k] rs L) fun L' => some (.nx, L', S1)) := by
  refine PS.weak (ps_par3 hc hN hi hj hk hij hik hjk hx hy hz ha hw) fun Dn σ H h => ?_
  obtain ⟨F, G, ρ, S, L, f, L', S', s, l, e, q⟩ := h
  obtain ⟨⟨rs, S1⟩, e1, e⟩ := okOr_some e
  obtain ⟨L1, e2, e⟩ := okOr_some e
  obtain ⟨rfl, rfl, rfl⟩ := fl_eq e
  refine ⟨F, G, ρ, S, L, rs, S1, s, l, e1, fun G1 ρ1 H1 vs g1 p1 s1 q1 => ?_⟩
  cases q1 with
  | nil => cases e2
  | cons h t =>
    cases t with
    | nil => cases e2
    | cons h' t' =>
      cases t' with
      | nil => cases e2
      | cons h'' t'' =>
        cases t'' with
        | cons _ _ => cases e2
        | nil =>
          cases e2
          exact ⟨_, _, _, rfl, q G1 ρ1 _ _ g1 p1 s1 (lok_set (lok_set (lok_set (lok_mono g1 p1 l) i h) j h') k h'')⟩
/-! ### for -/
abbrev evFor (tg : Tg) (ei : EvI) (u : EvS) : EvS := fun L S => okOr (ei L S) fun (ds, lk, S1) => guardB (lockB lk S1) (forM' lk (fun d L S => okOr (bindT tg d L) fun L' => u L' S) ds L S1)
theorem s_for {tgt iter : Expr} {body : List Stmt} {tg : Tg} {ei : EvI} (hp : PassesOwn (model X.prog X.w) X.A X.env X.xe) (hc : X.calm = true) (hi : PI X tgt iter (tI X.K ei)) (hg : PG X tgt (gT X.K tg)) (hb : PSs X body (tS X.K u)) (hs : ∀ x, foldedSetIterable iter X.env x = pure x) :
    PS X (.For tgt iter body [] pos) (tS X.K (evFor tg ei u)) := by
  refine PS.weak (ps_for hp hc hi hg hb hs) fun Dn σ H h => ?_
  obtain ⟨F, G, ρ, S, L, f, Lf, Sf, s, l, e, q⟩ := h
  obtain ⟨⟨ds, lk, S1⟩, e1, e⟩ := okOr_some e
  obtain ⟨hlk, e⟩ := guardB_some e
  refine ⟨F, G, ρ, S, L, ds, lk, S1, s, l, e1, hlk, fun J G1 ρ1 H1 g1 p1 s1 feed => ?_⟩
  let W : Nat → Nat → L2.St → Hp → Prop := fun i m σ H => m = ds.length - i ∧ i ≤ ds.length ∧ ∃ G' ρ' S' L', Same G1 G' ∧ ρ1 <+: ρ' ∧ SOk X.K F G' ρ' S' H ∧ LOk X.K G' ρ' L' σ ∧ lockB lk S' = true ∧ forM' lk (fun d L S => okOr (bindT tg d L) fun L' => u L' S) (ds.drop i) L' S' = some (f, Lf, Sf)
  refine ⟨W, ⟨ds.length, by simp, Nat.zero_le _, G1, ρ1, S1, L, Same.refl _, List.prefix_refl _, s1, lok_mono g1 p1 l, hlk, e⟩, ?_⟩
  rintro i m σ2 H2 ⟨rfl, hi, G', ρ', S', L', g2, p2, s2, l2, hk, hl⟩
  by_cases hlt : i < ds.length
  · refine .inr ⟨feed.go _ G' ρ' S' H2 i ds[i] (Same.refl _) g2 p2 s2 hk (List.getElem?_eq_getElem hlt), W (i + 1) (ds.length - (i + 1)), fun σ' H' w => ⟨_, by omega, w⟩, fun x H3 hy => ?_⟩
    obtain ⟨G3, g3, s3, hx⟩ := feed.yld _ G' ρ' S' H2 i ds[i] x H3 (Same.refl _) g2 p2 s2 hk (List.getElem?_eq_getElem hlt) hy
    rw [List.drop_eq_getElem_cons hlt] at hl
    simp only [forM'] at hl
    cases ht : okOr (bindT tg ds[i] L') fun L' => u L' S' with
    | none => rw [ht] at hl; cases hl
    | some res =>
      obtain ⟨f1, L1, S3⟩ := res
      rw [ht] at hl
      obtain ⟨L'', eb, ht⟩ := okOr_some ht
      refine tg_ok (own := tg.ixs) s3 hx eb (fun i hi => hi) (lok_mono g3 (List.prefix_refl _) l2) fun σ3 l3 _ => ?_
      refine ⟨F, G3, ρ', S', L'', f1, L1, S3, s3, l3, ht, ?_⟩
      have gall := g1.trans (g2.trans g3)
      have pall := p1.trans p2
      cases f1 with
      | rt r => obtain ⟨rfl, rfl, rfl⟩ := fl_eq hl; exact q.mono gall pall
      | bk =>
        obtain ⟨rfl, rfl, rfl⟩ := fl_eq hl
        exact fun G4 ρ4 H4 σ4 g4 p4 s4 l4 => q G4 ρ4 H4 σ4 (gall.trans g4) (pall.trans p4) s4 l4
      | nx =>
        dsimp only at hl
        by_cases hk3 : lockB lk S3 = true
        · rw [if_pos hk3] at hl
          exact fun G4 ρ4 H4 σ4 g4 p4 s4 l4 => ⟨rfl, hlt, G4, ρ4, S3, L1, g2.trans (g3.trans g4), p2.trans p4, s4, l4, hk3, hl⟩
        · rw [if_neg hk3] at hl; cases hl
      | ct =>
        dsimp only at hl
        by_cases hk3 : lockB lk S3 = true
        · rw [if_pos hk3] at hl
          exact fun G4 ρ4 H4 σ4 g4 p4 s4 l4 => ⟨rfl, hlt, G4, ρ4, S3, L1, g2.trans (g3.trans g4), p2.trans p4, s4, l4, hk3, hl⟩
        · rw [if_neg hk3] at hl; cases hl
  · have hi' : i = ds.length := by omega
    subst hi'
    refine .inl ⟨feed.stop _ G' ρ' S' H2 _ (Same.refl _) g2 p2 s2 hk (Nat.le_refl _), ?_⟩
    rw [List.drop_length] at hl
    obtain ⟨rfl, rfl, rfl⟩ := fl_eq hl
    exact q G' ρ' H2 σ2 (g1.trans g2) (p1.trans p2) s2 l2
/-! ### while a dict is walked -/
abbrev evLockE (ea ev : Ev) : Ev := fun L S => okOr (ea L S) fun (x, _) => okOr (lockD x S) fun (n, S0) => okOr (ev L S0) fun (r, S4) => okOr (unlockD n S4) fun S5 => some (r, S5)
abbrev evLockS (ea : Ev) (ev : EvS) : EvS := fun L S => okOr (ea L S) fun (x, _) => okOr (lockD x S) fun (n, S0) => okOr (ev L S0) fun (f, L', S4) => okOr (unlockD n S4) fun S5 => some (f, L', S5)
theorem SOk.unheld {K : PySem.W.Frag} {F G : Hp} {ρ : List Addr} {S : Sto} {H : Hp} (s : SOk K F G ρ S H) {p : Addr} {o : HO} (hm : p ∈ ρ) (h : H p = some o) (hz : isFrz o = false := by rfl) : F p = none := by
  cases hq : F p with
  | none => rfl
  | some o' =>
    have h1 := s.subF p o' hq
    rw [h] at h1
    cases h1
    rw [(s.out p hm).2 _ hq] at hz
    cases hz
theorem lockE_read {K : PySem.W.Frag} {ea ev : Ev} {σ : L2.St} {H : Hp} {Q : VK} (h : tE K (evLockE ea ev) σ H Q) : tLockE (tE K ev) σ H Q := by
  obtain ⟨F, G, ρ, S, L, r, S', s, l, e, q⟩ := h
  obtain ⟨⟨x, S1⟩, _, e⟩ := okOr_some e
  obtain ⟨⟨n, S0⟩, e2, e⟩ := okOr_some e
  obtain ⟨⟨r', S4⟩, e3, e⟩ := okOr_some e
  obtain ⟨S5, e4, e⟩ := okOr_some e
  obtain ⟨rfl, rfl⟩ := res_eq e
  obtain ⟨ks, rfl, hs, rfl⟩ := lockD_some e2
  have hn : n < ρ.length := by rw [s.len]; exact (List.getElem?_eq_some_iff.mp hs).1
  have hp : ρ[n]? = some ρ[n] := List.getElem?_eq_getElem hn
  obtain ⟨o, ho, kvs, rfl, hk⟩ := s.obj n _ _ hs hp
  have hF := s.unheld (List.getElem_mem hn) ho
  refine ⟨ρ[n], .dK kvs, ho, trivial, fun od => ⟨_, G, ρ, _, L, r', S4, s.lock hs hp ho hk od, l, e3, fun G' ρ' H' v g pp s' rv => ?_⟩⟩
  obtain ⟨ks', hs4, rfl⟩ := unlockD_some e4
  exact ⟨s'.subF _ _ upd_same, q G' ρ' _ v g pp (s'.unlock hF hs4 (pre_get pp hp)) rv⟩
theorem lockS_read {K : PySem.W.Frag} {ea : Ev} {ev : EvS} {Dn : Ends} {σ : L2.St} {H : Hp} (h : tS K (evLockS ea ev) Dn σ H) : tLock (tS K ev) Dn σ H := by
  obtain ⟨F, G, ρ, S, L, f, L', S', s, l, e, q⟩ := h
  obtain ⟨⟨x, S1⟩, _, e⟩ := okOr_some e
  obtain ⟨⟨n, S0⟩, e2, e⟩ := okOr_some e
  obtain ⟨⟨f', L4, S4⟩, e3, e⟩ := okOr_some e
  obtain ⟨S5, e4, e⟩ := okOr_some e
  obtain ⟨rfl, rfl, rfl⟩ := fl_eq e
  obtain ⟨ks, rfl, hs, rfl⟩ := lockD_some e2
  have hn : n < ρ.length := by rw [s.len]; exact (List.getElem?_eq_some_iff.mp hs).1
  have hp : ρ[n]? = some ρ[n] := List.getElem?_eq_getElem hn
  obtain ⟨o, ho, kvs, rfl, hk⟩ := s.obj n _ _ hs hp
  have hF := s.unheld (List.getElem_mem hn) ho
  refine ⟨ρ[n], .dK kvs, ho, trivial, fun od => ⟨_, G, ρ, _, L, f', L4, S4, s.lock hs hp ho hk od, l, e3, ?_⟩⟩
  obtain ⟨ks', hs4, rfl⟩ := unlockD_some e4
  cases f' with
  | nx => exact fun G' ρ' H' σ' g pp s' l' => ⟨s'.subF _ _ upd_same, q G' ρ' _ σ' g pp (s'.unlock hF hs4 (pre_get pp hp)) l'⟩
  | bk => exact fun G' ρ' H' σ' g pp s' l' => ⟨s'.subF _ _ upd_same, q G' ρ' _ σ' g pp (s'.unlock hF hs4 (pre_get pp hp)) l'⟩
  | ct => exact fun G' ρ' H' σ' g pp s' l' => ⟨s'.subF _ _ upd_same, q G' ρ' _ σ' g pp (s'.unlock hF hs4 (pre_get pp hp)) l'⟩
  | rt r => exact fun G' ρ' H' v g pp s' rv => ⟨s'.subF _ _ upd_same, q G' ρ' _ v g pp (s'.unlock hF hs4 (pre_get pp hp)) rv⟩
end
end PL
end
section
set_option maxHeartbeats 4000000
namespace PL
open PySem PySem.Spec PyProof.Rows L2
structure Tab where
  fns : List Fn
  gl : List (Str × D)
  gd : List (Str × List (Str × D))
def freeNames : List Str := ["len", "all", "any", "tuple", "list", "int", "isinstance", "bool", "str", "range", "zip", "enumerate", "repr", "sorted", "set", "dict"]
/-- a def's promise, where no guard is under way -/
structure FnG (P : Program) (w : World) (K : PySem.W.Frag) (mg : Str → Option Value) (base : Heap) (k : Nat) (f : Addr) (fd : FuncData) (ps : List Str) (cl : Prim) : Prop where
  run : ∀ (A : Around) (outer : List PySem.Env) (s : Shared) (H : Hp) (args : Args) (us : List Value) (vs : List V) (Q : VK), Room k A → A.guards = some [] → Env0 P w K mg base A outer s H → BindsTo s fd args (ps.zip us) → Vals vs us → vs.length = ps.length → tP K cl vs H Q →
    codeAny (model P w) A (.call (.ref f) args) (CR CX0 outer P w H s Q E0) s
  kw : ∀ x, ps = [x] → ∀ (s : Shared) (u : Value), BindsTo s fd ⟨[], [(x, u)]⟩ [(x, u)]
def tabEq : List (Str × D) → List (Str × D) → Bool
  | [], [] => true
  | p :: r, q :: t => decide (p.1 = q.1) && dEq p.2 q.2 && tabEq r t
  | _, _ => false
theorem tabEq_eq : ∀ (a b : List (Str × D)), tabEq a b = true → a = b
  | [], [], _ => rfl
  | [], _ :: _, h => by simp [tabEq] at h
  | _ :: _, [], h => by simp [tabEq] at h
  | (x, u) :: r, (y, v) :: t, h => by
    simp only [tabEq, Bool.and_eq_true, decide_eq_true_eq] at h
    obtain ⟨⟨rfl, h2⟩, h3⟩ := h
    rw [dEq_eq u v h2, tabEq_eq r t h3]
structure Good (T : Tab) (cl : Cl) (n : Nat) (X : Cx) : Prop where
  calm : X.calm = true
  nd : X.N.Nodup
  gd : X.A.guards = some []
  room : Room n X.A
  free : ∀ x ∈ freeNames, X.mg x = none
  glob : ∀ p ∈ T.gl, ∃ u v, X.mg p.1 = some u ∧ RelV v u ∧ ∀ G, DV X.K G v p.2
  gdict : ∀ p ∈ T.gd, ∃ addr, X.mg p.1 = some (.ref addr) ∧ KTab X.K X.w addr p.2
  fn : ∀ f d, T.fns[f]? = some d → ∃ addr fd ps, X.mg d.name = some (.ref addr) ∧ PySem.W.keepIn X.K (.ref addr) = true ∧ Binds X.K fd ps [] ∧ (ps.length = d.np ∧ ps = d.names.take d.np) ∧ FnG X.prog X.w X.K X.mg X.base n addr fd ps (cl f)
  len : ∀ f d rs S r, T.fns[f]? = some d → cl f rs S = some r → rs.length = d.np
theorem Good.blk {T : Tab} {cl : Cl} {n : Nat} {X : Cx} (g : Good T cl n X) (s : Shared) (H : Hp) (scope : Scope) (ce : PySem.Env) (fp : List Addr) : Good T cl n (X.blk s H scope ce fp) :=
  ⟨g.calm, g.nd, g.gd, g.room, g.free, g.glob, g.gdict, g.fn, g.len⟩
theorem Good.un {T : Tab} {cl : Cl} {n : Nat} {X : Cx} (g : Good T cl n X) : X.A.units + 64 < cLine := g.room.units
theorem Good.un1 {T : Tab} {cl : Cl} {n : Nat} {X : Cx} (g : Good T cl n X) : X.A.units + 1 < cLine := hu_of g.room
/-! ### the check -/
def visB (sc : Scope) (x : Str) : Bool := match sc.names.lookup x with
  | some .local => true
  | some .cell => true
  | some .free => true
  | _ => false
def glB (sc : Scope) (x : Str) : Bool := match sc.names.lookup x with
  | some .globalImplicit => !(x == ("__debug__" : Str))
  | _ => false
def nameB (N : List Str) (sc : Scope) (i : Nat) (x : Str) : Bool := decide (N[i]? = some x) && visB sc x && !(x == ("__debug__" : Str)) && !(x == ("__classdict__" : Str))
/-- a name that is stored -/
def storeB (N : List Str) (sc : Scope) (fnb : Str → Bool) (i : Nat) (x : Str) : Bool := decide (N[i]? = some x) && (match sc.names.lookup x with
  | some .local => true
  | some .cell => fnb x
  | _ => false)
def storesB (N : List Str) (sc : Scope) (fnb : Str → Bool) : List Nat → List Expr → Bool
  | [], [] => true
  | i :: is, .Name x _ :: es => storeB N sc fnb i x && storesB N sc fnb is es
  | _, _ => false
def tgB (N : List Str) (sc : Scope) (fnb : Str → Bool) : Tg → Expr → Bool
  | .one i, .Name x _ => storeB N sc fnb i x
  | .tup is, .Tuple es _ _ => storesB N sc fnb is es
  | _, _ => false
def notSuper : Expr → Bool
  | .Call (.Name x _) [] [] _ => !(x == ("super" : Str))
  | _ => true
def isTup : Expr → Bool
  | .Tuple _ _ _ => true
  | _ => false
def keysB : List Str → List (Option Expr) → Bool
  | [], [] => true
  | k :: ks, some (.Constant (.str x) _ _) :: es => decide (k = x) && keysB ks es
  | _, _ => false
mutual
def ckE (T : Tab) (N : List Str) (sc : Scope) : E → Expr → Bool
  | .loc i, .Name x _ => nameB N sc i x
  | .int i, .Constant (.int j) _ _ => decide (i = j)
  | .str x, .Constant (.str y) _ _ => decide (x = y)
  | .bl b, .Constant (.bool c) _ _ => decide (b = c)
  | .non, .Constant .none _ _ => true
  | .gd x d, .Name y _ => decide (x = y) && glB sc y && (T.gl.any fun p => decide (p.1 = y) && dEq p.2 d)
  | .bin op a b, .BinOp l o r _ => decide (op = o) && ckE T N sc a l && ckE T N sc b r
  | .cmp op a b, .Compare l [o] [r] _ => decide (op = o) && ckE T N sc a l && ckE T N sc b r && !behindInMarks o r
  | .cmp2 o p a b c, .Compare x [o', p'] [y, z] _ => decide (o = o') && decide (p = p') && ckE T N sc a x && ckE T N sc b y && ckE T N sc c z && !lastMarks [o', p'] [y, z]
  | .bop k a r, .BoolOp .And (x :: xs) _ => k && ckE T N sc a x && ckEs T N sc r xs
  | .bop k a r, .BoolOp .Or (x :: xs) _ => !k && ckE T N sc a x && ckEs T N sc r xs
  | .not a, .UnaryOp .Not x _ => ckE T N sc a x
  | .neg a, .UnaryOp .USub x _ => ckE T N sc a x
  | .ite c a b, .IfExp x y z _ => ckE T N sc c x && ckE T N sc a y && ckE T N sc b z
  | .tup es, .Tuple xs _ _ => ckEs T N sc es xs
  | .lst es, .List xs _ => ckEs T N sc es xs
  | .lstR es, .List xs _ => ckEs T N sc es xs
  | .dic0, .Dict [] [] _ => true
  | .dic ks es, .Dict keys vals _ => keysB ks keys && ckEs T N sc es vals && decide (keys.length = vals.length) && decide (keys.length ≤ 15) && decide (0 < keys.length)
  | .ix a i, .Subscript x y _ => ckE T N sc a x && ckE T N sc i y
  | .sl a lo hi, .Subscript x (.Slice l h none _) _ => ckE T N sc a x && ckO T N sc lo l && ckO T N sc hi h
  | .bi b a, .Call (.Name x _) [y] [] _ => decide (x = b.name) && glB sc x && ckE T N sc a y
  | .isi t a, .Call (.Name x _) [y, .Name z _] [] _ => decide (x = ("isinstance" : Str)) && glB sc x && decide (z = t.nm) && glB sc z && ckE T N sc a y
  | .call f es, .Call (.Name x _) xs [] _ => (match T.fns[f]? with
      | some d => decide (d.name = x)
      | none => false) && glB sc x && ckEs T N sc es xs
  | .comp own tg it cs e, .ListComp elt [⟨t, i, ifs, z⟩] scope _ => decide (z = 0) && blkC N sc scope (own.map fun i => (N.getD i Str.empty, i)) && (tg.ixs.all fun i => own.contains i) && tgB N (relS scope sc) (fun x => scope.names.lookup x == some .cell) tg t && ckI T N sc it i t && ckEs T N (relS scope sc) cs ifs && ckE T N (relS scope sc) e elt
  | .compd own tg d cs e, .ListComp elt [⟨t, i, ifs, z⟩] scope _ => decide (z = 0) && blkC N sc scope (own.map fun i => (N.getD i Str.empty, i)) && (tg.ixs.all fun i => own.contains i) && tgB N (relS scope sc) (fun x => scope.names.lookup x == some .cell) tg t && ckE T N sc d i && ckEs T N (relS scope sc) cs ifs && ckE T N (relS scope sc) e elt
  | .compR own tg it cs e, .ListComp elt [⟨t, i, ifs, z⟩] scope _ => decide (z = 0) && blkC N sc scope (own.map fun i => (N.getD i Str.empty, i)) && (tg.ixs.all fun i => own.contains i) && tgB N (relS scope sc) (fun x => scope.names.lookup x == some .cell) tg t && ckI T N sc it i t && ckEs T N (relS scope sc) cs ifs && ckE T N (relS scope sc) e elt
  | .get2 d k e, .Call (.Attribute o m apos) [x, y] [] pos => decide (m = ("get" : Str)) && (apos.endLine == pos.line) && notSuper o && ckE T N sc d o && ckE T N sc k x && ckE T N sc e y
  | .app a e, .Call (.Attribute o m apos) [x] [] pos => decide (m = ("append" : Str)) && (apos.endLine == pos.line) && notSuper o && ckE T N sc a o && ckE T N sc e x
  | .ext a e, .Call (.Attribute o m apos) [x] [] pos => decide (m = ("extend" : Str)) && (apos.endLine == pos.line) && notSuper o && ckE T N sc a o && ckE T N sc e x
  | .join a e, .Call (.Attribute o m apos) [x] [] pos => decide (m = ("join" : Str)) && (apos.endLine == pos.line) && notSuper o && ckE T N sc a o && ckE T N sc e x
  | .gget2 x tab k e, .Call (.Attribute (.Name y _) m apos) [z, z2] [] pos => decide (m = ("get" : Str)) && decide (x = y) && (apos.endLine == pos.line) && glB sc y && (T.gd.any fun p => decide (p.1 = y) && tabEq p.2 tab) && ckE T N sc k z && ckE T N sc e z2
  | .gget x tab k, .Call (.Attribute (.Name y _) m apos) [z] [] pos => decide (m = ("get" : Str)) && decide (x = y) && (apos.endLine == pos.line) && glB sc y && (T.gd.any fun p => decide (p.1 = y) && tabEq p.2 tab) && ckE T N sc k z
  | .sset a, .Call (.Name x _) [.Call (.Name y _) [z] [] _] [] _ => decide (x = ("sorted" : Str)) && glB sc x && decide (y = ("set" : Str)) && glB sc y && ckE T N sc a z
  | .gix x tab k, .Subscript (.Name y _) z _ => decide (x = y) && glB sc y && (T.gd.any fun p => decide (p.1 = y) && tabEq p.2 tab) && ckE T N sc k z
  | .gin neg x tab k, .Compare z [o] [.Name y _] _ => decide (o = inOp neg) && decide (x = y) && glB sc y && (T.gd.any fun p => decide (p.1 = y) && tabEq p.2 tab) && ckE T N sc k z
  | .upd a e, .Call (.Attribute o m apos) [x] [] pos => decide (m = ("update" : Str)) && (apos.endLine == pos.line) && notSuper o && ckE T N sc a o && ckE T N sc e x
  | .tupS ks es, .Tuple xs _ _ => ckSt T N sc es ks xs
  | .dlist a, .Call (.Name x _) [z] [] _ => decide (x = ("dict" : Str)) && glB sc x && ckE T N sc a z
  | .deq0 a, .Compare l [o] [.Dict [] [] _] _ => decide (o = .Eq) && ckE T N sc a l
  | .dcopy a, .Call (.Name x _) [z] [] _ => decide (x = ("dict" : Str)) && glB sc x && ckE T N sc a z
  | .reprL es, .Call (.Name x _) [.List xs _] [] _ => decide (x = ("repr" : Str)) && glB sc x && ckEs T N sc es xs
  | .rev a, .Subscript y (.Slice none none (some (.UnaryOp .USub (.Constant (.int 1) _ _) _)) _) _ => ckE T N sc a y
  | .sortd a, .Call (.Name x _) [y] [] _ => decide (x = ("sorted" : Str)) && glB sc x && ckE T N sc a y
  | .callK f x e, .Call (.Name y _) [] [⟨some z, v, _⟩] _ => (match T.fns[f]? with
      | some d => decide (d.name = y) && decide (d.names.take d.np = [z])
      | none => false) && glB sc y && decide (x = z) && ckE T N sc e v
  | _, _ => false
def ckEs (T : Tab) (N : List Str) (sc : Scope) : Es → List Expr → Bool
  | .nil, [] => true
  | .cons e es, x :: xs => ckE T N sc e x && ckEs T N sc es xs
  | _, _ => false
def ckSt (T : Tab) (N : List Str) (sc : Scope) : Es → List Bool → List Expr → Bool
  | .nil, [], [] => true
  | .cons e es, true :: ks, .Starred x _ :: xs => ckE T N sc e x && ckSt T N sc es ks xs
  | .cons e es, false :: ks, x :: xs => ckE T N sc e x && ckSt T N sc es ks xs
  | _, _, _ => false
def ckO (T : Tab) (N : List Str) (sc : Scope) : O → Option Expr → Bool
  | .no, none => true
  | .so e, some x => ckE T N sc e x
  | _, _ => false
def ckI (T : Tab) (N : List Str) (sc : Scope) : It' → Expr → Expr → Bool
  | .seq e, x, _ => ckE T N sc e x
  | .rng e, .Call (.Name x _) [y] [] _, _ => decide (x = ("range" : Str)) && glB sc x && ckE T N sc e y
  | .zip a b, .Call (.Name x _) [y, z] [] _, t => decide (x = ("zip" : Str)) && glB sc x && ckE T N sc a y && ckE T N sc b z && isTup t
  | .rng2 a b, .Call (.Name x _) [y, z] [] _, _ => decide (x = ("range" : Str)) && glB sc x && ckE T N sc a y && ckE T N sc b z
  | .enm a, .Call (.Name x _) [y] [] _, t => decide (x = ("enumerate" : Str)) && glB sc x && ckE T N sc a y && isTup t
  | _, _, _ => false
end
theorem ck_star {T : Tab} {N : List Str} {sc : Scope} {e : E} {x : Expr} (h : ckE T N sc e x = true) : ∀ y p, x ≠ .Starred y p := fun y p z => by
  subst z; cases e <;> simp [ckE] at h
theorem ck_slice {T : Tab} {N : List Str} {sc : Scope} {e : E} {x : Expr} (h : ckE T N sc e x = true) : PlainIx x := by
  intro o i
  cases x <;> first | rfl | (cases e <;> simp [ckE] at h)
theorem ck_set {T : Tab} {N : List Str} {sc : Scope} {e : E} {x : Expr} (h : ckE T N sc e x = true) {env : PySem.Env} : ∀ v, foldedSetIterable x env v = pure v := by
  intro v
  cases x <;> first | rfl | (cases e <;> simp [ckE] at h)
theorem vis_ok {sc : Scope} {x : Str} (h : visB sc x = true) : Vis sc x := by
  unfold visB at h
  split at h
  · exact .inl (by assumption)
  · exact .inr (.inl (by assumption))
  · exact .inr (.inr (by assumption))
  · cases h
theorem gl_ok {X : Cx} {x : Str} (h : glB X.env.scope x = true) : Gl X x ∧ (x == ("__debug__" : Str)) = false := by
  unfold glB at h
  split at h
  · rename_i e
    exact ⟨e, by simpa using h⟩
  · cases h
theorem store_ok' {X : Cx} {fnb : Str → Bool} (hf : ∀ x, fnb x = true → X.fn x = true) (hN : X.N.Nodup) {i : Nat} {x : Str} {pos : Pos} (h : storeB X.N X.env.scope fnb i x = true) : PG X (.Name x pos) (gName i) := by
  unfold storeB at h
  rw [Bool.and_eq_true] at h
  obtain ⟨h1, h2⟩ := h
  have h1 := of_decide_eq_true h1
  split at h2
  · exact pg_name hN h1 (.inl (by assumption)) (.inr (by assumption))
  · exact pg_name hN h1 (.inr (by assumption)) (.inl (hf x h2))
  · cases h2
theorem stores_ok {X : Cx} {fnb : Str → Bool} (hf : ∀ x, fnb x = true → X.fn x = true) (hN : X.N.Nodup) : ∀ {is : List Nat} {es : List Expr}, storesB X.N X.env.scope fnb is es = true → is.length = es.length ∧ ∀ p ∈ is.zip es, PG X p.2 (gName p.1) ∧ ∀ e q, p.2 ≠ .Starred e q
  | [], [], _ => ⟨rfl, fun p hp => by simp at hp⟩
  | [], _ :: _, h => by simp [storesB] at h
  | _ :: _, [], h => by simp [storesB] at h
  | i :: is, e :: es, h => by
    cases e <;> first | (simp [storesB] at h; done) | skip
    rename_i x q
    simp only [storesB, Bool.and_eq_true] at h
    obtain ⟨ih1, ih2⟩ := stores_ok hf hN h.2
    refine ⟨congrArg Nat.succ ih1, fun p hp => ?_⟩
    rcases List.mem_cons.mp (show p ∈ (i, Expr.Name x q) :: is.zip es from hp) with e | hp
    · subst e
      exact ⟨store_ok' hf hN h.1, fun e q z => nomatch z⟩
    · exact ih2 p hp
theorem tgB_ok {X : Cx} {fnb : Str → Bool} (hf : ∀ x, fnb x = true → X.fn x = true) (hN : X.N.Nodup) (hc : X.calm = true) {tg : Tg} {e : Expr} (h : tgB X.N X.env.scope fnb tg e = true) : PG X e (gT X.K tg) := by
  cases tg with
  | one i =>
    cases e <;> first | (simp [tgB] at h; done) | skip
    exact store_ok' hf hN h
  | tup is =>
    cases e <;> first | (simp [tgB] at h; done) | skip
    rename_i elts kk pp
    obtain ⟨h1, h2⟩ := stores_ok hf hN h
    have hts : ∀ e ∈ elts, ∀ e' q, e ≠ Expr.Starred e' q := fun e he => by
      obtain ⟨n, hn, rfl⟩ := List.getElem_of_mem he
      have hn' : n < is.length := by rw [h1]; exact hn
      have hz : n < (is.zip elts).length := by rw [List.length_zip]; exact Nat.lt_min.mpr ⟨hn', hn⟩
      have := (h2 _ (List.getElem_mem hz)).2
      rw [List.getElem_zip] at this
      exact this
    have el := each_len (env := X.env) hts
    exact pg_tup (n := is.length) hc (pgs_names h1 h2) (by rw [el.1, h1]) el.2
theorem super_ok {X : Cx} {o : Expr} {m : Str} (h : notSuper o = true) : attributeBase o m X.env (eval o X.env) = eval o X.env := base_of fun p q z => by
  subst z
  simp [notSuper] at h
/-- a def called by values -/
theorem Good.call {T : Tab} {cl : Cl} {n : Nat} {X : Cx} (g : Good T cl n X) {f : Nat} {d : Fn} (hf : T.fns[f]? = some d) : ∃ addr, X.mg d.name = some (.ref addr) ∧ PySem.W.keepIn X.K (.ref addr) = true ∧
    ∀ (pins : List (Addr × Obj)) (s : Shared) (σ : L2.St) (H : Hp) (us : List Value) (vs : List V) (Q : VK), L2.Inv X pins σ H s → Vals vs us → tP X.K (cl f) vs H Q → wpAny (model X.prog X.w) X.A (PySem.call (.ref addr) us) (EP X pins σ Q) X.xe s := by
  obtain ⟨addr, fd, ps, h1, h2, h3, h4, h5⟩ := g.fn f d hf
  refine ⟨addr, h1, h2, fun pins s σ H us vs Q I r h => ?_⟩
  have hl : vs.length = ps.length := by
    obtain ⟨F, G, ρ, S, rs, r', S', s', q, e, _⟩ := h
    rw [← rvs_len q, h4.1]; exact g.len f d rs S _ hf e
  have hlu : (us ++ []).length = ps.length := by rw [List.append_nil, ← r.length]; exact hl
  have hb := h3 s us I.kIn hlu
  rw [List.append_nil] at hb
  refine wpAny_call (codeAny_mono (h5.run X.A X.stack s H ⟨us, []⟩ us vs Q g.room g.gd I.env0 hb r hl h) fun res s' hq => ?_)
  cases res with
  | error e => exact (show False from hq).elim
  | ok fl =>
    cases fl with
    | ret u => exact I.after hq
    | next => exact False.elim hq
    | brk => exact False.elim hq
    | cont => exact False.elim hq
theorem any_back {env : PySem.Env} {pos : Pos} : ∀ (l : List Expr), (∀ e ∈ l, ∀ y q, e ≠ .Starred y q) → (backTo pos (starEach l env)).any (·.1) = false
  | [], _ => rfl
  | x :: xs, h => by
    rw [star1 (h x List.mem_cons_self)]
    show (false || (backTo pos (starEach xs env)).any (·.1)) = false
    rw [any_back xs fun e he => h e (List.mem_cons_of_mem _ he)]
    rfl
theorem e_call0 {T : Tab} {cl : Cl} {n : Nat} {X : Cx} (g : Good T cl n X) {f : Nat} {d : Fn} (hf : T.fns[f]? = some d) {p pos : Pos} (hg : Gl X d.name) (hdb : (d.name == ("__debug__" : Str)) = false) :
    PE X (.Call (.Name d.name p) [] [] pos) (tE X.K fun L S => okOr (some (([] : List R), S)) fun (rs, S1) => cl f rs S1) := by
  obtain ⟨addr, h1, h2, h3⟩ := g.call hf
  refine ⟨fun pins s σ H Q I h => ?_⟩
  refine wpAny_Call_Name_kw (ld_glob I hg h1 ?_ hdb)
  obtain ⟨F, G, ρ, S, L, r, S', s', l, e, q⟩ := h
  exact PySem.W.callWith_K0 I.kIn h2 (h3 pins s σ H [] [] Q I .nil ⟨F, G, ρ, S, [], r, S', s', .nil, e, q⟩)
theorem e_call {T : Tab} {cl : Cl} {n : Nat} {X : Cx} (g : Good T cl n X) {f : Nat} {d : Fn} (hf : T.fns[f]? = some d) {p pos : Pos} {e : Expr} {es : List Expr} {eas : Evs} (hg : Gl X d.name) (hdb : (d.name == ("__debug__" : Str)) = false) (ha : PA X (e :: es) (tA X.K eas))
    (hst : ∀ x ∈ e :: es, ∀ y q, x ≠ .Starred y q) : PE X (.Call (.Name d.name p) (e :: es) [] pos) (tE X.K fun L S => okOr (eas L S) fun (rs, S1) => cl f rs S1) := by
  obtain ⟨addr, h1, h2, h3⟩ := g.call hf
  have fin : ∀ {σ : L2.St} {H : Hp} {Q : VK}, tE X.K (fun L S => okOr (eas L S) fun (rs, S1) => cl f rs S1) σ H Q → tA X.K eas σ H fun vs H1 => tP X.K (cl f) vs H1 Q := fun {σ H Q} h => by
    obtain ⟨F, G, ρ, S, L, r, S', s, l, e, q⟩ := h
    obtain ⟨⟨rs, S1⟩, e1, e⟩ := okOr_some e
    exact ⟨F, G, ρ, S, L, rs, S1, s, l, e1, fun G1 ρ1 H1 vs g1 p1 s1 q1 => ⟨F, G1, ρ1, S1, rs, r, S', s1, q1, e, q.mono g1 p1⟩⟩
  refine ⟨fun pins s σ H Q I h => ?_⟩
  refine wpAny_Call_Name_kw (ld_glob I hg h1 ?_ hdb)
  refine PySem.W.callWith_K (h₀ := X.base) I.ok.mod.kin h2 (thn (ha.run pos pins s σ H _ I (fin h)) fun us s1 ⟨vs, H1, I1, r, q⟩ => ⟨I1.kIn, ?_⟩) (star1 (hst e List.mem_cons_self) es) (any_back es fun x hx => hst x (List.mem_cons_of_mem _ hx))
  exact h3 pins s1 σ H1 us vs Q I1 r q
/-- a def of one parameter, called by its name -/
theorem e_callK {T : Tab} {cl : Cl} {n : Nat} {X : Cx} (g : Good T cl n X) {f : Nat} {d : Fn} (hf : T.fns[f]? = some d) {p pos kpos : Pos} {z : Str} {e : Expr} {ea : Ev} (hg : Gl X d.name) (hdb : (d.name == ("__debug__" : Str)) = false) (hz : d.names.take d.np = [z]) (ha : PE X e (tE X.K ea)) :
    PE X (.Call (.Name d.name p) [] [⟨some z, e, kpos⟩] pos) (tE X.K fun L S => okOr (ea L S) fun (x, S1) => cl f [x] S1) := by
  obtain ⟨addr, fd, ps, h1, h2, h3, h4, h5⟩ := g.fn f d hf
  refine ⟨fun pins s σ H Q I h => ?_⟩
  refine wpAny_Call_Name_kw (ld_glob I hg h1 ?_ hdb)
  have h' : ea = ea := rfl
  refine PySem.W.callWith_KW0 (h₀ := X.base) I.ok.mod.kin h2 rfl ?_ rfl
  obtain ⟨F, G, ρ, S, L, r, S', s', l, ev, q⟩ := h
  obtain ⟨⟨x, S1⟩, e1, ev⟩ := okOr_some ev
  have hl := g.len f d [x] S1 _ hf ev
  have ht : tCons (tE X.K ea) tNil σ H fun vs H1 => ∃ v, vs = [v] ∧ tP X.K (cl f) [v] H1 Q :=
    ⟨F, G, ρ, S, L, x, S1, s', l, e1, fun G1 ρ1 H1 v1 g1 p1 s1 q1 => ⟨v1, rfl, F, G1, ρ1, S1, [x], r, S', s1, .cons q1 .nil, ev, q.mono g1 p1⟩⟩
  refine thn ((pk_cons (nm := some z) (kpos := kpos) ha pk_nil).run pos pins s σ H _ I ht) fun ws s2 ⟨zs, H2, I2, rz, v, ev', q2⟩ => ⟨I2.kIn, ?_⟩
  subst ev'
  obtain ⟨u, rfl, ru⟩ := vals1 rz
  have hp : ps = [z] := h4.2.trans hz
  refine wpAny_call (codeAny_mono (h5.run X.A X.stack s2 H2 ⟨[], [(z, u)]⟩ [u] [v] Q g.room g.gd I2.env0 (by rw [hp]; exact h5.kw z hp s2 u) (.cons ru .nil) (by rw [hp]; rfl) q2) fun res s' hq => ?_)
  cases res with
  | error e => exact (show False from hq).elim
  | ok fl =>
    cases fl <;> first | exact I2.after hq | exact False.elim hq
end PL
end
section
set_option maxHeartbeats 8000000
namespace PL
open PySem PySem.Spec PyProof.Rows L2
theorem band {a b : Bool} (h : (a && b) = true) : a = true ∧ b = true := Bool.and_eq_true_iff.mp h
theorem keys_ok {X : Cx} {pos : Pos} : ∀ {ks : List Str} {keys : List (Option Expr)} {vals : List Expr} {evs : List Ev}, keysB ks keys = true → keys.length = vals.length → List.length evs = vals.length → (∀ p ∈ vals.zip evs, PE X p.1 (tE X.K p.2)) →
    PPs X pos keys vals ((ks.zip evs).map fun p => pairE (X := X) p.1 p.2) ∧ keys.all (·.isSome) = true ∧ ks.length = keys.length
  | [], [], vals, evs, _, h1, h2, _ => by
    cases vals with
    | cons _ _ => simp at h1
    | nil => cases evs with
      | cons _ _ => simp at h2
      | nil => exact ⟨pps_nil, rfl, rfl⟩
  | [], _ :: _, _, _, h, _, _, _ => by simp [keysB] at h
  | _ :: _, [], _, _, h, _, _, _ => by simp [keysB] at h
  | k :: ks, none :: keys, vals, evs, h, _, _, _ => by simp [keysB] at h
  | k :: ks, some x :: keys, vals, evs, h, h1, h2, h3 => by
    cases x <;> first | (simp [keysB] at h; done) | skip
    rename_i c j p
    cases c <;> first | (simp [keysB] at h; done) | skip
    rename_i y
    simp only [keysB, Bool.and_eq_true, decide_eq_true_eq] at h
    obtain ⟨rfl, h⟩ := h
    cases vals with
    | nil => simp at h1
    | cons v vals =>
      cases evs with
      | nil => simp at h2
      | cons ev evs =>
        obtain ⟨a1, a2, a3⟩ := keys_ok (pos := pos) (ks := ks) (keys := keys) (vals := vals) (evs := evs) h (by simpa using h1) (by simpa using h2) fun p hp => h3 p (List.mem_cons_of_mem _ hp)
        exact ⟨pps_cons pe_str (h3 (v, ev) List.mem_cons_self) a1, by rw [List.all_cons, a2]; rfl, congrArg Nat.succ a3⟩
/-- the evaluations of a list's parts -/
def evL (cl : Cl) : Es → List Ev
  | .nil => []
  | .cons e es => evE cl e :: evL cl es
theorem evL_fold (cl : Cl) : ∀ es : Es, ((evL cl es).foldr (fun (e : Ev) (k : Evs) => fun L S => okOr (e L S) fun (x, S1) => okOr (k L S1) fun (xs, S2) => some (x :: xs, S2)) (fun _ S => some ([], S))) = evEs cl es
  | .nil => rfl
  | .cons e es => by
    rw [evL, List.foldr_cons, evL_fold cl es]
    rfl
theorem inv_comp {own : List Nat} {N : List Str} {sc scope : Scope} (h : blkC N sc scope (own.map fun i => (N.getD i Str.empty, i)) = true) : BlkOk N sc scope (own.map fun i => (N.getD i Str.empty, i)) ∧ (own.map fun i => (N.getD i Str.empty, i)).map (·.2) = own := by
  refine ⟨blkOk_by h, ?_⟩
  rw [List.map_map]
  exact (List.map_congr_left fun i _ => rfl).trans (List.map_id own)
section
variable {T : Tab} {cl : Cl} {n : Nat}
mutual
theorem sE : ∀ (e : E) (X : Cx) (x : Expr), Good T cl n X → ckE T X.N X.env.scope e x = true → PE X x (tE X.K (evE cl e)) ∧ PT X x (tT X.K (tstE (evE cl e)))
  | .loc i, X, x, g, h => by
    cases x <;> first | (simp [ckE] at h; done) | skip
    simp only [ckE, nameB, Bool.and_eq_true, decide_eq_true_eq, Bool.not_eq_true'] at h
    have hp := e_loc (pos := by assumption) h.1.1.1 (vis_ok h.1.1.2) h.1.2 h.2
    exact ⟨hp, p_val hp fun _ => rfl⟩
  | .int i, X, x, g, h => by
    cases x <;> first | (simp [ckE] at h; done) | skip
    rename_i c k p
    cases c <;> first | (simp [ckE] at h; done) | skip
    simp only [ckE, decide_eq_true_eq] at h
    subst h
    have hp := e_const (pe_int (X := X) (i := i) (j := k) (pos := p)) (d := .int i) fun _ => .int i
    exact ⟨hp, p_val hp fun _ => rfl⟩
  | .str i, X, x, g, h => by
    cases x <;> first | (simp [ckE] at h; done) | skip
    rename_i c k p
    cases c <;> first | (simp [ckE] at h; done) | skip
    simp only [ckE, decide_eq_true_eq] at h
    subst h
    have hp := e_const (pe_str (X := X) (x := i) (j := k) (pos := p)) (d := .str i) fun _ => .str i
    exact ⟨hp, p_val hp fun _ => rfl⟩
  | .bl i, X, x, g, h => by
    cases x <;> first | (simp [ckE] at h; done) | skip
    rename_i c k p
    cases c <;> first | (simp [ckE] at h; done) | skip
    simp only [ckE, decide_eq_true_eq] at h
    subst h
    have hp := e_const (pe_bl (X := X) (b := i) (j := k) (pos := p)) (d := .bool i) fun _ => .bl i
    exact ⟨hp, p_val hp fun _ => rfl⟩
  | .non, X, x, g, h => by
    cases x <;> first | (simp [ckE] at h; done) | skip
    rename_i c k p
    cases c <;> first | (simp [ckE] at h; done) | skip
    have hp := e_const (pe_non (X := X) (j := k) (pos := p)) (d := .none) fun _ => .non
    exact ⟨hp, p_val hp fun _ => rfl⟩
  | .gd y d, X, x, g, h => by
    cases x <;> first | (simp [ckE] at h; done) | skip
    rename_i z p
    simp only [ckE, Bool.and_eq_true, decide_eq_true_eq, List.any_eq_true] at h
    obtain ⟨⟨rfl, h2⟩, q, hq, e1, e2⟩ := h
    obtain ⟨hg, hd⟩ := gl_ok h2
    obtain ⟨u, v, h3, h4, h5⟩ := g.glob q hq
    rw [e1] at h3
    rw [dEq_eq _ _ e2] at h5
    have hp := e_const (pe_glob (pos := p) hg h3 h4 hd) h5
    exact ⟨hp, p_val hp fun _ => rfl⟩
  | .bin op a b, X, x, g, h => by
    cases x <;> first | (simp [ckE] at h; done) | skip
    simp only [ckE, Bool.and_eq_true, decide_eq_true_eq] at h
    obtain ⟨⟨rfl, h1⟩, h2⟩ := h
    have hp := e_bin (op := op) (pos := by assumption) (sE a X _ g h1).1 (sE b X _ g h2).1
    exact ⟨hp, p_val hp fun _ => rfl⟩
  | .cmp op a b, X, x, g, h => by
    cases x <;> first | (simp [ckE] at h; done) | skip
    rename_i l ops cs p
    match ops, cs, h with
    | [o], [r], h =>
      simp only [ckE, Bool.and_eq_true, decide_eq_true_eq, Bool.not_eq_true'] at h
      obtain ⟨⟨⟨rfl, h1⟩, h2⟩, h3⟩ := h
      exact ⟨e_cmp g.un (sE a X _ g h1).1 (sE b X _ g h2).1 h3, p_cmp g.un (sE a X _ g h1).1 (sE b X _ g h2).1 h3⟩
  | .cmp2 o p a b c, X, x, g, h => by
    cases x <;> first | (simp [ckE] at h; done) | skip
    rename_i l ops cs pp
    match ops, cs, h with
    | [o', p'], [y, z], h =>
      simp only [ckE, Bool.and_eq_true, decide_eq_true_eq, Bool.not_eq_true'] at h
      obtain ⟨⟨⟨⟨⟨rfl, rfl⟩, h1⟩, h2⟩, h3⟩, h4⟩ := h
      exact ⟨e_cmp2 g.un (sE a X _ g h1).1 (sE b X _ g h2).1 (sE c X _ g h3).1 h4, p_cmp2 g.un (sE a X _ g h1).1 (sE b X _ g h2).1 (sE c X _ g h3).1 h4⟩
  | .bop k a r, X, x, g, h => by
    cases x <;> first | (simp [ckE] at h; done) | skip
    rename_i op xs p
    match op, xs, h with
    | .And, y :: ys, h =>
      simp only [ckE, Bool.and_eq_true] at h
      obtain ⟨⟨rfl, h1⟩, h2⟩ := h
      have ha := sE a X _ g h1
      have hb := sAnd r X y ys p (evE cl a) g ha.1 ha.2 h2
      exact ⟨hb.1, hb.2.pt⟩
    | .Or, y :: ys, h =>
      simp only [ckE, Bool.and_eq_true, Bool.not_eq_true'] at h
      obtain ⟨⟨rfl, h1⟩, h2⟩ := h
      have ha := sE a X _ g h1
      have hb := sOr r X y ys p (evE cl a) g ha.1 ha.2 h2
      exact ⟨hb.1, hb.2.pt⟩
  | .not a, X, x, g, h => by
    cases x <;> first | (simp [ckE] at h; done) | skip
    rename_i op y p
    cases op <;> first | (simp [ckE] at h; done) | skip
    simp only [ckE] at h
    exact ⟨e_not (sE a X _ g h).1, p_not (sE a X _ g h).2⟩
  | .neg a, X, x, g, h => by
    cases x <;> first | (simp [ckE] at h; done) | skip
    rename_i op y p
    cases op <;> first | (simp [ckE] at h; done) | skip
    simp only [ckE] at h
    have hp := e_neg (pos := p) (sE a X _ g h).1
    exact ⟨hp, p_val hp fun _ => rfl⟩
  | .ite c a b, X, x, g, h => by
    cases x <;> first | (simp [ckE] at h; done) | skip
    simp only [ckE, Bool.and_eq_true] at h
    obtain ⟨⟨h1, h2⟩, h3⟩ := h
    exact ⟨e_ite (sE c X _ g h1).2 (sE a X _ g h2).1 (sE b X _ g h3).1, p_ite (sE c X _ g h1).2 (sE a X _ g h2).2 (sE b X _ g h3).2⟩
  | .tup es, X, x, g, h => by
    cases x <;> first | (simp [ckE] at h; done) | skip
    simp only [ckE] at h
    rename_i k p
    have hp := e_tup (k := k) (pos := p) (sEs es X _ g h).1
    exact ⟨hp, p_val hp fun _ => rfl⟩
  | .lst es, X, x, g, h => by
    cases x <;> first | (simp [ckE] at h; done) | skip
    simp only [ckE] at h
    rename_i p
    have hp := e_lst (pos := p) (sEs es X _ g h).1
    exact ⟨hp, p_val hp fun _ => rfl⟩
  | .lstR es, X, x, g, h => by
    cases x <;> first | (simp [ckE] at h; done) | skip
    simp only [ckE] at h
    rename_i p
    have hp := e_lstR (pos := p) (sEs es X _ g h).1
    exact ⟨hp, p_val hp fun _ => rfl⟩
  | .dic0, X, x, g, h => by
    cases x <;> first | (simp [ckE] at h; done) | skip
    rename_i ks vs p
    match ks, vs, h with
    | [], [], h =>
      have hp := e_dic0 (X := X) (pos := p)
      exact ⟨hp, p_val hp fun _ => rfl⟩
  | .dic ks es, X, x, g, h => by
    cases x <;> first | (simp [ckE] at h; done) | skip
    rename_i keys vals p
    simp only [ckE, Bool.and_eq_true, decide_eq_true_eq] at h
    obtain ⟨⟨⟨⟨h1, h2⟩, h3⟩, h4⟩, h5⟩ := h
    obtain ⟨q1, q2⟩ := sL es X vals g h2
    obtain ⟨k1, k2, k3⟩ := keys_ok (pos := p) h1 h3 q1 q2
    have hp := e_dic k1 k2 h3 (by intro z; subst z; simp at h5) h4 (by rw [k3, h3, q1])
    rw [evL_fold] at hp
    exact ⟨hp, p_val hp fun _ => rfl⟩
  | .ix a i, X, x, g, h => by
    cases x <;> first | (simp [ckE] at h; done) | skip
    rename_i y z p
    simp only [ckE, Bool.and_eq_true] at h
    have hp := e_ix (pos := p) g.un1 (sE a X _ g h.1).1 (sE i X _ g h.2).1 (ck_slice h.2)
    exact ⟨hp, p_val hp fun _ => rfl⟩
  | .sl a lo hi, X, x, g, h => by
    cases x <;> first | (simp [ckE] at h; done) | skip
    rename_i y z p
    cases z <;> first | (simp [ckE] at h; done) | skip
    rename_i l hh st p2
    cases st with
    | some _ => simp [ckE] at h
    | none =>
      simp only [ckE, Bool.and_eq_true] at h
      have hp := e_sl (pos := p) (p2 := p2) (sE a X _ g h.1.1).1 (sO lo X _ g h.1.2) (sO hi X _ g h.2)
      exact ⟨hp, p_val hp fun _ => rfl⟩
  | .bi b a, X, x, g, h => by
    cases x <;> first | (simp [ckE] at h; done) | skip
    rename_i fe args kws p
    cases fe <;> first | (simp [ckE] at h; done) | skip
    rename_i nm p2
    match args, kws, h with
    | [y], [], h =>
      simp only [ckE, Bool.and_eq_true, decide_eq_true_eq] at h
      obtain ⟨⟨rfl, h2⟩, h3⟩ := h
      have hm : X.mg b.name = none := g.free _ (by cases b <;> simp [freeNames, Bi.name])
      have hp := e_bi (pos := p) b g.calm g.gd g.un (p := p2) (gl_ok h2).1 hm (sE a X _ g h3).1 (ck_star h3)
      exact ⟨hp, p_val hp fun _ => rfl⟩
  | .isi t a, X, x, g, h => by
    cases x <;> first | (simp [ckE] at h; done) | skip
    rename_i fe args kws p
    cases fe <;> first | (simp [ckE] at h; done) | skip
    rename_i nm p2
    match args, kws, h with
    | [y, .Name z p3], [], h =>
      simp only [ckE, Bool.and_eq_true, decide_eq_true_eq] at h
      obtain ⟨⟨⟨⟨rfl, h2⟩, rfl⟩, h3⟩, h4⟩ := h
      have hp := e_isi (pos := p) t (p := p2) (p2 := p3) (gl_ok h2).1 (g.free _ (by simp [freeNames])) (gl_ok h3).1 (g.free _ (by cases t <;> simp [freeNames, Ty.nm, Ty.name])) (sE a X _ g h4).1 (ck_star h4)
      exact ⟨hp, p_val hp fun _ => rfl⟩
  | .call f es, X, x, g, h => by
    cases x <;> first | (simp [ckE] at h; done) | skip
    rename_i fe args kws p
    cases fe <;> first | (simp [ckE] at h; done) | skip
    rename_i nm p2
    cases kws with
    | cons _ _ => simp [ckE] at h
    | nil =>
      simp only [ckE, Bool.and_eq_true] at h
      obtain ⟨⟨h1, h2⟩, h3⟩ := h
      cases hf : T.fns[f]? with
      | none => rw [hf] at h1; cases h1
      | some d =>
        rw [hf] at h1
        have hn : d.name = nm := of_decide_eq_true h1
        subst hn
        obtain ⟨q1, q2⟩ := sEs es X args g h3
        obtain ⟨hg, hd⟩ := gl_ok h2
        cases args with
        | nil =>
          cases es with
          | cons _ _ => simp [ckEs] at h3
          | nil =>
            have hp := e_call0 (pos := p) (p := p2) g hf hg hd
            exact ⟨hp, p_val hp fun _ => rfl⟩
        | cons y ys =>
          have hp := e_call (pos := p) (p := p2) g hf hg hd q1 q2
          exact ⟨hp, p_val hp fun _ => rfl⟩
  | .comp own tg it cs e, X, x, g, h => by
    cases x <;> first | (simp [ckE] at h; done) | skip
    rename_i elt gens scope p
    match gens, h with
    | [⟨t, i, ifs, z⟩], h =>
      simp only [ckE, Bool.and_eq_true, decide_eq_true_eq] at h
      obtain ⟨⟨⟨⟨⟨⟨rfl, h1⟩, h2⟩, h3⟩, h4⟩, h5⟩, h6⟩ := h
      obtain ⟨b1, b2⟩ := inv_comp h1
      obtain ⟨i1, i2⟩ := sI it X i t g h4
      have hp := pe_lc (pos := p) (g := gT X.K tg) (tt := tT X.K (evT cl cs)) (te := tE X.K (evE cl e)) g.calm g.nd i1 b1
        (fun s H C c2 fp => tgB_ok (X := X.blk s H scope (compEnvC scope c2 C X.env) fp) (fun _ hx => hx) g.nd g.calm h3)
        (fun s H C c2 fp => sT cs (X.blk s H scope (compEnvC scope c2 C X.env) fp) ifs (g.blk s H scope _ fp) h5)
        (fun s H C c2 fp => (sE e (X.blk s H scope (compEnvC scope c2 C X.env) fp) elt (g.blk s H scope _ fp) h6).1) i2
      rw [b2] at hp
      have hq := PE.weak hp fun σ H Q hh => lc_read (fin := finD) (fun j hj => by simpa using List.all_eq_true.mp h2 j hj) fin_d hh
      exact ⟨hq, p_val hq fun _ => rfl⟩
  | .compd own tg d cs e, X, x, g, h => by
    cases x <;> first | (simp [ckE] at h; done) | skip
    rename_i elt gens scope p
    match gens, h with
    | [⟨t, i, ifs, z⟩], h =>
      simp only [ckE, Bool.and_eq_true, decide_eq_true_eq] at h
      obtain ⟨⟨⟨⟨⟨⟨rfl, h1⟩, h2⟩, h3⟩, h4⟩, h5⟩, h6⟩ := h
      obtain ⟨b1, b2⟩ := inv_comp h1
      have i1 := i_keys (tg := t) (sE d X i g h4).1
      have i2 := ck_set (env := X.env) h4
      have hp := pe_lc (pos := p) (g := gT X.K tg) (tt := tT X.K (evT cl cs)) (te := tE X.K (evE cl e)) g.calm g.nd i1 b1
        (fun s H C c2 fp => tgB_ok (X := X.blk s H scope (compEnvC scope c2 C X.env) fp) (fun _ hx => hx) g.nd g.calm h3)
        (fun s H C c2 fp => sT cs (X.blk s H scope (compEnvC scope c2 C X.env) fp) ifs (g.blk s H scope _ fp) h5)
        (fun s H C c2 fp => (sE e (X.blk s H scope (compEnvC scope c2 C X.env) fp) elt (g.blk s H scope _ fp) h6).1) i2
      rw [b2] at hp
      have hq := PE.weak (pe_lock (PE.weak hp fun σ H Q hh => lc_read (fin := finD) (fun j hj => by simpa using List.all_eq_true.mp h2 j hj) fin_d hh)) fun σ H Q hh => lockE_read (ea := evE cl d) hh
      exact ⟨hq, p_val hq fun _ => rfl⟩
  | .compR own tg it cs e, X, x, g, h => by
    cases x <;> first | (simp [ckE] at h; done) | skip
    rename_i elt gens scope p
    match gens, h with
    | [⟨t, i, ifs, z⟩], h =>
      simp only [ckE, Bool.and_eq_true, decide_eq_true_eq] at h
      obtain ⟨⟨⟨⟨⟨⟨rfl, h1⟩, h2⟩, h3⟩, h4⟩, h5⟩, h6⟩ := h
      obtain ⟨b1, b2⟩ := inv_comp h1
      obtain ⟨i1, i2⟩ := sI it X i t g h4
      have hp := pe_lc (pos := p) (g := gT X.K tg) (tt := tT X.K (evT cl cs)) (te := tE X.K (evE cl e)) g.calm g.nd i1 b1
        (fun s H C c2 fp => tgB_ok (X := X.blk s H scope (compEnvC scope c2 C X.env) fp) (fun _ hx => hx) g.nd g.calm h3)
        (fun s H C c2 fp => sT cs (X.blk s H scope (compEnvC scope c2 C X.env) fp) ifs (g.blk s H scope _ fp) h5)
        (fun s H C c2 fp => (sE e (X.blk s H scope (compEnvC scope c2 C X.env) fp) elt (g.blk s H scope _ fp) h6).1) i2
      rw [b2] at hp
      have hq := PE.weak hp fun σ H Q hh => lc_read (fin := finR) (fun j hj => by simpa using List.all_eq_true.mp h2 j hj) fin_r hh
      exact ⟨hq, p_val hq fun _ => rfl⟩
  | .get2 d k e, X, x, g, h => by
    cases x <;> first | (simp [ckE] at h; done) | skip
    rename_i fe args kws p
    cases fe <;> first | (simp [ckE] at h; done) | skip
    rename_i o m ap
    match args, kws, h with
    | [y, z], [], h =>
      simp only [ckE, Bool.and_eq_true, decide_eq_true_eq] at h
      obtain ⟨⟨⟨⟨⟨rfl, h1⟩, h2⟩, h3⟩, h4⟩, h5⟩ := h
      have hp := e_get2 g.un1 (sE d X _ g h3).1 (sE k X _ g h4).1 (sE e X _ g h5).1 (m2_of (super_ok h2) h1 (ck_star h4) (ck_star h5))
      exact ⟨hp, p_val hp fun _ => rfl⟩
  | .app a e, X, x, g, h => by
    cases x <;> first | (simp [ckE] at h; done) | skip
    rename_i fe args kws p
    cases fe <;> first | (simp [ckE] at h; done) | skip
    rename_i o m ap
    match args, kws, h with
    | [y], [], h =>
      simp only [ckE, Bool.and_eq_true, decide_eq_true_eq] at h
      obtain ⟨⟨⟨⟨rfl, h1⟩, h2⟩, h3⟩, h4⟩ := h
      have hp := e_app (sE a X _ g h3).1 (sE e X _ g h4).1 (super_ok h2) h1 (ck_star h4)
      exact ⟨hp, p_val hp fun _ => rfl⟩
  | .ext a e, X, x, g, h => by
    cases x <;> first | (simp [ckE] at h; done) | skip
    rename_i fe args kws p
    cases fe <;> first | (simp [ckE] at h; done) | skip
    rename_i o m ap
    match args, kws, h with
    | [y], [], h =>
      simp only [ckE, Bool.and_eq_true, decide_eq_true_eq] at h
      obtain ⟨⟨⟨⟨rfl, h1⟩, h2⟩, h3⟩, h4⟩ := h
      have hp := e_ext (sE a X _ g h3).1 (sE e X _ g h4).1 (super_ok h2) h1 (ck_star h4)
      exact ⟨hp, p_val hp fun _ => rfl⟩
  | .join a e, X, x, g, h => by
    cases x <;> first | (simp [ckE] at h; done) | skip
    rename_i fe args kws p
    cases fe <;> first | (simp [ckE] at h; done) | skip
    rename_i o m ap
    match args, kws, h with
    | [y], [], h =>
      simp only [ckE, Bool.and_eq_true, decide_eq_true_eq] at h
      obtain ⟨⟨⟨⟨rfl, h1⟩, h2⟩, h3⟩, h4⟩ := h
      have hp := e_join (sE a X _ g h3).1 (sE e X _ g h4).1 (super_ok h2) h1 (ck_star h4)
      exact ⟨hp, p_val hp fun _ => rfl⟩
  | .gget2 y tab k e, X, x, g, h => by
    cases x <;> first | (simp [ckE] at h; done) | skip
    rename_i fe args kws p
    cases fe <;> first | (simp [ckE] at h; done) | skip
    rename_i o m ap
    cases o <;> first | (simp [ckE] at h; done) | skip
    rename_i z p2
    match args, kws, h with
    | [w, w2], [], h =>
      simp only [ckE, Bool.and_eq_true, decide_eq_true_eq, List.any_eq_true] at h
      obtain ⟨⟨⟨⟨⟨⟨rfl, rfl⟩, h1⟩, h2⟩, q, hq, e1, e2⟩, h4⟩, h7⟩ := h
      obtain ⟨hg, hd⟩ := gl_ok h2
      obtain ⟨addr, h5, h6⟩ := g.gdict q hq
      rw [e1] at h5
      rw [tabEq_eq _ _ e2] at h6
      have hp := e_gget2 (pos := p) (p := p2) hg h5 hd h6 (sE k X _ g h4).1 (sE e X _ g h7).1 (m2_of rfl h1 (ck_star h4) (ck_star h7))
      exact ⟨hp, p_val hp fun _ => rfl⟩
  | .gget y tab k, X, x, g, h => by
    cases x <;> first | (simp [ckE] at h; done) | skip
    rename_i fe args kws p
    cases fe <;> first | (simp [ckE] at h; done) | skip
    rename_i o m ap
    cases o <;> first | (simp [ckE] at h; done) | skip
    rename_i z p2
    match args, kws, h with
    | [w], [], h =>
      simp only [ckE, Bool.and_eq_true, decide_eq_true_eq, List.any_eq_true] at h
      obtain ⟨⟨⟨⟨⟨rfl, rfl⟩, h1⟩, h2⟩, q, hq, e1, e2⟩, h4⟩ := h
      obtain ⟨hg, hd⟩ := gl_ok h2
      obtain ⟨addr, h5, h6⟩ := g.gdict q hq
      rw [e1] at h5
      rw [tabEq_eq _ _ e2] at h6
      have hp := e_gget (pos := p) (p := p2) hg h5 hd h6 (sE k X _ g h4).1 (m1_of rfl h1 (ck_star h4))
      exact ⟨hp, p_val hp fun _ => rfl⟩
  | .sset a, X, x, g, h => by
    cases x <;> first | (simp [ckE] at h; done) | skip
    rename_i fe args kws p
    cases fe <;> first | (simp [ckE] at h; done) | skip
    rename_i nm p2
    match args, kws, h with
    | [.Call (.Name y p4) [z] [] p3], [], h =>
      simp only [ckE, Bool.and_eq_true, decide_eq_true_eq] at h
      obtain ⟨⟨⟨⟨rfl, h1⟩, rfl⟩, h2⟩, h3⟩ := h
      have hp := e_sset (pos := p) (p := p2) (p2 := p4) (pos2 := p3) g.calm (gl_ok h1).1 (g.free _ (by simp [freeNames])) (gl_ok h2).1 (g.free _ (by simp [freeNames])) (sE a X _ g h3).1 (ck_star h3)
      exact ⟨hp, p_val hp fun _ => rfl⟩
  | .upd a e, X, x, g, h => by
    cases x <;> first | (simp [ckE] at h; done) | skip
    rename_i fe args kws p
    cases fe <;> first | (simp [ckE] at h; done) | skip
    rename_i o m ap
    match args, kws, h with
    | [y], [], h =>
      simp only [ckE, Bool.and_eq_true, decide_eq_true_eq] at h
      obtain ⟨⟨⟨⟨rfl, h1⟩, h2⟩, h3⟩, h4⟩ := h
      have hp := e_upd (sE a X _ g h3).1 (sE e X _ g h4).1 (super_ok h2) h1 (ck_star h4)
      exact ⟨hp, p_val hp fun _ => rfl⟩
  | .tupS ks es, X, x, g, h => by
    cases x <;> first | (simp [ckE] at h; done) | skip
    simp only [ckE] at h
    rename_i k p
    have hp := e_tup (k := k) (pos := p) (sSt es ks X _ g h)
    exact ⟨hp, p_val hp fun _ => rfl⟩
  | .dlist a, X, x, g, h => by
    cases x <;> first | (simp [ckE] at h; done) | skip
    rename_i fe args kws p
    cases fe <;> first | (simp [ckE] at h; done) | skip
    rename_i nm p2
    match args, kws, h with
    | [z], [], h =>
      simp only [ckE, Bool.and_eq_true, decide_eq_true_eq] at h
      obtain ⟨⟨rfl, h2⟩, h3⟩ := h
      have hm : X.mg "dict" = none := g.free _ (by simp [freeNames])
      have hp := e_dlist (pos := p) (p := p2) g.calm (gl_ok h2).1 hm (sE a X _ g h3).1 (ck_star h3)
      exact ⟨hp, p_val hp fun _ => rfl⟩
  | .deq0 a, X, x, g, h => by
    cases x <;> first | (simp [ckE] at h; done) | skip
    rename_i l ops cs p
    match ops, cs, h with
    | [o], [.Dict [] [] p2], h =>
      simp only [ckE, Bool.and_eq_true, decide_eq_true_eq] at h
      obtain ⟨rfl, h1⟩ := h
      exact ⟨e_deq0 g.un (sE a X _ g h1).1, p_deq0 g.un (sE a X _ g h1).1⟩
  | .dcopy a, X, x, g, h => by
    cases x <;> first | (simp [ckE] at h; done) | skip
    rename_i fe args kws p
    cases fe <;> first | (simp [ckE] at h; done) | skip
    rename_i nm p2
    match args, kws, h with
    | [z], [], h =>
      simp only [ckE, Bool.and_eq_true, decide_eq_true_eq] at h
      obtain ⟨⟨rfl, h2⟩, h3⟩ := h
      have hm : X.mg "dict" = none := g.free _ (by simp [freeNames])
      have hp := e_dcopy (pos := p) (p := p2) (gl_ok h2).1 hm (sE a X _ g h3).1 (ck_star h3)
      exact ⟨hp, p_val hp fun _ => rfl⟩
  | .reprL es, X, x, g, h => by
    cases x <;> first | (simp [ckE] at h; done) | skip
    rename_i fe args kws p
    cases fe <;> first | (simp [ckE] at h; done) | skip
    rename_i nm p2
    match args, kws, h with
    | [.List xs p3], [], h =>
      simp only [ckE, Bool.and_eq_true, decide_eq_true_eq] at h
      obtain ⟨⟨rfl, h2⟩, h3⟩ := h
      have hm : X.mg "repr" = none := g.free _ (by simp [freeNames])
      have hp := e_reprL (pos := p) (lp := p3) g.gd g.un (p := p2) (gl_ok h2).1 hm (sEs es X _ g h3).1
      exact ⟨hp, p_val hp fun _ => rfl⟩
  | .rev a, X, x, g, h => by
    cases x <;> first | (simp [ckE] at h; done) | skip
    rename_i o z p
    cases z <;> first | (simp [ckE] at h; done) | skip
    rename_i lo hi st p3
    match lo, hi, st, h with
    | none, none, some (.UnaryOp .USub (.Constant (.int 1) k p1) p2), h =>
      have h : ckE _ _ _ a o = true := h
      have hp := e_rev (pos := p) (k := k) (p1 := p1) (p2 := p2) (p3 := p3) (sE a X _ g h).1
      exact ⟨hp, p_val hp fun _ => rfl⟩
  | .gix y tab k, X, x, g, h => by
    cases x <;> first | (simp [ckE] at h; done) | skip
    rename_i o z p
    cases o <;> first | (simp [ckE] at h; done) | skip
    rename_i nm p2
    simp only [ckE, Bool.and_eq_true, decide_eq_true_eq, List.any_eq_true] at h
    obtain ⟨⟨⟨rfl, h2⟩, q, hq, e1, e2⟩, h4⟩ := h
    obtain ⟨hg, hd⟩ := gl_ok h2
    obtain ⟨addr, h5, h6⟩ := g.gdict q hq
    rw [e1] at h5
    rw [tabEq_eq _ _ e2] at h6
    have hp := e_gix (pos := p) (p := p2) hg h5 hd h6 (sE k X _ g h4).1 (ck_slice h4)
    exact ⟨hp, p_val hp fun _ => rfl⟩
  | .gin neg y tab k, X, x, g, h => by
    cases x <;> first | (simp [ckE] at h; done) | skip
    rename_i l ops cs p
    match ops, cs, h with
    | [o], [.Name nm p2], h =>
      simp only [ckE, Bool.and_eq_true, decide_eq_true_eq, List.any_eq_true] at h
      obtain ⟨⟨⟨⟨rfl, rfl⟩, h2⟩, q, hq, e1, e2⟩, h4⟩ := h
      obtain ⟨hg, hd⟩ := gl_ok h2
      obtain ⟨addr, h5, h6⟩ := g.gdict q hq
      rw [e1] at h5
      rw [tabEq_eq _ _ e2] at h6
      exact e_gin (neg := neg) (pos := p) (p := p2) hg h5 hd h6 (sE k X _ g h4).1
  | .sortd a, X, x, g, h => by
    cases x <;> first | (simp [ckE] at h; done) | skip
    rename_i fe args kws p
    cases fe <;> first | (simp [ckE] at h; done) | skip
    rename_i nm p2
    match args, kws, h with
    | [y], [], h =>
      simp only [ckE, Bool.and_eq_true, decide_eq_true_eq] at h
      obtain ⟨⟨rfl, h2⟩, h3⟩ := h
      have hp := e_sortd (pos := p) (p := p2) g.calm (gl_ok h2).1 (g.free _ (by simp [freeNames])) (sE a X _ g h3).1 (ck_star h3)
      exact ⟨hp, p_val hp fun _ => rfl⟩
  | .callK f y e, X, x, g, h => by
    cases x <;> first | (simp [ckE] at h; done) | skip
    rename_i fe args kws p
    cases fe <;> first | (simp [ckE] at h; done) | skip
    rename_i nm p2
    match args, kws, h with
    | [], [⟨some z, v, kp⟩], h =>
      simp only [ckE, Bool.and_eq_true, decide_eq_true_eq] at h
      obtain ⟨⟨⟨h1, h2⟩, rfl⟩, h3⟩ := h
      cases hf : T.fns[f]? with
      | none => rw [hf] at h1; cases h1
      | some d =>
        rw [hf] at h1
        dsimp only at h1
        rw [Bool.and_eq_true, decide_eq_true_eq, decide_eq_true_eq] at h1
        obtain ⟨rfl, hz⟩ := h1
        obtain ⟨hg, hd⟩ := gl_ok h2
        have hp := e_callK (pos := p) (p := p2) (kpos := kp) g hf hg hd hz (sE e X _ g h3).1
        exact ⟨hp, p_val hp fun _ => rfl⟩
theorem sAnd : ∀ (es : Es) (X : Cx) (x : Expr) (xs : List Expr) (pos : Pos) (ex : Ev), Good T cl n X → PE X x (tE X.K ex) → PT X x (tT X.K (tstE ex)) → ckEs T X.N X.env.scope es xs = true →
    PE X (.BoolOp .And (x :: xs) pos) (tE X.K (evBop true ex (evB cl true es))) ∧ PW X (.BoolOp .And (x :: xs) pos) (tT X.K (tstE (evBop true ex (evB cl true es))))
  | .nil, X, x, xs, pos, ex, g, h1, h2, h => by
    cases xs with
    | cons _ _ => simp [ckEs] at h
    | nil => exact ⟨e_bop1 h1, p_and1 h2⟩
  | .cons e es, X, x, xs, pos, ex, g, h1, h2, h => by
    cases xs with
    | nil => simp [ckEs] at h
    | cons y ys =>
      simp only [ckEs, Bool.and_eq_true] at h
      have ha := sE e X y g h.1
      have hb := sAnd es X y ys pos (evE cl e) g ha.1 ha.2 h.2
      exact ⟨e_and h1 hb.1, p_and h2 hb.2⟩
theorem sOr : ∀ (es : Es) (X : Cx) (x : Expr) (xs : List Expr) (pos : Pos) (ex : Ev), Good T cl n X → PE X x (tE X.K ex) → PT X x (tT X.K (tstE ex)) → ckEs T X.N X.env.scope es xs = true →
    PE X (.BoolOp .Or (x :: xs) pos) (tE X.K (evBop false ex (evB cl false es))) ∧ PW X (.BoolOp .Or (x :: xs) pos) (tT X.K (tstE (evBop false ex (evB cl false es))))
  | .nil, X, x, xs, pos, ex, g, h1, h2, h => by
    cases xs with
    | cons _ _ => simp [ckEs] at h
    | nil => exact ⟨e_bop1 h1, p_or1 h2⟩
  | .cons e es, X, x, xs, pos, ex, g, h1, h2, h => by
    cases xs with
    | nil => simp [ckEs] at h
    | cons y ys =>
      simp only [ckEs, Bool.and_eq_true] at h
      have ha := sE e X y g h.1
      have hb := sOr es X y ys pos (evE cl e) g ha.1 ha.2 h.2
      exact ⟨e_or h1 hb.1, p_or h2 hb.2⟩
theorem sEs : ∀ (es : Es) (X : Cx) (xs : List Expr), Good T cl n X → ckEs T X.N X.env.scope es xs = true → PA X xs (tA X.K (evEs cl es)) ∧ ∀ x ∈ xs, ∀ y p, x ≠ .Starred y p
  | .nil, X, xs, g, h => by
    cases xs with
    | cons _ _ => simp [ckEs] at h
    | nil => exact ⟨a_nil, fun x hx => by simp at hx⟩
  | .cons e es, X, xs, g, h => by
    cases xs with
    | nil => simp [ckEs] at h
    | cons y ys =>
      simp only [ckEs, Bool.and_eq_true] at h
      obtain ⟨q1, q2⟩ := sEs es X ys g h.2
      refine ⟨a_cons (sE e X y g h.1).1 q1 (star1 (ck_star h.1) ys), fun x hx => ?_⟩
      rcases List.mem_cons.mp hx with e | hx
      · rw [e]; exact ck_star h.1
      · exact q2 x hx
theorem sSt : ∀ (es : Es) (ks : List Bool) (X : Cx) (xs : List Expr), Good T cl n X → ckSt T X.N X.env.scope es ks xs = true → PA X xs (tA X.K (evSt cl es ks))
  | .nil, ks, X, xs, g, h => by
    cases ks <;> cases xs <;> first | (simp [ckSt] at h; done) | exact a_nil
  | .cons e es, [], X, xs, g, h => by cases xs <;> simp [ckSt] at h
  | .cons e es, true :: ks, X, xs, g, h => by
    cases xs with
    | nil => simp [ckSt] at h
    | cons y ys =>
      cases y <;> first | (simp [ckSt] at h; done) | skip
      simp only [ckSt, Bool.and_eq_true] at h
      exact a_star (sE e X _ g h.1).1 (sSt es ks X ys g h.2) rfl
  | .cons e es, false :: ks, X, xs, g, h => by
    cases xs with
    | nil => simp [ckSt] at h
    | cons y ys =>
      simp only [ckSt, Bool.and_eq_true] at h
      exact a_cons (sE e X y g h.1).1 (sSt es ks X ys g h.2) (star1 (ck_star h.1) ys)
theorem sL : ∀ (es : Es) (X : Cx) (xs : List Expr), Good T cl n X → ckEs T X.N X.env.scope es xs = true → List.length (evL cl es) = xs.length ∧ ∀ p ∈ xs.zip (evL cl es), PE X p.1 (tE X.K p.2)
  | .nil, X, xs, g, h => by
    cases xs with
    | cons _ _ => simp [ckEs] at h
    | nil => exact ⟨rfl, fun x hx => by simp [evL] at hx⟩
  | .cons e es, X, xs, g, h => by
    cases xs with
    | nil => simp [ckEs] at h
    | cons y ys =>
      simp only [ckEs, Bool.and_eq_true] at h
      obtain ⟨q1, q2⟩ := sL es X ys g h.2
      refine ⟨congrArg Nat.succ q1, fun p hp => ?_⟩
      rcases List.mem_cons.mp (show p ∈ (y, evE cl e) :: ys.zip (evL cl es) from hp) with z | hp
      · rw [z]; exact (sE e X y g h.1).1
      · exact q2 p hp
theorem sT : ∀ (es : Es) (X : Cx) (xs : List Expr), Good T cl n X → ckEs T X.N X.env.scope es xs = true → PTs X xs (tT X.K (evT cl es))
  | .nil, X, xs, g, h => by
    cases xs with
    | cons _ _ => simp [ckEs] at h
    | nil =>
      refine ⟨fun pins s σ H Q I hh => pts_nil.run pins s σ H Q I ?_⟩
      obtain ⟨F, G, ρ, S, L, b, S', s', l, e, q⟩ := hh
      obtain ⟨rfl, rfl⟩ := res_eq e
      exact q G ρ H (Same.refl _) (List.prefix_refl _) s'
  | .cons e .nil, X, xs, g, h => by
    cases xs with
    | nil => simp [ckEs] at h
    | cons y ys =>
      cases ys with
      | cons _ _ => simp [ckEs] at h
      | nil =>
        simp only [ckEs, Bool.and_eq_true] at h
        exact pts_one (sE e X y g h.1).2
  | .cons e (.cons e2 es), X, xs, g, h => by
    refine ⟨fun pins s σ H Q I hh => ?_⟩
    obtain ⟨F, G, ρ, S, L, b, S', s', l, e, q⟩ := hh
    cases e
theorem sO : ∀ (o : O) (X : Cx) (x : Option Expr), Good T cl n X → ckO T X.N X.env.scope o x = true → PO X x (tO X.K (evO cl o))
  | .no, X, x, g, h => by
    cases x with
    | some _ => simp [ckO] at h
    | none => exact o_none
  | .so e, X, x, g, h => by
    cases x with
    | none => simp [ckO] at h
    | some y =>
      simp only [ckO] at h
      exact o_some (sE e X y g h).1
theorem sI : ∀ (it : It') (X : Cx) (x t : Expr), Good T cl n X → ckI T X.N X.env.scope it x t = true → PI X t x (tI X.K (evI cl it)) ∧ ∀ v, foldedSetIterable x X.env v = pure v
  | .seq e, X, x, t, g, h => by
    have h' : ckE T X.N X.env.scope e x = true := by simpa only [ckI] using h
    exact ⟨i_seq (sE e X x g h').1, ck_set h'⟩
  | .rng e, X, x, t, g, h => by
    cases x <;> first | (simp [ckI] at h; done) | skip
    rename_i fe args kws p
    cases fe <;> first | (simp [ckI] at h; done) | skip
    rename_i nm p2
    match args, kws, h with
    | [y], [], h =>
      simp only [ckI, Bool.and_eq_true, decide_eq_true_eq] at h
      obtain ⟨⟨rfl, h2⟩, h3⟩ := h
      exact ⟨i_rng (gl_ok h2).1 (g.free _ (by simp [freeNames])) (sE e X y g h3).1 (ck_star h3), fun _ => rfl⟩
  | .zip a b, X, x, t, g, h => by
    cases x <;> first | (simp [ckI] at h; done) | skip
    rename_i fe args kws p
    cases fe <;> first | (simp [ckI] at h; done) | skip
    rename_i nm p2
    match args, kws, h with
    | [y, z], [], h =>
      simp only [ckI, Bool.and_eq_true, decide_eq_true_eq] at h
      obtain ⟨⟨⟨⟨rfl, h2⟩, h3⟩, h4⟩, h5⟩ := h
      cases t <;> first | (simp [isTup] at h5; done) | skip
      exact ⟨i_zip (gl_ok h2).1 (g.free _ (by simp [freeNames])) (sE a X y g h3).1 (sE b X z g h4).1 (ck_star h3) (ck_star h4), fun _ => rfl⟩
  | .rng2 a b, X, x, t, g, h => by
    cases x <;> first | (simp [ckI] at h; done) | skip
    rename_i fe args kws p
    cases fe <;> first | (simp [ckI] at h; done) | skip
    rename_i nm p2
    match args, kws, h with
    | [y, z], [], h =>
      simp only [ckI, Bool.and_eq_true, decide_eq_true_eq] at h
      obtain ⟨⟨⟨rfl, h2⟩, h3⟩, h4⟩ := h
      exact ⟨i_rng2 (gl_ok h2).1 (g.free _ (by simp [freeNames])) (sE a X y g h3).1 (sE b X z g h4).1 (ck_star h3) (ck_star h4), fun _ => rfl⟩
  | .enm a, X, x, t, g, h => by
    cases x <;> first | (simp [ckI] at h; done) | skip
    rename_i fe args kws p
    cases fe <;> first | (simp [ckI] at h; done) | skip
    rename_i nm p2
    match args, kws, h with
    | [y], [], h =>
      simp only [ckI, Bool.and_eq_true, decide_eq_true_eq] at h
      obtain ⟨⟨⟨rfl, h2⟩, h3⟩, h5⟩ := h
      cases t <;> first | (simp [isTup] at h5; done) | skip
      exact ⟨i_enm (gl_ok h2).1 (g.free _ (by simp [freeNames])) (sE a X y g h3).1 (ck_star h3), fun _ => rfl⟩
end
end
end PL
end
section
set_option maxHeartbeats 4000000
namespace PL
open PySem PySem.Spec PyProof.Rows L2
theorem lookup_zip {α : Type} : ∀ {ps : List Str} {us : List α}, ps.Nodup → us.length = ps.length → ∀ {i : Nat} {x : Str} {u : α}, ps[i]? = some x → us[i]? = some u → (ps.zip us).lookup x = some u
  | [], _, _, _, i, x, u, h, _ => by simp at h
  | p :: ps, [], _, hl, _, _, _, _, _ => by simp at hl
  | p :: ps, w :: us, nd, hl, 0, x, u, h1, h2 => by
    simp at h1 h2; subst h1; subst h2
    simp [List.lookup]
  | p :: ps, w :: us, nd, hl, i + 1, x, u, h1, h2 => by
    have hx : x ≠ p := fun z => by
      subst z
      exact (List.nodup_cons.mp nd).1 (List.mem_of_getElem? (by simpa using h1))
    rw [List.zip_cons_cons, List.lookup_cons]
    have : (x == p) = false := by simpa using hx
    rw [this]
    exact lookup_zip (List.nodup_cons.mp nd).2 (by simpa using hl) (i := i) (by simpa using h1) (by simpa using h2)
theorem filter_zip {α : Type} {qs : List Str} {ws : List α} (nd : qs.Nodup) (hl : ws.length = qs.length) : (qs.filterMap fun n => ((qs.zip ws).lookup n).map (n, ·)) = qs.zip ws := by
  have k : ∀ (ps : List Str) (us : List α), us.length = ps.length → (∀ (i : Nat) (x : Str) (u : α), ps[i]? = some x → us[i]? = some u → (qs.zip ws).lookup x = some u) → (ps.filterMap fun n => ((qs.zip ws).lookup n).map (n, ·)) = ps.zip us := fun ps => by
    induction ps with
    | nil => intro us _ _; rfl
    | cons p ps ih =>
      intro us hl h
      cases us with
      | nil => simp at hl
      | cons u us =>
        rw [List.filterMap_cons, h 0 p u rfl rfl]
        show (p, u) :: _ = _
        rw [ih us (by simpa using hl) fun i x v h1 h2 => h (i + 1) x v (by simpa using h1) (by simpa using h2)]
        rfl
  exact k qs ws hl fun i x u h1 h2 => lookup_zip nd hl h1 h2
theorem bind_plain {name qual : Str} {as : List Arg} {body : List Stmt} {scope : Scope} {kV doc pm : Value} {an : Option Addr} {cdv ct : Value} {us : List Value} (nd : (as.map (·.arg)).Nodup) (hl : us.length = (as.map (·.arg)).length) :
    bindArgs (PySem.W.fnOf name qual ⟨[], as, none, [], [], none, []⟩ body scope .none kV doc pm an cdv ct) ⟨us, []⟩ = pure ((as.map (·.arg)).zip us) := by
  have hmiss : ((as.map (·.arg)).filter fun n => (((as.map (·.arg)).zip us).lookup n).isNone) = [] := by
    rw [List.filter_eq_nil_iff]
    intro x hx
    obtain ⟨i, hi, e⟩ := List.getElem_of_mem hx
    have := lookup_zip nd hl (i := i) (x := x) (u := us[i]'(by rw [hl]; exact hi)) (by rw [List.getElem?_eq_getElem hi, e]) (List.getElem?_eq_getElem _)
    rw [this]; simp
  have hfm := filter_zip nd hl
  have hlt : ¬ (us.length > (as.map (·.arg)).length) := by omega
  unfold bindArgs PySem.W.fnOf
  dsimp only
  generalize as.map (·.arg) = ps at *
  have hle : ¬ (ps.length < us.length) := by omega
  have ht : ps.take ps.length = ps := List.take_length
  simp [hmiss, hfm, hle, seqItems?, ht]
  rfl
end PL
end
section
set_option maxHeartbeats 8000000
namespace PL
open PySem PySem.Spec PyProof.Rows L2
/-! ### how a display of names is stored -/
def starB : Expr → Bool
  | .Starred _ _ => true
  | _ => false
def lineNames (sc : Scope) (line : Nat) (ts : List Expr) : List Str := ts.filterMap fun
    | .Name id pos => if sc.names.lookup id == some .local && pos.line == line then some id else none
    | _ => none
def swC (sc : Scope) (ts vs : List Expr) : Option (Option (List Str)) :=
  if (!(ts.length == 2 || ts.length == 3) || vs.length != ts.length) = true then some none
  else if vs.any starB = true then some none
  else if ((lineNames sc ((ts.head?.map (·.pos.line)).getD 0) ts).length != ts.length || (lineNames sc ((ts.head?.map (·.pos.line)).getD 0) ts).eraseDups.length != (lineNames sc ((ts.head?.map (·.pos.line)).getD 0) ts).length) = true then some none
  else if vs.all (foldedForSure 8) = true then some none
  else if vs.all (constantsAlone 8) = true then none
  else some (some (lineNames sc ((ts.head?.map (·.pos.line)).getD 0) ts))
theorem swC_ok {env : PySem.Env} {ts vs : List Expr} {k k2 : Nat} {p p2 : Pos} {r : Option (List Str)} (hk : env.scope.kind = .function) (h : swC env.scope ts vs = some r) : swappedStores [.Tuple ts k p] (.Tuple vs k2 p2) env = pure r := by
  have hb : (env.blockKind != .function) = false := by
    unfold Env.blockKind; rw [hk]; rfl
  have e : swappedStores [.Tuple ts k p] (.Tuple vs k2 p2) env = (if (!(ts.length == 2 || ts.length == 3) || vs.length != ts.length || env.blockKind != .function) = true then pure none
      else if vs.any starB = true then pure none
      else if ((lineNames env.scope ((ts.head?.map (·.pos.line)).getD 0) ts).length != ts.length || (lineNames env.scope ((ts.head?.map (·.pos.line)).getD 0) ts).eraseDups.length != (lineNames env.scope ((ts.head?.map (·.pos.line)).getD 0) ts).length) = true then pure none
      else if vs.all (foldedForSure 8) = true then pure none
      else if vs.all (constantsAlone 8) = true then (do
        unsupported "assign.tuple-of-constant-expressions:order-of-the-stores"
        pure (some (lineNames env.scope ((ts.head?.map (·.pos.line)).getD 0) ts)))
      else pure (some (lineNames env.scope ((ts.head?.map (·.pos.line)).getD 0) ts))) := rfl
  rw [e, hb, Bool.or_false]
  unfold swC at h
  split at h
  · rename_i c; rw [if_pos c]; cases h; rfl
  · rename_i c
    rw [if_neg c]
    split at h
    · rename_i c; rw [if_pos c]; cases h; rfl
    · rename_i c
      rw [if_neg c]
      split at h
      · rename_i c; rw [if_pos c]; cases h; rfl
      · rename_i c
        rw [if_neg c]
        split at h
        · rename_i c; rw [if_pos c]; cases h; rfl
        · rename_i c
          rw [if_neg c]
          split at h
          · cases h
          · rename_i c; rw [if_neg c]; cases h; rfl
def notComp : Expr → Bool
  | .ListComp _ _ _ _ => false
  | .SetComp _ _ _ _ => false
  | .DictComp _ _ _ _ _ => false
  | _ => true
theorem swaps_not {v : Expr} {t : Option Expr} {line : Nat} {env : PySem.Env} (h : notComp v = true) : swapsWith v t line env = pure false := by
  cases v <;> first | rfl | (simp [notComp] at h)
def isName : Expr → Bool
  | .Name _ _ => true
  | _ => false
theorem swaps_t {v t : Expr} {line : Nat} {env : PySem.Env} (h : isName t = false) : swapsWith v (some t) line env = pure false := by
  cases v <;> first | rfl | (cases t <;> first | rfl | (simp [isName] at h))
theorem swaps_cell {elt : Expr} {gs : List Comprehension} {scope : Scope} {p q : Pos} {x : Str} {line : Nat} {env : PySem.Env} (h : env.scope.names.lookup x = some .cell) : swapsWith (.ListComp elt gs scope p) (some (.Name x q)) line env = pure false := by
  have hk : env.kindOf x = some .cell := h
  have hf : (some NameKind.cell == some NameKind.local) = false := by decide
  unfold swapsWith
  dsimp only
  rw [hk, hf]
  simp
/-! ### the check of statements -/
def asgB (sc : Scope) (x : Str) (v : Expr) : Bool := notComp v || (match v, sc.names.lookup x with
  | .ListComp _ _ _ _, some .cell => true
  | _, _ => false)
theorem asgB_ok {env : PySem.Env} {x : Str} {q : Pos} {v : Expr} {line : Nat} (h : asgB env.scope x v = true) : swapsWith v (some (.Name x q)) line env = pure false := by
  unfold asgB at h
  rw [Bool.or_eq_true] at h
  rcases h with h | h
  · exact swaps_not h
  · split at h
    · exact swaps_cell (by assumption)
    · cases h
def isT : Expr → Bool
  | .Tuple _ _ _ => true
  | _ => false
theorem swS_none {ts : List Expr} {k : Nat} {p : Pos} {v : Expr} {env : PySem.Env} (h : isT v = false) : swappedStores [.Tuple ts k p] v env = pure none := by
  cases v <;> first | rfl | (simp [isT] at h)
def parB (N : List Str) (sc : Scope) : List Nat → List Expr → List Expr → Bool
  | [i, j], [.Name x px, .Name y py], [a, b] => decide (N[i]? = some x) && decide (N[j]? = some y) && decide (i ≠ j) && decide (sc.names.lookup x = some .local) && decide (sc.names.lookup y = some .local) && decide (swC sc [.Name x px, .Name y py] [a, b] = some (some [x, y]))
  | [i, j, k], [.Name x px, .Name y py, .Name z pz], [a, b, c] => decide (N[i]? = some x) && decide (N[j]? = some y) && decide (N[k]? = some z) && decide (i ≠ j) && decide (i ≠ k) && decide (j ≠ k) &&
      decide (sc.names.lookup x = some .local) && decide (sc.names.lookup y = some .local) && decide (sc.names.lookup z = some .local) && decide (swC sc [.Name x px, .Name y py, .Name z pz] [a, b, c] = some (some [x, y, z]))
  | _, _, _ => false
theorem par_ok {X : Cx} {is : List Nat} {ts vs : List Expr} {eas : Evs} {k k2 : Nat} {p p2 pos : Pos} (hc : X.calm = true) (hN : X.N.Nodup) (hk : X.env.scope.kind = .function) (h : parB X.N X.env.scope is ts vs = true) (ha : PA X vs (tA X.K eas)) :
    PS X (.Assign [.Tuple ts k p] (.Tuple vs k2 p2) pos) (tS X.K fun L S => okOr (eas L S) fun (rs, S1) => okOr (setAll is rs L) fun L' => some (.nx, L', S1)) := by
  unfold parB at h
  split at h
  · simp only [Bool.and_eq_true, decide_eq_true_eq] at h
    obtain ⟨⟨⟨⟨⟨h1, h2⟩, h3⟩, h4⟩, h5⟩, h6⟩ := h
    exact s_par2 hc hN h1 h2 h3 h4 h5 ha (swC_ok hk h6)
  · simp only [Bool.and_eq_true, decide_eq_true_eq] at h
    obtain ⟨⟨⟨⟨⟨⟨⟨⟨⟨h1, h2⟩, h3⟩, h4⟩, h5⟩, h6⟩, h7⟩, h8⟩, h9⟩, h10⟩ := h
    exact s_par3 hc hN h1 h2 h3 h4 h5 h6 h7 h8 h9 ha (swC_ok hk h10)
  · cases h
mutual
def ckS (T : Tab) (N : List Str) (sc : Scope) : Sx → Stmt → Bool
  | .asg i e, .Assign [.Name x _] v _ => storeB N sc (fun _ => true) i x && asgB sc x v && ckE T N sc e v
  | .asgL i e, .Assign [.Name x q] v _ => (match e, v with
      | .comp own tg it cs e, .ListComp elt [⟨t, j, ifs, z⟩] scope p => decide (N[i]? = some x) && decide (sc.names.lookup x = some .local) && (q.line == p.line) && !(scope.names.any fun (n, k) => n == x && (k == .local || k == .cell)) &&
          (decide (z = 0) && blkC N sc scope (own.map fun i => (N.getD i Str.empty, i)) && (tg.ixs.all fun i => own.contains i) && tgB N (relS scope sc) (fun x => scope.names.lookup x == some .cell) tg t && ckI T N sc it j t && ckEs T N (relS scope sc) cs ifs && ckE T N (relS scope sc) e elt)
      | .compR own tg it cs e, .ListComp elt [⟨t, j, ifs, z⟩] scope p => decide (N[i]? = some x) && decide (sc.names.lookup x = some .local) && (q.line == p.line) && !(scope.names.any fun (n, k) => n == x && (k == .local || k == .cell)) &&
          (decide (z = 0) && blkC N sc scope (own.map fun i => (N.getD i Str.empty, i)) && (tg.ixs.all fun i => own.contains i) && tgB N (relS scope sc) (fun x => scope.names.lookup x == some .cell) tg t && ckI T N sc it j t && ckEs T N (relS scope sc) cs ifs && ckE T N (relS scope sc) e elt)
      | _, _ => false)
  | .par is es, .Assign [.Tuple ts _ _] (.Tuple vs _ _) _ => parB N sc is ts vs && ckEs T N sc es vs
  | .parC is es, .Assign [.Tuple ts _ _] (.Tuple vs _ _) _ => decide (is.length ≤ 100) && storesB N sc (fun _ => true) is ts && decide (swC sc ts vs = some none) && ckEs T N sc es vs
  | .unp is e, .Assign [.Tuple ts _ _] v _ => storesB N sc (fun _ => true) is ts && !isT v && ckE T N sc e v
  | .dset d k v, .Assign [.Subscript o i _] x _ => ckE T N sc d o && ckE T N sc k i && ckE T N sc v x
  | .expr e, .Expr x _ => notComp x && ckE T N sc e x
  | .ret e, .Return (some x) _ => ckE T N sc e x
  | .ret0, .Return none _ => true
  | .ifs c a b, .If t x y _ => ckE T N sc c t && ckSs T N sc a x && ckSs T N sc b y
  | .fors tg it b, .For t i x [] _ => tgB N sc (fun _ => true) tg t && ckI T N sc it i t && ckSs T N sc b x
  | .ford tg d b, .For t i x [] _ => tgB N sc (fun _ => true) tg t && ckE T N sc d i && ckSs T N sc b x
  | .never, _ => true
  | .pass, .Pass _ => true
  | .brk, .Break _ => true
  | .cont, .Continue _ => true
  | _, _ => false
def ckSs (T : Tab) (N : List Str) (sc : Scope) : List Sx → List Stmt → Bool
  | [], [] => true
  | s :: r, x :: xs => ckS T N sc s x && ckSs T N sc r xs
  | _, _ => false
end
structure GoodS (T : Tab) (cl : Cl) (n : Nat) (X : Cx) : Prop extends Good T cl n X where
  fnb : ∀ x, X.fn x = true
  kind : X.env.scope.kind = .function
  own : PassesOwn (model X.prog X.w) X.A X.env X.xe
theorem asg_read {K : PySem.W.Frag} {ea : Ev} {i : Nat} {Dn : Ends} {σ : L2.St} {H : Hp} (h : tS K (fun L S => okOr (ea L S) fun (x, S1) => some (.nx, L.set i (some x), S1)) Dn σ H) : tE K ea σ H fun x H1 => gName i x σ H1 Dn.nx := by
  obtain ⟨F, G, ρ, S, L, f, L', S', s, l, e, q⟩ := h
  obtain ⟨⟨x, S1⟩, e1, e⟩ := okOr_some e
  obtain ⟨rfl, rfl, rfl⟩ := fl_eq e
  exact ⟨F, G, ρ, S, L, x, S1, s, l, e1, fun G1 ρ1 H1 v1 g1 p1 s1 q1 => q G1 ρ1 H1 _ g1 p1 s1 (lok_set (lok_mono g1 p1 l) i q1)⟩
section
variable {T : Tab} {cl : Cl} {n : Nat}
mutual
theorem sS : ∀ (s : Sx) (X : Cx) (x : Stmt), GoodS T cl n X → ckS T X.N X.env.scope s x = true → PS X x (tS X.K (evS cl s))
  | .asg i e, X, x, g, h => by
    cases x <;> first | (simp [ckS] at h; done) | skip
    rename_i ts v p
    match ts, h with
    | [.Name x q], h =>
      simp only [ckS, Bool.and_eq_true] at h
      obtain ⟨⟨h1, h2⟩, h3⟩ := h
      unfold storeB at h1
      rw [Bool.and_eq_true] at h1
      have hx : L2.Loc X.env.scope x := by
        have h1 := h1.2
        split at h1
        · exact .inl (by assumption)
        · exact .inr (by assumption)
        · cases h1
      exact s_asg g.nd (of_decide_eq_true h1.1) hx (sE e X v g.toGood h3).1 (asgB_ok h2) (g.fnb x)
  | .asgL i e, X, x, g, h => by
    cases x <;> first | (simp [ckS] at h; done) | skip
    rename_i ts v p
    match ts, h with
    | [.Name x q], h =>
      simp only [ckS] at h
      split at h
      · simp only [Bool.and_eq_true, decide_eq_true_eq, Bool.not_eq_true'] at h
        obtain ⟨⟨⟨⟨a1, a2⟩, a3⟩, a4⟩, ⟨⟨⟨⟨⟨⟨rfl, h1⟩, h2⟩, h3⟩, h4⟩, h5⟩, h6⟩⟩ := h
        rename_i own tg it cs e elt t j ifs scope pp
        obtain ⟨b1, b2⟩ := inv_comp h1
        obtain ⟨i1, i2⟩ := sI it X j t g.toGood h4
        have hp := ps_setLc (spos := p) (py := q) (g := gT X.K tg) (tt := tT X.K (evT cl cs)) (te := tE X.K (evE cl e)) g.calm g.nd a1 a2 (sw_true g.kind a2 a3 a4) i1 b1
          (fun s H C c2 fp => tgB_ok (X := X.blk s H scope (compEnvC scope c2 C X.env) fp) (fun _ hx => hx) g.nd g.calm h3)
          (fun s H C c2 fp => sT cs (X.blk s H scope (compEnvC scope c2 C X.env) fp) ifs (g.blk s H scope _ fp) h5)
          (fun s H C c2 fp => (sE e (X.blk s H scope (compEnvC scope c2 C X.env) fp) elt (g.blk s H scope _ fp) h6).1) i2
        rw [b2] at hp
        exact PS.weak hp fun Dn σ H hh => lc_read (fin := finD) (fun j hj => by simpa using List.all_eq_true.mp h2 j hj) fin_d (asg_read hh)
      · simp only [Bool.and_eq_true, decide_eq_true_eq, Bool.not_eq_true'] at h
        obtain ⟨⟨⟨⟨a1, a2⟩, a3⟩, a4⟩, ⟨⟨⟨⟨⟨⟨rfl, h1⟩, h2⟩, h3⟩, h4⟩, h5⟩, h6⟩⟩ := h
        rename_i own tg it cs e elt t j ifs scope pp
        obtain ⟨b1, b2⟩ := inv_comp h1
        obtain ⟨i1, i2⟩ := sI it X j t g.toGood h4
        have hp := ps_setLc (spos := p) (py := q) (g := gT X.K tg) (tt := tT X.K (evT cl cs)) (te := tE X.K (evE cl e)) g.calm g.nd a1 a2 (sw_true g.kind a2 a3 a4) i1 b1
          (fun s H C c2 fp => tgB_ok (X := X.blk s H scope (compEnvC scope c2 C X.env) fp) (fun _ hx => hx) g.nd g.calm h3)
          (fun s H C c2 fp => sT cs (X.blk s H scope (compEnvC scope c2 C X.env) fp) ifs (g.blk s H scope _ fp) h5)
          (fun s H C c2 fp => (sE e (X.blk s H scope (compEnvC scope c2 C X.env) fp) elt (g.blk s H scope _ fp) h6).1) i2
        rw [b2] at hp
        exact PS.weak hp fun Dn σ H hh => lc_read (fin := finR) (fun j hj => by simpa using List.all_eq_true.mp h2 j hj) fin_r (asg_read hh)
      · cases h
  | .par is es, X, x, g, h => by
    cases x <;> first | (simp [ckS] at h; done) | skip
    rename_i ts v p
    match ts, v, h with
    | [.Tuple ts k1 p1], .Tuple vs k2 p2, h =>
      simp only [ckS, Bool.and_eq_true] at h
      exact par_ok g.calm g.nd g.kind h.1 (sEs es X _ g.toGood h.2).1
  | .parC is es, X, x, g, h => by
    cases x <;> first | (simp [ckS] at h; done) | skip
    rename_i ts v p
    match ts, v, h with
    | [.Tuple ts k1 p1], .Tuple vs k2 p2, h =>
      simp only [ckS, Bool.and_eq_true, decide_eq_true_eq] at h
      obtain ⟨⟨⟨h0, h1⟩, h2⟩, h3⟩ := h
      obtain ⟨q1, q2⟩ := stores_ok (fun x _ => g.fnb x) g.nd h1
      exact s_parC g.calm (Nat.le_trans h0 (by decide)) q1 q2 (sEs es X _ g.toGood h3).1 (swC_ok g.kind h2)
  | .unp is e, X, x, g, h => by
    cases x <;> first | (simp [ckS] at h; done) | skip
    rename_i ts v p
    match ts, h with
    | [.Tuple ts k1 p1], h =>
      simp only [ckS, Bool.and_eq_true, Bool.not_eq_true'] at h
      obtain ⟨⟨h1, h2⟩, h3⟩ := h
      obtain ⟨q1, q2⟩ := stores_ok (fun x _ => g.fnb x) g.nd h1
      exact s_unp g.calm q1 q2 (sE e X _ g.toGood h3).1 (show swapsWithSole [.Tuple ts k1 p1] v p.line X.env = pure false from swaps_t (t := .Tuple ts k1 p1) (v := v) (line := p.line) (env := X.env) rfl) (swS_none h2)
  | .dset d k v, X, x, g, h => by
    cases x <;> first | (simp [ckS] at h; done) | skip
    rename_i ts v' p
    match ts, h with
    | [.Subscript o i p1], h =>
      simp only [ckS, Bool.and_eq_true] at h
      obtain ⟨⟨h1, h2⟩, h3⟩ := h
      exact s_dset g.un1 (sE d X _ g.toGood h1).1 (sE k X _ g.toGood h2).1 (sE v X _ g.toGood h3).1 (swaps_t rfl)
  | .expr e, X, x, g, h => by
    cases x <;> first | (simp [ckS] at h; done) | skip
    simp only [ckS, Bool.and_eq_true] at h
    exact s_expr (sE e X _ g.toGood h.2).1 (swaps_not h.1)
  | .ret e, X, x, g, h => by
    cases x <;> first | (simp [ckS] at h; done) | skip
    rename_i v p
    cases v with
    | none => simp [ckS] at h
    | some v =>
      simp only [ckS] at h
      exact s_ret (sE e X _ g.toGood h).1
  | .ret0, X, x, g, h => by
    cases x <;> first | (simp [ckS] at h; done) | skip
    rename_i v p
    cases v with
    | none => exact s_ret0
    | some v => simp [ckS] at h
  | .ifs c a b, X, x, g, h => by
    cases x <;> first | (simp [ckS] at h; done) | skip
    simp only [ckS, Bool.and_eq_true] at h
    obtain ⟨⟨h1, h2⟩, h3⟩ := h
    exact s_if (sE c X _ g.toGood h1).2 (sSs a X _ g h2) (sSs b X _ g h3)
  | .fors tg it b, X, x, g, h => by
    cases x <;> first | (simp [ckS] at h; done) | skip
    rename_i t i body els p
    cases els with
    | cons _ _ => simp [ckS] at h
    | nil =>
      simp only [ckS, Bool.and_eq_true] at h
      obtain ⟨⟨h1, h2⟩, h3⟩ := h
      obtain ⟨i1, i2⟩ := sI it X i t g.toGood h2
      exact s_for g.own g.calm i1 (tgB_ok (fun x _ => g.fnb x) g.nd g.calm h1) (sSs b X body g h3) i2
  | .ford tg d b, X, x, g, h => by
    cases x <;> first | (simp [ckS] at h; done) | skip
    rename_i t i body els p
    cases els with
    | cons _ _ => simp [ckS] at h
    | nil =>
      simp only [ckS, Bool.and_eq_true] at h
      obtain ⟨⟨h1, h2⟩, h3⟩ := h
      have i1 := i_keys (tg := t) (sE d X i g.toGood h2).1
      have i2 := ck_set (env := X.env) h2
      exact PS.weak (ps_lock (s_for g.own g.calm i1 (tgB_ok (fun x _ => g.fnb x) g.nd g.calm h1) (sSs b X body g h3) i2)) fun Dn σ H hh => lockS_read (ea := evE cl d) hh
  | .never, X, x, g, h => s_never
  | .pass, X, x, g, h => by
    cases x <;> first | (simp [ckS] at h; done) | skip
    exact s_pass
  | .brk, X, x, g, h => by
    cases x <;> first | (simp [ckS] at h; done) | skip
    exact s_brk
  | .cont, X, x, g, h => by
    cases x <;> first | (simp [ckS] at h; done) | skip
    exact s_cont
theorem sSs : ∀ (ss : List Sx) (X : Cx) (xs : List Stmt), GoodS T cl n X → ckSs T X.N X.env.scope ss xs = true → PSs X xs (tS X.K (evSs cl ss))
  | [], X, xs, g, h => by
    cases xs with
    | cons _ _ => simp [ckSs] at h
    | nil => exact s_nil
  | s :: r, X, xs, g, h => by
    cases xs with
    | nil => simp [ckSs] at h
    | cons y ys =>
      simp only [ckSs, Bool.and_eq_true] at h
      exact s_cons (sS s X y g h.1) (sSs r X ys g h.2)
end
end
end PL
end
section
set_option maxHeartbeats 4000000
namespace PL
open PySem PySem.Spec PyProof.Rows L2
theorem rvs_get {K : PySem.W.Frag} {G : Hp} {ρ : List Addr} : ∀ {rs : List R} {vs : List V} {i : Nat} {r : R}, RVs K G ρ rs vs → rs[i]? = some r → ∃ v, vs[i]? = some v ∧ RV K G ρ r v
  | _, _, _, _, .nil, e => by simp at e
  | _, _, 0, _, .cons h _, e => by simp at e; subst e; exact ⟨_, rfl, h⟩
  | _, _, i + 1, _, .cons _ t, e => by
    obtain ⟨v, h1, h2⟩ := rvs_get (i := i) t (by simpa using e)
    exact ⟨v, by simpa using h1, h2⟩
theorem lok_start {K : PySem.W.Frag} {G : Hp} {ρ : List Addr} {rs : List R} {vs : List V} {N : List Str} (h : RVs K G ρ rs vs) : LOk K G ρ (rs.map some ++ List.replicate (N.length - rs.length) none) (L2.start N vs) := by
  have hl := rvs_len h
  refine ⟨by unfold L2.start; simp [hl], fun i r e => ?_⟩
  by_cases hi : i < rs.length
  · rw [List.getElem?_append_left (by simpa using hi), List.getElem?_map] at e
    cases q : rs[i]? with
    | none => rw [q] at e; cases e
    | some r0 =>
      rw [q] at e
      cases e
      obtain ⟨v, h1, h2⟩ := rvs_get h q
      refine ⟨v, ?_, h2⟩
      unfold L2.start
      rw [List.getElem?_append_left (by simpa using hl ▸ hi), List.getElem?_map, h1]
      rfl
  · rw [List.getElem?_append_right (by simpa using hi), List.getElem?_replicate] at e
    split at e <;> cases e
/-- what a call's evaluation says of the body's -/
theorem callN_body {P : List Fn} {n f : Nat} {d : Fn} {rs : List R} {S : Sto} {r : R} {S' : Sto} (hd : P[f]? = some d) (h : callN P (n + 1) f rs S = some (r, S')) : rs.length = d.np ∧ ∃ fl L' S1, evSs (callN P n) d.body (rs.map some ++ List.replicate (d.names.length - rs.length) none) S = some (fl, L', S1) ∧
    ((fl = .nx ∧ r = .d .none ∧ cutS S S1 = some S') ∨ (fl = .rt r ∧ S' = S1) ∨ (∃ x, fl = .rt (.d x) ∧ r = .d x ∧ cutS S S1 = some S')) := by
  rw [callN, hd] at h
  dsimp only at h
  by_cases hl : rs.length = d.np
  · rw [if_pos hl] at h
    refine ⟨hl, ?_⟩
    cases q : evSs (callN P n) d.body (rs.map some ++ List.replicate (d.names.length - rs.length) none) S with
    | none => rw [q] at h; cases h
    | some t =>
      obtain ⟨fl, L', S1⟩ := t
      rw [q] at h
      refine ⟨fl, L', S1, rfl, ?_⟩
      cases fl with
      | nx =>
        obtain ⟨T, hT, h⟩ := okOr_some h
        obtain ⟨rfl, rfl⟩ := res_eq h
        exact .inl ⟨rfl, rfl, hT⟩
      | bk => cases h
      | ct => cases h
      | rt r0 =>
        cases r0 with
        | d x =>
          obtain ⟨T, hT, h⟩ := okOr_some h
          obtain ⟨rfl, rfl⟩ := res_eq h
          exact .inr (.inr ⟨x, rfl, rfl, hT⟩)
        | ref k =>
          obtain ⟨rfl, rfl⟩ := res_eq h
          exact .inr (.inl ⟨rfl, rfl⟩)
        | scr ns =>
          obtain ⟨rfl, rfl⟩ := res_eq h
          exact .inr (.inl ⟨rfl, rfl⟩)
  · rw [if_neg hl] at h; cases h
theorem callN_len {P : List Fn} {n f : Nat} {d : Fn} {rs : List R} {S : Sto} {r : R × Sto} (hd : P[f]? = some d) (h : callN P n f rs S = some r) : rs.length = d.np := by
  cases n with
  | zero => cases h
  | succ n => exact (callN_body (r := r.1) (S' := r.2) hd h).1
theorem callN_zero {P : List Fn} {f : Nat} {rs : List R} {S : Sto} : callN P 0 f rs S = none := rfl
theorem enter {K : PySem.W.Frag} {P : List Fn} {n f : Nat} {d : Fn} {vs : List V} {H : Hp} {Q : VK} (hd : P[f]? = some d) (h : tP K (callN P (n + 1) f) vs H Q) :
    tS K (evSs (callN P n) d.body) { nx := fun _ H' => Q .non H', rt := Q } (L2.start d.names vs) H := by
  obtain ⟨F, G, ρ, S, rs, r, S', s, q, e, w⟩ := h
  obtain ⟨hl, fl, L', S1, e1, c⟩ := callN_body hd e
  refine ⟨F, G, ρ, S, _, fl, L', S1, s, lok_start q, e1, ?_⟩
  have shutS : ∀ (n : Nat) (b : Ob), S[n]? = some b → shutO S.length b = true := fun n b e => by
    have hn : n < ρ.length := by rw [s.len]; exact (List.getElem?_eq_some_iff.mp e).1
    obtain ⟨o, _, hr⟩ := s.obj n b ρ[n] e (List.getElem?_eq_getElem hn)
    rw [← s.len]; exact hr.shut
  have cut : ∀ {G' : Hp} {ρ' : List Addr} {H' : Hp} {v : V} {x : D} {T : Sto}, cutS S S1 = some T → Same G G' → ρ <+: ρ' → SOk K F G' ρ' S1 H' → DV K G' v x → Post K F G ρ T (.d x) Q → Q v H' := fun {G' ρ' H' v x T} hT g p s' dv w => by
    unfold cutS at hT
    obtain ⟨c, rfl⟩ := some_if hT
    refine w _ ρ _ _ g (List.prefix_refl _) ?_ dv
    have := s'.cut p fun n b hn e => by
      rw [s.len]
      refine okCut_shut c shutS n b ?_
      rw [List.getElem?_take_of_lt (by rw [← s.len]; exact hn)]
      exact e
    rw [s.len] at this
    exact this
  rcases c with ⟨rfl, rfl, hT⟩ | ⟨rfl, rfl⟩ | ⟨x, rfl, rfl, hT⟩
  · exact fun G' ρ' H' σ' g p s' l => cut hT g p s' .non w
  · exact fun G' ρ' H' v g p s' rv => w G' ρ' H' v g p s' rv
  · exact fun G' ρ' H' v g p s' rv => cut hT g p s' rv w
/-! ### a def of the text -/
structure Src where
  qual : Str
  as : List Arg
  body : List Stmt
  scope : Scope
def Src.pars (s : Src) : Arguments := ⟨[], s.as, none, [], [], none, []⟩
def parNB (sc : Scope) (x : Str) : Bool := match sc.names.lookup x with
  | some .local => true
  | some .cell => true
  | _ => false
def ckFn (T : Tab) (d : Fn) (s : Src) : Bool :=
  decide (s.as.map (·.arg) = d.names.take d.np) && decide (d.np ≤ d.names.length) && decide d.names.Nodup && decide (s.scope.kind = .function) && !s.scope.isCoroutine && !s.scope.isGenerator && s.scope.names.all (fun y => decide (y.2 ≠ .free)) && (d.names.take d.np).all (parNB s.scope) && ckSs T d.names s.scope d.body s.body
structure FnC (T : Tab) (d : Fn) (s : Src) : Prop where
  ar : s.as.map (·.arg) = d.names.take d.np
  le : d.np ≤ d.names.length
  sc : FnScope d.names (d.names.take d.np) s.scope
  body : ckSs T d.names s.scope d.body s.body = true
theorem ckFn_ok {T : Tab} {d : Fn} {s : Src} (h : ckFn T d s = true) : FnC T d s := by
  simp only [ckFn, Bool.and_eq_true, decide_eq_true_eq, Bool.not_eq_true', List.all_eq_true] at h
  obtain ⟨⟨⟨⟨⟨⟨⟨⟨h1, h2⟩, h3⟩, h4⟩, h5⟩, h6⟩, h7⟩, h8⟩, h9⟩ := h
  refine ⟨h1, h2, ⟨h4, h5, h6, h3, ?_, fun x hx => ?_, fun y hy => h7 y hy⟩, h9⟩
  · rw [List.length_take, Nat.min_eq_left h2]
  · have := h8 x hx
    unfold parNB at this
    cases q : s.scope.names.lookup x with
    | none => rw [q] at this; cases this
    | some k => cases k <;> first | exact .inl rfl | exact .inr rfl | (rw [q] at this; cases this)
section
variable {P : Program} {w : World} {K : PySem.W.Frag} {mg : Str → Option Value} {base : Heap}
/-- the whole text: each def stands behind the top, as it is checked -/
structure Txt (w : World) (K : PySem.W.Frag) (mg : Str → Option Value) (T : Tab) (src : List Src) : Prop where
  free : ∀ x ∈ freeNames, mg x = none
  glob : ∀ p ∈ T.gl, ∃ u v, mg p.1 = some u ∧ RelV v u ∧ ∀ G, DV K G v p.2
  gdict : ∀ p ∈ T.gd, ∃ addr, mg p.1 = some (.ref addr) ∧ KTab K w addr p.2
  def' : ∀ (f : Nat) (d : Fn), T.fns[f]? = some d → ∃ (s : Src) (addr : Addr) (fd : FuncData), (src[f]? : Option Src) = some s ∧ ckFn T d s = true ∧ mg d.name = some (.ref addr) ∧ FunD K d.name s.qual s.pars s.body s.scope [] [] addr fd
theorem funD_binds {d : Fn} {s : Src} {T : Tab} {addr : Addr} {fd : FuncData} (c : FnC T d s) (F : FunD K d.name s.qual s.pars s.body s.scope [] [] addr fd) : Binds K fd (d.names.take d.np) [] := by
  refine F.bindsN fun kV doc pm an cdv ct us hl => ?_
  have := bind_plain (name := d.name) (qual := s.qual) (as := s.as) (body := s.body) (scope := s.scope) (kV := kV) (doc := doc) (pm := pm) (an := an) (cdv := cdv) (ct := ct) (us := us) (by rw [c.ar]; exact c.sc.nd.sublist (List.take_sublist _ _)) (by rw [c.ar]; exact hl)
  rw [c.ar] at this
  exact this
theorem kw_plain {name qual : Str} {as : List Arg} {body : List Stmt} {scope : Scope} {kV doc pm : Value} {an : Option Addr} {cdv ct : Value} {x : Str} {u : Value} (h : as.map (·.arg) = [x]) :
    bindArgs (PySem.W.fnOf name qual ⟨[], as, none, [], [], none, []⟩ body scope .none kV doc pm an cdv ct) ⟨[], [(x, u)]⟩ = pure [(x, u)] := by
  unfold bindArgs PySem.W.fnOf
  dsimp only
  rw [h]
  simp [seqItems?]
  rfl
theorem funD_kw {d : Fn} {s : Src} {T : Tab} {addr : Addr} {fd : FuncData} (c : FnC T d s) (F : FunD K d.name s.qual s.pars s.body s.scope [] [] addr fd) (x : Str) (hx : d.names.take d.np = [x]) (s' : Shared) (u : Value) : BindsTo s' fd ⟨[], [(x, u)]⟩ [(x, u)] := by
  obtain ⟨oc, od, dV, kV, doc, pm, an, cdv, ct, osl, rfl, lk, hcd, hD, hK⟩ := F.ex
  rcases hD with ⟨_, rfl⟩ | ⟨e, _⟩
  · exact .of_eq (kw_plain (c.ar.trans hx))
  · exact absurd rfl e
/-- a def keeps its promise, where those that it calls do -/
theorem fnG_step {T : Tab} {src : List Src} {n f : Nat} {d : Fn} {s : Src} {addr : Addr} {fd : FuncData} (tx : Txt w K mg T src)
    (ih : ∀ (f : Nat) (d : Fn), T.fns[f]? = some d → ∃ addr fd ps, mg d.name = some (.ref addr) ∧ PySem.W.keepIn K (.ref addr) = true ∧ Binds K fd ps [] ∧ (ps.length = d.np ∧ ps = d.names.take d.np) ∧ FnG P w K mg base n addr fd ps (callN T.fns n f))
    (hd : T.fns[f]? = some d) (hck : ckFn T d s = true) (F : FunD K d.name s.qual s.pars s.body s.scope [] [] addr fd) : FnG P w K mg base (n + 1) addr fd (d.names.take d.np) (callN T.fns (n + 1) f) := by
  have c := ckFn_ok hck
  obtain ⟨oc, od, dV, kV, doc, pm, an, cdv, ct, osl, rfl, lk, hcd, _, _⟩ := F.ex
  refine ⟨fun A outer s0 H args us vs Q hr hg e0 hb r hl hsp => ?_, funD_kw c F⟩
  have KX : K.In s0.heap := e0.mod.kin.keeps fun b o e => (e0.bs b o e).1
  have lim : s0.heap.NoLimit := e0.mod.nolimit.keeps fun b o e => (e0.bs b o e).1
  have hkind : ∀ y ∈ (d.names.take d.np).zip us, s.scope.names.lookup y.1 = some .local ∨ (s.scope.names.lookup y.1 = some .cell ∧ ((cellsFrom (s0.heap.objs.size + 1) s.scope.names []).lookup y.1).isSome = true) := fun ⟨x, v⟩ hy => by
    rcases c.sc.par x (List.of_mem_zip hy).1 with q | q
    · exact .inl q
    · exact .inr ⟨q, PySem.W.cellsFrom_some _ _ _ (.inl q)⟩
  refine codeAny_call_function hr.depth (KX _ _ lk) rfl c.sc.co c.sc.gen rfl (PySem.W.codeRec_of KX hcd) (hb _ _ _ _ ?_)
  refine wpAny_newFunctionEnv_cells c.sc.kind hkind fun env he s1 x => ?_
  subst he
  refine ⟨lim.keeps x.toInCall.keep, codeAny_func ?_⟩
  have I : Inv (cxOf CX0 P w K mg base d.names s.qual s.scope addr cdv A outer s0 H E0) [] (L2.start d.names vs) H s1 := inv_start c.sc hr.hd e0 hl r x
  have g : GoodS T (callN T.fns n) n (cxOf CX0 P w K mg base d.names s.qual s.scope addr cdv A outer s0 H E0).nox := {
    calm := rfl
    nd := c.sc.nd
    gd := hg
    room := hr.deeper _
    free := tx.free
    glob := tx.glob
    gdict := tx.gdict
    fn := ih
    len := fun f d rs S r h e => callN_len h e
    fnb := fun _ => rfl
    kind := c.sc.kind
    own := PassesOwn.never }
  have hS := (sSs d.body _ s.body g c.body).nox
  refine wpAny_mono (hS.run [] s1 (L2.start d.names vs) H _ I (enter hd hsp)) (fun fl s' hs => ?_) fun e s' hs => hs
  have fin : ∀ {σ' : L2.St} {H' : Hp} {v : V} {u : Value}, Inv (cxOf CX0 P w K mg base d.names s.qual s.scope addr cdv A outer s0 H E0) [] σ' H' s' → RelV v u → Q v H' → CE outer P w H s0 Q u s' :=
    fun {σ' H' v u} J rv q => ⟨v, H', J.os, J.bare, J.base, J.hok, rv, q⟩
  cases fl with
  | ret u =>
    obtain ⟨v, σ', H', J, rv, q⟩ := hs
    exact fin J rv q
  | next =>
    obtain ⟨σ', H', J, q⟩ := hs
    exact fin (v := V.non) (u := Value.none) J rfl q
  | brk =>
    obtain ⟨_, _, _, q⟩ := hs
    exact False.elim q
  | cont =>
    obtain ⟨_, _, _, q⟩ := hs
    exact False.elim q
/-- all defs keep their promises, at each depth of calls -/
theorem fnG_all {T : Tab} {src : List Src} (tx : Txt w K mg T src) : ∀ (n f : Nat) (d : Fn), T.fns[f]? = some d → ∃ addr fd ps, mg d.name = some (.ref addr) ∧ PySem.W.keepIn K (.ref addr) = true ∧ Binds K fd ps [] ∧ (ps.length = d.np ∧ ps = d.names.take d.np) ∧ FnG P w K mg base n addr fd ps (callN T.fns n f)
  | 0, f, d, hd => by
    obtain ⟨s, addr, fd, h1, h2, h3, F⟩ := tx.def' f d hd
    have c := ckFn_ok h2
    refine ⟨addr, fd, d.names.take d.np, h3, F.kp, funD_binds c F, ⟨by rw [List.length_take, Nat.min_eq_left c.le], rfl⟩, ⟨fun A outer s0 H args us vs Q hr hg e0 hb r hl hsp => ?_, funD_kw c F⟩⟩
    obtain ⟨_, _, _, _, _, _, _, _, _, e, _⟩ := hsp
    cases e
  | n + 1, f, d, hd => by
    obtain ⟨s, addr, fd, h1, h2, h3, F⟩ := tx.def' f d hd
    have c := ckFn_ok h2
    exact ⟨addr, fd, d.names.take d.np, h3, F.kp, funD_binds c F, ⟨by rw [List.length_take, Nat.min_eq_left c.le], rfl⟩, fnG_step tx (fnG_all tx n) hd h2 F⟩
end
end PL
end
section
set_option maxHeartbeats 4000000
namespace PL
open PySem PySem.Spec PyProof.Rows L2
abbrev noH : Hp := fun _ => none
abbrev Done (s₁ : Shared) (r : Result) (s' : Shared) : Prop := r = .ok (.ret (.bool true)) ∧ OldK s₁.heap s'.heap ∧ s'.os = s₁.os ∧ AllBare s'.gens
/-- at the entry nothing changes, and the script stands in what never does -/
theorem entry {K : PySem.W.Frag} {cl : Prim} {H : Hp} {a : Addr} {ns : List Int} (hS : SqL K H a (ns.map V.int)) (h : ∃ S', cl [.scr ns] [] = some (.d (.bool true), S')) : tP K cl [.ref a] H fun v _ => v = .bl true := by
  obtain ⟨S', e⟩ := h
  refine ⟨noH, H, [], [], [.scr ns], .d (.bool true), S', ⟨rfl, List.nodup_nil, fun b u q => ?_, fun b u q => q, fun b hb => ?_, fun b hb => absurd rfl hb, fun n b c q => ?_, fun n b c q => by simp at q⟩, .cons ⟨a, rfl, hS⟩ .nil, e, fun G' ρ' H' v _ _ _ q => ?_⟩
  · cases q
  · cases hb
  · simp at q
  · cases q; rfl
section
variable {P : Program} {w : World} {K : PySem.W.Frag} {mg mb : Str → Option Value} {k : Nat} {fa a : Addr} {fd : FuncData} {x : Str} {cl : Prim} {s₁ : Shared} {vs : List Value} {ns : List Int}
/-- the law's call over a heap H of the script alone -/
theorem call_over (F : ∀ base : Heap, K.In base → base.Ns mainGlobals mg → FnG P w K mg base k fa fd [x] cl) (hg : s₁.gens = #[]) (hr : Room k callerA) (hbind : ∀ (s : Shared) (u : Value), BindsTo s fd ⟨[u], []⟩ [(x, u)])
    (hsp : ∃ S', cl [.scr ns] [] = some (.d (.bool true), S')) {H : Hp} (hO : Only H) (hS : SqL K H a (ns.map V.int)) (hok : HOk P w H s₁.heap) (hM : Mod K mg (hidT s₁.heap H)) :
    codeAny (model P w) callerA (.call (.ref fa) ⟨[.ref a], []⟩) (Done s₁) s₁ := by
  have e0 : Env0 P w K mg (hidT s₁.heap H) callerA [] s₁ H :=
    { frames := rfl, mod := hM, bs := fun b o e => of_hidT e, bsz := Nat.le_of_eq (hidT_size _ _), funs := trivial, frf := fun b hb => (by cases hb), hok := hok, bare := .of_eq hg }
  have run := (F _ hM.kin hM.glob).run callerA [] s₁ H ⟨[.ref a], []⟩ [.ref a] [.ref a] (fun v _ => v = .bl true) hr rfl e0 (hbind s₁ (.ref a)) (.cons rfl .nil) rfl (entry hS hsp)
  refine codeAny_mono run fun r s' h => ?_
  cases r with
  | error e => exact False.elim h
  | ok fl =>
  cases fl <;> first | exact False.elim h | skip
  obtain ⟨v, H', os, bare, un, hok', r', rfl⟩ := h
  have r' : _ = Value.bool true := r'
  subst r'
  refine ⟨rfl, OldK.of_keep fun b o e => ?_, os, bare⟩
  rcases hO b with z | ⟨ob, xs, z⟩
  · exact un.keep b o e z (fun hb => by cases hb) (by simp)
  · have e1 := (hok b _ z).1
    have e2 := (hok' b _ (un.frzs b ob _ z)).1
    rw [e] at e1; cases e1
    exact e2
/-- the same, whether the script is an object of the module or not -/
theorem law_g (KX : K.In s₁.heap) (hns : s₁.heap.Ns mainGlobals mg) (hb : s₁.heap.Ns builtinsNs mb) (hbb : ∀ x : Str, x ≠ "__name__" → mb x = bootBuiltins x) (hlim : s₁.heap.NoLimit) (hg : s₁.gens = #[])
    (ha : s₁.heap.get? a = some { cls := .type "list", data := .seq vs.toArray }) (hi : IntsAre vs ns) (hl : ns.length ≤ sizeLine) (hr : Room k callerA)
    (F : ∀ base : Heap, K.In base → base.Ns mainGlobals mg → FnG P w K mg base k fa fd [x] cl) (hbind : ∀ (s : Shared) (u : Value), BindsTo s fd ⟨[u], []⟩ [(x, u)]) (hsp : ∃ S', cl [.scr ns] [] = some (.d (.bool true), S')) :
    codeAny (model P w) callerA (.call (.ref fa) ⟨[.ref a], []⟩) (Done s₁) s₁ := by
  have rv := vals_ints hi
  -- over H, which holds the script at most
  have over : ∀ H : Hp, (∀ b, b ≠ a → H b = none) → (H a ≠ none → K.lookup a = none) → Only H → SqL K H a (ns.map V.int) → HOk P w H s₁.heap → codeAny (model P w) callerA (.call (.ref fa) ⟨[.ref a], []⟩) (Done s₁) s₁ := by
    intro H hA hK hO hS hok
    have nsOf : ∀ {b : Addr} {m : Str → Option Value}, s₁.heap.Ns b m → (hidT s₁.heap H).Ns b m := fun {b m} ⟨o, es, ep, e, d, r⟩ => by
      have hba : b ≠ a := fun z => by
        subst z
        rw [ha] at e; cases e
        cases d
      exact ⟨o, es, ep, hidT_get e (hA b hba), d, r⟩
    have kin : K.In (hidT s₁.heap H) := fun b o e => by
      refine hidT_get (KX b o e) (Classical.byContradiction fun z => ?_)
      have : b = a := Classical.byContradiction fun q => z (hA b q)
      subst this
      rw [hK z] at e; cases e
    refine call_over F hg hr hbind hsp hO hS hok ⟨kin, nsOf hns, ⟨mb, nsOf hb, hbb⟩, ?_⟩
    obtain ⟨mc, h1, h2⟩ := hlim
    exact ⟨mc, nsOf h1, h2⟩
  cases hk : K.lookup a with
  | some o =>
    have e := KX a o hk
    rw [ha] at e
    cases e
    exact over noH (fun _ _ => rfl) (fun z => absurd rfl z) (fun _ => .inl rfl) (.inr ⟨_, vs.toArray, _, hk, rfl, rfl, rfl, by rw [List.size_toArray, hi.length]; exact hl, by simpa using rv⟩) fun b u z => by cases z
  | none =>
    have at' : ∀ {b : Addr}, b ≠ a → (if b = a then some (HO.frz { cls := .type "list", data := .seq vs.toArray } (.lst (ns.map V.int))) else none) = none := fun h => if_neg h
    refine over (fun b => if b = a then some (.frz { cls := .type "list", data := .seq vs.toArray } (.lst (ns.map V.int))) else none) (fun b h => at' h) (fun _ => hk) (fun b => ?_) (.inl (.inr ⟨_, if_pos rfl⟩)) fun b u z => ?_
    · rcases Classical.em (b = a) with h | h
      · exact .inr ⟨_, _, if_pos h⟩
      · exact .inl (at' h)
    · rcases Classical.em (b = a) with h | h
      · subst h
        obtain rfl := Option.some.inj ((if_pos rfl).symm.trans z)
        exact ⟨ha, by rw [List.length_map]; exact hl, vs, _, rv, ha⟩
      · cases (if_neg h).symm.trans z
end
/-- the law's row: what is left is the text, as it stands behind the top, and the machine's answer at each script -/
theorem walk_pl {l : PySem.W.OpenLaw} {n k i : Nat} {q : Program} {loose : List Str} {XP : (Str → Option Value) → Heap → Prop} {YP : World → Heap → Prop} {d : DefRec} {T : Tab} {src : List Src} {D : Fn} {x : Str}
    (hn : l.most = some n) (hn2 : n ≤ sizeLine) (hdf : d.params.defaults = []) (hr : Room k callerA)
    (hD : T.fns[i]? = some D) (hdn : d.name = D.name) (hx : D.names.take D.np = [x])
    (F : ∀ (w : World) (mg : Str → Option Value) (fa : Addr) (h : Heap), YP w h → h.Ns mainGlobals mg → mg d.name = some (.ref fa) → ∃ K : PySem.W.Frag, K.In h ∧ Txt w K mg T src)
    (hsp : ∀ ns : List Int, ns.length ≤ n → (∀ z ∈ ns, Builtin.Int.intBits z ≤ 1048576) → ∃ S', callN T.fns k i [.scr ns] [] = some (.d (.bool true), S')) :
    PySem.W.WalkO q loose XP YP l.row.toRowW d [] fun f vs => PySem.call f vs := by
  refine Att.attach_callB hn hdf fun w s₀ s₁ mg mb fa o pm cd doc a vs ns G Y ho hd hcd hmg hobj hints hlen hbits hg => ?_
  obtain ⟨K, KX, tx⟩ := F w mg fa _ Y G.T.g hmg
  obtain ⟨s, fa', fd, h1, h2, h3, Fd⟩ := tx.def' i D hD
  rw [hdn, h3] at hmg
  obtain rfl : fa' = fa := by cases hmg; rfl
  have c := ckFn_ok h2
  have hb : ∀ (s : Shared) (u : Value), BindsTo s fd ⟨[u], []⟩ [(x, u)] := fun s' u => by
    have := Fd.bindsA (ps := D.names.take D.np) (fun kV doc pm an cdv ct us hl => ?_) s' [u] (by rw [hx]; rfl)
    · rw [hx] at this
      exact this
    · have := bind_plain (name := D.name) (qual := s.qual) (as := s.as) (body := s.body) (scope := s.scope) (kV := kV) (doc := doc) (pm := pm) (an := an) (cdv := cdv) (ct := ct) (us := us) (by rw [c.ar]; exact c.sc.nd.sublist (List.take_sublist _ _)) (by rw [c.ar]; exact hl)
      rw [c.ar] at this
      exact this
  refine law_g KX G.T.g G.T.b G.T.builtins G.T.nolimit hg hobj hints (Nat.le_trans hlen hn2) hr (fun base kb nb => ?_) hb (hsp ns hlen hbits)
  cases k with
  | zero =>
    obtain ⟨S', e⟩ := hsp ns hlen hbits
    cases e
  | succ k =>
    have := fnG_step (P := l.prog) (w := w) (base := base) tx (fnG_all tx k) hD h2 Fd
    rw [hx] at this
    exact this
end PL
end
section
set_option maxHeartbeats 4000000
namespace PL
open PySem PySem.Spec PyProof.Rows L2
/-! ### what the top leaves: facts by names -/
mutual
/-- a value of the module is this datum, and never changes -/
def datB (K : PySem.W.Frag) : D → Value → Bool
  | .none, .none => true
  | .bool b, .bool c => b == c
  | .int i, .int j _ => decide (i = j)
  | .str x, .str y _ => decide (x = y)
  | .tuple ds, .ref a => (match K.lookup a with
    | some ⟨.type c, _, .seq its _, _⟩ => decide (c = "tuple") && decide (its.size ≤ sizeLine) && datsB K ds its.toList
    | _ => false)
  | _, _ => false
def datsB (K : PySem.W.Frag) : List D → List Value → Bool
  | [], [] => true
  | d :: ds, u :: us => datB K d u && datsB K ds us
  | _, _ => false
end
mutual
theorem datB_ok {K : PySem.W.Frag} : ∀ (d : D) (u : Value), datB K d u = true → ∃ v, RelV v u ∧ ∀ G, DV K G v d
  | .none, u, h => by
    cases u <;> first | exact ⟨.non, rfl, fun _ => .non⟩ | (simp [datB] at h; done)
  | .bool b, u, h => by
    cases u <;> first | (simp [datB] at h; done) | skip
    rename_i c
    have : b = c := by simpa [datB] using h
    subst this
    exact ⟨.bl b, rfl, fun _ => .bl b⟩
  | .int i, u, h => by
    cases u <;> first | (simp [datB] at h; done) | skip
    rename_i j t
    have : i = j := by simpa [datB] using h
    subst this
    exact ⟨.int i, ⟨t, rfl⟩, fun _ => .int i⟩
  | .str x, u, h => by
    cases u <;> first | (simp [datB] at h; done) | skip
    rename_i y t
    have : x = y := by simpa [datB] using h
    subst this
    exact ⟨.str x, ⟨t, rfl⟩, fun _ => .str x⟩
  | .tuple ds, u, h => by
    cases u <;> first | (simp [datB] at h; done) | skip
    rename_i a
    rw [datB] at h
    split at h
    · rename_i c od its n sl q
      simp only [Bool.and_eq_true, decide_eq_true_eq] at h
      obtain ⟨⟨rfl, h2⟩, h3⟩ := h
      obtain ⟨vs, r, e⟩ := datsB_ok ds its.toList h3
      exact ⟨.ref a, rfl, fun G => .tup (.inr ⟨_, its, n, q, rfl, rfl, h2, r⟩) (e G)⟩
    · cases h
  | .list _, u, h => by simp [datB] at h
  | .dict _, u, h => by simp [datB] at h
theorem datsB_ok {K : PySem.W.Frag} : ∀ (ds : List D) (us : List Value), datsB K ds us = true → ∃ vs, Vals vs us ∧ ∀ G, DVs K G vs ds
  | [], us, h => by
    cases us with
    | nil => exact ⟨[], .nil, fun _ => .nil⟩
    | cons _ _ => simp [datsB] at h
  | d :: ds, us, h => by
    cases us with
    | nil => simp [datsB] at h
    | cons u us =>
      simp only [datsB, Bool.and_eq_true] at h
      obtain ⟨v, r1, e1⟩ := datB_ok d u h.1
      obtain ⟨vs, r2, e2⟩ := datsB_ok ds us h.2
      exact ⟨v :: vs, .cons r1 r2, fun G => .cons (e1 G) (e2 G)⟩
end
/-- a written dict's rows -/
def rowsB (K : PySem.W.Frag) : List DictEntry → List (Str × D) → Bool
  | [], [] => true
  | e :: r, p :: t => (match e.key with
      | .str x _ => decide (x = p.1)
      | _ => false) && datB K p.2 e.val && rowsB K r t
  | _, _ => false
theorem rows_look {K : PySem.W.Frag} (z : Str) : ∀ (es : List DictEntry) (tab : List (Str × D)), rowsB K es tab = true → es.any (·.refKey) = false ∧ match tab.lookup z with
    | some d => ∃ e v, es.find? (·.key.isStr z) = some e ∧ RelV v e.val ∧ ∀ G, DV K G v d
    | none => es.find? (·.key.isStr z) = none
  | [], [], _ => ⟨rfl, rfl⟩
  | [], _ :: _, h => by simp [rowsB] at h
  | _ :: _, [], h => by simp [rowsB] at h
  | e :: r, p :: t, h => by
    simp only [rowsB, Bool.and_eq_true] at h
    obtain ⟨⟨h1, h2⟩, h3⟩ := h
    obtain ⟨i1, i2⟩ := rows_look z r t h3
    split at h1
    · rename_i x tk ek
      have hx : x = p.1 := of_decide_eq_true h1
      have hr : e.refKey = false := by unfold DictEntry.refKey; rw [ek]
      refine ⟨by rw [List.any_cons, hr, i1]; rfl, ?_⟩
      obtain ⟨y, d⟩ := p
      have hs : e.key.isStr z = (x == z) := by rw [ek]; rfl
      rw [List.lookup_cons, List.find?_cons, hs]
      by_cases hz : z = y
      · have hx : x = y := hx
        subst hz
        subst hx
        obtain ⟨v, r1, r2⟩ := datB_ok d e.val h2
        rw [beq_self_eq_true]
        exact ⟨e, v, rfl, r1, r2⟩
      · have hx : x = y := hx
        subst hx
        have e1 : (z == x) = false := by simpa using hz
        have e2 : (x == z) = false := by simpa using fun q => hz (Eq.symm q)
        rw [e1, e2]
        exact i2
    · cases h1
def exB (T : Tab) (K : PySem.W.Frag) : Bool := (T.gl.all fun p => match PySem.W.nsIn K mainGlobals p.1 with
    | some (some u) => datB K p.2 u
    | _ => false) && (T.gd.all fun p => He.eqO (PySem.W.nsIn K mainGlobals p.1) (some (some (.ref (He.ga K p.1)))) && (match K.lookup (He.ga K p.1) with
    | some ⟨_, _, .dict es _, _⟩ => rowsB K es.toList p.2
    | _ => false))
def faOf (T : Tab) : List He.Fa := freeNames.map He.Fa.free ++ T.fns.map fun d => He.Fa.glo d.name
def fnOf' (p : Fn × Src) : He.DefD := ⟨(p.1.name, none), p.1.name, p.2.qual, p.2.pars, p.2.body, p.2.scope, [], []⟩
def fnsOf (T : Tab) (src : List Src) : List He.DefD := (T.fns.zip src).map fnOf'
def tsOf (T : Tab) : List He.Tab := T.gd.map fun p => ((fun K => He.ga K p.1), p.2.map (·.1))
theorem txt_of {T : Tab} {src : List Src} {w : World} {K : PySem.W.Frag} {h : Heap} {mg : Str → Option Value} (X : K.In h) (G : h.Ns mainGlobals mg) (c : He.SaysX (faOf T) (fnsOf T src) (tsOf T) [] (exB T) w h K)
    (hck : (T.fns.zip src).all (fun p => ckFn T p.1 p.2) = true) (hl : T.fns.length = src.length) : Txt w K mg T src := by
  have cd := c.t.d
  have cm := c.more
  unfold exB at cm
  rw [Bool.and_eq_true, List.all_eq_true, List.all_eq_true] at cm
  obtain ⟨cg, cdi⟩ := cm
  refine ⟨fun x hx => ?_, fun p hp => ?_, fun p hp => ?_, fun f d hf => ?_⟩
  · exact He.free_ok X G (cd.facts (List.mem_append_left _ (List.mem_map_of_mem hx)))
  · have := cg p hp
    split at this
    · rename_i u q
      obtain ⟨v, r, e⟩ := datB_ok _ _ this
      exact ⟨u, v, PySem.W.mg_of X G q, r, e⟩
    · cases this
  · have h1 := cdi p hp
    rw [Bool.and_eq_true] at h1
    obtain ⟨h1, h2⟩ := h1
    obtain ⟨i, hi, e⟩ := List.mem_iff_getElem.mp hp
    obtain ⟨es, n, kd⟩ := c.t.tab i (t := ((fun K => He.ga K p.1), p.2.map (·.1))) (by
      unfold tsOf
      rw [List.getElem?_map, List.getElem?_eq_getElem hi, e]
      rfl)
    refine ⟨He.ga K p.1, PySem.W.mg_of X G (He.eqO_ok h1), es, n, kd.1, kd.2, kd.3, fun z => ?_⟩
    have hk : K.lookup (He.ga K p.1) = some ⟨.type "dict", none, .dict es n, #[]⟩ := kd.1
    rw [hk] at h2
    obtain ⟨a1, a2⟩ := rows_look z es.toList p.2 h2
    unfold PySem.W.nsIn
    rw [hk]
    dsimp only
    cases q : p.2.lookup z with
    | none =>
      rw [q] at a2
      have a2 : es.toList.find? (·.key.isStr z) = none := a2
      rw [a2]
      dsimp only
      rw [a1]
      exact ⟨none, rfl, rfl⟩
    | some dd =>
      rw [q] at a2
      obtain ⟨e, v, b1, b2, b3⟩ := a2
      rw [b1]
      exact ⟨some e.val, rfl, e.val, v, rfl, b2, b3⟩
  · have hlt : f < T.fns.length := (List.getElem?_eq_some_iff.mp hf).1
    have hs : f < src.length := by rw [← hl]; exact hlt
    have hz : (d, src[f]) ∈ T.fns.zip src := by
      refine List.mem_iff_getElem.mpr ⟨f, by rw [List.length_zip]; exact Nat.lt_min.mpr ⟨hlt, hs⟩, ?_⟩
      rw [List.getElem_zip]
      rw [List.getElem?_eq_getElem hlt] at hf
      rw [Option.some.inj hf]
    obtain ⟨fd, F⟩ := cd.defs (d := fnOf' (d, src[f])) (List.mem_map_of_mem hz)
    exact ⟨src[f], _, fd, List.getElem?_eq_getElem hs, List.all_eq_true.mp hck _ hz, He.glo_ok X G (cd.facts (List.mem_append_right _ (List.mem_map_of_mem (f := fun d : Fn => He.Fa.glo d.name) (List.mem_of_getElem? hf)))), F⟩
end PL
end
section
set_option maxHeartbeats 2000000
namespace PL
open PySem PySem.Spec PyProof.Rows L2
/-! what an evaluation leads to, asked from behind -/
def WE (cl : Cl) (e : E) (L : Loc) (S : Sto) (Q : R → Sto → Prop) : Prop := ∃ r S', evE cl e L S = some (r, S') ∧ Q r S'
def WEs (cl : Cl) (e : Es) (L : Loc) (S : Sto) (Q : List R → Sto → Prop) : Prop := ∃ r S', evEs cl e L S = some (r, S') ∧ Q r S'
def WB (cl : Cl) (k : Bool) (e : Es) (x : R) (L : Loc) (S : Sto) (Q : R → Sto → Prop) : Prop := ∃ r S', evB cl k e x L S = some (r, S') ∧ Q r S'
def WT (cl : Cl) (e : Es) (L : Loc) (S : Sto) (Q : Bool → Sto → Prop) : Prop := ∃ r S', evT cl e L S = some (r, S') ∧ Q r S'
def WO (cl : Cl) (e : O) (L : Loc) (S : Sto) (Q : Option Int → Sto → Prop) : Prop := ∃ r S', evO cl e L S = some (r, S') ∧ Q r S'
def WI (cl : Cl) (e : It') (L : Loc) (S : Sto) (Q : List D → Lk → Sto → Prop) : Prop := ∃ ds lk S', evI cl e L S = some (ds, lk, S') ∧ Q ds lk S'
def WS (cl : Cl) (e : List Sx) (L : Loc) (S : Sto) (Q : Fl → Loc → Sto → Prop) : Prop := ∃ f L' S', evSs cl e L S = some (f, L', S') ∧ Q f L' S'
/-- a call leads to Q -/
def WK (cl : Cl) (f : Nat) (rs : List R) (S : Sto) (Q : R → Sto → Prop) : Prop := ∃ r S', cl f rs S = some (r, S') ∧ Q r S'
theorem wk_eq {cl : Cl} {f : Nat} {rs : List R} {S S' : Sto} {r : R} {Q : R → Sto → Prop} (e : cl f rs S = some (r, S')) (q : Q r S') : WK cl f rs S Q := ⟨r, S', e, q⟩
def thenQ (cl : Cl) (rest : List Sx) (Q : Fl → Loc → Sto → Prop) : Fl → Loc → Sto → Prop
  | .nx, L, S => WS cl rest L S Q
  | f, L, S => Q f L S
/-- a loop's turn -/
def lapT (cl : Cl) (tg : Tg) (b : List Sx) : D → Loc → Sto → Option (Fl × Loc × Sto) := fun d L S => okOr (bindT tg d L) fun L' => evSs cl b L' S
/-- a comprehension's turn -/
def turn (cl : Cl) (own : List Nat) (tg : Tg) (cs : Es) (e : E) (L : Loc) : D → Sto → Option (Option D × Sto) := fun d S => okOr (bindT tg d (wipeL L own)) fun L' => okOr (evT cl cs L' S) fun (b, S') => match b with
  | true => okOr (evE cl e L' S') fun (y, S2) => okOr (asD y) fun y => some (some y, S2)
  | false => some (none, S')
/-- a comprehension's turns lead to Q -/
def WL (lk : Lk) (t : D → Sto → Option (Option D × Sto)) (ds : List D) (S : Sto) (Q : List D → Sto → Prop) : Prop := ∃ ys S2, loopM lk t ds [] S = some (ys, S2) ∧ Q ys S2
/-- a loop's turns lead to Q -/
def WF (lk : Lk) (t : D → Loc → Sto → Option (Fl × Loc × Sto)) (ds : List D) (L : Loc) (S : Sto) (Q : Fl → Loc → Sto → Prop) : Prop := ∃ g L2 S2, forM' lk t ds L S = some (g, L2, S2) ∧ Q g L2 S2
section
variable {cl : Cl} {L : Loc} {S : Sto} {rest a' b' : List Sx} {i f : Nat} {e a b d k v c : E} {es cs : Es} {op : Operator} {cp cq : CmpOp} {QE : R → Sto → Prop} {QS : Fl → Loc → Sto → Prop} {QEs : List R → Sto → Prop} {own : List Nat} {tg : Tg} {it : It'}
theorem WE.mono {Q' : R → Sto → Prop} (h : WE cl e L S QE) (m : ∀ r S', QE r S' → Q' r S') : WE cl e L S Q' := let ⟨r, S', q, p⟩ := h; ⟨r, S', q, m _ _ p⟩
theorem WS.mono {Q' : Fl → Loc → Sto → Prop} (h : WS cl rest L S QS) (m : ∀ r L' S', QS r L' S' → Q' r L' S') : WS cl rest L S Q' := let ⟨r, L', S', q, p⟩ := h; ⟨r, L', S', q, m _ _ _ p⟩
theorem we_eq {r : R} {S' : Sto} (h : evE cl e L S = some (r, S')) (q : QE r S') : WE cl e L S QE := ⟨r, S', h, q⟩
theorem we_loc {r : R} (h : L[i]? = some (some r)) (q : QE r S) : WE cl (.loc i) L S QE := ⟨r, S, by rw [evE, h], q⟩
theorem we_int {n : Int} (q : QE (.d (.int n)) S) : WE cl (.int n) L S QE := ⟨_, S, by rw [evE], q⟩
theorem we_str {n : Str} (q : QE (.d (.str n)) S) : WE cl (.str n) L S QE := ⟨_, S, by rw [evE], q⟩
theorem we_bl {n : Bool} (q : QE (.d (.bool n)) S) : WE cl (.bl n) L S QE := ⟨_, S, by rw [evE], q⟩
theorem we_non (q : QE (.d .none) S) : WE cl .non L S QE := ⟨_, S, by rw [evE], q⟩
theorem we_gd {x : Str} {n : D} (q : QE (.d n) S) : WE cl (.gd x n) L S QE := ⟨_, S, by rw [evE], q⟩
theorem we_bin (h : WE cl a L S fun x S1 => WE cl b L S1 fun y S2 => ∃ g w, gBin op = some g ∧ bin2 g x y S2 = some w ∧ QE (.d w) S2) : WE cl (.bin op a b) L S QE := by
  obtain ⟨x, S1, h1, y, S2, h2, g, w, h3, h4, q⟩ := h
  exact ⟨_, _, by simp only [evE, h1, h2, h3, h4, okOr], q⟩
theorem we_cmp (h : WE cl a L S fun x S1 => WE cl b L S1 fun y S2 => ∃ w, bin2 (gCmp cp) x y S2 = some w ∧ QE (.d w) S2) : WE cl (.cmp cp a b) L S QE := by
  obtain ⟨x, S1, h1, y, S2, h2, w, h4, q⟩ := h
  exact ⟨_, _, by simp only [evE, h1, h2, h4, okOr], q⟩
theorem we_cmp2 (h : WE cl a L S fun x S1 => WE cl b L S1 fun y S2 => ∃ w, bin2 (gCmp cp) x y S2 = some (.bool w) ∧ (w = true → WE cl c L S2 fun z S3 => ∃ u, bin2 (gCmp cq) y z S3 = some u ∧ QE (.d u) S3) ∧ (w = false → QE (.d (.bool false)) S2)) : WE cl (.cmp2 cp cq a b c) L S QE := by
  obtain ⟨x, S1, h1, y, S2, h2, w, h4, qt, qf⟩ := h
  cases w with
  | false => exact ⟨_, _, by simp only [evE, h1, h2, h4, okOr], qf rfl⟩
  | true =>
    obtain ⟨z, S3, h5, u, h6, q⟩ := qt rfl
    exact ⟨_, _, by simp only [evE, h1, h2, h4, h5, h6, okOr], q⟩
theorem we_bop {k : Bool} (h : WE cl a L S fun x S1 => WB cl k es x L S1 QE) : WE cl (.bop k a es) L S QE := by
  obtain ⟨x, S1, h1, y, S2, h2, q⟩ := h
  exact ⟨_, _, by simp only [evE, h1, h2, okOr], q⟩
theorem wb_nil {k : Bool} {x : R} (q : QE x S) : WB cl k .nil x L S QE := ⟨_, _, by rw [evB], q⟩
theorem wb_cons {k : Bool} {x : R} (h : ∃ t, truth x S = some t ∧ (t = k → WE cl e L S fun y S1 => WB cl k es y L S1 QE) ∧ (t = !k → QE x S)) : WB cl k (.cons e es) x L S QE := by
  obtain ⟨t, h1, h2, h3⟩ := h
  by_cases ht : t = k
  · obtain ⟨y, S1, h4, z, S2, h5, q⟩ := h2 ht
    exact ⟨_, _, by simp only [evB, h1, h4, h5, okOr, if_pos ht], q⟩
  · exact ⟨_, _, by simp only [evB, h1, okOr, if_neg ht], h3 (by cases t <;> cases k <;> simp_all)⟩
theorem we_not (h : WE cl a L S fun x S1 => ∃ t, truth x S1 = some t ∧ QE (.d (.bool (!t))) S1) : WE cl (.not a) L S QE := by
  obtain ⟨x, S1, h1, t, h2, q⟩ := h
  exact ⟨_, _, by simp only [evE, h1, h2, okOr], q⟩
theorem we_neg (h : WE cl a L S fun x S1 => ∃ w, un1 gNeg x S1 = some w ∧ QE (.d w) S1) : WE cl (.neg a) L S QE := by
  obtain ⟨x, S1, h1, t, h2, q⟩ := h
  exact ⟨_, _, by simp only [evE, h1, h2, okOr], q⟩
theorem we_ite (h : WE cl c L S fun x S1 => ∃ t, truth x S1 = some t ∧ (t = true → WE cl a L S1 QE) ∧ (t = false → WE cl b L S1 QE)) : WE cl (.ite c a b) L S QE := by
  obtain ⟨x, S1, h1, t, h2, q1, q2⟩ := h
  cases t with
  | true => obtain ⟨y, S2, h3, q⟩ := q1 rfl; exact ⟨_, _, by simp only [evE, h1, h2, h3, okOr], q⟩
  | false => obtain ⟨y, S2, h3, q⟩ := q2 rfl; exact ⟨_, _, by simp only [evE, h1, h2, h3, okOr], q⟩
theorem we_tup (h : WEs cl es L S fun rs S1 => ∃ ds, asDs rs = some ds ∧ ds.length ≤ sizeLine ∧ QE (.d (.tuple ds)) S1) : WE cl (.tup es) L S QE := by
  obtain ⟨x, S1, h1, ds, h2, h3, q⟩ := h
  exact ⟨_, _, by simp only [evE, h1, h2, okOr, if_pos h3], q⟩
theorem we_lst (h : WEs cl es L S fun rs S1 => ∃ ds, asDs rs = some ds ∧ ds.length ≤ sizeLine ∧ QE (.d (.list ds)) S1) : WE cl (.lst es) L S QE := by
  obtain ⟨x, S1, h1, ds, h2, h3, q⟩ := h
  exact ⟨_, _, by simp only [evE, h1, h2, okOr, if_pos h3], q⟩
theorem we_lstR (h : WEs cl es L S fun rs S1 => ∃ ds, asDs rs = some ds ∧ ds.length ≤ sizeLine ∧ QE (.ref S1.length) (S1 ++ [.lst ds])) : WE cl (.lstR es) L S QE := by
  obtain ⟨x, S1, h1, ds, h2, h3, q⟩ := h
  exact ⟨_, _, by simp only [evE, h1, h2, okOr, if_pos h3], q⟩
theorem we_dic0 (q : QE (.ref S.length) (S ++ [.dic []])) : WE cl .dic0 L S QE := ⟨_, _, by rw [evE], q⟩
theorem we_dic {ks : List Str} (h : WEs cl es L S fun rs S1 => ∃ ds, asDs rs = some ds ∧ (ds.length = ks.length ∧ ks.length ≤ 15 ∧ ks ≠ []) ∧ QE (.ref S1.length) (S1 ++ [.dic (putS [] ks ds)])) : WE cl (.dic ks es) L S QE := by
  obtain ⟨x, S1, h1, ds, h2, h3, q⟩ := h
  exact ⟨_, _, by simp only [evE, h1, h2, okOr, if_pos h3], q⟩
theorem we_ix (h : WE cl a L S fun x S1 => WE cl b L S1 fun y S2 => ∃ w, ixR x y S2 = some w ∧ QE (.d w) S2) : WE cl (.ix a b) L S QE := by
  obtain ⟨x, S1, h1, y, S2, h2, w, h4, q⟩ := h
  exact ⟨_, _, by simp only [evE, h1, h2, h4, okOr], q⟩
theorem we_ixM (h : WE cl a L S fun x S1 => WE cl b L S1 fun y S2 => ixR x y S2 = none ∧ ∃ w, ixM x y S2 = some w ∧ QE w S2) : WE cl (.ix a b) L S QE := by
  obtain ⟨x, S1, h1, y, S2, h2, h3, w, h4, q⟩ := h
  exact ⟨_, _, by simp only [evE, h1, h2, h3, h4, okOr], q⟩
theorem we_dicM {ks : List Str} (h : WEs cl es L S fun rs S1 => asDs rs = none ∧ (rs.length = ks.length ∧ ks.length ≤ 15 ∧ ks ≠ []) ∧ QE (.ref S1.length) (S1 ++ [.mix (putS [] ks rs)])) : WE cl (.dic ks es) L S QE := by
  obtain ⟨x, S1, h1, h2, h3, q⟩ := h
  exact ⟨_, _, by simp only [evE, h1, h2, okOr, if_pos h3], q⟩
/-- a dict is walked: locked at n, by its keys -/
theorem we_compd (h : WE cl d L S fun x _ => ∃ n ks, x = .ref n ∧ S[n]? = some (.dic ks) ∧ WE cl d L (S.set n (.dicL ks)) fun y S1 => y = .ref n ∧ ∃ ls, S1[n]? = some (.dicL ls) ∧ WL none (turn cl own tg cs e L) (keysD ls) S1 fun ys S2 => ∃ ms, S2[n]? = some (.dicL ms) ∧ QE (.d (.list ys)) (S2.set n (.dic ms))) : WE cl (.compd own tg d cs e) L S QE := by
  obtain ⟨x, S0, h1, n, ks, rfl, h2, y, S1, h3, rfl, ls, h4, ys, S2, h5, ms, h6, q⟩ := h
  refine ⟨_, _, ?_, q⟩
  rw [evE, h1]
  show okOr (lockD (.ref n) S) _ = _
  rw [show lockD (.ref n) S = some (n, S.set n (.dicL ks)) by simp only [lockD, h2]]
  show okOr (okOr (okOr (evE cl d L (S.set n (.dicL ks))) _) _) _ = _
  rw [h3]
  show okOr (okOr (okOr (keysAt (.ref n) S1) _) _) _ = _
  rw [show keysAt (.ref n) S1 = some (keysD ls) by simp only [keysAt, h4]]
  show okOr (okOr (loopM none (turn cl own tg cs e L) (keysD ls) [] S1) _) _ = _
  rw [h5]
  show okOr (unlockD n S2) _ = _
  rw [show unlockD n S2 = some (S2.set n (.dic ms)) by simp only [unlockD, h6]]
  rfl
theorem we_dlist (h : WE cl a L S fun x S1 => ∃ d, view x S1 = some d ∧ ∃ ks, dlistD d = some ks ∧ QE (.ref S1.length) (S1 ++ [.dic (mergeP [] ks)])) : WE cl (.dlist a) L S QE := by
  obtain ⟨x, S1, h1, d, h2, ks, h3, q⟩ := h
  exact ⟨_, _, by simp only [evE, h1, h2, h3, okOr], q⟩
theorem we_deq0 (h : WE cl a L S fun x S1 => isE0 x S1 = true ∧ QE (.d (.bool true)) (S1 ++ [.dic []])) : WE cl (.deq0 a) L S QE := by
  obtain ⟨x, S1, h1, h2, q⟩ := h
  exact ⟨_, _, by simp only [evE, h1, h2, okOr, guardB], q⟩
theorem we_upd (h : WE cl a L S fun x S1 => isMut x S1 = true ∧ WE cl e L S1 fun y S2 => ∃ S3, updR x y S2 = some S3 ∧ QE (.d .none) S3) : WE cl (.upd a e) L S QE := by
  obtain ⟨x, S1, h1, h2, y, S2, h3, S3, h4, q⟩ := h
  exact ⟨_, _, by simp only [evE, h1, h2, h3, h4, okOr, guardB], q⟩
theorem we_dcopy (h : WE cl a L S fun x S1 => ∃ b, copyD x S1 = some b ∧ QE (.ref S1.length) (S1 ++ [b])) : WE cl (.dcopy a) L S QE := by
  obtain ⟨x, S1, h1, b, h2, q⟩ := h
  exact ⟨_, _, by simp only [evE, h1, h2, okOr], q⟩
theorem we_sl {lo hi : O} (h : WE cl a L S fun x S1 => WO cl lo L S1 fun l S2 => WO cl hi L S2 fun h S3 => ∃ w, slR x l h S3 = some w ∧ QE (.d w) S3) : WE cl (.sl a lo hi) L S QE := by
  obtain ⟨x, S1, h1, y, S2, h2, z, S3, h3, w, h4, q⟩ := h
  exact ⟨_, _, by simp only [evE, h1, h2, h3, h4, okOr], q⟩
theorem wo_no {Q : Option Int → Sto → Prop} (q : Q none S) : WO cl .no L S Q := ⟨_, _, by rw [evO], q⟩
theorem wo_so {Q : Option Int → Sto → Prop} (h : WE cl e L S fun x S1 => ∃ i, x = .d (.int i) ∧ Q (some i) S1) : WO cl (.so e) L S Q := by
  obtain ⟨x, S1, h1, i, rfl, q⟩ := h
  exact ⟨_, _, by simp only [evO, h1, okOr], q⟩
theorem we_bi {t : Bi} (h : WE cl a L S fun x S1 => ∃ w, un1 t.fn x S1 = some w ∧ QE (.d w) S1) : WE cl (.bi t a) L S QE := by
  obtain ⟨x, S1, h1, t, h2, q⟩ := h
  exact ⟨_, _, by simp only [evE, h1, h2, okOr], q⟩
theorem we_isi {t : Ty} (h : WE cl a L S fun x S1 => ∃ w, view x S1 = some w ∧ QE (.d (.bool (isTy t w))) S1) : WE cl (.isi t a) L S QE := by
  obtain ⟨x, S1, h1, t, h2, q⟩ := h
  exact ⟨_, _, by simp only [evE, h1, un1, h2, okOr], q⟩
theorem we_call (h : WEs cl es L S fun rs S1 => WK cl f rs S1 QE) : WE cl (.call f es) L S QE := by
  obtain ⟨x, S1, h1, r, S2, h2, q⟩ := h
  exact ⟨_, _, by simp only [evE, h1, h2, okOr], q⟩
theorem we_callK {x : Str} (h : WE cl e L S fun r S1 => WK cl f [r] S1 QE) : WE cl (.callK f x e) L S QE := by
  obtain ⟨x, S1, h1, r, S2, h2, q⟩ := h
  exact ⟨_, _, by simp only [evE, h1, h2, okOr], q⟩
theorem we_comp (h : WI cl it L S fun ds lk S1 => lockB lk S1 = true ∧ WL lk (turn cl own tg cs e L) ds S1 fun ys S2 => QE (.d (.list ys)) S2) : WE cl (.comp own tg it cs e) L S QE := by
  obtain ⟨ds, lk, S1, h1, h2, ys, S2, h3, q⟩ := h
  refine ⟨_, _, ?_, q⟩
  rw [evE, h1]
  show guardB (lockB lk S1) (okOr (loopM lk (turn cl own tg cs e L) ds [] S1) _) = _
  rw [h2, h3]; rfl
theorem we_compR (h : WI cl it L S fun ds lk S1 => lockB lk S1 = true ∧ WL lk (turn cl own tg cs e L) ds S1 fun ys S2 => QE (.ref S2.length) (S2 ++ [.lst ys])) : WE cl (.compR own tg it cs e) L S QE := by
  obtain ⟨ds, lk, S1, h1, h2, ys, S2, h3, q⟩ := h
  refine ⟨_, _, ?_, q⟩
  rw [evE, h1]
  show guardB (lockB lk S1) (okOr (loopM lk (turn cl own tg cs e L) ds [] S1) _) = _
  rw [h2, h3]; rfl
theorem we_get2 (h : WE cl d L S fun x S1 => isDic x S1 = true ∧ WE cl k L S1 fun y S2 => WE cl e L S2 fun z S3 => ∃ r, get2R x y z S3 = some r ∧ QE r S3) : WE cl (.get2 d k e) L S QE := by
  obtain ⟨x, S1, h1, h0, y, S2, h2, z, S3, h3, w, h4, q⟩ := h
  exact ⟨_, _, by simp only [evE, h1, h0, h2, h3, h4, okOr, guardB], q⟩
theorem we_app (h : WE cl a L S fun x S1 => isLst x S1 = true ∧ WE cl e L S1 fun y S2 => ∃ S3, appR x y S2 = some S3 ∧ QE (.d .none) S3) : WE cl (.app a e) L S QE := by
  obtain ⟨x, S1, h1, h0, y, S2, h2, w, h4, q⟩ := h
  exact ⟨_, _, by simp only [evE, h1, h0, h2, h4, okOr, guardB], q⟩
theorem we_ext (h : WE cl a L S fun x S1 => isLst x S1 = true ∧ WE cl e L S1 fun y S2 => ∃ S3, extR x y S2 = some S3 ∧ QE (.d .none) S3) : WE cl (.ext a e) L S QE := by
  obtain ⟨x, S1, h1, h0, y, S2, h2, w, h4, q⟩ := h
  exact ⟨_, _, by simp only [evE, h1, h0, h2, h4, okOr, guardB], q⟩
theorem we_join (h : WE cl a L S fun x S1 => isS x = true ∧ WE cl e L S1 fun y S2 => ∃ w, bin2 gJoin x y S2 = some w ∧ QE (.d w) S2) : WE cl (.join a e) L S QE := by
  obtain ⟨x, S1, h1, h0, y, S2, h2, w, h4, q⟩ := h
  exact ⟨_, _, by simp only [evE, h1, h0, h2, h4, okOr, guardB], q⟩
theorem we_gget {x : Str} {tab : List (Str × D)} (h : WE cl k L S fun y S1 => ∃ w, getTab tab y = some w ∧ QE (.d w) S1) : WE cl (.gget x tab k) L S QE := by
  obtain ⟨x, S1, h1, w, h4, q⟩ := h
  exact ⟨_, _, by simp only [evE, h1, h4, okOr], q⟩
theorem we_gget2 {x : Str} {tab : List (Str × D)} (h : WE cl k L S fun y S1 => WE cl e L S1 fun z S2 => ∃ w, getTab2 tab y z = some w ∧ QE (.d w) S2) : WE cl (.gget2 x tab k e) L S QE := by
  obtain ⟨y, S1, h1, z, S2, h2, w, h4, q⟩ := h
  exact ⟨_, _, by simp only [evE, h1, h2, h4, okOr], q⟩
theorem we_gix {x : Str} {tab : List (Str × D)} (h : WE cl k L S fun y S1 => ∃ w, ixTab tab y = some w ∧ QE (.d w) S1) : WE cl (.gix x tab k) L S QE := by
  obtain ⟨x, S1, h1, w, h4, q⟩ := h
  exact ⟨_, _, by simp only [evE, h1, h4, okOr], q⟩
theorem we_gin {neg : Bool} {x : Str} {tab : List (Str × D)} (h : WE cl k L S fun y S1 => ∃ w, inTab tab y = some w ∧ QE (.d (.bool (if neg = true then !w else w))) S1) : WE cl (.gin neg x tab k) L S QE := by
  obtain ⟨x, S1, h1, w, h4, q⟩ := h
  exact ⟨_, _, by simp only [evE, h1, h4, okOr], q⟩
theorem we_sset (h : WE cl a L S fun x S1 => ∃ w, un1 gSSet x S1 = some w ∧ QE (.d w) S1) : WE cl (.sset a) L S QE := by
  obtain ⟨x, S1, h1, w, h4, q⟩ := h
  exact ⟨_, _, by simp only [evE, h1, h4, okOr], q⟩
theorem we_reprL (h : WEs cl es L S fun rs S1 => ∃ ds, viewAll rs S1 = some ds ∧ ds.length ≤ sizeLine ∧ ∃ w, gRepr (.list ds) = some w ∧ QE (.d w) S1) : WE cl (.reprL es) L S QE := by
  obtain ⟨rs, S1, e, ds, h1, h2, w, h3, q⟩ := h
  exact ⟨_, _, by rw [evE, e]; simp only [okOr, h1, if_pos h2, h3], q⟩
theorem we_rev (h : WE cl a L S fun x S1 => ∃ w, un1 gRev x S1 = some w ∧ QE (.d w) S1) : WE cl (.rev a) L S QE := by
  obtain ⟨x, S1, h1, w, h4, q⟩ := h
  exact ⟨_, _, by simp only [evE, h1, h4, okOr], q⟩
theorem we_sortd (h : WE cl a L S fun x S1 => ∃ w, gSortD x S1 = some w ∧ QE (.d w) S1) : WE cl (.sortd a) L S QE := by
  obtain ⟨x, S1, h1, w, h4, q⟩ := h
  exact ⟨_, _, by simp only [evE, h1, h4, okOr], q⟩
theorem wes_nil (q : QEs [] S) : WEs cl .nil L S QEs := ⟨_, _, by rw [evEs], q⟩
theorem wes_cons (h : WE cl e L S fun x S1 => WEs cl es L S1 fun xs S2 => QEs (x :: xs) S2) : WEs cl (.cons e es) L S QEs := by
  obtain ⟨x, S1, h1, xs, S2, h2, q⟩ := h
  exact ⟨_, _, by simp only [evEs, h1, h2, okOr], q⟩
theorem wt_nil {Q : Bool → Sto → Prop} (q : Q true S) : WT cl .nil L S Q := ⟨_, _, by rw [evT], q⟩
theorem wt_one {Q : Bool → Sto → Prop} (h : WE cl e L S fun x S1 => ∃ t, truth x S1 = some t ∧ Q t S1) : WT cl (.cons e .nil) L S Q := by
  obtain ⟨x, S1, h1, t, h2, q⟩ := h
  exact ⟨_, _, by simp only [evT, h1, h2, okOr], q⟩
/-- what is walked -/
def WQ (x : R) (S1 : Sto) (Q : List D → Lk → Sto → Prop) : Prop := (∃ xs, (x = .d (.list xs) ∨ x = .d (.tuple xs) ∨ ∃ z, x = .d (.str z) ∧ xs = signs z) ∧ Q xs none S1) ∨ ∃ n xs, x = .ref n ∧ S1[n]? = some (.lst xs) ∧ Q xs (some (n, xs)) S1
def WN (x : R) (Q : List D → Prop) : Prop := ∃ xs, (x = .d (.list xs) ∨ x = .d (.tuple xs) ∨ ∃ z, x = .d (.str z) ∧ xs = signs z) ∧ Q xs
def WZ (x y : R) (Q : List D → List D → Prop) : Prop := ∃ xs ys, ((x = .d (.list xs) ∧ y = .d (.list ys)) ∨ (x = .d (.tuple xs) ∧ y = .d (.tuple ys))) ∧ Q xs ys
theorem wi_seq {Q : List D → Lk → Sto → Prop} (h : WE cl e L S fun x S1 => WQ x S1 Q) : WI cl (.seq e) L S Q := by
  obtain ⟨x, S1, h1, ⟨xs, rfl | rfl | ⟨z, rfl, rfl⟩, q⟩ | ⟨n, xs, rfl, h2, q⟩⟩ := h
  · exact ⟨_, _, _, by simp only [evI, h1, okOr], q⟩
  · exact ⟨_, _, _, by simp only [evI, h1, okOr], q⟩
  · exact ⟨_, _, _, by simp only [evI, h1, okOr], q⟩
  · exact ⟨_, _, _, by simp only [evI, h1, h2, okOr], q⟩
theorem wi_rng {Q : List D → Lk → Sto → Prop} (h : WE cl e L S fun x S1 => ∃ i, x = .d (.int i) ∧ (-(2 ^ 62) ≤ i ∧ i < 2 ^ 62) ∧ Q (rngD i) none S1) : WI cl (.rng e) L S Q := by
  obtain ⟨x, S1, h1, i, rfl, h2, q⟩ := h
  exact ⟨_, _, _, by simp only [evI, h1, okOr, if_pos h2], q⟩
theorem wi_rng2 {Q : List D → Lk → Sto → Prop} (h : WE cl a L S fun x S1 => WE cl b L S1 fun y S2 => ∃ i j, x = .d (.int i) ∧ y = .d (.int j) ∧ (-(2 ^ 62) ≤ i ∧ i < 2 ^ 62 ∧ -(2 ^ 62) ≤ j ∧ j < 2 ^ 62) ∧ Q (rng2D i j) none S2) : WI cl (.rng2 a b) L S Q := by
  obtain ⟨x, S1, h1, y, S2, h2, i, j, rfl, rfl, h3, q⟩ := h
  exact ⟨_, _, _, by simp only [evI, h1, h2, okOr, if_pos h3], q⟩
theorem wi_zip {Q : List D → Lk → Sto → Prop} (h : WE cl a L S fun x S1 => WE cl b L S1 fun y S2 => WZ x y fun xs ys => Q (zipD xs ys) none S2) : WI cl (.zip a b) L S Q := by
  obtain ⟨x, S1, h1, y, S2, h2, xs, ys, ⟨rfl, rfl⟩ | ⟨rfl, rfl⟩, q⟩ := h
  · exact ⟨_, _, _, by simp only [evI, h1, h2, okOr], q⟩
  · exact ⟨_, _, _, by simp only [evI, h1, h2, okOr], q⟩
theorem wi_enm {Q : List D → Lk → Sto → Prop} (h : WE cl a L S fun x S1 => WN x fun xs => Q (enumD 0 xs) none S1) : WI cl (.enm a) L S Q := by
  obtain ⟨x, S1, h1, xs, rfl | rfl | ⟨z, rfl, rfl⟩, q⟩ := h
  · exact ⟨_, _, _, by simp only [evI, h1, okOr], q⟩
  · exact ⟨_, _, _, by simp only [evI, h1, okOr], q⟩
  · exact ⟨_, _, _, by simp only [evI, h1, okOr], q⟩
/-! statements -/
theorem ws_nil (q : QS .nx L S) : WS cl [] L S QS := ⟨_, _, _, by rw [evSs], q⟩
theorem ws_asg (h : WE cl e L S fun x S1 => WS cl rest (L.set i (some x)) S1 QS) : WS cl (.asg i e :: rest) L S QS := by
  obtain ⟨x, S1, h1, f, L2, S2, h2, q⟩ := h
  exact ⟨_, _, _, by simp only [evSs, evS, h1, h2, okOr], q⟩
theorem ws_asgL (h : WE cl e L S fun x S1 => WS cl rest (L.set i (some x)) S1 QS) : WS cl (.asgL i e :: rest) L S QS := by
  obtain ⟨x, S1, h1, f, L2, S2, h2, q⟩ := h
  exact ⟨_, _, _, by simp only [evSs, evS, h1, h2, okOr], q⟩
theorem ws_par {is : List Nat} (h : WEs cl es L S fun rs S1 => ∃ L', setAll is rs L = some L' ∧ WS cl rest L' S1 QS) : WS cl (.par is es :: rest) L S QS := by
  obtain ⟨x, S1, h1, L1, h2, f, L2, S2, h3, q⟩ := h
  exact ⟨_, _, _, by simp only [evSs, evS, h1, h2, h3, okOr], q⟩
theorem ws_parC {is : List Nat} (h : WEs cl es L S fun rs S1 => ∃ L', setAll is rs L = some L' ∧ WS cl rest L' S1 QS) : WS cl (.parC is es :: rest) L S QS := by
  obtain ⟨x, S1, h1, L1, h2, f, L2, S2, h3, q⟩ := h
  exact ⟨_, _, _, by simp only [evSs, evS, h1, h2, h3, okOr], q⟩
theorem ws_unp {is : List Nat} (h : WE cl e L S fun x S1 => ∃ ds L', x = .d (.tuple ds) ∧ bindIx is ds L = some L' ∧ WS cl rest L' S1 QS) : WS cl (.unp is e :: rest) L S QS := by
  obtain ⟨x, S1, h1, ds, L1, rfl, h2, f, L2, S2, h3, q⟩ := h
  exact ⟨_, _, _, by simp only [evSs, evS, h1, h2, h3, okOr], q⟩
theorem ws_dset (h : WE cl v L S fun z S1 => WE cl d L S1 fun x S2 => WE cl k L S2 fun y S3 => ∃ S4, dsetR x y z S3 = some S4 ∧ WS cl rest L S4 QS) : WS cl (.dset d k v :: rest) L S QS := by
  obtain ⟨z, S1, h1, x, S2, h2, y, S3, h3, S4, h4, f, L2, S5, h5, q⟩ := h
  exact ⟨_, _, _, by simp only [evSs, evS, h1, h2, h3, h4, h5, okOr], q⟩
theorem ws_expr (h : WE cl e L S fun x S1 => WS cl rest L S1 QS) : WS cl (.expr e :: rest) L S QS := by
  obtain ⟨x, S1, h1, f, L2, S2, h2, q⟩ := h
  exact ⟨_, _, _, by simp only [evSs, evS, h1, h2, okOr], q⟩
theorem ws_ret (h : WE cl e L S fun x S1 => QS (.rt x) L S1) : WS cl (.ret e :: rest) L S QS := by
  obtain ⟨x, S1, h1, q⟩ := h
  exact ⟨_, _, _, by simp only [evSs, evS, h1, okOr], q⟩
theorem ws_ret0 (q : QS (.rt (.d .none)) L S) : WS cl (.ret0 :: rest) L S QS := ⟨_, _, _, by simp only [evSs, evS, okOr], q⟩
theorem ws_pass (q : WS cl rest L S QS) : WS cl (.pass :: rest) L S QS := by
  obtain ⟨f, L2, S2, h2, q⟩ := q
  exact ⟨_, _, _, by simp only [evSs, evS, h2, okOr], q⟩
theorem ws_brk (q : QS .bk L S) : WS cl (.brk :: rest) L S QS := ⟨_, _, _, by simp only [evSs, evS, okOr], q⟩
theorem ws_cont (q : QS .ct L S) : WS cl (.cont :: rest) L S QS := ⟨_, _, _, by simp only [evSs, evS, okOr], q⟩
theorem then_ok {st : Sx} {g : Fl} {L1 : Loc} {S1 : Sto} (h : evS cl st L S = some (g, L1, S1)) (q : thenQ cl rest QS g L1 S1) : WS cl (st :: rest) L S QS := by
  cases g with
  | nx =>
    obtain ⟨f, L2, S2, h2, q⟩ := q
    exact ⟨_, _, _, by simp only [evSs, h, h2, okOr], q⟩
  | bk => exact ⟨_, _, _, by simp only [evSs, h, okOr], q⟩
  | ct => exact ⟨_, _, _, by simp only [evSs, h, okOr], q⟩
  | rt r => exact ⟨_, _, _, by simp only [evSs, h, okOr], q⟩
theorem ws_if (h : WE cl c L S fun x S1 => ∃ t, truth x S1 = some t ∧ (t = true → WS cl a' L S1 (thenQ cl rest QS)) ∧ (t = false → WS cl b' L S1 (thenQ cl rest QS))) : WS cl (.ifs c a' b' :: rest) L S QS := by
  obtain ⟨x, S1, h1, t, h2, q1, q2⟩ := h
  cases t with
  | true =>
    obtain ⟨g, L2, S2, h3, q⟩ := q1 rfl
    exact then_ok (by simp only [evS, h1, h2, h3, okOr]) q
  | false =>
    obtain ⟨g, L2, S2, h3, q⟩ := q2 rfl
    exact then_ok (by simp only [evS, h1, h2, h3, okOr]) q
theorem ws_ford (h : WE cl d L S fun x _ => ∃ n ks, x = .ref n ∧ S[n]? = some (.dic ks) ∧ WE cl d L (S.set n (.dicL ks)) fun y S1 => y = .ref n ∧ ∃ ls, S1[n]? = some (.dicL ls) ∧ WF none (lapT cl tg b') (keysD ls) L S1 fun f L' S2 => ∃ ms, S2[n]? = some (.dicL ms) ∧ thenQ cl rest QS f L' (S2.set n (.dic ms))) : WS cl (.ford tg d b' :: rest) L S QS := by
  obtain ⟨x, S0, h1, n, ks, rfl, h2, y, S1, h3, rfl, ls, h4, g, L2, S2, h5, ms, h6, q⟩ := h
  refine then_ok (g := g) (L1 := L2) (S1 := S2.set n (.dic ms)) ?_ q
  rw [evS, h1]
  show okOr (lockD (.ref n) S) _ = _
  rw [show lockD (.ref n) S = some (n, S.set n (.dicL ks)) by simp only [lockD, h2]]
  show okOr (okOr (okOr (evE cl d L (S.set n (.dicL ks))) _) _) _ = _
  rw [h3]
  show okOr (okOr (okOr (keysAt (.ref n) S1) _) _) _ = _
  rw [show keysAt (.ref n) S1 = some (keysD ls) by simp only [keysAt, h4]]
  show okOr (forM' none (lapT cl tg b') (keysD ls) L S1) _ = _
  rw [h5]
  show okOr (unlockD n S2) _ = _
  rw [show unlockD n S2 = some (S2.set n (.dic ms)) by simp only [unlockD, h6]]
  rfl
theorem ws_for (h : WI cl it L S fun ds lk S1 => lockB lk S1 = true ∧ WF lk (lapT cl tg b') ds L S1 (thenQ cl rest QS)) : WS cl (.fors tg it b' :: rest) L S QS := by
  obtain ⟨ds, lk, S1, h1, h2, g, L2, S2, h3, q⟩ := h
  refine then_ok (g := g) (L1 := L2) (S1 := S2) ?_ q
  rw [evS, h1]
  show guardB (lockB lk S1) (forM' lk (lapT cl tg b') ds L S1) = _
  rw [h2, h3]; rfl
end
/-! what is left to be found -/
section
theorem lf {α : Type} {o : Option α} {a : α} {Q : α → Prop} (h : o = some a) (q : Q a) : ∃ w, o = some w ∧ Q w := ⟨a, h, q⟩
theorem lf2 {o : Option (D → D → Option D)} {x y : R} {S : Sto} {g : D → D → Option D} {w : D} {Q : D → Prop} (h : o = some g) (k : bin2 g x y S = some w) (q : Q w) : ∃ g w, o = some g ∧ bin2 g x y S = some w ∧ Q w := ⟨g, w, h, k, q⟩
theorem lfB {o : Option D} {w : Bool} {Q : Bool → Prop} (h : o = some (.bool w)) (q : Q w) : ∃ w, o = some (.bool w) ∧ Q w := ⟨w, h, q⟩
theorem lfV {rs : List R} {S : Sto} {ds : List D} {Q : List D → Prop} (h : viewAll rs S = some ds) (hl : ds.length ≤ sizeLine) (q : Q ds) : ∃ ds, viewAll rs S = some ds ∧ ds.length ≤ sizeLine ∧ Q ds := ⟨ds, h, hl, q⟩
theorem lf3 {rs : List R} {ds : List D} {Q : List D → Prop} (h : asDs rs = some ds) (hl : ds.length ≤ sizeLine) (q : Q ds) : ∃ ds, asDs rs = some ds ∧ ds.length ≤ sizeLine ∧ Q ds := ⟨ds, h, hl, q⟩
theorem lf4 {rs : List R} {ks : List Str} {ds : List D} {Q : List D → Prop} (h : asDs rs = some ds) (hl : ds.length = ks.length ∧ ks.length ≤ 15 ∧ ks ≠ []) (q : Q ds) : ∃ ds, asDs rs = some ds ∧ (ds.length = ks.length ∧ ks.length ≤ 15 ∧ ks ≠ []) ∧ Q ds := ⟨ds, h, hl, q⟩
theorem lfU {x : R} {is : List Nat} {L L' : Loc} {ds : List D} {Q : Loc → Prop} (h : x = .d (.tuple ds)) (k : bindIx is ds L = some L') (q : Q L') : ∃ ds L', x = .d (.tuple ds) ∧ bindIx is ds L = some L' ∧ Q L' := ⟨ds, L', h, k, q⟩
theorem lfI {i : Int} {Q : Int → Prop} (q : Q i) : ∃ j, R.d (.int i) = .d (.int j) ∧ Q j := ⟨i, rfl, q⟩
theorem lfR {i : Int} {Q : Int → Prop} (h : -(2 ^ 62) ≤ i ∧ i < 2 ^ 62) (q : Q i) : ∃ j, R.d (.int i) = .d (.int j) ∧ (-(2 ^ 62) ≤ j ∧ j < 2 ^ 62) ∧ Q j := ⟨i, rfl, h, q⟩
theorem lfR2 {i j : Int} {Q : Int → Int → Prop} (h : -(2 ^ 62) ≤ i ∧ i < 2 ^ 62 ∧ -(2 ^ 62) ≤ j ∧ j < 2 ^ 62) (q : Q i j) : ∃ k l, R.d (.int i) = .d (.int k) ∧ R.d (.int j) = .d (.int l) ∧ (-(2 ^ 62) ≤ k ∧ k < 2 ^ 62 ∧ -(2 ^ 62) ≤ l ∧ l < 2 ^ 62) ∧ Q k l := ⟨i, j, rfl, rfl, h, q⟩
theorem land {b : Bool} {q : Prop} (h : b = true) (k : q) : b = true ∧ q := ⟨h, k⟩
theorem limp {a b c d : Prop} (h : a → b) (k : c → d) : (a → b) ∧ (c → d) := ⟨h, k⟩
section
variable {xs ys : List D} {z : Str} {Q : List D → Lk → Sto → Prop} {S : Sto} {Q' : List D → Prop}
theorem ls_l (q : Q xs none S) : WQ (.d (.list xs)) S Q := .inl ⟨xs, .inl rfl, q⟩
theorem ls_t (q : Q xs none S) : WQ (.d (.tuple xs)) S Q := .inl ⟨xs, .inr (.inl rfl), q⟩
theorem ls_s (q : Q (signs z) none S) : WQ (.d (.str z)) S Q := .inl ⟨_, .inr (.inr ⟨z, rfl, rfl⟩), q⟩
theorem ls_r {n : Nat} (h : S[n]? = some (.lst xs)) (q : Q xs (some (n, xs)) S) : WQ (.ref n) S Q := .inr ⟨n, xs, rfl, h, q⟩
theorem le_l (q : Q' xs) : WN (.d (.list xs)) Q' := ⟨xs, .inl rfl, q⟩
theorem le_t (q : Q' xs) : WN (.d (.tuple xs)) Q' := ⟨xs, .inr (.inl rfl), q⟩
theorem le_s (q : Q' (signs z)) : WN (.d (.str z)) Q' := ⟨_, .inr (.inr ⟨z, rfl, rfl⟩), q⟩
theorem lz_l {Q : List D → List D → Prop} (q : Q xs ys) : WZ (.d (.list xs)) (.d (.list ys)) Q := ⟨xs, ys, .inl ⟨rfl, rfl⟩, q⟩
theorem lz_t {Q : List D → List D → Prop} (q : Q xs ys) : WZ (.d (.tuple xs)) (.d (.tuple ys)) Q := ⟨xs, ys, .inr ⟨rfl, rfl⟩, q⟩
end
end
/-! loops -/
/-- a comprehension over things told by one map: f says what is kept; the store stays -/
theorem loop_map {lk : Lk} {t : D → Sto → Option (Option D × Sto)} {S : Sto} (f : D → Option D) : ∀ (ds acc : List D), lockB lk S = true → (∀ d ∈ ds, t d S = some (f d, S)) → acc.length + ds.length ≤ sizeLine → loopM lk t ds acc S = some (acc ++ ds.filterMap f, S)
  | [], acc, _, _, _ => by simp [loopM]
  | d :: ds, acc, hk, h, hl => by
    rw [List.length_cons] at hl
    rw [loopM, h d List.mem_cons_self]
    dsimp only
    rw [if_pos hk]
    cases hf : f d with
    | none =>
      dsimp only
      rw [loop_map f ds acc hk (fun x hx => h x (List.mem_cons_of_mem _ hx)) (by omega)]
      simp [hf]
    | some y =>
      dsimp only
      rw [if_pos (by omega), loop_map f ds (acc ++ [y]) hk (fun x hx => h x (List.mem_cons_of_mem _ hx)) (by rw [List.length_append, List.length_singleton]; omega)]
      simp [hf]
/-- a loop by a word of what is left -/
theorem for_word {lk : Lk} {t : D → Loc → Sto → Option (Fl × Loc × Sto)} (I : List D → Loc → Sto → Prop) : ∀ (ds : List D) (L : Loc) (S : Sto), I ds L S → (∀ d r L S, I (d :: r) L S → ∃ g L' S', t d L S = some (g, L', S') ∧ (g = .nx ∨ g = .ct) ∧ lockB lk S' = true ∧ I r L' S') → ∃ L' S', forM' lk t ds L S = some (.nx, L', S') ∧ I [] L' S'
  | [], L, S, h, _ => ⟨L, S, by simp only [forM'], h⟩
  | d :: ds, L, S, h, ht => by
    obtain ⟨g, L1, S1, e, hg, hk, h1⟩ := ht d ds L S h
    obtain ⟨L2, S2, e2, h2⟩ := for_word I ds L1 S1 h1 ht
    refine ⟨L2, S2, ?_, h2⟩
    rcases hg with rfl | rfl
    · simp only [forM', e, if_pos hk, e2]
    · simp only [forM', e, if_pos hk, e2]
end PL
end
section
set_option maxHeartbeats 2000000
namespace PL
open PySem PySem.Spec PyProof.Rows L2
def finQ (S : Sto) (Q : R → Sto → Prop) : Fl → Loc → Sto → Prop
  | .rt (.d x), _, S' => ∃ T, cutS S S' = some T ∧ Q (.d x) T
  | .rt r, _, S' => Q r S'
  | .nx, _, S' => ∃ T, cutS S S' = some T ∧ Q (.d .none) T
  | _, _, _ => False
/-- a call leads to Q -/
abbrev WC (P : List Fn) (n f : Nat) (rs : List R) (S : Sto) (Q : R → Sto → Prop) : Prop := WK (callN P n) f rs S Q
section
variable {P : List Fn} {n f : Nat} {rs : List R} {S : Sto} {Q : R → Sto → Prop}
theorem wc_of {d : Fn} (hd : P[f]? = some d) (hl : rs.length = d.np) (h : WS (callN P n) d.body (rs.map some ++ List.replicate (d.names.length - rs.length) none) S (finQ S Q)) : WC P (n + 1) f rs S Q := by
  obtain ⟨fl, L', S', e, q⟩ := h
  unfold WC WK
  rw [callN, hd]
  dsimp only
  rw [if_pos hl, e]
  cases fl with
  | nx =>
    obtain ⟨T, hT, q⟩ := q
    exact ⟨_, _, by show okOr (cutS S S') _ = _; rw [hT]; rfl, q⟩
  | bk => exact q.elim
  | ct => exact q.elim
  | rt r =>
    cases r with
    | d x =>
      obtain ⟨T, hT, q⟩ := q
      exact ⟨_, _, by show okOr (cutS S S') _ = _; rw [hT]; rfl, q⟩
    | _ => exact ⟨_, _, rfl, q⟩
theorem WC.eq {a : R} {b : Sto} (h : WC P n f rs S fun r S' => r = a ∧ S' = b) : callN P n f rs S = some (a, b) := by
  obtain ⟨r, S', e, rfl, rfl⟩ := h
  exact e
theorem WC.mono {Q' : R → Sto → Prop} (h : WC P n f rs S Q) (m : ∀ r S', Q r S' → Q' r S') : WC P n f rs S Q' := let ⟨r, S', q, p⟩ := h; ⟨r, S', q, m _ _ p⟩
theorem wc_eq {a : R} {b : Sto} (e : callN P n f rs S = some (a, b)) (q : Q a b) : ∃ r S', callN P n f rs S = some (r, S') ∧ Q r S' := ⟨a, b, e, q⟩
theorem qf_d {x : D} {L : Loc} {S' : Sto} (q : ∃ T, cutS S S' = some T ∧ Q (.d x) T) : finQ S Q (.rt (.d x)) L S' := q
theorem qf_same {x : D} {L : Loc} (q : Q (.d x) S) : finQ S Q (.rt (.d x)) L S := ⟨_, cutS_same S, q⟩
theorem qf_app {x : D} {L : Loc} {T : Sto} (q : Q (.d x) S) : finQ S Q (.rt (.d x)) L (S ++ T) := ⟨_, cutS_app S T, q⟩
theorem qf_cons {x : D} {L : Loc} {o o' : Ob} {T : Sto} {Q : R → Sto → Prop} (h : shutO (T.length + 1) o' = true) (q : Q (.d x) (o' :: T)) : finQ (o :: T) Q (.rt (.d x)) L (o' :: T) := by
  have e := cutS_cons (o := o) T [] h
  rw [List.append_nil] at e
  exact ⟨_, e, q⟩
theorem qf_consA {x : D} {L : Loc} {o o' : Ob} {T U : Sto} {Q : R → Sto → Prop} (h : shutO (T.length + 1) o' = true) (q : Q (.d x) (o' :: T)) : finQ (o :: T) Q (.rt (.d x)) L (o' :: (T ++ U)) := ⟨_, cutS_cons T U h, q⟩
theorem qf_ref {m : Nat} {L : Loc} {S' : Sto} (q : Q (.ref m) S') : finQ S Q (.rt (.ref m)) L S' := q
theorem qf_nxS {L : Loc} (q : Q (.d .none) S) : finQ S Q .nx L S := ⟨_, cutS_same S, q⟩
theorem qf_nxA {L : Loc} {T : Sto} (q : Q (.d .none) S) : finQ S Q .nx L (S ++ T) := ⟨_, cutS_app S T, q⟩
theorem qf_nx {L : Loc} {S' : Sto} (q : ∃ T, cutS S S' = some T ∧ Q (.d .none) T) : finQ S Q .nx L S' := q
end
section
variable {cl : Cl} {rest : List Sx} {Q : Fl → Loc → Sto → Prop} {L : Loc} {S : Sto} {r : R}
theorem then_nx (q : WS cl rest L S Q) : thenQ cl rest Q .nx L S := q
theorem then_bk (q : Q .bk L S) : thenQ cl rest Q .bk L S := q
theorem then_ct (q : Q .ct L S) : thenQ cl rest Q .ct L S := q
theorem then_rt (q : Q (.rt r) L S) : thenQ cl rest Q (.rt r) L S := q
/-- a loop that ends -/
theorem for_to {lk : Lk} {t : D → Loc → Sto → Option (Fl × Loc × Sto)} {ds : List D} (I : List D → Loc → Sto → Prop) (h0 : I ds L S) (hs : ∀ d r L S, I (d :: r) L S → ∃ g L' S', t d L S = some (g, L', S') ∧ (g = .nx ∨ g = .ct) ∧ lockB lk S' = true ∧ I r L' S')
    (q : ∀ L' S', I [] L' S' → WS cl rest L' S' Q) : WF lk t ds L S (thenQ cl rest Q) := by
  obtain ⟨L', S', e, h⟩ := for_word (lk := lk) (t := t) I ds L S h0 hs
  exact ⟨.nx, L', S', e, q L' S' h⟩
/-- a loop's turn by its block -/
theorem lap_of {tg : Tg} {b : List Sx} {d : D} {L' : Loc} {Q : Fl → Loc → Sto → Prop} (h : bindT tg d L = some L') (w : WS cl b L' S Q) : ∃ g L2 S2, lapT cl tg b d L S = some (g, L2, S2) ∧ Q g L2 S2 := by
  obtain ⟨g, L2, S2, e, q⟩ := w
  exact ⟨g, L2, S2, by unfold lapT; rw [h]; exact e, q⟩
/-- a comprehension's turn by its parts -/
theorem turn_of {own : List Nat} {tg : Tg} {cs : Es} {e : E} {d : D} {L' : Loc} {Q : Option D → Sto → Prop} (h : bindT tg d (wipeL L own) = some L') (w : WT cl cs L' S fun b S1 => (b = true → WE cl e L' S1 fun y S2 => ∃ z, y = .d z ∧ Q (some z) S2) ∧ (b = false → Q none S1)) :
    ∃ o S2, turn cl own tg cs e L d S = some (o, S2) ∧ Q o S2 := by
  obtain ⟨b, S1, e1, h1, h2⟩ := w
  unfold turn
  rw [h]
  cases b with
  | false => exact ⟨none, S1, by simp only [okOr, e1], h2 rfl⟩
  | true =>
    obtain ⟨y, S2, e2, z, rfl, q⟩ := h1 rfl
    exact ⟨some z, S2, by simp only [okOr, e1, e2, asD], q⟩
theorem turn_eq {own : List Nat} {tg : Tg} {cs : Es} {e : E} {d : D} {L' : Loc} {o : Option D} {S2 : Sto} (h : bindT tg d (wipeL L own) = some L') (w : WT cl cs L' S fun b S1 => (b = true → WE cl e L' S1 fun y S3 => ∃ z, y = .d z ∧ some z = o ∧ S3 = S2) ∧ (b = false → none = o ∧ S1 = S2)) :
    turn cl own tg cs e L d S = some (o, S2) := by
  obtain ⟨o', S', e, rfl, rfl⟩ := turn_of (Q := fun o' S' => o' = o ∧ S' = S2) h w
  exact e
end
section
variable {lk : Lk} {t : D → Sto → Option (Option D × Sto)} {S : Sto} {Q : List D → Sto → Prop} {α : Type} {g : α → D} {l : List α}
theorem loop_mapW (f : α → Option D) (hk : lockB lk S = true) : ∀ (l : List α) (acc : List D), (∀ a ∈ l, t (g a) S = some (f a, S)) → acc.length + l.length ≤ sizeLine → loopM lk t (l.map g) acc S = some (acc ++ l.filterMap f, S)
  | [], acc, _, _ => by simp [loopM]
  | a :: l, acc, h, hl => by
    rw [List.length_cons] at hl
    rw [List.map_cons, loopM, h a List.mem_cons_self]
    dsimp only
    rw [if_pos hk]
    cases hf : f a with
    | none =>
      dsimp only
      rw [loop_mapW f hk l acc (fun x hx => h x (List.mem_cons_of_mem _ hx)) (by omega)]
      simp [hf]
    | some y =>
      dsimp only
      rw [if_pos (by omega), loop_mapW f hk l (acc ++ [y]) (fun x hx => h x (List.mem_cons_of_mem _ hx)) (by rw [List.length_append, List.length_singleton]; omega)]
      simp [hf]
theorem loop_some (f : α → Option D) (hl : l.length ≤ sizeLine) (h : ∀ a ∈ l, t (g a) S = some (f a, S)) (q : Q (l.filterMap f) S) (hk : lockB lk S = true := by rfl) : WL lk t (l.map g) S Q :=
  ⟨_, _, loop_mapW f hk l [] h (by rw [List.length_nil]; omega), by rw [List.nil_append]; exact q⟩
theorem loop_every (f : α → D) (hl : l.length ≤ sizeLine) (h : ∀ a ∈ l, t (g a) S = some (some (f a), S)) (q : Q (l.map f) S) (hk : lockB lk S = true := by rfl) : WL lk t (l.map g) S Q :=
  loop_some (fun a => some (f a)) hl h (by rw [show l.filterMap (fun a => some (f a)) = l.map f by induction l with | nil => rfl | cons a l ih => simp]; exact q) hk
theorem filt_map (p : α → Bool) (f : α → D) : ∀ l : List α, l.filterMap (fun a => if p a = true then some (f a) else none) = (l.filter p).map f
  | [] => rfl
  | a :: l => by
    by_cases h : p a = true
    · rw [List.filterMap_cons, if_pos h, List.filter_cons, if_pos h, List.map_cons, filt_map p f l]
    · rw [List.filterMap_cons, if_neg h, List.filter_cons, if_neg h, filt_map p f l]
theorem loop_filter (p : α → Bool) (f : α → D) (hl : l.length ≤ sizeLine) (h : ∀ a ∈ l, t (g a) S = some (if p a = true then some (f a) else none, S)) (q : Q ((l.filter p).map f) S) (hk : lockB lk S = true := by rfl) : WL lk t (l.map g) S Q :=
  loop_some (fun a => if p a = true then some (f a) else none) hl h (by rw [filt_map]; exact q) hk
theorem zip_map {β : Type} {f : α → D} {k : β → D} : ∀ (xs : List α) (ys : List β), zipD (xs.map f) (ys.map k) = (xs.zip ys).map fun p => .tuple [f p.1, k p.2]
  | [], _ => by simp [zipD]
  | _ :: _, [] => by simp [zipD]
  | x :: xs, y :: ys => by simp only [List.map_cons, zipD, List.zip_cons_cons, zip_map xs ys]
theorem enum_map {f : α → D} : ∀ (xs : List α) (k : Nat), enumD k (xs.map f) = (xs.zipIdx k).map fun p => .tuple [.int (p.2 : Int), f p.1]
  | [], k => rfl
  | x :: xs, k => by simp only [List.map_cons, enumD, List.zipIdx_cons, enum_map xs (k + 1)]
end
/-! a comprehension over a written list -/
def WLa (lk : Lk) (t : D → Sto → Option (Option D × Sto)) (ds acc : List D) (S : Sto) (Q : List D → Sto → Prop) : Prop := ∃ ys S2, loopM lk t ds acc S = some (ys, S2) ∧ Q ys S2
section
variable {lk : Lk} {t : D → Sto → Option (Option D × Sto)} {S S1 : Sto} {Q : List D → Sto → Prop} {ds acc : List D} {d y : D}
theorem wl_lit (h : WLa lk t ds [] S Q) : WL lk t ds S Q := h
theorem wl_end (q : Q acc S) : WLa lk t [] acc S Q := ⟨acc, S, by simp only [loopM], q⟩
theorem wl_yes (ht : t d S = some (some y, S1)) (h : WLa lk t ds (acc ++ [y]) S1 Q) (hl : acc.length < sizeLine) (hk : lockB lk S1 = true := by rfl) : WLa lk t (d :: ds) acc S Q := by
  obtain ⟨ys, S2, e, q⟩ := h
  exact ⟨ys, S2, by simp only [loopM, ht, if_pos hk, if_pos hl, e], q⟩
theorem wl_no (ht : t d S = some (none, S1)) (h : WLa lk t ds acc S1 Q) (hk : lockB lk S1 = true := by rfl) : WLa lk t (d :: ds) acc S Q := by
  obtain ⟨ys, S2, e, q⟩ := h
  exact ⟨ys, S2, by simp only [loopM, ht, if_pos hk, e], q⟩
end
end PL
end
section
set_option maxHeartbeats 4000000
namespace PL.W
open PySem PySem.Spec PyProof.Rows L2 PL
abbrev at_ (i : Nat) : Stmt := (PySem.Challenge.pw_pagelives_k05_whole_parts_of_logs).main.body.getD i (.Pass ⟨0, 0, 0, 0⟩)
abbrev srcAt (x : Str) (i : Nat) : Src := ⟨x, (defArgs (at_ i)).args, defBody (at_ i), defScope (at_ i)⟩
def d_LETTERS : D := (.str "abcdefghijklmnopqrstuvwxyz")
def d_TURNS : D := (.tuple [(.str "keep"), (.str "plain"), (.str "free")])
def d_PICTURES : D := (.tuple [(.str "keep"), (.str "write")])
def d_STRIKES : D := (.tuple [(.str "strike")])
def t_RECORD_PARTS : List (Str × D) := [("keep", (.tuple [(.str "page"), (.str "number")])), ("write", (.tuple [(.str "page"), (.str "number")])), ("plain", (.tuple [(.str "page"), (.str "number")])), ("free", (.tuple [(.str "page")])), ("strike", (.tuple [(.str "page")]))]
def t_LIVES : List (Str × D) := [("keep", (.str "kept")), ("plain", (.str "plain")), ("free", (.str "free"))]
abbrev dipA : Int := 5023
abbrev dipB : Int := 331
abbrev dipC : Int := 30059
abbrev dipCell : Int := 89053
abbrev i_ascending : Nat := 0
abbrev i_is_integer : Nat := 1
abbrev i_is_number : Nat := 2
abbrev i_is_page : Nat := 3
abbrev i_record_parts : Nat := 4
abbrev i_has_word : Nat := 5
abbrev i_is_part : Nat := 6
abbrev i_are_parts : Nat := 7
abbrev i_is_record : Nat := 8
abbrev i_last_index : Nat := 9
abbrev i_life_told : Nat := 10
abbrev i_owner_told : Nat := 11
abbrev i_due_told : Nat := 12
abbrev i_pages_told : Nat := 13
abbrev i_put_index : Nat := 14
abbrev i_put_told : Nat := 15
abbrev i_is_struck : Nat := 16
abbrev i_lets_log : Nat := 17
abbrev i_is_log : Nat := 18
abbrev i_log_fault : Nat := 19
abbrev i_can_come : Nat := 20
abbrev i_need : Nat := 21
abbrev i_life_in : Nat := 22
abbrev i_owner_in : Nat := 23
abbrev i_due_in : Nat := 24
abbrev i_put_in : Nat := 25
abbrev i_puts_in : Nat := 26
abbrev i_struck_in : Nat := 27
abbrev i_need_page : Nat := 28
abbrev i_need_point : Nat := 29
abbrev i_law_spring : Nat := 30
abbrev i_law_dip : Nat := 31
abbrev i_law_pick : Nat := 32
abbrev i_law_pages : Nat := 33
abbrev i_law_log : Nat := 34
abbrev i_law_fewer : Nat := 35
abbrev i_law_points_right : Nat := 36
abbrev i_law_nothing_right : Nat := 37
abbrev i_law : Nat := 38
abbrev b_ascending : List Sx :=
  [.ret (.bi .tuple (.sset (.loc 0)))]
def f_ascending : Fn := ⟨"ascending", ["things"], 1, b_ascending⟩
abbrev b_is_integer : List Sx :=
  [.ret (.bop true (.isi .int (.loc 0)) (.cons (.not (.isi .bool (.loc 0))) .nil))]
def f_is_integer : Fn := ⟨"is_integer", ["thing"], 1, b_is_integer⟩
abbrev b_is_number : List Sx :=
  [.ret (.bop true (.call i_is_integer (.cons (.loc 0) .nil)) (.cons (.cmp .GtE (.loc 0) (.int 0)) .nil))]
def f_is_number : Fn := ⟨"is_number", ["thing"], 1, b_is_number⟩
abbrev b_is_page : List Sx :=
  [.ifs (.bop false (.not (.isi .str (.loc 0))) (.cons (.not (.cmp2 .LtE .LtE (.int 1) (.bi .len (.loc 0)) (.int 8))) .nil)) [.ret (.bl false)] [], .ret (.bi .all (.comp [1] (.one 1) (.seq (.loc 0)) .nil (.cmp .In (.loc 1) (.gd "LETTERS" d_LETTERS))))]
def f_is_page : Fn := ⟨"is_page", ["thing", "letter"], 1, b_is_page⟩
abbrev b_record_parts : List Sx :=
  [.ret (.gget "RECORD_PARTS" t_RECORD_PARTS (.loc 0))]
def f_record_parts : Fn := ⟨"record_parts", ["word"], 1, b_record_parts⟩
abbrev b_has_word : List Sx :=
  [.ret (.bop true (.isi .tuple (.loc 0)) (.cons (.cmp .Gt (.bi .len (.loc 0)) (.int 0)) (.cons (.isi .str (.ix (.loc 0) (.int 0))) .nil)))]
def f_has_word : Fn := ⟨"has_word", ["thing"], 1, b_has_word⟩
abbrev b_is_part : List Sx :=
  [.ifs (.cmp .Eq (.loc 1) (.str "page")) [.ret (.call i_is_page (.cons (.loc 0) .nil))] [], .ret (.bop true (.call i_is_integer (.cons (.loc 0) .nil)) (.cons (.cmp .GtE (.loc 0) (.int 1)) .nil))]
def f_is_part : Fn := ⟨"is_part", ["thing", "kind"], 2, b_is_part⟩
abbrev b_are_parts : List Sx :=
  [.ifs (.bop false (.cmp .Is (.loc 1) .non) (.cons (.cmp .NotEq (.bi .len (.loc 0)) (.bi .len (.loc 1))) .nil)) [.ret (.bl false)] [], .ret (.bi .all (.comp [2, 3] (.tup [2, 3]) (.zip (.loc 0) (.loc 1)) .nil (.call i_is_part (.cons (.loc 2) (.cons (.loc 3) .nil)))))]
def f_are_parts : Fn := ⟨"are_parts", ["things", "kinds", "thing", "kind"], 2, b_are_parts⟩
abbrev b_is_record : List Sx :=
  [.ret (.bop true (.call i_has_word (.cons (.loc 0) .nil)) (.cons (.call i_are_parts (.cons (.sl (.loc 0) (.so (.int 1)) .no) (.cons (.call i_record_parts (.cons (.ix (.loc 0) (.int 0)) .nil)) .nil))) .nil))]
def f_is_record : Fn := ⟨"is_record", ["thing"], 1, b_is_record⟩
abbrev b_last_index : List Sx :=
  [.asgL 3 (.comp [4, 5] (.tup [4, 5]) (.enm (.loc 0)) (.cons (.bop true (.cmp .Eq (.ix (.loc 5) (.int 1)) (.loc 1)) (.cons (.cmp .In (.ix (.loc 5) (.int 0)) (.loc 2)) .nil)) .nil) (.loc 4)), .ifs (.loc 3) [.ret (.ix (.loc 3) (.neg (.int 1)))] [], .ret .non]
def f_last_index : Fn := ⟨"last_index", ["log", "page", "words", "found", "k", "record"], 3, b_last_index⟩
abbrev b_life_told : List Sx :=
  [.asg 2 (.call i_last_index (.cons (.loc 0) (.cons (.loc 1) (.cons (.gd "TURNS" d_TURNS) .nil)))), .ifs (.cmp .Is (.loc 2) .non) [.ret (.str "free")] [], .ret (.gix "LIVES" t_LIVES (.ix (.ix (.loc 0) (.loc 2)) (.int 0)))]
def f_life_told : Fn := ⟨"life_told", ["log", "page", "at"], 2, b_life_told⟩
abbrev b_owner_told : List Sx :=
  [.asg 2 (.call i_last_index (.cons (.loc 0) (.cons (.loc 1) (.cons (.gd "TURNS" d_TURNS) .nil)))), .ifs (.bop false (.cmp .Is (.loc 2) .non) (.cons (.cmp .Eq (.ix (.ix (.loc 0) (.loc 2)) (.int 0)) (.str "free")) .nil)) [.ret (.int 0)] [], .ret (.ix (.ix (.loc 0) (.loc 2)) (.int 2))]
def f_owner_told : Fn := ⟨"owner_told", ["log", "page", "at"], 2, b_owner_told⟩
abbrev b_due_told : List Sx :=
  [.ifs (.cmp .NotEq (.call i_life_told (.cons (.loc 0) (.cons (.loc 1) .nil))) (.str "kept")) [.ret .non] [], .ret (.ix (.ix (.loc 0) (.call i_last_index (.cons (.loc 0) (.cons (.loc 1) (.cons (.gd "PICTURES" d_PICTURES) .nil))))) (.int 2))]
def f_due_told : Fn := ⟨"due_told", ["log", "page"], 2, b_due_told⟩
abbrev b_pages_told : List Sx :=
  [.ret (.call i_ascending (.cons (.comp [1] (.one 1) (.seq (.loc 0)) .nil (.ix (.loc 1) (.int 1))) .nil))]
def f_pages_told : Fn := ⟨"pages_told", ["log", "record"], 1, b_pages_told⟩
abbrev b_put_index : List Sx :=
  [.asg 3 (.call i_last_index (.cons (.loc 0) (.cons (.loc 2) (.cons (.gd "PICTURES" d_PICTURES) .nil)))), .ifs (.bop false (.cmp .Is (.loc 3) .non) (.cons (.cmp .Lt (.loc 3) (.loc 1)) (.cons (.call i_is_struck (.cons (.loc 0) (.cons (.loc 3) .nil))) .nil))) [.ret .non] [], .ret (.loc 3)]
def f_put_index : Fn := ⟨"put_index", ["log", "point", "page", "at"], 3, b_put_index⟩
abbrev b_put_told : List Sx :=
  [.asg 3 (.call i_put_index (.cons (.loc 0) (.cons (.loc 1) (.cons (.loc 2) .nil)))), .ifs (.cmp .Is (.loc 3) .non) [.ret .non] [], .ret (.ix (.ix (.loc 0) (.loc 3)) (.int 2))]
def f_put_told : Fn := ⟨"put_told", ["log", "point", "page", "at"], 3, b_put_told⟩
abbrev b_is_struck : List Sx :=
  [.asg 2 (.call i_last_index (.cons (.loc 0) (.cons (.ix (.ix (.loc 0) (.loc 1)) (.int 1)) (.cons (.gd "STRIKES" d_STRIKES) .nil)))), .ret (.bop true (.cmp .IsNot (.loc 2) .non) (.cons (.cmp .Gt (.loc 2) (.loc 1)) .nil))]
def f_is_struck : Fn := ⟨"is_struck", ["log", "at", "strike"], 2, b_is_struck⟩
abbrev b_lets_log : List Sx :=
  [.asg 1 (.call i_log_fault (.cons (.loc 0) .nil)), .ifs (.cmp .IsNot (.loc 1) .non) [.never] [], .ret (.bi .len (.loc 0))]
def f_lets_log : Fn := ⟨"lets_log", ["thing", "fault"], 1, b_lets_log⟩
abbrev b_is_log : List Sx :=
  [.ret (.cmp .Is (.call i_log_fault (.cons (.loc 0) .nil)) .non)]
def f_is_log : Fn := ⟨"is_log", ["thing"], 1, b_is_log⟩
abbrev b_log_fault : List Sx :=
  [.ifs (.not (.isi .tuple (.loc 0))) [.ret (.tup (.cons (.str "shape") (.cons (.neg (.int 1)) .nil)))] [], .asg 1 .dic0, .asg 2 (.int 0), .fors (.tup [3, 4]) (.enm (.loc 0)) [.ifs (.not (.call i_is_record (.cons (.loc 4) .nil))) [.ret (.tup (.cons (.str "record") (.cons (.loc 3) .nil)))] [], .asg 5 (.ix (.loc 4) (.int 0)), .asg 6 (.ix (.loc 4) (.int 1)), .ifs (.cmp .Eq (.bi .len (.loc 4)) (.int 3)) [.ifs (.cmp .LtE (.ix (.loc 4) (.int 2)) (.loc 2)) [.ret (.tup (.cons (.str "number") (.cons (.loc 3) .nil)))] [], .asg 2 (.ix (.loc 4) (.int 2))] [], .ifs (.not (.call i_can_come (.cons (.loc 5) (.cons (.get2 (.loc 1) (.loc 6) (.str "free")) .nil)))) [.ret (.tup (.cons (.str "life") (.cons (.loc 3) .nil)))] [], .ifs (.gin false "LIVES" t_LIVES (.loc 5)) [.dset (.loc 1) (.loc 6) (.gix "LIVES" t_LIVES (.loc 5))] []], .ret .non]
def f_log_fault : Fn := ⟨"log_fault", ["thing", "lives", "last", "k", "record", "word", "page"], 1, b_log_fault⟩
abbrev b_can_come : List Sx :=
  [.ifs (.cmp .In (.loc 0) (.tup (.cons (.str "keep") (.cons (.str "plain") .nil)))) [.ret (.cmp .Eq (.loc 1) (.str "free"))] [], .ifs (.cmp .Eq (.loc 0) (.str "write")) [.ret (.cmp .Eq (.loc 1) (.str "kept"))] [], .ret (.bop false (.cmp .Eq (.loc 0) (.str "strike")) (.cons (.cmp .NotEq (.loc 1) (.str "free")) .nil))]
def f_can_come : Fn := ⟨"can_come", ["word", "life"], 2, b_can_come⟩
abbrev b_need : List Sx :=
  [.ifs (.not (.loc 0)) [.never] []]
def f_need : Fn := ⟨"need", ["holds", "word"], 2, b_need⟩
abbrev b_life_in : List Sx :=
  [.expr (.call i_need_page (.cons (.loc 0) (.cons (.loc 1) .nil))), .ret (.call i_life_told (.cons (.loc 0) (.cons (.loc 1) .nil)))]
def f_life_in : Fn := ⟨"life_in", ["log", "page"], 2, b_life_in⟩
abbrev b_owner_in : List Sx :=
  [.expr (.call i_need_page (.cons (.loc 0) (.cons (.loc 1) .nil))), .ret (.call i_owner_told (.cons (.loc 0) (.cons (.loc 1) .nil)))]
def f_owner_in : Fn := ⟨"owner_in", ["log", "page"], 2, b_owner_in⟩
abbrev b_due_in : List Sx :=
  [.expr (.call i_need_page (.cons (.loc 0) (.cons (.loc 1) .nil))), .ret (.call i_due_told (.cons (.loc 0) (.cons (.loc 1) .nil)))]
def f_due_in : Fn := ⟨"due_in", ["log", "page"], 2, b_due_in⟩
abbrev b_put_in : List Sx :=
  [.expr (.call i_need_point (.cons (.loc 0) (.cons (.loc 1) .nil))), .expr (.call i_need (.cons (.call i_is_page (.cons (.loc 2) .nil)) (.cons (.str "page") .nil))), .ret (.call i_put_told (.cons (.loc 0) (.cons (.loc 1) (.cons (.loc 2) .nil))))]
def f_put_in : Fn := ⟨"put_in", ["log", "point", "page"], 3, b_put_in⟩
abbrev b_puts_in : List Sx :=
  [.expr (.call i_need_point (.cons (.loc 0) (.cons (.loc 1) .nil))), .asgL 2 (.comp [3] (.one 3) (.seq (.call i_pages_told (.cons (.loc 0) .nil))) .nil (.tup (.cons (.loc 3) (.cons (.call i_put_told (.cons (.loc 0) (.cons (.loc 1) (.cons (.loc 3) .nil)))) .nil)))), .ret (.bi .tuple (.comp [4] (.one 4) (.seq (.loc 2)) (.cons (.cmp .IsNot (.ix (.loc 4) (.int 1)) .non) .nil) (.loc 4)))]
def f_puts_in : Fn := ⟨"puts_in", ["log", "point", "pairs", "page", "pair"], 2, b_puts_in⟩
abbrev b_struck_in : List Sx :=
  [.expr (.call i_need_point (.cons (.loc 0) (.cons (.loc 1) .nil))), .asgL 2 (.comp [3, 4] (.tup [3, 4]) (.enm (.loc 0)) (.cons (.bop true (.cmp .GtE (.loc 3) (.loc 1)) (.cons (.cmp .In (.ix (.loc 4) (.int 0)) (.gd "PICTURES" d_PICTURES)) (.cons (.call i_is_struck (.cons (.loc 0) (.cons (.loc 3) .nil))) .nil))) .nil) (.loc 3)), .ret (.call i_ascending (.cons (.loc 2) .nil))]
def f_struck_in : Fn := ⟨"struck_in", ["log", "point", "found", "k", "record"], 2, b_struck_in⟩
abbrev b_need_page : List Sx :=
  [.expr (.call i_need (.cons (.call i_is_log (.cons (.loc 0) .nil)) (.cons (.str "log") .nil))), .expr (.call i_need (.cons (.call i_is_page (.cons (.loc 1) .nil)) (.cons (.str "page") .nil)))]
def f_need_page : Fn := ⟨"need_page", ["log", "page"], 2, b_need_page⟩
abbrev b_need_point : List Sx :=
  [.expr (.call i_need (.cons (.call i_is_log (.cons (.loc 0) .nil)) (.cons (.str "log") .nil))), .expr (.call i_need (.cons (.bop true (.call i_is_number (.cons (.loc 1) .nil)) (.cons (.cmp .LtE (.loc 1) (.bi .len (.loc 0))) .nil)) (.cons (.str "point") .nil)))]
def f_need_point : Fn := ⟨"need_point", ["log", "point"], 2, b_need_point⟩
abbrev b_law_spring : List Sx :=
  [.ret (.dic ["cells", "place", "rest", "count"] (.cons (.bi .list (.sl (.loc 0) .no (.so (.int 60)))) (.cons (.int 0) (.cons (.int 0) (.cons (.int 0) .nil)))))]
def f_law_spring : Fn := ⟨"_law_spring", ["_law_script"], 1, b_law_spring⟩
abbrev b_law_dip : List Sx :=
  [.asg 2 (.bin .Add (.ix (.loc 0) (.str "count")) (.int 1)), .dset (.loc 0) (.str "count") (.loc 2), .ifs (.cmp .Gt (.ix (.loc 0) (.str "rest")) (.int 0)) [.asg 3 (.bin .Mod (.bi .int (.ix (.loc 0) (.str "rest"))) (.loc 1)), .dset (.loc 0) (.str "rest") (.bin .FloorDiv (.ix (.loc 0) (.str "rest")) (.loc 1)), .ret (.loc 3)] [], .asg 4 (.ix (.loc 0) (.str "place")), .dset (.loc 0) (.str "place") (.bin .Add (.loc 4) (.int 1)), .asg 5 (.int dipCell), .ifs (.cmp .NotEq (.ix (.loc 0) (.str "cells")) (.lst .nil)) [.asg 5 (.ix (.ix (.loc 0) (.str "cells")) (.bin .Mod (.bi .int (.loc 4)) (.bi .len (.ix (.loc 0) (.str "cells")))))] [], .ifs (.bop true (.cmp .GtE (.loc 5) (.bin .Pow (.int 10) (.int 18))) (.cons (.cmp .Lt (.loc 4) (.bi .len (.ix (.loc 0) (.str "cells")))) .nil)) [.dset (.loc 0) (.str "rest") (.bin .FloorDiv (.loc 5) (.loc 1)), .ret (.bin .Mod (.bi .int (.loc 5)) (.loc 1))] [], .asg 6 (.bin .Mod (.bi .int (.bin .Pow (.bin .Add (.bin .Add (.bin .Mod (.bi .int (.loc 5)) (.int 2147483353)) (.bin .Mult (.int dipA) (.loc 2))) (.int dipB)) (.int 3))) (.int 2147483647)), .asg 6 (.bin .Mod (.bi .int (.bin .Pow (.bin .Add (.loc 6) (.bin .Mult (.int dipC) (.loc 2))) (.int 5))) (.int 2147483587)), .ret (.bin .Mod (.bi .int (.bin .FloorDiv (.loc 6) (.int 128))) (.loc 1))]
def f_law_dip : Fn := ⟨"_law_dip", ["_law_spring_here", "_law_many", "_law_count", "_law_figure", "_law_turn", "_law_cell", "_law_mixed"], 2, b_law_dip⟩
abbrev b_law_pick : List Sx :=
  [.ret (.ix (.loc 1) (.call i_law_dip (.cons (.loc 0) (.cons (.bi .len (.loc 1)) .nil))))]
def f_law_pick : Fn := ⟨"_law_pick", ["_law_spring_here", "_law_items"], 2, b_law_pick⟩
abbrev b_law_pages : List Sx :=
  [.asg 1 (.lst (.cons (.lst (.cons (.str "a") (.cons (.str "b") (.cons (.str "c") .nil)))) (.cons (.lst (.cons (.str "p") (.cons (.str "pq") (.cons (.str "q") .nil)))) (.cons (.lst (.cons (.str "zzzzzzzz") (.cons (.str "a") (.cons (.str "ab") .nil)))) (.cons (.lst (.cons (.str "seal") (.cons (.str "stop") (.cons (.str "keep") .nil)))) .nil))))), .ret (.call i_law_pick (.cons (.loc 0) (.cons (.bin .Add (.loc 1) (.lst (.cons (.lst (.cons (.str "strike") (.cons (.str "write") (.cons (.str "free") .nil)))) (.cons (.lst (.cons (.str "point") (.cons (.str "put") (.cons (.str "flush") .nil)))) .nil)))) .nil)))]
def f_law_pages : Fn := ⟨"_law_pages", ["_law_spring_here", "_law_menu"], 1, b_law_pages⟩
abbrev b_law_log : List Sx :=
  [.par [3, 4, 5] (.cons .dic0 (.cons (.int 0) (.cons (.lstR .nil) .nil))), .fors (.one 6) (.rng (.call i_law_dip (.cons (.loc 0) (.cons (.bin .Add (.loc 2) (.int 1)) .nil)))) [.par [7, 8] (.cons (.call i_law_pick (.cons (.loc 0) (.cons (.loc 1) .nil))) (.cons (.call i_law_dip (.cons (.loc 0) (.cons (.int 6) .nil))) .nil)), .asg 9 (.get2 (.loc 3) (.loc 7) (.str "free")), .asg 4 (.bin .Add (.bin .Add (.loc 4) (.int 1)) (.call i_law_pick (.cons (.loc 0) (.cons (.lst (.cons (.int 0) (.cons (.int 0) (.cons (.int 0) (.cons (.int 1) (.cons (.int 2) (.cons (.bin .Pow (.int 10) (.int 9)) .nil))))))) .nil)))), .ifs (.bop false (.cmp .Eq (.loc 8) (.int 0)) (.cons (.bop true (.cmp .Eq (.loc 8) (.int 1)) (.cons (.cmp .Eq (.loc 9) (.str "plain")) .nil)) .nil)) [.expr (.app (.loc 5) (.tup (.cons (.str "strike") (.cons (.loc 7) .nil))))] [.ifs (.cmp .Eq (.loc 9) (.str "free")) [.dset (.loc 3) (.loc 7) (.call i_law_pick (.cons (.loc 0) (.cons (.lst (.cons (.str "kept") (.cons (.str "kept") (.cons (.str "plain") .nil)))) .nil))), .expr (.app (.loc 5) (.tup (.cons (.ite (.cmp .Eq (.ix (.loc 3) (.loc 7)) (.str "kept")) (.str "keep") (.str "plain")) (.cons (.loc 7) (.cons (.loc 4) .nil)))))] [.ifs (.bop false (.cmp .Lt (.loc 8) (.int 3)) (.cons (.cmp .Eq (.loc 9) (.str "plain")) .nil)) [.dset (.loc 3) (.loc 7) (.str "free"), .expr (.app (.loc 5) (.tup (.cons (.str "free") (.cons (.loc 7) .nil))))] [.expr (.app (.loc 5) (.tup (.cons (.str "write") (.cons (.loc 7) (.cons (.loc 4) .nil)))))]]]], .ret (.bi .tuple (.loc 5))]
def f_law_log : Fn := ⟨"_law_log", ["_law_spring_here", "_law_pages_here", "_law_most", "_law_lives", "_law_made", "_law_found", "_law_lap", "_law_page", "_law_way", "_law_life"], 3, b_law_log⟩
abbrev b_law_fewer : List Sx :=
  [.ret (.bi .tuple (.comp [2] (.one 2) (.seq (.loc 1)) (.cons (.bop false (.cmp .NotEq (.ix (.loc 2) (.int 0)) (.str "strike")) (.cons (.cmp .Eq (.call i_law_dip (.cons (.loc 0) (.cons (.int 2) .nil))) (.int 0)) .nil)) .nil) (.loc 2)))]
def f_law_fewer : Fn := ⟨"_law_fewer", ["_law_spring_here", "_law_log_here", "_law_rec"], 2, b_law_fewer⟩
abbrev b_law_points_right : List Sx :=
  [.asg 1 (.dlist (.bi .list (.call i_puts_in (.cons (.loc 0) (.cons (.int 0) .nil))))), .fors (.one 2) (.rng2 (.int 1) (.bin .Add (.bi .len (.loc 0)) (.int 1))) [.asg 3 (.dlist (.bi .list (.call i_puts_in (.cons (.loc 0) (.cons (.loc 2) .nil))))), .ifs (.cmp .NotEq (.compd [4] (.one 4) (.loc 3) (.cons (.cmp .NotEq (.ix (.loc 3) (.loc 4)) (.get2 (.loc 1) (.loc 4) .non)) .nil) (.loc 4)) (.lst .nil)) [.ret (.bl false)] [], .ford (.one 4) (.loc 3) [.ifs (.bop true (.cmp .NotIn (.tup (.cons (.str "keep") (.cons (.loc 4) (.cons (.ix (.loc 3) (.loc 4)) .nil)))) (.sl (.loc 0) (.so (.loc 2)) .no)) (.cons (.cmp .NotIn (.tup (.cons (.str "write") (.cons (.loc 4) (.cons (.ix (.loc 3) (.loc 4)) .nil)))) (.sl (.loc 0) (.so (.loc 2)) .no)) .nil)) [.ret (.bl false)] []], .asg 1 (.loc 3)], .ret (.deq0 (.loc 1))]
def f_law_points_right : Fn := ⟨"_law_points_right", ["_law_log_here", "_law_ahead", "_law_at", "_law_now", "_law_page"], 1, b_law_points_right⟩
abbrev b_law_nothing_right : List Sx :=
  [.fors (.one 2) (.seq (.loc 1)) [.asgL 3 (.comp [4] (.one 4) (.seq (.loc 0)) (.cons (.bop true (.cmp .Eq (.ix (.loc 4) (.int 1)) (.loc 2)) (.cons (.cmp .In (.ix (.loc 4) (.int 0)) (.tup (.cons (.str "keep") (.cons (.str "write") (.cons (.str "strike") .nil))))) .nil)) .nil) (.ix (.loc 4) (.int 0))), .asgL 5 (.comp [6] (.one 6) (.seq (.loc 3)) (.cons (.cmp .NotEq (.loc 6) (.str "strike")) .nil) (.loc 6)), .ifs (.cmp .NotEq (.cmp .Is (.call i_put_in (.cons (.loc 0) (.cons (.int 0) (.cons (.loc 2) .nil)))) .non) (.bop false (.cmp .Eq (.loc 5) (.lst .nil)) (.cons (.cmp .Eq (.ix (.loc 3) (.neg (.int 1))) (.str "strike")) .nil))) [.ret (.bl false)] []], .ret (.bl true)]
def f_law_nothing_right : Fn := ⟨"_law_nothing_right", ["_law_log_here", "_law_pages_here", "_law_page", "_law_words", "_law_rec", "_law_pictures", "_law_word"], 2, b_law_nothing_right⟩
abbrev b_law : List Sx :=
  [.asg 1 (.call i_law_spring (.cons (.loc 0) .nil)), .asg 2 (.call i_law_pages (.cons (.loc 1) .nil)), .fors (.one 3) (.rng (.int 3)) [.asg 4 (.call i_law_log (.cons (.loc 1) (.cons (.loc 2) (.cons (.int 12) .nil)))), .ifs (.cmp .NotEq (.comp [5] (.one 5) (.rng (.bin .Add (.bi .len (.loc 4)) (.int 1))) (.cons (.cmp .NotEq (.call i_lets_log (.cons (.sl (.loc 4) .no (.so (.loc 5))) .nil)) (.loc 5)) .nil) (.loc 5)) (.lst .nil)) [.ret (.bl false)] [], .asg 6 (.call i_law_fewer (.cons (.loc 1) (.cons (.loc 4) .nil))), .asg 7 (.bi .tuple (.comp [8] (.one 8) (.seq (.loc 4)) (.cons (.cmp .NotEq (.ix (.loc 8) (.int 0)) (.str "strike")) .nil) (.loc 8))), .ifs (.bop false (.cmp .NotEq (.call i_lets_log (.cons (.loc 6) .nil)) (.bi .len (.loc 6))) (.cons (.cmp .NotEq (.call i_lets_log (.cons (.loc 7) .nil)) (.bi .len (.loc 7))) .nil)) [.ret (.bl false)] [], .fors (.one 9) (.seq (.loc 2)) [.asgL 10 (.comp [11] (.one 11) (.seq (.tup (.cons (.loc 4) (.cons (.loc 6) (.cons (.loc 7) .nil))))) .nil (.tup (.cons (.call i_life_in (.cons (.loc 11) (.cons (.loc 9) .nil))) (.cons (.call i_owner_in (.cons (.loc 11) (.cons (.loc 9) .nil))) (.cons (.call i_due_in (.cons (.loc 11) (.cons (.loc 9) .nil))) .nil))))), .ifs (.cmp .NotEq (.bi .repr (.loc 10)) (.bi .repr (.bin .Mult (.lst (.cons (.ix (.loc 10) (.int 0)) .nil)) (.int 3)))) [.ret (.bl false)] [], .asg 12 (.bin .Add (.lst (.cons .non .nil)) (.comp [8] (.one 8) (.seq (.loc 4)) (.cons (.bop true (.cmp .Eq (.ix (.loc 8) (.int 1)) (.loc 9)) (.cons (.cmp .In (.ix (.loc 8) (.int 0)) (.tup (.cons (.str "keep") (.cons (.str "write") .nil)))) .nil)) .nil) (.ix (.loc 8) (.int 2)))), .ifs (.bop false (.cmp .NotEq (.call i_put_in (.cons (.loc 7) (.cons (.int 0) (.cons (.loc 9) .nil)))) (.ix (.loc 12) (.neg (.int 1)))) (.cons (.cmp .NotIn (.call i_put_in (.cons (.loc 4) (.cons (.int 0) (.cons (.loc 9) .nil)))) (.tup (.cons .non (.cons (.ix (.loc 12) (.neg (.int 1))) .nil)))) .nil)) [.ret (.bl false)] []], .ifs (.bop false (.cmp .NotEq (.call i_struck_in (.cons (.loc 7) (.cons (.int 0) .nil))) (.tup .nil)) (.cons (.not (.call i_law_points_right (.cons (.loc 4) .nil))) (.cons (.not (.call i_law_points_right (.cons (.loc 6) .nil))) .nil))) [.ret (.bl false)] [], .ifs (.bop false (.not (.call i_law_nothing_right (.cons (.loc 4) (.cons (.loc 2) .nil)))) (.cons (.not (.call i_law_nothing_right (.cons (.loc 6) (.cons (.loc 2) .nil)))) .nil)) [.ret (.bl false)] []], .ret (.bl true)]
def f_law : Fn := ⟨"law", ["_law_script", "_law_spring_here", "_law_pages_here", "_law_lap", "_law_log_here", "_law_j", "_law_less", "_law_bare", "_law_rec", "_law_page", "_law_own", "_law_one", "_law_numbers"], 1, b_law⟩
def fns : List Fn := [f_ascending, f_is_integer, f_is_number, f_is_page, f_record_parts, f_has_word, f_is_part, f_are_parts, f_is_record, f_last_index, f_life_told, f_owner_told, f_due_told, f_pages_told, f_put_index, f_put_told, f_is_struck, f_lets_log, f_is_log, f_log_fault, f_can_come, f_need, f_life_in, f_owner_in, f_due_in, f_put_in, f_puts_in, f_struck_in, f_need_page, f_need_point, f_law_spring, f_law_dip, f_law_pick, f_law_pages, f_law_log, f_law_fewer, f_law_points_right, f_law_nothing_right, f_law]
def srcs : List Src := [srcAt "ascending" 1, srcAt "is_integer" 5, srcAt "is_number" 6, srcAt "is_page" 7, srcAt "record_parts" 8, srcAt "has_word" 9, srcAt "is_part" 10, srcAt "are_parts" 11, srcAt "is_record" 12, srcAt "last_index" 24, srcAt "life_told" 25, srcAt "owner_told" 26, srcAt "due_told" 27, srcAt "pages_told" 28, srcAt "put_index" 29, srcAt "put_told" 30, srcAt "is_struck" 31, srcAt "lets_log" 33, srcAt "is_log" 34, srcAt "log_fault" 35, srcAt "can_come" 36, srcAt "need" 38, srcAt "life_in" 40, srcAt "owner_in" 41, srcAt "due_in" 42, srcAt "put_in" 43, srcAt "puts_in" 44, srcAt "struck_in" 45, srcAt "need_page" 46, srcAt "need_point" 47, srcAt "_law_spring" 49, srcAt "_law_dip" 50, srcAt "_law_pick" 51, srcAt "_law_pages" 52, srcAt "_law_log" 53, srcAt "_law_fewer" 54, srcAt "_law_points_right" 55, srcAt "_law_nothing_right" 56, srcAt "law" 57]
def T : Tab := ⟨fns, [("LETTERS", d_LETTERS), ("TURNS", d_TURNS), ("PICTURES", d_PICTURES), ("STRIKES", d_STRIKES)], [("RECORD_PARTS", t_RECORD_PARTS), ("LIVES", t_LIVES)]⟩
theorem ck0 : ckFn T f_ascending (srcAt "ascending" 1) = true := by kernel_rfl
theorem ck1 : ckFn T f_is_integer (srcAt "is_integer" 5) = true := by kernel_rfl
theorem ck2 : ckFn T f_is_number (srcAt "is_number" 6) = true := by kernel_rfl
theorem ck3 : ckFn T f_is_page (srcAt "is_page" 7) = true := by kernel_rfl
theorem ck4 : ckFn T f_record_parts (srcAt "record_parts" 8) = true := by kernel_rfl
theorem ck5 : ckFn T f_has_word (srcAt "has_word" 9) = true := by kernel_rfl
theorem ck6 : ckFn T f_is_part (srcAt "is_part" 10) = true := by kernel_rfl
theorem ck7 : ckFn T f_are_parts (srcAt "are_parts" 11) = true := by kernel_rfl
theorem ck8 : ckFn T f_is_record (srcAt "is_record" 12) = true := by kernel_rfl
theorem ck9 : ckFn T f_last_index (srcAt "last_index" 24) = true := by kernel_rfl
theorem ck10 : ckFn T f_life_told (srcAt "life_told" 25) = true := by kernel_rfl
theorem ck11 : ckFn T f_owner_told (srcAt "owner_told" 26) = true := by kernel_rfl
theorem ck12 : ckFn T f_due_told (srcAt "due_told" 27) = true := by kernel_rfl
theorem ck13 : ckFn T f_pages_told (srcAt "pages_told" 28) = true := by kernel_rfl
theorem ck14 : ckFn T f_put_index (srcAt "put_index" 29) = true := by kernel_rfl
theorem ck15 : ckFn T f_put_told (srcAt "put_told" 30) = true := by kernel_rfl
theorem ck16 : ckFn T f_is_struck (srcAt "is_struck" 31) = true := by kernel_rfl
theorem ck17 : ckFn T f_lets_log (srcAt "lets_log" 33) = true := by kernel_rfl
theorem ck18 : ckFn T f_is_log (srcAt "is_log" 34) = true := by kernel_rfl
theorem ck19 : ckFn T f_log_fault (srcAt "log_fault" 35) = true := by kernel_rfl
theorem ck20 : ckFn T f_can_come (srcAt "can_come" 36) = true := by kernel_rfl
theorem ck21 : ckFn T f_need (srcAt "need" 38) = true := by kernel_rfl
theorem ck22 : ckFn T f_life_in (srcAt "life_in" 40) = true := by kernel_rfl
theorem ck23 : ckFn T f_owner_in (srcAt "owner_in" 41) = true := by kernel_rfl
theorem ck24 : ckFn T f_due_in (srcAt "due_in" 42) = true := by kernel_rfl
theorem ck25 : ckFn T f_put_in (srcAt "put_in" 43) = true := by kernel_rfl
theorem ck26 : ckFn T f_puts_in (srcAt "puts_in" 44) = true := by kernel_rfl
theorem ck27 : ckFn T f_struck_in (srcAt "struck_in" 45) = true := by kernel_rfl
theorem ck28 : ckFn T f_need_page (srcAt "need_page" 46) = true := by kernel_rfl
theorem ck29 : ckFn T f_need_point (srcAt "need_point" 47) = true := by kernel_rfl
theorem ck30 : ckFn T f_law_spring (srcAt "_law_spring" 49) = true := by kernel_rfl
theorem ck31 : ckFn T f_law_dip (srcAt "_law_dip" 50) = true := by kernel_rfl
theorem ck32 : ckFn T f_law_pick (srcAt "_law_pick" 51) = true := by kernel_rfl
theorem ck33 : ckFn T f_law_pages (srcAt "_law_pages" 52) = true := by kernel_rfl
theorem ck34 : ckFn T f_law_log (srcAt "_law_log" 53) = true := by kernel_rfl
theorem ck35 : ckFn T f_law_fewer (srcAt "_law_fewer" 54) = true := by kernel_rfl
theorem ck36 : ckFn T f_law_points_right (srcAt "_law_points_right" 55) = true := by kernel_rfl
theorem ck37 : ckFn T f_law_nothing_right (srcAt "_law_nothing_right" 56) = true := by kernel_rfl
theorem ck38 : ckFn T f_law (srcAt "law" 57) = true := by kernel_rfl
theorem c_ascending {n : Nat} {S : Sto} {Q : R → Sto → Prop} {r0 : R} (h : WS (callN fns n) b_ascending [some r0] S (finQ S Q)) : WC fns (n + 1) i_ascending [r0] S Q := wc_of rfl rfl h
theorem c_is_integer {n : Nat} {S : Sto} {Q : R → Sto → Prop} {r0 : R} (h : WS (callN fns n) b_is_integer [some r0] S (finQ S Q)) : WC fns (n + 1) i_is_integer [r0] S Q := wc_of rfl rfl h
theorem c_is_number {n : Nat} {S : Sto} {Q : R → Sto → Prop} {r0 : R} (h : WS (callN fns n) b_is_number [some r0] S (finQ S Q)) : WC fns (n + 1) i_is_number [r0] S Q := wc_of rfl rfl h
theorem c_is_page {n : Nat} {S : Sto} {Q : R → Sto → Prop} {r0 : R} (h : WS (callN fns n) b_is_page [some r0, none] S (finQ S Q)) : WC fns (n + 1) i_is_page [r0] S Q := wc_of rfl rfl h
theorem c_record_parts {n : Nat} {S : Sto} {Q : R → Sto → Prop} {r0 : R} (h : WS (callN fns n) b_record_parts [some r0] S (finQ S Q)) : WC fns (n + 1) i_record_parts [r0] S Q := wc_of rfl rfl h
theorem c_has_word {n : Nat} {S : Sto} {Q : R → Sto → Prop} {r0 : R} (h : WS (callN fns n) b_has_word [some r0] S (finQ S Q)) : WC fns (n + 1) i_has_word [r0] S Q := wc_of rfl rfl h
theorem c_is_part {n : Nat} {S : Sto} {Q : R → Sto → Prop} {r0 r1 : R} (h : WS (callN fns n) b_is_part [some r0, some r1] S (finQ S Q)) : WC fns (n + 1) i_is_part [r0, r1] S Q := wc_of rfl rfl h
theorem c_are_parts {n : Nat} {S : Sto} {Q : R → Sto → Prop} {r0 r1 : R} (h : WS (callN fns n) b_are_parts [some r0, some r1, none, none] S (finQ S Q)) : WC fns (n + 1) i_are_parts [r0, r1] S Q := wc_of rfl rfl h
theorem c_is_record {n : Nat} {S : Sto} {Q : R → Sto → Prop} {r0 : R} (h : WS (callN fns n) b_is_record [some r0] S (finQ S Q)) : WC fns (n + 1) i_is_record [r0] S Q := wc_of rfl rfl h
theorem c_last_index {n : Nat} {S : Sto} {Q : R → Sto → Prop} {r0 r1 r2 : R} (h : WS (callN fns n) b_last_index [some r0, some r1, some r2, none, none, none] S (finQ S Q)) : WC fns (n + 1) i_last_index [r0, r1, r2] S Q := wc_of rfl rfl h
theorem c_life_told {n : Nat} {S : Sto} {Q : R → Sto → Prop} {r0 r1 : R} (h : WS (callN fns n) b_life_told [some r0, some r1, none] S (finQ S Q)) : WC fns (n + 1) i_life_told [r0, r1] S Q := wc_of rfl rfl h
theorem c_owner_told {n : Nat} {S : Sto} {Q : R → Sto → Prop} {r0 r1 : R} (h : WS (callN fns n) b_owner_told [some r0, some r1, none] S (finQ S Q)) : WC fns (n + 1) i_owner_told [r0, r1] S Q := wc_of rfl rfl h
theorem c_due_told {n : Nat} {S : Sto} {Q : R → Sto → Prop} {r0 r1 : R} (h : WS (callN fns n) b_due_told [some r0, some r1] S (finQ S Q)) : WC fns (n + 1) i_due_told [r0, r1] S Q := wc_of rfl rfl h
theorem c_pages_told {n : Nat} {S : Sto} {Q : R → Sto → Prop} {r0 : R} (h : WS (callN fns n) b_pages_told [some r0, none] S (finQ S Q)) : WC fns (n + 1) i_pages_told [r0] S Q := wc_of rfl rfl h
theorem c_put_index {n : Nat} {S : Sto} {Q : R → Sto → Prop} {r0 r1 r2 : R} (h : WS (callN fns n) b_put_index [some r0, some r1, some r2, none] S (finQ S Q)) : WC fns (n + 1) i_put_index [r0, r1, r2] S Q := wc_of rfl rfl h
theorem c_put_told {n : Nat} {S : Sto} {Q : R → Sto → Prop} {r0 r1 r2 : R} (h : WS (callN fns n) b_put_told [some r0, some r1, some r2, none] S (finQ S Q)) : WC fns (n + 1) i_put_told [r0, r1, r2] S Q := wc_of rfl rfl h
theorem c_is_struck {n : Nat} {S : Sto} {Q : R → Sto → Prop} {r0 r1 : R} (h : WS (callN fns n) b_is_struck [some r0, some r1, none] S (finQ S Q)) : WC fns (n + 1) i_is_struck [r0, r1] S Q := wc_of rfl rfl h
theorem c_lets_log {n : Nat} {S : Sto} {Q : R → Sto → Prop} {r0 : R} (h : WS (callN fns n) b_lets_log [some r0, none] S (finQ S Q)) : WC fns (n + 1) i_lets_log [r0] S Q := wc_of rfl rfl h
theorem c_is_log {n : Nat} {S : Sto} {Q : R → Sto → Prop} {r0 : R} (h : WS (callN fns n) b_is_log [some r0] S (finQ S Q)) : WC fns (n + 1) i_is_log [r0] S Q := wc_of rfl rfl h
theorem c_log_fault {n : Nat} {S : Sto} {Q : R → Sto → Prop} {r0 : R} (h : WS (callN fns n) b_log_fault [some r0, none, none, none, none, none, none] S (finQ S Q)) : WC fns (n + 1) i_log_fault [r0] S Q := wc_of rfl rfl h
theorem c_can_come {n : Nat} {S : Sto} {Q : R → Sto → Prop} {r0 r1 : R} (h : WS (callN fns n) b_can_come [some r0, some r1] S (finQ S Q)) : WC fns (n + 1) i_can_come [r0, r1] S Q := wc_of rfl rfl h
theorem c_need {n : Nat} {S : Sto} {Q : R → Sto → Prop} {r0 r1 : R} (h : WS (callN fns n) b_need [some r0, some r1] S (finQ S Q)) : WC fns (n + 1) i_need [r0, r1] S Q := wc_of rfl rfl h
theorem c_life_in {n : Nat} {S : Sto} {Q : R → Sto → Prop} {r0 r1 : R} (h : WS (callN fns n) b_life_in [some r0, some r1] S (finQ S Q)) : WC fns (n + 1) i_life_in [r0, r1] S Q := wc_of rfl rfl h
theorem c_owner_in {n : Nat} {S : Sto} {Q : R → Sto → Prop} {r0 r1 : R} (h : WS (callN fns n) b_owner_in [some r0, some r1] S (finQ S Q)) : WC fns (n + 1) i_owner_in [r0, r1] S Q := wc_of rfl rfl h
theorem c_due_in {n : Nat} {S : Sto} {Q : R → Sto → Prop} {r0 r1 : R} (h : WS (callN fns n) b_due_in [some r0, some r1] S (finQ S Q)) : WC fns (n + 1) i_due_in [r0, r1] S Q := wc_of rfl rfl h
theorem c_put_in {n : Nat} {S : Sto} {Q : R → Sto → Prop} {r0 r1 r2 : R} (h : WS (callN fns n) b_put_in [some r0, some r1, some r2] S (finQ S Q)) : WC fns (n + 1) i_put_in [r0, r1, r2] S Q := wc_of rfl rfl h
theorem c_puts_in {n : Nat} {S : Sto} {Q : R → Sto → Prop} {r0 r1 : R} (h : WS (callN fns n) b_puts_in [some r0, some r1, none, none, none] S (finQ S Q)) : WC fns (n + 1) i_puts_in [r0, r1] S Q := wc_of rfl rfl h
theorem c_struck_in {n : Nat} {S : Sto} {Q : R → Sto → Prop} {r0 r1 : R} (h : WS (callN fns n) b_struck_in [some r0, some r1, none, none, none] S (finQ S Q)) : WC fns (n + 1) i_struck_in [r0, r1] S Q := wc_of rfl rfl h
theorem c_need_page {n : Nat} {S : Sto} {Q : R → Sto → Prop} {r0 r1 : R} (h : WS (callN fns n) b_need_page [some r0, some r1] S (finQ S Q)) : WC fns (n + 1) i_need_page [r0, r1] S Q := wc_of rfl rfl h
theorem c_need_point {n : Nat} {S : Sto} {Q : R → Sto → Prop} {r0 r1 : R} (h : WS (callN fns n) b_need_point [some r0, some r1] S (finQ S Q)) : WC fns (n + 1) i_need_point [r0, r1] S Q := wc_of rfl rfl h
theorem c_law_spring {n : Nat} {S : Sto} {Q : R → Sto → Prop} {r0 : R} (h : WS (callN fns n) b_law_spring [some r0] S (finQ S Q)) : WC fns (n + 1) i_law_spring [r0] S Q := wc_of rfl rfl h
theorem c_law_dip {n : Nat} {S : Sto} {Q : R → Sto → Prop} {r0 r1 : R} (h : WS (callN fns n) b_law_dip [some r0, some r1, none, none, none, none, none] S (finQ S Q)) : WC fns (n + 1) i_law_dip [r0, r1] S Q := wc_of rfl rfl h
theorem c_law_pick {n : Nat} {S : Sto} {Q : R → Sto → Prop} {r0 r1 : R} (h : WS (callN fns n) b_law_pick [some r0, some r1] S (finQ S Q)) : WC fns (n + 1) i_law_pick [r0, r1] S Q := wc_of rfl rfl h
theorem c_law_pages {n : Nat} {S : Sto} {Q : R → Sto → Prop} {r0 : R} (h : WS (callN fns n) b_law_pages [some r0, none] S (finQ S Q)) : WC fns (n + 1) i_law_pages [r0] S Q := wc_of rfl rfl h
theorem c_law_log {n : Nat} {S : Sto} {Q : R → Sto → Prop} {r0 r1 r2 : R} (h : WS (callN fns n) b_law_log [some r0, some r1, some r2, none, none, none, none, none, none, none] S (finQ S Q)) : WC fns (n + 1) i_law_log [r0, r1, r2] S Q := wc_of rfl rfl h
theorem c_law_fewer {n : Nat} {S : Sto} {Q : R → Sto → Prop} {r0 r1 : R} (h : WS (callN fns n) b_law_fewer [some r0, some r1, none] S (finQ S Q)) : WC fns (n + 1) i_law_fewer [r0, r1] S Q := wc_of rfl rfl h
theorem c_law_points_right {n : Nat} {S : Sto} {Q : R → Sto → Prop} {r0 : R} (h : WS (callN fns n) b_law_points_right [some r0, none, none, none, none] S (finQ S Q)) : WC fns (n + 1) i_law_points_right [r0] S Q := wc_of rfl rfl h
theorem c_law_nothing_right {n : Nat} {S : Sto} {Q : R → Sto → Prop} {r0 r1 : R} (h : WS (callN fns n) b_law_nothing_right [some r0, some r1, none, none, none, none, none] S (finQ S Q)) : WC fns (n + 1) i_law_nothing_right [r0, r1] S Q := wc_of rfl rfl h
theorem c_law {n : Nat} {S : Sto} {Q : R → Sto → Prop} {r0 : R} (h : WS (callN fns n) b_law [some r0, none, none, none, none, none, none, none, none, none, none, none, none] S (finQ S Q)) : WC fns (n + 1) i_law [r0] S Q := wc_of rfl rfl h
end PL.W
end
section
set_option maxHeartbeats 0
namespace PL.W
open PySem PySem.Spec PyProof.Rows L2 PL
abbrev Rw : PySem.W.OpenRow := PySem.W.OpenLaw.row PySem.Challenge.rw_pagelives_k05_whole_parts_of_logs
abbrev hk : PySem.W.Hook := He.hookX 4 (faOf T) (fnsOf T srcs) (tsOf T) [] (exB T)
def ob (s : PySem.W.SharedT) : He.AlX := He.obsX 4 (faOf T) (fnsOf T srcs) (tsOf T) [] (exB T) (HandSHeadRun.getT s)
theorem ob_eq (s : PySem.W.SharedT) : ob s = hk.obs s.abs := He.obsX_eq (HandSHeadRun.getT_eq s)
def names0 : List PySem.Str := ["ascending", "LETTERS", "RECORD_PARTS", "is_integer", "is_number", "is_page", "record_parts", "has_word", "is_part", "are_parts", "is_record", "PageError", "PaperError", "StoreError", "InvalidPaper", "NotUsable", "TURNS", "PICTURES", "STRIKES", "LIVES"]
def names1 : List PySem.Str := ["last_index", "life_told", "owner_told", "due_told", "pages_told", "put_index", "put_told", "is_struck", "lets_log", "is_log", "log_fault", "can_come", "need", "life_in", "owner_in", "due_in", "put_in", "puts_in", "struck_in", "need_page"]
def names2 : List PySem.Str := ["need_point", "_law_spring", "_law_dip", "_law_pick", "_law_pages", "_law_log", "_law_fewer", "_law_points_right", "_law_nothing_right"]
def names : List PySem.Str := names0 ++ names1 ++ names2
abbrev lawAt : Nat := 57
theorem hrunF (w : World) : HandSHeadRun.RunEq Rw (PySem.W.view Rw.prog [lawAt]) hk ob 4000 names (w.withFollow "special-get-raises" false) := by
  intro os
  kernel_rfl
theorem hrunT (w : World) : HandSHeadRun.RunEq Rw (PySem.W.view Rw.prog [lawAt]) hk ob 4000 names (w.withFollow "special-get-raises" true) := by
  intro os
  kernel_rfl
theorem hrun (w : World) : HandSHeadRun.RunEq Rw (PySem.W.view Rw.prog [lawAt]) hk ob 4000 names w :=
  PySem.W.byRow2 "special-get-raises" (P := fun w => HandSHeadRun.RunEq Rw (PySem.W.view Rw.prog [lawAt]) hk ob 4000 names w) hrunF hrunT w
end PL.W
end
section
set_option maxHeartbeats 2000000
namespace PL
open PySem PySem.Spec PyProof.Rows L2
section
variable {i j : Int} {a b : Str} {S : Sto} {Q : D → Prop} {xs ys : List D} {k : Bool} {B : Bool → Prop}
theorem lf_add (q : Q (.int (i + j))) : ∃ g w, gBin .Add = some g ∧ bin2 g (.d (.int i)) (.d (.int j)) S = some w ∧ Q w := ⟨_, _, rfl, rfl, q⟩
theorem lf_sub (q : Q (.int (i - j))) : ∃ g w, gBin .Sub = some g ∧ bin2 g (.d (.int i)) (.d (.int j)) S = some w ∧ Q w := ⟨_, _, rfl, rfl, q⟩
theorem lf_mul (h : i.natAbs.log2 + j.natAbs.log2 < 1000000) (q : Q (.int (i * j))) : ∃ g w, gBin .Mult = some g ∧ bin2 g (.d (.int i)) (.d (.int j)) S = some w ∧ Q w :=
  ⟨_, _, rfl, (show (if i.natAbs.log2 + j.natAbs.log2 < 1000000 then some (PyData.int (i * j)) else none) = _ by rw [if_pos h]), q⟩
theorem lf_mod (h : 0 < j) (q : Q (.int (i % j))) : ∃ g w, gBin .Mod = some g ∧ bin2 g (.d (.int i)) (.d (.int j)) S = some w ∧ Q w :=
  ⟨_, _, rfl, (show (if 0 < j then some (PyData.int (i % j)) else none) = _ by rw [if_pos h]), q⟩
theorem lf_div (h : 0 < j ∧ j.natAbs.log2 < 9000) (q : Q (.int (i / j))) : ∃ g w, gBin .FloorDiv = some g ∧ bin2 g (.d (.int i)) (.d (.int j)) S = some w ∧ Q w :=
  ⟨_, _, rfl, (show (if 0 < j ∧ j.natAbs.log2 < 9000 then some (PyData.int (i / j)) else none) = _ by rw [if_pos h]), q⟩
theorem lf_pow (h : 0 ≤ j ∧ j ≤ 1000000 ∧ i.natAbs < 2 ^ 64) (q : Q (.int (i ^ j.toNat))) : ∃ g w, gBin .Pow = some g ∧ bin2 g (.d (.int i)) (.d (.int j)) S = some w ∧ Q w :=
  ⟨_, _, rfl, (show (if 0 ≤ j ∧ j ≤ 1000000 ∧ i.natAbs < 2 ^ 64 then some (PyData.int (i ^ j.toNat)) else none) = _ by rw [if_pos h]), q⟩
theorem lf_addT (h : xs.length + ys.length ≤ sizeLine) (q : Q (.tuple (xs ++ ys))) : ∃ g w, gBin .Add = some g ∧ bin2 g (.d (.tuple xs)) (.d (.tuple ys)) S = some w ∧ Q w :=
  ⟨_, _, rfl, (show (if xs.length + ys.length ≤ sizeLine then some (PyData.tuple (xs ++ ys)) else none) = _ by rw [if_pos h]), q⟩
theorem lf_addL (h : xs.length + ys.length ≤ sizeLine) (q : Q (.list (xs ++ ys))) : ∃ g w, gBin .Add = some g ∧ bin2 g (.d (.list xs)) (.d (.list ys)) S = some w ∧ Q w :=
  ⟨_, _, rfl, (show (if xs.length + ys.length ≤ sizeLine then some (PyData.list (xs ++ ys)) else none) = _ by rw [if_pos h]), q⟩
theorem lf_lt (q : Q (.bool (decide (i < j)))) : ∃ w, bin2 (gCmp .Lt) (.d (.int i)) (.d (.int j)) S = some w ∧ Q w := ⟨_, rfl, q⟩
theorem lf_le (q : Q (.bool (decide (i ≤ j)))) : ∃ w, bin2 (gCmp .LtE) (.d (.int i)) (.d (.int j)) S = some w ∧ Q w := ⟨_, rfl, q⟩
theorem lf_gt (q : Q (.bool (decide (j < i)))) : ∃ w, bin2 (gCmp .Gt) (.d (.int i)) (.d (.int j)) S = some w ∧ Q w := ⟨_, rfl, q⟩
theorem lf_ge (q : Q (.bool (decide (j ≤ i)))) : ∃ w, bin2 (gCmp .GtE) (.d (.int i)) (.d (.int j)) S = some w ∧ Q w := ⟨_, rfl, q⟩
theorem lf_eqI (q : Q (.bool (decide (i = j)))) : ∃ w, bin2 (gCmp .Eq) (.d (.int i)) (.d (.int j)) S = some w ∧ Q w := ⟨_, rfl, q⟩
theorem lf_neI (q : Q (.bool (!decide (i = j)))) : ∃ w, bin2 (gCmp .NotEq) (.d (.int i)) (.d (.int j)) S = some w ∧ Q w := ⟨_, rfl, q⟩
theorem eqvS : PyData.eqv (.str a) (.str b) = decide (a = b) := by
  show (a == b) = _
  by_cases h : a = b
  · subst h; rw [decide_eq_true rfl]; exact beq_self_eq_true a
  · rw [decide_eq_false h]; exact beq_eq_false_iff_ne.mpr h
theorem lf_eqS (q : Q (.bool (decide (a = b)))) : ∃ w, bin2 (gCmp .Eq) (.d (.str a)) (.d (.str b)) S = some w ∧ Q w := ⟨_, by rw [← eqvS]; rfl, q⟩
theorem lf_neS (q : Q (.bool (!decide (a = b)))) : ∃ w, bin2 (gCmp .NotEq) (.d (.str a)) (.d (.str b)) S = some w ∧ Q w := ⟨_, by rw [← eqvS]; rfl, q⟩
theorem lf_isN (q : Q (.bool true)) : ∃ w, bin2 (gCmp .Is) (.d .none) (.d .none) S = some w ∧ Q w := ⟨_, rfl, q⟩
theorem lf_isI (q : Q (.bool false)) : ∃ w, bin2 (gCmp .Is) (.d (.int i)) (.d .none) S = some w ∧ Q w := ⟨_, rfl, q⟩
theorem lf_isnN (q : Q (.bool false)) : ∃ w, bin2 (gCmp .IsNot) (.d .none) (.d .none) S = some w ∧ Q w := ⟨_, rfl, q⟩
theorem lf_isnI (q : Q (.bool true)) : ∃ w, bin2 (gCmp .IsNot) (.d (.int i)) (.d .none) S = some w ∧ Q w := ⟨_, rfl, q⟩
theorem lf_tb (q : B k) : ∃ t, truth (.d (.bool k)) S = some t ∧ B t := ⟨_, rfl, q⟩
theorem lf_tl (q : B (!xs.isEmpty)) : ∃ t, truth (.d (.list xs)) S = some t ∧ B t := ⟨_, rfl, q⟩
theorem lf_tt (q : B (!xs.isEmpty)) : ∃ t, truth (.d (.tuple xs)) S = some t ∧ B t := ⟨_, rfl, q⟩
theorem lf_int (q : Q (.int i)) : ∃ w, un1 (Bi.fn .int) (.d (.int i)) S = some w ∧ Q w := ⟨_, rfl, q⟩
theorem lf_lenL (q : Q (.int xs.length)) : ∃ w, un1 (Bi.fn .len) (.d (.list xs)) S = some w ∧ Q w := ⟨_, rfl, q⟩
theorem lf_lenT (q : Q (.int xs.length)) : ∃ w, un1 (Bi.fn .len) (.d (.tuple xs)) S = some w ∧ Q w := ⟨_, rfl, q⟩
theorem lf_lenS (h : a.length ≤ sizeLine) (q : Q (.int a.length)) : ∃ w, un1 (Bi.fn .len) (.d (.str a)) S = some w ∧ Q w := ⟨_, (show (if a.length ≤ sizeLine then some (PyData.int a.length) else none) = _ by rw [if_pos h]), q⟩
theorem lf_tupL (q : Q (.tuple xs)) : ∃ w, un1 (Bi.fn .tuple) (.d (.list xs)) S = some w ∧ Q w := ⟨_, rfl, q⟩
theorem lf_tupT (q : Q (.tuple xs)) : ∃ w, un1 (Bi.fn .tuple) (.d (.tuple xs)) S = some w ∧ Q w := ⟨_, rfl, q⟩
theorem lf_listL (q : Q (.list xs)) : ∃ w, un1 (Bi.fn .list) (.d (.list xs)) S = some w ∧ Q w := ⟨_, rfl, q⟩
theorem lf_listT (q : Q (.list xs)) : ∃ w, un1 (Bi.fn .list) (.d (.tuple xs)) S = some w ∧ Q w := ⟨_, rfl, q⟩
theorem lf_view {x w : D} {Q : D → Prop} (q : Q x) : ∃ w, view (.d x) S = some w ∧ Q w := ⟨_, rfl, q⟩
theorem lf_ix0T {d : D} (q : Q d) : ∃ w, ixR (.d (.tuple (d :: xs))) (.d (.int 0)) S = some w ∧ Q w :=
  ⟨d, (show atI (d :: xs) 0 = _ by unfold atI ixN; rw [if_pos (by decide), if_pos (by rw [List.length_cons]; omega)]; rfl), q⟩
theorem lf_ix1T {c d : D} (q : Q d) : ∃ w, ixR (.d (.tuple (c :: d :: xs))) (.d (.int 1)) S = some w ∧ Q w :=
  ⟨d, (show atI (c :: d :: xs) 1 = _ by unfold atI ixN; rw [if_pos (by decide), if_pos (by rw [List.length_cons, List.length_cons]; omega)]; rfl), q⟩
theorem lf_ix2T {b c d : D} (q : Q d) : ∃ w, ixR (.d (.tuple (b :: c :: d :: xs))) (.d (.int 2)) S = some w ∧ Q w :=
  ⟨d, (show atI (b :: c :: d :: xs) 2 = _ by unfold atI ixN; rw [if_pos (by decide), if_pos (by rw [List.length_cons, List.length_cons, List.length_cons]; omega)]; rfl), q⟩
theorem lf_sl1 {d : D} (q : Q (.tuple xs)) : ∃ w, slR (.d (.tuple (d :: xs))) (some 1) none S = some w ∧ Q w := by
  have e : cutL (d :: xs) (some 1) none = xs := by
    unfold cutL
    have h1 : HT.sIx (d :: xs).length 0 (some 1) = 1 := by
      simp only [HT.sIx, List.length_cons]
      simp
    have h2 : HT.sIx (d :: xs).length (d :: xs).length none = (d :: xs).length := rfl
    rw [h1, h2]
    simp
  exact ⟨_, (show some (PyData.tuple (cutL (d :: xs) (some 1) none)) = _ by rw [e]), q⟩
theorem flatS (a : Str) (ys : List Str) : (ys.map PyData.str).all flatD = true := by
  rw [List.all_map, List.all_eq_true]
  intro x _
  rfl
theorem lf_inM {ys : List Str} (q : Q (.bool (decide (a ∈ ys)))) : ∃ w, bin2 (gCmp .In) (.d (.str a)) (.d (.tuple (ys.map .str))) S = some w ∧ Q w := by
  refine ⟨_, ?_, q⟩
  clear q
  show (inSeq (.str a) (ys.map .str)).map PyData.bool = _
  unfold inSeq
  rw [if_pos (.inl ⟨flatS a ys, rfl⟩), Option.map_some]
  congr 2
  induction ys with
  | nil => simp
  | cons y r ih =>
    rw [List.map_cons, List.any_cons, ih, eqvS]
    by_cases h : y = a
    · subst h; simp
    · have : ¬ a = y := fun z => h z.symm
      simp [h, this]
theorem lf_in2 {b c : Str} (q : Q (.bool (decide (a = b) || decide (a = c)))) : ∃ w, bin2 (gCmp .In) (.d (.str a)) (.d (.tuple [.str b, .str c])) S = some w ∧ Q w := by
  have := lf_inM (a := a) (S := S) (ys := [b, c]) (Q := Q)
  refine this ?_
  have e : decide (a ∈ [b, c]) = (decide (a = b) || decide (a = c)) := by simp
  rw [e]; exact q
theorem lf_in3 {b c d : Str} (q : Q (.bool (decide (a = b) || (decide (a = c) || decide (a = d))))) : ∃ w, bin2 (gCmp .In) (.d (.str a)) (.d (.tuple [.str b, .str c, .str d])) S = some w ∧ Q w := by
  have := lf_inM (a := a) (S := S) (ys := [b, c, d]) (Q := Q)
  refine this ?_
  have e : decide (a ∈ [b, c, d]) = (decide (a = b) || (decide (a = c) || decide (a = d))) := by simp
  rw [e]; exact q
theorem lf_slL {lo hi : Option Int} (q : Q (.list (cutL xs lo hi))) : ∃ w, slR (.d (.list xs)) lo hi S = some w ∧ Q w := ⟨_, rfl, q⟩
theorem lf_slT {lo hi : Option Int} (q : Q (.tuple (cutL xs lo hi))) : ∃ w, slR (.d (.tuple xs)) lo hi S = some w ∧ Q w := ⟨_, rfl, q⟩
end
end PL
end
section
set_option maxHeartbeats 2000000
namespace PL
open PySem PySem.Spec PyProof.Rows L2
/-! what may be shown -/
structure Neat (k w : Nat) (d : D) : Prop where
  lay : d.canLay0 = true
  sh : d.showable = true
  dep : d.depth ≤ k
  wt : d.weight ≤ w
  isn : d.intsShort 62 = true
theorem Neat.mono {k w k' w' : Nat} {d : D} (h : Neat k w d) (hk : k ≤ k') (hw : w ≤ w') : Neat k' w' d := ⟨h.lay, h.sh, Nat.le_trans h.dep hk, Nat.le_trans h.wt hw, h.isn⟩
theorem neat_none {k w : Nat} : Neat k w .none := ⟨rfl, rfl, by simp [PyData.depth], by simp [PyData.weight], rfl⟩
theorem neat_bool {k w : Nat} {b : Bool} : Neat k w (.bool b) := ⟨rfl, rfl, by simp [PyData.depth], by simp [PyData.weight], rfl⟩
theorem neat_str {k w : Nat} {x : Str} (h : PyData.strOk x = true) (hl : x.length ≤ w) : Neat k w (.str x) := ⟨by simpa [PyData.canLay0] using h, rfl, by simp [PyData.depth], by simp only [PyData.weight]; exact hl, rfl⟩
theorem lg_lt {a b : Nat} (h : a < 2 ^ b) (hb : 0 < b) : a.log2 < b := by
  by_cases ha : a = 0
  · subst ha; simpa using hb
  · exact (Nat.log2_lt ha).mpr h
theorem neat_int {k : Nat} {i : Int} (h : i.natAbs < 10 ^ 60) : Neat k 200 (.int i) := by
  have h2 : i.natAbs < 2 ^ 200 := Nat.lt_of_lt_of_le h (by decide)
  have l := lg_lt h2 (by decide)
  refine ⟨rfl, ?_, by simp [PyData.depth], ?_, ?_⟩
  · simp only [PyData.showable, decide_eq_true_eq]; omega
  · simp only [PyData.weight]
    split
    · omega
    · omega
  · simp only [PyData.intsShort, decide_eq_true_eq]
    have e := int_text_length_le10 (k := 60) (by decide) h
    show (Str.ofString (toString i)).length ≤ 62
    rw [PySem.ofString_length]
    omega
theorem neat_all {k w : Nat} : ∀ {ds : List D}, (∀ d ∈ ds, Neat k w d) → PyData.canLayAll0 ds = true ∧ PyData.showableAll ds = true ∧ PyData.depthAll ds ≤ k ∧ PyData.weightAll ds ≤ ds.length * (w + 1) ∧ PyData.intsShortAll 62 ds = true
  | [], _ => ⟨rfl, rfl, by simp [PyData.depthAll], by simp [PyData.weightAll], rfl⟩
  | d :: ds, h => by
    obtain ⟨a, b, c, e, f⟩ := neat_all (ds := ds) fun x hx => h x (List.mem_cons_of_mem _ hx)
    have hd := h d List.mem_cons_self
    refine ⟨by simp [PyData.canLayAll0, hd.lay, a], by simp [PyData.showableAll, hd.sh, b], ?_, ?_, by simp [PyData.intsShortAll, hd.isn, f]⟩
    · simp only [PyData.depthAll]
      exact Nat.max_le.mpr ⟨hd.dep, c⟩
    · simp only [PyData.weightAll, List.length_cons, Nat.succ_mul]
      have := hd.wt
      omega
theorem neat_tuple {k w w' : Nat} {ds : List D} (h : ∀ d ∈ ds, Neat k w d) (hw : ds.length * (w + 1) ≤ w') : Neat (k + 1) w' (.tuple ds) := by
  obtain ⟨a, b, c, e, f⟩ := neat_all h
  exact ⟨by simpa [PyData.canLay0] using a, by simpa [PyData.showable] using b, by simp only [PyData.depth]; omega, by simp only [PyData.weight]; omega, by simpa [PyData.intsShort] using f⟩
theorem neat_list {k w w' : Nat} {ds : List D} (h : ∀ d ∈ ds, Neat k w d) (hw : ds.length * (w + 1) ≤ w') : Neat (k + 1) w' (.list ds) := by
  obtain ⟨a, b, c, e, f⟩ := neat_all h
  exact ⟨by simpa [PyData.canLay0] using a, by simpa [PyData.showable] using b, by simp only [PyData.depth]; omega, by simp only [PyData.weight]; omega, by simpa [PyData.intsShort] using f⟩
theorem Neat.len {k w : Nat} {d : D} (h : Neat k w d) (hw : w ≤ 200000) : d.shown.length ≤ sizeLine := by
  have := PyData.shown_le 62 (by decide) d (PyData.leavesShort_of_canLay0 62 d h.lay h.isn)
  have hh := h.wt
  have e : sizeLine = 16777216 := by decide
  rw [e]
  omega
theorem Neat.repr {k w : Nat} {d : D} (h : Neat k w d) (hk : k ≤ 50) (hw : w ≤ 200000) (S : Sto) : un1 (Bi.fn .repr) (.d d) S = some (.str d.shown) := by
  have hl := h.len hw
  have hs := h.sh
  have hd : d.hasDict = false := PyData.hasDict_of_canLay d h.lay
  have hk := Nat.le_trans h.dep hk
  show gRepr d = _
  have big : shownOk d = true := by
    unfold shownOk
    rw [hs, hd, decide_eq_true hk, decide_eq_true hl]; rfl
  cases d with
  | none => rfl
  | bool b => rfl
  | int i =>
    have : i.natAbs.log2 < 1920 := by simpa [PyData.showable] using hs
    show (if i.natAbs.log2 < 1920 then some (PyData.str (toString i)) else none) = _
    rw [if_pos this]; rfl
  | str x =>
    have hl : (reprText x).length ≤ sizeLine := hl
    show (if (reprText x).length ≤ sizeLine then some (PyData.str (reprText x)) else none) = _
    rw [if_pos hl]; rfl
  | list xs =>
    show (if shownOk (.list xs) = true then some (PyData.str (PyData.shown (.list xs))) else none) = _
    rw [if_pos big]
  | tuple xs =>
    show (if shownOk (.tuple xs) = true then some (PyData.str (PyData.shown (.tuple xs))) else none) = _
    rw [if_pos big]
  | dict _ => simp [PyData.hasDict] at hd
theorem lf_repr {k w : Nat} {d : D} {S : Sto} {Q : D → Prop} (h : Neat k w d) (hk : k ≤ 50) (hw : w ≤ 200000) (q : Q (.str d.shown)) : ∃ u, un1 (Bi.fn .repr) (.d d) S = some u ∧ Q u := ⟨_, h.repr hk hw S, q⟩
theorem lf_eqSame {a : Str} {S : Sto} {Q : D → Prop} (q : Q (.bool true)) : ∃ w, bin2 (gCmp .Eq) (.d (.str a)) (.d (.str a)) S = some w ∧ Q w := lf_eqS (by rw [decide_eq_true rfl]; exact q)
theorem lf_neSame {a : Str} {S : Sto} {Q : D → Prop} (q : Q (.bool false)) : ∃ w, bin2 (gCmp .NotEq) (.d (.str a)) (.d (.str a)) S = some w ∧ Q w := lf_neS (by rw [decide_eq_true rfl]; exact q)
end PL
end
section
set_option maxHeartbeats 2000000
namespace PL
open PySem PySem.Spec PyProof.Rows L2
/-! facts of lists and dicts -/
theorem for_q {lk : Lk} {t : D → Loc → Sto → Option (Fl × Loc × Sto)} {ds : List D} {L : Loc} {S : Sto} {Q : Fl → Loc → Sto → Prop} (I : List D → Loc → Sto → Prop) (h0 : I ds L S) (hs : ∀ d r L S, I (d :: r) L S → ∃ g L' S', t d L S = some (g, L', S') ∧ (g = .nx ∨ g = .ct) ∧ lockB lk S' = true ∧ I r L' S')
    (q : ∀ L' S', I [] L' S' → Q .nx L' S') : WF lk t ds L S Q := by
  obtain ⟨L', S', e, h⟩ := for_word (lk := lk) (t := t) I ds L S h0 hs
  exact ⟨.nx, L', S', e, q L' S' h⟩
/-- a comprehension that draws: its turns by a word of the store, what is kept by a relation -/
theorem loop_rel {α : Type} {t : D → Sto → Option (Option D × Sto)} {g : α → D} (I : Nat → Sto → Prop) (R : List α → List D → Prop) (h0 : R [] []) (l : List α)
    (hs : ∀ a ∈ l, ∀ k S, k < l.length → I k S → ∃ o S', t (g a) S = some (o, S') ∧ I (k + 1) S' ∧ ∀ m ys, R m ys → R (a :: m) (match o with | some y => y :: ys | none => ys)) :
    ∀ (l' : List α) (acc : List D) (k : Nat) (S : Sto), (∀ a ∈ l', a ∈ l) → k + l'.length ≤ l.length → acc.length + l'.length ≤ sizeLine → I k S → ∃ ys S', loopM none t (l'.map g) acc S = some (acc ++ ys, S') ∧ R l' ys ∧ I (k + l'.length) S'
  | [], acc, k, S, _, _, _, h => ⟨[], S, by simp [loopM], h0, h⟩
  | a :: l', acc, k, S, hm, hk, hl, h => by
    rw [List.length_cons] at hk hl
    obtain ⟨o, S1, e, h1, hr⟩ := hs a (hm a List.mem_cons_self) k S (by omega) h
    have hm' : ∀ b ∈ l', b ∈ l := fun b hb => hm b (List.mem_cons_of_mem _ hb)
    cases o with
    | none =>
      obtain ⟨ys, S2, e2, h2, h3⟩ := loop_rel I R h0 l hs l' acc (k + 1) S1 hm' (by omega) (by omega) h1
      refine ⟨ys, S2, ?_, hr _ _ h2, by rw [List.length_cons]; rwa [show k + (l'.length + 1) = k + 1 + l'.length by omega]⟩
      rw [List.map_cons, loopM, e]
      dsimp only
      rw [if_pos (show lockB none S1 = true from rfl), e2]
    | some y =>
      obtain ⟨ys, S2, e2, h2, h3⟩ := loop_rel I R h0 l hs l' (acc ++ [y]) (k + 1) S1 hm' (by omega) (by rw [List.length_append, List.length_singleton]; omega) h1
      refine ⟨y :: ys, S2, ?_, hr _ _ h2, by rw [List.length_cons]; rwa [show k + (l'.length + 1) = k + 1 + l'.length by omega]⟩
      rw [List.map_cons, loopM, e]
      dsimp only
      rw [if_pos (show lockB none S1 = true from rfl), if_pos (by omega), e2]
      simp
theorem snoc_ind {α : Type} {P : List α → Prop} (h0 : P []) (hs : ∀ l x, P l → P (l ++ [x])) : ∀ l, P l := by
  have key : ∀ (n : Nat) (l : List α), l.length = n → P l := by
    intro n
    induction n with
    | zero => intro l h; cases l with
      | nil => exact h0
      | cons a l => simp at h
    | succ n ih =>
      intro l h
      rcases List.eq_nil_or_concat l with rfl | ⟨l', r, rfl⟩
      · simp at h
      · rw [List.concat_eq_append] at h ⊢
        exact hs l' r (ih l' (by simpa using h))
  exact fun l => key _ l rfl
theorem look_store {α : Type} {ks : List (Key × α)} {k k' : Key} {v : α} : lookK (storeK ks k v) k' = if k' = k then some v else lookK ks k' := by
  unfold storeK
  by_cases hk : (ks.any fun kv => decide (kv.1 = k)) = true
  · rw [if_pos hk]
    unfold lookK
    induction ks with
    | nil => simp at hk
    | cons x r ih =>
      obtain ⟨a, b⟩ := x
      by_cases ha : a = k
      · subst ha
        by_cases hb : k' = a
        · subst hb; simp
        · have hb' : ¬ a = k' := fun z => hb z.symm
          have : (List.map (fun kv => if kv.1 = a then (kv.1, v) else kv) r).find? (fun kv => decide (kv.1 = k')) = r.find? (fun kv => decide (kv.1 = k')) := by
            clear ih hk
            induction r with
            | nil => rfl
            | cons y r ih =>
              obtain ⟨c, d⟩ := y
              by_cases hc : c = a
              · subst hc; simp [List.find?_cons, hb', ih]
              · by_cases hd : c = k'
                · subst hd; simp [List.find?_cons, hc]
                · simp [List.find?_cons, hc, hd, ih]
          simp [List.find?_cons, hb', hb, this]
      · have hk2 : (r.any fun kv => decide (kv.1 = k)) = true := by simpa [ha] using hk
        have := ih hk2
        by_cases hd : a = k'
        · subst hd; simp [List.find?_cons, ha]
        · simp only [List.map_cons, if_neg ha, List.find?_cons, hd, decide_false]
          exact this
  · rw [if_neg hk]
    unfold lookK
    rw [List.find?_append]
    by_cases hb : k' = k
    · subst hb
      have : ks.find? (fun kv => decide (kv.1 = k')) = none := by
        rw [List.find?_eq_none]
        intro x hx hx'
        exact hk (List.any_eq_true.mpr ⟨x, hx, hx'⟩)
      rw [this]; simp
    · have hb' : ¬ k = k' := fun z => hb z.symm
      simp [List.find?_cons, hb, hb']
theorem store_len {α : Type} {ks : List (Key × α)} {k : Key} {v : α} : (storeK ks k v).length ≤ ks.length + 1 := by
  unfold storeK
  split
  · rw [List.length_map]; omega
  · rw [List.length_append]; simp
theorem store_new {α : Type} {ks : List (Key × α)} {k : Key} {v : α} (h : k ∉ ks.map (·.1)) : storeK ks k v = ks ++ [(k, v)] := by
  unfold storeK
  rw [if_neg]
  intro q
  rw [List.any_eq_true] at q
  obtain ⟨kv, hm, e⟩ := q
  exact h (List.mem_map.mpr ⟨kv, hm, of_decide_eq_true e⟩)
theorem merge_new {α : Type} : ∀ (more ks : List (Key × α)), ((ks ++ more).map (·.1)).Nodup → mergeP ks more = ks ++ more
  | [], ks, _ => by rw [List.append_nil]; rfl
  | kv :: more, ks, h => by
    have e : ks ++ kv :: more = (ks ++ [kv]) ++ more := by simp
    have hk : kv.1 ∉ ks.map (·.1) := fun q => by
      rw [List.map_append, List.map_cons] at h
      exact (List.nodup_append.mp h).2.2 _ q _ List.mem_cons_self rfl
    show mergeP (storeK ks kv.1 kv.2) more = _
    rw [store_new hk, merge_new more (ks ++ [kv]) (by rw [← e]; exact h), e]
theorem look_map {α : Type} {f : Str → α} {q : Str} : ∀ {ps : List Str}, lookK (ps.map fun p => ((.inr p : Key), f p)) (.inr q) = if q ∈ ps then some (f q) else none
  | [] => rfl
  | p :: ps => by
    have ih := look_map (f := f) (q := q) (ps := ps)
    unfold lookK at ih ⊢
    rw [List.map_cons, List.find?_cons]
    by_cases h : p = q
    · subst h
      simp
    · have h2 : decide ((Sum.inr p : Key) = .inr q) = false := decide_eq_false fun z => h (by injection z)
      rw [h2]
      dsimp only
      rw [ih]
      by_cases hq : q ∈ ps
      · rw [if_pos hq, if_pos (List.mem_cons_of_mem _ hq)]
      · rw [if_neg hq, if_neg fun z => (List.mem_cons.mp z).elim (fun z => h z.symm) hq]
section
variable {S : Sto} {lv : List (Key × D)} {mv : List (Key × R)} {p : Str} {e v : D} {o o' : Ob}
theorem end_at : (S ++ [o])[S.length]? = some o := by rw [List.getElem?_append_right (Nat.le_refl _), Nat.sub_self]; rfl
theorem end_set : (S ++ [o]).set S.length o' = S ++ [o'] := by
  rw [List.set_append_right _ _ (Nat.le_refl _), Nat.sub_self]; rfl
theorem pen_at {x : Ob} : (S ++ [o] ++ [x])[S.length]? = some o := by
  rw [List.getElem?_append_left (by rw [List.length_append, List.length_singleton]; omega), end_at]
theorem pen_set {x : Ob} : (S ++ [o] ++ [x]).set S.length o' = S ++ [o'] ++ [x] := by
  rw [List.set_append_left _ _ (by rw [List.length_append, List.length_singleton]; omega), end_set]
theorem get2_at {S : Sto} {n : Nat} (h : S[n]? = some (.dic lv)) : get2R (.ref n) (.d (.str p)) (.d e) S = some (.d ((lookK lv (.inr p)).getD e)) := by
  cases hq : lookK lv (.inr p) <;> simp only [get2R, h, keyD, hq] <;> rfl
theorem ixd_at {S : Sto} {n : Nat} (h : S[n]? = some (.dic lv)) (k : lookK lv (.inr p) = some v) : ixR (.ref n) (.d (.str p)) S = some v := by
  simp only [ixR, h, keyD, k]
theorem ixl_at {S : Sto} {n : Nat} (h : S[n]? = some (.dicL lv)) (k : lookK lv (.inr p) = some v) : ixR (.ref n) (.d (.str p)) S = some v := by
  simp only [ixR, h, keyD, k]
theorem isDic_at {S : Sto} {n : Nat} (h : S[n]? = some (.dic lv)) : isDic (.ref n) S = true := by simp only [isDic, h]
theorem dset_at {S : Sto} {n : Nat} (h : S[n]? = some (.dic lv)) (k : lv.length < sizeLine) : dsetR (.ref n) (.d (.str p)) (.d v) S = some (S.set n (.dic (storeK lv (.inr p) v))) := by
  simp only [dsetR, h, keyD, if_pos k]
theorem end_dic : isDic (.ref S.length) (S ++ [Ob.dic lv]) = true := isDic_at end_at
theorem end_get : get2R (.ref S.length) (.d (.str p)) (.d e) (S ++ [Ob.dic lv]) = some (.d ((lookK lv (.inr p)).getD e)) := get2_at end_at
theorem end_dset (h : lv.length < sizeLine) : dsetR (.ref S.length) (.d (.str p)) (.d v) (S ++ [Ob.dic lv]) = some (S ++ [Ob.dic (storeK lv (.inr p) v)]) := by
  rw [dset_at end_at h, end_set]
end
end PL
end
section
set_option maxHeartbeats 4000000
open PL PySem PySem.Spec PyProof.Rows L2
local macro_rules | `(tactic| left) => `(tactic| (first
  | with_reducible refine ws_asg ?_ | with_reducible refine ws_asgL ?_ | with_reducible refine ws_par ?_ | with_reducible refine ws_parC ?_ | with_reducible refine ws_unp ?_ | with_reducible refine ws_dset ?_
  | with_reducible refine ws_expr ?_ | with_reducible refine ws_ret ?_ | with_reducible refine ws_ret0 ?_ | with_reducible refine ws_pass ?_ | with_reducible refine ws_brk ?_ | with_reducible refine ws_cont ?_ | with_reducible refine ws_if ?_ | with_reducible refine ws_for ?_ | with_reducible refine ws_nil ?_
  | with_reducible refine we_int ?_ | with_reducible refine we_str ?_ | with_reducible refine we_bl ?_ | with_reducible refine we_non ?_ | with_reducible refine we_gd ?_
  | ((with_reducible apply we_loc); rfl)
  | with_reducible refine we_bin ?_ | with_reducible refine we_cmp ?_ | with_reducible refine we_cmp2 ?_ | with_reducible refine we_bop ?_ | with_reducible refine wb_nil ?_ | with_reducible refine wb_cons ?_ | with_reducible refine we_not ?_ | with_reducible refine we_neg ?_ | with_reducible refine we_ite ?_
  | with_reducible refine we_tup ?_ | with_reducible refine we_lst ?_ | with_reducible refine we_lstR ?_ | with_reducible refine we_dic0 ?_ | with_reducible refine we_dic ?_ | with_reducible refine we_ix ?_ | with_reducible refine we_sl ?_ | with_reducible refine wo_no ?_ | with_reducible refine wo_so ?_
  | with_reducible refine we_bi ?_ | with_reducible refine we_isi ?_ | with_reducible refine we_call ?_ | with_reducible refine we_callK ?_ | with_reducible refine we_comp ?_ | with_reducible refine we_compR ?_ | with_reducible refine we_get2 ?_ | with_reducible refine we_app ?_ | with_reducible refine we_ext ?_ | with_reducible refine we_join ?_
  | with_reducible refine we_gget2 ?_ | with_reducible refine we_gget ?_ | with_reducible refine we_gix ?_ | with_reducible refine we_gin ?_ | with_reducible refine we_sset ?_ | with_reducible refine we_sortd ?_ | with_reducible refine we_dcopy ?_ | with_reducible refine we_rev ?_ | with_reducible refine we_reprL ?_ | ((with_reducible apply lfV); rfl; exact Nat.le_of_ble_eq_true rfl) | with_reducible refine wes_nil ?_ | with_reducible refine wes_cons ?_ | with_reducible refine wt_nil ?_ | with_reducible refine wt_one ?_
  | with_reducible refine wi_rng ?_ | with_reducible refine wi_rng2 ?_ | with_reducible refine wi_zip ?_ | with_reducible refine wi_enm ?_ | with_reducible refine wi_seq ?_
  | with_reducible refine then_nx ?_ | with_reducible refine then_bk ?_ | with_reducible refine then_ct ?_ | with_reducible refine then_rt ?_ | with_reducible refine qf_same ?_ | with_reducible refine qf_app ?_ | ((with_reducible apply qf_cons); rfl) | ((with_reducible apply qf_consA); rfl) | with_reducible refine qf_ref ?_ | with_reducible refine qf_d ?_ | with_reducible refine qf_nxS ?_ | with_reducible refine qf_nxA ?_ | with_reducible refine qf_nx ?_
  | ((with_reducible apply wk_eq); with_reducible assumption)
  | (with_reducible refine limp (fun hb => ?_) (fun hb => ?_) <;> (first | (cases hb; done) | (simp only [Bool.not_false, Bool.not_true, Bool.true_eq_false, Bool.false_eq_true, reduceCtorEq] at hb; done) | cases hb | ((try simp only [Bool.not_false, Bool.not_true] at hb); (try rw [hb]))))
  | with_reducible refine lf_add ?_ | with_reducible refine lf_sub ?_ | ((with_reducible apply lf_mod); (first | assumption | decide)) | ((with_reducible apply lf_div); (first | assumption | decide)) | with_reducible refine lf_lt ?_ | with_reducible refine lf_le ?_ | with_reducible refine lf_gt ?_ | with_reducible refine lf_ge ?_ | with_reducible refine lf_eqI ?_ | with_reducible refine lf_neI ?_ | with_reducible refine lf_eqSame ?_ | with_reducible refine lf_neSame ?_ | with_reducible refine lf_eqS ?_ | with_reducible refine lf_neS ?_
  | with_reducible refine lf_isN ?_ | with_reducible refine lf_isI ?_ | with_reducible refine lf_isnN ?_ | with_reducible refine lf_isnI ?_ | with_reducible refine lf_tb ?_ | with_reducible refine lf_tl ?_ | with_reducible refine lf_tt ?_ | with_reducible refine lf_int ?_ | with_reducible refine lf_lenL ?_ | with_reducible refine lf_lenT ?_ | ((with_reducible apply lf_lenS); assumption) | with_reducible refine lf_tupL ?_ | with_reducible refine lf_tupT ?_ | with_reducible refine lf_listL ?_ | with_reducible refine lf_listT ?_ | with_reducible refine lf_view ?_ | with_reducible refine lf_in2 ?_ | with_reducible refine lf_in3 ?_ | with_reducible refine lf_inM ?_ | with_reducible refine lf_ix0T ?_ | with_reducible refine lf_ix1T ?_ | with_reducible refine lf_ix2T ?_ | with_reducible refine lf_sl1 ?_ | with_reducible refine lf_slL ?_ | with_reducible refine lf_slT ?_
  | ((with_reducible apply lf_pow); decide) | with_reducible refine lf_mul ?_ ?_ | with_reducible refine lf_pow ?_ ?_ | ((with_reducible apply lf_addT); exact Nat.le_of_ble_eq_true rfl) | ((with_reducible apply lf_addL); exact Nat.le_of_ble_eq_true rfl) | with_reducible refine lf_addT ?_ ?_ | with_reducible refine lf_addL ?_ ?_
  | ((with_reducible apply lf2); rfl; rfl) | ((with_reducible apply lf3); rfl; exact Nat.le_of_ble_eq_true rfl) | ((with_reducible apply lf4); rfl; decide) | ((with_reducible apply lfU); rfl; rfl)
  | with_reducible refine ls_l ?_ | with_reducible refine ls_t ?_ | with_reducible refine ls_s ?_ | ((with_reducible apply ls_r); rfl) | with_reducible refine le_l ?_ | with_reducible refine le_t ?_ | with_reducible refine le_s ?_ | with_reducible refine lz_l ?_ | with_reducible refine lz_t ?_
  | ((with_reducible apply lfR); (first | decide | omega)) | ((with_reducible apply lfR2); (first | decide | omega)) | with_reducible refine lfI ?_
  | ((with_reducible apply lf); rfl) | ((with_reducible apply lfB); rfl) | ((with_reducible apply land); rfl)))
local macro_rules | `(tactic| nofun) => `(tactic| repeat' left)
namespace PL.W
open PySem PySem.Spec PyProof.Rows L2 PL
/-! ### numbers -/
theorem mod_rng (i : Int) {m : Int} (h : 0 < m) : 0 ≤ i % m ∧ i % m < m := ⟨Int.emod_nonneg _ (by omega), Int.emod_lt_of_pos _ h⟩
theorem mod_ok {i j : Int} {S : Sto} (h : 0 < j) : bin2 gMod (.d (.int i)) (.d (.int j)) S = some (.int (i % j)) := by
  show (if 0 < j then some (PyData.int (i % j)) else none) = _
  rw [if_pos h]
theorem div_ok {i j : Int} {S : Sto} (h : 0 < j) (k : j.natAbs.log2 < 9000) : bin2 gDiv (.d (.int i)) (.d (.int j)) S = some (.int (i / j)) := by
  show (if 0 < j ∧ j.natAbs.log2 < 9000 then some (PyData.int (i / j)) else none) = _
  rw [if_pos ⟨h, k⟩]
theorem mul_ok {i j : Int} {S : Sto} (h : i.natAbs.log2 + j.natAbs.log2 < 1000000) : bin2 gMul (.d (.int i)) (.d (.int j)) S = some (.int (i * j)) := by
  show (if i.natAbs.log2 + j.natAbs.log2 < 1000000 then some (PyData.int (i * j)) else none) = _
  rw [if_pos h]
theorem pow_ok {i j : Int} {S : Sto} (h : 0 ≤ j) (k : j ≤ 1000000) (l : i.natAbs < 2 ^ 64) : bin2 gPow (.d (.int i)) (.d (.int j)) S = some (.int (i ^ j.toNat)) := by
  show (if 0 ≤ j ∧ j ≤ 1000000 ∧ i.natAbs < 2 ^ 64 then some (PyData.int (i ^ j.toNat)) else none) = _
  rw [if_pos ⟨h, k, l⟩]
theorem log_lt {a b : Nat} (h : a < 2 ^ b) (hb : 0 < b) : a.log2 < b := by
  by_cases ha : a = 0
  · subst ha; simpa using hb
  · exact (Nat.log2_lt ha).mpr h
theorem pow18 {S : Sto} : bin2 gPow (.d (.int 10)) (.d (.int 18)) S = some (.int (10 ^ 18)) := pow_ok (by decide) (by decide) (by decide)
theorem pow59 {S : Sto} : bin2 gPow (.d (.int 10)) (.d (.int 59)) S = some (.int (10 ^ 59)) := pow_ok (by decide) (by decide) (by decide)
theorem pow9 {S : Sto} : bin2 gPow (.d (.int 10)) (.d (.int 9)) S = some (.int (10 ^ 9)) := pow_ok (by decide) (by decide) (by decide)
/-! ### the spring -/
def spO (cs : List Int) (p r c : Int) : Ob := .dic [(.inr "cells", .list (cs.map .int)), (.inr "place", .int p), (.inr "rest", .int r), (.inr "count", .int c)]
section
variable {cs : List Int} {p r c x : Int} {T : Sto}
theorem sp_count : ixR (.ref 0) (.d (.str "count")) (spO cs p r c :: T) = some (.int c) := rfl
theorem sp_place : ixR (.ref 0) (.d (.str "place")) (spO cs p r c :: T) = some (.int p) := rfl
theorem sp_rest : ixR (.ref 0) (.d (.str "rest")) (spO cs p r c :: T) = some (.int r) := rfl
theorem sp_cells : ixR (.ref 0) (.d (.str "cells")) (spO cs p r c :: T) = some (.list (cs.map .int)) := rfl
theorem st_count : dsetR (.ref 0) (.d (.str "count")) (.d (.int x)) (spO cs p r c :: T) = some (spO cs p r x :: T) := rfl
theorem st_place : dsetR (.ref 0) (.d (.str "place")) (.d (.int x)) (spO cs p r c :: T) = some (spO cs x r c :: T) := rfl
theorem st_rest : dsetR (.ref 0) (.d (.str "rest")) (.d (.int x)) (spO cs p r c :: T) = some (spO cs p x c :: T) := rfl
end
theorem canInts : ∀ cs : List Int, PyData.canLayAll0 (cs.map .int) = true
  | [] => by simp [PyData.canLayAll0]
  | c :: cs => by simp [PyData.canLayAll0, PyData.canLay0, canInts cs]
theorem depInts : ∀ cs : List Int, PyData.depthAll (cs.map .int) = 0
  | [] => by simp [PyData.depthAll]
  | c :: cs => by simp [PyData.depthAll, PyData.depth, depInts cs]
theorem shInts (cs : List Int) : SeqAt.shaped (.list (cs.map .int)) = true := by
  unfold SeqAt.shaped
  simp [PyData.canLay0, canInts, PyData.depth, depInts]
theorem cells_ne {cs : List Int} {S : Sto} : bin2 (gCmp .NotEq) (.d (.list (cs.map .int))) (.d (.list [])) S = some (.bool (!cs.isEmpty)) := by
  show (if bothS (.list (cs.map .int)) (.list []) = true ∨ (SeqAt.shaped (.list (cs.map .int)) = true ∧ SeqAt.shaped (.list []) = true) then some (PyData.bool (!PyData.eqv (.list (cs.map .int)) (.list []))) else none) = _
  rw [if_pos (.inr ⟨shInts cs, by decide +kernel⟩)]
  cases cs <;> simp [PyData.eqv, PyData.eqvAll]
theorem cell_at {cs : List Int} {j : Int} {S : Sto} (h0 : 0 ≤ j) (h1 : j < cs.length) : ∃ x, ixR (.d (.list (cs.map .int))) (.d (.int j)) S = some (.int x) := by
  have hj : j.toNat < cs.length := by omega
  refine ⟨cs[j.toNat], ?_⟩
  show atI (cs.map PyData.int) j = _
  unfold atI ixN
  rw [if_pos h0, List.length_map, if_pos h1]
  show (cs.map PyData.int)[j.toNat]? = _
  rw [List.getElem?_map, List.getElem?_eq_getElem hj]
  rfl
end PL.W
local macro_rules | `(tactic| left) => `(tactic| first | with_reducible refine lf PL.W.sp_count ?_ | with_reducible refine lf PL.W.sp_place ?_ | with_reducible refine lf PL.W.sp_rest ?_ | with_reducible refine lf PL.W.sp_cells ?_ | with_reducible refine lf PL.W.st_count ?_ | with_reducible refine lf PL.W.st_place ?_ | with_reducible refine lf PL.W.st_rest ?_ | with_reducible refine lf PL.W.cells_ne ?_)
namespace PL.W
theorem pow_k {i : Int} {k : Nat} (h : i.natAbs < 2 ^ 64) (hk : (k : Int) ≤ 1000000) : 0 ≤ (k : Int) ∧ (k : Int) ≤ 1000000 ∧ i.natAbs < 2 ^ 64 := ⟨by omega, hk, h⟩
theorem dip_fit : dipA.natAbs < 2 ^ 16 ∧ dipB.natAbs < 2 ^ 16 ∧ dipC.natAbs < 2 ^ 16 ∧ ¬ (10 : Int) ^ Int.toNat 18 ≤ dipCell := by decide
theorem mul_fit {a c : Int} {k : Nat} (h : a.natAbs < 2 ^ 16) (hk : c.natAbs < 2 ^ k) (h0 : 0 < k) (h1 : k < 1000) : a.natAbs.log2 + c.natAbs.log2 < 1000000 := by
  have := log_lt h (by decide)
  have := log_lt hk h0
  omega
theorem prod_fit {a c : Int} (ha : a.natAbs < 2 ^ 16) (hc : c.natAbs ≤ 2 ^ 40) : (a * c).natAbs ≤ 2 ^ 16 * 2 ^ 40 := by
  rw [Int.natAbs_mul]
  exact Nat.mul_le_mul (by omega) hc
theorem lin3 {x a b c : Int} (ha : a.natAbs < 2 ^ 16) (hb : b.natAbs < 2 ^ 16) (hc : c.natAbs ≤ 2 ^ 40) : 0 ≤ (3 : Int) ∧ (3 : Int) ≤ 1000000 ∧ (x % 2147483353 + a * c + b).natAbs < 2 ^ 64 := by
  have h1 := mod_rng x (m := 2147483353) (by decide)
  have h2 := prod_fit ha hc
  generalize a * c = q at h2
  omega
theorem lin5 {x a c : Int} (ha : a.natAbs < 2 ^ 16) (hc : c.natAbs ≤ 2 ^ 40) : 0 ≤ (5 : Int) ∧ (5 : Int) ≤ 1000000 ∧ (x % 2147483647 + a * c).natAbs < 2 ^ 64 := by
  have h1 := mod_rng x (m := 2147483647) (by decide)
  have h2 := prod_fit ha hc
  generalize a * c = q at h2
  omega
theorem dip (n : Nat) {cs : List Int} {p r c m : Int} {T : Sto} (hc0 : 0 ≤ c) (hc : c < 2 ^ 40 - 1) (hm0 : 0 < m) (hm : m < 2 ^ 40) :
    WC fns (n + 1) i_law_dip [.ref 0, .d (.int m)] (spO cs p r c :: T) fun x S' => ∃ v p' r', x = .d (.int v) ∧ 0 ≤ v ∧ v < m ∧ S' = spO cs p' r' (c + 1) :: T := by
  have hl2 : m.natAbs.log2 < 9000 := by
    have := log_lt (show m.natAbs < 2 ^ 40 by omega) (by decide)
    omega
  have hd : 0 < m ∧ m.natAbs.log2 < 9000 := ⟨hm0, hl2⟩
  obtain ⟨fA, fB, fC, fD⟩ := dip_fit
  refine c_law_dip ?_
  nofun
  case' q.q.q.q.refine_2.q.q.q.q.q.refine_1.q.q.q =>
    have hlen : 0 < (cs.length : Int) := by
      rename_i hb
      cases cs with
      | nil => cases hb
      | cons _ _ => rw [List.length_cons]; omega
    rw [List.length_map]
    obtain ⟨x, hx⟩ := cell_at (S := spO cs (p + 1) r (c + 1) :: T) (mod_rng p hlen).1 (mod_rng p hlen).2
    refine lf_mod hlen ?_
    refine lf hx ?_
    nofun
  all_goals first
    | (refine ⟨_, _, _, rfl, ?_, ?_, rfl⟩ <;> first | exact (mod_rng _ hm0).1 | exact (mod_rng _ hm0).2)
    | exact mul_fit (k := 41) fA (by omega) (by decide) (by decide)
    | exact mul_fit (k := 41) fC (by omega) (by decide) (by decide)
    | exact lin3 fA fB (by omega)
    | exact lin5 fC (by omega)
    | skip
  all_goals trace_state
end PL.W
end
section
set_option maxHeartbeats 4000000
open PL PySem PySem.Spec PyProof.Rows L2
local macro_rules | `(tactic| left) => `(tactic| (first
  | with_reducible refine ws_asg ?_ | with_reducible refine ws_asgL ?_ | with_reducible refine ws_par ?_ | with_reducible refine ws_parC ?_ | with_reducible refine ws_unp ?_ | with_reducible refine ws_dset ?_
  | with_reducible refine ws_expr ?_ | with_reducible refine ws_ret ?_ | with_reducible refine ws_ret0 ?_ | with_reducible refine ws_pass ?_ | with_reducible refine ws_brk ?_ | with_reducible refine ws_cont ?_ | with_reducible refine ws_if ?_ | with_reducible refine ws_for ?_ | with_reducible refine ws_nil ?_
  | with_reducible refine we_int ?_ | with_reducible refine we_str ?_ | with_reducible refine we_bl ?_ | with_reducible refine we_non ?_ | with_reducible refine we_gd ?_
  | ((with_reducible apply we_loc); rfl)
  | with_reducible refine we_bin ?_ | with_reducible refine we_cmp ?_ | with_reducible refine we_cmp2 ?_ | with_reducible refine we_bop ?_ | with_reducible refine wb_nil ?_ | with_reducible refine wb_cons ?_ | with_reducible refine we_not ?_ | with_reducible refine we_neg ?_ | with_reducible refine we_ite ?_
  | with_reducible refine we_tup ?_ | with_reducible refine we_lst ?_ | with_reducible refine we_lstR ?_ | with_reducible refine we_dic0 ?_ | with_reducible refine we_dic ?_ | with_reducible refine we_ix ?_ | with_reducible refine we_sl ?_ | with_reducible refine wo_no ?_ | with_reducible refine wo_so ?_
  | with_reducible refine we_bi ?_ | with_reducible refine we_isi ?_ | with_reducible refine we_call ?_ | with_reducible refine we_callK ?_ | with_reducible refine we_comp ?_ | with_reducible refine we_compR ?_ | with_reducible refine we_get2 ?_ | with_reducible refine we_app ?_ | with_reducible refine we_ext ?_ | with_reducible refine we_join ?_
  | with_reducible refine we_gget2 ?_ | with_reducible refine we_gget ?_ | with_reducible refine we_gix ?_ | with_reducible refine we_gin ?_ | with_reducible refine we_sset ?_ | with_reducible refine we_sortd ?_ | with_reducible refine we_dcopy ?_ | with_reducible refine we_rev ?_ | with_reducible refine we_reprL ?_ | ((with_reducible apply lfV); rfl; exact Nat.le_of_ble_eq_true rfl) | with_reducible refine wes_nil ?_ | with_reducible refine wes_cons ?_ | with_reducible refine wt_nil ?_ | with_reducible refine wt_one ?_
  | with_reducible refine wi_rng ?_ | with_reducible refine wi_rng2 ?_ | with_reducible refine wi_zip ?_ | with_reducible refine wi_enm ?_ | with_reducible refine wi_seq ?_
  | with_reducible refine then_nx ?_ | with_reducible refine then_bk ?_ | with_reducible refine then_ct ?_ | with_reducible refine then_rt ?_ | with_reducible refine qf_same ?_ | with_reducible refine qf_app ?_ | ((with_reducible apply qf_cons); rfl) | ((with_reducible apply qf_consA); rfl) | with_reducible refine qf_ref ?_ | with_reducible refine qf_d ?_ | with_reducible refine qf_nxS ?_ | with_reducible refine qf_nxA ?_ | with_reducible refine qf_nx ?_
  | ((with_reducible apply wk_eq); with_reducible assumption)
  | (with_reducible refine limp (fun hb => ?_) (fun hb => ?_) <;> (first | (cases hb; done) | (simp only [Bool.not_false, Bool.not_true, Bool.true_eq_false, Bool.false_eq_true, reduceCtorEq] at hb; done) | cases hb | ((try simp only [Bool.not_false, Bool.not_true] at hb); (try rw [hb]))))
  | with_reducible refine lf_add ?_ | with_reducible refine lf_sub ?_ | ((with_reducible apply lf_mod); (first | assumption | decide)) | ((with_reducible apply lf_div); (first | assumption | decide)) | with_reducible refine lf_lt ?_ | with_reducible refine lf_le ?_ | with_reducible refine lf_gt ?_ | with_reducible refine lf_ge ?_ | with_reducible refine lf_eqI ?_ | with_reducible refine lf_neI ?_ | with_reducible refine lf_eqSame ?_ | with_reducible refine lf_neSame ?_ | with_reducible refine lf_eqS ?_ | with_reducible refine lf_neS ?_
  | with_reducible refine lf_isN ?_ | with_reducible refine lf_isI ?_ | with_reducible refine lf_isnN ?_ | with_reducible refine lf_isnI ?_ | with_reducible refine lf_tb ?_ | with_reducible refine lf_tl ?_ | with_reducible refine lf_tt ?_ | with_reducible refine lf_int ?_ | with_reducible refine lf_lenL ?_ | with_reducible refine lf_lenT ?_ | ((with_reducible apply lf_lenS); assumption) | with_reducible refine lf_tupL ?_ | with_reducible refine lf_tupT ?_ | with_reducible refine lf_listL ?_ | with_reducible refine lf_listT ?_ | with_reducible refine lf_view ?_ | with_reducible refine lf_in2 ?_ | with_reducible refine lf_in3 ?_ | with_reducible refine lf_inM ?_ | with_reducible refine lf_ix0T ?_ | with_reducible refine lf_ix1T ?_ | with_reducible refine lf_ix2T ?_ | with_reducible refine lf_sl1 ?_ | with_reducible refine lf_slL ?_ | with_reducible refine lf_slT ?_
  | ((with_reducible apply lf_pow); decide) | with_reducible refine lf_mul ?_ ?_ | with_reducible refine lf_pow ?_ ?_ | ((with_reducible apply lf_addT); exact Nat.le_of_ble_eq_true rfl) | ((with_reducible apply lf_addL); exact Nat.le_of_ble_eq_true rfl) | with_reducible refine lf_addT ?_ ?_ | with_reducible refine lf_addL ?_ ?_
  | ((with_reducible apply lf2); rfl; rfl) | ((with_reducible apply lf3); rfl; exact Nat.le_of_ble_eq_true rfl) | ((with_reducible apply lf4); rfl; decide) | ((with_reducible apply lfU); rfl; rfl)
  | with_reducible refine ls_l ?_ | with_reducible refine ls_t ?_ | with_reducible refine ls_s ?_ | ((with_reducible apply ls_r); rfl) | with_reducible refine le_l ?_ | with_reducible refine le_t ?_ | with_reducible refine le_s ?_ | with_reducible refine lz_l ?_ | with_reducible refine lz_t ?_
  | ((with_reducible apply lfR); (first | decide | omega)) | ((with_reducible apply lfR2); (first | decide | omega)) | with_reducible refine lfI ?_
  | ((with_reducible apply lf); rfl) | ((with_reducible apply lfB); rfl) | ((with_reducible apply land); rfl)))
local macro_rules | `(tactic| nofun) => `(tactic| repeat' left)
namespace PL.W
open PySem PySem.Spec PyProof.Rows L2 PL
/-! ### the spring's answers -/
def Sp (T : Sto) (k : Int) (S : Sto) : Prop := ∃ cs p r c, S = spO cs p r c :: T ∧ 0 ≤ c ∧ c ≤ k
theorem Sp.mono {T : Sto} {k k' : Int} {S : Sto} (h : Sp T k S) (hk : k ≤ k') : Sp T k' S := by
  obtain ⟨cs, p, r, c, e, h0, h1⟩ := h
  exact ⟨cs, p, r, c, e, h0, by omega⟩
theorem dipS (n : Nat) {T : Sto} {k m : Int} {S : Sto} (h : Sp T k S) (hk : k < 2 ^ 39) (hm0 : 0 < m) (hm : m < 2 ^ 39) : ∃ v S', 0 ≤ v ∧ v < m ∧ callN fns (n + 1) i_law_dip [.ref 0, .d (.int m)] S = some (.d (.int v), S') ∧ Sp T (k + 1) S' := by
  obtain ⟨cs, p, r, c, rfl, h0, h1⟩ := h
  obtain ⟨x, S', e, v, p', r', rfl, a, b, rfl⟩ := dip n (cs := cs) (p := p) (r := r) (c := c) (m := m) (T := T) h0 (by omega) hm0 (by omega)
  exact ⟨v, _, a, b, e, cs, p', r', c + 1, rfl, by omega, by omega⟩
theorem at_list {ds : List D} {j : Int} (h0 : 0 ≤ j) (h1 : j < ds.length) : ∃ x ∈ ds, ∀ S, ixR (.d (.list ds)) (.d (.int j)) S = some x := by
  have hj : j.toNat < ds.length := by omega
  refine ⟨ds[j.toNat], List.getElem_mem hj, fun S => ?_⟩
  show atI ds j = _
  unfold atI ixN
  rw [if_pos h0, if_pos h1]
  exact List.getElem?_eq_getElem hj
theorem Sp.cut {T : Sto} {k k' : Int} {S S' : Sto} (h : Sp T k S) (h' : Sp T k' S') : cutS S S' = some S' := by
  obtain ⟨cs, p, r, c, rfl, h0, h1⟩ := h
  obtain ⟨cs', p', r', c', rfl, h0', h1'⟩ := h'
  have e := cutS_cons (o := spO cs p r c) (o' := spO cs' p' r' c') T [] rfl
  rw [List.append_nil] at e
  exact e
theorem Sp.fin {T T' : Sto} {k k' : Int} {S S' : Sto} (h : Sp T k S) (h' : Sp T k' S') {Q : R → Sto → Prop} {x : D} {L : Loc} (q : Q (.d x) S') : finQ S Q (.rt (.d x)) L S' := by
  obtain ⟨cs, p, r, c, rfl, h0, h1⟩ := h
  obtain ⟨cs', p', r', c', rfl, h0', h1'⟩ := h'
  exact qf_cons rfl q
theorem pickS (n : Nat) {T : Sto} {k : Int} {S : Sto} (h : Sp T k S) (hk : k < 2 ^ 39) {ds : List D} (hd : ds ≠ []) (hl : ds.length < 1000) : ∃ d ∈ ds, ∃ S', callN fns (n + 2) i_law_pick [.ref 0, .d (.list ds)] S = some (.d d, S') ∧ Sp T (k + 1) S' := by
  have h0 : 0 < ds.length := List.length_pos_iff.mpr hd
  obtain ⟨v, S1, a, b, e, h1⟩ := dipS n h hk (m := (ds.length : Int)) (by omega) (by omega)
  obtain ⟨x, hx, ex⟩ := at_list a b
  refine ⟨x, hx, S1, WC.eq (c_law_pick ?_), h1⟩
  nofun
  refine lf (ex _) ?_
  exact ⟨_, h.cut h1, rfl, rfl⟩
def PAGES : List (List Str) := [["a", "b", "c"], ["p", "pq", "q"], ["zzzzzzzz", "a", "ab"], ["seal", "stop", "keep"], ["strike", "write", "free"], ["point", "put", "flush"]]
theorem pagesS (n : Nat) {T : Sto} {k : Int} {S : Sto} (h : Sp T k S) (hk : k < 2 ^ 39) : ∃ ps ∈ PAGES, ∃ S', callN fns (n + 3) i_law_pages [.ref 0] S = some (.d (.list (ps.map .str)), S') ∧ Sp T (k + 1) S' := by
  obtain ⟨d, hd, S1, e, h1⟩ := pickS n h hk (ds := PAGES.map fun ps => .list (ps.map .str)) (by decide) (by decide)
  obtain ⟨ps, hp, rfl⟩ := List.mem_map.mp hd
  refine ⟨ps, hp, S1, WC.eq (c_law_pages ?_), h1⟩
  nofun
  refine wk_eq e ?_
  nofun
  exact ⟨_, h.cut h1, rfl, rfl⟩
/-! ### records, and what they tell -/
inductive Rec where
  | keep (p : Str) (n : Int)
  | write (p : Str) (n : Int)
  | plain (p : Str) (n : Int)
  | free (p : Str)
  | strike (p : Str)
def Rec.page : Rec → Str
  | .keep p _ => p
  | .write p _ => p
  | .plain p _ => p
  | .free p => p
  | .strike p => p
def Rec.enc : Rec → D
  | .keep p n => .tuple [.str "keep", .str p, .int n]
  | .write p n => .tuple [.str "write", .str p, .int n]
  | .plain p n => .tuple [.str "plain", .str p, .int n]
  | .free p => .tuple [.str "free", .str p]
  | .strike p => .tuple [.str "strike", .str p]
structure Own where
  life : Str
  owner : Int
  due : Option Int
def own0 : Own := ⟨"free", 0, none⟩
def step (o : Own) : Rec → Own
  | .keep _ n => ⟨"kept", n, some n⟩
  | .plain _ n => ⟨"plain", n, none⟩
  | .write _ n => ⟨o.life, o.owner, some n⟩
  | .free _ => own0
  | .strike _ => o
def can (o : Own) (m : Int) : Rec → Prop
  | .keep _ n => o.life = "free" ∧ m < n
  | .plain _ n => o.life = "free" ∧ m < n
  | .write _ n => o.life = "kept" ∧ m < n
  | .free _ => o.life ≠ "free"
  | .strike _ => True
def numOf (m : Int) : Rec → Int
  | .keep _ n => n
  | .plain _ n => n
  | .write _ n => n
  | _ => m
abbrev Own' := Str → Own
def upd1 (st : Own') (r : Rec) : Own' := fun q => if q = r.page then step (st q) r else st q
def ok (st : Own') (m : Int) : List Rec → Prop
  | [] => True
  | r :: rs => can (st r.page) m r ∧ ok (upd1 st r) (numOf m r) rs
def run (st : Own') (rs : List Rec) : Own' := rs.foldl upd1 st
def top (m : Int) (rs : List Rec) : Int := rs.foldl numOf m
theorem ok_app : ∀ (a b : List Rec) (st : Own') (m : Int), ok st m (a ++ b) ↔ ok st m a ∧ ok (run st a) (top m a) b
  | [], b, st, m => by simp [ok, run, top]
  | r :: a, b, st, m => by
    simp only [List.cons_append, ok, ok_app a b, and_assoc]
    rfl
theorem run_app (a b : List Rec) (st : Own') : run st (a ++ b) = run (run st a) b := List.foldl_append ..
theorem top_app (a b : List Rec) (m : Int) : top m (a ++ b) = top (top m a) b := List.foldl_append ..
abbrev st0 : Own' := fun _ => own0
abbrev Log (rs : List Rec) : Prop := ok st0 0 rs
theorem Log.take {rs : List Rec} (h : Log rs) (j : Nat) : Log (rs.take j) := by
  rw [← List.take_append_drop j rs] at h
  exact ((ok_app _ _ _ _).mp h).1
theorem Log.add {rs : List Rec} {r : Rec} (h : Log rs) (c : can (run st0 rs r.page) (top 0 rs) r) : Log (rs ++ [r]) := (ok_app _ _ _ _).mpr ⟨h, c, trivial⟩
/-- a life's word -/
def isLife (l : Str) : Prop := l = "free" ∨ l = "kept" ∨ l = "plain"
theorem step_life {o : Own} (h : isLife o.life) (r : Rec) : isLife (step o r).life := by
  cases r
  · exact .inr (.inl rfl)
  · exact h
  · exact .inr (.inr rfl)
  · exact .inl rfl
  · exact h
theorem run_life (rs : List Rec) : ∀ (st : Own'), (∀ p, isLife (st p).life) → ∀ p, isLife (run st rs p).life := by
  induction rs with
  | nil => exact fun st h => h
  | cons r rs ih =>
    intro st h
    refine ih _ fun p => ?_
    unfold upd1
    split
    · exact step_life (h p) r
    · exact h p
theorem life_of (rs : List Rec) (p : Str) : isLife (run st0 rs p).life := run_life rs st0 (fun _ => .inl rfl) p
end PL.W
end
section
set_option maxHeartbeats 4000000
open PL PySem PySem.Spec PyProof.Rows L2
local macro_rules | `(tactic| left) => `(tactic| (first
  | with_reducible refine ws_asg ?_ | with_reducible refine ws_asgL ?_ | with_reducible refine ws_par ?_ | with_reducible refine ws_parC ?_ | with_reducible refine ws_unp ?_ | with_reducible refine ws_dset ?_
  | with_reducible refine ws_expr ?_ | with_reducible refine ws_ret ?_ | with_reducible refine ws_ret0 ?_ | with_reducible refine ws_pass ?_ | with_reducible refine ws_brk ?_ | with_reducible refine ws_cont ?_ | with_reducible refine ws_if ?_ | with_reducible refine ws_for ?_ | with_reducible refine ws_nil ?_
  | with_reducible refine we_int ?_ | with_reducible refine we_str ?_ | with_reducible refine we_bl ?_ | with_reducible refine we_non ?_ | with_reducible refine we_gd ?_
  | ((with_reducible apply we_loc); rfl)
  | with_reducible refine we_bin ?_ | with_reducible refine we_cmp ?_ | with_reducible refine we_cmp2 ?_ | with_reducible refine we_bop ?_ | with_reducible refine wb_nil ?_ | with_reducible refine wb_cons ?_ | with_reducible refine we_not ?_ | with_reducible refine we_neg ?_ | with_reducible refine we_ite ?_
  | with_reducible refine we_tup ?_ | with_reducible refine we_lst ?_ | with_reducible refine we_lstR ?_ | with_reducible refine we_dic0 ?_ | with_reducible refine we_dic ?_ | with_reducible refine we_ix ?_ | with_reducible refine we_sl ?_ | with_reducible refine wo_no ?_ | with_reducible refine wo_so ?_
  | with_reducible refine we_bi ?_ | with_reducible refine we_isi ?_ | with_reducible refine we_call ?_ | with_reducible refine we_callK ?_ | with_reducible refine we_comp ?_ | with_reducible refine we_compR ?_ | with_reducible refine we_get2 ?_ | with_reducible refine we_app ?_ | with_reducible refine we_ext ?_ | with_reducible refine we_join ?_
  | with_reducible refine we_gget2 ?_ | with_reducible refine we_gget ?_ | with_reducible refine we_gix ?_ | with_reducible refine we_gin ?_ | with_reducible refine we_sset ?_ | with_reducible refine we_sortd ?_ | with_reducible refine we_dcopy ?_ | with_reducible refine we_rev ?_ | with_reducible refine we_reprL ?_ | ((with_reducible apply lfV); rfl; exact Nat.le_of_ble_eq_true rfl) | with_reducible refine wes_nil ?_ | with_reducible refine wes_cons ?_ | with_reducible refine wt_nil ?_ | with_reducible refine wt_one ?_
  | with_reducible refine wi_rng ?_ | with_reducible refine wi_rng2 ?_ | with_reducible refine wi_zip ?_ | with_reducible refine wi_enm ?_ | with_reducible refine wi_seq ?_
  | with_reducible refine then_nx ?_ | with_reducible refine then_bk ?_ | with_reducible refine then_ct ?_ | with_reducible refine then_rt ?_ | with_reducible refine qf_same ?_ | with_reducible refine qf_app ?_ | ((with_reducible apply qf_cons); rfl) | ((with_reducible apply qf_consA); rfl) | with_reducible refine qf_ref ?_ | with_reducible refine qf_d ?_ | with_reducible refine qf_nxS ?_ | with_reducible refine qf_nxA ?_ | with_reducible refine qf_nx ?_
  | ((with_reducible apply wk_eq); with_reducible assumption)
  | (with_reducible refine limp (fun hb => ?_) (fun hb => ?_) <;> (first | (cases hb; done) | (simp only [Bool.not_false, Bool.not_true, Bool.true_eq_false, Bool.false_eq_true, reduceCtorEq] at hb; done) | cases hb | ((try simp only [Bool.not_false, Bool.not_true] at hb); (try rw [hb]))))
  | with_reducible refine lf_add ?_ | with_reducible refine lf_sub ?_ | ((with_reducible apply lf_mod); (first | assumption | decide)) | ((with_reducible apply lf_div); (first | assumption | decide)) | with_reducible refine lf_lt ?_ | with_reducible refine lf_le ?_ | with_reducible refine lf_gt ?_ | with_reducible refine lf_ge ?_ | with_reducible refine lf_eqI ?_ | with_reducible refine lf_neI ?_ | with_reducible refine lf_eqSame ?_ | with_reducible refine lf_neSame ?_ | with_reducible refine lf_eqS ?_ | with_reducible refine lf_neS ?_
  | with_reducible refine lf_isN ?_ | with_reducible refine lf_isI ?_ | with_reducible refine lf_isnN ?_ | with_reducible refine lf_isnI ?_ | with_reducible refine lf_tb ?_ | with_reducible refine lf_tl ?_ | with_reducible refine lf_tt ?_ | with_reducible refine lf_int ?_ | with_reducible refine lf_lenL ?_ | with_reducible refine lf_lenT ?_ | ((with_reducible apply lf_lenS); assumption) | with_reducible refine lf_tupL ?_ | with_reducible refine lf_tupT ?_ | with_reducible refine lf_listL ?_ | with_reducible refine lf_listT ?_ | with_reducible refine lf_view ?_ | with_reducible refine lf_in2 ?_ | with_reducible refine lf_in3 ?_ | with_reducible refine lf_inM ?_ | with_reducible refine lf_ix0T ?_ | with_reducible refine lf_ix1T ?_ | with_reducible refine lf_ix2T ?_ | with_reducible refine lf_sl1 ?_ | with_reducible refine lf_slL ?_ | with_reducible refine lf_slT ?_
  | ((with_reducible apply lf_pow); decide) | with_reducible refine lf_mul ?_ ?_ | with_reducible refine lf_pow ?_ ?_ | ((with_reducible apply lf_addT); exact Nat.le_of_ble_eq_true rfl) | ((with_reducible apply lf_addL); exact Nat.le_of_ble_eq_true rfl) | with_reducible refine lf_addT ?_ ?_ | with_reducible refine lf_addL ?_ ?_
  | ((with_reducible apply lf2); rfl; rfl) | ((with_reducible apply lf3); rfl; exact Nat.le_of_ble_eq_true rfl) | ((with_reducible apply lf4); rfl; decide) | ((with_reducible apply lfU); rfl; rfl)
  | with_reducible refine ls_l ?_ | with_reducible refine ls_t ?_ | with_reducible refine ls_s ?_ | ((with_reducible apply ls_r); rfl) | with_reducible refine le_l ?_ | with_reducible refine le_t ?_ | with_reducible refine le_s ?_ | with_reducible refine lz_l ?_ | with_reducible refine lz_t ?_
  | ((with_reducible apply lfR); (first | decide | omega)) | ((with_reducible apply lfR2); (first | decide | omega)) | with_reducible refine lfI ?_
  | ((with_reducible apply lf); rfl) | ((with_reducible apply lfB); rfl) | ((with_reducible apply land); rfl)))
local macro_rules | `(tactic| nofun) => `(tactic| repeat' left)
namespace PL.W
open PySem PySem.Spec PyProof.Rows L2 PL
/-! ### dicts -/
def Lv (lv : List (Key × D)) (rs : List Rec) : Prop := lv.length ≤ rs.length ∧ ∀ p, (lookK lv (.inr p)).getD (.str "free") = .str (run st0 rs p).life
theorem run_add (rs : List Rec) (r : Rec) (p : Str) : run st0 (rs ++ [r]) p = if p = r.page then step (run st0 rs p) r else run st0 rs p := by
  rw [run_app]; rfl
theorem Lv.put {lv : List (Key × D)} {rs : List Rec} (h : Lv lv rs) (r : Rec) (l : Str) (hl : (step (run st0 rs r.page) r).life = l) : Lv (storeK lv (.inr r.page) (.str l)) (rs ++ [r]) := by
  refine ⟨by rw [List.length_append]; have := store_len (ks := lv) (k := .inr r.page) (v := PyData.str l); have := h.1; simp; omega, fun p => ?_⟩
  rw [look_store, run_add]
  by_cases hp : p = r.page
  · subst hp; rw [if_pos rfl, if_pos rfl, hl]; rfl
  · rw [if_neg hp, if_neg (fun z => hp (by injection z))]; exact h.2 p
theorem Lv.keep {lv : List (Key × D)} {rs : List Rec} (h : Lv lv rs) (r : Rec) (hl : (step (run st0 rs r.page) r).life = (run st0 rs r.page).life) : Lv lv (rs ++ [r]) := by
  refine ⟨by rw [List.length_append]; have := h.1; omega, fun p => ?_⟩
  rw [run_add]
  by_cases hp : p = r.page
  · subst hp; rw [if_pos rfl, hl]; exact h.2 _
  · rw [if_neg hp]; exact h.2 p
theorem Lv.get {lv : List (Key × D)} {rs : List Rec} (h : Lv lv rs) (p : Str) {o : Ob} {T : Sto} : get2R (.ref 1) (.d (.str p)) (.d (.str "free")) (o :: .dic lv :: T) = some (.d (.str (run st0 rs p).life)) := by
  have := h.2 p
  show (match lookK lv (.inr p) with
      | some v => some (R.d v)
      | none => some (.d (.str "free"))) = _
  cases hq : lookK lv (.inr p) with
  | none => rw [hq] at this; rw [← this]; rfl
  | some v => rw [hq] at this; rw [← this]; rfl
theorem d_set {o : Ob} {T : Sto} {lv : List (Key × D)} {p : Str} {v : D} (h : lv.length < sizeLine) : dsetR (.ref 1) (.d (.str p)) (.d v) (o :: .dic lv :: T) = some (o :: .dic (storeK lv (.inr p) v) :: T) := by
  show (if lv.length < sizeLine then some _ else none) = _
  rw [if_pos h]; rfl
theorem l_app {o o' : Ob} {T : Sto} {xs : List D} {v : D} (h : xs.length < sizeLine) : appR (.ref 2) (.d v) (o :: o' :: .lst xs :: T) = some (o :: o' :: .lst (xs ++ [v]) :: T) := by
  show (if xs.length < sizeLine then some _ else none) = _
  rw [if_pos h]; rfl
theorem d_ix {o : Ob} {T : Sto} {lv : List (Key × D)} {p : Str} {v : D} : ixR (.ref 1) (.d (.str p)) (o :: .dic (storeK lv (.inr p) v) :: T) = some v := by
  show lookK (storeK lv (.inr p) v) (.inr p) = _
  rw [look_store, if_pos rfl]
theorem page_pick (n : Nat) {T : Sto} {k : Int} {S : Sto} (h : Sp T k S) (hk : k < 2 ^ 39) {ps : List Str} (hp : ps ∈ PAGES) : ∃ p ∈ ps, ∃ S', callN fns (n + 2) i_law_pick [.ref 0, .d (.list (ps.map .str))] S = some (.d (.str p), S') ∧ Sp T (k + 1) S' := by
  have l3 : ps.map PyData.str ≠ [] ∧ (ps.map PyData.str).length < 1000 := by
    have : ∀ ps ∈ PAGES, ps.map PyData.str ≠ [] ∧ (ps.map PyData.str).length < 1000 := by
      intro ps hp
      simp only [PAGES, List.mem_cons, List.not_mem_nil, or_false] at hp
      rcases hp with rfl | rfl | rfl | rfl | rfl | rfl <;> exact ⟨by simp, by simp⟩
    exact this ps hp
  obtain ⟨d, hd, S', e, h'⟩ := pickS n h hk l3.1 l3.2
  obtain ⟨p, hp, rfl⟩ := List.mem_map.mp hd
  exact ⟨p, hp, S', e, h'⟩
end PL.W
end
section
set_option maxHeartbeats 4000000
open PL PySem PySem.Spec PyProof.Rows L2
local macro_rules | `(tactic| left) => `(tactic| (first
  | with_reducible refine ws_asg ?_ | with_reducible refine ws_asgL ?_ | with_reducible refine ws_par ?_ | with_reducible refine ws_parC ?_ | with_reducible refine ws_unp ?_ | with_reducible refine ws_dset ?_
  | with_reducible refine ws_expr ?_ | with_reducible refine ws_ret ?_ | with_reducible refine ws_ret0 ?_ | with_reducible refine ws_pass ?_ | with_reducible refine ws_brk ?_ | with_reducible refine ws_cont ?_ | with_reducible refine ws_if ?_ | with_reducible refine ws_for ?_ | with_reducible refine ws_nil ?_
  | with_reducible refine we_int ?_ | with_reducible refine we_str ?_ | with_reducible refine we_bl ?_ | with_reducible refine we_non ?_ | with_reducible refine we_gd ?_
  | ((with_reducible apply we_loc); rfl)
  | with_reducible refine we_bin ?_ | with_reducible refine we_cmp ?_ | with_reducible refine we_cmp2 ?_ | with_reducible refine we_bop ?_ | with_reducible refine wb_nil ?_ | with_reducible refine wb_cons ?_ | with_reducible refine we_not ?_ | with_reducible refine we_neg ?_ | with_reducible refine we_ite ?_
  | with_reducible refine we_tup ?_ | with_reducible refine we_lst ?_ | with_reducible refine we_lstR ?_ | with_reducible refine we_dic0 ?_ | with_reducible refine we_dic ?_ | with_reducible refine we_ix ?_ | with_reducible refine we_sl ?_ | with_reducible refine wo_no ?_ | with_reducible refine wo_so ?_
  | with_reducible refine we_bi ?_ | with_reducible refine we_isi ?_ | with_reducible refine we_call ?_ | with_reducible refine we_callK ?_ | with_reducible refine we_comp ?_ | with_reducible refine we_compR ?_ | with_reducible refine we_get2 ?_ | with_reducible refine we_app ?_ | with_reducible refine we_ext ?_ | with_reducible refine we_join ?_
  | with_reducible refine we_gget2 ?_ | with_reducible refine we_gget ?_ | with_reducible refine we_gix ?_ | with_reducible refine we_gin ?_ | with_reducible refine we_sset ?_ | with_reducible refine we_sortd ?_ | with_reducible refine we_dcopy ?_ | with_reducible refine we_rev ?_ | with_reducible refine we_reprL ?_ | ((with_reducible apply lfV); rfl; exact Nat.le_of_ble_eq_true rfl) | with_reducible refine wes_nil ?_ | with_reducible refine wes_cons ?_ | with_reducible refine wt_nil ?_ | with_reducible refine wt_one ?_
  | with_reducible refine wi_rng ?_ | with_reducible refine wi_rng2 ?_ | with_reducible refine wi_zip ?_ | with_reducible refine wi_enm ?_ | with_reducible refine wi_seq ?_
  | with_reducible refine then_nx ?_ | with_reducible refine then_bk ?_ | with_reducible refine then_ct ?_ | with_reducible refine then_rt ?_ | with_reducible refine qf_same ?_ | with_reducible refine qf_app ?_ | ((with_reducible apply qf_cons); rfl) | ((with_reducible apply qf_consA); rfl) | with_reducible refine qf_ref ?_ | with_reducible refine qf_d ?_ | with_reducible refine qf_nxS ?_ | with_reducible refine qf_nxA ?_ | with_reducible refine qf_nx ?_
  | ((with_reducible apply wk_eq); with_reducible assumption)
  | (with_reducible refine limp (fun hb => ?_) (fun hb => ?_) <;> (first | (cases hb; done) | (simp only [Bool.not_false, Bool.not_true, Bool.true_eq_false, Bool.false_eq_true, reduceCtorEq] at hb; done) | cases hb | ((try simp only [Bool.not_false, Bool.not_true] at hb); (try rw [hb]))))
  | with_reducible refine lf_add ?_ | with_reducible refine lf_sub ?_ | ((with_reducible apply lf_mod); (first | assumption | decide)) | ((with_reducible apply lf_div); (first | assumption | decide)) | with_reducible refine lf_lt ?_ | with_reducible refine lf_le ?_ | with_reducible refine lf_gt ?_ | with_reducible refine lf_ge ?_ | with_reducible refine lf_eqI ?_ | with_reducible refine lf_neI ?_ | with_reducible refine lf_eqSame ?_ | with_reducible refine lf_neSame ?_ | with_reducible refine lf_eqS ?_ | with_reducible refine lf_neS ?_
  | with_reducible refine lf_isN ?_ | with_reducible refine lf_isI ?_ | with_reducible refine lf_isnN ?_ | with_reducible refine lf_isnI ?_ | with_reducible refine lf_tb ?_ | with_reducible refine lf_tl ?_ | with_reducible refine lf_tt ?_ | with_reducible refine lf_int ?_ | with_reducible refine lf_lenL ?_ | with_reducible refine lf_lenT ?_ | ((with_reducible apply lf_lenS); assumption) | with_reducible refine lf_tupL ?_ | with_reducible refine lf_tupT ?_ | with_reducible refine lf_listL ?_ | with_reducible refine lf_listT ?_ | with_reducible refine lf_view ?_ | with_reducible refine lf_in2 ?_ | with_reducible refine lf_in3 ?_ | with_reducible refine lf_inM ?_ | with_reducible refine lf_ix0T ?_ | with_reducible refine lf_ix1T ?_ | with_reducible refine lf_ix2T ?_ | with_reducible refine lf_sl1 ?_ | with_reducible refine lf_slL ?_ | with_reducible refine lf_slT ?_
  | ((with_reducible apply lf_pow); decide) | with_reducible refine lf_mul ?_ ?_ | with_reducible refine lf_pow ?_ ?_ | ((with_reducible apply lf_addT); exact Nat.le_of_ble_eq_true rfl) | ((with_reducible apply lf_addL); exact Nat.le_of_ble_eq_true rfl) | with_reducible refine lf_addT ?_ ?_ | with_reducible refine lf_addL ?_ ?_
  | ((with_reducible apply lf2); rfl; rfl) | ((with_reducible apply lf3); rfl; exact Nat.le_of_ble_eq_true rfl) | ((with_reducible apply lf4); rfl; decide) | ((with_reducible apply lfU); rfl; rfl)
  | with_reducible refine ls_l ?_ | with_reducible refine ls_t ?_ | with_reducible refine ls_s ?_ | ((with_reducible apply ls_r); rfl) | with_reducible refine le_l ?_ | with_reducible refine le_t ?_ | with_reducible refine le_s ?_ | with_reducible refine lz_l ?_ | with_reducible refine lz_t ?_
  | ((with_reducible apply lfR); (first | decide | omega)) | ((with_reducible apply lfR2); (first | decide | omega)) | with_reducible refine lfI ?_
  | ((with_reducible apply lf); rfl) | ((with_reducible apply lfB); rfl) | ((with_reducible apply land); rfl)))
local macro_rules | `(tactic| nofun) => `(tactic| repeat' left)
local macro_rules | `(tactic| left) => `(tactic| first | with_reducible refine lf (PL.W.l_app (by assumption)) ?_ | with_reducible refine lf (PL.W.d_set (by assumption)) ?_ | with_reducible refine lf PL.W.d_ix ?_)
namespace PL.W
open PySem PySem.Spec PyProof.Rows L2 PL
def LogI (k m : Int) (N : Nat) (ps : List Str) (ds : List D) (L : Loc) (S : Sto) : Prop := ∃ (rs : List Rec) (lv : List (Key × D)) (made : Int) (l6 l7 l8 l9 : Option R),
  L = [some (.ref 0), some (.d (.list (ps.map .str))), some (.d (.int m)), some (.ref 1), some (.d (.int made)), some (.ref 2), l6, l7, l8, l9] ∧ Sp [.dic lv, .lst (rs.map Rec.enc)] (k + 4 * rs.length) S ∧ Log rs ∧ (∀ r ∈ rs, r.page ∈ ps) ∧ rs.length + ds.length = N ∧ Lv lv rs ∧ top 0 rs ≤ made ∧ 0 ≤ made ∧ made ≤ 2 * 10 ^ 9 * rs.length
theorem top_add (rs : List Rec) (r : Rec) : top 0 (rs ++ [r]) = numOf (top 0 rs) r := by rw [top_app]; rfl
theorem LogI.next {k m : Int} {N : Nat} {ps : List Str} {r : List D} {rs : List Rec} {lv : List (Key × D)} {made made' : Int} {L : Loc} {l6 l7 l8 l9 : Option R} {cs : List Int} {p0 q0 c0 : Int} {T : Sto} (r0 : Rec) (hL : L = [some (.ref 0), some (.d (.list (ps.map .str))), some (.d (.int m)), some (.ref 1), some (.d (.int made')), some (.ref 2), l6, l7, l8, l9])
    (c0a : 0 ≤ c0) (c0b : c0 ≤ k + 4 * (rs.length + 1 : Nat)) (hl : Log rs) (hc : can (run st0 rs r0.page) (top 0 rs) r0) (hpg : ∀ r ∈ rs, r.page ∈ ps) (hr : r0.page ∈ ps) (hn : rs.length + (r.length + 1) = N) (hv : Lv lv (rs ++ [r0])) (ht : top 0 rs ≤ made) (hm0 : 0 ≤ made) (hm : made ≤ 2 * 10 ^ 9 * rs.length) (h1 : made < made') (h2 : made' ≤ made + 2 * 10 ^ 9) (hq : numOf (top 0 rs) r0 ≤ made')
    (hT : T = [spO cs p0 q0 c0, .dic lv, .lst (rs.map Rec.enc ++ [r0.enc])]) : LogI k m N ps r L T := by
  subst hT hL
  have e : ((rs ++ [r0]).length : Int) = rs.length + 1 := by rw [List.length_append]; simp
  refine ⟨rs ++ [r0], lv, made', l6, l7, l8, l9, rfl, ⟨cs, p0, q0, c0, by rw [List.map_append]; rfl, c0a, by rw [e]; omega⟩, hl.add hc, fun x hx => ?_, by rw [List.length_append]; simp; omega, hv, by rw [top_add]; exact hq, by omega, by rw [e]; omega⟩
  rcases List.mem_append.mp hx with hx | hx
  · exact hpg x hx
  · rw [List.mem_singleton] at hx; subst hx; exact hr
theorem logT (n : Nat) {k m : Int} {N : Nat} (hk : k < 2 ^ 37) (hN : N ≤ 1000) {ps : List Str} (hp : ps ∈ PAGES) (tg : List Sx) (htg : b_law_log = b_law_log.take 1 ++ [.fors (.one 6) (.rng (.call i_law_dip (.cons (.loc 0) (.cons (.bin .Add (.loc 2) (.int 1)) .nil)))) tg] ++ b_law_log.drop 2)
    (d : D) (r : List D) (L : Loc) (S : Sto) (h : LogI k m N ps (d :: r) L S) : ∃ g L' S', lapT (callN fns (n + 2)) (.one 6) tg d L S = some (g, L', S') ∧ (g = .nx ∨ g = .ct) ∧ lockB none S' = true ∧ LogI k m N ps r L' S' := by
  cases htg
  obtain ⟨rs, lv, made, l6, l7, l8, l9, rfl, hS, hl, hpg, hn, hv, ht, hm0, hm⟩ := h
  rw [List.length_cons] at hn
  have hz : (rs.map Rec.enc).length < sizeLine := by rw [List.length_map]; exact Nat.lt_of_lt_of_le (show rs.length < 1001 by omega) (by decide)
  have hz2 : lv.length < sizeLine := Nat.lt_of_lt_of_le (show lv.length < 1001 by have := hv.1; omega) (by decide)
  refine lap_of rfl ?_
  obtain ⟨p, hpp, S1, e1, h1⟩ := page_pick n hS (by omega) hp
  obtain ⟨v, S2, v0, v1, e2, h2⟩ := dipS (n + 1) h1 (by omega) (m := 6) (by decide) (by decide)
  obtain ⟨cs, p0, r0, c0, rfl, ca, cb⟩ := id h2
  obtain ⟨d3, hd3, S3, e3, h3⟩ := pickS n h2 (by omega) (ds := [.int 0, .int 0, .int 0, .int 1, .int 2, .int (10 ^ Int.toNat 9)]) (by simp) (by simp)
  obtain ⟨u, rfl, u0, u1⟩ : ∃ u, d3 = .int u ∧ 0 ≤ u ∧ u ≤ 10 ^ 9 := by
    simp only [List.mem_cons, List.not_mem_nil, or_false] at hd3
    rcases hd3 with rfl | rfl | rfl | rfl | rfl | rfl <;> exact ⟨_, rfl, by decide, by decide⟩
  obtain ⟨cs3, p3, r3, c3, rfl, ca3, cb3⟩ := id h3
  obtain ⟨d4, hd4, S4, e4, h4⟩ := pickS n h3 (by omega) (ds := [.str "kept", .str "kept", .str "plain"]) (by simp) (by simp)
  obtain ⟨cs4, p4, r4, c4, rfl, ca4, cb4⟩ := id h4
  obtain ⟨l, rfl, hl4⟩ : ∃ l, d4 = .str l ∧ (l = "kept" ∨ l = "plain") := by
    simp only [List.mem_cons, List.not_mem_nil, or_false] at hd4
    rcases hd4 with rfl | rfl | rfl
    · exact ⟨_, rfl, .inl rfl⟩
    · exact ⟨_, rfl, .inl rfl⟩
    · exact ⟨_, rfl, .inr rfl⟩
  nofun
  refine lf (hv.get p) ?_
  nofun
  all_goals
    refine ⟨.inl rfl, rfl, ?_⟩
    simp only [decide_eq_true_eq, decide_eq_false_iff_not, Bool.not_false, Bool.not_true] at *
    first
    | exact LogI.next (.strike p) rfl ca3 (by omega) hl trivial hpg hpp hn (hv.keep _ rfl) ht hm0 hm (by omega) (by omega) (by show top 0 rs ≤ _; omega) rfl
    | exact LogI.next (.free p) rfl ca3 (by omega) hl (by show (run st0 rs p).life ≠ "free"; assumption) hpg hpp hn (hv.put (.free p) "free" rfl) ht hm0 hm (by omega) (by omega) (by show top 0 rs ≤ _; omega) rfl
    | exact LogI.next (.write p (made + 1 + u)) rfl ca3 (by omega) hl ⟨by have := life_of rs p; rcases this with z | z | z <;> first | exact z | exact absurd z (by assumption), by omega⟩ hpg hpp hn (hv.keep _ rfl) ht hm0 hm (by omega) (by omega) (Int.le_refl _) rfl
    | exact LogI.next (.keep p (made + 1 + u)) rfl ca4 (by omega) hl ⟨by assumption, by omega⟩ hpg hpp hn (hv.put (.keep p (made + 1 + u)) l (by show ("kept" : Str) = l; exact Eq.symm (by assumption))) ht hm0 hm (by omega) (by omega) (Int.le_refl _) rfl
    | exact LogI.next (.plain p (made + 1 + u)) rfl ca4 (by omega) hl ⟨by assumption, by omega⟩ hpg hpp hn (hv.put (.plain p (made + 1 + u)) l (by show ("plain" : Str) = l; exact (hl4.resolve_left (by assumption)).symm)) ht hm0 hm (by omega) (by omega) (Int.le_refl _) rfl
    | skip
  all_goals trace_state
end PL.W
end
section
set_option maxHeartbeats 4000000
open PL PySem PySem.Spec PyProof.Rows L2
local macro_rules | `(tactic| left) => `(tactic| (first
  | with_reducible refine ws_asg ?_ | with_reducible refine ws_asgL ?_ | with_reducible refine ws_par ?_ | with_reducible refine ws_parC ?_ | with_reducible refine ws_unp ?_ | with_reducible refine ws_dset ?_
  | with_reducible refine ws_expr ?_ | with_reducible refine ws_ret ?_ | with_reducible refine ws_ret0 ?_ | with_reducible refine ws_pass ?_ | with_reducible refine ws_brk ?_ | with_reducible refine ws_cont ?_ | with_reducible refine ws_if ?_ | with_reducible refine ws_for ?_ | with_reducible refine ws_nil ?_
  | with_reducible refine we_int ?_ | with_reducible refine we_str ?_ | with_reducible refine we_bl ?_ | with_reducible refine we_non ?_ | with_reducible refine we_gd ?_
  | ((with_reducible apply we_loc); rfl)
  | with_reducible refine we_bin ?_ | with_reducible refine we_cmp ?_ | with_reducible refine we_cmp2 ?_ | with_reducible refine we_bop ?_ | with_reducible refine wb_nil ?_ | with_reducible refine wb_cons ?_ | with_reducible refine we_not ?_ | with_reducible refine we_neg ?_ | with_reducible refine we_ite ?_
  | with_reducible refine we_tup ?_ | with_reducible refine we_lst ?_ | with_reducible refine we_lstR ?_ | with_reducible refine we_dic0 ?_ | with_reducible refine we_dic ?_ | with_reducible refine we_ix ?_ | with_reducible refine we_sl ?_ | with_reducible refine wo_no ?_ | with_reducible refine wo_so ?_
  | with_reducible refine we_bi ?_ | with_reducible refine we_isi ?_ | with_reducible refine we_call ?_ | with_reducible refine we_callK ?_ | with_reducible refine we_comp ?_ | with_reducible refine we_compR ?_ | with_reducible refine we_get2 ?_ | with_reducible refine we_app ?_ | with_reducible refine we_ext ?_ | with_reducible refine we_join ?_
  | with_reducible refine we_gget2 ?_ | with_reducible refine we_gget ?_ | with_reducible refine we_gix ?_ | with_reducible refine we_gin ?_ | with_reducible refine we_sset ?_ | with_reducible refine we_sortd ?_ | with_reducible refine we_dcopy ?_ | with_reducible refine we_rev ?_ | with_reducible refine we_reprL ?_ | ((with_reducible apply lfV); rfl; exact Nat.le_of_ble_eq_true rfl) | with_reducible refine wes_nil ?_ | with_reducible refine wes_cons ?_ | with_reducible refine wt_nil ?_ | with_reducible refine wt_one ?_
  | with_reducible refine wi_rng ?_ | with_reducible refine wi_rng2 ?_ | with_reducible refine wi_zip ?_ | with_reducible refine wi_enm ?_ | with_reducible refine wi_seq ?_
  | with_reducible refine then_nx ?_ | with_reducible refine then_bk ?_ | with_reducible refine then_ct ?_ | with_reducible refine then_rt ?_ | with_reducible refine qf_same ?_ | with_reducible refine qf_app ?_ | ((with_reducible apply qf_cons); rfl) | ((with_reducible apply qf_consA); rfl) | with_reducible refine qf_ref ?_ | with_reducible refine qf_d ?_ | with_reducible refine qf_nxS ?_ | with_reducible refine qf_nxA ?_ | with_reducible refine qf_nx ?_
  | ((with_reducible apply wk_eq); with_reducible assumption)
  | (with_reducible refine limp (fun hb => ?_) (fun hb => ?_) <;> (first | (cases hb; done) | (simp only [Bool.not_false, Bool.not_true, Bool.true_eq_false, Bool.false_eq_true, reduceCtorEq] at hb; done) | cases hb | ((try simp only [Bool.not_false, Bool.not_true] at hb); (try rw [hb]))))
  | with_reducible refine lf_add ?_ | with_reducible refine lf_sub ?_ | ((with_reducible apply lf_mod); (first | assumption | decide)) | ((with_reducible apply lf_div); (first | assumption | decide)) | with_reducible refine lf_lt ?_ | with_reducible refine lf_le ?_ | with_reducible refine lf_gt ?_ | with_reducible refine lf_ge ?_ | with_reducible refine lf_eqI ?_ | with_reducible refine lf_neI ?_ | with_reducible refine lf_eqSame ?_ | with_reducible refine lf_neSame ?_ | with_reducible refine lf_eqS ?_ | with_reducible refine lf_neS ?_
  | with_reducible refine lf_isN ?_ | with_reducible refine lf_isI ?_ | with_reducible refine lf_isnN ?_ | with_reducible refine lf_isnI ?_ | with_reducible refine lf_tb ?_ | with_reducible refine lf_tl ?_ | with_reducible refine lf_tt ?_ | with_reducible refine lf_int ?_ | with_reducible refine lf_lenL ?_ | with_reducible refine lf_lenT ?_ | ((with_reducible apply lf_lenS); assumption) | with_reducible refine lf_tupL ?_ | with_reducible refine lf_tupT ?_ | with_reducible refine lf_listL ?_ | with_reducible refine lf_listT ?_ | with_reducible refine lf_view ?_ | with_reducible refine lf_in2 ?_ | with_reducible refine lf_in3 ?_ | with_reducible refine lf_inM ?_ | with_reducible refine lf_ix0T ?_ | with_reducible refine lf_ix1T ?_ | with_reducible refine lf_ix2T ?_ | with_reducible refine lf_sl1 ?_ | with_reducible refine lf_slL ?_ | with_reducible refine lf_slT ?_
  | ((with_reducible apply lf_pow); decide) | with_reducible refine lf_mul ?_ ?_ | with_reducible refine lf_pow ?_ ?_ | ((with_reducible apply lf_addT); exact Nat.le_of_ble_eq_true rfl) | ((with_reducible apply lf_addL); exact Nat.le_of_ble_eq_true rfl) | with_reducible refine lf_addT ?_ ?_ | with_reducible refine lf_addL ?_ ?_
  | ((with_reducible apply lf2); rfl; rfl) | ((with_reducible apply lf3); rfl; exact Nat.le_of_ble_eq_true rfl) | ((with_reducible apply lf4); rfl; decide) | ((with_reducible apply lfU); rfl; rfl)
  | with_reducible refine ls_l ?_ | with_reducible refine ls_t ?_ | with_reducible refine ls_s ?_ | ((with_reducible apply ls_r); rfl) | with_reducible refine le_l ?_ | with_reducible refine le_t ?_ | with_reducible refine le_s ?_ | with_reducible refine lz_l ?_ | with_reducible refine lz_t ?_
  | ((with_reducible apply lfR); (first | decide | omega)) | ((with_reducible apply lfR2); (first | decide | omega)) | with_reducible refine lfI ?_
  | ((with_reducible apply lf); rfl) | ((with_reducible apply lfB); rfl) | ((with_reducible apply land); rfl)))
local macro_rules | `(tactic| nofun) => `(tactic| repeat' left)
namespace PL.W
open PySem PySem.Spec PyProof.Rows L2 PL
/-- a drawn log -/
theorem logS (n : Nat) {k : Int} {S : Sto} (h : Sp [] k S) (hk : k < 2 ^ 36) {ps : List Str} (hp : ps ∈ PAGES) {m : Int} (hm0 : 0 ≤ m) (hm : m ≤ 900) : ∃ rs S', callN fns (n + 3) i_law_log [.ref 0, .d (.list (ps.map .str)), .d (.int m)] S = some (.d (.tuple (rs.map Rec.enc)), S') ∧ Log rs ∧ (∀ r ∈ rs, r.page ∈ ps) ∧ (rs.length : Int) ≤ m ∧ top 0 rs ≤ 2 * 10 ^ 9 * rs.length ∧ Sp [] (k + 4000) S' := by
  have hh := h
  obtain ⟨cs, p, r, c, rfl, c0, c1⟩ := hh
  obtain ⟨v, S1, v0, v1, e1, h1⟩ := dipS (T := [.dic [], .lst []]) (k := k) (n + 1) ⟨cs, p, r, c, rfl, c0, c1⟩ (by omega) (m := m + 1) (by omega) (by omega)
  have main : WC fns (n + 3) i_law_log [.ref 0, .d (.list (ps.map .str)), .d (.int m)] [spO cs p r c] fun x S' => ∃ rs, x = .d (.tuple (rs.map Rec.enc)) ∧ Log rs ∧ (∀ r ∈ rs, r.page ∈ ps) ∧ (rs.length : Int) ≤ m ∧ top 0 rs ≤ 2 * 10 ^ 9 * rs.length ∧ Sp [] (k + 4000) S' := by
    refine c_law_log ?_
    nofun
    refine wk_eq e1 ?_
    nofun
    refine for_to (LogI (k + 1) m v.toNat ps) ⟨[], [], 0, none, none, none, none, rfl, h1.mono (by simp), trivial, by simp, ?_, ⟨Nat.le_refl _, fun p => rfl⟩, by decide, by decide, by decide⟩ (fun d r L S => logT n (by omega) (by omega) hp _ rfl d r L S) ?_
    · simp only [List.length_nil, Nat.zero_add, rngD, List.length_map, List.length_range]
    rintro L' S' ⟨rs, lv, made, l6, l7, l8, l9, rfl, ⟨cs2, p2, r2, c2, rfl, c20, c21⟩, hl, hpg, hn, hv, ht, hm0', hm'⟩
    have hn : rs.length = v.toNat := hn
    nofun
    exact ⟨rs, rfl, hl, hpg, by omega, by omega, cs2, p2, r2, c2, rfl, c20, by omega⟩
  obtain ⟨x, S', e, rs, rfl, q⟩ := main
  exact ⟨rs, S', e, q⟩
end PL.W
end
section
set_option maxHeartbeats 4000000
open PL PySem PySem.Spec PyProof.Rows L2
local macro_rules | `(tactic| contradiction) => `(tactic| (first
  | with_reducible refine ws_asg ?_ | with_reducible refine ws_asgL ?_ | with_reducible refine ws_par ?_ | with_reducible refine ws_parC ?_ | with_reducible refine ws_unp ?_ | with_reducible refine ws_dset ?_
  | with_reducible refine ws_expr ?_ | with_reducible refine ws_ret ?_ | with_reducible refine ws_ret0 ?_ | with_reducible refine ws_pass ?_ | with_reducible refine ws_brk ?_ | with_reducible refine ws_cont ?_ | with_reducible refine ws_if ?_ | with_reducible refine ws_for ?_ | with_reducible refine ws_nil ?_
  | with_reducible refine we_int ?_ | with_reducible refine we_str ?_ | with_reducible refine we_bl ?_ | with_reducible refine we_non ?_ | with_reducible refine we_gd ?_
  | ((with_reducible apply we_loc); rfl)
  | with_reducible refine we_bin ?_ | with_reducible refine we_cmp ?_ | with_reducible refine we_cmp2 ?_ | with_reducible refine we_bop ?_ | with_reducible refine wb_nil ?_ | with_reducible refine wb_cons ?_ | with_reducible refine we_not ?_ | with_reducible refine we_neg ?_ | with_reducible refine we_ite ?_
  | with_reducible refine we_tup ?_ | with_reducible refine we_lst ?_ | with_reducible refine we_lstR ?_ | with_reducible refine we_dic0 ?_ | with_reducible refine we_dic ?_ | with_reducible refine we_ix ?_ | with_reducible refine we_sl ?_ | with_reducible refine wo_no ?_ | with_reducible refine wo_so ?_
  | with_reducible refine we_bi ?_ | with_reducible refine we_isi ?_ | with_reducible refine we_call ?_ | with_reducible refine we_callK ?_ | with_reducible refine we_comp ?_ | with_reducible refine we_compR ?_ | with_reducible refine we_get2 ?_ | with_reducible refine we_app ?_ | with_reducible refine we_ext ?_ | with_reducible refine we_join ?_
  | with_reducible refine we_gget2 ?_ | with_reducible refine we_gget ?_ | with_reducible refine we_gix ?_ | with_reducible refine we_gin ?_ | with_reducible refine we_sset ?_ | with_reducible refine we_sortd ?_ | with_reducible refine we_dcopy ?_ | with_reducible refine we_rev ?_ | with_reducible refine we_reprL ?_ | ((with_reducible apply lfV); rfl; exact Nat.le_of_ble_eq_true rfl) | with_reducible refine wes_nil ?_ | with_reducible refine wes_cons ?_ | with_reducible refine wt_nil ?_ | with_reducible refine wt_one ?_
  | with_reducible refine wi_rng ?_ | with_reducible refine wi_rng2 ?_ | with_reducible refine wi_zip ?_ | with_reducible refine wi_enm ?_ | with_reducible refine wi_seq ?_
  | with_reducible refine then_nx ?_ | with_reducible refine then_bk ?_ | with_reducible refine then_ct ?_ | with_reducible refine then_rt ?_ | with_reducible refine qf_same ?_ | with_reducible refine qf_app ?_ | ((with_reducible apply qf_cons); rfl) | ((with_reducible apply qf_consA); rfl) | with_reducible refine qf_ref ?_ | with_reducible refine qf_d ?_ | with_reducible refine qf_nxS ?_ | with_reducible refine qf_nxA ?_ | with_reducible refine qf_nx ?_
  | ((with_reducible apply wk_eq); with_reducible assumption)
  | (with_reducible refine limp (fun hb => ?_) (fun hb => ?_) <;> (first | (cases hb; done) | (simp only [Bool.not_false, Bool.not_true, Bool.true_eq_false, Bool.false_eq_true, reduceCtorEq] at hb; done) | cases hb | ((try simp only [Bool.not_false, Bool.not_true] at hb); (try rw [hb]))))
  | with_reducible refine lf_add ?_ | with_reducible refine lf_sub ?_ | ((with_reducible apply lf_mod); (first | assumption | decide)) | ((with_reducible apply lf_div); (first | assumption | decide)) | with_reducible refine lf_lt ?_ | with_reducible refine lf_le ?_ | with_reducible refine lf_gt ?_ | with_reducible refine lf_ge ?_ | with_reducible refine lf_eqI ?_ | with_reducible refine lf_neI ?_ | with_reducible refine lf_eqSame ?_ | with_reducible refine lf_neSame ?_ | with_reducible refine lf_eqS ?_ | with_reducible refine lf_neS ?_
  | with_reducible refine lf_isN ?_ | with_reducible refine lf_isI ?_ | with_reducible refine lf_isnN ?_ | with_reducible refine lf_isnI ?_ | with_reducible refine lf_tb ?_ | with_reducible refine lf_tl ?_ | with_reducible refine lf_tt ?_ | with_reducible refine lf_int ?_ | with_reducible refine lf_lenL ?_ | with_reducible refine lf_lenT ?_ | ((with_reducible apply lf_lenS); assumption) | with_reducible refine lf_tupL ?_ | with_reducible refine lf_tupT ?_ | with_reducible refine lf_listL ?_ | with_reducible refine lf_listT ?_ | with_reducible refine lf_view ?_ | with_reducible refine lf_in2 ?_ | with_reducible refine lf_in3 ?_ | with_reducible refine lf_inM ?_ | with_reducible refine lf_ix0T ?_ | with_reducible refine lf_ix1T ?_ | with_reducible refine lf_ix2T ?_ | with_reducible refine lf_sl1 ?_ | with_reducible refine lf_slL ?_ | with_reducible refine lf_slT ?_
  | ((with_reducible apply lf_pow); decide) | with_reducible refine lf_mul ?_ ?_ | with_reducible refine lf_pow ?_ ?_ | ((with_reducible apply lf_addT); exact Nat.le_of_ble_eq_true rfl) | ((with_reducible apply lf_addL); exact Nat.le_of_ble_eq_true rfl) | with_reducible refine lf_addT ?_ ?_ | with_reducible refine lf_addL ?_ ?_
  | ((with_reducible apply lf2); rfl; rfl) | ((with_reducible apply lf3); rfl; exact Nat.le_of_ble_eq_true rfl) | ((with_reducible apply lf4); rfl; decide) | ((with_reducible apply lfU); rfl; rfl)
  | with_reducible refine ls_l ?_ | with_reducible refine ls_t ?_ | with_reducible refine ls_s ?_ | ((with_reducible apply ls_r); rfl) | with_reducible refine le_l ?_ | with_reducible refine le_t ?_ | with_reducible refine le_s ?_ | with_reducible refine lz_l ?_ | with_reducible refine lz_t ?_
  | ((with_reducible apply lfR); (first | decide | omega)) | ((with_reducible apply lfR2); (first | decide | omega)) | with_reducible refine lfI ?_
  | ((with_reducible apply lf); rfl) | ((with_reducible apply lfB); rfl) | ((with_reducible apply land); rfl)))
local macro_rules | `(tactic| nofun) => `(tactic| repeat' contradiction)
namespace PL.W
open PySem PySem.Spec PyProof.Rows L2 PL
/-! ### pages -/
def letterB (c : Nat) : Bool := decide (c ∈ (("abcdefghijklmnopqrstuvwxyz" : Str).cps.toList))
def pageB (z : Str) : Bool := decide (1 ≤ (z.length : Int)) && decide ((z.length : Int) ≤ 8) && z.cps.toList.all letterB
theorem bools_map {α : Type} (l : List α) (f : α → Bool) : bools (l.map fun c => PyData.bool (f c)) = some (l.map f) := by
  induction l with
  | nil => rfl
  | cons c l ih =>
    show (bools (l.map fun c => PyData.bool (f c))).map (f c :: ·) = _
    rw [ih]; rfl
theorem lf_all {α : Type} {l : List α} {f : α → Bool} {S : Sto} {Q : D → Prop} (q : Q (.bool (l.all f))) : ∃ w, un1 (Bi.fn .all) (.d (.list (l.map fun c => .bool (f c)))) S = some w ∧ Q w := by
  refine ⟨_, ?_, q⟩
  show (bools (l.map fun c => PyData.bool (f c))).map (fun bs => PyData.bool (bs.all id)) = _
  rw [bools_map, Option.map_some, List.all_map]; rfl
theorem t_page (n : Nat) (S : Sto) (z : Str) (hz : z.length ≤ sizeLine) : callN fns (n + 1) i_is_page [.d (.str z)] S = some (.d (.bool (pageB z)), S) := by
  have c1 : ∀ c ∈ z.cps.toList, turn (callN fns n) [1] (.one 1) .nil (.cmp .In (.loc 1) (.gd "LETTERS" d_LETTERS)) [some (.d (.str z)), none] (.str ⟨#[c]⟩) S = some (some (.bool (letterB c)), S) := fun c _ => by
    refine turn_eq rfl ?_
    nofun
    exact ⟨_, rfl, rfl, rfl⟩
  refine WC.eq (c_is_page ?_)
  nofun
  all_goals first
    | (refine loop_every (fun c => .bool (letterB c)) (by rw [Array.length_toList]; exact hz) c1 ?_
       refine lf_all ?_
       nofun)
    | skip
  all_goals
    refine ⟨?_, rfl⟩
    unfold pageB
    simp only [decide_eq_true_eq, decide_eq_false_iff_not, Bool.not_false, Bool.not_true, Bool.not_eq_true', Bool.not_eq_false'] at *
    simp_all
  all_goals (intros; omega)
end PL.W
end
section
set_option maxHeartbeats 4000000
open PL PySem PySem.Spec PyProof.Rows L2
local macro_rules | `(tactic| contradiction) => `(tactic| (first
  | with_reducible refine ws_asg ?_ | with_reducible refine ws_asgL ?_ | with_reducible refine ws_par ?_ | with_reducible refine ws_parC ?_ | with_reducible refine ws_unp ?_ | with_reducible refine ws_dset ?_
  | with_reducible refine ws_expr ?_ | with_reducible refine ws_ret ?_ | with_reducible refine ws_ret0 ?_ | with_reducible refine ws_pass ?_ | with_reducible refine ws_brk ?_ | with_reducible refine ws_cont ?_ | with_reducible refine ws_if ?_ | with_reducible refine ws_for ?_ | with_reducible refine ws_nil ?_
  | with_reducible refine we_int ?_ | with_reducible refine we_str ?_ | with_reducible refine we_bl ?_ | with_reducible refine we_non ?_ | with_reducible refine we_gd ?_
  | ((with_reducible apply we_loc); rfl)
  | with_reducible refine we_bin ?_ | with_reducible refine we_cmp ?_ | with_reducible refine we_cmp2 ?_ | with_reducible refine we_bop ?_ | with_reducible refine wb_nil ?_ | with_reducible refine wb_cons ?_ | with_reducible refine we_not ?_ | with_reducible refine we_neg ?_ | with_reducible refine we_ite ?_
  | with_reducible refine we_tup ?_ | with_reducible refine we_lst ?_ | with_reducible refine we_lstR ?_ | with_reducible refine we_dic0 ?_ | with_reducible refine we_dic ?_ | with_reducible refine we_ix ?_ | with_reducible refine we_sl ?_ | with_reducible refine wo_no ?_ | with_reducible refine wo_so ?_
  | with_reducible refine we_bi ?_ | with_reducible refine we_isi ?_ | with_reducible refine we_call ?_ | with_reducible refine we_callK ?_ | with_reducible refine we_comp ?_ | with_reducible refine we_compR ?_ | with_reducible refine we_get2 ?_ | with_reducible refine we_app ?_ | with_reducible refine we_ext ?_ | with_reducible refine we_join ?_
  | with_reducible refine we_gget2 ?_ | with_reducible refine we_gget ?_ | with_reducible refine we_gix ?_ | with_reducible refine we_gin ?_ | with_reducible refine we_sset ?_ | with_reducible refine we_sortd ?_ | with_reducible refine we_dcopy ?_ | with_reducible refine we_rev ?_ | with_reducible refine we_reprL ?_ | ((with_reducible apply lfV); rfl; exact Nat.le_of_ble_eq_true rfl) | with_reducible refine wes_nil ?_ | with_reducible refine wes_cons ?_ | with_reducible refine wt_nil ?_ | with_reducible refine wt_one ?_
  | with_reducible refine wi_rng ?_ | with_reducible refine wi_rng2 ?_ | with_reducible refine wi_zip ?_ | with_reducible refine wi_enm ?_ | with_reducible refine wi_seq ?_
  | with_reducible refine then_nx ?_ | with_reducible refine then_bk ?_ | with_reducible refine then_ct ?_ | with_reducible refine then_rt ?_ | with_reducible refine qf_same ?_ | with_reducible refine qf_app ?_ | ((with_reducible apply qf_cons); rfl) | ((with_reducible apply qf_consA); rfl) | with_reducible refine qf_ref ?_ | with_reducible refine qf_d ?_ | with_reducible refine qf_nxS ?_ | with_reducible refine qf_nxA ?_ | with_reducible refine qf_nx ?_
  | ((with_reducible apply wk_eq); with_reducible assumption)
  | (with_reducible refine limp (fun hb => ?_) (fun hb => ?_) <;> (first | (cases hb; done) | (simp only [Bool.not_false, Bool.not_true, Bool.true_eq_false, Bool.false_eq_true, reduceCtorEq] at hb; done) | cases hb | ((try simp only [Bool.not_false, Bool.not_true] at hb); (try rw [hb]))))
  | with_reducible refine lf_add ?_ | with_reducible refine lf_sub ?_ | ((with_reducible apply lf_mod); (first | assumption | decide)) | ((with_reducible apply lf_div); (first | assumption | decide)) | with_reducible refine lf_lt ?_ | with_reducible refine lf_le ?_ | with_reducible refine lf_gt ?_ | with_reducible refine lf_ge ?_ | with_reducible refine lf_eqI ?_ | with_reducible refine lf_neI ?_ | with_reducible refine lf_eqSame ?_ | with_reducible refine lf_neSame ?_ | with_reducible refine lf_eqS ?_ | with_reducible refine lf_neS ?_
  | with_reducible refine lf_isN ?_ | with_reducible refine lf_isI ?_ | with_reducible refine lf_isnN ?_ | with_reducible refine lf_isnI ?_ | with_reducible refine lf_tb ?_ | with_reducible refine lf_tl ?_ | with_reducible refine lf_tt ?_ | with_reducible refine lf_int ?_ | with_reducible refine lf_lenL ?_ | with_reducible refine lf_lenT ?_ | ((with_reducible apply lf_lenS); assumption) | with_reducible refine lf_tupL ?_ | with_reducible refine lf_tupT ?_ | with_reducible refine lf_listL ?_ | with_reducible refine lf_listT ?_ | with_reducible refine lf_view ?_ | with_reducible refine lf_in2 ?_ | with_reducible refine lf_in3 ?_ | with_reducible refine lf_inM ?_ | with_reducible refine lf_ix0T ?_ | with_reducible refine lf_ix1T ?_ | with_reducible refine lf_ix2T ?_ | with_reducible refine lf_sl1 ?_ | with_reducible refine lf_slL ?_ | with_reducible refine lf_slT ?_
  | ((with_reducible apply lf_pow); decide) | with_reducible refine lf_mul ?_ ?_ | with_reducible refine lf_pow ?_ ?_ | ((with_reducible apply lf_addT); exact Nat.le_of_ble_eq_true rfl) | ((with_reducible apply lf_addL); exact Nat.le_of_ble_eq_true rfl) | with_reducible refine lf_addT ?_ ?_ | with_reducible refine lf_addL ?_ ?_
  | ((with_reducible apply lf2); rfl; rfl) | ((with_reducible apply lf3); rfl; exact Nat.le_of_ble_eq_true rfl) | ((with_reducible apply lf4); rfl; decide) | ((with_reducible apply lfU); rfl; rfl)
  | with_reducible refine ls_l ?_ | with_reducible refine ls_t ?_ | with_reducible refine ls_s ?_ | ((with_reducible apply ls_r); rfl) | with_reducible refine le_l ?_ | with_reducible refine le_t ?_ | with_reducible refine le_s ?_ | with_reducible refine lz_l ?_ | with_reducible refine lz_t ?_
  | ((with_reducible apply lfR); (first | decide | omega)) | ((with_reducible apply lfR2); (first | decide | omega)) | with_reducible refine lfI ?_
  | ((with_reducible apply lf); rfl) | ((with_reducible apply lfB); rfl) | ((with_reducible apply land); rfl)))
local macro_rules | `(tactic| nofun) => `(tactic| repeat' contradiction)
namespace PL.W
open PySem PySem.Spec PyProof.Rows L2 PL
/-! ### records and deeds by form -/
def isPageD : D → Bool
  | .str z => pageB z
  | _ => false
def isIntD : D → Bool
  | .int _ => true
  | _ => false
/-- a text within bounds, or no text -/
def Fits : D → Prop
  | .str z => z.length ≤ sizeLine
  | .dict _ => False
  | _ => True
theorem t_pageD (n : Nat) (S : Sto) {d : D} (h : Fits d) : callN fns (n + 1) i_is_page [.d d] S = some (.d (.bool (isPageD d)), S) := by
  cases d with
  | str z => exact t_page n S z h
  | dict _ => exact h.elim
  | _ =>
    refine WC.eq (c_is_page ?_)
    nofun
    exact ⟨rfl, rfl⟩
theorem t_integer (n : Nat) (S : Sto) (d : D) (h : Fits d) : callN fns (n + 1) i_is_integer [.d d] S = some (.d (.bool (isIntD d)), S) := by
  cases d <;> first | exact h.elim | (refine WC.eq (c_is_integer ?_); nofun; all_goals exact ⟨rfl, rfl⟩)
def partB (kind : Str) (d : D) : Bool := if kind = "page" then isPageD d else (match d with
  | .int i => decide (1 ≤ i)
  | _ => false)
theorem t_part (n : Nat) (S : Sto) {d : D} (h : Fits d) (kind : Str) : callN fns (n + 2) i_is_part [.d d, .d (.str kind)] S = some (.d (.bool (partB kind d)), S) := by
  have e1 := t_pageD n S h
  have e2 := t_integer n S d h
  refine WC.eq (c_is_part ?_)
  nofun
  all_goals simp only [decide_eq_true_eq, decide_eq_false_iff_not, Bool.not_true, Bool.not_false] at *
  · refine ⟨?_, trivial⟩
    unfold partB
    rw [if_pos (by assumption)]
  · cases d with
    | int i =>
      nofun
      refine ⟨?_, rfl⟩
      unfold partB
      rw [if_neg (by assumption)]
    | _ => exact absurd (show isIntD _ = true by assumption) (by simp [isIntD])
  · refine ⟨?_, trivial⟩
    unfold partB
    rw [if_neg (by assumption)]
    cases d <;> first | rfl | exact absurd (show isIntD _ = false by assumption) (by simp [isIntD])
def partsB : List D → List Str → Bool
  | [], [] => true
  | d :: ds, k :: ks => partB k d && partsB ds ks
  | _, _ => false
theorem partsB_zip : ∀ (ds : List D) (ks : List Str), ds.length = ks.length → ((ds.zip ks).all fun p => partB p.2 p.1) = partsB ds ks
  | [], [], _ => rfl
  | [], _ :: _, h => by simp at h
  | _ :: _, [], h => by simp at h
  | d :: ds, k :: ks, h => by
    show (partB k d && (ds.zip ks).all _) = (partB k d && partsB ds ks)
    rw [partsB_zip ds ks (by simpa using h)]
theorem partsB_len : ∀ (ds : List D) (ks : List Str), ds.length ≠ ks.length → partsB ds ks = false
  | [], [], h => absurd rfl h
  | [], _ :: _, _ => rfl
  | _ :: _, [], _ => rfl
  | d :: ds, k :: ks, h => by
    show (partB k d && partsB ds ks) = false
    rw [partsB_len ds ks (by simpa using h), Bool.and_false]
theorem zip_ks : ∀ (ds : List D) (ks : List Str), zipD ds (ks.map .str) = (ds.zip ks).map fun p => .tuple [p.1, .str p.2]
  | [], _ => by simp [zipD]
  | _ :: _, [] => by simp [zipD]
  | d :: ds, k :: ks => by simp only [List.map_cons, zipD, List.zip_cons_cons, zip_ks ds ks]
theorem t_parts (n : Nat) (S : Sto) {ds : List D} (h : ∀ d ∈ ds, Fits d) (hl : ds.length ≤ sizeLine) (ks : List Str) : callN fns (n + 3) i_are_parts [.d (.tuple ds), .d (.tuple (ks.map .str))] S = some (.d (.bool (partsB ds ks)), S) := by
  refine WC.eq (c_are_parts ?_)
  nofun
  · refine ⟨?_, rfl⟩
    simp only [List.length_map, Bool.not_eq_true', decide_eq_false_iff_not] at *
    rw [partsB_len ds ks (by omega)]
  · rw [zip_ks]
    refine loop_every (fun p => .bool (partB p.2 p.1)) (by rw [List.length_zip]; omega) (fun p hp => ?_) ?_
    · have e := t_part n S (h p.1 (List.of_mem_zip hp).1) p.2
      refine turn_eq rfl ?_
      nofun
      exact ⟨_, rfl, rfl, rfl⟩
    · refine lf_all ?_
      nofun
      refine ⟨?_, rfl⟩
      simp only [List.length_map, Bool.not_eq_false', decide_eq_true_eq] at *
      rw [partsB_zip ds ks (by omega)]
theorem t_parts_none (n : Nat) (S : Sto) (ds : List D) : callN fns (n + 1) i_are_parts [.d (.tuple ds), .d .none] S = some (.d (.bool false), S) := by
  refine WC.eq (c_are_parts ?_)
  nofun
  exact ⟨rfl, rfl⟩
def wordB : D → Bool
  | .tuple (.str _ :: _) => true
  | _ => false
theorem t_word (n : Nat) (S : Sto) (d : D) (h : Fits d) : callN fns (n + 1) i_has_word [.d d] S = some (.d (.bool (wordB d)), S) := by
  cases d with
  | dict _ => exact h.elim
  | tuple ds =>
    cases ds with
    | nil =>
      refine WC.eq (c_has_word ?_)
      nofun
      exact ⟨rfl, rfl⟩
    | cons d ds =>
      have hp : decide ((0 : Int) < ((d :: ds).length : Int)) = true := by rw [List.length_cons]; exact decide_eq_true (by omega)
      refine WC.eq (c_has_word ?_)
      nofun
      · refine ⟨?_, rfl⟩
        cases d <;> rfl
      · rename_i hb
        rw [hp] at hb
        cases hb
  | _ =>
    refine WC.eq (c_has_word ?_)
    nofun
    exact ⟨rfl, rfl⟩
def kindsR (w : Str) : Option (List Str) := if w = "keep" ∨ w = "write" ∨ w = "plain" then some ["page", "number"] else if w = "free" ∨ w = "strike" then some ["page"] else none
theorem t_recparts (n : Nat) (S : Sto) (w : Str) : callN fns (n + 1) i_record_parts [.d (.str w)] S = some (.d (match kindsR w with
    | some ks => .tuple (ks.map .str)
    | none => .none), S) := by
  refine WC.eq (c_record_parts ?_)
  nofun
  refine ⟨?_, rfl⟩
  unfold kindsR
  by_cases h1 : w = "keep"
  · subst h1; rfl
  by_cases h2 : w = "write"
  · subst h2; rfl
  by_cases h3 : w = "plain"
  · subst h3; rfl
  by_cases h4 : w = "free"
  · subst h4; rfl
  by_cases h5 : w = "strike"
  · subst h5; rfl
  rw [if_neg (by rintro (h | h | h) <;> contradiction), if_neg (by rintro (h | h) <;> contradiction)]
  have b : ∀ x : Str, ¬ w = x → (w == x) = false := fun x h => beq_eq_false_iff_ne.mpr h
  simp only [t_RECORD_PARTS, List.lookup, b _ h1, b _ h2, b _ h3, b _ h4, b _ h5, Option.getD_none]
def recordB : D → Bool
  | .tuple (.str w :: ds) => match kindsR w with
    | some ks => partsB ds ks
    | none => false
  | _ => false
def FitsT : D → Prop
  | .tuple ds => ds.length ≤ sizeLine ∧ ∀ d ∈ ds, Fits d
  | .dict _ => False
  | .str z => z.length ≤ sizeLine
  | _ => True
theorem t_record (n : Nat) (S : Sto) (d : D) (h : FitsT d) : callN fns (n + 4) i_is_record [.d d] S = some (.d (.bool (recordB d)), S) := by
  have e1 := t_word (n + 2) S d (by cases d <;> first | exact h.elim | exact h | trivial)
  cases d with
  | dict _ => exact h.elim
  | tuple ds =>
    cases ds with
    | nil =>
      refine WC.eq (c_is_record ?_)
      nofun
      exact ⟨rfl, rfl⟩
    | cons d ds =>
      cases d with
      | str w =>
        have e2 := t_recparts (n + 2) S w
        have e3 := t_parts n S (ds := ds) (fun d hd => h.2 d (List.mem_cons_of_mem _ hd)) (by have := h.1; rw [List.length_cons] at this; omega)
        have e4 := t_parts_none (n + 2) S ds
        refine WC.eq (c_is_record ?_)
        cases hk : kindsR w with
        | none =>
          rw [hk] at e2
          dsimp only at e2
          nofun
          refine ⟨?_, rfl⟩
          simp only [recordB, hk]
        | some ks =>
          rw [hk] at e2
          dsimp only at e2
          have e3 := e3 ks
          nofun
          refine ⟨?_, rfl⟩
          simp only [recordB, hk]
      | _ =>
        refine WC.eq (c_is_record ?_)
        nofun
        exact ⟨rfl, rfl⟩
  | _ =>
    refine WC.eq (c_is_record ?_)
    nofun
    exact ⟨rfl, rfl⟩
end PL.W
end
section
set_option maxHeartbeats 4000000
open PL PySem PySem.Spec PyProof.Rows L2
local macro_rules | `(tactic| contradiction) => `(tactic| (first
  | with_reducible refine ws_asg ?_ | with_reducible refine ws_asgL ?_ | with_reducible refine ws_par ?_ | with_reducible refine ws_parC ?_ | with_reducible refine ws_unp ?_ | with_reducible refine ws_dset ?_
  | with_reducible refine ws_expr ?_ | with_reducible refine ws_ret ?_ | with_reducible refine ws_ret0 ?_ | with_reducible refine ws_pass ?_ | with_reducible refine ws_brk ?_ | with_reducible refine ws_cont ?_ | with_reducible refine ws_if ?_ | with_reducible refine ws_for ?_ | with_reducible refine ws_nil ?_
  | with_reducible refine we_int ?_ | with_reducible refine we_str ?_ | with_reducible refine we_bl ?_ | with_reducible refine we_non ?_ | with_reducible refine we_gd ?_
  | ((with_reducible apply we_loc); rfl)
  | with_reducible refine we_bin ?_ | with_reducible refine we_cmp ?_ | with_reducible refine we_cmp2 ?_ | with_reducible refine we_bop ?_ | with_reducible refine wb_nil ?_ | with_reducible refine wb_cons ?_ | with_reducible refine we_not ?_ | with_reducible refine we_neg ?_ | with_reducible refine we_ite ?_
  | with_reducible refine we_tup ?_ | with_reducible refine we_lst ?_ | with_reducible refine we_lstR ?_ | with_reducible refine we_dic0 ?_ | with_reducible refine we_dic ?_ | with_reducible refine we_ix ?_ | with_reducible refine we_sl ?_ | with_reducible refine wo_no ?_ | with_reducible refine wo_so ?_
  | with_reducible refine we_bi ?_ | with_reducible refine we_isi ?_ | with_reducible refine we_call ?_ | with_reducible refine we_callK ?_ | with_reducible refine we_comp ?_ | with_reducible refine we_compR ?_ | with_reducible refine we_get2 ?_ | with_reducible refine we_app ?_ | with_reducible refine we_ext ?_ | with_reducible refine we_join ?_
  | with_reducible refine we_gget2 ?_ | with_reducible refine we_gget ?_ | with_reducible refine we_gix ?_ | with_reducible refine we_gin ?_ | with_reducible refine we_sset ?_ | with_reducible refine we_sortd ?_ | with_reducible refine we_dcopy ?_ | with_reducible refine we_rev ?_ | with_reducible refine we_reprL ?_ | ((with_reducible apply lfV); rfl; exact Nat.le_of_ble_eq_true rfl) | with_reducible refine wes_nil ?_ | with_reducible refine wes_cons ?_ | with_reducible refine wt_nil ?_ | with_reducible refine wt_one ?_
  | with_reducible refine wi_rng ?_ | with_reducible refine wi_rng2 ?_ | with_reducible refine wi_zip ?_ | with_reducible refine wi_enm ?_ | with_reducible refine wi_seq ?_
  | with_reducible refine then_nx ?_ | with_reducible refine then_bk ?_ | with_reducible refine then_ct ?_ | with_reducible refine then_rt ?_ | with_reducible refine qf_same ?_ | with_reducible refine qf_app ?_ | ((with_reducible apply qf_cons); rfl) | ((with_reducible apply qf_consA); rfl) | with_reducible refine qf_ref ?_ | with_reducible refine qf_d ?_ | with_reducible refine qf_nxS ?_ | with_reducible refine qf_nxA ?_ | with_reducible refine qf_nx ?_
  | ((with_reducible apply wk_eq); with_reducible assumption)
  | (with_reducible refine limp (fun hb => ?_) (fun hb => ?_) <;> (first | (cases hb; done) | (simp only [Bool.not_false, Bool.not_true, Bool.true_eq_false, Bool.false_eq_true, reduceCtorEq] at hb; done) | cases hb | ((try simp only [Bool.not_false, Bool.not_true] at hb); (try rw [hb]))))
  | with_reducible refine lf_add ?_ | with_reducible refine lf_sub ?_ | ((with_reducible apply lf_mod); (first | assumption | decide)) | ((with_reducible apply lf_div); (first | assumption | decide)) | with_reducible refine lf_lt ?_ | with_reducible refine lf_le ?_ | with_reducible refine lf_gt ?_ | with_reducible refine lf_ge ?_ | with_reducible refine lf_eqI ?_ | with_reducible refine lf_neI ?_ | with_reducible refine lf_eqSame ?_ | with_reducible refine lf_neSame ?_ | with_reducible refine lf_eqS ?_ | with_reducible refine lf_neS ?_
  | with_reducible refine lf_isN ?_ | with_reducible refine lf_isI ?_ | with_reducible refine lf_isnN ?_ | with_reducible refine lf_isnI ?_ | with_reducible refine lf_tb ?_ | with_reducible refine lf_tl ?_ | with_reducible refine lf_tt ?_ | with_reducible refine lf_int ?_ | with_reducible refine lf_lenL ?_ | with_reducible refine lf_lenT ?_ | ((with_reducible apply lf_lenS); assumption) | with_reducible refine lf_tupL ?_ | with_reducible refine lf_tupT ?_ | with_reducible refine lf_listL ?_ | with_reducible refine lf_listT ?_ | with_reducible refine lf_view ?_ | with_reducible refine lf_in2 ?_ | with_reducible refine lf_in3 ?_ | with_reducible refine lf_inM ?_ | with_reducible refine lf_ix0T ?_ | with_reducible refine lf_ix1T ?_ | with_reducible refine lf_ix2T ?_ | with_reducible refine lf_sl1 ?_ | with_reducible refine lf_slL ?_ | with_reducible refine lf_slT ?_
  | ((with_reducible apply lf_pow); decide) | with_reducible refine lf_mul ?_ ?_ | with_reducible refine lf_pow ?_ ?_ | ((with_reducible apply lf_addT); exact Nat.le_of_ble_eq_true rfl) | ((with_reducible apply lf_addL); exact Nat.le_of_ble_eq_true rfl) | with_reducible refine lf_addT ?_ ?_ | with_reducible refine lf_addL ?_ ?_
  | ((with_reducible apply lf2); rfl; rfl) | ((with_reducible apply lf3); rfl; exact Nat.le_of_ble_eq_true rfl) | ((with_reducible apply lf4); rfl; decide) | ((with_reducible apply lfU); rfl; rfl)
  | with_reducible refine ls_l ?_ | with_reducible refine ls_t ?_ | with_reducible refine ls_s ?_ | ((with_reducible apply ls_r); rfl) | with_reducible refine le_l ?_ | with_reducible refine le_t ?_ | with_reducible refine le_s ?_ | with_reducible refine lz_l ?_ | with_reducible refine lz_t ?_
  | ((with_reducible apply lfR); (first | decide | omega)) | ((with_reducible apply lfR2); (first | decide | omega)) | with_reducible refine lfI ?_
  | ((with_reducible apply lf); rfl) | ((with_reducible apply lfB); rfl) | ((with_reducible apply land); rfl)))
local macro_rules | `(tactic| nofun) => `(tactic| repeat' contradiction)
namespace PL.W
open PySem PySem.Spec PyProof.Rows L2 PL
/-! ### logs, judged -/
theorem t_need (n : Nat) (S : Sto) (w : Str) : callN fns (n + 1) i_need [.d (.bool true), .d (.str w)] S = some (.d .none, S) := by
  refine WC.eq (c_need ?_)
  nofun
  exact ⟨rfl, rfl⟩
def canB (w l : Str) : Bool := if w = "keep" ∨ w = "plain" then decide (l = "free") else if w = "write" then decide (l = "kept") else decide (w = "strike") || !decide (l = "free")
theorem t_can (n : Nat) (S : Sto) (w l : Str) : callN fns (n + 1) i_can_come [.d (.str w), .d (.str l)] S = some (.d (.bool (canB w l)), S) := by
  refine WC.eq (c_can_come ?_)
  nofun
  all_goals
    refine ⟨?_, rfl⟩
    simp only [decide_eq_true_eq, decide_eq_false_iff_not, Bool.not_true, Bool.not_false, Bool.or_eq_true, Bool.or_eq_false_iff] at *
    unfold canB
    simp_all
def Rec.word : Rec → Str
  | .keep _ _ => "keep"
  | .write _ _ => "write"
  | .plain _ _ => "plain"
  | .free _ => "free"
  | .strike _ => "strike"
theorem can_word {o : Own} {m : Int} {r : Rec} (h : can o m r) : canB r.word o.life = true := by
  cases r with
  | keep p n => show decide (o.life = "free") = true; exact decide_eq_true h.1
  | write p n => show decide (o.life = "kept") = true; exact decide_eq_true h.1
  | plain p n => show decide (o.life = "free") = true; exact decide_eq_true h.1
  | free p => show (!decide (o.life = "free")) = true; rw [decide_eq_false h]; rfl
  | strike p => rfl
/-- pages and numbers are as they must be -/
def Fine (rs : List Rec) : Prop := ∀ r ∈ rs, pageB r.page = true
theorem page_len {z : Str} (h : pageB z = true) : z.length ≤ sizeLine := by
  unfold pageB at h
  simp only [Bool.and_eq_true, decide_eq_true_eq] at h
  have := h.1.2
  exact Nat.le_trans (by omega) (show 8 ≤ sizeLine by decide)
theorem rec_fits {r : Rec} (h : pageB r.page = true) : FitsT r.enc := by
  have hl := page_len h
  have hw : r.word.length ≤ sizeLine := by cases r <;> exact Nat.le_of_ble_eq_true rfl
  cases r <;> refine ⟨Nat.le_of_ble_eq_true rfl, fun d hd => ?_⟩ <;> simp only [List.mem_cons, List.not_mem_nil, or_false] at hd
  · rcases hd with rfl | rfl | rfl
    · exact hw
    · exact hl
    · trivial
  · rcases hd with rfl | rfl | rfl
    · exact hw
    · exact hl
    · trivial
  · rcases hd with rfl | rfl | rfl
    · exact hw
    · exact hl
    · trivial
  · rcases hd with rfl | rfl
    · exact hw
    · exact hl
  · rcases hd with rfl | rfl
    · exact hw
    · exact hl
theorem recordB_ok {o : Own} {m : Int} {r : Rec} (h : pageB r.page = true) (hm : 0 ≤ m) (hc : can o m r) : recordB r.enc = true := by
  have h1 : partB "page" (.str r.page) = true := h
  cases r with
  | keep p n =>
    have h2 : partB "number" (.int n) = true := decide_eq_true (show 1 ≤ n by have := hc.2; omega)
    show (partB "page" (.str p) && (partB "number" (.int n) && true)) = true
    rw [show partB "page" (.str p) = true from h1, h2]; rfl
  | write p n =>
    have h2 : partB "number" (.int n) = true := decide_eq_true (show 1 ≤ n by have := hc.2; omega)
    show (partB "page" (.str p) && (partB "number" (.int n) && true)) = true
    rw [show partB "page" (.str p) = true from h1, h2]; rfl
  | plain p n =>
    have h2 : partB "number" (.int n) = true := decide_eq_true (show 1 ≤ n by have := hc.2; omega)
    show (partB "page" (.str p) && (partB "number" (.int n) && true)) = true
    rw [show partB "page" (.str p) = true from h1, h2]; rfl
  | free p =>
    show (partB "page" (.str p) && true) = true
    rw [show partB "page" (.str p) = true from h1]; rfl
  | strike p =>
    show (partB "page" (.str p) && true) = true
    rw [show partB "page" (.str p) = true from h1]; rfl
end PL.W
end
section
set_option maxHeartbeats 4000000
open PL PySem PySem.Spec PyProof.Rows L2
local macro_rules | `(tactic| contradiction) => `(tactic| (first
  | with_reducible refine ws_asg ?_ | with_reducible refine ws_asgL ?_ | with_reducible refine ws_par ?_ | with_reducible refine ws_parC ?_ | with_reducible refine ws_unp ?_ | with_reducible refine ws_dset ?_
  | with_reducible refine ws_expr ?_ | with_reducible refine ws_ret ?_ | with_reducible refine ws_ret0 ?_ | with_reducible refine ws_pass ?_ | with_reducible refine ws_brk ?_ | with_reducible refine ws_cont ?_ | with_reducible refine ws_if ?_ | with_reducible refine ws_for ?_ | with_reducible refine ws_nil ?_
  | with_reducible refine we_int ?_ | with_reducible refine we_str ?_ | with_reducible refine we_bl ?_ | with_reducible refine we_non ?_ | with_reducible refine we_gd ?_
  | ((with_reducible apply we_loc); rfl)
  | with_reducible refine we_bin ?_ | with_reducible refine we_cmp ?_ | with_reducible refine we_cmp2 ?_ | with_reducible refine we_bop ?_ | with_reducible refine wb_nil ?_ | with_reducible refine wb_cons ?_ | with_reducible refine we_not ?_ | with_reducible refine we_neg ?_ | with_reducible refine we_ite ?_
  | with_reducible refine we_tup ?_ | with_reducible refine we_lst ?_ | with_reducible refine we_lstR ?_ | with_reducible refine we_dic0 ?_ | with_reducible refine we_dic ?_ | with_reducible refine we_ix ?_ | with_reducible refine we_sl ?_ | with_reducible refine wo_no ?_ | with_reducible refine wo_so ?_
  | with_reducible refine we_bi ?_ | with_reducible refine we_isi ?_ | with_reducible refine we_call ?_ | with_reducible refine we_callK ?_ | with_reducible refine we_comp ?_ | with_reducible refine we_compR ?_ | with_reducible refine we_get2 ?_ | with_reducible refine we_app ?_ | with_reducible refine we_ext ?_ | with_reducible refine we_join ?_
  | with_reducible refine we_gget2 ?_ | with_reducible refine we_gget ?_ | with_reducible refine we_gix ?_ | with_reducible refine we_gin ?_ | with_reducible refine we_sset ?_ | with_reducible refine we_sortd ?_ | with_reducible refine we_dcopy ?_ | with_reducible refine we_rev ?_ | with_reducible refine we_reprL ?_ | ((with_reducible apply lfV); rfl; exact Nat.le_of_ble_eq_true rfl) | with_reducible refine wes_nil ?_ | with_reducible refine wes_cons ?_ | with_reducible refine wt_nil ?_ | with_reducible refine wt_one ?_
  | with_reducible refine wi_rng ?_ | with_reducible refine wi_rng2 ?_ | with_reducible refine wi_zip ?_ | with_reducible refine wi_enm ?_ | with_reducible refine wi_seq ?_
  | with_reducible refine then_nx ?_ | with_reducible refine then_bk ?_ | with_reducible refine then_ct ?_ | with_reducible refine then_rt ?_ | with_reducible refine qf_same ?_ | with_reducible refine qf_app ?_ | ((with_reducible apply qf_cons); rfl) | ((with_reducible apply qf_consA); rfl) | with_reducible refine qf_ref ?_ | with_reducible refine qf_d ?_ | with_reducible refine qf_nxS ?_ | with_reducible refine qf_nxA ?_ | with_reducible refine qf_nx ?_
  | ((with_reducible apply wk_eq); with_reducible assumption)
  | (with_reducible refine limp (fun hb => ?_) (fun hb => ?_) <;> (first | (cases hb; done) | (simp only [Bool.not_false, Bool.not_true, Bool.true_eq_false, Bool.false_eq_true, reduceCtorEq] at hb; done) | cases hb | ((try simp only [Bool.not_false, Bool.not_true] at hb); (try rw [hb]))))
  | with_reducible refine lf_add ?_ | with_reducible refine lf_sub ?_ | ((with_reducible apply lf_mod); (first | assumption | decide)) | ((with_reducible apply lf_div); (first | assumption | decide)) | with_reducible refine lf_lt ?_ | with_reducible refine lf_le ?_ | with_reducible refine lf_gt ?_ | with_reducible refine lf_ge ?_ | with_reducible refine lf_eqI ?_ | with_reducible refine lf_neI ?_ | with_reducible refine lf_eqSame ?_ | with_reducible refine lf_neSame ?_ | with_reducible refine lf_eqS ?_ | with_reducible refine lf_neS ?_
  | with_reducible refine lf_isN ?_ | with_reducible refine lf_isI ?_ | with_reducible refine lf_isnN ?_ | with_reducible refine lf_isnI ?_ | with_reducible refine lf_tb ?_ | with_reducible refine lf_tl ?_ | with_reducible refine lf_tt ?_ | with_reducible refine lf_int ?_ | with_reducible refine lf_lenL ?_ | with_reducible refine lf_lenT ?_ | ((with_reducible apply lf_lenS); assumption) | with_reducible refine lf_tupL ?_ | with_reducible refine lf_tupT ?_ | with_reducible refine lf_listL ?_ | with_reducible refine lf_listT ?_ | with_reducible refine lf_view ?_ | with_reducible refine lf_in2 ?_ | with_reducible refine lf_in3 ?_ | with_reducible refine lf_inM ?_ | with_reducible refine lf_ix0T ?_ | with_reducible refine lf_ix1T ?_ | with_reducible refine lf_ix2T ?_ | with_reducible refine lf_sl1 ?_ | with_reducible refine lf_slL ?_ | with_reducible refine lf_slT ?_
  | ((with_reducible apply lf_pow); decide) | with_reducible refine lf_mul ?_ ?_ | with_reducible refine lf_pow ?_ ?_ | ((with_reducible apply lf_addT); exact Nat.le_of_ble_eq_true rfl) | ((with_reducible apply lf_addL); exact Nat.le_of_ble_eq_true rfl) | with_reducible refine lf_addT ?_ ?_ | with_reducible refine lf_addL ?_ ?_
  | ((with_reducible apply lf2); rfl; rfl) | ((with_reducible apply lf3); rfl; exact Nat.le_of_ble_eq_true rfl) | ((with_reducible apply lf4); rfl; decide) | ((with_reducible apply lfU); rfl; rfl)
  | with_reducible refine ls_l ?_ | with_reducible refine ls_t ?_ | with_reducible refine ls_s ?_ | ((with_reducible apply ls_r); rfl) | with_reducible refine le_l ?_ | with_reducible refine le_t ?_ | with_reducible refine le_s ?_ | with_reducible refine lz_l ?_ | with_reducible refine lz_t ?_
  | ((with_reducible apply lfR); (first | decide | omega)) | ((with_reducible apply lfR2); (first | decide | omega)) | with_reducible refine lfI ?_
  | ((with_reducible apply lf); rfl) | ((with_reducible apply lfB); rfl) | ((with_reducible apply land); rfl)))
local macro_rules | `(tactic| nofun) => `(tactic| repeat' contradiction)
namespace PL.W
open PySem PySem.Spec PyProof.Rows L2 PL
def LvS (lv : List (Key × D)) (st : Own') : Prop := ∀ p, (lookK lv (.inr p)).getD (.str "free") = .str (st p).life
theorem end_getL {S : Sto} {lv : List (Key × D)} {st : Own'} (h : LvS lv st) {p : Str} : get2R (.ref S.length) (.d (.str p)) (.d (.str "free")) (S ++ [Ob.dic lv]) = some (.d (.str (st p).life)) := by rw [end_get, h p]
theorem LvS.put {lv : List (Key × D)} {st : Own'} (h : LvS lv st) (r : Rec) (l : Str) (hl : (step (st r.page) r).life = l) : LvS (storeK lv (.inr r.page) (.str l)) (upd1 st r) := fun p => by
  rw [look_store]
  unfold upd1
  by_cases hp : p = r.page
  · subst hp; rw [if_pos rfl, if_pos rfl, hl]; rfl
  · rw [if_neg hp, if_neg (fun z => hp (by injection z))]; exact h p
theorem LvS.keep {lv : List (Key × D)} {st : Own'} (h : LvS lv st) (r : Rec) (hl : (step (st r.page) r).life = (st r.page).life) : LvS lv (upd1 st r) := fun p => by
  unfold upd1
  by_cases hp : p = r.page
  · subst hp; rw [if_pos rfl, hl]; exact h _
  · rw [if_neg hp]; exact h p
def FaultI (S : Sto) (N : Nat) (thing : R) (ds : List D) (L : Loc) (S' : Sto) : Prop := ∃ (k : Nat) (rs : List Rec) (lv : List (Key × D)) (st : Own') (last : Int) (l3 l4 l5 l6 : Option R),
  ds = enumD k (rs.map Rec.enc) ∧ L = [some thing, some (.ref S.length), some (.d (.int last)), l3, l4, l5, l6] ∧ S' = S ++ [Ob.dic lv] ∧ LvS lv st ∧ ok st last rs ∧ Fine rs ∧ 0 ≤ last ∧ lv.length + rs.length ≤ N
end PL.W
local macro_rules | `(tactic| contradiction) => `(tactic| first | ((with_reducible refine land PL.end_dic ?_)) | with_reducible refine lf (PL.W.end_getL (by assumption)) ?_ | with_reducible refine lf (PL.end_dset (by assumption)) ?_)
namespace PL.W
theorem faultT (n : Nat) {S : Sto} {N : Nat} (hN : N < sizeLine) (thing : R) (tg : List Sx) (htg : b_log_fault = b_log_fault.take 3 ++ [.fors (.tup [3, 4]) (.enm (.loc 0)) tg] ++ b_log_fault.drop 4)
    (d : D) (r : List D) (L : Loc) (S' : Sto) (h : FaultI S N thing (d :: r) L S') : ∃ g L' S'', lapT (callN fns (n + 4)) (.tup [3, 4]) tg d L S' = some (g, L', S'') ∧ (g = .nx ∨ g = .ct) ∧ lockB none S'' = true ∧ FaultI S N thing r L' S'' := by
  cases htg
  obtain ⟨k, rs, lv, st, last, l3, l4, l5, l6, hd, rfl, rfl, hv, hok, hf, h0, hn⟩ := h
  cases rs with
  | nil => cases hd
  | cons q rs =>
    injection hd with hd1 hd2
    subst hd1 hd2
    have hp := hf q List.mem_cons_self
    have e1 := t_record n (S ++ [Ob.dic lv]) q.enc (rec_fits hp)
    rw [recordB_ok hp h0 hok.1] at e1
    have e2 := t_can (n + 3) (S ++ [Ob.dic lv]) q.word (st q.page).life
    rw [can_word hok.1] at e2
    have hz : lv.length < sizeLine := by rw [List.length_cons] at hn; omega
    have fin : ∀ (lv' : List (Key × D)) (L : Loc) (last' : Int), LvS lv' (upd1 st q) → lv'.length ≤ lv.length + 1 → last' = numOf last q → (∃ l3 l4 l5 l6, L = [some thing, some (.ref S.length), some (.d (.int last')), l3, l4, l5, l6]) → FaultI S N thing (enumD (k + 1) (rs.map Rec.enc)) L (S ++ [Ob.dic lv']) := fun lv' L last' a b c ⟨x3, x4, x5, x6, e⟩ => by
      subst c
      refine ⟨k + 1, rs, lv', _, _, x3, x4, x5, x6, rfl, e, rfl, a, hok.2, fun x hx => hf x (List.mem_cons_of_mem _ hx), ?_, by rw [List.length_cons] at hn; omega⟩
      cases q with
      | keep p v => exact Int.le_of_lt (Int.lt_of_le_of_lt h0 hok.1.2)
      | write p v => exact Int.le_of_lt (Int.lt_of_le_of_lt h0 hok.1.2)
      | plain p v => exact Int.le_of_lt (Int.lt_of_le_of_lt h0 hok.1.2)
      | free p => exact h0
      | strike p => exact h0
    refine lap_of rfl ?_
    have hc := hok.1
    cases q <;> dsimp only [Rec.word, Rec.page, Rec.enc] at e1 e2 ⊢ <;> nofun
    all_goals first
      | (exfalso; simp only [can, decide_eq_true_eq] at *; omega)
      | (exfalso; rename_i hb; exact absurd hb (by decide))
      | exact ⟨.inl rfl, rfl, fin _ _ _ (hv.put (.keep _ _) _ rfl) store_len rfl ⟨_, _, _, _, rfl⟩⟩
      | exact ⟨.inl rfl, rfl, fin _ _ _ (hv.put (.plain _ _) _ rfl) store_len rfl ⟨_, _, _, _, rfl⟩⟩
      | exact ⟨.inl rfl, rfl, fin _ _ _ (hv.put (.free _) _ rfl) store_len rfl ⟨_, _, _, _, rfl⟩⟩
      | exact ⟨.inl rfl, rfl, fin _ _ _ (hv.keep (.write _ _) rfl) (Nat.le_succ _) rfl ⟨_, _, _, _, rfl⟩⟩
      | exact ⟨.inl rfl, rfl, fin _ _ _ (hv.keep (.strike _) rfl) (Nat.le_succ _) rfl ⟨_, _, _, _, rfl⟩⟩
      | skip
    all_goals trace_state
end PL.W
end
section
set_option maxHeartbeats 4000000
open PL PySem PySem.Spec PyProof.Rows L2
local macro_rules | `(tactic| contradiction) => `(tactic| (first
  | with_reducible refine ws_asg ?_ | with_reducible refine ws_asgL ?_ | with_reducible refine ws_par ?_ | with_reducible refine ws_parC ?_ | with_reducible refine ws_unp ?_ | with_reducible refine ws_dset ?_
  | with_reducible refine ws_expr ?_ | with_reducible refine ws_ret ?_ | with_reducible refine ws_ret0 ?_ | with_reducible refine ws_pass ?_ | with_reducible refine ws_brk ?_ | with_reducible refine ws_cont ?_ | with_reducible refine ws_if ?_ | with_reducible refine ws_for ?_ | with_reducible refine ws_nil ?_
  | with_reducible refine we_int ?_ | with_reducible refine we_str ?_ | with_reducible refine we_bl ?_ | with_reducible refine we_non ?_ | with_reducible refine we_gd ?_
  | ((with_reducible apply we_loc); rfl)
  | with_reducible refine we_bin ?_ | with_reducible refine we_cmp ?_ | with_reducible refine we_cmp2 ?_ | with_reducible refine we_bop ?_ | with_reducible refine wb_nil ?_ | with_reducible refine wb_cons ?_ | with_reducible refine we_not ?_ | with_reducible refine we_neg ?_ | with_reducible refine we_ite ?_
  | with_reducible refine we_tup ?_ | with_reducible refine we_lst ?_ | with_reducible refine we_lstR ?_ | with_reducible refine we_dic0 ?_ | with_reducible refine we_dic ?_ | with_reducible refine we_ix ?_ | with_reducible refine we_sl ?_ | with_reducible refine wo_no ?_ | with_reducible refine wo_so ?_
  | with_reducible refine we_bi ?_ | with_reducible refine we_isi ?_ | with_reducible refine we_call ?_ | with_reducible refine we_callK ?_ | with_reducible refine we_comp ?_ | with_reducible refine we_compR ?_ | with_reducible refine we_get2 ?_ | with_reducible refine we_app ?_ | with_reducible refine we_ext ?_ | with_reducible refine we_join ?_
  | with_reducible refine we_gget2 ?_ | with_reducible refine we_gget ?_ | with_reducible refine we_gix ?_ | with_reducible refine we_gin ?_ | with_reducible refine we_sset ?_ | with_reducible refine we_sortd ?_ | with_reducible refine we_dcopy ?_ | with_reducible refine we_rev ?_ | with_reducible refine we_reprL ?_ | ((with_reducible apply lfV); rfl; exact Nat.le_of_ble_eq_true rfl) | with_reducible refine wes_nil ?_ | with_reducible refine wes_cons ?_ | with_reducible refine wt_nil ?_ | with_reducible refine wt_one ?_
  | with_reducible refine wi_rng ?_ | with_reducible refine wi_rng2 ?_ | with_reducible refine wi_zip ?_ | with_reducible refine wi_enm ?_ | with_reducible refine wi_seq ?_
  | with_reducible refine then_nx ?_ | with_reducible refine then_bk ?_ | with_reducible refine then_ct ?_ | with_reducible refine then_rt ?_ | with_reducible refine qf_same ?_ | with_reducible refine qf_app ?_ | ((with_reducible apply qf_cons); rfl) | ((with_reducible apply qf_consA); rfl) | with_reducible refine qf_ref ?_ | with_reducible refine qf_d ?_ | with_reducible refine qf_nxS ?_ | with_reducible refine qf_nxA ?_ | with_reducible refine qf_nx ?_
  | ((with_reducible apply wk_eq); with_reducible assumption)
  | (with_reducible refine limp (fun hb => ?_) (fun hb => ?_) <;> (first | (cases hb; done) | (simp only [Bool.not_false, Bool.not_true, Bool.true_eq_false, Bool.false_eq_true, reduceCtorEq] at hb; done) | cases hb | ((try simp only [Bool.not_false, Bool.not_true] at hb); (try rw [hb]))))
  | with_reducible refine lf_add ?_ | with_reducible refine lf_sub ?_ | ((with_reducible apply lf_mod); (first | assumption | decide)) | ((with_reducible apply lf_div); (first | assumption | decide)) | with_reducible refine lf_lt ?_ | with_reducible refine lf_le ?_ | with_reducible refine lf_gt ?_ | with_reducible refine lf_ge ?_ | with_reducible refine lf_eqI ?_ | with_reducible refine lf_neI ?_ | with_reducible refine lf_eqSame ?_ | with_reducible refine lf_neSame ?_ | with_reducible refine lf_eqS ?_ | with_reducible refine lf_neS ?_
  | with_reducible refine lf_isN ?_ | with_reducible refine lf_isI ?_ | with_reducible refine lf_isnN ?_ | with_reducible refine lf_isnI ?_ | with_reducible refine lf_tb ?_ | with_reducible refine lf_tl ?_ | with_reducible refine lf_tt ?_ | with_reducible refine lf_int ?_ | with_reducible refine lf_lenL ?_ | with_reducible refine lf_lenT ?_ | ((with_reducible apply lf_lenS); assumption) | with_reducible refine lf_tupL ?_ | with_reducible refine lf_tupT ?_ | with_reducible refine lf_listL ?_ | with_reducible refine lf_listT ?_ | with_reducible refine lf_view ?_ | with_reducible refine lf_in2 ?_ | with_reducible refine lf_in3 ?_ | with_reducible refine lf_inM ?_ | with_reducible refine lf_ix0T ?_ | with_reducible refine lf_ix1T ?_ | with_reducible refine lf_ix2T ?_ | with_reducible refine lf_sl1 ?_ | with_reducible refine lf_slL ?_ | with_reducible refine lf_slT ?_
  | ((with_reducible apply lf_pow); decide) | with_reducible refine lf_mul ?_ ?_ | with_reducible refine lf_pow ?_ ?_ | ((with_reducible apply lf_addT); exact Nat.le_of_ble_eq_true rfl) | ((with_reducible apply lf_addL); exact Nat.le_of_ble_eq_true rfl) | with_reducible refine lf_addT ?_ ?_ | with_reducible refine lf_addL ?_ ?_
  | ((with_reducible apply lf2); rfl; rfl) | ((with_reducible apply lf3); rfl; exact Nat.le_of_ble_eq_true rfl) | ((with_reducible apply lf4); rfl; decide) | ((with_reducible apply lfU); rfl; rfl)
  | with_reducible refine ls_l ?_ | with_reducible refine ls_t ?_ | with_reducible refine ls_s ?_ | ((with_reducible apply ls_r); rfl) | with_reducible refine le_l ?_ | with_reducible refine le_t ?_ | with_reducible refine le_s ?_ | with_reducible refine lz_l ?_ | with_reducible refine lz_t ?_
  | ((with_reducible apply lfR); (first | decide | omega)) | ((with_reducible apply lfR2); (first | decide | omega)) | with_reducible refine lfI ?_
  | ((with_reducible apply lf); rfl) | ((with_reducible apply lfB); rfl) | ((with_reducible apply land); rfl)))
local macro_rules | `(tactic| nofun) => `(tactic| repeat' contradiction)
namespace PL.W
open PySem PySem.Spec PyProof.Rows L2 PL
theorem t_fault (n : Nat) (S : Sto) {rs : List Rec} (hl : Log rs) (hf : Fine rs) (hn : rs.length < sizeLine) : callN fns (n + 5) i_log_fault [.d (.tuple (rs.map Rec.enc))] S = some (.d .none, S) := by
  refine WC.eq (c_log_fault ?_)
  nofun
  refine for_to (FaultI S rs.length (.d (.tuple (rs.map Rec.enc)))) ⟨0, rs, [], st0, 0, none, none, none, none, rfl, rfl, rfl, fun p => rfl, hl, hf, by decide, by simp⟩ (fun d r L S' h => faultT n hn _ _ rfl d r L S' h) ?_
  rintro L' S' ⟨k, rs', lv, st, last, l3, l4, l5, l6, hd, rfl, rfl, _⟩
  nofun
  exact ⟨rfl, rfl⟩
theorem t_islog (n : Nat) (S : Sto) {rs : List Rec} (hl : Log rs) (hf : Fine rs) (hn : rs.length < sizeLine) : callN fns (n + 6) i_is_log [.d (.tuple (rs.map Rec.enc))] S = some (.d (.bool true), S) := by
  have e := t_fault n S hl hf hn
  refine WC.eq (c_is_log ?_)
  nofun
  exact ⟨rfl, rfl⟩
theorem t_number (n : Nat) (S : Sto) {k : Nat} : callN fns (n + 2) i_is_number [.d (.int (k : Int))] S = some (.d (.bool true), S) := by
  have e := t_integer n S (.int (k : Int)) trivial
  have e : callN fns (n + 1) i_is_integer [.d (.int (k : Int))] S = some (.d (.bool true), S) := e
  refine WC.eq (c_is_number ?_)
  nofun
  exact ⟨by rw [decide_eq_true (Int.natCast_nonneg k)], rfl⟩
theorem t_needpoint (n : Nat) (S : Sto) {rs : List Rec} (hl : Log rs) (hf : Fine rs) (hn : rs.length < sizeLine) {k : Nat} (hk : k ≤ rs.length) : callN fns (n + 7) i_need_point [.d (.tuple (rs.map Rec.enc)), .d (.int (k : Int))] S = some (.d .none, S) := by
  have e1 := t_islog n S hl hf hn
  have e2 := t_need (n + 5) S "log"
  have e3 := t_number (n + 4) S (k := k)
  have e4 := t_need (n + 5) S "point"
  refine WC.eq (c_need_point ?_)
  nofun
  rw [List.length_map, decide_eq_true (Int.ofNat_le.mpr hk)]
  nofun
  exact ⟨rfl, rfl⟩
/-! ### the last record of a sort -/
theorem rec_ix0 (r : Rec) (S : Sto) : ixR (.d r.enc) (.d (.int 0)) S = some (.str r.word) := by cases r <;> rfl
theorem rec_ix1 (r : Rec) (S : Sto) : ixR (.d r.enc) (.d (.int 1)) S = some (.str r.page) := by cases r <;> rfl
def isOf (p : Str) (ws : List Str) (r : Rec) : Bool := decide (r.page = p) && decide (r.word ∈ ws)
def lastI (rs : List Rec) (p : Str) (ws : List Str) : Option Nat := ((rs.zipIdx.filter fun q => isOf p ws q.1).map (·.2)).getLast?
def optI : Option Nat → D
  | none => .none
  | some k => .int k
theorem ix_last {xs : List D} {x : D} (h : xs.getLast? = some x) (S : Sto) : ixR (.d (.list xs)) (.d (.int (-1))) S = some x := by
  show atI xs (-1) = _
  have hl : 0 < xs.length := List.length_pos_iff.mpr fun z => by rw [z] at h; cases h
  unfold atI ixN
  rw [if_neg (by decide), if_pos (by omega)]
  rw [List.getLast?_eq_getElem?] at h
  have e : ((xs.length : Int) + -1).toNat = xs.length - 1 := by omega
  show xs[(-1 + (xs.length : Int)).toNat]? = _
  rw [show (-1 + (xs.length : Int)).toNat = xs.length - 1 by omega]
  exact h
end PL.W
local macro_rules | `(tactic| contradiction) => `(tactic| first | with_reducible refine lf (PL.W.rec_ix0 _ _) ?_ | with_reducible refine lf (PL.W.rec_ix1 _ _) ?_)
namespace PL.W
theorem t_last (n : Nat) (S : Sto) (rs : List Rec) (hn : rs.length < sizeLine) (p : Str) (ws : List Str) : callN fns (n + 1) i_last_index [.d (.tuple (rs.map Rec.enc)), .d (.str p), .d (.tuple (ws.map .str))] S = some (.d (optI (lastI rs p ws)), S) := by
  refine WC.eq (c_last_index ?_)
  nofun
  rw [enum_map]
  refine loop_filter (fun q => isOf p ws q.1) (fun q => .int (q.2 : Int)) (by rw [List.length_zipIdx]; omega) (fun q _ => ?_) ?_
  · refine turn_eq rfl ?_
    nofun
    · exact ⟨_, rfl, by simp_all [isOf], rfl⟩
    · exact ⟨by simp_all [isOf], rfl⟩
    · exact ⟨by simp_all [isOf], rfl⟩
  · nofun
    · rename_i hb
      cases hq : (rs.zipIdx.filter fun q => isOf p ws q.1).getLast? with
      | none =>
        rw [List.getLast?_eq_none_iff] at hq
        rw [hq] at hb
        cases hb
      | some q =>
        have h1 : ((rs.zipIdx.filter fun q => isOf p ws q.1).map fun q => PyData.int (q.2 : Int)).getLast? = some (.int (q.2 : Int)) := by rw [List.getLast?_map, hq]; rfl
        refine lf (ix_last h1 S) ?_
        nofun
        refine ⟨?_, rfl⟩
        unfold lastI
        rw [List.getLast?_map, hq]; rfl
    · rename_i hb
      refine ⟨?_, rfl⟩
      have : (rs.zipIdx.filter fun q => isOf p ws q.1) = [] := by
        cases hq : (rs.zipIdx.filter fun q => isOf p ws q.1) with
        | nil => rfl
        | cons q l => rw [hq] at hb; cases hb
      unfold lastI
      rw [this]; rfl
/-! ### the indexes of a sort -/
def hit (rs : List Rec) (p : Str) (ws : List Str) (k : Nat) : Bool := match rs[k]? with
  | some r => isOf p ws r
  | none => false
def hits (rs : List Rec) (p : Str) (ws : List Str) : List Nat := (List.range rs.length).filter (hit rs p ws)
theorem hits_from (p : Str) (ws : List Str) : ∀ (rs : List Rec) (k : Nat), ((rs.zipIdx k).filter fun q => isOf p ws q.1).map (·.2) = (List.range' k rs.length).filter fun j => hit rs p ws (j - k)
  | [], k => rfl
  | r :: rs, k => by
    rw [List.zipIdx_cons, List.length_cons, List.range'_succ, List.filter_cons, List.filter_cons]
    have e : hit (r :: rs) p ws (k - k) = isOf p ws r := by unfold hit; rw [Nat.sub_self]; rfl
    have t : ((List.range' (k + 1) rs.length).filter fun j => hit (r :: rs) p ws (j - k)) = (List.range' (k + 1) rs.length).filter fun j => hit rs p ws (j - (k + 1)) := List.filter_congr fun j hj => by
      have := (List.mem_range'_1.mp hj).1
      unfold hit
      rw [show j - k = (j - (k + 1)) + 1 by omega, List.getElem?_cons_succ]
    rw [e, t, ← hits_from p ws rs (k + 1)]
    dsimp only
    split
    · rw [List.map_cons]
    · rfl
theorem last_hits (rs : List Rec) (p : Str) (ws : List Str) : lastI rs p ws = (hits rs p ws).getLast? := by
  unfold lastI hits
  rw [hits_from, List.range_eq_range']
  congr 1
theorem hits_up (rs : List Rec) (p : Str) (ws : List Str) : (hits rs p ws).Pairwise (· < ·) := List.Pairwise.filter _ List.pairwise_lt_range
theorem hits_mem {rs : List Rec} {p : Str} {ws : List Str} {k : Nat} : k ∈ hits rs p ws ↔ hit rs p ws k = true := by
  unfold hits
  rw [List.mem_filter, List.mem_range]
  refine ⟨fun h => h.2, fun h => ⟨?_, h⟩⟩
  unfold hit at h
  split at h
  · rename_i r e; exact (List.getElem?_eq_some_iff.mp e).1
  · cases h
/-- the last one of those from a number on -/
theorem last_from : ∀ (l : List Nat) (a : Nat), l.Pairwise (· < ·) → (l.filter fun j => decide (a ≤ j)).getLast? = match l.getLast? with
    | some k => if a ≤ k then some k else none
    | none => none := by
  intro l a h
  rcases List.eq_nil_or_concat l with rfl | ⟨l', k, rfl⟩
  · rfl
  · rw [List.concat_eq_append, List.getLast?_concat, List.filter_append]
    rw [List.concat_eq_append] at h
    dsimp only
    by_cases hk : a ≤ k
    · rw [if_pos hk, List.filter_cons, if_pos (decide_eq_true hk), List.filter_nil, List.getLast?_concat]
    · rw [if_neg hk, List.filter_cons, if_neg (by rw [decide_eq_false hk]; exact Bool.false_ne_true), List.filter_nil, List.append_nil]
      have : (l'.filter fun j => decide (a ≤ j)) = [] := List.filter_eq_nil_iff.mpr fun j hj => by
        have := (List.pairwise_append.mp h).2.2 j hj k List.mem_cons_self
        simp only [decide_eq_true_eq]; omega
      rw [this]; rfl
abbrev PW : List Str := ["keep", "write"]
abbrev SW : List Str := ["strike"]
def struck (rs : List Rec) (p : Str) (k : Nat) : Bool := match (hits rs p SW).getLast? with
  | some j => decide (k < j)
  | none => false
def putI (rs : List Rec) (a : Nat) (p : Str) : Option Nat := match (hits rs p PW).getLast? with
  | some k => if a ≤ k ∧ struck rs p k = false then some k else none
  | none => none
def numR : Rec → D
  | .keep _ n | .plain _ n | .write _ n => .int n
  | _ => .none
def putD (rs : List Rec) (a : Nat) (p : Str) : D := match putI rs a p with
  | some k => (match rs[k]? with
    | some r => numR r
    | none => .none)
  | none => .none
end PL.W
end
section
set_option maxHeartbeats 4000000
open PL PySem PySem.Spec PyProof.Rows L2
local macro_rules | `(tactic| contradiction) => `(tactic| (first
  | with_reducible refine ws_asg ?_ | with_reducible refine ws_asgL ?_ | with_reducible refine ws_par ?_ | with_reducible refine ws_parC ?_ | with_reducible refine ws_unp ?_ | with_reducible refine ws_dset ?_
  | with_reducible refine ws_expr ?_ | with_reducible refine ws_ret ?_ | with_reducible refine ws_ret0 ?_ | with_reducible refine ws_pass ?_ | with_reducible refine ws_brk ?_ | with_reducible refine ws_cont ?_ | with_reducible refine ws_if ?_ | with_reducible refine ws_for ?_ | with_reducible refine ws_nil ?_
  | with_reducible refine we_int ?_ | with_reducible refine we_str ?_ | with_reducible refine we_bl ?_ | with_reducible refine we_non ?_ | with_reducible refine we_gd ?_
  | ((with_reducible apply we_loc); rfl)
  | with_reducible refine we_bin ?_ | with_reducible refine we_cmp ?_ | with_reducible refine we_cmp2 ?_ | with_reducible refine we_bop ?_ | with_reducible refine wb_nil ?_ | with_reducible refine wb_cons ?_ | with_reducible refine we_not ?_ | with_reducible refine we_neg ?_ | with_reducible refine we_ite ?_
  | with_reducible refine we_tup ?_ | with_reducible refine we_lst ?_ | with_reducible refine we_lstR ?_ | with_reducible refine we_dic0 ?_ | with_reducible refine we_dic ?_ | with_reducible refine we_ix ?_ | with_reducible refine we_sl ?_ | with_reducible refine wo_no ?_ | with_reducible refine wo_so ?_
  | with_reducible refine we_bi ?_ | with_reducible refine we_isi ?_ | with_reducible refine we_call ?_ | with_reducible refine we_callK ?_ | with_reducible refine we_comp ?_ | with_reducible refine we_compR ?_ | with_reducible refine we_get2 ?_ | with_reducible refine we_app ?_ | with_reducible refine we_ext ?_ | with_reducible refine we_join ?_
  | with_reducible refine we_gget2 ?_ | with_reducible refine we_gget ?_ | with_reducible refine we_gix ?_ | with_reducible refine we_gin ?_ | with_reducible refine we_sset ?_ | with_reducible refine we_sortd ?_ | with_reducible refine we_dcopy ?_ | with_reducible refine we_rev ?_ | with_reducible refine we_reprL ?_ | ((with_reducible apply lfV); rfl; exact Nat.le_of_ble_eq_true rfl) | with_reducible refine wes_nil ?_ | with_reducible refine wes_cons ?_ | with_reducible refine wt_nil ?_ | with_reducible refine wt_one ?_
  | with_reducible refine wi_rng ?_ | with_reducible refine wi_rng2 ?_ | with_reducible refine wi_zip ?_ | with_reducible refine wi_enm ?_ | with_reducible refine wi_seq ?_
  | with_reducible refine then_nx ?_ | with_reducible refine then_bk ?_ | with_reducible refine then_ct ?_ | with_reducible refine then_rt ?_ | with_reducible refine qf_same ?_ | with_reducible refine qf_app ?_ | ((with_reducible apply qf_cons); rfl) | ((with_reducible apply qf_consA); rfl) | with_reducible refine qf_ref ?_ | with_reducible refine qf_d ?_ | with_reducible refine qf_nxS ?_ | with_reducible refine qf_nxA ?_ | with_reducible refine qf_nx ?_
  | ((with_reducible apply wk_eq); with_reducible assumption)
  | (with_reducible refine limp (fun hb => ?_) (fun hb => ?_) <;> (first | (cases hb; done) | (simp only [Bool.not_false, Bool.not_true, Bool.true_eq_false, Bool.false_eq_true, reduceCtorEq] at hb; done) | cases hb | ((try simp only [Bool.not_false, Bool.not_true] at hb); (try rw [hb]))))
  | with_reducible refine lf_add ?_ | with_reducible refine lf_sub ?_ | ((with_reducible apply lf_mod); (first | assumption | decide)) | ((with_reducible apply lf_div); (first | assumption | decide)) | with_reducible refine lf_lt ?_ | with_reducible refine lf_le ?_ | with_reducible refine lf_gt ?_ | with_reducible refine lf_ge ?_ | with_reducible refine lf_eqI ?_ | with_reducible refine lf_neI ?_ | with_reducible refine lf_eqSame ?_ | with_reducible refine lf_neSame ?_ | with_reducible refine lf_eqS ?_ | with_reducible refine lf_neS ?_
  | with_reducible refine lf_isN ?_ | with_reducible refine lf_isI ?_ | with_reducible refine lf_isnN ?_ | with_reducible refine lf_isnI ?_ | with_reducible refine lf_tb ?_ | with_reducible refine lf_tl ?_ | with_reducible refine lf_tt ?_ | with_reducible refine lf_int ?_ | with_reducible refine lf_lenL ?_ | with_reducible refine lf_lenT ?_ | ((with_reducible apply lf_lenS); assumption) | with_reducible refine lf_tupL ?_ | with_reducible refine lf_tupT ?_ | with_reducible refine lf_listL ?_ | with_reducible refine lf_listT ?_ | with_reducible refine lf_view ?_ | with_reducible refine lf_in2 ?_ | with_reducible refine lf_in3 ?_ | with_reducible refine lf_inM ?_ | with_reducible refine lf_ix0T ?_ | with_reducible refine lf_ix1T ?_ | with_reducible refine lf_ix2T ?_ | with_reducible refine lf_sl1 ?_ | with_reducible refine lf_slL ?_ | with_reducible refine lf_slT ?_
  | ((with_reducible apply lf_pow); decide) | with_reducible refine lf_mul ?_ ?_ | with_reducible refine lf_pow ?_ ?_ | ((with_reducible apply lf_addT); exact Nat.le_of_ble_eq_true rfl) | ((with_reducible apply lf_addL); exact Nat.le_of_ble_eq_true rfl) | with_reducible refine lf_addT ?_ ?_ | with_reducible refine lf_addL ?_ ?_
  | ((with_reducible apply lf2); rfl; rfl) | ((with_reducible apply lf3); rfl; exact Nat.le_of_ble_eq_true rfl) | ((with_reducible apply lf4); rfl; decide) | ((with_reducible apply lfU); rfl; rfl)
  | with_reducible refine ls_l ?_ | with_reducible refine ls_t ?_ | with_reducible refine ls_s ?_ | ((with_reducible apply ls_r); rfl) | with_reducible refine le_l ?_ | with_reducible refine le_t ?_ | with_reducible refine le_s ?_ | with_reducible refine lz_l ?_ | with_reducible refine lz_t ?_
  | ((with_reducible apply lfR); (first | decide | omega)) | ((with_reducible apply lfR2); (first | decide | omega)) | with_reducible refine lfI ?_
  | ((with_reducible apply lf); rfl) | ((with_reducible apply lfB); rfl) | ((with_reducible apply land); rfl)))
local macro_rules | `(tactic| nofun) => `(tactic| repeat' contradiction)
local macro_rules | `(tactic| contradiction) => `(tactic| first | with_reducible refine lf (PL.W.rec_ix0 _ _) ?_ | with_reducible refine lf (PL.W.rec_ix1 _ _) ?_)
namespace PL.W
open PySem PySem.Spec PyProof.Rows L2 PL
theorem rs_ix {rs : List Rec} {k : Nat} {r : Rec} (h : rs[k]? = some r) (S : Sto) : ixR (.d (.tuple (rs.map Rec.enc))) (.d (.int (k : Int))) S = some r.enc := by
  have hk := (List.getElem?_eq_some_iff.mp h).1
  show atI (rs.map Rec.enc) (k : Int) = _
  unfold atI ixN
  rw [if_pos (by omega), List.length_map, if_pos (by omega)]
  show (rs.map Rec.enc)[(k : Int).toNat]? = _
  rw [Int.toNat_natCast, List.getElem?_map, h]; rfl
theorem hit_rec {rs : List Rec} {p : Str} {ws : List Str} {k : Nat} (h : hit rs p ws k = true) : ∃ r, rs[k]? = some r ∧ r.page = p ∧ r.word ∈ ws := by
  unfold hit at h
  split at h
  · rename_i r e
    unfold isOf at h
    rw [Bool.and_eq_true, decide_eq_true_eq, decide_eq_true_eq] at h
    exact ⟨r, e, h.1, h.2⟩
  · cases h
theorem hit_of {rs : List Rec} {p : Str} {ws : List Str} {k : Nat} {r : Rec} (e : rs[k]? = some r) : hit rs p ws k = isOf p ws r := by unfold hit; rw [e]
theorem pic_rec {rs : List Rec} {p : Str} {k : Nat} (h : hit rs p PW k = true) : ∃ r n, rs[k]? = some r ∧ r.page = p ∧ numR r = .int n ∧ (r = .keep p n ∨ r = .write p n) := by
  obtain ⟨r, e, hp, hw⟩ := hit_rec h
  cases r with
  | keep q n => cases hp; exact ⟨_, n, e, rfl, rfl, .inl rfl⟩
  | write q n => cases hp; exact ⟨_, n, e, rfl, rfl, .inr rfl⟩
  | plain q n => exact absurd hw (by show ("plain" : Str) ∉ PW; decide)
  | free q => exact absurd hw (by show ("free" : Str) ∉ PW; decide)
  | strike q => exact absurd hw (by show ("strike" : Str) ∉ PW; decide)
theorem put_rec {rs : List Rec} {a : Nat} {p : Str} {k : Nat} (h : putI rs a p = some k) : hit rs p PW k = true ∧ a ≤ k ∧ struck rs p k = false := by
  unfold putI at h
  split at h
  · rename_i j hj
    split at h
    · rename_i c
      cases h
      exact ⟨hits_mem.mp (List.mem_of_getLast? hj), c⟩
    · cases h
  · cases h
theorem put_some {rs : List Rec} {a : Nat} {p : Str} {k : Nat} (h : putI rs a p = some k) : ∃ n : Int, putD rs a p = .int n := by
  obtain ⟨r, n, e, _, hn, _⟩ := pic_rec (put_rec h).1
  exact ⟨n, by unfold putD; rw [h]; dsimp only; rw [e]; exact hn⟩
theorem put_none {rs : List Rec} {a : Nat} {p : Str} (h : putI rs a p = none) : putD rs a p = .none := by unfold putD; rw [h]
section
variable {S : Sto} {rs : List Rec}
theorem t_isstruck (n : Nat) (hn : rs.length < sizeLine) {k : Nat} {r : Rec} (h : rs[k]? = some r) : callN fns (n + 2) i_is_struck [.d (.tuple (rs.map Rec.enc)), .d (.int (k : Int))] S = some (.d (.bool (struck rs r.page k)), S) := by
  have e := t_last n S rs hn r.page SW
  refine WC.eq (c_is_struck ?_)
  nofun
  refine lf (rs_ix h S) ?_
  nofun
  refine wk_eq e ?_
  rw [last_hits]
  cases hq : (hits rs r.page SW).getLast? with
  | none =>
    dsimp only [optI]
    nofun
    exact ⟨by unfold struck; rw [hq], rfl⟩
  | some j =>
    dsimp only [optI]
    nofun
    refine ⟨?_, rfl⟩
    unfold struck
    rw [hq]
    dsimp only
    congr 2
    exact decide_eq_decide.mpr (by omega)
theorem t_putindex (n : Nat) (hn : rs.length < sizeLine) (a : Nat) (p : Str) : callN fns (n + 3) i_put_index [.d (.tuple (rs.map Rec.enc)), .d (.int (a : Int)), .d (.str p)] S = some (.d (optI (putI rs a p)), S) := by
  have e := t_last (n + 1) S rs hn p PW
  refine WC.eq (c_put_index ?_)
  nofun
  refine wk_eq e ?_
  rw [last_hits]
  cases hq : (hits rs p PW).getLast? with
  | none =>
    dsimp only [optI]
    nofun
    exact ⟨by unfold putI; rw [hq], rfl⟩
  | some k =>
    obtain ⟨r, v, hr, hp, _⟩ := pic_rec (hits_mem.mp (List.mem_of_getLast? hq))
    have e2 := t_isstruck (S := S) n hn hr
    rw [hp] at e2
    dsimp only [optI]
    have ev : putI rs a p = if a ≤ k ∧ struck rs p k = false then some k else none := by unfold putI; rw [hq]
    rw [ev]
    by_cases h1 : a ≤ k
    · cases h2 : struck rs p k with
      | true =>
        rw [h2] at e2
        rw [if_neg (by simp)]
        nofun
        all_goals first
          | exact ⟨rfl, rfl⟩
          | (exfalso; clear e e2 ev; simp only [Bool.not_false, Bool.not_true, decide_eq_true_eq, decide_eq_false_iff_not] at *; omega)
          | trace_state
      | false =>
        rw [h2] at e2
        rw [if_pos ⟨h1, rfl⟩]
        nofun
        all_goals first
          | exact ⟨rfl, rfl⟩
          | (exfalso; clear e e2 ev; simp only [Bool.not_false, Bool.not_true, decide_eq_true_eq, decide_eq_false_iff_not] at *; omega)
          | trace_state
    · rw [if_neg (fun z => h1 z.1)]
      nofun
      all_goals first
        | exact ⟨rfl, rfl⟩
        | (exfalso; clear e e2 ev; simp only [Bool.not_false, Bool.not_true, decide_eq_true_eq, decide_eq_false_iff_not] at *; omega)
        | trace_state
theorem t_puttold (n : Nat) (hn : rs.length < sizeLine) (a : Nat) (p : Str) : callN fns (n + 4) i_put_told [.d (.tuple (rs.map Rec.enc)), .d (.int (a : Int)), .d (.str p)] S = some (.d (putD rs a p), S) := by
  have e := t_putindex (S := S) n hn a p
  refine WC.eq (c_put_told ?_)
  cases hq : putI rs a p with
  | none =>
    rw [hq] at e
    dsimp only [optI] at e
    nofun
    exact ⟨by rw [put_none hq], rfl⟩
  | some k =>
    rw [hq] at e
    dsimp only [optI] at e
    obtain ⟨r, v, hr, hp, hv, h⟩ := pic_rec (put_rec hq).1
    have ev : putD rs a p = .int v := by unfold putD; rw [hq]; dsimp only; rw [hr]; exact hv
    nofun
    refine lf (rs_ix hr S) ?_
    rcases h with rfl | rfl <;> (dsimp only [Rec.enc]; nofun; exact ⟨by rw [ev], rfl⟩)
theorem t_putin (n : Nat) (hl : Log rs) (hf : Fine rs) (hn : rs.length < sizeLine) {a : Nat} (ha : a ≤ rs.length) {p : Str} (hp : pageB p = true) : callN fns (n + 8) i_put_in [.d (.tuple (rs.map Rec.enc)), .d (.int (a : Int)), .d (.str p)] S = some (.d (putD rs a p), S) := by
  have e1 := t_needpoint n S hl hf hn ha
  have e3 := t_page (n + 6) S p (page_len hp)
  rw [hp] at e3
  have e4 := t_need (n + 6) S "page"
  have e5 := t_puttold (S := S) (n + 3) hn a p
  refine WC.eq (c_put_in ?_)
  nofun
  exact ⟨rfl, rfl⟩
end
end PL.W
end
section
set_option maxHeartbeats 4000000
open PL PySem PySem.Spec PyProof.Rows L2
local macro_rules | `(tactic| contradiction) => `(tactic| (first
  | with_reducible refine ws_asg ?_ | with_reducible refine ws_asgL ?_ | with_reducible refine ws_par ?_ | with_reducible refine ws_parC ?_ | with_reducible refine ws_unp ?_ | with_reducible refine ws_dset ?_
  | with_reducible refine ws_expr ?_ | with_reducible refine ws_ret ?_ | with_reducible refine ws_ret0 ?_ | with_reducible refine ws_pass ?_ | with_reducible refine ws_brk ?_ | with_reducible refine ws_cont ?_ | with_reducible refine ws_if ?_ | with_reducible refine ws_for ?_ | with_reducible refine ws_nil ?_
  | with_reducible refine we_int ?_ | with_reducible refine we_str ?_ | with_reducible refine we_bl ?_ | with_reducible refine we_non ?_ | with_reducible refine we_gd ?_
  | ((with_reducible apply we_loc); rfl)
  | with_reducible refine we_bin ?_ | with_reducible refine we_cmp ?_ | with_reducible refine we_cmp2 ?_ | with_reducible refine we_bop ?_ | with_reducible refine wb_nil ?_ | with_reducible refine wb_cons ?_ | with_reducible refine we_not ?_ | with_reducible refine we_neg ?_ | with_reducible refine we_ite ?_
  | with_reducible refine we_tup ?_ | with_reducible refine we_lst ?_ | with_reducible refine we_lstR ?_ | with_reducible refine we_dic0 ?_ | with_reducible refine we_dic ?_ | with_reducible refine we_ix ?_ | with_reducible refine we_sl ?_ | with_reducible refine wo_no ?_ | with_reducible refine wo_so ?_
  | with_reducible refine we_bi ?_ | with_reducible refine we_isi ?_ | with_reducible refine we_call ?_ | with_reducible refine we_callK ?_ | with_reducible refine we_comp ?_ | with_reducible refine we_compR ?_ | with_reducible refine we_get2 ?_ | with_reducible refine we_app ?_ | with_reducible refine we_ext ?_ | with_reducible refine we_join ?_
  | with_reducible refine we_gget2 ?_ | with_reducible refine we_gget ?_ | with_reducible refine we_gix ?_ | with_reducible refine we_gin ?_ | with_reducible refine we_sset ?_ | with_reducible refine we_sortd ?_ | with_reducible refine we_dcopy ?_ | with_reducible refine we_rev ?_ | with_reducible refine we_reprL ?_ | ((with_reducible apply lfV); rfl; exact Nat.le_of_ble_eq_true rfl) | with_reducible refine wes_nil ?_ | with_reducible refine wes_cons ?_ | with_reducible refine wt_nil ?_ | with_reducible refine wt_one ?_
  | with_reducible refine wi_rng ?_ | with_reducible refine wi_rng2 ?_ | with_reducible refine wi_zip ?_ | with_reducible refine wi_enm ?_ | with_reducible refine wi_seq ?_
  | with_reducible refine then_nx ?_ | with_reducible refine then_bk ?_ | with_reducible refine then_ct ?_ | with_reducible refine then_rt ?_ | with_reducible refine qf_same ?_ | with_reducible refine qf_app ?_ | ((with_reducible apply qf_cons); rfl) | ((with_reducible apply qf_consA); rfl) | with_reducible refine qf_ref ?_ | with_reducible refine qf_d ?_ | with_reducible refine qf_nxS ?_ | with_reducible refine qf_nxA ?_ | with_reducible refine qf_nx ?_
  | ((with_reducible apply wk_eq); with_reducible assumption)
  | (with_reducible refine limp (fun hb => ?_) (fun hb => ?_) <;> (first | (cases hb; done) | (simp only [Bool.not_false, Bool.not_true, Bool.true_eq_false, Bool.false_eq_true, reduceCtorEq] at hb; done) | cases hb | ((try simp only [Bool.not_false, Bool.not_true] at hb); (try rw [hb]))))
  | with_reducible refine lf_add ?_ | with_reducible refine lf_sub ?_ | ((with_reducible apply lf_mod); (first | assumption | decide)) | ((with_reducible apply lf_div); (first | assumption | decide)) | with_reducible refine lf_lt ?_ | with_reducible refine lf_le ?_ | with_reducible refine lf_gt ?_ | with_reducible refine lf_ge ?_ | with_reducible refine lf_eqI ?_ | with_reducible refine lf_neI ?_ | with_reducible refine lf_eqSame ?_ | with_reducible refine lf_neSame ?_ | with_reducible refine lf_eqS ?_ | with_reducible refine lf_neS ?_
  | with_reducible refine lf_isN ?_ | with_reducible refine lf_isI ?_ | with_reducible refine lf_isnN ?_ | with_reducible refine lf_isnI ?_ | with_reducible refine lf_tb ?_ | with_reducible refine lf_tl ?_ | with_reducible refine lf_tt ?_ | with_reducible refine lf_int ?_ | with_reducible refine lf_lenL ?_ | with_reducible refine lf_lenT ?_ | ((with_reducible apply lf_lenS); assumption) | with_reducible refine lf_tupL ?_ | with_reducible refine lf_tupT ?_ | with_reducible refine lf_listL ?_ | with_reducible refine lf_listT ?_ | with_reducible refine lf_view ?_ | with_reducible refine lf_in2 ?_ | with_reducible refine lf_in3 ?_ | with_reducible refine lf_inM ?_ | with_reducible refine lf_ix0T ?_ | with_reducible refine lf_ix1T ?_ | with_reducible refine lf_ix2T ?_ | with_reducible refine lf_sl1 ?_ | with_reducible refine lf_slL ?_ | with_reducible refine lf_slT ?_
  | ((with_reducible apply lf_pow); decide) | with_reducible refine lf_mul ?_ ?_ | with_reducible refine lf_pow ?_ ?_ | ((with_reducible apply lf_addT); exact Nat.le_of_ble_eq_true rfl) | ((with_reducible apply lf_addL); exact Nat.le_of_ble_eq_true rfl) | with_reducible refine lf_addT ?_ ?_ | with_reducible refine lf_addL ?_ ?_
  | ((with_reducible apply lf2); rfl; rfl) | ((with_reducible apply lf3); rfl; exact Nat.le_of_ble_eq_true rfl) | ((with_reducible apply lf4); rfl; decide) | ((with_reducible apply lfU); rfl; rfl)
  | with_reducible refine ls_l ?_ | with_reducible refine ls_t ?_ | with_reducible refine ls_s ?_ | ((with_reducible apply ls_r); rfl) | with_reducible refine le_l ?_ | with_reducible refine le_t ?_ | with_reducible refine le_s ?_ | with_reducible refine lz_l ?_ | with_reducible refine lz_t ?_
  | ((with_reducible apply lfR); (first | decide | omega)) | ((with_reducible apply lfR2); (first | decide | omega)) | with_reducible refine lfI ?_
  | ((with_reducible apply lf); rfl) | ((with_reducible apply lfB); rfl) | ((with_reducible apply land); rfl)))
local macro_rules | `(tactic| nofun) => `(tactic| repeat' contradiction)
local macro_rules | `(tactic| contradiction) => `(tactic| first | with_reducible refine lf (PL.W.rec_ix0 _ _) ?_ | with_reducible refine lf (PL.W.rec_ix1 _ _) ?_)
namespace PL.W
open PySem PySem.Spec PyProof.Rows L2 PL
theorem strs_map : ∀ xs : List Str, strsD (xs.map PyData.str) = some xs
  | [] => rfl
  | x :: r => by
    show (strsD (r.map PyData.str)).map (x :: ·) = _
    rw [strs_map r]; rfl
theorem t_asc (n : Nat) (S : Sto) {xs : List Str} (h1 : xs.length < 4000) (h2 : (onceS xs).length < 64) : callN fns (n + 1) i_ascending [.d (.list (xs.map .str))] S = some (.d (.tuple ((sortS (onceS xs)).map .str)), S) := by
  have e : un1 gSSet (.d (.list (xs.map .str))) S = some (.list ((sortS (onceS xs)).map .str)) := by
    show gSSet (.list (xs.map .str)) = _
    unfold gSSet
    rw [show (seqD (.list (xs.map PyData.str))).bind strsD = some xs from strs_map xs]
    dsimp only
    rw [if_pos ⟨h1, h2⟩]
  refine WC.eq (c_ascending ?_)
  nofun
  refine lf e ?_
  nofun
  exact ⟨rfl, rfl⟩
theorem t_pagestold (n : Nat) (S : Sto) {rs : List Rec} (h1 : rs.length < 4000) (h2 : (onceS (rs.map Rec.page)).length < 64) : callN fns (n + 2) i_pages_told [.d (.tuple (rs.map Rec.enc))] S = some (.d (.tuple ((sortS (onceS (rs.map Rec.page))).map .str)), S) := by
  have e := t_asc n S (xs := rs.map Rec.page) (by rw [List.length_map]; exact h1) h2
  rw [List.map_map] at e
  refine WC.eq (c_pages_told ?_)
  nofun
  refine loop_every (fun r => .str r.page) (Nat.le_trans (Nat.le_of_lt h1) (by decide)) (fun r _ => ?_) ?_
  · refine turn_eq rfl ?_
    nofun
    exact ⟨_, rfl, rfl, rfl⟩
  · nofun
    refine wk_eq e ?_
    nofun
    exact ⟨rfl, rfl⟩
theorem sortS_perm2 {xs ys : List Str} (p : xs.Perm ys) : sortS xs = sortS ys :=
  List.Perm.eq_of_pairwise (fun a b _ _ h1 h2 => leS_anti h1 h2) (sortS_sorted xs) (sortS_sorted ys) ((sortS_perm xs).trans (p.trans (sortS_perm ys).symm))
theorem len_sub {α : Type} : ∀ (l m : List α), l.Nodup → (∀ x ∈ l, x ∈ m) → l.length ≤ m.length
  | [], _, _, _ => Nat.zero_le _
  | x :: r, m, nd, h => by
    obtain ⟨n1, n2⟩ := List.nodup_cons.mp nd
    obtain ⟨m1, m2, rfl⟩ := List.append_of_mem (h x List.mem_cons_self)
    have := len_sub r (m1 ++ m2) n2 fun z hz => by
      rcases List.mem_append.mp (h z (List.mem_cons_of_mem _ hz)) with q | q
      · exact List.mem_append_left _ q
      · rcases List.mem_cons.mp q with q | q
        · exact absurd (q ▸ hz) n1
        · exact List.mem_append_right _ q
    rw [List.length_append] at this
    rw [List.length_cons, List.length_append, List.length_cons]
    omega
theorem ints_map : ∀ xs : List Int, intsD (xs.map PyData.int) = some xs
  | [] => rfl
  | x :: r => by
    show (intsD (r.map PyData.int)).map (x :: ·) = _
    rw [ints_map r]; rfl
theorem strs_ints : ∀ {xs : List Int}, xs ≠ [] → strsD (xs.map PyData.int) = none
  | [], h => absurd rfl h
  | x :: r, _ => rfl
/-- numbers that rise: sorted and each once as they are -/
theorem sortI_up {xs : List Int} (h : xs.Pairwise (· ≤ ·)) : sortI xs = xs := (sortI_only (List.Perm.refl _) h).symm
theorem onceI_up : ∀ {xs : List Int}, xs.Nodup → onceI xs = xs
  | [], _ => rfl
  | x :: r, h => by
    obtain ⟨h1, h2⟩ := List.nodup_cons.mp h
    unfold onceI
    rw [onceI_up h2, if_neg h1]
abbrev natD (k : Nat) : D := .int (k : Int)
theorem t_ascI (n : Nat) (S : Sto) {xs : List Nat} (h : xs.Pairwise (· < ·)) (hl : xs.length < 64) : callN fns (n + 1) i_ascending [.d (.list (xs.map natD))] S = some (.d (.tuple (xs.map natD)), S) := by
  have hI : (xs.map fun k : Nat => (k : Int)).Pairwise (· < ·) := List.pairwise_map.mpr (h.imp fun q => Int.ofNat_lt.mpr q)
  have e : un1 gSSet (.d (.list (xs.map natD))) S = some (.list (xs.map natD)) := by
    show gSSet (.list (xs.map natD)) = _
    rcases xs with _ | ⟨x, r⟩
    · rfl
    · have e0 : ((x :: r).map natD) = ((x :: r).map fun k : Nat => (k : Int)).map PyData.int := by rw [List.map_map]; rfl
      rw [e0]
      unfold gSSet
      rw [show (seqD (.list (((x :: r).map fun k : Nat => (k : Int)).map PyData.int))).bind strsD = none from strs_ints (by simp)]
      dsimp only
      rw [show (seqD (.list (((x :: r).map fun k : Nat => (k : Int)).map PyData.int))).bind intsD = some ((x :: r).map fun k : Nat => (k : Int)) from ints_map _]
      dsimp only
      rw [onceI_up (hI.imp fun q => Int.ne_of_lt q), if_pos ⟨by rw [List.length_map]; omega, by rw [List.length_map]; exact hl⟩, sortI_up (hI.imp fun q => Int.le_of_lt q)]
  refine WC.eq (c_ascending ?_)
  nofun
  refine lf e ?_
  nofun
  exact ⟨rfl, rfl⟩
end PL.W
end
section
set_option maxHeartbeats 4000000
open PL PySem PySem.Spec PyProof.Rows L2
local macro_rules | `(tactic| contradiction) => `(tactic| (first
  | with_reducible refine ws_asg ?_ | with_reducible refine ws_asgL ?_ | with_reducible refine ws_par ?_ | with_reducible refine ws_parC ?_ | with_reducible refine ws_unp ?_ | with_reducible refine ws_dset ?_
  | with_reducible refine ws_expr ?_ | with_reducible refine ws_ret ?_ | with_reducible refine ws_ret0 ?_ | with_reducible refine ws_pass ?_ | with_reducible refine ws_brk ?_ | with_reducible refine ws_cont ?_ | with_reducible refine ws_if ?_ | with_reducible refine ws_for ?_ | with_reducible refine ws_nil ?_
  | with_reducible refine we_int ?_ | with_reducible refine we_str ?_ | with_reducible refine we_bl ?_ | with_reducible refine we_non ?_ | with_reducible refine we_gd ?_
  | ((with_reducible apply we_loc); rfl)
  | with_reducible refine we_bin ?_ | with_reducible refine we_cmp ?_ | with_reducible refine we_cmp2 ?_ | with_reducible refine we_bop ?_ | with_reducible refine wb_nil ?_ | with_reducible refine wb_cons ?_ | with_reducible refine we_not ?_ | with_reducible refine we_neg ?_ | with_reducible refine we_ite ?_
  | with_reducible refine we_tup ?_ | with_reducible refine we_lst ?_ | with_reducible refine we_lstR ?_ | with_reducible refine we_dic0 ?_ | with_reducible refine we_dic ?_ | with_reducible refine we_ix ?_ | with_reducible refine we_sl ?_ | with_reducible refine wo_no ?_ | with_reducible refine wo_so ?_
  | with_reducible refine we_bi ?_ | with_reducible refine we_isi ?_ | with_reducible refine we_call ?_ | with_reducible refine we_callK ?_ | with_reducible refine we_comp ?_ | with_reducible refine we_compR ?_ | with_reducible refine we_get2 ?_ | with_reducible refine we_app ?_ | with_reducible refine we_ext ?_ | with_reducible refine we_join ?_
  | with_reducible refine we_gget2 ?_ | with_reducible refine we_gget ?_ | with_reducible refine we_gix ?_ | with_reducible refine we_gin ?_ | with_reducible refine we_sset ?_ | with_reducible refine we_sortd ?_ | with_reducible refine we_dcopy ?_ | with_reducible refine we_rev ?_ | with_reducible refine we_reprL ?_ | ((with_reducible apply lfV); rfl; exact Nat.le_of_ble_eq_true rfl) | with_reducible refine wes_nil ?_ | with_reducible refine wes_cons ?_ | with_reducible refine wt_nil ?_ | with_reducible refine wt_one ?_
  | with_reducible refine wi_rng ?_ | with_reducible refine wi_rng2 ?_ | with_reducible refine wi_zip ?_ | with_reducible refine wi_enm ?_ | with_reducible refine wi_seq ?_
  | with_reducible refine then_nx ?_ | with_reducible refine then_bk ?_ | with_reducible refine then_ct ?_ | with_reducible refine then_rt ?_ | with_reducible refine qf_same ?_ | with_reducible refine qf_app ?_ | ((with_reducible apply qf_cons); rfl) | ((with_reducible apply qf_consA); rfl) | with_reducible refine qf_ref ?_ | with_reducible refine qf_d ?_ | with_reducible refine qf_nxS ?_ | with_reducible refine qf_nxA ?_ | with_reducible refine qf_nx ?_
  | ((with_reducible apply wk_eq); with_reducible assumption)
  | (with_reducible refine limp (fun hb => ?_) (fun hb => ?_) <;> (first | (cases hb; done) | (simp only [Bool.not_false, Bool.not_true, Bool.true_eq_false, Bool.false_eq_true, reduceCtorEq] at hb; done) | cases hb | ((try simp only [Bool.not_false, Bool.not_true] at hb); (try rw [hb]))))
  | with_reducible refine lf_add ?_ | with_reducible refine lf_sub ?_ | ((with_reducible apply lf_mod); (first | assumption | decide)) | ((with_reducible apply lf_div); (first | assumption | decide)) | with_reducible refine lf_lt ?_ | with_reducible refine lf_le ?_ | with_reducible refine lf_gt ?_ | with_reducible refine lf_ge ?_ | with_reducible refine lf_eqI ?_ | with_reducible refine lf_neI ?_ | with_reducible refine lf_eqSame ?_ | with_reducible refine lf_neSame ?_ | with_reducible refine lf_eqS ?_ | with_reducible refine lf_neS ?_
  | with_reducible refine lf_isN ?_ | with_reducible refine lf_isI ?_ | with_reducible refine lf_isnN ?_ | with_reducible refine lf_isnI ?_ | with_reducible refine lf_tb ?_ | with_reducible refine lf_tl ?_ | with_reducible refine lf_tt ?_ | with_reducible refine lf_int ?_ | with_reducible refine lf_lenL ?_ | with_reducible refine lf_lenT ?_ | ((with_reducible apply lf_lenS); assumption) | with_reducible refine lf_tupL ?_ | with_reducible refine lf_tupT ?_ | with_reducible refine lf_listL ?_ | with_reducible refine lf_listT ?_ | with_reducible refine lf_view ?_ | with_reducible refine lf_in2 ?_ | with_reducible refine lf_in3 ?_ | with_reducible refine lf_inM ?_ | with_reducible refine lf_ix0T ?_ | with_reducible refine lf_ix1T ?_ | with_reducible refine lf_ix2T ?_ | with_reducible refine lf_sl1 ?_ | with_reducible refine lf_slL ?_ | with_reducible refine lf_slT ?_
  | ((with_reducible apply lf_pow); decide) | with_reducible refine lf_mul ?_ ?_ | with_reducible refine lf_pow ?_ ?_ | ((with_reducible apply lf_addT); exact Nat.le_of_ble_eq_true rfl) | ((with_reducible apply lf_addL); exact Nat.le_of_ble_eq_true rfl) | with_reducible refine lf_addT ?_ ?_ | with_reducible refine lf_addL ?_ ?_
  | ((with_reducible apply lf2); rfl; rfl) | ((with_reducible apply lf3); rfl; exact Nat.le_of_ble_eq_true rfl) | ((with_reducible apply lf4); rfl; decide) | ((with_reducible apply lfU); rfl; rfl)
  | with_reducible refine ls_l ?_ | with_reducible refine ls_t ?_ | with_reducible refine ls_s ?_ | ((with_reducible apply ls_r); rfl) | with_reducible refine le_l ?_ | with_reducible refine le_t ?_ | with_reducible refine le_s ?_ | with_reducible refine lz_l ?_ | with_reducible refine lz_t ?_
  | ((with_reducible apply lfR); (first | decide | omega)) | ((with_reducible apply lfR2); (first | decide | omega)) | with_reducible refine lfI ?_
  | ((with_reducible apply lf); rfl) | ((with_reducible apply lfB); rfl) | ((with_reducible apply land); rfl)))
local macro_rules | `(tactic| nofun) => `(tactic| repeat' contradiction)
local macro_rules | `(tactic| contradiction) => `(tactic| first | with_reducible refine lf (PL.W.rec_ix0 _ _) ?_ | with_reducible refine lf (PL.W.rec_ix1 _ _) ?_)
namespace PL.W
open PySem PySem.Spec PyProof.Rows L2 PL
theorem zip_filter (f : Rec → Nat → Bool) : ∀ (rs : List Rec) (k : Nat), ((rs.zipIdx k).filter fun q => f q.1 q.2).map (·.2) = (List.range' k rs.length).filter fun j => match rs[j - k]? with
    | some r => f r j
    | none => false
  | [], k => rfl
  | r :: rs, k => by
    rw [List.zipIdx_cons, List.length_cons, List.range'_succ, List.filter_cons, List.filter_cons, Nat.sub_self, List.getElem?_cons_zero]
    have t : ((List.range' (k + 1) rs.length).filter fun j => match (r :: rs)[j - k]? with
        | some r => f r j
        | none => false) = (List.range' (k + 1) rs.length).filter fun j => match rs[j - (k + 1)]? with
        | some r => f r j
        | none => false := List.filter_congr fun j hj => by
      have := (List.mem_range'_1.mp hj).1
      rw [show j - k = (j - (k + 1)) + 1 by omega, List.getElem?_cons_succ]
    dsimp only
    rw [t, ← zip_filter f rs (k + 1)]
    split
    · rw [List.map_cons]
    · rfl
def picB (r : Rec) : Bool := decide (r.word = "keep") || decide (r.word = "write")
def goneB (rs : List Rec) (a : Nat) (r : Rec) (k : Nat) : Bool := decide (a ≤ k) && (picB r && struck rs r.page k)
def gone (rs : List Rec) (a : Nat) : List Nat := (List.range rs.length).filter fun k => match rs[k]? with
  | some r => goneB rs a r k
  | none => false
theorem gone_up (rs : List Rec) (a : Nat) : (gone rs a).Pairwise (· < ·) := List.Pairwise.filter _ List.pairwise_lt_range
theorem any2 (w : Str) : ([PyData.str "keep", PyData.str "write"].any fun y => PyData.eqv y (.str w)) = (decide (w = "keep") || decide (w = "write")) := by
  show (PyData.eqv (.str "keep") (.str w) || (PyData.eqv (.str "write") (.str w) || false)) = _
  have sw : ∀ a : Str, decide (a = w) = decide (w = a) := fun a => decide_eq_decide.mpr ⟨Eq.symm, Eq.symm⟩
  rw [eqvS, eqvS, sw, sw, Bool.or_false]
abbrev putT (rs : List Rec) (a : Nat) (p : Str) : D := .tuple [.str p, putD rs a p]
section
variable {S : Sto} {rs : List Rec}
theorem t_putsin (n : Nat) (hl : Log rs) (hf : Fine rs) (h1 : rs.length < 4000) (h2 : (onceS (rs.map Rec.page)).length < 64) {a : Nat} (ha : a ≤ rs.length) : callN fns (n + 8) i_puts_in [.d (.tuple (rs.map Rec.enc)), .d (.int (a : Int))] S = some (.d (.tuple (((sortS (onceS (rs.map Rec.page))).filter fun p => (putI rs a p).isSome).map (putT rs a))), S) := by
  have hn : rs.length < sizeLine := Nat.lt_of_lt_of_le h1 (by decide)
  have hl2 : (sortS (onceS (rs.map Rec.page))).length ≤ sizeLine := by rw [(sortS_perm _).length_eq]; exact Nat.le_trans (Nat.le_of_lt h2) (by decide)
  have e1 := t_needpoint n S hl hf hn ha
  have e2 := t_pagestold (n + 5) S h1 h2
  refine WC.eq (c_puts_in ?_)
  nofun
  refine loop_every (putT rs a) hl2 (fun p _ => ?_) ?_
  · have e3 := t_puttold (S := S) (n + 3) hn a p
    refine turn_eq rfl ?_
    nofun
    exact ⟨_, rfl, rfl, rfl⟩
  · nofun
    refine loop_filter (fun p => (putI rs a p).isSome) (putT rs a) hl2 (fun p _ => ?_) ?_
    · refine turn_eq rfl ?_
      cases hq : putI rs a p with
      | none =>
        unfold putT
        rw [put_none hq]
        nofun
        exact ⟨rfl, rfl⟩
      | some k =>
        obtain ⟨v, hv⟩ := put_some hq
        unfold putT
        rw [hv]
        nofun
        exact ⟨_, rfl, rfl, rfl⟩
    · nofun
      exact ⟨rfl, rfl⟩
theorem t_struckin (n : Nat) (hl : Log rs) (hf : Fine rs) (h1 : rs.length < 64) {a : Nat} (ha : a ≤ rs.length) : callN fns (n + 8) i_struck_in [.d (.tuple (rs.map Rec.enc)), .d (.int (a : Int))] S = some (.d (.tuple ((gone rs a).map natD)), S) := by
  have hn : rs.length < sizeLine := Nat.lt_of_lt_of_le h1 (by decide)
  have hg : (gone rs a).length < 64 := Nat.lt_of_le_of_lt (List.length_filter_le _ _) (by rw [List.length_range]; exact h1)
  have e1 := t_needpoint n S hl hf hn ha
  have e2 := t_ascI (n + 6) S (gone_up rs a) hg
  refine WC.eq (c_struck_in ?_)
  nofun
  rw [enum_map]
  refine loop_filter (fun q => goneB rs a q.1 q.2) (fun q => .int (q.2 : Int)) (by rw [List.length_zipIdx]; omega) (fun q hq => ?_) ?_
  · have hr := List.mem_zipIdx_iff_getElem?.mp hq
    have e3 := t_isstruck (S := S) (n + 5) hn hr
    refine turn_eq rfl ?_
    nofun
    all_goals first
      | refine ⟨_, rfl, ?_, rfl⟩
      | refine ⟨?_, rfl⟩
    all_goals ((try simp only [any2] at *); unfold goneB picB; simp_all; try omega)
  · have : ((rs.zipIdx.filter fun q => goneB rs a q.1 q.2).map fun q => PyData.int (q.2 : Int)) = (gone rs a).map natD := by
      have z := zip_filter (goneB rs a) rs 0
      unfold gone
      rw [List.range_eq_range']
      rw [show ((rs.zipIdx.filter fun q => goneB rs a q.1 q.2).map fun q => PyData.int (q.2 : Int)) = ((rs.zipIdx.filter fun q => goneB rs a q.1 q.2).map (·.2)).map natD by rw [List.map_map]; rfl, z]
      rfl
    rw [this]
    nofun
    exact ⟨rfl, rfl⟩
end
end PL.W
end
section
set_option maxHeartbeats 4000000
open PL PySem PySem.Spec PyProof.Rows L2
local macro_rules | `(tactic| contradiction) => `(tactic| (first
  | with_reducible refine ws_asg ?_ | with_reducible refine ws_asgL ?_ | with_reducible refine ws_par ?_ | with_reducible refine ws_parC ?_ | with_reducible refine ws_unp ?_ | with_reducible refine ws_dset ?_
  | with_reducible refine ws_expr ?_ | with_reducible refine ws_ret ?_ | with_reducible refine ws_ret0 ?_ | with_reducible refine ws_pass ?_ | with_reducible refine ws_brk ?_ | with_reducible refine ws_cont ?_ | with_reducible refine ws_if ?_ | with_reducible refine ws_for ?_ | with_reducible refine ws_nil ?_
  | with_reducible refine we_int ?_ | with_reducible refine we_str ?_ | with_reducible refine we_bl ?_ | with_reducible refine we_non ?_ | with_reducible refine we_gd ?_
  | ((with_reducible apply we_loc); rfl)
  | with_reducible refine we_bin ?_ | with_reducible refine we_cmp ?_ | with_reducible refine we_cmp2 ?_ | with_reducible refine we_bop ?_ | with_reducible refine wb_nil ?_ | with_reducible refine wb_cons ?_ | with_reducible refine we_not ?_ | with_reducible refine we_neg ?_ | with_reducible refine we_ite ?_
  | with_reducible refine we_tup ?_ | with_reducible refine we_lst ?_ | with_reducible refine we_lstR ?_ | with_reducible refine we_dic0 ?_ | with_reducible refine we_dic ?_ | with_reducible refine we_ix ?_ | with_reducible refine we_sl ?_ | with_reducible refine wo_no ?_ | with_reducible refine wo_so ?_
  | with_reducible refine we_bi ?_ | with_reducible refine we_isi ?_ | with_reducible refine we_call ?_ | with_reducible refine we_callK ?_ | with_reducible refine we_comp ?_ | with_reducible refine we_compR ?_ | with_reducible refine we_get2 ?_ | with_reducible refine we_app ?_ | with_reducible refine we_ext ?_ | with_reducible refine we_join ?_
  | with_reducible refine we_gget2 ?_ | with_reducible refine we_gget ?_ | with_reducible refine we_gix ?_ | with_reducible refine we_gin ?_ | with_reducible refine we_sset ?_ | with_reducible refine we_sortd ?_ | with_reducible refine we_dcopy ?_ | with_reducible refine we_rev ?_ | with_reducible refine we_reprL ?_ | ((with_reducible apply lfV); rfl; exact Nat.le_of_ble_eq_true rfl) | with_reducible refine wes_nil ?_ | with_reducible refine wes_cons ?_ | with_reducible refine wt_nil ?_ | with_reducible refine wt_one ?_
  | with_reducible refine wi_rng ?_ | with_reducible refine wi_rng2 ?_ | with_reducible refine wi_zip ?_ | with_reducible refine wi_enm ?_ | with_reducible refine wi_seq ?_
  | with_reducible refine then_nx ?_ | with_reducible refine then_bk ?_ | with_reducible refine then_ct ?_ | with_reducible refine then_rt ?_ | with_reducible refine qf_same ?_ | with_reducible refine qf_app ?_ | ((with_reducible apply qf_cons); rfl) | ((with_reducible apply qf_consA); rfl) | with_reducible refine qf_ref ?_ | with_reducible refine qf_d ?_ | with_reducible refine qf_nxS ?_ | with_reducible refine qf_nxA ?_ | with_reducible refine qf_nx ?_
  | ((with_reducible apply wk_eq); with_reducible assumption)
  | (with_reducible refine limp (fun hb => ?_) (fun hb => ?_) <;> (first | (cases hb; done) | (simp only [Bool.not_false, Bool.not_true, Bool.true_eq_false, Bool.false_eq_true, reduceCtorEq] at hb; done) | cases hb | ((try simp only [Bool.not_false, Bool.not_true] at hb); (try rw [hb]))))
  | with_reducible refine lf_add ?_ | with_reducible refine lf_sub ?_ | ((with_reducible apply lf_mod); (first | assumption | decide)) | ((with_reducible apply lf_div); (first | assumption | decide)) | with_reducible refine lf_lt ?_ | with_reducible refine lf_le ?_ | with_reducible refine lf_gt ?_ | with_reducible refine lf_ge ?_ | with_reducible refine lf_eqI ?_ | with_reducible refine lf_neI ?_ | with_reducible refine lf_eqSame ?_ | with_reducible refine lf_neSame ?_ | with_reducible refine lf_eqS ?_ | with_reducible refine lf_neS ?_
  | with_reducible refine lf_isN ?_ | with_reducible refine lf_isI ?_ | with_reducible refine lf_isnN ?_ | with_reducible refine lf_isnI ?_ | with_reducible refine lf_tb ?_ | with_reducible refine lf_tl ?_ | with_reducible refine lf_tt ?_ | with_reducible refine lf_int ?_ | with_reducible refine lf_lenL ?_ | with_reducible refine lf_lenT ?_ | ((with_reducible apply lf_lenS); assumption) | with_reducible refine lf_tupL ?_ | with_reducible refine lf_tupT ?_ | with_reducible refine lf_listL ?_ | with_reducible refine lf_listT ?_ | with_reducible refine lf_view ?_ | with_reducible refine lf_in2 ?_ | with_reducible refine lf_in3 ?_ | with_reducible refine lf_inM ?_ | with_reducible refine lf_ix0T ?_ | with_reducible refine lf_ix1T ?_ | with_reducible refine lf_ix2T ?_ | with_reducible refine lf_sl1 ?_ | with_reducible refine lf_slL ?_ | with_reducible refine lf_slT ?_
  | ((with_reducible apply lf_pow); decide) | with_reducible refine lf_mul ?_ ?_ | with_reducible refine lf_pow ?_ ?_ | ((with_reducible apply lf_addT); exact Nat.le_of_ble_eq_true rfl) | ((with_reducible apply lf_addL); exact Nat.le_of_ble_eq_true rfl) | with_reducible refine lf_addT ?_ ?_ | with_reducible refine lf_addL ?_ ?_
  | ((with_reducible apply lf2); rfl; rfl) | ((with_reducible apply lf3); rfl; exact Nat.le_of_ble_eq_true rfl) | ((with_reducible apply lf4); rfl; decide) | ((with_reducible apply lfU); rfl; rfl)
  | with_reducible refine ls_l ?_ | with_reducible refine ls_t ?_ | with_reducible refine ls_s ?_ | ((with_reducible apply ls_r); rfl) | with_reducible refine le_l ?_ | with_reducible refine le_t ?_ | with_reducible refine le_s ?_ | with_reducible refine lz_l ?_ | with_reducible refine lz_t ?_
  | ((with_reducible apply lfR); (first | decide | omega)) | ((with_reducible apply lfR2); (first | decide | omega)) | with_reducible refine lfI ?_
  | ((with_reducible apply lf); rfl) | ((with_reducible apply lfB); rfl) | ((with_reducible apply land); rfl)))
local macro_rules | `(tactic| nofun) => `(tactic| repeat' contradiction)
local macro_rules | `(tactic| contradiction) => `(tactic| first | with_reducible refine lf (PL.W.rec_ix0 _ _) ?_ | with_reducible refine lf (PL.W.rec_ix1 _ _) ?_)
namespace PL.W
open PySem PySem.Spec PyProof.Rows L2 PL
theorem page_ok {z : Str} (h : pageB z = true) : PyData.strOk z = true ∧ z.length ≤ 8 := by
  unfold pageB at h
  simp only [Bool.and_eq_true, decide_eq_true_eq] at h
  refine ⟨?_, by have := h.1.2; omega⟩
  have h2 := h.2
  unfold PyData.strOk
  rw [← Array.all_toList, List.all_eq_true]
  intro c hc
  rw [List.all_eq_true] at h2
  have := h2 c hc
  have hm : c ∈ (("abcdefghijklmnopqrstuvwxyz" : Str).cps.toList) := of_decide_eq_true this
  have all : ∀ c ∈ (("abcdefghijklmnopqrstuvwxyz" : Str).cps.toList), decide (c < 0x110000) = true := by decide +kernel
  exact all c hm
theorem shaped_t {ds : List D} (h : PyData.canLayAll0 ds = true) (k : PyData.depthAll ds ≤ 63) : SeqAt.shaped (.tuple ds) = true := by
  unfold SeqAt.shaped
  rw [Bool.and_eq_true]
  exact ⟨by simpa [PyData.canLay0] using h, decide_eq_true (by simp only [PyData.depth]; omega)⟩
theorem words_ok : PyData.strOk "keep" = true ∧ PyData.strOk "write" = true ∧ PyData.strOk "plain" = true ∧ PyData.strOk "free" = true ∧ PyData.strOk "strike" = true := by decide +kernel
theorem enc_shaped {r : Rec} (h : PyData.strOk r.page = true) : SeqAt.shaped r.enc = true := by
  obtain ⟨w1, w2, w3, w4, w5⟩ := words_ok
  cases r <;> exact shaped_t (by simp only [Rec.page] at h; simp only [PyData.canLayAll0, PyData.canLay0, h, w1, w2, w3, w4, w5, Bool.and_self]) (by simp only [PyData.depthAll, PyData.depth]; omega)
theorem strike_eq {r : Rec} {p : Str} (hr : PyData.strOk r.page = true) (hp : PyData.strOk p = true) (S : Sto) : bin2 (gCmp .Eq) (.d r.enc) (.d (.tuple [.str "strike", .str p])) S = some (.bool (isOf p SW r)) := by
  have h1 := enc_shaped hr
  have h2 := enc_shaped (r := .strike p) hp
  have key : bin2 (gCmp .Eq) (.d r.enc) (.d (.tuple [.str "strike", .str p])) S = some (.bool (PyData.eqv r.enc (.tuple [.str "strike", .str p]))) := by
    show gEq r.enc (.tuple [.str "strike", .str p]) = _
    unfold gEq
    rw [if_pos (.inr ⟨h1, h2⟩)]
  rw [key]
  have sw : decide (("strike" : Str) ∈ SW) = true := by decide
  have ne : ∀ w : Str, decide (w = "strike") = false → ∀ (q : Str) (r : List D), PyData.eqv (.tuple (.str w :: .str q :: r)) (.tuple [.str "strike", .str p]) = false := fun w h q r => by
    show (PyData.eqv (.str w) (.str "strike") && _) = false
    rw [eqvS, h, Bool.false_and]
  cases r with
  | keep q n => rw [show isOf p SW (.keep q n) = (decide (q = p) && decide (("keep" : Str) ∈ SW)) from rfl, show decide (("keep" : Str) ∈ SW) = false by decide, Bool.and_false, show Rec.enc (.keep q n) = .tuple [.str "keep", .str q, .int n] from rfl, ne _ (by decide)]
  | write q n => rw [show isOf p SW (.write q n) = (decide (q = p) && decide (("write" : Str) ∈ SW)) from rfl, show decide (("write" : Str) ∈ SW) = false by decide, Bool.and_false, show Rec.enc (.write q n) = .tuple [.str "write", .str q, .int n] from rfl, ne _ (by decide)]
  | plain q n => rw [show isOf p SW (.plain q n) = (decide (q = p) && decide (("plain" : Str) ∈ SW)) from rfl, show decide (("plain" : Str) ∈ SW) = false by decide, Bool.and_false, show Rec.enc (.plain q n) = .tuple [.str "plain", .str q, .int n] from rfl, ne _ (by decide)]
  | free q => rw [show isOf p SW (.free q) = (decide (q = p) && decide (("free" : Str) ∈ SW)) from rfl, show decide (("free" : Str) ∈ SW) = false by decide, Bool.and_false, show Rec.enc (.free q) = .tuple [.str "free", .str q] from rfl, ne _ (by decide)]
  | strike q =>
    rw [show isOf p SW (.strike q) = (decide (q = p) && decide (("strike" : Str) ∈ SW)) from rfl, sw, Bool.and_true]
    show some (PyData.bool (PyData.eqv (.str "strike") (.str "strike") && (PyData.eqv (.str q) (.str p) && true))) = _
    rw [eqvS, eqvS, decide_eq_true rfl, Bool.true_and, Bool.and_true]
theorem lfRlen {xs : List D} {Q : Int → Prop} (h : xs.length < 2 ^ 62) (q : Q (xs.length : Int)) : ∃ j, R.d (.int (xs.length : Int)) = .d (.int j) ∧ (-(2 ^ 62) ≤ j ∧ j < 2 ^ 62) ∧ Q j := ⟨_, rfl, ⟨by omega, by omega⟩, q⟩
theorem lfR2len {a : Nat} {xs : List D} {Q : Int → Int → Prop} (ha : a ≤ xs.length) (h : xs.length < 2 ^ 62) (q : Q (a : Int) (xs.length : Int)) : ∃ k l, R.d (.int (a : Int)) = .d (.int k) ∧ R.d (.int (xs.length : Int)) = .d (.int l) ∧ (-(2 ^ 62) ≤ k ∧ k < 2 ^ 62 ∧ -(2 ^ 62) ≤ l ∧ l < 2 ^ 62) ∧ Q k l := ⟨_, _, rfl, rfl, ⟨by omega, by omega, by omega, by omega⟩, q⟩
theorem rng2_nat {a n : Nat} (h : a ≤ n) : rng2D (a : Int) (n : Int) = (List.range' a (n - a)).map natD := by
  unfold rng2D
  rw [List.range'_eq_map_range, List.map_map, show ((n : Int) - (a : Int)).toNat = n - a by omega]
  refine List.map_congr_left fun k _ => ?_
  show PyData.int ((a : Int) + (k : Int)) = PyData.int (((a + k : Nat) : Int))
  rw [Int.natCast_add]
theorem range_cut {a n : Nat} (h : a ≤ n) (f : Nat → Bool) : (List.range' a (n - a)).filter f = ((List.range n).filter f).filter fun j => decide (a ≤ j) := by
  have e : List.range n = List.range a ++ List.range' a (n - a) := by
    have := @List.range'_append_1 0 a (n - a)
    rw [Nat.zero_add] at this
    rw [List.range_eq_range', List.range_eq_range', this, show a + (n - a) = n by omega]
  rw [e, List.filter_append, List.filter_append]
  have h1 : (((List.range a).filter f).filter fun j => decide (a ≤ j)) = [] := List.filter_eq_nil_iff.mpr fun j hj => by
    have := List.mem_range.mp (List.mem_filter.mp hj).1
    simp only [decide_eq_true_eq]; omega
  have h2 : (((List.range' a (n - a)).filter f).filter fun j => decide (a ≤ j)) = (List.range' a (n - a)).filter f := List.filter_eq_self.mpr fun j hj => by
    have := (List.mem_range'_1.mp (List.mem_filter.mp hj).1).1
    exact decide_eq_true this
  rw [h1, h2, List.nil_append]
end PL.W
end
section
set_option maxHeartbeats 4000000
open PL PySem PySem.Spec PyProof.Rows L2
local macro_rules | `(tactic| contradiction) => `(tactic| (first
  | with_reducible refine ws_asg ?_ | with_reducible refine ws_asgL ?_ | with_reducible refine ws_par ?_ | with_reducible refine ws_parC ?_ | with_reducible refine ws_unp ?_ | with_reducible refine ws_dset ?_
  | with_reducible refine ws_expr ?_ | with_reducible refine ws_ret ?_ | with_reducible refine ws_ret0 ?_ | with_reducible refine ws_pass ?_ | with_reducible refine ws_brk ?_ | with_reducible refine ws_cont ?_ | with_reducible refine ws_if ?_ | with_reducible refine ws_for ?_ | with_reducible refine ws_nil ?_
  | with_reducible refine we_int ?_ | with_reducible refine we_str ?_ | with_reducible refine we_bl ?_ | with_reducible refine we_non ?_ | with_reducible refine we_gd ?_
  | ((with_reducible apply we_loc); rfl)
  | with_reducible refine we_bin ?_ | with_reducible refine we_cmp ?_ | with_reducible refine we_cmp2 ?_ | with_reducible refine we_bop ?_ | with_reducible refine wb_nil ?_ | with_reducible refine wb_cons ?_ | with_reducible refine we_not ?_ | with_reducible refine we_neg ?_ | with_reducible refine we_ite ?_
  | with_reducible refine we_tup ?_ | with_reducible refine we_lst ?_ | with_reducible refine we_lstR ?_ | with_reducible refine we_dic0 ?_ | with_reducible refine we_dic ?_ | with_reducible refine we_ix ?_ | with_reducible refine we_sl ?_ | with_reducible refine wo_no ?_ | with_reducible refine wo_so ?_
  | with_reducible refine we_bi ?_ | with_reducible refine we_isi ?_ | with_reducible refine we_call ?_ | with_reducible refine we_callK ?_ | with_reducible refine we_comp ?_ | with_reducible refine we_compR ?_ | with_reducible refine we_get2 ?_ | with_reducible refine we_app ?_ | with_reducible refine we_ext ?_ | with_reducible refine we_join ?_
  | with_reducible refine we_gget2 ?_ | with_reducible refine we_gget ?_ | with_reducible refine we_gix ?_ | with_reducible refine we_gin ?_ | with_reducible refine we_sset ?_ | with_reducible refine we_sortd ?_ | with_reducible refine we_dcopy ?_ | with_reducible refine we_rev ?_ | with_reducible refine we_reprL ?_ | ((with_reducible apply lfV); rfl; exact Nat.le_of_ble_eq_true rfl) | with_reducible refine wes_nil ?_ | with_reducible refine wes_cons ?_ | with_reducible refine wt_nil ?_ | with_reducible refine wt_one ?_
  | with_reducible refine wi_rng ?_ | with_reducible refine wi_rng2 ?_ | with_reducible refine wi_zip ?_ | with_reducible refine wi_enm ?_ | with_reducible refine wi_seq ?_
  | with_reducible refine then_nx ?_ | with_reducible refine then_bk ?_ | with_reducible refine then_ct ?_ | with_reducible refine then_rt ?_ | with_reducible refine qf_same ?_ | with_reducible refine qf_app ?_ | ((with_reducible apply qf_cons); rfl) | ((with_reducible apply qf_consA); rfl) | with_reducible refine qf_ref ?_ | with_reducible refine qf_d ?_ | with_reducible refine qf_nxS ?_ | with_reducible refine qf_nxA ?_ | with_reducible refine qf_nx ?_
  | ((with_reducible apply wk_eq); with_reducible assumption)
  | (with_reducible refine limp (fun hb => ?_) (fun hb => ?_) <;> (first | (cases hb; done) | (simp only [Bool.not_false, Bool.not_true, Bool.true_eq_false, Bool.false_eq_true, reduceCtorEq] at hb; done) | cases hb | ((try simp only [Bool.not_false, Bool.not_true] at hb); (try rw [hb]))))
  | with_reducible refine lf_add ?_ | with_reducible refine lf_sub ?_ | ((with_reducible apply lf_mod); (first | assumption | decide)) | ((with_reducible apply lf_div); (first | assumption | decide)) | with_reducible refine lf_lt ?_ | with_reducible refine lf_le ?_ | with_reducible refine lf_gt ?_ | with_reducible refine lf_ge ?_ | with_reducible refine lf_eqI ?_ | with_reducible refine lf_neI ?_ | with_reducible refine lf_eqSame ?_ | with_reducible refine lf_neSame ?_ | with_reducible refine lf_eqS ?_ | with_reducible refine lf_neS ?_
  | with_reducible refine lf_isN ?_ | with_reducible refine lf_isI ?_ | with_reducible refine lf_isnN ?_ | with_reducible refine lf_isnI ?_ | with_reducible refine lf_tb ?_ | with_reducible refine lf_tl ?_ | with_reducible refine lf_tt ?_ | with_reducible refine lf_int ?_ | with_reducible refine lf_lenL ?_ | with_reducible refine lf_lenT ?_ | ((with_reducible apply lf_lenS); assumption) | with_reducible refine lf_tupL ?_ | with_reducible refine lf_tupT ?_ | with_reducible refine lf_listL ?_ | with_reducible refine lf_listT ?_ | with_reducible refine lf_view ?_ | with_reducible refine lf_in2 ?_ | with_reducible refine lf_in3 ?_ | with_reducible refine lf_inM ?_ | with_reducible refine lf_ix0T ?_ | with_reducible refine lf_ix1T ?_ | with_reducible refine lf_ix2T ?_ | with_reducible refine lf_sl1 ?_ | with_reducible refine lf_slL ?_ | with_reducible refine lf_slT ?_
  | ((with_reducible apply lf_pow); decide) | with_reducible refine lf_mul ?_ ?_ | with_reducible refine lf_pow ?_ ?_ | ((with_reducible apply lf_addT); exact Nat.le_of_ble_eq_true rfl) | ((with_reducible apply lf_addL); exact Nat.le_of_ble_eq_true rfl) | with_reducible refine lf_addT ?_ ?_ | with_reducible refine lf_addL ?_ ?_
  | ((with_reducible apply lf2); rfl; rfl) | ((with_reducible apply lf3); rfl; exact Nat.le_of_ble_eq_true rfl) | ((with_reducible apply lf4); rfl; decide) | ((with_reducible apply lfU); rfl; rfl)
  | with_reducible refine ls_l ?_ | with_reducible refine ls_t ?_ | with_reducible refine ls_s ?_ | ((with_reducible apply ls_r); rfl) | with_reducible refine le_l ?_ | with_reducible refine le_t ?_ | with_reducible refine le_s ?_ | with_reducible refine lz_l ?_ | with_reducible refine lz_t ?_
  | ((with_reducible apply lfR); (first | decide | omega)) | ((with_reducible apply lfR2); (first | decide | omega)) | with_reducible refine lfI ?_
  | ((with_reducible apply lf); rfl) | ((with_reducible apply lfB); rfl) | ((with_reducible apply land); rfl)))
local macro_rules | `(tactic| nofun) => `(tactic| repeat' contradiction)
namespace PL.W
open PySem PySem.Spec PyProof.Rows L2 PL
theorem last_add (rs : List Rec) (r : Rec) (p : Str) (ws : List Str) : lastI (rs ++ [r]) p ws = if isOf p ws r = true then some rs.length else lastI rs p ws := by
  unfold lastI
  rw [List.zipIdx_append, List.filter_append, List.map_append]
  by_cases h : isOf p ws r = true
  · rw [if_pos h]
    simp [h]
  · rw [if_neg h]
    simp [h]
/-- what the last records tell of a page -/
structure Told (rs : List Rec) (p : Str) (o : Own) : Prop where
  turn : (lastI rs p ["keep", "plain", "free"] = none ∧ o.life = "free" ∧ o.owner = 0) ∨ ∃ k r, lastI rs p ["keep", "plain", "free"] = some k ∧ rs[k]? = some r ∧ ((∃ n, r = .keep p n ∧ o.life = "kept" ∧ o.owner = n) ∨ (∃ n, r = .plain p n ∧ o.life = "plain" ∧ o.owner = n) ∨ (r = .free p ∧ o.life = "free" ∧ o.owner = 0))
  due : (o.life = "kept" ∧ ∃ k r n, lastI rs p ["keep", "write"] = some k ∧ rs[k]? = some r ∧ (r = .keep p n ∨ r = .write p n) ∧ o.due = some n) ∨ (o.life ≠ "kept" ∧ o.due = none)
theorem get_add {rs : List Rec} {k : Nat} {r x : Rec} (h : rs[k]? = some r) : (rs ++ [x])[k]? = some r := by
  rw [List.getElem?_append_left (List.getElem?_eq_some_iff.mp h).1]; exact h
theorem get_new {rs : List Rec} {x : Rec} : (rs ++ [x])[rs.length]? = some x := by
  rw [List.getElem?_append_right (Nat.le_refl _), Nat.sub_self]; rfl
theorem told_add {rs : List Rec} {p : Str} {o : Own} {m : Int} (t : Told rs p o) (r : Rec) (hc : r.page = p → can o m r) : Told (rs ++ [r]) p (if p = r.page then step o r else o) := by
  by_cases hp : r.page = p
  · subst hp
    rw [if_pos rfl]
    have hc := hc rfl
    cases r with
    | keep p n =>
      refine ⟨.inr ⟨rs.length, _, by rw [last_add, if_pos (by simp [isOf, Rec.page, Rec.word])], get_new, .inl ⟨n, rfl, rfl, rfl⟩⟩, .inl ⟨rfl, rs.length, _, n, by rw [last_add, if_pos (by simp [isOf, Rec.page, Rec.word])], get_new, .inl rfl, rfl⟩⟩
    | plain p n =>
      refine ⟨.inr ⟨rs.length, _, by rw [last_add, if_pos (by simp [isOf, Rec.page, Rec.word])], get_new, .inr (.inl ⟨n, rfl, rfl, rfl⟩)⟩, .inr ⟨by show ("plain" : Str) ≠ "kept"; decide, rfl⟩⟩
    | free p =>
      refine ⟨.inr ⟨rs.length, _, by rw [last_add, if_pos (by simp [isOf, Rec.page, Rec.word])], get_new, .inr (.inr ⟨rfl, rfl, rfl⟩)⟩, .inr ⟨by show ("free" : Str) ≠ "kept"; decide, rfl⟩⟩
    | write p n =>
      have hn : isOf p ["keep", "plain", "free"] (.write p n) = false := by
        have : decide (("write" : Str) ∈ (["keep", "plain", "free"] : List Str)) = false := by decide
        show (decide (p = p) && decide (("write" : Str) ∈ (["keep", "plain", "free"] : List Str))) = false
        rw [this, Bool.and_false]
      refine ⟨?_, .inl ⟨hc.1, rs.length, _, n, by rw [last_add, if_pos (by simp [isOf, Rec.page, Rec.word])], get_new, .inr rfl, rfl⟩⟩
      rcases t.turn with ⟨h1, h2, h3⟩ | ⟨k, r, h1, h2, h3⟩
      · exact .inl ⟨by rw [last_add, show (Rec.write p n).page = p from rfl, hn]; exact h1, h2, h3⟩
      · exact .inr ⟨k, r, by rw [last_add, show (Rec.write p n).page = p from rfl, hn]; exact h1, get_add h2, h3⟩
    | strike p =>
      have hn : isOf p ["keep", "plain", "free"] (.strike p) = false := by
        have : decide (("strike" : Str) ∈ (["keep", "plain", "free"] : List Str)) = false := by decide
        show (decide (p = p) && decide (("strike" : Str) ∈ (["keep", "plain", "free"] : List Str))) = false
        rw [this, Bool.and_false]
      have hn2 : isOf p ["keep", "write"] (.strike p) = false := by
        have : decide (("strike" : Str) ∈ (["keep", "write"] : List Str)) = false := by decide
        show (decide (p = p) && decide (("strike" : Str) ∈ (["keep", "write"] : List Str))) = false
        rw [this, Bool.and_false]
      refine ⟨?_, ?_⟩
      · rcases t.turn with ⟨h1, h2, h3⟩ | ⟨k, r, h1, h2, h3⟩
        · exact .inl ⟨by rw [last_add, show (Rec.strike p).page = p from rfl, hn]; exact h1, h2, h3⟩
        · exact .inr ⟨k, r, by rw [last_add, show (Rec.strike p).page = p from rfl, hn]; exact h1, get_add h2, h3⟩
      · rcases t.due with ⟨h0, k, r, n, h1, h2, h3, h4⟩ | h
        · exact .inl ⟨h0, k, r, n, by rw [last_add, show (Rec.strike p).page = p from rfl, hn2]; exact h1, get_add h2, h3, h4⟩
        · exact .inr h
  · rw [if_neg (fun z => hp z.symm)]
    have hn : ∀ ws, isOf p ws r = false := fun ws => by unfold isOf; rw [decide_eq_false hp, Bool.false_and]
    refine ⟨?_, ?_⟩
    · rcases t.turn with ⟨h1, h2, h3⟩ | ⟨k, q, h1, h2, h3⟩
      · exact .inl ⟨by rw [last_add, hn]; exact h1, h2, h3⟩
      · exact .inr ⟨k, q, by rw [last_add, hn]; exact h1, get_add h2, h3⟩
    · rcases t.due with ⟨h0, k, q, n, h1, h2, h3, h4⟩ | h
      · exact .inl ⟨h0, k, q, n, by rw [last_add, hn]; exact h1, get_add h2, h3, h4⟩
      · exact .inr h
theorem told_from (p : Str) : ∀ (rs pre : List Rec) (st : Own') (m : Int), ok st m rs → Told pre p (st p) → Told (pre ++ rs) p (run st rs p)
  | [], pre, st, m, _, t => by rw [List.append_nil]; exact t
  | r :: rs, pre, st, m, h, t => by
    have e : pre ++ r :: rs = (pre ++ [r]) ++ rs := by simp
    rw [e]
    refine told_from p rs (pre ++ [r]) (upd1 st r) (numOf m r) h.2 ?_
    have := told_add t r (m := m) fun z => by rw [← z]; exact h.1
    exact this
theorem told {rs : List Rec} (h : Log rs) (p : Str) : Told rs p (run st0 rs p) := told_from p rs [] st0 0 h ⟨.inl ⟨rfl, rfl, rfl⟩, .inr ⟨by show ("free" : Str) ≠ "kept"; decide, rfl⟩⟩
end PL.W
end
section
set_option maxHeartbeats 4000000
open PL PySem PySem.Spec PyProof.Rows L2
local macro_rules | `(tactic| contradiction) => `(tactic| (first
  | with_reducible refine ws_asg ?_ | with_reducible refine ws_asgL ?_ | with_reducible refine ws_par ?_ | with_reducible refine ws_parC ?_ | with_reducible refine ws_unp ?_ | with_reducible refine ws_dset ?_
  | with_reducible refine ws_expr ?_ | with_reducible refine ws_ret ?_ | with_reducible refine ws_ret0 ?_ | with_reducible refine ws_pass ?_ | with_reducible refine ws_brk ?_ | with_reducible refine ws_cont ?_ | with_reducible refine ws_if ?_ | with_reducible refine ws_for ?_ | with_reducible refine ws_nil ?_
  | with_reducible refine we_int ?_ | with_reducible refine we_str ?_ | with_reducible refine we_bl ?_ | with_reducible refine we_non ?_ | with_reducible refine we_gd ?_
  | ((with_reducible apply we_loc); rfl)
  | with_reducible refine we_bin ?_ | with_reducible refine we_cmp ?_ | with_reducible refine we_cmp2 ?_ | with_reducible refine we_bop ?_ | with_reducible refine wb_nil ?_ | with_reducible refine wb_cons ?_ | with_reducible refine we_not ?_ | with_reducible refine we_neg ?_ | with_reducible refine we_ite ?_
  | with_reducible refine we_tup ?_ | with_reducible refine we_lst ?_ | with_reducible refine we_lstR ?_ | with_reducible refine we_dic0 ?_ | with_reducible refine we_dic ?_ | with_reducible refine we_ix ?_ | with_reducible refine we_sl ?_ | with_reducible refine wo_no ?_ | with_reducible refine wo_so ?_
  | with_reducible refine we_bi ?_ | with_reducible refine we_isi ?_ | with_reducible refine we_call ?_ | with_reducible refine we_callK ?_ | with_reducible refine we_comp ?_ | with_reducible refine we_compR ?_ | with_reducible refine we_get2 ?_ | with_reducible refine we_app ?_ | with_reducible refine we_ext ?_ | with_reducible refine we_join ?_
  | with_reducible refine we_gget2 ?_ | with_reducible refine we_gget ?_ | with_reducible refine we_gix ?_ | with_reducible refine we_gin ?_ | with_reducible refine we_sset ?_ | with_reducible refine we_sortd ?_ | with_reducible refine we_dcopy ?_ | with_reducible refine we_rev ?_ | with_reducible refine we_reprL ?_ | ((with_reducible apply lfV); rfl; exact Nat.le_of_ble_eq_true rfl) | with_reducible refine wes_nil ?_ | with_reducible refine wes_cons ?_ | with_reducible refine wt_nil ?_ | with_reducible refine wt_one ?_
  | with_reducible refine wi_rng ?_ | with_reducible refine wi_rng2 ?_ | with_reducible refine wi_zip ?_ | with_reducible refine wi_enm ?_ | with_reducible refine wi_seq ?_
  | with_reducible refine then_nx ?_ | with_reducible refine then_bk ?_ | with_reducible refine then_ct ?_ | with_reducible refine then_rt ?_ | with_reducible refine qf_same ?_ | with_reducible refine qf_app ?_ | ((with_reducible apply qf_cons); rfl) | ((with_reducible apply qf_consA); rfl) | with_reducible refine qf_ref ?_ | with_reducible refine qf_d ?_ | with_reducible refine qf_nxS ?_ | with_reducible refine qf_nxA ?_ | with_reducible refine qf_nx ?_
  | ((with_reducible apply wk_eq); with_reducible assumption)
  | (with_reducible refine limp (fun hb => ?_) (fun hb => ?_) <;> (first | (cases hb; done) | (simp only [Bool.not_false, Bool.not_true, Bool.true_eq_false, Bool.false_eq_true, reduceCtorEq] at hb; done) | cases hb | ((try simp only [Bool.not_false, Bool.not_true] at hb); (try rw [hb]))))
  | with_reducible refine lf_add ?_ | with_reducible refine lf_sub ?_ | ((with_reducible apply lf_mod); (first | assumption | decide)) | ((with_reducible apply lf_div); (first | assumption | decide)) | with_reducible refine lf_lt ?_ | with_reducible refine lf_le ?_ | with_reducible refine lf_gt ?_ | with_reducible refine lf_ge ?_ | with_reducible refine lf_eqI ?_ | with_reducible refine lf_neI ?_ | with_reducible refine lf_eqSame ?_ | with_reducible refine lf_neSame ?_ | with_reducible refine lf_eqS ?_ | with_reducible refine lf_neS ?_
  | with_reducible refine lf_isN ?_ | with_reducible refine lf_isI ?_ | with_reducible refine lf_isnN ?_ | with_reducible refine lf_isnI ?_ | with_reducible refine lf_tb ?_ | with_reducible refine lf_tl ?_ | with_reducible refine lf_tt ?_ | with_reducible refine lf_int ?_ | with_reducible refine lf_lenL ?_ | with_reducible refine lf_lenT ?_ | ((with_reducible apply lf_lenS); assumption) | with_reducible refine lf_tupL ?_ | with_reducible refine lf_tupT ?_ | with_reducible refine lf_listL ?_ | with_reducible refine lf_listT ?_ | with_reducible refine lf_view ?_ | with_reducible refine lf_in2 ?_ | with_reducible refine lf_in3 ?_ | with_reducible refine lf_inM ?_ | with_reducible refine lf_ix0T ?_ | with_reducible refine lf_ix1T ?_ | with_reducible refine lf_ix2T ?_ | with_reducible refine lf_sl1 ?_ | with_reducible refine lf_slL ?_ | with_reducible refine lf_slT ?_
  | ((with_reducible apply lf_pow); decide) | with_reducible refine lf_mul ?_ ?_ | with_reducible refine lf_pow ?_ ?_ | ((with_reducible apply lf_addT); exact Nat.le_of_ble_eq_true rfl) | ((with_reducible apply lf_addL); exact Nat.le_of_ble_eq_true rfl) | with_reducible refine lf_addT ?_ ?_ | with_reducible refine lf_addL ?_ ?_
  | ((with_reducible apply lf2); rfl; rfl) | ((with_reducible apply lf3); rfl; exact Nat.le_of_ble_eq_true rfl) | ((with_reducible apply lf4); rfl; decide) | ((with_reducible apply lfU); rfl; rfl)
  | with_reducible refine ls_l ?_ | with_reducible refine ls_t ?_ | with_reducible refine ls_s ?_ | ((with_reducible apply ls_r); rfl) | with_reducible refine le_l ?_ | with_reducible refine le_t ?_ | with_reducible refine le_s ?_ | with_reducible refine lz_l ?_ | with_reducible refine lz_t ?_
  | ((with_reducible apply lfR); (first | decide | omega)) | ((with_reducible apply lfR2); (first | decide | omega)) | with_reducible refine lfI ?_
  | ((with_reducible apply lf); rfl) | ((with_reducible apply lfB); rfl) | ((with_reducible apply land); rfl)))
local macro_rules | `(tactic| nofun) => `(tactic| repeat' contradiction)
local macro_rules | `(tactic| contradiction) => `(tactic| first | with_reducible refine lf (PL.W.rec_ix0 _ _) ?_ | with_reducible refine lf (PL.W.rec_ix1 _ _) ?_)
namespace PL.W
open PySem PySem.Spec PyProof.Rows L2 PL
section
variable {S : Sto} {rs : List Rec} {p : Str} {o : Own}
theorem t_life (n : Nat) (hn : rs.length < sizeLine) (t : Told rs p o) : callN fns (n + 2) i_life_told [.d (.tuple (rs.map Rec.enc)), .d (.str p)] S = some (.d (.str o.life), S) := by
  have e := t_last n S rs hn p ["keep", "plain", "free"]
  refine WC.eq (c_life_told ?_)
  nofun
  refine wk_eq e ?_
  rcases t.turn with ⟨h1, h2, h3⟩ | ⟨k, r, h1, h2, h3⟩
  · rw [h1]
    dsimp only [optI]
    nofun
    exact ⟨by rw [h2], rfl⟩
  · rw [h1]
    dsimp only [optI]
    nofun
    refine lf (rs_ix h2 S) ?_
    nofun
    rcases h3 with ⟨v, rfl, h4, _⟩ | ⟨v, rfl, h4, _⟩ | ⟨rfl, h4, _⟩ <;> (dsimp only [Rec.word]; nofun; exact ⟨by rw [h4], rfl⟩)
theorem t_owner (n : Nat) (hn : rs.length < sizeLine) (t : Told rs p o) : callN fns (n + 2) i_owner_told [.d (.tuple (rs.map Rec.enc)), .d (.str p)] S = some (.d (.int o.owner), S) := by
  have e := t_last n S rs hn p ["keep", "plain", "free"]
  refine WC.eq (c_owner_told ?_)
  nofun
  refine wk_eq e ?_
  rcases t.turn with ⟨h1, h2, h3⟩ | ⟨k, r, h1, h2, h3⟩
  · rw [h1]
    dsimp only [optI]
    nofun
    exact ⟨by rw [h3], rfl⟩
  · rw [h1]
    dsimp only [optI]
    nofun
    refine lf (rs_ix h2 S) ?_
    rcases h3 with ⟨v, rfl, _, h4⟩ | ⟨v, rfl, _, h4⟩ | ⟨rfl, _, h4⟩ <;> nofun
    all_goals first
      | exact ⟨by rw [h4], rfl⟩
      | (exfalso; rename_i hb; exact absurd hb (by decide))
      | skip
    all_goals (refine lf (rs_ix h2 S) ?_; nofun; exact ⟨by rw [h4], rfl⟩)
theorem t_due (n : Nat) (hn : rs.length < sizeLine) (t : Told rs p o) : callN fns (n + 3) i_due_told [.d (.tuple (rs.map Rec.enc)), .d (.str p)] S = some (.d (match o.due with | some v => .int v | none => .none), S) := by
  have e1 := t_life (S := S) n hn t
  have e := t_last (n + 1) S rs hn p ["keep", "write"]
  refine WC.eq (c_due_told ?_)
  rcases t.due with ⟨h0, k, r, v, h1, h2, h3, h4⟩ | ⟨h0, h4⟩
  · rw [h0] at e1
    nofun
    refine wk_eq e ?_
    rw [h1]
    dsimp only [optI]
    refine lf (rs_ix h2 S) ?_
    rcases h3 with rfl | rfl <;> (dsimp only [Rec.enc]; nofun; exact ⟨by rw [h4], rfl⟩)
  · nofun
    · exact ⟨by rw [h4], rfl⟩
    · exfalso
      rename_i hb
      rw [decide_eq_false h0] at hb
      cases hb
end
end PL.W
end
section
set_option maxHeartbeats 4000000
open PL PySem PySem.Spec PyProof.Rows L2
local macro_rules | `(tactic| contradiction) => `(tactic| (first
  | with_reducible refine ws_asg ?_ | with_reducible refine ws_asgL ?_ | with_reducible refine ws_par ?_ | with_reducible refine ws_parC ?_ | with_reducible refine ws_unp ?_ | with_reducible refine ws_dset ?_
  | with_reducible refine ws_expr ?_ | with_reducible refine ws_ret ?_ | with_reducible refine ws_ret0 ?_ | with_reducible refine ws_pass ?_ | with_reducible refine ws_brk ?_ | with_reducible refine ws_cont ?_ | with_reducible refine ws_if ?_ | with_reducible refine ws_for ?_ | with_reducible refine ws_nil ?_
  | with_reducible refine we_int ?_ | with_reducible refine we_str ?_ | with_reducible refine we_bl ?_ | with_reducible refine we_non ?_ | with_reducible refine we_gd ?_
  | ((with_reducible apply we_loc); rfl)
  | with_reducible refine we_bin ?_ | with_reducible refine we_cmp ?_ | with_reducible refine we_cmp2 ?_ | with_reducible refine we_bop ?_ | with_reducible refine wb_nil ?_ | with_reducible refine wb_cons ?_ | with_reducible refine we_not ?_ | with_reducible refine we_neg ?_ | with_reducible refine we_ite ?_
  | with_reducible refine we_tup ?_ | with_reducible refine we_lst ?_ | with_reducible refine we_lstR ?_ | with_reducible refine we_dic0 ?_ | with_reducible refine we_dic ?_ | with_reducible refine we_ix ?_ | with_reducible refine we_sl ?_ | with_reducible refine wo_no ?_ | with_reducible refine wo_so ?_
  | with_reducible refine we_bi ?_ | with_reducible refine we_isi ?_ | with_reducible refine we_call ?_ | with_reducible refine we_callK ?_ | with_reducible refine we_comp ?_ | with_reducible refine we_compR ?_ | with_reducible refine we_get2 ?_ | with_reducible refine we_app ?_ | with_reducible refine we_ext ?_ | with_reducible refine we_join ?_
  | with_reducible refine we_gget2 ?_ | with_reducible refine we_gget ?_ | with_reducible refine we_gix ?_ | with_reducible refine we_gin ?_ | with_reducible refine we_sset ?_ | with_reducible refine we_sortd ?_ | with_reducible refine we_dcopy ?_ | with_reducible refine we_rev ?_ | with_reducible refine we_reprL ?_ | ((with_reducible apply lfV); rfl; exact Nat.le_of_ble_eq_true rfl) | with_reducible refine wes_nil ?_ | with_reducible refine wes_cons ?_ | with_reducible refine wt_nil ?_ | with_reducible refine wt_one ?_
  | with_reducible refine wi_rng ?_ | with_reducible refine wi_rng2 ?_ | with_reducible refine wi_zip ?_ | with_reducible refine wi_enm ?_ | with_reducible refine wi_seq ?_
  | with_reducible refine then_nx ?_ | with_reducible refine then_bk ?_ | with_reducible refine then_ct ?_ | with_reducible refine then_rt ?_ | with_reducible refine qf_same ?_ | with_reducible refine qf_app ?_ | ((with_reducible apply qf_cons); rfl) | ((with_reducible apply qf_consA); rfl) | with_reducible refine qf_ref ?_ | with_reducible refine qf_d ?_ | with_reducible refine qf_nxS ?_ | with_reducible refine qf_nxA ?_ | with_reducible refine qf_nx ?_
  | ((with_reducible apply wk_eq); with_reducible assumption)
  | (with_reducible refine limp (fun hb => ?_) (fun hb => ?_) <;> (first | (cases hb; done) | (simp only [Bool.not_false, Bool.not_true, Bool.true_eq_false, Bool.false_eq_true, reduceCtorEq] at hb; done) | cases hb | ((try simp only [Bool.not_false, Bool.not_true] at hb); (try rw [hb]))))
  | with_reducible refine lf_add ?_ | with_reducible refine lf_sub ?_ | ((with_reducible apply lf_mod); (first | assumption | decide)) | ((with_reducible apply lf_div); (first | assumption | decide)) | with_reducible refine lf_lt ?_ | with_reducible refine lf_le ?_ | with_reducible refine lf_gt ?_ | with_reducible refine lf_ge ?_ | with_reducible refine lf_eqI ?_ | with_reducible refine lf_neI ?_ | with_reducible refine lf_eqSame ?_ | with_reducible refine lf_neSame ?_ | with_reducible refine lf_eqS ?_ | with_reducible refine lf_neS ?_
  | with_reducible refine lf_isN ?_ | with_reducible refine lf_isI ?_ | with_reducible refine lf_isnN ?_ | with_reducible refine lf_isnI ?_ | with_reducible refine lf_tb ?_ | with_reducible refine lf_tl ?_ | with_reducible refine lf_tt ?_ | with_reducible refine lf_int ?_ | with_reducible refine lf_lenL ?_ | with_reducible refine lf_lenT ?_ | ((with_reducible apply lf_lenS); assumption) | with_reducible refine lf_tupL ?_ | with_reducible refine lf_tupT ?_ | with_reducible refine lf_listL ?_ | with_reducible refine lf_listT ?_ | with_reducible refine lf_view ?_ | with_reducible refine lf_in2 ?_ | with_reducible refine lf_in3 ?_ | with_reducible refine lf_inM ?_ | with_reducible refine lf_ix0T ?_ | with_reducible refine lf_ix1T ?_ | with_reducible refine lf_ix2T ?_ | with_reducible refine lf_sl1 ?_ | with_reducible refine lf_slL ?_ | with_reducible refine lf_slT ?_
  | ((with_reducible apply lf_pow); decide) | with_reducible refine lf_mul ?_ ?_ | with_reducible refine lf_pow ?_ ?_ | ((with_reducible apply lf_addT); exact Nat.le_of_ble_eq_true rfl) | ((with_reducible apply lf_addL); exact Nat.le_of_ble_eq_true rfl) | with_reducible refine lf_addT ?_ ?_ | with_reducible refine lf_addL ?_ ?_
  | ((with_reducible apply lf2); rfl; rfl) | ((with_reducible apply lf3); rfl; exact Nat.le_of_ble_eq_true rfl) | ((with_reducible apply lf4); rfl; decide) | ((with_reducible apply lfU); rfl; rfl)
  | with_reducible refine ls_l ?_ | with_reducible refine ls_t ?_ | with_reducible refine ls_s ?_ | ((with_reducible apply ls_r); rfl) | with_reducible refine le_l ?_ | with_reducible refine le_t ?_ | with_reducible refine le_s ?_ | with_reducible refine lz_l ?_ | with_reducible refine lz_t ?_
  | ((with_reducible apply lfR); (first | decide | omega)) | ((with_reducible apply lfR2); (first | decide | omega)) | with_reducible refine lfI ?_
  | ((with_reducible apply lf); rfl) | ((with_reducible apply lfB); rfl) | ((with_reducible apply land); rfl)))
local macro_rules | `(tactic| nofun) => `(tactic| repeat' contradiction)
namespace PL.W
open PySem PySem.Spec PyProof.Rows L2 PL
theorem t_needpage (n : Nat) (S : Sto) {rs : List Rec} (hl : Log rs) (hf : Fine rs) (hn : rs.length < sizeLine) {p : Str} (hp : pageB p = true) : callN fns (n + 7) i_need_page [.d (.tuple (rs.map Rec.enc)), .d (.str p)] S = some (.d .none, S) := by
  have e1 := t_islog n S hl hf hn
  have e2 := t_need (n + 5) S "log"
  have e3 := t_page (n + 5) S p (page_len hp)
  rw [hp] at e3
  have e4 := t_need (n + 5) S "page"
  refine WC.eq (c_need_page ?_)
  nofun
  exact ⟨rfl, rfl⟩
/-! ### the last record of a sort -/
abbrev dueD (o : Own) : D := match o.due with | some v => .int v | none => .none
section
variable {S : Sto} {rs : List Rec} {p : Str} {o : Own}
theorem t_lifein (n : Nat) (hl : Log rs) (hf : Fine rs) (hn : rs.length < sizeLine) (hp : pageB p = true) (t : Told rs p o) : callN fns (n + 8) i_life_in [.d (.tuple (rs.map Rec.enc)), .d (.str p)] S = some (.d (.str o.life), S) := by
  have e1 := t_needpage n S hl hf hn hp
  have e2 := t_life (S := S) (n + 5) hn t
  refine WC.eq (c_life_in ?_)
  nofun
  exact ⟨rfl, rfl⟩
theorem t_ownerin (n : Nat) (hl : Log rs) (hf : Fine rs) (hn : rs.length < sizeLine) (hp : pageB p = true) (t : Told rs p o) : callN fns (n + 8) i_owner_in [.d (.tuple (rs.map Rec.enc)), .d (.str p)] S = some (.d (.int o.owner), S) := by
  have e1 := t_needpage n S hl hf hn hp
  have e2 := t_owner (S := S) (n + 5) hn t
  refine WC.eq (c_owner_in ?_)
  nofun
  exact ⟨rfl, rfl⟩
theorem t_duein (n : Nat) (hl : Log rs) (hf : Fine rs) (hn : rs.length < sizeLine) (hp : pageB p = true) (t : Told rs p o) : callN fns (n + 8) i_due_in [.d (.tuple (rs.map Rec.enc)), .d (.str p)] S = some (.d (dueD o), S) := by
  have e1 := t_needpage n S hl hf hn hp
  have e2 := t_due (S := S) (n + 4) hn t
  refine WC.eq (c_due_in ?_)
  nofun
  exact ⟨rfl, rfl⟩
end
abbrev encO (o : Own) : D := .tuple [.str o.life, .int o.owner, dueD o]
end PL.W
end
section
set_option maxHeartbeats 4000000
open PL PySem PySem.Spec PyProof.Rows L2
local macro_rules | `(tactic| left) => `(tactic| (first
  | with_reducible refine ws_asg ?_ | with_reducible refine ws_asgL ?_ | with_reducible refine ws_par ?_ | with_reducible refine ws_parC ?_ | with_reducible refine ws_unp ?_ | with_reducible refine ws_dset ?_
  | with_reducible refine ws_expr ?_ | with_reducible refine ws_ret ?_ | with_reducible refine ws_ret0 ?_ | with_reducible refine ws_pass ?_ | with_reducible refine ws_brk ?_ | with_reducible refine ws_cont ?_ | with_reducible refine ws_if ?_ | with_reducible refine ws_for ?_ | with_reducible refine ws_nil ?_
  | with_reducible refine we_int ?_ | with_reducible refine we_str ?_ | with_reducible refine we_bl ?_ | with_reducible refine we_non ?_ | with_reducible refine we_gd ?_
  | ((with_reducible apply we_loc); rfl)
  | with_reducible refine we_bin ?_ | with_reducible refine we_cmp ?_ | with_reducible refine we_cmp2 ?_ | with_reducible refine we_bop ?_ | with_reducible refine wb_nil ?_ | with_reducible refine wb_cons ?_ | with_reducible refine we_not ?_ | with_reducible refine we_neg ?_ | with_reducible refine we_ite ?_
  | with_reducible refine we_tup ?_ | with_reducible refine we_lst ?_ | with_reducible refine we_lstR ?_ | with_reducible refine we_dic0 ?_ | with_reducible refine we_dic ?_ | with_reducible refine we_ix ?_ | with_reducible refine we_sl ?_ | with_reducible refine wo_no ?_ | with_reducible refine wo_so ?_
  | with_reducible refine we_bi ?_ | with_reducible refine we_isi ?_ | with_reducible refine we_call ?_ | with_reducible refine we_callK ?_ | with_reducible refine we_comp ?_ | with_reducible refine we_compR ?_ | with_reducible refine we_get2 ?_ | with_reducible refine we_app ?_ | with_reducible refine we_ext ?_ | with_reducible refine we_join ?_
  | with_reducible refine we_gget2 ?_ | with_reducible refine we_gget ?_ | with_reducible refine we_gix ?_ | with_reducible refine we_gin ?_ | with_reducible refine we_sset ?_ | with_reducible refine we_sortd ?_ | with_reducible refine we_dcopy ?_ | with_reducible refine we_rev ?_ | with_reducible refine we_reprL ?_ | ((with_reducible apply lfV); rfl; exact Nat.le_of_ble_eq_true rfl) | with_reducible refine wes_nil ?_ | with_reducible refine wes_cons ?_ | with_reducible refine wt_nil ?_ | with_reducible refine wt_one ?_
  | with_reducible refine wi_rng ?_ | with_reducible refine wi_rng2 ?_ | with_reducible refine wi_zip ?_ | with_reducible refine wi_enm ?_ | with_reducible refine wi_seq ?_
  | with_reducible refine then_nx ?_ | with_reducible refine then_bk ?_ | with_reducible refine then_ct ?_ | with_reducible refine then_rt ?_ | with_reducible refine qf_same ?_ | with_reducible refine qf_app ?_ | ((with_reducible apply qf_cons); rfl) | ((with_reducible apply qf_consA); rfl) | with_reducible refine qf_ref ?_ | with_reducible refine qf_d ?_ | with_reducible refine qf_nxS ?_ | with_reducible refine qf_nxA ?_ | with_reducible refine qf_nx ?_
  | ((with_reducible apply wk_eq); with_reducible assumption)
  | (with_reducible refine limp (fun hb => ?_) (fun hb => ?_) <;> (first | (cases hb; done) | (simp only [Bool.not_false, Bool.not_true, Bool.true_eq_false, Bool.false_eq_true, reduceCtorEq] at hb; done) | cases hb | ((try simp only [Bool.not_false, Bool.not_true] at hb); (try rw [hb]))))
  | with_reducible refine lf_add ?_ | with_reducible refine lf_sub ?_ | ((with_reducible apply lf_mod); (first | assumption | decide)) | ((with_reducible apply lf_div); (first | assumption | decide)) | with_reducible refine lf_lt ?_ | with_reducible refine lf_le ?_ | with_reducible refine lf_gt ?_ | with_reducible refine lf_ge ?_ | with_reducible refine lf_eqI ?_ | with_reducible refine lf_neI ?_ | with_reducible refine lf_eqSame ?_ | with_reducible refine lf_neSame ?_ | with_reducible refine lf_eqS ?_ | with_reducible refine lf_neS ?_
  | with_reducible refine lf_isN ?_ | with_reducible refine lf_isI ?_ | with_reducible refine lf_isnN ?_ | with_reducible refine lf_isnI ?_ | with_reducible refine lf_tb ?_ | with_reducible refine lf_tl ?_ | with_reducible refine lf_tt ?_ | with_reducible refine lf_int ?_ | with_reducible refine lf_lenL ?_ | with_reducible refine lf_lenT ?_ | ((with_reducible apply lf_lenS); assumption) | with_reducible refine lf_tupL ?_ | with_reducible refine lf_tupT ?_ | with_reducible refine lf_listL ?_ | with_reducible refine lf_listT ?_ | with_reducible refine lf_view ?_ | with_reducible refine lf_in2 ?_ | with_reducible refine lf_in3 ?_ | with_reducible refine lf_inM ?_ | with_reducible refine lf_ix0T ?_ | with_reducible refine lf_ix1T ?_ | with_reducible refine lf_ix2T ?_ | with_reducible refine lf_sl1 ?_ | with_reducible refine lf_slL ?_ | with_reducible refine lf_slT ?_
  | ((with_reducible apply lf_pow); decide) | with_reducible refine lf_mul ?_ ?_ | with_reducible refine lf_pow ?_ ?_ | ((with_reducible apply lf_addT); exact Nat.le_of_ble_eq_true rfl) | ((with_reducible apply lf_addL); exact Nat.le_of_ble_eq_true rfl) | with_reducible refine lf_addT ?_ ?_ | with_reducible refine lf_addL ?_ ?_
  | ((with_reducible apply lf2); rfl; rfl) | ((with_reducible apply lf3); rfl; exact Nat.le_of_ble_eq_true rfl) | ((with_reducible apply lf4); rfl; decide) | ((with_reducible apply lfU); rfl; rfl)
  | with_reducible refine ls_l ?_ | with_reducible refine ls_t ?_ | with_reducible refine ls_s ?_ | ((with_reducible apply ls_r); rfl) | with_reducible refine le_l ?_ | with_reducible refine le_t ?_ | with_reducible refine le_s ?_ | with_reducible refine lz_l ?_ | with_reducible refine lz_t ?_
  | ((with_reducible apply lfR); (first | decide | omega)) | ((with_reducible apply lfR2); (first | decide | omega)) | with_reducible refine lfI ?_
  | ((with_reducible apply lf); rfl) | ((with_reducible apply lfB); rfl) | ((with_reducible apply land); rfl)))
local macro_rules | `(tactic| nofun) => `(tactic| repeat' left)
namespace PL.W
open PySem PySem.Spec PyProof.Rows L2 PL
theorem num_ge {o : Own} {m : Int} {r : Rec} (h : can o m r) : m ≤ numOf m r := by
  cases r with
  | keep p n => exact Int.le_of_lt h.2
  | write p n => exact Int.le_of_lt h.2
  | plain p n => exact Int.le_of_lt h.2
  | free p => exact Int.le_refl _
  | strike p => exact Int.le_refl _
/-- what is asked of a log -/
structure Ready (rs : List Rec) (all : List Str) : Prop where
  log : Log rs
  fine : Fine rs
  few : rs.length < 4000
  top : top 0 rs < 10 ^ 59 + 2
  pages : ∀ r ∈ rs, r.page ∈ all
theorem Ready.once {rs : List Rec} {all : List Str} (h : Ready rs all) (ha : all.length < 64) : (onceS (rs.map Rec.page)).length < 64 :=
  Nat.lt_of_le_of_lt (len_sub _ all (once_nodup _) fun x hx => by
    obtain ⟨r, hr, rfl⟩ := List.mem_map.mp ((once_mem _ _).mp hx)
    exact h.pages r hr) ha
def canX (o : Own) (m : Int) : Rec → Bool
  | .keep _ n => decide (o.life = "free") && decide (m < n)
  | .plain _ n => decide (o.life = "free") && decide (m < n)
  | .write _ n => decide (o.life = "kept") && decide (m < n)
  | .free _ => !decide (o.life = "free")
  | .strike _ => true
theorem canX_ok {o : Own} {m : Int} {r : Rec} (h : canX o m r = true) : can o m r := by
  cases r <;> simp [canX] at h <;> first | exact h | trivial
def okX (st : Own') (m : Int) : List Rec → Bool
  | [] => true
  | r :: rs => canX (st r.page) m r && okX (upd1 st r) (numOf m r) rs
theorem okX_ok : ∀ {rs : List Rec} {st : Own'} {m : Int}, okX st m rs = true → ok st m rs
  | [], _, _, _ => trivial
  | r :: rs, st, m, h => by
    have h : (canX (st r.page) m r && okX (upd1 st r) (numOf m r) rs) = true := h
    rw [Bool.and_eq_true] at h
    exact ⟨canX_ok h.1, okX_ok h.2⟩
theorem ready_of {rs : List Rec} {all : List Str} (h1 : okX st0 0 rs = true) (h2 : (rs.all fun r => pageB r.page && all.contains r.page) = true) (h3 : decide (rs.length < 4000) = true) (h4 : decide (top 0 rs < 10 ^ 59 + 2) = true) : Ready rs all := by
  rw [List.all_eq_true] at h2
  refine ⟨okX_ok h1, fun r hr => ?_, of_decide_eq_true h3, of_decide_eq_true h4, fun r hr => ?_⟩
  · have := h2 r hr; rw [Bool.and_eq_true] at this; exact this.1
  · have := h2 r hr; rw [Bool.and_eq_true] at this; exact List.contains_iff_mem.mp this.2
theorem pages_fine : ∀ ps ∈ PAGES, ps.length = 3 ∧ ∀ p ∈ ps, pageB p = true := by
  intro ps hp
  simp only [PAGES, List.mem_cons, List.not_mem_nil, or_false] at hp
  have k : ∀ ps : List Str, (ps.all fun p => pageB p) = true → ∀ p ∈ ps, pageB p = true := fun ps h => List.all_eq_true.mp h
  rcases hp with rfl | rfl | rfl | rfl | rfl | rfl <;> exact ⟨rfl, k _ (by decide +kernel)⟩
theorem enc_neat {r : Rec} {m : Int} (hp : pageB r.page = true) (h0 : 0 ≤ m) (h : numOf 0 r ≤ m) (h1 : 0 ≤ numOf 0 r) (hm : m < 10 ^ 59 + 2) : Neat 1 700 r.enc := by
  obtain ⟨a, b⟩ := page_ok hp
  have hs : Neat 0 200 (.str r.page) := neat_str a (by omega)
  have hw : Neat 0 200 (.str r.word) := by cases r <;> (dsimp only [Rec.word]; exact neat_str (by decide +kernel) (by decide +kernel))
  cases r <;> refine neat_tuple (k := 0) (w := 200) (fun d hd => ?_) (Nat.le_of_ble_eq_true rfl) <;> simp only [List.mem_cons, List.not_mem_nil, or_false] at hd
  · rcases hd with rfl | rfl | rfl
    · exact hw
    · exact hs
    · exact neat_int (by dsimp only [numOf] at h h1; omega)
  · rcases hd with rfl | rfl | rfl
    · exact hw
    · exact hs
    · exact neat_int (by dsimp only [numOf] at h h1; omega)
  · rcases hd with rfl | rfl | rfl
    · exact hw
    · exact hs
    · exact neat_int (by dsimp only [numOf] at h h1; omega)
  · rcases hd with rfl | rfl
    · exact hw
    · exact hs
  · rcases hd with rfl | rfl
    · exact hw
    · exact hs
theorem num_at : ∀ (rs : List Rec) (st : Own') (m : Int), 0 ≤ m → ok st m rs → ∀ r ∈ rs, 0 ≤ numOf 0 r ∧ numOf 0 r ≤ top m rs
  | [], _, _, _, _, _, h => by cases h
  | r :: rs, st, m, h0, h, x, hx => by
    have hg := num_ge h.1
    have ht : numOf m r ≤ top (numOf m r) rs := by
      have : ∀ (rs : List Rec) (st : Own') (m : Int), ok st m rs → m ≤ top m rs := fun rs => by
        induction rs with
        | nil => exact fun st m _ => Int.le_refl _
        | cons r rs ih => exact fun st m h => Int.le_trans (num_ge h.1) (ih _ _ h.2)
      exact this rs _ _ h.2
    rcases List.mem_cons.mp hx with rfl | hx
    · have h1 := h.1
      cases x with
      | keep p n => exact ⟨Int.le_trans h0 (Int.le_of_lt h1.2), ht⟩
      | write p n => exact ⟨Int.le_trans h0 (Int.le_of_lt h1.2), ht⟩
      | plain p n => exact ⟨Int.le_trans h0 (Int.le_of_lt h1.2), ht⟩
      | free p => exact ⟨Int.le_refl _, Int.le_trans h0 ht⟩
      | strike p => exact ⟨Int.le_refl _, Int.le_trans h0 ht⟩
    · exact num_at rs _ _ (Int.le_trans h0 hg) h.2 x hx
theorem Ready.neat {rs : List Rec} {all : List Str} (h : Ready rs all) (hl : rs.length ≤ 200) : Neat 2 150000 (.tuple (rs.map Rec.enc)) := by
  refine neat_tuple (k := 1) (w := 700) (fun d hd => ?_) (by rw [List.length_map]; omega)
  obtain ⟨r, hr, rfl⟩ := List.mem_map.mp hd
  have b := num_at rs st0 0 (Int.le_refl _) h.log r hr
  exact enc_neat (h.fine r hr) (Int.le_trans b.1 b.2) b.2 b.1 h.top
theorem num_top {rs : List Rec} {all : List Str} (h : Ready rs all) {r : Rec} (hr : r ∈ rs) {v : Int} (hv : numR r = .int v) : v.natAbs < 10 ^ 60 := by
  have b := num_at rs st0 0 (Int.le_refl _) h.log r hr
  have t := h.top
  have e : v = numOf 0 r := by cases r <;> simp only [numR, PyData.int.injEq, reduceCtorEq] at hv <;> exact hv.symm
  rw [← e] at b
  omega
theorem putD_neat {rs : List Rec} {all : List Str} (h : Ready rs all) (a : Nat) (p : Str) : Neat 0 200 (putD rs a p) := by
  cases hq : putI rs a p with
  | none => rw [put_none hq]; exact neat_none
  | some k =>
    obtain ⟨r, v, hr, _, hv, _⟩ := pic_rec (put_rec hq).1
    have ev : putD rs a p = .int v := by unfold putD; rw [hq]; dsimp only; rw [hr]; exact hv
    rw [ev]
    exact neat_int (num_top h (List.mem_of_getElem? hr) hv)
end PL.W
end
section
set_option maxHeartbeats 4000000
open PL PySem PySem.Spec PyProof.Rows L2
local macro_rules | `(tactic| left) => `(tactic| (first
  | with_reducible refine ws_asg ?_ | with_reducible refine ws_asgL ?_ | with_reducible refine ws_par ?_ | with_reducible refine ws_parC ?_ | with_reducible refine ws_unp ?_ | with_reducible refine ws_dset ?_
  | with_reducible refine ws_expr ?_ | with_reducible refine ws_ret ?_ | with_reducible refine ws_ret0 ?_ | with_reducible refine ws_pass ?_ | with_reducible refine ws_brk ?_ | with_reducible refine ws_cont ?_ | with_reducible refine ws_if ?_ | with_reducible refine ws_for ?_ | with_reducible refine ws_nil ?_
  | with_reducible refine we_int ?_ | with_reducible refine we_str ?_ | with_reducible refine we_bl ?_ | with_reducible refine we_non ?_ | with_reducible refine we_gd ?_
  | ((with_reducible apply we_loc); rfl)
  | with_reducible refine we_bin ?_ | with_reducible refine we_cmp ?_ | with_reducible refine we_cmp2 ?_ | with_reducible refine we_bop ?_ | with_reducible refine wb_nil ?_ | with_reducible refine wb_cons ?_ | with_reducible refine we_not ?_ | with_reducible refine we_neg ?_ | with_reducible refine we_ite ?_
  | with_reducible refine we_tup ?_ | with_reducible refine we_lst ?_ | with_reducible refine we_lstR ?_ | with_reducible refine we_dic0 ?_ | with_reducible refine we_dic ?_ | with_reducible refine we_ix ?_ | with_reducible refine we_sl ?_ | with_reducible refine wo_no ?_ | with_reducible refine wo_so ?_
  | with_reducible refine we_bi ?_ | with_reducible refine we_isi ?_ | with_reducible refine we_call ?_ | with_reducible refine we_callK ?_ | with_reducible refine we_comp ?_ | with_reducible refine we_compR ?_ | with_reducible refine we_get2 ?_ | with_reducible refine we_app ?_ | with_reducible refine we_ext ?_ | with_reducible refine we_join ?_
  | with_reducible refine we_gget2 ?_ | with_reducible refine we_gget ?_ | with_reducible refine we_gix ?_ | with_reducible refine we_gin ?_ | with_reducible refine we_sset ?_ | with_reducible refine we_sortd ?_ | with_reducible refine we_dcopy ?_ | with_reducible refine we_rev ?_ | with_reducible refine we_reprL ?_ | ((with_reducible apply lfV); rfl; exact Nat.le_of_ble_eq_true rfl) | with_reducible refine wes_nil ?_ | with_reducible refine wes_cons ?_ | with_reducible refine wt_nil ?_ | with_reducible refine wt_one ?_
  | with_reducible refine wi_rng ?_ | with_reducible refine wi_rng2 ?_ | with_reducible refine wi_zip ?_ | with_reducible refine wi_enm ?_ | with_reducible refine wi_seq ?_
  | with_reducible refine then_nx ?_ | with_reducible refine then_bk ?_ | with_reducible refine then_ct ?_ | with_reducible refine then_rt ?_ | with_reducible refine qf_same ?_ | with_reducible refine qf_app ?_ | ((with_reducible apply qf_cons); rfl) | ((with_reducible apply qf_consA); rfl) | with_reducible refine qf_ref ?_ | with_reducible refine qf_d ?_ | with_reducible refine qf_nxS ?_ | with_reducible refine qf_nxA ?_ | with_reducible refine qf_nx ?_
  | ((with_reducible apply wk_eq); with_reducible assumption)
  | (with_reducible refine limp (fun hb => ?_) (fun hb => ?_) <;> (first | (cases hb; done) | (simp only [Bool.not_false, Bool.not_true, Bool.true_eq_false, Bool.false_eq_true, reduceCtorEq] at hb; done) | cases hb | ((try simp only [Bool.not_false, Bool.not_true] at hb); (try rw [hb]))))
  | with_reducible refine lf_add ?_ | with_reducible refine lf_sub ?_ | ((with_reducible apply lf_mod); (first | assumption | decide)) | ((with_reducible apply lf_div); (first | assumption | decide)) | with_reducible refine lf_lt ?_ | with_reducible refine lf_le ?_ | with_reducible refine lf_gt ?_ | with_reducible refine lf_ge ?_ | with_reducible refine lf_eqI ?_ | with_reducible refine lf_neI ?_ | with_reducible refine lf_eqSame ?_ | with_reducible refine lf_neSame ?_ | with_reducible refine lf_eqS ?_ | with_reducible refine lf_neS ?_
  | with_reducible refine lf_isN ?_ | with_reducible refine lf_isI ?_ | with_reducible refine lf_isnN ?_ | with_reducible refine lf_isnI ?_ | with_reducible refine lf_tb ?_ | with_reducible refine lf_tl ?_ | with_reducible refine lf_tt ?_ | with_reducible refine lf_int ?_ | with_reducible refine lf_lenL ?_ | with_reducible refine lf_lenT ?_ | ((with_reducible apply lf_lenS); assumption) | with_reducible refine lf_tupL ?_ | with_reducible refine lf_tupT ?_ | with_reducible refine lf_listL ?_ | with_reducible refine lf_listT ?_ | with_reducible refine lf_view ?_ | with_reducible refine lf_in2 ?_ | with_reducible refine lf_in3 ?_ | with_reducible refine lf_inM ?_ | with_reducible refine lf_ix0T ?_ | with_reducible refine lf_ix1T ?_ | with_reducible refine lf_ix2T ?_ | with_reducible refine lf_sl1 ?_ | with_reducible refine lf_slL ?_ | with_reducible refine lf_slT ?_
  | ((with_reducible apply lf_pow); decide) | with_reducible refine lf_mul ?_ ?_ | with_reducible refine lf_pow ?_ ?_ | ((with_reducible apply lf_addT); exact Nat.le_of_ble_eq_true rfl) | ((with_reducible apply lf_addL); exact Nat.le_of_ble_eq_true rfl) | with_reducible refine lf_addT ?_ ?_ | with_reducible refine lf_addL ?_ ?_
  | ((with_reducible apply lf2); rfl; rfl) | ((with_reducible apply lf3); rfl; exact Nat.le_of_ble_eq_true rfl) | ((with_reducible apply lf4); rfl; decide) | ((with_reducible apply lfU); rfl; rfl)
  | with_reducible refine ls_l ?_ | with_reducible refine ls_t ?_ | with_reducible refine ls_s ?_ | ((with_reducible apply ls_r); rfl) | with_reducible refine le_l ?_ | with_reducible refine le_t ?_ | with_reducible refine le_s ?_ | with_reducible refine lz_l ?_ | with_reducible refine lz_t ?_
  | ((with_reducible apply lfR); (first | decide | omega)) | ((with_reducible apply lfR2); (first | decide | omega)) | with_reducible refine lfI ?_
  | ((with_reducible apply lf); rfl) | ((with_reducible apply lfB); rfl) | ((with_reducible apply land); rfl)))
local macro_rules | `(tactic| nofun) => `(tactic| repeat' left)
namespace PL.W
open PySem PySem.Spec PyProof.Rows L2 PL
def Bd (m : Int) (o : Own) : Prop := (0 ≤ o.owner ∧ o.owner ≤ m) ∧ ∀ v, o.due = some v → 0 ≤ v ∧ v ≤ m
theorem bd_step {o : Own} {m : Int} {r : Rec} (h0 : 0 ≤ m) (b : Bd m o) (h : can o m r) : Bd (numOf m r) (step o r) := by
  have hg := num_ge h
  obtain ⟨⟨b1, b2⟩, b3⟩ := b
  cases r with
  | keep p n => exact ⟨⟨Int.le_trans h0 hg, Int.le_refl _⟩, fun v hv => by cases hv; exact ⟨Int.le_trans h0 hg, Int.le_refl _⟩⟩
  | write p n => exact ⟨⟨b1, Int.le_trans b2 hg⟩, fun v hv => by cases hv; exact ⟨Int.le_trans h0 hg, Int.le_refl _⟩⟩
  | plain p n => exact ⟨⟨Int.le_trans h0 hg, Int.le_refl _⟩, fun v hv => by cases hv⟩
  | free p => exact ⟨⟨Int.le_refl _, h0⟩, fun v hv => by cases hv⟩
  | strike p => exact ⟨⟨b1, b2⟩, b3⟩
theorem Bd.mono {m m' : Int} {o : Own} (b : Bd m o) (h : m ≤ m') : Bd m' o := ⟨⟨b.1.1, Int.le_trans b.1.2 h⟩, fun v hv => ⟨(b.2 v hv).1, Int.le_trans (b.2 v hv).2 h⟩⟩
theorem bd_run : ∀ (rs : List Rec) (st : Own') (m : Int), 0 ≤ m → ok st m rs → (∀ p, Bd m (st p)) → (0 ≤ top m rs ∧ m ≤ top m rs) ∧ ∀ p, Bd (top m rs) (run st rs p)
  | [], st, m, h0, _, b => ⟨⟨h0, Int.le_refl _⟩, b⟩
  | r :: rs, st, m, h0, h, b => by
    have hg := num_ge h.1
    have ih := bd_run rs (upd1 st r) (numOf m r) (Int.le_trans h0 hg) h.2 fun p => by
      unfold upd1
      split
      · rename_i hp; exact bd_step h0 (b p) (hp ▸ h.1)
      · exact (b p).mono hg
    exact ⟨⟨ih.1.1, Int.le_trans hg ih.1.2⟩, ih.2⟩
theorem bd_log {rs : List Rec} (h : Log rs) (p : Str) : Bd (top 0 rs) (run st0 rs p) := (bd_run rs st0 0 (Int.le_refl _) h fun p => ⟨⟨Int.le_refl _, Int.le_refl _⟩, fun v hv => by cases hv⟩).2 p
theorem top_take {rs : List Rec} (h : Log rs) (j : Nat) : top 0 (rs.take j) ≤ top 0 rs := by
  have h' := h
  rw [← List.take_append_drop j rs] at h'
  have q := (ok_app _ _ _ _).mp h'
  have := (bd_run (rs.take j) st0 0 (Int.le_refl _) q.1 fun p => ⟨⟨Int.le_refl _, Int.le_refl _⟩, fun v hv => by cases hv⟩)
  have := (bd_run (rs.drop j) (run st0 (rs.take j)) (top 0 (rs.take j)) this.1.1 q.2 this.2).1.2
  rw [← top_app, List.take_append_drop] at this
  exact this
theorem life_neat {l : Str} (h : isLife l) : Neat 0 200 (.str l) := by
  rcases h with rfl | rfl | rfl <;> exact neat_str (by decide +kernel) (by decide)
theorem encO_neat {o : Own} {m : Int} (hl : isLife o.life) (b : Bd m o) (hm : m < 10 ^ 59 + 2) : Neat 1 700 (encO o) := by
  refine neat_tuple (k := 0) (w := 200) (fun d hd => ?_) (Nat.le_of_ble_eq_true rfl)
  simp only [List.mem_cons, List.not_mem_nil, or_false] at hd
  rcases hd with rfl | rfl | rfl
  · exact life_neat hl
  · exact neat_int (by have := b.1; omega)
  · unfold dueD
    cases hd : o.due with
    | none => exact neat_none
    | some v => exact neat_int (by have := b.2 v hd; omega)
end PL.W
end
section
set_option maxHeartbeats 4000000
open PL PySem PySem.Spec PyProof.Rows L2
local macro_rules | `(tactic| left) => `(tactic| (first
  | with_reducible refine ws_asg ?_ | with_reducible refine ws_asgL ?_ | with_reducible refine ws_par ?_ | with_reducible refine ws_parC ?_ | with_reducible refine ws_unp ?_ | with_reducible refine ws_dset ?_
  | with_reducible refine ws_expr ?_ | with_reducible refine ws_ret ?_ | with_reducible refine ws_ret0 ?_ | with_reducible refine ws_pass ?_ | with_reducible refine ws_brk ?_ | with_reducible refine ws_cont ?_ | with_reducible refine ws_if ?_ | with_reducible refine ws_for ?_ | with_reducible refine ws_nil ?_
  | with_reducible refine we_int ?_ | with_reducible refine we_str ?_ | with_reducible refine we_bl ?_ | with_reducible refine we_non ?_ | with_reducible refine we_gd ?_
  | ((with_reducible apply we_loc); rfl)
  | with_reducible refine we_bin ?_ | with_reducible refine we_cmp ?_ | with_reducible refine we_cmp2 ?_ | with_reducible refine we_bop ?_ | with_reducible refine wb_nil ?_ | with_reducible refine wb_cons ?_ | with_reducible refine we_not ?_ | with_reducible refine we_neg ?_ | with_reducible refine we_ite ?_
  | with_reducible refine we_tup ?_ | with_reducible refine we_lst ?_ | with_reducible refine we_lstR ?_ | with_reducible refine we_dic0 ?_ | with_reducible refine we_dic ?_ | with_reducible refine we_ix ?_ | with_reducible refine we_sl ?_ | with_reducible refine wo_no ?_ | with_reducible refine wo_so ?_
  | with_reducible refine we_bi ?_ | with_reducible refine we_isi ?_ | with_reducible refine we_call ?_ | with_reducible refine we_callK ?_ | with_reducible refine we_comp ?_ | with_reducible refine we_compR ?_ | with_reducible refine we_get2 ?_ | with_reducible refine we_app ?_ | with_reducible refine we_ext ?_ | with_reducible refine we_join ?_
  | with_reducible refine we_gget2 ?_ | with_reducible refine we_gget ?_ | with_reducible refine we_gix ?_ | with_reducible refine we_gin ?_ | with_reducible refine we_sset ?_ | with_reducible refine we_sortd ?_ | with_reducible refine we_dcopy ?_ | with_reducible refine we_dlist ?_ | with_reducible refine we_deq0 ?_ | with_reducible refine we_upd ?_ | with_reducible refine we_compd ?_ | with_reducible refine ws_ford ?_ | with_reducible refine we_rev ?_ | with_reducible refine we_reprL ?_ | ((with_reducible apply lfV); rfl; exact Nat.le_of_ble_eq_true rfl) | with_reducible refine wes_nil ?_ | with_reducible refine wes_cons ?_ | with_reducible refine wt_nil ?_ | with_reducible refine wt_one ?_
  | with_reducible refine wi_rng ?_ | with_reducible refine wi_rng2 ?_ | with_reducible refine wi_zip ?_ | with_reducible refine wi_enm ?_ | with_reducible refine wi_seq ?_
  | with_reducible refine then_nx ?_ | with_reducible refine then_bk ?_ | with_reducible refine then_ct ?_ | with_reducible refine then_rt ?_ | with_reducible refine qf_same ?_ | with_reducible refine qf_app ?_ | ((with_reducible apply qf_cons); rfl) | ((with_reducible apply qf_consA); rfl) | with_reducible refine qf_ref ?_ | with_reducible refine qf_d ?_ | with_reducible refine qf_nxS ?_ | with_reducible refine qf_nxA ?_ | with_reducible refine qf_nx ?_
  | ((with_reducible apply wk_eq); with_reducible assumption)
  | (with_reducible refine limp (fun hb => ?_) (fun hb => ?_) <;> (first | (cases hb; done) | (simp only [Bool.not_false, Bool.not_true, Bool.true_eq_false, Bool.false_eq_true, reduceCtorEq] at hb; done) | cases hb | ((try simp only [Bool.not_false, Bool.not_true] at hb); (try rw [hb]))))
  | with_reducible refine lf_add ?_ | with_reducible refine lf_sub ?_ | ((with_reducible apply lf_mod); (first | assumption | decide)) | ((with_reducible apply lf_div); (first | assumption | decide)) | with_reducible refine lf_lt ?_ | with_reducible refine lf_le ?_ | with_reducible refine lf_gt ?_ | with_reducible refine lf_ge ?_ | with_reducible refine lf_eqI ?_ | with_reducible refine lf_neI ?_ | with_reducible refine lf_eqSame ?_ | with_reducible refine lf_neSame ?_ | with_reducible refine lf_eqS ?_ | with_reducible refine lf_neS ?_
  | with_reducible refine lf_isN ?_ | with_reducible refine lf_isI ?_ | with_reducible refine lf_isnN ?_ | with_reducible refine lf_isnI ?_ | with_reducible refine lf_tb ?_ | with_reducible refine lf_tl ?_ | with_reducible refine lf_tt ?_ | with_reducible refine lf_int ?_ | with_reducible refine lf_lenL ?_ | with_reducible refine lf_lenT ?_ | ((with_reducible apply lf_lenS); assumption) | with_reducible refine lf_tupL ?_ | with_reducible refine lf_tupT ?_ | with_reducible refine lf_listL ?_ | with_reducible refine lf_listT ?_ | with_reducible refine lf_view ?_ | with_reducible refine lf_in2 ?_ | with_reducible refine lf_in3 ?_ | with_reducible refine lf_inM ?_ | with_reducible refine lf_ix0T ?_ | with_reducible refine lf_ix1T ?_ | with_reducible refine lf_ix2T ?_ | with_reducible refine lf_sl1 ?_ | with_reducible refine lf_slL ?_ | with_reducible refine lf_slT ?_
  | ((with_reducible apply lf_pow); decide) | with_reducible refine lf_mul ?_ ?_ | with_reducible refine lf_pow ?_ ?_ | ((with_reducible apply lf_addT); exact Nat.le_of_ble_eq_true rfl) | ((with_reducible apply lf_addL); exact Nat.le_of_ble_eq_true rfl) | with_reducible refine lf_addT ?_ ?_ | with_reducible refine lf_addL ?_ ?_
  | ((with_reducible apply lf2); rfl; rfl) | ((with_reducible apply lf3); rfl; exact Nat.le_of_ble_eq_true rfl) | ((with_reducible apply lf4); rfl; decide) | ((with_reducible apply lfU); rfl; rfl)
  | with_reducible refine ls_l ?_ | with_reducible refine ls_t ?_ | with_reducible refine ls_s ?_ | ((with_reducible apply ls_r); rfl) | with_reducible refine le_l ?_ | with_reducible refine le_t ?_ | with_reducible refine le_s ?_ | with_reducible refine lz_l ?_ | with_reducible refine lz_t ?_
  | ((with_reducible apply lfR); (first | decide | omega)) | ((with_reducible apply lfR2); (first | decide | omega)) | with_reducible refine lfI ?_
  | ((with_reducible apply lf); rfl) | ((with_reducible apply lfB); rfl) | ((with_reducible apply land); rfl)))
local macro_rules | `(tactic| nofun) => `(tactic| repeat' left)
namespace PL.W
open PySem PySem.Spec PyProof.Rows L2 PL
/-- a log with some of its strikes left out -/
inductive SubS : List Rec → List Rec → Prop
  | nil : SubS [] []
  | keep (r : Rec) {a b : List Rec} : SubS a b → SubS (r :: a) (r :: b)
  | drop (p : Str) {a b : List Rec} : SubS a b → SubS (.strike p :: a) b
theorem upd_strike (st : Own') (p : Str) : upd1 st (.strike p) = st := by
  funext q
  unfold upd1
  split <;> rfl
theorem SubS.ok {a b : List Rec} (h : SubS a b) : ∀ (st : Own') (m : Int), ok st m a → ok st m b ∧ run st b = run st a ∧ top m b = top m a := by
  induction h with
  | nil => exact fun _ _ h => ⟨h, rfl, rfl⟩
  | keep r h ih => exact fun st m q => ⟨⟨q.1, (ih (upd1 st r) (numOf m r) q.2).1⟩, (ih (upd1 st r) (numOf m r) q.2).2⟩
  | @drop p a b h ih =>
    intro st m q
    have q2 : PL.W.ok st m a := by have := q.2; rw [upd_strike] at this; exact this
    have x := ih st m q2
    refine ⟨x.1, x.2.1.trans ?_, x.2.2⟩
    show _ = run (upd1 st (.strike p)) _
    rw [upd_strike]
theorem SubS.len {a b : List Rec} (h : SubS a b) : b.length ≤ a.length := by
  induction h with
  | nil => exact Nat.le_refl _
  | keep r h ih => simp only [List.length_cons]; omega
  | drop p h ih => simp only [List.length_cons]; omega
theorem SubS.mem {a b : List Rec} (h : SubS a b) : ∀ r ∈ b, r ∈ a := by
  induction h with
  | nil => exact fun r h => h
  | keep r h ih =>
    intro x hx
    rcases List.mem_cons.mp hx with e | hx
    · rw [e]; exact List.mem_cons_self
    · exact List.mem_cons_of_mem _ (ih x hx)
  | drop p h ih => exact fun x hx => List.mem_cons_of_mem _ (ih x hx)
theorem SubS.filter {a b : List Rec} (h : SubS a b) (f : Rec → Bool) (hf : ∀ p, f (.strike p) = false) : b.filter f = a.filter f := by
  induction h with
  | nil => rfl
  | keep r h ih => rw [List.filter_cons, List.filter_cons, ih]
  | drop p h ih => rw [List.filter_cons, hf, if_neg Bool.false_ne_true]; exact ih
def notS (r : Rec) : Bool := !decide (r.word = "strike")
theorem bare_sub : ∀ rs : List Rec, SubS rs (rs.filter notS)
  | [] => .nil
  | r :: rs => by
    by_cases h : notS r = true
    · rw [List.filter_cons, if_pos h]; exact .keep r (bare_sub rs)
    · rw [List.filter_cons, if_neg h]
      cases r with
      | strike p => exact .drop p (bare_sub rs)
      | keep p n => exact absurd rfl h
      | write p n => exact absurd rfl h
      | plain p n => exact absurd rfl h
      | free p => exact absurd rfl h
theorem SubS.ready {a b : List Rec} {all : List Str} (h : SubS a b) (R : Ready a all) : Ready b all ∧ run st0 b = run st0 a := by
  obtain ⟨h1, h2, h3⟩ := h.ok st0 0 R.log
  exact ⟨⟨h1, fun r hr => R.fine r (h.mem r hr), Nat.lt_of_le_of_lt h.len R.few, by rw [h3]; exact R.top, fun r hr => R.pages r (h.mem r hr)⟩, h2⟩
theorem hits_add (rs : List Rec) (r : Rec) (p : Str) (ws : List Str) : hits (rs ++ [r]) p ws = hits rs p ws ++ (if isOf p ws r = true then [rs.length] else []) := by
  unfold hits
  rw [List.length_append, List.length_singleton, List.range_succ, List.filter_append]
  have e1 : (List.range rs.length).filter (hit (rs ++ [r]) p ws) = (List.range rs.length).filter (hit rs p ws) := List.filter_congr fun k hk => by
    rw [List.mem_range] at hk
    unfold hit
    rw [List.getElem?_append_left hk]
  have e2 : hit (rs ++ [r]) p ws rs.length = isOf p ws r := by unfold hit; rw [get_new]
  rw [e1, List.filter_cons, e2, List.filter_nil]
theorem hits_lt {rs : List Rec} {p : Str} {ws : List Str} {k : Nat} (h : k ∈ hits rs p ws) : k < rs.length := List.mem_range.mp (List.mem_filter.mp h).1
theorem pic_strike {p : Str} {r : Rec} (h : isOf p PW r = true) : isOf p SW r = false := by
  unfold isOf at h ⊢
  rw [Bool.and_eq_true] at h
  have h2 := of_decide_eq_true h.2
  have e : decide (r.word ∈ SW) = false := decide_eq_false fun q => by
    have : r.word = "strike" := by simpa using q
    rw [this] at h2
    exact absurd h2 (by decide)
  rw [e, Bool.and_false]
theorem put_snoc (rs : List Rec) (r : Rec) (p : Str) : putI (rs ++ [r]) 0 p = if isOf p PW r = true then some rs.length else if isOf p SW r = true then none else putI rs 0 p := by
  unfold putI struck
  rw [hits_add, hits_add]
  by_cases h1 : isOf p PW r = true
  · rw [if_pos h1, if_pos h1, pic_strike h1, if_neg Bool.false_ne_true, List.append_nil, List.getLast?_concat]
    dsimp only
    refine if_pos ⟨Nat.zero_le _, ?_⟩
    split
    · rename_i j hj
      have := hits_lt (List.mem_of_getLast? hj)
      exact decide_eq_false (by omega)
    · rfl
  · rw [if_neg h1, if_neg h1, List.append_nil]
    by_cases h2 : isOf p SW r = true
    · rw [if_pos h2, if_pos h2, List.getLast?_concat]
      dsimp only
      split
      · rename_i k hk
        have := hits_lt (List.mem_of_getLast? hk)
        exact if_neg fun q => by have := of_decide_eq_false q.2; omega
      · rfl
    · rw [if_neg h2, if_neg h2, List.append_nil]
def nums (rs : List Rec) (p : Str) : List D := (rs.filter (isOf p PW)).map numR
def lastN (rs : List Rec) (p : Str) : D := ((nums rs p).getLast?).getD .none
theorem putD_snoc (rs : List Rec) (r : Rec) (p : Str) : putD (rs ++ [r]) 0 p = if isOf p PW r = true then numR r else if isOf p SW r = true then .none else putD rs 0 p := by
  unfold putD
  rw [put_snoc]
  by_cases h1 : isOf p PW r = true
  · rw [if_pos h1, if_pos h1]; dsimp only; rw [get_new]
  · rw [if_neg h1, if_neg h1]
    by_cases h2 : isOf p SW r = true
    · rw [if_pos h2, if_pos h2]
    · rw [if_neg h2, if_neg h2]
      cases e : putI rs 0 p with
      | none => rfl
      | some k =>
        dsimp only
        have := (pic_rec (put_rec e).1)
        obtain ⟨q, n, hq, _⟩ := this
        rw [get_add hq, hq]
theorem lastN_snoc (rs : List Rec) (r : Rec) (p : Str) : lastN (rs ++ [r]) p = if isOf p PW r = true then numR r else lastN rs p := by
  unfold lastN nums
  rw [List.filter_append, List.map_append, List.filter_cons, List.filter_nil]
  by_cases h1 : isOf p PW r = true
  · rw [if_pos h1, if_pos h1, List.map_cons, List.map_nil, List.getLast?_concat]; rfl
  · rw [if_neg h1, if_neg h1, List.map_nil, List.append_nil]
theorem put_last (p : Str) : ∀ rs : List Rec, putD rs 0 p = .none ∨ putD rs 0 p = lastN rs p := by
  refine snoc_ind (.inl rfl) fun rs r ih => ?_
  rw [putD_snoc, lastN_snoc]
  by_cases h1 : isOf p PW r = true
  · rw [if_pos h1, if_pos h1]; exact .inr rfl
  · rw [if_neg h1, if_neg h1]
    by_cases h2 : isOf p SW r = true
    · rw [if_pos h2]; exact .inl rfl
    · rw [if_neg h2]; exact ih
theorem put_bare (p : Str) : ∀ rs : List Rec, (∀ r ∈ rs, notS r = true) → putD rs 0 p = lastN rs p := by
  refine snoc_ind (fun _ => rfl) fun rs r ih h => ?_
  rw [putD_snoc, lastN_snoc]
  by_cases h1 : isOf p PW r = true
  · rw [if_pos h1, if_pos h1]
  · rw [if_neg h1, if_neg h1]
    have h2 : ¬ isOf p SW r = true := fun q => by
      unfold isOf at q
      rw [Bool.and_eq_true] at q
      have : r.word = "strike" := by simpa using of_decide_eq_true q.2
      have h3 := h r (List.mem_append_right _ List.mem_cons_self)
      unfold notS at h3
      rw [this] at h3
      exact absurd h3 (by decide)
    rw [if_neg h2]
    exact ih fun x hx => h x (List.mem_append_left _ hx)
theorem lastN_sub {a b : List Rec} (h : SubS a b) (p : Str) : lastN b p = lastN a p := by
  unfold lastN nums
  rw [h.filter (isOf p PW) fun q => by show (decide (q = p) && decide (("strike" : Str) ∈ PW)) = false; rw [show decide (("strike" : Str) ∈ PW) = false by decide, Bool.and_false]]
theorem gone_bare {rs : List Rec} (h : ∀ r ∈ rs, notS r = true) : gone rs 0 = [] := by
  unfold gone
  refine List.filter_eq_nil_iff.mpr fun k hk => ?_
  split
  · rename_i r e
    have hs : hits rs r.page SW = [] := by
      unfold hits
      refine List.filter_eq_nil_iff.mpr fun j hj => ?_
      unfold hit
      split
      · rename_i q eq
        intro hq
        have hm : q ∈ rs := List.mem_of_getElem? eq
        have h3 := h q hm
        unfold isOf at hq
        rw [Bool.and_eq_true] at hq
        have : q.word = "strike" := by simpa using of_decide_eq_true hq.2
        unfold notS at h3
        rw [this] at h3
        exact absurd h3 (by decide)
      · exact Bool.false_ne_true
    unfold goneB struck
    rw [hs]
    simp
  · exact Bool.false_ne_true
abbrev KWS : List Str := ["keep", "write", "strike"]
def wrd (rs : List Rec) (p : Str) : List Str := (rs.filter (isOf p KWS)).map Rec.word
theorem isOf_kws (p : Str) (r : Rec) : isOf p KWS r = (isOf p PW r || isOf p SW r) := by
  unfold isOf
  by_cases h : r.page = p
  · rw [decide_eq_true h]
    simp only [Bool.true_and]
    by_cases a : r.word = "keep" <;> by_cases b : r.word = "write" <;> by_cases c : r.word = "strike" <;> simp [a, b, c]
  · rw [decide_eq_false h]; rfl
theorem none_iff (p : Str) : ∀ rs : List Rec, (putI rs 0 p).isNone = (((wrd rs p).filter fun (w : Str) => !decide (w = "strike")).isEmpty || decide ((wrd rs p).getLast? = some ("strike" : Str))) := by
  refine snoc_ind rfl fun rs r ih => ?_
  rw [put_snoc]
  have e : wrd (rs ++ [r]) p = wrd rs p ++ (if isOf p KWS r = true then [r.word] else []) := by
    unfold wrd
    rw [List.filter_append, List.map_append, List.filter_cons, List.filter_nil]
    by_cases h : isOf p KWS r = true
    · rw [if_pos h, if_pos h]; rfl
    · rw [if_neg h, if_neg h]; rfl
  rw [e]
  by_cases h1 : isOf p PW r = true
  · have hw : r.word ≠ "strike" := fun q => by
      have := pic_strike h1
      unfold isOf at h1 this
      rw [Bool.and_eq_true] at h1
      rw [h1.1, q] at this
      exact absurd this (by decide)
    rw [if_pos h1, isOf_kws, h1, Bool.true_or, if_pos rfl, List.filter_append, List.getLast?_concat]
    simp [hw]
  · rw [if_neg h1]
    by_cases h2 : isOf p SW r = true
    · have hw : r.word = "strike" := by
        unfold isOf at h2
        rw [Bool.and_eq_true] at h2
        simpa using of_decide_eq_true h2.2
      rw [if_pos h2, isOf_kws, h2, Bool.or_true, if_pos rfl, List.getLast?_concat, hw]
      simp
    · rw [if_neg h2, isOf_kws, if_neg (by simp only [Bool.or_eq_true]; exact fun q => q.elim h1 h2), List.append_nil]
      exact ih
theorem put_mono {rs : List Rec} {a b : Nat} {p : Str} {k : Nat} (h : b ≤ a) (e : putI rs a p = some k) : putI rs b p = some k := by
  unfold putI at e ⊢
  split at e
  · rename_i j hj
    split at e
    · rename_i c
      cases e
      exact if_pos ⟨by omega, c.2⟩
    · cases e
  · cases e
theorem put_over {rs : List Rec} {a : Nat} {p : Str} (h : rs.length ≤ a) : putI rs a p = none := by
  cases e : putI rs a p with
  | none => rfl
  | some k =>
    obtain ⟨h1, h2, _⟩ := put_rec e
    have := hits_lt (hits_mem.mpr h1)
    omega
theorem put_there {rs : List Rec} {a : Nat} {p : Str} {k : Nat} (e : putI rs a p = some k) : ∃ n : Int, putD rs a p = .int n ∧ (.keep p n ∈ rs.drop a ∨ .write p n ∈ rs.drop a) := by
  obtain ⟨h1, h2, _⟩ := put_rec e
  obtain ⟨r, n, hr, hp, hn, hd⟩ := pic_rec h1
  refine ⟨n, by unfold putD; rw [e]; dsimp only; rw [hr]; exact hn, ?_⟩
  have hm : r ∈ rs.drop a := by
    refine List.mem_of_getElem? (i := k - a) ?_
    rw [List.getElem?_drop, show a + (k - a) = k by omega]
    exact hr
  rcases hd with rfl | rfl
  · exact .inl hm
  · exact .inr hm
end PL.W
end
section
set_option maxHeartbeats 4000000
open PL PySem PySem.Spec PyProof.Rows L2
local macro_rules | `(tactic| left) => `(tactic| (first
  | with_reducible refine ws_asg ?_ | with_reducible refine ws_asgL ?_ | with_reducible refine ws_par ?_ | with_reducible refine ws_parC ?_ | with_reducible refine ws_unp ?_ | with_reducible refine ws_dset ?_
  | with_reducible refine ws_expr ?_ | with_reducible refine ws_ret ?_ | with_reducible refine ws_ret0 ?_ | with_reducible refine ws_pass ?_ | with_reducible refine ws_brk ?_ | with_reducible refine ws_cont ?_ | with_reducible refine ws_if ?_ | with_reducible refine ws_for ?_ | with_reducible refine ws_nil ?_
  | with_reducible refine we_int ?_ | with_reducible refine we_str ?_ | with_reducible refine we_bl ?_ | with_reducible refine we_non ?_ | with_reducible refine we_gd ?_
  | ((with_reducible apply we_loc); rfl)
  | with_reducible refine we_bin ?_ | with_reducible refine we_cmp ?_ | with_reducible refine we_cmp2 ?_ | with_reducible refine we_bop ?_ | with_reducible refine wb_nil ?_ | with_reducible refine wb_cons ?_ | with_reducible refine we_not ?_ | with_reducible refine we_neg ?_ | with_reducible refine we_ite ?_
  | with_reducible refine we_tup ?_ | with_reducible refine we_lst ?_ | with_reducible refine we_lstR ?_ | with_reducible refine we_dic0 ?_ | with_reducible refine we_dic ?_ | with_reducible refine we_ix ?_ | with_reducible refine we_sl ?_ | with_reducible refine wo_no ?_ | with_reducible refine wo_so ?_
  | with_reducible refine we_bi ?_ | with_reducible refine we_isi ?_ | with_reducible refine we_call ?_ | with_reducible refine we_callK ?_ | with_reducible refine we_comp ?_ | with_reducible refine we_compR ?_ | with_reducible refine we_get2 ?_ | with_reducible refine we_app ?_ | with_reducible refine we_ext ?_ | with_reducible refine we_join ?_
  | with_reducible refine we_gget2 ?_ | with_reducible refine we_gget ?_ | with_reducible refine we_gix ?_ | with_reducible refine we_gin ?_ | with_reducible refine we_sset ?_ | with_reducible refine we_sortd ?_ | with_reducible refine we_dcopy ?_ | with_reducible refine we_dlist ?_ | with_reducible refine we_deq0 ?_ | with_reducible refine we_upd ?_ | with_reducible refine we_compd ?_ | with_reducible refine ws_ford ?_ | with_reducible refine we_rev ?_ | with_reducible refine we_reprL ?_ | ((with_reducible apply lfV); rfl; exact Nat.le_of_ble_eq_true rfl) | with_reducible refine wes_nil ?_ | with_reducible refine wes_cons ?_ | with_reducible refine wt_nil ?_ | with_reducible refine wt_one ?_
  | with_reducible refine wi_rng ?_ | with_reducible refine wi_rng2 ?_ | with_reducible refine wi_zip ?_ | with_reducible refine wi_enm ?_ | with_reducible refine wi_seq ?_
  | with_reducible refine then_nx ?_ | with_reducible refine then_bk ?_ | with_reducible refine then_ct ?_ | with_reducible refine then_rt ?_ | with_reducible refine qf_same ?_ | with_reducible refine qf_app ?_ | ((with_reducible apply qf_cons); rfl) | ((with_reducible apply qf_consA); rfl) | with_reducible refine qf_ref ?_ | with_reducible refine qf_d ?_ | with_reducible refine qf_nxS ?_ | with_reducible refine qf_nxA ?_ | with_reducible refine qf_nx ?_
  | ((with_reducible apply wk_eq); with_reducible assumption)
  | (with_reducible refine limp (fun hb => ?_) (fun hb => ?_) <;> (first | (cases hb; done) | (simp only [Bool.not_false, Bool.not_true, Bool.true_eq_false, Bool.false_eq_true, reduceCtorEq] at hb; done) | cases hb | ((try simp only [Bool.not_false, Bool.not_true] at hb); (try rw [hb]))))
  | with_reducible refine lf_add ?_ | with_reducible refine lf_sub ?_ | ((with_reducible apply lf_mod); (first | assumption | decide)) | ((with_reducible apply lf_div); (first | assumption | decide)) | with_reducible refine lf_lt ?_ | with_reducible refine lf_le ?_ | with_reducible refine lf_gt ?_ | with_reducible refine lf_ge ?_ | with_reducible refine lf_eqI ?_ | with_reducible refine lf_neI ?_ | with_reducible refine lf_eqSame ?_ | with_reducible refine lf_neSame ?_ | with_reducible refine lf_eqS ?_ | with_reducible refine lf_neS ?_
  | with_reducible refine lf_isN ?_ | with_reducible refine lf_isI ?_ | with_reducible refine lf_isnN ?_ | with_reducible refine lf_isnI ?_ | with_reducible refine lf_tb ?_ | with_reducible refine lf_tl ?_ | with_reducible refine lf_tt ?_ | with_reducible refine lf_int ?_ | with_reducible refine lf_lenL ?_ | with_reducible refine lf_lenT ?_ | ((with_reducible apply lf_lenS); assumption) | with_reducible refine lf_tupL ?_ | with_reducible refine lf_tupT ?_ | with_reducible refine lf_listL ?_ | with_reducible refine lf_listT ?_ | with_reducible refine lf_view ?_ | with_reducible refine lf_in2 ?_ | with_reducible refine lf_in3 ?_ | with_reducible refine lf_inM ?_ | with_reducible refine lf_ix0T ?_ | with_reducible refine lf_ix1T ?_ | with_reducible refine lf_ix2T ?_ | with_reducible refine lf_sl1 ?_ | with_reducible refine lf_slL ?_ | with_reducible refine lf_slT ?_
  | ((with_reducible apply lf_pow); decide) | with_reducible refine lf_mul ?_ ?_ | with_reducible refine lf_pow ?_ ?_ | ((with_reducible apply lf_addT); exact Nat.le_of_ble_eq_true rfl) | ((with_reducible apply lf_addL); exact Nat.le_of_ble_eq_true rfl) | with_reducible refine lf_addT ?_ ?_ | with_reducible refine lf_addL ?_ ?_
  | ((with_reducible apply lf2); rfl; rfl) | ((with_reducible apply lf3); rfl; exact Nat.le_of_ble_eq_true rfl) | ((with_reducible apply lf4); rfl; decide) | ((with_reducible apply lfU); rfl; rfl)
  | with_reducible refine ls_l ?_ | with_reducible refine ls_t ?_ | with_reducible refine ls_s ?_ | ((with_reducible apply ls_r); rfl) | with_reducible refine le_l ?_ | with_reducible refine le_t ?_ | with_reducible refine le_s ?_ | with_reducible refine lz_l ?_ | with_reducible refine lz_t ?_
  | ((with_reducible apply lfR); (first | decide | omega)) | ((with_reducible apply lfR2); (first | decide | omega)) | with_reducible refine lfI ?_
  | ((with_reducible apply lf); rfl) | ((with_reducible apply lfB); rfl) | ((with_reducible apply land); rfl)))
local macro_rules | `(tactic| nofun) => `(tactic| repeat' left)
local macro_rules | `(tactic| left) => `(tactic| first | with_reducible refine lf (PL.W.rec_ix0 _ _) ?_ | with_reducible refine lf (PL.W.rec_ix1 _ _) ?_)
namespace PL.W
open PySem PySem.Spec PyProof.Rows L2 PL
theorem t_letslog (n : Nat) (S : Sto) {rs : List Rec} (hl : Log rs) (hf : Fine rs) (hn : rs.length < sizeLine) : callN fns (n + 6) i_lets_log [.d (.tuple (rs.map Rec.enc))] S = some (.d (.int (rs.length : Int)), S) := by
  have e := t_fault n S hl hf hn
  refine WC.eq (c_lets_log ?_)
  nofun
  exact ⟨by rw [List.length_map], rfl⟩
theorem t_less {r : Rec} {k : Int} {S : Sto} (n : Nat) (h : Sp [] k S) (hk : k < 2 ^ 38) (l1 : Option R) : ∃ o S', turn (callN fns (n + 1)) [2] (.one 2) (.cons (.bop false (.cmp .NotEq (.ix (.loc 2) (.int 0)) (.str "strike")) (.cons (.cmp .Eq (.call i_law_dip (.cons (.loc 0) (.cons (.int 2) .nil))) (.int 0)) .nil)) .nil) (.loc 2) [some (.ref 0), l1, none] r.enc S = some (o, S') ∧ Sp [] (k + 1) S' ∧ (o = some r.enc ∨ (o = none ∧ ∃ p, r = .strike p)) := by
  obtain ⟨v, S', v0, v1, e, h'⟩ := dipS n h (by omega) (m := 2) (by decide) (by decide)
  cases r with
  | strike p =>
    refine turn_of rfl ?_
    dsimp only [Rec.enc]
    nofun
    · exact ⟨_, rfl, h', .inl rfl⟩
    · exact ⟨h', .inr ⟨rfl, p, rfl⟩⟩
  | keep p m => refine turn_of rfl ?_; dsimp only [Rec.enc]; nofun; all_goals first | exact ⟨_, rfl, h.mono (k' := k + 1) (by omega), .inl rfl⟩ | (exfalso; rename_i hb _; exact absurd hb (by decide)) | (exfalso; rename_i hb; exact absurd hb (by decide)) | (exfalso; rename_i hb _ _; exact absurd hb (by decide))
  | write p m => refine turn_of rfl ?_; dsimp only [Rec.enc]; nofun; all_goals first | exact ⟨_, rfl, h.mono (k' := k + 1) (by omega), .inl rfl⟩ | (exfalso; rename_i hb _; exact absurd hb (by decide)) | (exfalso; rename_i hb; exact absurd hb (by decide)) | (exfalso; rename_i hb _ _; exact absurd hb (by decide))
  | plain p m => refine turn_of rfl ?_; dsimp only [Rec.enc]; nofun; all_goals first | exact ⟨_, rfl, h.mono (k' := k + 1) (by omega), .inl rfl⟩ | (exfalso; rename_i hb _; exact absurd hb (by decide)) | (exfalso; rename_i hb; exact absurd hb (by decide)) | (exfalso; rename_i hb _ _; exact absurd hb (by decide))
  | free p => refine turn_of rfl ?_; dsimp only [Rec.enc]; nofun; all_goals first | exact ⟨_, rfl, h.mono (k' := k + 1) (by omega), .inl rfl⟩ | (exfalso; rename_i hb _; exact absurd hb (by decide)) | (exfalso; rename_i hb; exact absurd hb (by decide)) | (exfalso; rename_i hb _ _; exact absurd hb (by decide))
theorem fewerS (n : Nat) {k : Int} {S : Sto} (h : Sp [] k S) (hk : k < 2 ^ 36) {rs : List Rec} (hn : rs.length ≤ 1000) : ∃ out S', callN fns (n + 2) i_law_fewer [.ref 0, .d (.tuple (rs.map Rec.enc))] S = some (.d (.tuple (out.map Rec.enc)), S') ∧ SubS rs out ∧ Sp [] (k + rs.length) S' := by
  have hz : (1000 : Nat) ≤ sizeLine := by decide
  obtain ⟨ys, S', e, ⟨out, rfl, hs⟩, h'⟩ := loop_rel (t := turn (callN fns (n + 1)) [2] (.one 2) (.cons (.bop false (.cmp .NotEq (.ix (.loc 2) (.int 0)) (.str "strike")) (.cons (.cmp .Eq (.call i_law_dip (.cons (.loc 0) (.cons (.int 2) .nil))) (.int 0)) .nil)) .nil) (.loc 2) [some (.ref 0), some (.d (.tuple (rs.map Rec.enc))), none]) (g := Rec.enc)
    (fun j S => Sp [] (k + j) S) (fun l ys => ∃ out : List Rec, ys = out.map Rec.enc ∧ SubS l out) ⟨[], rfl, .nil⟩ rs (fun r hr j S hj hS => by
      obtain ⟨o, S', e, h', ho⟩ := t_less (r := r) n hS (by omega) (some (.d (.tuple (rs.map Rec.enc))))
      refine ⟨o, S', e, h'.mono (by omega), ?_⟩
      rintro m ys ⟨out, rfl, hs⟩
      rcases ho with rfl | ⟨rfl, p, rfl⟩
      · exact ⟨r :: out, rfl, .keep r hs⟩
      · exact ⟨out, rfl, .drop p hs⟩) rs [] 0 S (fun _ h => h) (by omega) (by rw [List.length_nil]; omega) (by simpa using h)
  have h2 : Sp [] (k + rs.length) S' := by simpa using h'
  refine ⟨out, S', WC.eq (c_law_fewer ?_), hs, h2⟩
  nofun
  refine ⟨_, _, e, ?_⟩
  nofun
  exact ⟨_, h.cut h2, rfl, rfl⟩
/-! the words of a page -/
theorem nil_eqS {xs : List Str} {b : Bool} (hx : ∀ x ∈ xs, PyData.strOk x = true) (h : xs.isEmpty = b) (S : Sto) : bin2 (gCmp .Eq) (.d (.list (xs.map .str))) (.d (.list [])) S = some (.bool b) := by
  have hs : SeqAt.shaped (.list (xs.map PyData.str)) = true := by
    unfold SeqAt.shaped
    rw [Bool.and_eq_true]
    have e : ∀ l : List Str, (∀ x ∈ l, PyData.strOk x = true) → PyData.canLayAll0 (l.map PyData.str) = true ∧ PyData.depthAll (l.map PyData.str) = 0 := by
      intro l
      induction l with
      | nil => exact fun _ => ⟨rfl, by simp [PyData.depthAll]⟩
      | cons x l ih =>
        intro h
        obtain ⟨a, b⟩ := ih fun y hy => h y (List.mem_cons_of_mem _ hy)
        exact ⟨by simp [PyData.canLayAll0, PyData.canLay0, h x List.mem_cons_self, a], by simp [PyData.depthAll, PyData.depth, b]⟩
    obtain ⟨a, b⟩ := e xs hx
    exact ⟨by simpa [PyData.canLay0] using a, decide_eq_true (by simp only [PyData.depth]; omega)⟩
  subst h
  show gEq (.list (xs.map PyData.str)) (.list []) = _
  unfold gEq
  rw [if_pos (.inr ⟨hs, by decide +kernel⟩)]
  cases xs <;> rfl
theorem kws_ok {rs : List Rec} {p : Str} : ∀ w ∈ (wrd rs p), PyData.strOk w = true := by
  intro w hw
  obtain ⟨r, hr, rfl⟩ := List.mem_map.mp hw
  have h := (List.mem_filter.mp hr).2
  unfold isOf at h
  rw [Bool.and_eq_true] at h
  have := of_decide_eq_true h.2
  obtain ⟨w1, w2, _, _, w5⟩ := words_ok
  simp only [List.mem_cons, List.not_mem_nil, or_false] at this
  rcases this with e | e | e <;> rw [e] <;> assumption
theorem ne_same (b : Bool) (S : Sto) : bin2 (gCmp .NotEq) (.d (.bool b)) (.d (.bool b)) S = some (.bool false) := by cases b <;> rfl
theorem is_put {rs : List Rec} {a : Nat} {p : Str} (S : Sto) : bin2 (gCmp .Is) (.d (putD rs a p)) (.d .none) S = some (.bool (putI rs a p).isNone) := by
  cases e : putI rs a p with
  | none => rw [put_none e]; rfl
  | some k =>
    obtain ⟨m, hm⟩ := put_some e
    rw [hm]; rfl
end PL.W
end
section
set_option maxHeartbeats 4000000
open PL PySem PySem.Spec PyProof.Rows L2
local macro_rules | `(tactic| left) => `(tactic| (first
  | with_reducible refine ws_asg ?_ | with_reducible refine ws_asgL ?_ | with_reducible refine ws_par ?_ | with_reducible refine ws_parC ?_ | with_reducible refine ws_unp ?_ | with_reducible refine ws_dset ?_
  | with_reducible refine ws_expr ?_ | with_reducible refine ws_ret ?_ | with_reducible refine ws_ret0 ?_ | with_reducible refine ws_pass ?_ | with_reducible refine ws_brk ?_ | with_reducible refine ws_cont ?_ | with_reducible refine ws_if ?_ | with_reducible refine ws_for ?_ | with_reducible refine ws_nil ?_
  | with_reducible refine we_int ?_ | with_reducible refine we_str ?_ | with_reducible refine we_bl ?_ | with_reducible refine we_non ?_ | with_reducible refine we_gd ?_
  | ((with_reducible apply we_loc); rfl)
  | with_reducible refine we_bin ?_ | with_reducible refine we_cmp ?_ | with_reducible refine we_cmp2 ?_ | with_reducible refine we_bop ?_ | with_reducible refine wb_nil ?_ | with_reducible refine wb_cons ?_ | with_reducible refine we_not ?_ | with_reducible refine we_neg ?_ | with_reducible refine we_ite ?_
  | with_reducible refine we_tup ?_ | with_reducible refine we_lst ?_ | with_reducible refine we_lstR ?_ | with_reducible refine we_dic0 ?_ | with_reducible refine we_dic ?_ | with_reducible refine we_ix ?_ | with_reducible refine we_sl ?_ | with_reducible refine wo_no ?_ | with_reducible refine wo_so ?_
  | with_reducible refine we_bi ?_ | with_reducible refine we_isi ?_ | with_reducible refine we_call ?_ | with_reducible refine we_callK ?_ | with_reducible refine we_comp ?_ | with_reducible refine we_compR ?_ | with_reducible refine we_get2 ?_ | with_reducible refine we_app ?_ | with_reducible refine we_ext ?_ | with_reducible refine we_join ?_
  | with_reducible refine we_gget2 ?_ | with_reducible refine we_gget ?_ | with_reducible refine we_gix ?_ | with_reducible refine we_gin ?_ | with_reducible refine we_sset ?_ | with_reducible refine we_sortd ?_ | with_reducible refine we_dcopy ?_ | with_reducible refine we_dlist ?_ | with_reducible refine we_deq0 ?_ | with_reducible refine we_upd ?_ | with_reducible refine we_compd ?_ | with_reducible refine ws_ford ?_ | with_reducible refine we_rev ?_ | with_reducible refine we_reprL ?_ | ((with_reducible apply lfV); rfl; exact Nat.le_of_ble_eq_true rfl) | with_reducible refine wes_nil ?_ | with_reducible refine wes_cons ?_ | with_reducible refine wt_nil ?_ | with_reducible refine wt_one ?_
  | with_reducible refine wi_rng ?_ | with_reducible refine wi_rng2 ?_ | with_reducible refine wi_zip ?_ | with_reducible refine wi_enm ?_ | with_reducible refine wi_seq ?_
  | with_reducible refine then_nx ?_ | with_reducible refine then_bk ?_ | with_reducible refine then_ct ?_ | with_reducible refine then_rt ?_ | with_reducible refine qf_same ?_ | with_reducible refine qf_app ?_ | ((with_reducible apply qf_cons); rfl) | ((with_reducible apply qf_consA); rfl) | with_reducible refine qf_ref ?_ | with_reducible refine qf_d ?_ | with_reducible refine qf_nxS ?_ | with_reducible refine qf_nxA ?_ | with_reducible refine qf_nx ?_
  | ((with_reducible apply wk_eq); with_reducible assumption)
  | (with_reducible refine limp (fun hb => ?_) (fun hb => ?_) <;> (first | (cases hb; done) | (simp only [Bool.not_false, Bool.not_true, Bool.true_eq_false, Bool.false_eq_true, reduceCtorEq] at hb; done) | cases hb | ((try simp only [Bool.not_false, Bool.not_true] at hb); (try rw [hb]))))
  | with_reducible refine lf_add ?_ | with_reducible refine lf_sub ?_ | ((with_reducible apply lf_mod); (first | assumption | decide)) | ((with_reducible apply lf_div); (first | assumption | decide)) | with_reducible refine lf_lt ?_ | with_reducible refine lf_le ?_ | with_reducible refine lf_gt ?_ | with_reducible refine lf_ge ?_ | with_reducible refine lf_eqI ?_ | with_reducible refine lf_neI ?_ | with_reducible refine lf_eqSame ?_ | with_reducible refine lf_neSame ?_ | with_reducible refine lf_eqS ?_ | with_reducible refine lf_neS ?_
  | with_reducible refine lf_isN ?_ | with_reducible refine lf_isI ?_ | with_reducible refine lf_isnN ?_ | with_reducible refine lf_isnI ?_ | with_reducible refine lf_tb ?_ | with_reducible refine lf_tl ?_ | with_reducible refine lf_tt ?_ | with_reducible refine lf_int ?_ | with_reducible refine lf_lenL ?_ | with_reducible refine lf_lenT ?_ | ((with_reducible apply lf_lenS); assumption) | with_reducible refine lf_tupL ?_ | with_reducible refine lf_tupT ?_ | with_reducible refine lf_listL ?_ | with_reducible refine lf_listT ?_ | with_reducible refine lf_view ?_ | with_reducible refine lf_in2 ?_ | with_reducible refine lf_in3 ?_ | with_reducible refine lf_inM ?_ | with_reducible refine lf_ix0T ?_ | with_reducible refine lf_ix1T ?_ | with_reducible refine lf_ix2T ?_ | with_reducible refine lf_sl1 ?_ | with_reducible refine lf_slL ?_ | with_reducible refine lf_slT ?_
  | ((with_reducible apply lf_pow); decide) | with_reducible refine lf_mul ?_ ?_ | with_reducible refine lf_pow ?_ ?_ | ((with_reducible apply lf_addT); exact Nat.le_of_ble_eq_true rfl) | ((with_reducible apply lf_addL); exact Nat.le_of_ble_eq_true rfl) | with_reducible refine lf_addT ?_ ?_ | with_reducible refine lf_addL ?_ ?_
  | ((with_reducible apply lf2); rfl; rfl) | ((with_reducible apply lf3); rfl; exact Nat.le_of_ble_eq_true rfl) | ((with_reducible apply lf4); rfl; decide) | ((with_reducible apply lfU); rfl; rfl)
  | with_reducible refine ls_l ?_ | with_reducible refine ls_t ?_ | with_reducible refine ls_s ?_ | ((with_reducible apply ls_r); rfl) | with_reducible refine le_l ?_ | with_reducible refine le_t ?_ | with_reducible refine le_s ?_ | with_reducible refine lz_l ?_ | with_reducible refine lz_t ?_
  | ((with_reducible apply lfR); (first | decide | omega)) | ((with_reducible apply lfR2); (first | decide | omega)) | with_reducible refine lfI ?_
  | ((with_reducible apply lf); rfl) | ((with_reducible apply lfB); rfl) | ((with_reducible apply land); rfl)))
local macro_rules | `(tactic| nofun) => `(tactic| repeat' left)
local macro_rules | `(tactic| left) => `(tactic| first | with_reducible refine lf (PL.W.rec_ix0 _ _) ?_ | with_reducible refine lf (PL.W.rec_ix1 _ _) ?_)
namespace PL.W
open PySem PySem.Spec PyProof.Rows L2 PL
/-! what is put, as a dict -/
def P (rs : List Rec) (a : Nat) : List Str := (sortS (onceS (rs.map Rec.page))).filter fun p => (putI rs a p).isSome
def A (rs : List Rec) (a : Nat) : List (Key × D) := (P rs a).map fun p => ((.inr p : Key), putD rs a p)
theorem P_nodup (rs : List Rec) (a : Nat) : (P rs a).Nodup := ((sortS_perm _).nodup_iff.mpr (once_nodup _)).filter _
theorem P_mem {rs : List Rec} {a : Nat} {p : Str} : p ∈ P rs a ↔ (putI rs a p).isSome = true := by
  unfold P
  rw [List.mem_filter, (sortS_perm _).mem_iff, once_mem]
  refine ⟨fun h => h.2, fun h => ⟨?_, h⟩⟩
  obtain ⟨k, hk⟩ := Option.isSome_iff_exists.mp h
  obtain ⟨r, n, e, hp, _⟩ := pic_rec (put_rec hk).1
  exact List.mem_map.mpr ⟨r, List.mem_of_getElem? e, hp⟩
theorem P_page {rs : List Rec} {a : Nat} {p : Str} (hf : Fine rs) (h : p ∈ P rs a) : pageB p = true := by
  obtain ⟨k, hk⟩ := Option.isSome_iff_exists.mp (P_mem.mp h)
  obtain ⟨r, n, e, hp, _⟩ := pic_rec (put_rec hk).1
  rw [← hp]
  exact hf r (List.mem_of_getElem? e)
theorem pairs_P (rs : List Rec) (a : Nat) : ∀ ps : List Str, pairsOf (ps.map (putT rs a)) = some (ps.map fun p => ((.inr p : Key), putD rs a p))
  | [] => rfl
  | p :: ps => by
    have ih := pairs_P rs a ps
    rw [List.map_cons, List.map_cons]
    show (match keyD (.str p), pairsOf (ps.map (putT rs a)) with
      | some k, some t => some ((k, putD rs a p) :: t)
      | _, _ => none) = _
    rw [ih]; rfl
theorem dl_P (rs : List Rec) (a : Nat) : dlistD (.list ((P rs a).map (putT rs a))) = some (A rs a) := pairs_P rs a (P rs a)
theorem merge_A (rs : List Rec) (a : Nat) : mergeP [] (A rs a) = A rs a := by
  rw [merge_new]
  · rfl
  · rw [List.nil_append]
    unfold A
    rw [List.map_map]
    show ((P rs a).map fun p => (Sum.inr p : Key)).Nodup
    have inj : ∀ ps : List Str, ps.Nodup → (ps.map fun p => (Sum.inr p : Key)).Nodup := by
      intro ps
      induction ps with
      | nil => exact fun _ => List.nodup_nil
      | cons p ps ih =>
        intro h
        rw [List.nodup_cons] at h
        rw [List.map_cons, List.nodup_cons]
        refine ⟨fun q => h.1 ?_, ih h.2⟩
        obtain ⟨x, hx, e⟩ := List.mem_map.mp q
        injection e with e
        rw [← e]; exact hx
    exact inj _ (P_nodup rs a)
theorem keys_A (rs : List Rec) (a : Nat) : keysD (A rs a) = (P rs a).map .str := by
  unfold keysD A
  rw [List.map_map]; rfl
theorem look_A {rs : List Rec} {a : Nat} {p : Str} (h : p ∈ P rs a) : lookK (A rs a) (.inr p) = some (putD rs a p) := by
  unfold A
  rw [look_map (f := putD rs a), if_pos h]
theorem A_over {rs : List Rec} {a : Nat} (h : rs.length ≤ a) : A rs a = [] := by
  have : P rs a = [] := List.filter_eq_nil_iff.mpr fun p _ => by rw [put_over h]; exact Bool.false_ne_true
  unfold A
  rw [this]; rfl
theorem P_down {rs : List Rec} {a b : Nat} {p : Str} (hb : b ≤ a) (h : p ∈ P rs a) : p ∈ P rs b ∧ putD rs b p = putD rs a p := by
  obtain ⟨k, hk⟩ := Option.isSome_iff_exists.mp (P_mem.mp h)
  have h2 := put_mono hb hk
  exact ⟨P_mem.mpr (by rw [h2]; rfl), by unfold putD; rw [h2, hk]⟩
/-! a record among records -/
theorem eqv_enc (r : Rec) : PyData.eqv r.enc r.enc = true := by
  have i : ∀ n : Int, PyData.eqv (.int n) (.int n) = true := fun n => by
    show (n == n) = true
    exact beq_self_eq_true n
  cases r with
  | keep p n => show (PyData.eqv (.str "keep") (.str "keep") && (PyData.eqv (.str p) (.str p) && (PyData.eqv (.int n) (.int n) && true))) = true; rw [eqvS, eqvS, i, decide_eq_true rfl, decide_eq_true rfl]; rfl
  | write p n => show (PyData.eqv (.str "write") (.str "write") && (PyData.eqv (.str p) (.str p) && (PyData.eqv (.int n) (.int n) && true))) = true; rw [eqvS, eqvS, i, decide_eq_true rfl, decide_eq_true rfl]; rfl
  | plain p n => show (PyData.eqv (.str "plain") (.str "plain") && (PyData.eqv (.str p) (.str p) && (PyData.eqv (.int n) (.int n) && true))) = true; rw [eqvS, eqvS, i, decide_eq_true rfl, decide_eq_true rfl]; rfl
  | free p => show (PyData.eqv (.str "free") (.str "free") && (PyData.eqv (.str p) (.str p) && true)) = true; rw [eqvS, eqvS, decide_eq_true rfl, decide_eq_true rfl]; rfl
  | strike p => show (PyData.eqv (.str "strike") (.str "strike") && (PyData.eqv (.str p) (.str p) && true)) = true; rw [eqvS, eqvS, decide_eq_true rfl, decide_eq_true rfl]; rfl
theorem encs_shaped : ∀ {rs : List Rec}, Fine rs → PyData.canLayAll0 (rs.map Rec.enc) = true ∧ PyData.depthAll (rs.map Rec.enc) ≤ 1
  | [], _ => ⟨rfl, by simp [PyData.depthAll]⟩
  | r :: rs, h => by
    obtain ⟨a, b⟩ := encs_shaped (rs := rs) fun x hx => h x (List.mem_cons_of_mem _ hx)
    have s := enc_shaped (page_ok (h r List.mem_cons_self)).1
    have d : r.enc.depth ≤ 1 := by cases r <;> simp [Rec.enc, PyData.depth, PyData.depthAll]
    unfold SeqAt.shaped at s
    rw [Bool.and_eq_true] at s
    exact ⟨by simp [PyData.canLayAll0, s.1, a], by simp only [List.map_cons, PyData.depthAll]; exact Nat.max_le.mpr ⟨d, b⟩⟩
def inB' (rs : List Rec) (q : Rec) : Bool := (rs.map Rec.enc).any fun y => PyData.eqv y q.enc
theorem inB_mem {rs : List Rec} {q : Rec} (h : q ∈ rs) : inB' rs q = true := List.any_eq_true.mpr ⟨q.enc, List.mem_map.mpr ⟨q, h, rfl⟩, eqv_enc q⟩
theorem notin_enc {rs : List Rec} {q : Rec} (hf : Fine rs) (hq : pageB q.page = true) (S : Sto) : bin2 (gCmp .NotIn) (.d q.enc) (.d (.tuple (rs.map Rec.enc))) S = some (.bool (!inB' rs q)) := by
  obtain ⟨a, b⟩ := encs_shaped hf
  have h1 : SeqAt.shaped (.list (rs.map Rec.enc)) = true := by
    unfold SeqAt.shaped
    rw [Bool.and_eq_true]
    exact ⟨by simpa [PyData.canLay0] using a, decide_eq_true (by simp only [PyData.depth]; omega)⟩
  show (inSeq q.enc (rs.map Rec.enc)).map _ = _
  unfold inSeq
  rw [if_pos (.inr ⟨enc_shaped (page_ok hq).1, h1⟩)]
  rfl
theorem cut_drop {α : Type} {xs : List α} {j : Nat} (h : j ≤ xs.length) : cutL xs (some (j : Int)) none = xs.drop j := by
  unfold cutL
  rw [HT.sIx_none, HT.sIx_nat, Nat.min_eq_left h]
  exact List.take_of_length_le (by rw [List.length_drop]; omega)
theorem cut_encs {rs : List Rec} {a : Nat} (h : a ≤ rs.length) : cutL (rs.map Rec.enc) (some (a : Int)) none = (rs.drop a).map Rec.enc := by
  rw [cut_drop (by rw [List.length_map]; exact h), List.map_drop]
end PL.W
end
section
set_option maxHeartbeats 4000000
open PL PySem PySem.Spec PyProof.Rows L2
local macro_rules | `(tactic| left) => `(tactic| (first
  | with_reducible refine ws_asg ?_ | with_reducible refine ws_asgL ?_ | with_reducible refine ws_par ?_ | with_reducible refine ws_parC ?_ | with_reducible refine ws_unp ?_ | with_reducible refine ws_dset ?_
  | with_reducible refine ws_expr ?_ | with_reducible refine ws_ret ?_ | with_reducible refine ws_ret0 ?_ | with_reducible refine ws_pass ?_ | with_reducible refine ws_brk ?_ | with_reducible refine ws_cont ?_ | with_reducible refine ws_if ?_ | with_reducible refine ws_for ?_ | with_reducible refine ws_nil ?_
  | with_reducible refine we_int ?_ | with_reducible refine we_str ?_ | with_reducible refine we_bl ?_ | with_reducible refine we_non ?_ | with_reducible refine we_gd ?_
  | ((with_reducible apply we_loc); rfl)
  | with_reducible refine we_bin ?_ | with_reducible refine we_cmp ?_ | with_reducible refine we_cmp2 ?_ | with_reducible refine we_bop ?_ | with_reducible refine wb_nil ?_ | with_reducible refine wb_cons ?_ | with_reducible refine we_not ?_ | with_reducible refine we_neg ?_ | with_reducible refine we_ite ?_
  | with_reducible refine we_tup ?_ | with_reducible refine we_lst ?_ | with_reducible refine we_lstR ?_ | with_reducible refine we_dic0 ?_ | with_reducible refine we_dic ?_ | with_reducible refine we_ix ?_ | with_reducible refine we_sl ?_ | with_reducible refine wo_no ?_ | with_reducible refine wo_so ?_
  | with_reducible refine we_bi ?_ | with_reducible refine we_isi ?_ | with_reducible refine we_call ?_ | with_reducible refine we_callK ?_ | with_reducible refine we_comp ?_ | with_reducible refine we_compR ?_ | with_reducible refine we_get2 ?_ | with_reducible refine we_app ?_ | with_reducible refine we_ext ?_ | with_reducible refine we_join ?_
  | with_reducible refine we_gget2 ?_ | with_reducible refine we_gget ?_ | with_reducible refine we_gix ?_ | with_reducible refine we_gin ?_ | with_reducible refine we_sset ?_ | with_reducible refine we_sortd ?_ | with_reducible refine we_dcopy ?_ | with_reducible refine we_dlist ?_ | with_reducible refine we_deq0 ?_ | with_reducible refine we_upd ?_ | with_reducible refine we_compd ?_ | with_reducible refine ws_ford ?_ | with_reducible refine we_rev ?_ | with_reducible refine we_reprL ?_ | ((with_reducible apply lfV); rfl; exact Nat.le_of_ble_eq_true rfl) | with_reducible refine wes_nil ?_ | with_reducible refine wes_cons ?_ | with_reducible refine wt_nil ?_ | with_reducible refine wt_one ?_
  | with_reducible refine wi_rng ?_ | with_reducible refine wi_rng2 ?_ | with_reducible refine wi_zip ?_ | with_reducible refine wi_enm ?_ | with_reducible refine wi_seq ?_
  | with_reducible refine then_nx ?_ | with_reducible refine then_bk ?_ | with_reducible refine then_ct ?_ | with_reducible refine then_rt ?_ | with_reducible refine qf_same ?_ | with_reducible refine qf_app ?_ | ((with_reducible apply qf_cons); rfl) | ((with_reducible apply qf_consA); rfl) | with_reducible refine qf_ref ?_ | with_reducible refine qf_d ?_ | with_reducible refine qf_nxS ?_ | with_reducible refine qf_nxA ?_ | with_reducible refine qf_nx ?_
  | ((with_reducible apply wk_eq); with_reducible assumption)
  | (with_reducible refine limp (fun hb => ?_) (fun hb => ?_) <;> (first | (cases hb; done) | (simp only [Bool.not_false, Bool.not_true, Bool.true_eq_false, Bool.false_eq_true, reduceCtorEq] at hb; done) | cases hb | ((try simp only [Bool.not_false, Bool.not_true] at hb); (try rw [hb]))))
  | with_reducible refine lf_add ?_ | with_reducible refine lf_sub ?_ | ((with_reducible apply lf_mod); (first | assumption | decide)) | ((with_reducible apply lf_div); (first | assumption | decide)) | with_reducible refine lf_lt ?_ | with_reducible refine lf_le ?_ | with_reducible refine lf_gt ?_ | with_reducible refine lf_ge ?_ | with_reducible refine lf_eqI ?_ | with_reducible refine lf_neI ?_ | with_reducible refine lf_eqSame ?_ | with_reducible refine lf_neSame ?_ | with_reducible refine lf_eqS ?_ | with_reducible refine lf_neS ?_
  | with_reducible refine lf_isN ?_ | with_reducible refine lf_isI ?_ | with_reducible refine lf_isnN ?_ | with_reducible refine lf_isnI ?_ | with_reducible refine lf_tb ?_ | with_reducible refine lf_tl ?_ | with_reducible refine lf_tt ?_ | with_reducible refine lf_int ?_ | with_reducible refine lf_lenL ?_ | with_reducible refine lf_lenT ?_ | ((with_reducible apply lf_lenS); assumption) | with_reducible refine lf_tupL ?_ | with_reducible refine lf_tupT ?_ | with_reducible refine lf_listL ?_ | with_reducible refine lf_listT ?_ | with_reducible refine lf_view ?_ | with_reducible refine lf_in2 ?_ | with_reducible refine lf_in3 ?_ | with_reducible refine lf_inM ?_ | with_reducible refine lf_ix0T ?_ | with_reducible refine lf_ix1T ?_ | with_reducible refine lf_ix2T ?_ | with_reducible refine lf_sl1 ?_ | with_reducible refine lf_slL ?_ | with_reducible refine lf_slT ?_
  | ((with_reducible apply lf_pow); decide) | with_reducible refine lf_mul ?_ ?_ | with_reducible refine lf_pow ?_ ?_ | ((with_reducible apply lf_addT); exact Nat.le_of_ble_eq_true rfl) | ((with_reducible apply lf_addL); exact Nat.le_of_ble_eq_true rfl) | with_reducible refine lf_addT ?_ ?_ | with_reducible refine lf_addL ?_ ?_
  | ((with_reducible apply lf2); rfl; rfl) | ((with_reducible apply lf3); rfl; exact Nat.le_of_ble_eq_true rfl) | ((with_reducible apply lf4); rfl; decide) | ((with_reducible apply lfU); rfl; rfl)
  | with_reducible refine ls_l ?_ | with_reducible refine ls_t ?_ | with_reducible refine ls_s ?_ | ((with_reducible apply ls_r); rfl) | with_reducible refine le_l ?_ | with_reducible refine le_t ?_ | with_reducible refine le_s ?_ | with_reducible refine lz_l ?_ | with_reducible refine lz_t ?_
  | ((with_reducible apply lfR); (first | decide | omega)) | ((with_reducible apply lfR2); (first | decide | omega)) | with_reducible refine lfI ?_
  | ((with_reducible apply lf); rfl) | ((with_reducible apply lfB); rfl) | ((with_reducible apply land); rfl)))
local macro_rules | `(tactic| nofun) => `(tactic| repeat' left)
theorem PL.W.nil_ne0 (S : PL.Sto) : PL.bin2 (PL.gCmp .NotEq) (.d (.list [])) (.d (.list [])) S = some (.bool false) := rfl
local macro_rules | `(tactic| left) => `(tactic| first | with_reducible refine lf (PL.W.rec_ix0 _ _) ?_ | with_reducible refine lf (PL.W.rec_ix1 _ _) ?_ | with_reducible refine lf (PL.W.dl_P _ _) ?_ | with_reducible refine lf (PL.W.nil_ne0 _) ?_)
namespace PL.W
open PySem PySem.Spec PyProof.Rows L2 PL
def PtI (S : Sto) (rs : List Rec) (ds : List D) (L : Loc) (S' : Sto) : Prop := ∃ (a : Nat) (U : Sto) (l2 l3 l4 : Option R), 1 ≤ a ∧ a ≤ rs.length + 1 ∧ ds = (List.range' a (rs.length + 1 - a)).map natD ∧ S' = S ++ U ++ [.dic (A rs (a - 1))] ∧ L = [some (.d (.tuple (rs.map Rec.enc))), some (.ref (S ++ U).length), l2, l3, l4]
def WkI (rs : List Rec) (a : Nat) (T : Sto) (l0 l1 l2 : Option R) (ds : List D) (L : Loc) (S' : Sto) : Prop := ∃ (ps : List Str) (l4 : Option R), ds = ps.map .str ∧ (∀ p ∈ ps, p ∈ P rs a) ∧ L = [l0, l1, l2, some (.ref T.length), l4] ∧ S' = T ++ [.dicL (A rs a)]
theorem pointT (n : Nat) {rs : List Rec} {all : List Str} (R0 : Ready rs all) (h64 : all.length < 64) (S : Sto) (tg : List Sx) (htg : b_law_points_right = b_law_points_right.take 1 ++ [.fors (.one 2) (.rng2 (.int 1) (.bin .Add (.bi .len (.loc 0)) (.int 1))) tg] ++ b_law_points_right.drop 2)
    (d : D) (r : List D) (L : Loc) (S' : Sto) (h : PtI S rs (d :: r) L S') : ∃ g L' S'', lapT (callN fns (n + 8)) (.one 2) tg d L S' = some (g, L', S'') ∧ (g = .nx ∨ g = .ct) ∧ lockB none S'' = true ∧ PtI S rs r L' S'' := by
  cases htg
  obtain ⟨a, U, l2, l3, l4, ha1, ha2, hd, rfl, rfl⟩ := h
  have hlt : a < rs.length + 1 := by
    by_cases q : a < rs.length + 1
    · exact q
    · rw [show rs.length + 1 - a = 0 by omega] at hd
      cases hd
  rw [show rs.length + 1 - a = (rs.length + 1 - (a + 1)) + 1 by omega, List.range'_succ, List.map_cons] at hd
  injection hd with hd1 hd2
  subst hd1 hd2
  generalize hT : S ++ U = T
  have e := t_putsin (S := T ++ [.dic (A rs (a - 1))]) n R0.log R0.fine R0.few (R0.once h64) (a := a) (by omega)
  have pl : (P rs a).length ≤ sizeLine := by
    refine Nat.le_trans (List.length_filter_le _ _) ?_
    rw [(sortS_perm _).length_eq]
    exact Nat.le_trans (Nat.le_of_lt (R0.once h64)) (by decide)
  refine lap_of rfl ?_
  nofun
  rw [merge_A]
  generalize hT2 : T ++ [Ob.dic (A rs (a - 1))] = T2
  have hold : ∀ o : Ob, (T2 ++ [o])[T.length]? = some (.dic (A rs (a - 1))) := fun o => by rw [← hT2]; exact pen_at
  nofun
  refine ⟨_, _, rfl, end_at, ?_⟩
  rw [end_set]
  nofun
  refine ⟨rfl, _, end_at, ?_⟩
  rw [keys_A]
  refine loop_filter (fun _ => false) .str pl (fun p hp => ?_) ?_
  · obtain ⟨k, hk⟩ := Option.isSome_iff_exists.mp (P_mem.mp hp)
    obtain ⟨m, hm⟩ := put_some hk
    have hd := P_down (b := a - 1) (by omega) hp
    refine turn_eq rfl ?_
    nofun
    refine lf (ixl_at end_at (look_A hp)) ?_
    nofun
    refine ⟨isDic_at (hold _), ?_⟩
    nofun
    refine lf (get2_at (hold _)) ?_
    rw [look_A hd.1, hd.2, hm]
    dsimp only [Option.getD]
    nofun
    all_goals first | exact ⟨rfl, rfl⟩ | (exfalso; rename_i hb; simp at hb; done)
  rw [show ((P rs a).filter (fun _ => false)).map PyData.str = [] by simp]
  refine ⟨_, end_at, ?_⟩
  rw [end_set]
  nofun
  refine ⟨_, _, rfl, end_at, ?_⟩
  rw [end_set]
  nofun
  refine ⟨rfl, _, end_at, ?_⟩
  rw [keys_A]
  refine for_q (WkI rs a T2 _ _ _) ⟨P rs a, _, rfl, fun _ h => h, rfl, rfl⟩ (fun d r L S' h => ?_) ?_
  · obtain ⟨ps, l4', hd, hps, rfl, rfl⟩ := h
    cases ps with
    | nil => cases hd
    | cons p ps =>
      rw [List.map_cons] at hd
      injection hd with hd1 hd2
      subst hd1 hd2
      have hp := hps p List.mem_cons_self
      have hpg := P_page R0.fine hp
      obtain ⟨k, hk⟩ := Option.isSome_iff_exists.mp (P_mem.mp hp)
      obtain ⟨m, hm, hin⟩ := put_there hk
      have hf : Fine (rs.drop a) := fun x hx => R0.fine x (List.mem_of_mem_drop hx)
      have n1 := fun S => notin_enc (q := .keep p m) hf hpg S
      have n2 := fun S => notin_enc (q := .write p m) hf hpg S
      have cut := cut_encs (rs := rs) (a := a) (by omega)
      refine lap_of rfl ?_
      nofun
      refine lf (ixl_at end_at (look_A hp)) ?_
      rw [hm]
      nofun
      rw [cut]
      refine lf (n1 _) ?_
      have fin : ∀ S'' : Sto, S'' = T2 ++ [.dicL (A rs a)] → ((Fl.nx = .nx ∨ Fl.nx = .ct) ∧ lockB none S'' = true ∧ WkI rs a T2 (some (.d (.tuple (rs.map Rec.enc)))) (some (.ref T.length)) (some (.d (natD a))) (ps.map .str) [some (.d (.tuple (rs.map Rec.enc))), some (.ref T.length), some (.d (natD a)), some (.ref T2.length), some (.d (.str p))] S'') := fun S'' h => ⟨.inl rfl, rfl, ps, _, rfl, fun q hq => hps q (List.mem_cons_of_mem _ hq), rfl, h⟩
      rcases hin with hin | hin
      · rw [inB_mem hin]
        nofun
        exact fin _ rfl
      · cases inB' (rs.drop a) (.keep p m) with
        | true =>
          nofun
          exact fin _ rfl
        | false =>
          nofun
          refine lf (ixl_at end_at (look_A hp)) ?_
          rw [hm]
          nofun
          rw [cut]
          refine lf (n2 _) ?_
          rw [inB_mem hin]
          nofun
          exact fin _ rfl
  · rintro L' S' ⟨ps, l4', hd, _, rfl, rfl⟩
    refine ⟨_, end_at, ?_⟩
    rw [end_set]
    nofun
    refine ⟨.inl rfl, rfl, a + 1, U ++ [.dic (A rs (a - 1))], some (.d (natD a)), some (.ref T2.length), l4', by omega, by omega, rfl, ?_, ?_⟩
    · rw [Nat.add_sub_cancel, ← hT2, ← hT]; simp
    · rw [← hT2, ← hT]; simp
theorem t_points (n : Nat) {rs : List Rec} {all : List Str} (R0 : Ready rs all) (h64 : all.length < 64) (S : Sto) : callN fns (n + 9) i_law_points_right [.d (.tuple (rs.map Rec.enc))] S = some (.d (.bool true), S) := by
  have e := t_putsin (S := S) n R0.log R0.fine R0.few (R0.once h64) (a := 0) (by omega)
  refine WC.eq (c_law_points_right ?_)
  nofun
  refine wk_eq e ?_
  nofun
  rw [merge_A]
  nofun
  have hfew := R0.few
  refine lfR2 (i := 1) (j := ((rs.map Rec.enc).length : Int) + 1) ⟨by decide, by decide, by omega, by rw [List.length_map]; omega⟩ ?_
  nofun
  have er : rng2D 1 (((rs.map Rec.enc).length : Int) + 1) = (List.range' 1 (rs.length + 1 - 1)).map natD := by
    have := rng2_nat (a := 1) (n := rs.length + 1) (by omega)
    rw [List.length_map]
    exact this
  rw [er]
  refine for_to (PtI S rs) ⟨1, [], none, none, none, Nat.le_refl _, by omega, rfl, by simp, by simp⟩ (fun d r L S' => pointT n R0 h64 S _ rfl d r L S') ?_
  rintro L' S' ⟨a, U, l2, l3, l4, h1, h2, hd, rfl, rfl⟩
  have ha : a = rs.length + 1 := by
    have := congrArg List.length hd
    rw [List.length_nil, List.length_map, List.length_range'] at this
    omega
  subst ha
  rw [Nat.add_sub_cancel, A_over (Nat.le_refl _)]
  nofun
  refine ⟨by simp only [isE0, end_at], ?_⟩
  nofun
  refine ⟨S, ?_, rfl, rfl⟩
  have := cutS_app S (U ++ [.dic []] ++ [.dic []])
  simpa using this
end PL.W
end
section
set_option maxHeartbeats 4000000
open PL PySem PySem.Spec PyProof.Rows L2
local macro_rules | `(tactic| left) => `(tactic| (first
  | with_reducible refine ws_asg ?_ | with_reducible refine ws_asgL ?_ | with_reducible refine ws_par ?_ | with_reducible refine ws_parC ?_ | with_reducible refine ws_unp ?_ | with_reducible refine ws_dset ?_
  | with_reducible refine ws_expr ?_ | with_reducible refine ws_ret ?_ | with_reducible refine ws_ret0 ?_ | with_reducible refine ws_pass ?_ | with_reducible refine ws_brk ?_ | with_reducible refine ws_cont ?_ | with_reducible refine ws_if ?_ | with_reducible refine ws_for ?_ | with_reducible refine ws_nil ?_
  | with_reducible refine we_int ?_ | with_reducible refine we_str ?_ | with_reducible refine we_bl ?_ | with_reducible refine we_non ?_ | with_reducible refine we_gd ?_
  | ((with_reducible apply we_loc); rfl)
  | with_reducible refine we_bin ?_ | with_reducible refine we_cmp ?_ | with_reducible refine we_cmp2 ?_ | with_reducible refine we_bop ?_ | with_reducible refine wb_nil ?_ | with_reducible refine wb_cons ?_ | with_reducible refine we_not ?_ | with_reducible refine we_neg ?_ | with_reducible refine we_ite ?_
  | with_reducible refine we_tup ?_ | with_reducible refine we_lst ?_ | with_reducible refine we_lstR ?_ | with_reducible refine we_dic0 ?_ | with_reducible refine we_dic ?_ | with_reducible refine we_ix ?_ | with_reducible refine we_sl ?_ | with_reducible refine wo_no ?_ | with_reducible refine wo_so ?_
  | with_reducible refine we_bi ?_ | with_reducible refine we_isi ?_ | with_reducible refine we_call ?_ | with_reducible refine we_callK ?_ | with_reducible refine we_comp ?_ | with_reducible refine we_compR ?_ | with_reducible refine we_get2 ?_ | with_reducible refine we_app ?_ | with_reducible refine we_ext ?_ | with_reducible refine we_join ?_
  | with_reducible refine we_gget2 ?_ | with_reducible refine we_gget ?_ | with_reducible refine we_gix ?_ | with_reducible refine we_gin ?_ | with_reducible refine we_sset ?_ | with_reducible refine we_sortd ?_ | with_reducible refine we_dcopy ?_ | with_reducible refine we_dlist ?_ | with_reducible refine we_deq0 ?_ | with_reducible refine we_upd ?_ | with_reducible refine we_compd ?_ | with_reducible refine ws_ford ?_ | with_reducible refine we_rev ?_ | with_reducible refine we_reprL ?_ | ((with_reducible apply lfV); rfl; exact Nat.le_of_ble_eq_true rfl) | with_reducible refine wes_nil ?_ | with_reducible refine wes_cons ?_ | with_reducible refine wt_nil ?_ | with_reducible refine wt_one ?_
  | with_reducible refine wi_rng ?_ | with_reducible refine wi_rng2 ?_ | with_reducible refine wi_zip ?_ | with_reducible refine wi_enm ?_ | with_reducible refine wi_seq ?_
  | with_reducible refine then_nx ?_ | with_reducible refine then_bk ?_ | with_reducible refine then_ct ?_ | with_reducible refine then_rt ?_ | with_reducible refine qf_same ?_ | with_reducible refine qf_app ?_ | ((with_reducible apply qf_cons); rfl) | ((with_reducible apply qf_consA); rfl) | with_reducible refine qf_ref ?_ | with_reducible refine qf_d ?_ | with_reducible refine qf_nxS ?_ | with_reducible refine qf_nxA ?_ | with_reducible refine qf_nx ?_
  | ((with_reducible apply wk_eq); with_reducible assumption)
  | (with_reducible refine limp (fun hb => ?_) (fun hb => ?_) <;> (first | (cases hb; done) | (simp only [Bool.not_false, Bool.not_true, Bool.true_eq_false, Bool.false_eq_true, reduceCtorEq] at hb; done) | cases hb | ((try simp only [Bool.not_false, Bool.not_true] at hb); (try rw [hb]))))
  | with_reducible refine lf_add ?_ | with_reducible refine lf_sub ?_ | ((with_reducible apply lf_mod); (first | assumption | decide)) | ((with_reducible apply lf_div); (first | assumption | decide)) | with_reducible refine lf_lt ?_ | with_reducible refine lf_le ?_ | with_reducible refine lf_gt ?_ | with_reducible refine lf_ge ?_ | with_reducible refine lf_eqI ?_ | with_reducible refine lf_neI ?_ | with_reducible refine lf_eqSame ?_ | with_reducible refine lf_neSame ?_ | with_reducible refine lf_eqS ?_ | with_reducible refine lf_neS ?_
  | with_reducible refine lf_isN ?_ | with_reducible refine lf_isI ?_ | with_reducible refine lf_isnN ?_ | with_reducible refine lf_isnI ?_ | with_reducible refine lf_tb ?_ | with_reducible refine lf_tl ?_ | with_reducible refine lf_tt ?_ | with_reducible refine lf_int ?_ | with_reducible refine lf_lenL ?_ | with_reducible refine lf_lenT ?_ | ((with_reducible apply lf_lenS); assumption) | with_reducible refine lf_tupL ?_ | with_reducible refine lf_tupT ?_ | with_reducible refine lf_listL ?_ | with_reducible refine lf_listT ?_ | with_reducible refine lf_view ?_ | with_reducible refine lf_in2 ?_ | with_reducible refine lf_in3 ?_ | with_reducible refine lf_inM ?_ | with_reducible refine lf_ix0T ?_ | with_reducible refine lf_ix1T ?_ | with_reducible refine lf_ix2T ?_ | with_reducible refine lf_sl1 ?_ | with_reducible refine lf_slL ?_ | with_reducible refine lf_slT ?_
  | ((with_reducible apply lf_pow); decide) | with_reducible refine lf_mul ?_ ?_ | with_reducible refine lf_pow ?_ ?_ | ((with_reducible apply lf_addT); exact Nat.le_of_ble_eq_true rfl) | ((with_reducible apply lf_addL); exact Nat.le_of_ble_eq_true rfl) | with_reducible refine lf_addT ?_ ?_ | with_reducible refine lf_addL ?_ ?_
  | ((with_reducible apply lf2); rfl; rfl) | ((with_reducible apply lf3); rfl; exact Nat.le_of_ble_eq_true rfl) | ((with_reducible apply lf4); rfl; decide) | ((with_reducible apply lfU); rfl; rfl)
  | with_reducible refine ls_l ?_ | with_reducible refine ls_t ?_ | with_reducible refine ls_s ?_ | ((with_reducible apply ls_r); rfl) | with_reducible refine le_l ?_ | with_reducible refine le_t ?_ | with_reducible refine le_s ?_ | with_reducible refine lz_l ?_ | with_reducible refine lz_t ?_
  | ((with_reducible apply lfR); (first | decide | omega)) | ((with_reducible apply lfR2); (first | decide | omega)) | with_reducible refine lfI ?_
  | ((with_reducible apply lf); rfl) | ((with_reducible apply lfB); rfl) | ((with_reducible apply land); rfl)))
local macro_rules | `(tactic| nofun) => `(tactic| repeat' left)
local macro_rules | `(tactic| left) => `(tactic| first | with_reducible refine lf (PL.W.rec_ix0 _ _) ?_ | with_reducible refine lf (PL.W.rec_ix1 _ _) ?_ | with_reducible refine lf (PL.W.ne_same _ _) ?_ | with_reducible refine lf (PL.W.is_put _) ?_ | with_reducible refine lf (PL.W.ix_last (by assumption) _) ?_)
namespace PL.W
open PySem PySem.Spec PyProof.Rows L2 PL
def NtI (rs : List Rec) (ps0 : List Str) (S : Sto) (ds : List D) (L : Loc) (S' : Sto) : Prop := ∃ (ps : List Str) (l2 l3 l4 l5 l6 : Option R), ds = ps.map .str ∧ (∀ p ∈ ps, pageB p = true) ∧ L = [some (.d (.tuple (rs.map Rec.enc))), some (.d (.list (ps0.map .str))), l2, l3, l4, l5, l6] ∧ S' = S
theorem last_wrd {rs : List Rec} {p : Str} {w : Str} (h : (wrd rs p).getLast? = some w) : ((wrd rs p).map PyData.str).getLast? = some (.str w) := by
  rw [List.getLast?_map, h]; rfl
theorem nothingT (n : Nat) {rs : List Rec} {all : List Str} (R0 : Ready rs all) (S : Sto) (ps0 : List Str) (tg : List Sx) (htg : b_law_nothing_right = b_law_nothing_right.take 0 ++ [.fors (.one 2) (.seq (.loc 1)) tg] ++ b_law_nothing_right.drop 1)
    (d : D) (r : List D) (L : Loc) (S' : Sto) (h : NtI rs ps0 S (d :: r) L S') : ∃ g L' S'', lapT (callN fns (n + 8)) (.one 2) tg d L S' = some (g, L', S'') ∧ (g = .nx ∨ g = .ct) ∧ lockB none S'' = true ∧ NtI rs ps0 S r L' S'' := by
  cases htg
  obtain ⟨ps, l2, l3, l4, l5, l6, hd, hps, rfl, rfl⟩ := h
  cases ps with
  | nil => cases hd
  | cons p ps =>
    rw [List.map_cons] at hd
    injection hd with hd1 hd2
    subst hd1 hd2
    have hl : rs.length ≤ sizeLine := Nat.le_trans (Nat.le_of_lt R0.few) (by decide)
    have e := t_putin (S := S') n R0.log R0.fine (Nat.lt_of_lt_of_le R0.few (by decide)) (a := 0) (by omega) (hps p List.mem_cons_self)
    have iff := none_iff p rs
    refine lap_of rfl ?_
    nofun
    refine loop_filter (fun q => isOf p KWS q) (fun q => .str q.word) hl (fun q _ => ?_) ?_
    · refine turn_eq rfl ?_
      nofun
      all_goals first
        | refine ⟨_, rfl, ?_, rfl⟩
        | refine ⟨?_, rfl⟩
      all_goals (unfold isOf; simp_all)
    rw [show (rs.filter fun q => isOf p KWS q).map (fun q => PyData.str q.word) = (wrd rs p).map .str by unfold wrd; rw [List.map_map]; rfl]
    nofun
    refine loop_filter (fun w => !decide (w = ("strike" : Str))) .str (by unfold wrd; rw [List.length_map]; exact Nat.le_trans (List.length_filter_le _ _) hl) (fun w _ => ?_) ?_
    · refine turn_eq rfl ?_
      nofun
      all_goals first
        | refine ⟨_, rfl, ?_, rfl⟩
        | refine ⟨?_, rfl⟩
      all_goals simp_all
    nofun
    refine wk_eq e ?_
    nofun
    have ok2 : ∀ w ∈ (wrd rs p).filter (fun (w : Str) => !decide (w = "strike")), PyData.strOk w = true := fun w hw => kws_ok w (List.mem_filter.mp hw).1
    have fin : ((Fl.nx = .nx ∨ Fl.nx = .ct) ∧ lockB none S' = true ∧ NtI rs ps0 S' (ps.map .str) [some (.d (.tuple (rs.map Rec.enc))), some (.d (.list (ps0.map .str))), some (.d (.str p)), some (.d (.list ((wrd rs p).map .str))), l4, some (.d (.list (((wrd rs p).filter (fun (w : Str) => !decide (w = "strike"))).map .str))), l6] S') := ⟨.inl rfl, rfl, ps, _, _, _, _, _, rfl, fun q hq => hps q (List.mem_cons_of_mem _ hq), rfl, rfl⟩
    cases hem : ((wrd rs p).filter (fun (w : Str) => !decide (w = "strike"))).isEmpty with
    | true =>
      refine lf (nil_eqS ok2 hem _) ?_
      rw [hem, Bool.true_or] at iff
      rw [iff]
      nofun
      exact fin
    | false =>
      refine lf (nil_eqS ok2 hem _) ?_
      rw [hem, Bool.false_or] at iff
      nofun
      cases hlast : (wrd rs p).getLast? with
      | none =>
        rw [List.getLast?_eq_none_iff] at hlast
        rw [hlast] at hem
        cases hem
      | some w =>
        have hw := last_wrd hlast
        have e2 : decide (some w = some ("strike" : Str)) = decide (w = "strike") := by simp
        rw [hlast, e2] at iff
        rw [iff]
        nofun
        exact fin
theorem t_nothing (n : Nat) {rs : List Rec} {all : List Str} (R0 : Ready rs all) (S : Sto) {ps : List Str} (hps : ∀ p ∈ ps, pageB p = true) : callN fns (n + 9) i_law_nothing_right [.d (.tuple (rs.map Rec.enc)), .d (.list (ps.map .str))] S = some (.d (.bool true), S) := by
  refine WC.eq (c_law_nothing_right ?_)
  nofun
  refine for_to (NtI rs ps S) ⟨ps, none, none, none, none, none, rfl, hps, rfl, rfl⟩ (fun d r L S' => nothingT n R0 S ps _ rfl d r L S') ?_
  rintro L' S' ⟨ps', l2, l3, l4, l5, l6, hd, _, rfl, rfl⟩
  nofun
  exact ⟨rfl, rfl⟩
end PL.W
end
section
set_option maxHeartbeats 4000000
open PL PySem PySem.Spec PyProof.Rows L2
local macro_rules | `(tactic| left) => `(tactic| (first
  | with_reducible refine ws_asg ?_ | with_reducible refine ws_asgL ?_ | with_reducible refine ws_par ?_ | with_reducible refine ws_parC ?_ | with_reducible refine ws_unp ?_ | with_reducible refine ws_dset ?_
  | with_reducible refine ws_expr ?_ | with_reducible refine ws_ret ?_ | with_reducible refine ws_ret0 ?_ | with_reducible refine ws_pass ?_ | with_reducible refine ws_brk ?_ | with_reducible refine ws_cont ?_ | with_reducible refine ws_if ?_ | with_reducible refine ws_for ?_ | with_reducible refine ws_nil ?_
  | with_reducible refine we_int ?_ | with_reducible refine we_str ?_ | with_reducible refine we_bl ?_ | with_reducible refine we_non ?_ | with_reducible refine we_gd ?_
  | ((with_reducible apply we_loc); rfl)
  | with_reducible refine we_bin ?_ | with_reducible refine we_cmp ?_ | with_reducible refine we_cmp2 ?_ | with_reducible refine we_bop ?_ | with_reducible refine wb_nil ?_ | with_reducible refine wb_cons ?_ | with_reducible refine we_not ?_ | with_reducible refine we_neg ?_ | with_reducible refine we_ite ?_
  | with_reducible refine we_tup ?_ | with_reducible refine we_lst ?_ | with_reducible refine we_lstR ?_ | with_reducible refine we_dic0 ?_ | with_reducible refine we_dic ?_ | with_reducible refine we_ix ?_ | with_reducible refine we_sl ?_ | with_reducible refine wo_no ?_ | with_reducible refine wo_so ?_
  | with_reducible refine we_bi ?_ | with_reducible refine we_isi ?_ | with_reducible refine we_call ?_ | with_reducible refine we_callK ?_ | with_reducible refine we_comp ?_ | with_reducible refine we_compR ?_ | with_reducible refine we_get2 ?_ | with_reducible refine we_app ?_ | with_reducible refine we_ext ?_ | with_reducible refine we_join ?_
  | with_reducible refine we_gget2 ?_ | with_reducible refine we_gget ?_ | with_reducible refine we_gix ?_ | with_reducible refine we_gin ?_ | with_reducible refine we_sset ?_ | with_reducible refine we_sortd ?_ | with_reducible refine we_dcopy ?_ | with_reducible refine we_dlist ?_ | with_reducible refine we_deq0 ?_ | with_reducible refine we_upd ?_ | with_reducible refine we_compd ?_ | with_reducible refine ws_ford ?_ | with_reducible refine we_rev ?_ | with_reducible refine we_reprL ?_ | ((with_reducible apply lfV); rfl; exact Nat.le_of_ble_eq_true rfl) | with_reducible refine wes_nil ?_ | with_reducible refine wes_cons ?_ | with_reducible refine wt_nil ?_ | with_reducible refine wt_one ?_
  | with_reducible refine wi_rng ?_ | with_reducible refine wi_rng2 ?_ | with_reducible refine wi_zip ?_ | with_reducible refine wi_enm ?_ | with_reducible refine wi_seq ?_
  | with_reducible refine then_nx ?_ | with_reducible refine then_bk ?_ | with_reducible refine then_ct ?_ | with_reducible refine then_rt ?_ | with_reducible refine qf_same ?_ | with_reducible refine qf_app ?_ | ((with_reducible apply qf_cons); rfl) | ((with_reducible apply qf_consA); rfl) | with_reducible refine qf_ref ?_ | with_reducible refine qf_d ?_ | with_reducible refine qf_nxS ?_ | with_reducible refine qf_nxA ?_ | with_reducible refine qf_nx ?_
  | ((with_reducible apply wk_eq); with_reducible assumption)
  | (with_reducible refine limp (fun hb => ?_) (fun hb => ?_) <;> (first | (cases hb; done) | (simp only [Bool.not_false, Bool.not_true, Bool.true_eq_false, Bool.false_eq_true, reduceCtorEq] at hb; done) | cases hb | ((try simp only [Bool.not_false, Bool.not_true] at hb); (try rw [hb]))))
  | with_reducible refine lf_add ?_ | with_reducible refine lf_sub ?_ | ((with_reducible apply lf_mod); (first | assumption | decide)) | ((with_reducible apply lf_div); (first | assumption | decide)) | with_reducible refine lf_lt ?_ | with_reducible refine lf_le ?_ | with_reducible refine lf_gt ?_ | with_reducible refine lf_ge ?_ | with_reducible refine lf_eqI ?_ | with_reducible refine lf_neI ?_ | with_reducible refine lf_eqSame ?_ | with_reducible refine lf_neSame ?_ | with_reducible refine lf_eqS ?_ | with_reducible refine lf_neS ?_
  | with_reducible refine lf_isN ?_ | with_reducible refine lf_isI ?_ | with_reducible refine lf_isnN ?_ | with_reducible refine lf_isnI ?_ | with_reducible refine lf_tb ?_ | with_reducible refine lf_tl ?_ | with_reducible refine lf_tt ?_ | with_reducible refine lf_int ?_ | with_reducible refine lf_lenL ?_ | with_reducible refine lf_lenT ?_ | ((with_reducible apply lf_lenS); assumption) | with_reducible refine lf_tupL ?_ | with_reducible refine lf_tupT ?_ | with_reducible refine lf_listL ?_ | with_reducible refine lf_listT ?_ | with_reducible refine lf_view ?_ | with_reducible refine lf_in2 ?_ | with_reducible refine lf_in3 ?_ | with_reducible refine lf_inM ?_ | with_reducible refine lf_ix0T ?_ | with_reducible refine lf_ix1T ?_ | with_reducible refine lf_ix2T ?_ | with_reducible refine lf_sl1 ?_ | with_reducible refine lf_slL ?_ | with_reducible refine lf_slT ?_
  | ((with_reducible apply lf_pow); decide) | with_reducible refine lf_mul ?_ ?_ | with_reducible refine lf_pow ?_ ?_ | ((with_reducible apply lf_addT); exact Nat.le_of_ble_eq_true rfl) | ((with_reducible apply lf_addL); exact Nat.le_of_ble_eq_true rfl) | with_reducible refine lf_addT ?_ ?_ | with_reducible refine lf_addL ?_ ?_
  | ((with_reducible apply lf2); rfl; rfl) | ((with_reducible apply lf3); rfl; exact Nat.le_of_ble_eq_true rfl) | ((with_reducible apply lf4); rfl; decide) | ((with_reducible apply lfU); rfl; rfl)
  | with_reducible refine ls_l ?_ | with_reducible refine ls_t ?_ | with_reducible refine ls_s ?_ | ((with_reducible apply ls_r); rfl) | with_reducible refine le_l ?_ | with_reducible refine le_t ?_ | with_reducible refine le_s ?_ | with_reducible refine lz_l ?_ | with_reducible refine lz_t ?_
  | ((with_reducible apply lfR); (first | decide | omega)) | ((with_reducible apply lfR2); (first | decide | omega)) | with_reducible refine lfI ?_
  | ((with_reducible apply lf); rfl) | ((with_reducible apply lfB); rfl) | ((with_reducible apply land); rfl)))
local macro_rules | `(tactic| nofun) => `(tactic| repeat' left)
namespace PL.W
open PySem PySem.Spec PyProof.Rows L2 PL
theorem pages_to {rs : List Rec} {ps : List Str} (hl : Log rs) (hp : ps ∈ PAGES) (hr : ∀ r ∈ rs, r.page ∈ ps) (h1 : rs.length < 1000) (h2 : top 0 rs ≤ 2 * 10 ^ 9 * rs.length) : Ready rs ps :=
  ⟨hl, fun r h => (pages_fine ps hp).2 _ (hr r h), by omega, Int.lt_of_le_of_lt h2 (by omega), hr⟩
theorem range_len (rs : List Rec) : rngD (((rs.map Rec.enc).length : Int) + 1) = (List.range (rs.length + 1)).map natD := by
  unfold rngD
  rw [List.length_map, show (((rs.length : Int) + 1).toNat) = rs.length + 1 by omega]
theorem cut_take {α : Type} {xs : List α} {j : Nat} (h : j ≤ xs.length) : cutL xs none (some (j : Int)) = xs.take j := by
  unfold cutL
  rw [HT.sIx_none, HT.sIx_nat, List.drop_zero, Nat.sub_zero, Nat.min_eq_left h]
theorem Ready.take {rs : List Rec} {all : List Str} (h : Ready rs all) (j : Nat) : Ready (rs.take j) all :=
  ⟨h.log.take j, fun r hr => h.fine r (List.mem_of_mem_take hr), by rw [List.length_take]; have := h.few; omega, Int.lt_of_le_of_lt (top_take h.log j) h.top, fun r hr => h.pages r (List.mem_of_mem_take hr)⟩
theorem own_neat {rs : List Rec} {all : List Str} (h : Ready rs all) (p : Str) : Neat 1 700 (encO (run st0 rs p)) := encO_neat (life_of rs p) (bd_log h.log p) h.top
theorem mul3 (o : D) (S : Sto) : bin2 gMul (.d (.list [o])) (.d (.int 3)) S = some (.list [o, o, o]) := by
  show (if -(2 ^ 63) ≤ (3 : Int) ∧ (3 : Int) < 2 ^ 63 ∧ [o].length * (3 : Int).toNat ≤ sizeLine then some (PyData.list (List.replicate (3 : Int).toNat [o]).flatten) else none) = _
  rw [if_pos ⟨by decide, by decide, Nat.le_of_ble_eq_true rfl⟩]
  rfl
theorem ix0L (o : D) (xs : List D) (S : Sto) : ixR (.d (.list (o :: xs))) (.d (.int 0)) S = some o := by
  show atI (o :: xs) 0 = _
  unfold atI ixN
  rw [if_pos (by decide), if_pos (by rw [List.length_cons]; omega)]; rfl
def isNum (v : D) : Prop := v = .none ∨ ∃ m : Int, v = .int m
theorem eqv_int (m : Int) : PyData.eqv (.int m) (.int m) = true := by
  show (m == m) = true
  exact beq_self_eq_true m
theorem ne_num {v : D} (h : isNum v) (S : Sto) : bin2 (gCmp .NotEq) (.d v) (.d v) S = some (.bool false) := by
  rcases h with rfl | ⟨m, rfl⟩
  · rfl
  · show some (PyData.bool (!PyData.eqv (.int m) (.int m))) = _
    rw [eqv_int]; rfl
theorem in_num {v w : D} (h : isNum v) (hw : w = .none ∨ w = v) (S : Sto) : bin2 (gCmp .NotIn) (.d w) (.d (.tuple [.none, v])) S = some (.bool false) := by
  rcases hw with rfl | rfl
  · rcases h with rfl | ⟨m, rfl⟩ <;> rfl
  · rcases h with rfl | ⟨m, rfl⟩
    · rfl
    · show some (PyData.bool (!(PyData.eqv .none (.int m) || (PyData.eqv (.int m) (.int m) || false)))) = _
      rw [eqv_int, Bool.true_or, Bool.or_true]; rfl
theorem lastN_num {rs : List Rec} {p : Str} : isNum (lastN rs p) := by
  unfold lastN nums
  cases h : ((rs.filter (isOf p PW)).map numR).getLast? with
  | none => exact .inl rfl
  | some v =>
    have := List.mem_of_getLast? h
    obtain ⟨r, _, rfl⟩ := List.mem_map.mp this
    cases r with
    | keep p m => exact .inr ⟨m, rfl⟩
    | write p m => exact .inr ⟨m, rfl⟩
    | plain p m => exact .inr ⟨m, rfl⟩
    | free p => exact .inl rfl
    | strike p => exact .inl rfl
theorem last_num (rs : List Rec) (p : Str) : ([PyData.none] ++ nums rs p).getLast? = some (lastN rs p) := by
  unfold lastN
  rcases List.eq_nil_or_concat (nums rs p) with h | ⟨l, x, h⟩
  · rw [h]; rfl
  · rw [h, List.concat_eq_append, ← List.append_assoc, List.getLast?_concat, List.getLast?_concat]; rfl
theorem turn_nums (n : Nat) (S : Sto) (L : Loc) (p : Str) (r : Rec) (l8 : Option R) (hL : L = [L[0]!, L[1]!, L[2]!, L[3]!, L[4]!, L[5]!, L[6]!, L[7]!, l8, some (.d (.str p)), L[10]!, L[11]!, L[12]!]) :
    turn (callN fns n) [8] (.one 8) (.cons (.bop true (.cmp .Eq (.ix (.loc 8) (.int 1)) (.loc 9)) (.cons (.cmp .In (.ix (.loc 8) (.int 0)) (.tup (.cons (.str "keep") (.cons (.str "write") .nil)))) .nil)) .nil) (.ix (.loc 8) (.int 2)) L r.enc S = some (if isOf p PW r = true then some (numR r) else none, S) := by
  rw [hL]
  cases r <;> (refine turn_eq rfl ?_; dsimp only [Rec.enc]; nofun) <;> first
    | (exfalso; rename_i hb; exact absurd hb (by decide))
    | refine ⟨_, rfl, ?_, rfl⟩
    | refine ⟨?_, rfl⟩
  all_goals (simp_all [isOf, Rec.page, Rec.word, numR])
end PL.W
end
section
set_option maxHeartbeats 4000000
open PL PySem PySem.Spec PyProof.Rows L2
local macro_rules | `(tactic| left) => `(tactic| (first
  | with_reducible refine ws_asg ?_ | with_reducible refine ws_asgL ?_ | with_reducible refine ws_par ?_ | with_reducible refine ws_parC ?_ | with_reducible refine ws_unp ?_ | with_reducible refine ws_dset ?_
  | with_reducible refine ws_expr ?_ | with_reducible refine ws_ret ?_ | with_reducible refine ws_ret0 ?_ | with_reducible refine ws_pass ?_ | with_reducible refine ws_brk ?_ | with_reducible refine ws_cont ?_ | with_reducible refine ws_if ?_ | with_reducible refine ws_for ?_ | with_reducible refine ws_nil ?_
  | with_reducible refine we_int ?_ | with_reducible refine we_str ?_ | with_reducible refine we_bl ?_ | with_reducible refine we_non ?_ | with_reducible refine we_gd ?_
  | ((with_reducible apply we_loc); rfl)
  | with_reducible refine we_bin ?_ | with_reducible refine we_cmp ?_ | with_reducible refine we_cmp2 ?_ | with_reducible refine we_bop ?_ | with_reducible refine wb_nil ?_ | with_reducible refine wb_cons ?_ | with_reducible refine we_not ?_ | with_reducible refine we_neg ?_ | with_reducible refine we_ite ?_
  | with_reducible refine we_tup ?_ | with_reducible refine we_lst ?_ | with_reducible refine we_lstR ?_ | with_reducible refine we_dic0 ?_ | with_reducible refine we_dic ?_ | with_reducible refine we_ix ?_ | with_reducible refine we_sl ?_ | with_reducible refine wo_no ?_ | with_reducible refine wo_so ?_
  | with_reducible refine we_bi ?_ | with_reducible refine we_isi ?_ | with_reducible refine we_call ?_ | with_reducible refine we_callK ?_ | with_reducible refine we_comp ?_ | with_reducible refine we_compR ?_ | with_reducible refine we_get2 ?_ | with_reducible refine we_app ?_ | with_reducible refine we_ext ?_ | with_reducible refine we_join ?_
  | with_reducible refine we_gget2 ?_ | with_reducible refine we_gget ?_ | with_reducible refine we_gix ?_ | with_reducible refine we_gin ?_ | with_reducible refine we_sset ?_ | with_reducible refine we_sortd ?_ | with_reducible refine we_dcopy ?_ | with_reducible refine we_dlist ?_ | with_reducible refine we_deq0 ?_ | with_reducible refine we_upd ?_ | with_reducible refine we_compd ?_ | with_reducible refine ws_ford ?_ | with_reducible refine we_rev ?_ | with_reducible refine we_reprL ?_ | ((with_reducible apply lfV); rfl; exact Nat.le_of_ble_eq_true rfl) | with_reducible refine wes_nil ?_ | with_reducible refine wes_cons ?_ | with_reducible refine wt_nil ?_ | with_reducible refine wt_one ?_
  | with_reducible refine wi_rng ?_ | with_reducible refine wi_rng2 ?_ | with_reducible refine wi_zip ?_ | with_reducible refine wi_enm ?_ | with_reducible refine wi_seq ?_
  | with_reducible refine then_nx ?_ | with_reducible refine then_bk ?_ | with_reducible refine then_ct ?_ | with_reducible refine then_rt ?_ | with_reducible refine qf_same ?_ | with_reducible refine qf_app ?_ | ((with_reducible apply qf_cons); rfl) | ((with_reducible apply qf_consA); rfl) | with_reducible refine qf_ref ?_ | with_reducible refine qf_d ?_ | with_reducible refine qf_nxS ?_ | with_reducible refine qf_nxA ?_ | with_reducible refine qf_nx ?_
  | ((with_reducible apply wk_eq); with_reducible assumption)
  | (with_reducible refine limp (fun hb => ?_) (fun hb => ?_) <;> (first | (cases hb; done) | (simp only [Bool.not_false, Bool.not_true, Bool.true_eq_false, Bool.false_eq_true, reduceCtorEq] at hb; done) | cases hb | ((try simp only [Bool.not_false, Bool.not_true] at hb); (try rw [hb]))))
  | with_reducible refine lf_add ?_ | with_reducible refine lf_sub ?_ | ((with_reducible apply lf_mod); (first | assumption | decide)) | ((with_reducible apply lf_div); (first | assumption | decide)) | with_reducible refine lf_lt ?_ | with_reducible refine lf_le ?_ | with_reducible refine lf_gt ?_ | with_reducible refine lf_ge ?_ | with_reducible refine lf_eqI ?_ | with_reducible refine lf_neI ?_ | with_reducible refine lf_eqSame ?_ | with_reducible refine lf_neSame ?_ | with_reducible refine lf_eqS ?_ | with_reducible refine lf_neS ?_
  | with_reducible refine lf_isN ?_ | with_reducible refine lf_isI ?_ | with_reducible refine lf_isnN ?_ | with_reducible refine lf_isnI ?_ | with_reducible refine lf_tb ?_ | with_reducible refine lf_tl ?_ | with_reducible refine lf_tt ?_ | with_reducible refine lf_int ?_ | with_reducible refine lf_lenL ?_ | with_reducible refine lf_lenT ?_ | ((with_reducible apply lf_lenS); assumption) | with_reducible refine lf_tupL ?_ | with_reducible refine lf_tupT ?_ | with_reducible refine lf_listL ?_ | with_reducible refine lf_listT ?_ | with_reducible refine lf_view ?_ | with_reducible refine lf_in2 ?_ | with_reducible refine lf_in3 ?_ | with_reducible refine lf_inM ?_ | with_reducible refine lf_ix0T ?_ | with_reducible refine lf_ix1T ?_ | with_reducible refine lf_ix2T ?_ | with_reducible refine lf_sl1 ?_ | with_reducible refine lf_slL ?_ | with_reducible refine lf_slT ?_
  | ((with_reducible apply lf_pow); decide) | with_reducible refine lf_mul ?_ ?_ | with_reducible refine lf_pow ?_ ?_ | ((with_reducible apply lf_addT); exact Nat.le_of_ble_eq_true rfl) | ((with_reducible apply lf_addL); exact Nat.le_of_ble_eq_true rfl) | with_reducible refine lf_addT ?_ ?_ | with_reducible refine lf_addL ?_ ?_
  | ((with_reducible apply lf2); rfl; rfl) | ((with_reducible apply lf3); rfl; exact Nat.le_of_ble_eq_true rfl) | ((with_reducible apply lf4); rfl; decide) | ((with_reducible apply lfU); rfl; rfl)
  | with_reducible refine ls_l ?_ | with_reducible refine ls_t ?_ | with_reducible refine ls_s ?_ | ((with_reducible apply ls_r); rfl) | with_reducible refine le_l ?_ | with_reducible refine le_t ?_ | with_reducible refine le_s ?_ | with_reducible refine lz_l ?_ | with_reducible refine lz_t ?_
  | ((with_reducible apply lfR); (first | decide | omega)) | ((with_reducible apply lfR2); (first | decide | omega)) | with_reducible refine lfI ?_
  | ((with_reducible apply lf); rfl) | ((with_reducible apply lfB); rfl) | ((with_reducible apply land); rfl)))
local macro_rules | `(tactic| nofun) => `(tactic| repeat' left)
theorem PL.W.nil_neL (S : PL.Sto) : PL.bin2 (PL.gCmp .NotEq) (.d (.list [])) (.d (.list [])) S = some (.bool false) := rfl
theorem PL.W.nil_neT (S : PL.Sto) : PL.bin2 (PL.gCmp .NotEq) (.d (.tuple [])) (.d (.tuple [])) S = some (.bool false) := rfl
local macro_rules | `(tactic| left) => `(tactic| first | with_reducible refine lf (PL.W.nil_neL _) ?_ | with_reducible refine lf (PL.W.nil_neT _) ?_ | with_reducible refine lf (PL.W.rec_ix0 _ _) ?_ | with_reducible refine lf (PL.W.rec_ix1 _ _) ?_ | with_reducible refine lf (PL.W.ix0L _ _ _) ?_ | with_reducible refine lf (PL.W.ix_last (by assumption) _) ?_ | with_reducible refine lf (PL.W.ne_num (by assumption) _) ?_ | with_reducible refine lf (PL.W.in_num (by assumption) (by assumption) _) ?_ | with_reducible refine lf2 rfl (PL.W.mul3 _ _) ?_)
namespace PL.W
open PySem PySem.Spec PyProof.Rows L2 PL
def PgI (l0 l1 l2 l3 l4 l5 l6 l7 : Option R) (S : Sto) (ds : List D) (L : Loc) (S' : Sto) : Prop := ∃ (ps : List Str) (l8 l9 l10 l11 l12 : Option R), ds = ps.map .str ∧ (∀ p ∈ ps, pageB p = true) ∧ L = [l0, l1, l2, l3, l4, l5, l6, l7, l8, l9, l10, l11, l12] ∧ S' = S
abbrev encT (rs : List Rec) : D := .tuple (rs.map Rec.enc)
theorem pageT (n : Nat) {rs less bare : List Rec} {all : List Str} (R0 : Ready rs all) (h1 : SubS rs less) (h2 : SubS rs bare) (hb : ∀ r ∈ bare, notS r = true) (S : Sto) (l0 l1 l2 l3 l5 : Option R) (tg : List Sx)
    (htg : ∃ tl : List Sx, b_law = b_law.take 2 ++ [.fors (.one 3) (.rng (.int 3)) tl] ++ b_law.drop 3 ∧ tl = tl.take 5 ++ [.fors (.one 9) (.seq (.loc 2)) tg] ++ tl.drop 6)
    (d : D) (r : List D) (L : Loc) (S' : Sto) (h : PgI l0 l1 l2 l3 (some (.d (encT rs))) l5 (some (.d (encT less))) (some (.d (encT bare))) S (d :: r) L S') : ∃ g L' S'', lapT (callN fns (n + 8)) (.one 9) tg d L S' = some (g, L', S'') ∧ (g = .nx ∨ g = .ct) ∧ lockB none S'' = true ∧ PgI l0 l1 l2 l3 (some (.d (encT rs))) l5 (some (.d (encT less))) (some (.d (encT bare))) S r L' S'' := by
  obtain ⟨tl, ht, htg⟩ := htg
  cases ht
  cases htg
  obtain ⟨ps, l8, l9, l10, l11, l12, hd, hps, rfl, rfl⟩ := h
  cases ps with
  | nil => cases hd
  | cons p ps =>
    rw [List.map_cons] at hd
    injection hd with hd1 hd2
    subst hd1 hd2
    have hp := hps p List.mem_cons_self
    have hl : rs.length ≤ sizeLine := Nat.le_trans (Nat.le_of_lt R0.few) (by decide)
    have z : (4000 : Nat) ≤ sizeLine := by decide
    have R1 := h1.ready R0
    have R2 := h2.ready R0
    have ow : ∀ x ∈ [rs, less, bare], callN fns (n + 8) i_life_in [.d (encT x), .d (.str p)] S' = some (.d (.str (run st0 rs p).life), S') ∧ callN fns (n + 8) i_owner_in [.d (encT x), .d (.str p)] S' = some (.d (.int (run st0 rs p).owner), S') ∧ callN fns (n + 8) i_due_in [.d (encT x), .d (.str p)] S' = some (.d (dueD (run st0 rs p)), S') := by
      intro x hx
      have key : ∀ {y : List Rec}, Ready y all → run st0 y = run st0 rs → callN fns (n + 8) i_life_in [.d (encT y), .d (.str p)] S' = some (.d (.str (run st0 rs p).life), S') ∧ callN fns (n + 8) i_owner_in [.d (encT y), .d (.str p)] S' = some (.d (.int (run st0 rs p).owner), S') ∧ callN fns (n + 8) i_due_in [.d (encT y), .d (.str p)] S' = some (.d (dueD (run st0 rs p)), S') := by
        intro y Ry ey
        have t := told Ry.log p
        rw [ey] at t
        have hn : y.length < sizeLine := Nat.lt_of_lt_of_le Ry.few z
        exact ⟨t_lifein n Ry.log Ry.fine hn hp t, t_ownerin n Ry.log Ry.fine hn hp t, t_duein n Ry.log Ry.fine hn hp t⟩
      simp only [List.mem_cons, List.not_mem_nil, or_false] at hx
      rcases hx with rfl | rfl | rfl
      · exact key R0 rfl
      · exact key R1.1 R1.2
      · exact key R2.1 R2.2
    have e1 := t_putin (S := S') n R2.1.log R2.1.fine (Nat.lt_of_lt_of_le R2.1.few z) (a := 0) (by omega) hp
    have e2 := t_putin (S := S') n R0.log R0.fine (Nat.lt_of_lt_of_le R0.few z) (a := 0) (by omega) hp
    rw [put_bare p bare hb, lastN_sub h2] at e1
    have hv := lastN_num (rs := rs) (p := p)
    have hw := put_last p rs
    have no := own_neat R0 p
    have nl : Neat 2 3000 (.list [encO (run st0 rs p), encO (run st0 rs p), encO (run st0 rs p)]) := neat_list (k := 1) (w := 700) (fun d hd => by
      simp only [List.mem_cons, List.not_mem_nil, or_false, or_self] at hd
      subst hd; exact no) (Nat.le_of_ble_eq_true rfl)
    have hlast := last_num rs p
    refine lap_of rfl ?_
    nofun
    show WL none _ ([rs, less, bare].map encT) _ _
    refine loop_every (fun _ => encO (run st0 rs p)) (Nat.le_of_ble_eq_true rfl) (fun x hx => ?_) ?_
    · obtain ⟨o1, o2, o3⟩ := ow x hx
      refine turn_eq rfl ?_
      nofun
      exact ⟨_, rfl, rfl, rfl⟩
    rw [show [rs, less, bare].map (fun _ => encO (run st0 rs p)) = [encO (run st0 rs p), encO (run st0 rs p), encO (run st0 rs p)] from rfl]
    nofun
    refine lf_repr nl (by decide) (by decide) ?_
    nofun
    refine lf_repr nl (by decide) (by decide) ?_
    nofun
    refine loop_filter (isOf p PW) numR hl (fun q _ => turn_nums _ S' _ p q l8 rfl) ?_
    refine lf_addL ?_ ?_
    · rw [List.length_map]
      have := List.length_filter_le (isOf p PW) rs
      have := R0.few
      simp only [List.length_cons, List.length_nil]; omega
    rw [show (rs.filter (isOf p PW)).map numR = nums rs p from rfl]
    nofun
    refine wk_eq e1 ?_
    nofun
    refine wk_eq e2 ?_
    nofun
    exact ⟨.inl rfl, rfl, ps, _, _, _, _, _, rfl, fun q hq => hps q (List.mem_cons_of_mem _ hq), rfl, rfl⟩
end PL.W
end
section
set_option maxHeartbeats 4000000
open PL PySem PySem.Spec PyProof.Rows L2
local macro_rules | `(tactic| left) => `(tactic| (first
  | with_reducible refine ws_asg ?_ | with_reducible refine ws_asgL ?_ | with_reducible refine ws_par ?_ | with_reducible refine ws_parC ?_ | with_reducible refine ws_unp ?_ | with_reducible refine ws_dset ?_
  | with_reducible refine ws_expr ?_ | with_reducible refine ws_ret ?_ | with_reducible refine ws_ret0 ?_ | with_reducible refine ws_pass ?_ | with_reducible refine ws_brk ?_ | with_reducible refine ws_cont ?_ | with_reducible refine ws_if ?_ | with_reducible refine ws_for ?_ | with_reducible refine ws_nil ?_
  | with_reducible refine we_int ?_ | with_reducible refine we_str ?_ | with_reducible refine we_bl ?_ | with_reducible refine we_non ?_ | with_reducible refine we_gd ?_
  | ((with_reducible apply we_loc); rfl)
  | with_reducible refine we_bin ?_ | with_reducible refine we_cmp ?_ | with_reducible refine we_cmp2 ?_ | with_reducible refine we_bop ?_ | with_reducible refine wb_nil ?_ | with_reducible refine wb_cons ?_ | with_reducible refine we_not ?_ | with_reducible refine we_neg ?_ | with_reducible refine we_ite ?_
  | with_reducible refine we_tup ?_ | with_reducible refine we_lst ?_ | with_reducible refine we_lstR ?_ | with_reducible refine we_dic0 ?_ | with_reducible refine we_dic ?_ | with_reducible refine we_ix ?_ | with_reducible refine we_sl ?_ | with_reducible refine wo_no ?_ | with_reducible refine wo_so ?_
  | with_reducible refine we_bi ?_ | with_reducible refine we_isi ?_ | with_reducible refine we_call ?_ | with_reducible refine we_callK ?_ | with_reducible refine we_comp ?_ | with_reducible refine we_compR ?_ | with_reducible refine we_get2 ?_ | with_reducible refine we_app ?_ | with_reducible refine we_ext ?_ | with_reducible refine we_join ?_
  | with_reducible refine we_gget2 ?_ | with_reducible refine we_gget ?_ | with_reducible refine we_gix ?_ | with_reducible refine we_gin ?_ | with_reducible refine we_sset ?_ | with_reducible refine we_sortd ?_ | with_reducible refine we_dcopy ?_ | with_reducible refine we_dlist ?_ | with_reducible refine we_deq0 ?_ | with_reducible refine we_upd ?_ | with_reducible refine we_compd ?_ | with_reducible refine ws_ford ?_ | with_reducible refine we_rev ?_ | with_reducible refine we_reprL ?_ | ((with_reducible apply lfV); rfl; exact Nat.le_of_ble_eq_true rfl) | with_reducible refine wes_nil ?_ | with_reducible refine wes_cons ?_ | with_reducible refine wt_nil ?_ | with_reducible refine wt_one ?_
  | with_reducible refine wi_rng ?_ | with_reducible refine wi_rng2 ?_ | with_reducible refine wi_zip ?_ | with_reducible refine wi_enm ?_ | with_reducible refine wi_seq ?_
  | with_reducible refine then_nx ?_ | with_reducible refine then_bk ?_ | with_reducible refine then_ct ?_ | with_reducible refine then_rt ?_ | with_reducible refine qf_same ?_ | with_reducible refine qf_app ?_ | ((with_reducible apply qf_cons); rfl) | ((with_reducible apply qf_consA); rfl) | with_reducible refine qf_ref ?_ | with_reducible refine qf_d ?_ | with_reducible refine qf_nxS ?_ | with_reducible refine qf_nxA ?_ | with_reducible refine qf_nx ?_
  | ((with_reducible apply wk_eq); with_reducible assumption)
  | (with_reducible refine limp (fun hb => ?_) (fun hb => ?_) <;> (first | (cases hb; done) | (simp only [Bool.not_false, Bool.not_true, Bool.true_eq_false, Bool.false_eq_true, reduceCtorEq] at hb; done) | cases hb | ((try simp only [Bool.not_false, Bool.not_true] at hb); (try rw [hb]))))
  | with_reducible refine lf_add ?_ | with_reducible refine lf_sub ?_ | ((with_reducible apply lf_mod); (first | assumption | decide)) | ((with_reducible apply lf_div); (first | assumption | decide)) | with_reducible refine lf_lt ?_ | with_reducible refine lf_le ?_ | with_reducible refine lf_gt ?_ | with_reducible refine lf_ge ?_ | with_reducible refine lf_eqI ?_ | with_reducible refine lf_neI ?_ | with_reducible refine lf_eqSame ?_ | with_reducible refine lf_neSame ?_ | with_reducible refine lf_eqS ?_ | with_reducible refine lf_neS ?_
  | with_reducible refine lf_isN ?_ | with_reducible refine lf_isI ?_ | with_reducible refine lf_isnN ?_ | with_reducible refine lf_isnI ?_ | with_reducible refine lf_tb ?_ | with_reducible refine lf_tl ?_ | with_reducible refine lf_tt ?_ | with_reducible refine lf_int ?_ | with_reducible refine lf_lenL ?_ | with_reducible refine lf_lenT ?_ | ((with_reducible apply lf_lenS); assumption) | with_reducible refine lf_tupL ?_ | with_reducible refine lf_tupT ?_ | with_reducible refine lf_listL ?_ | with_reducible refine lf_listT ?_ | with_reducible refine lf_view ?_ | with_reducible refine lf_in2 ?_ | with_reducible refine lf_in3 ?_ | with_reducible refine lf_inM ?_ | with_reducible refine lf_ix0T ?_ | with_reducible refine lf_ix1T ?_ | with_reducible refine lf_ix2T ?_ | with_reducible refine lf_sl1 ?_ | with_reducible refine lf_slL ?_ | with_reducible refine lf_slT ?_
  | ((with_reducible apply lf_pow); decide) | with_reducible refine lf_mul ?_ ?_ | with_reducible refine lf_pow ?_ ?_ | ((with_reducible apply lf_addT); exact Nat.le_of_ble_eq_true rfl) | ((with_reducible apply lf_addL); exact Nat.le_of_ble_eq_true rfl) | with_reducible refine lf_addT ?_ ?_ | with_reducible refine lf_addL ?_ ?_
  | ((with_reducible apply lf2); rfl; rfl) | ((with_reducible apply lf3); rfl; exact Nat.le_of_ble_eq_true rfl) | ((with_reducible apply lf4); rfl; decide) | ((with_reducible apply lfU); rfl; rfl)
  | with_reducible refine ls_l ?_ | with_reducible refine ls_t ?_ | with_reducible refine ls_s ?_ | ((with_reducible apply ls_r); rfl) | with_reducible refine le_l ?_ | with_reducible refine le_t ?_ | with_reducible refine le_s ?_ | with_reducible refine lz_l ?_ | with_reducible refine lz_t ?_
  | ((with_reducible apply lfR); (first | decide | omega)) | ((with_reducible apply lfR2); (first | decide | omega)) | with_reducible refine lfI ?_
  | ((with_reducible apply lf); rfl) | ((with_reducible apply lfB); rfl) | ((with_reducible apply land); rfl)))
local macro_rules | `(tactic| nofun) => `(tactic| repeat' left)
namespace PL.W
open PySem PySem.Spec PyProof.Rows L2 PL
theorem range_ne (a : Int) (S : Sto) : bin2 (gCmp .NotEq) (.d (.int a)) (.d (.int a)) S = some (.bool false) := by
  show some (PyData.bool (!PyData.eqv (.int a) (.int a))) = _
  rw [eqv_int]; rfl
end PL.W
local macro_rules | `(tactic| left) => `(tactic| first | with_reducible refine lf (PL.W.nil_neL _) ?_ | with_reducible refine lf (PL.W.nil_neT _) ?_ | with_reducible refine lf (PL.W.range_ne _ _) ?_ | with_reducible refine lf (PL.W.rec_ix0 _ _) ?_ | with_reducible refine lf (PL.W.rec_ix1 _ _) ?_)
namespace PL.W
open PySem PySem.Spec PyProof.Rows L2 PL
def LapI (scr : Option R) (k : Int) (ps : List Str) (ds : List D) (L : Loc) (S : Sto) : Prop := ∃ l3 l4 l5 l6 l7 l8 l9 l10 l11 l12, ds.length ≤ 3 ∧ L = [scr, some (.ref 0), some (.d (.list (ps.map .str))), l3, l4, l5, l6, l7, l8, l9, l10, l11, l12] ∧ Sp [] (k + 5000 * (3 - ds.length)) S
theorem lapsT (n : Nat) {k : Int} (hk : k < 2 ^ 30) (scr : Option R) {ps : List Str} (hp : ps ∈ PAGES) (tg : List Sx) (htg : b_law = b_law.take 2 ++ [.fors (.one 3) (.rng (.int 3)) tg] ++ b_law.drop 3)
    (d : D) (r : List D) (L : Loc) (S : Sto) (h : LapI scr k ps (d :: r) L S) : ∃ g L' S', lapT (callN fns (n + 9)) (.one 3) tg d L S = some (g, L', S') ∧ (g = .nx ∨ g = .ct) ∧ lockB none S' = true ∧ LapI scr k ps r L' S' := by
  have htg' := htg
  cases htg
  obtain ⟨l3, l4, l5, l6, l7, l8, l9, l10, l11, l12, hd, rfl, hS⟩ := h
  rw [List.length_cons] at hd
  have hS2 : Sp [] (k + 5000 * (3 - (r.length + 1 : Nat))) S := hS
  obtain ⟨rs, S1, e1, hl, hr, hm, ht, h1⟩ := logS (n + 6) hS2 (by omega) hp (m := 12) (by decide) (by decide)
  have rd := pages_to hl hp hr (by omega) ht
  have hp3 := pages_fine ps hp
  have z : (4000 : Nat) ≤ sizeLine := by decide
  have hn : rs.length < sizeLine := Nat.lt_of_lt_of_le rd.few z
  have er := range_len rs
  obtain ⟨less, S2, e2, hs, h2⟩ := fewerS (n + 7) h1 (by omega) (rs := rs) (by omega)
  have hbs := bare_sub rs
  have Rl := (hs.ready rd).1
  have Rb := (hbs.ready rd).1
  have hbn : ∀ r ∈ rs.filter notS, notS r = true := fun r hr => (List.mem_filter.mp hr).2
  have e3 := t_letslog (n + 3) S2 Rl.log Rl.fine (Nat.lt_of_lt_of_le Rl.few z)
  have e4 := t_letslog (n + 3) S2 Rb.log Rb.fine (Nat.lt_of_lt_of_le Rb.few z)
  rw [← (List.length_map Rec.enc : (less.map Rec.enc).length = less.length)] at e3
  rw [← (List.length_map Rec.enc : ((rs.filter notS).map Rec.enc).length = (rs.filter notS).length)] at e4
  have e5 := t_struckin (S := S2) (n + 1) Rb.log Rb.fine (by have := hbs.len; omega) (a := 0) (by omega)
  rw [gone_bare hbn, List.map_nil] at e5
  have all64 : ps.length < 64 := by omega
  have e6 := t_points n rd all64 S2
  have e7 := t_points n Rl all64 S2
  have e8 := t_nothing n rd S2 hp3.2
  have e9 := t_nothing n Rl S2 hp3.2
  refine lap_of rfl ?_
  nofun
  refine ⟨by rw [List.length_map]; omega, rfl, ?_⟩
  rw [er]
  refine loop_filter (fun _ => false) natD (by rw [List.length_range]; omega) (fun j hj => ?_) ?_
  · rw [List.mem_range] at hj
    have Rj := rd.take j
    have ej := t_letslog (n + 3) S1 Rj.log Rj.fine (Nat.lt_of_lt_of_le Rj.few z)
    have ec : cutL (rs.map Rec.enc) none (some (j : Int)) = (rs.take j).map Rec.enc := by rw [cut_take (by rw [List.length_map]; omega), List.map_take]
    rw [show (rs.take j).length = j by rw [List.length_take]; omega] at ej
    refine turn_eq rfl ?_
    nofun
    rw [ec]
    refine wk_eq ej ?_
    nofun
    exact ⟨rfl, rfl⟩
  rw [show ((List.range (rs.length + 1)).filter (fun _ => false)).map natD = [] by simp]
  nofun
  refine loop_filter notS Rec.enc (by omega) (fun q _ => ?_) ?_
  · cases q <;> (refine turn_eq rfl ?_; dsimp only [Rec.enc]; nofun) <;> first
      | (exfalso; rename_i hb; exact absurd hb (by decide))
      | exact ⟨_, rfl, rfl, rfl⟩
      | exact ⟨rfl, rfl⟩
  nofun
  refine for_to (PgI scr (some (.ref 0)) (some (.d (.list (ps.map .str)))) (some (.d d)) (some (.d (encT rs))) l5 (some (.d (encT less))) (some (.d (encT (rs.filter notS)))) S2) ⟨ps, l8, l9, l10, l11, l12, rfl, hp3.2, rfl, rfl⟩ (fun d' r' L' S' => pageT (n + 1) rd hs hbs hbn S2 scr _ _ _ _ _ ⟨_, htg', rfl⟩ d' r' L' S') ?_
  rintro L' S' ⟨ps', l8', l9', l10', l11', l12', _, _, rfl, rfl⟩
  nofun
  refine wk_eq e5 ?_
  nofun
  exact ⟨.inl rfl, rfl, _, _, _, _, _, _, _, _, _, _, by omega, rfl, h2.mono (by omega)⟩
theorem law_true (n : Nat) (ns : List Int) : ∃ S', callN fns (n + 10) i_law [.scr ns] [] = some (.d (.bool true), S') := by
  have e0 : callN fns (n + 9) i_law_spring [.scr ns] [] = some (.ref 0, [spO (cutL ns none (some 60)) 0 0 0]) := rfl
  have h0 : Sp [] 0 [spO (cutL ns none (some 60)) 0 0 0] := ⟨_, _, _, _, rfl, Int.le_refl _, Int.le_refl _⟩
  obtain ⟨ps, hp, S1, e1, h1⟩ := pagesS (n + 6) h0 (by decide)
  have main : WC fns (n + 10) i_law [.scr ns] [] fun x S' => x = .d (.bool true) := by
    refine c_law ?_
    nofun
    refine for_to (LapI (some (.scr ns)) 1 ps) ⟨none, none, none, none, none, none, none, none, none, none, Nat.le_refl _, rfl, h1.mono (by decide)⟩ (fun d r L S h => lapsT n (by decide) _ hp _ rfl d r L S h) ?_
    rintro L' S' ⟨l3, l4, l5, l6, l7, l8, l9, l10, l11, l12, _, rfl, hS⟩
    nofun
    exact rfl
  obtain ⟨x, S', e, rfl⟩ := main
  exact ⟨S', e⟩
end PL.W
end
section
set_option maxHeartbeats 0
namespace PL.W
open PySem PySem.Spec PyProof.Rows L2 PL
theorem cks : (T.fns.zip srcs).all (fun p => ckFn T p.1 p.2) = true := by kernel_rfl
end PL.W
open PySem PySem.W PySem.Calls PyProof.Rows
theorem PySem.Challenge.cw_pagelives_k05_whole_parts_of_logs_holds : PySem.Challenge.rw_pagelives_k05_whole_parts_of_logs.Holds := by
  w_on; o_law
  refine HandSHeadRun.head_any (r := PL.W.Rw) (q := view PL.W.Rw.prog [PL.W.lawAt]) (H := PL.W.hk) (ob := PL.W.ob) (M := 4000) (loose := PL.W.names) (d := HandSHeadRun.topDef PL.W.Rw.prog PL.W.lawAt) (kwd := []) PL.W.ob_eq
    (by kernel_rfl) (fun s => by kernel_rfl) PL.W.hrun (by kernel_rfl) (by kernel_rfl) (by kernel_rfl) (by rfl) (by first | assumption | decide +kernel) (by decide +kernel) ⟨rfl, rfl, rfl, rfl, rfl, by decide +kernel⟩ ?hw ?hc
  case hw => w_witness2
  case hc =>
    refine PL.walk_pl (l := PySem.Challenge.rw_pagelives_k05_whole_parts_of_logs) (n := 63) (k := 20) (i := PL.W.i_law) (T := PL.W.T) (src := PL.W.srcs) (D := PL.W.f_law) (x := "_law_script") rfl (by decide) (by kernel_rfl) ⟨rfl, by decide, by decide⟩ rfl (by kernel_rfl) rfl ?F (fun ns _ _ => PL.W.law_true 10 ns)
    intro w mg fa h Y G hmg
    obtain ⟨K, KX, c⟩ := Y
    exact ⟨K, KX, PL.txt_of KX G c PL.W.cks rfl⟩
end
