import PyProof.Rows.All
import Wide.All
import OpenK.AllK
import Wide.FinOn
import HandS.Base
import HandS.Call
import HandS.List
import HandS.Comp
import HandS.Dict
import HandS.Iter
import HandS.Text
import HandS.Flow
import HandS.Words
import HandS.More
import HandS.RaiseMore
import HandS.WrittenGet
import PyProof.ReprRoads
import HandS.Wide
import HandS.IsInst
import HandS.Deep
import HandS.TupAny
import HandS.Conv
import HandS.Zip
import HandS.Defaults
import HandS.EndBits
import HandS.Head0
import HandS.Head1
import HandS.Head2
import HandS.HeadEnd
import HandS.HeadHook1
import HandS.HeadHook2
import HandS.HeadHook3
import HandS.HeadHook4
import KE.KStateDown
import Lean
import PySem.Challenge.RW_pagelives_k09_texts_written
set_option Elab.async false
set_option linter.all false
set_option maxRecDepth 100000
set_option maxHeartbeats 2000000
namespace PL
open PySem PySem.Spec PyProof.Rows L2

abbrev D := PyData
/-- a value of the machine of plain data: a datum, or the n-th changing thing -/
inductive R where
  | d (x : D)
  | ref (n : Nat)
  | scr (ns : List Int)
/-- a changing thing: it holds data alone -/
inductive Ob where
  | lst (xs : List D)
  | dic (kvs : List (Key × D))
abbrev Sto := List Ob
abbrev Loc := List (Option R)

theorem same_upd {H : Hp} {p : Addr} {o : HO} (h : H p = none) : Same H (upd H p o) := by
  intro b x e
  rw [upd_ne (ne_of_none e h)]; exact e

mutual
/-- a datum, by what never changes -/
inductive DV (K : PySem.W.Frag) (G : Hp) : V → D → Prop
  | non : DV K G .non .none
  | bl (b : Bool) : DV K G (.bl b) (.bool b)
  | int (i : Int) : DV K G (.int i) (.int i)
  | str (x : Str) : DV K G (.str x) (.str x)
  | lst {a : Addr} {xs : List V} {ds : List D} : G a = some (.lst xs) → DVs K G xs ds → DV K G (.ref a) (.list ds)
  | tup {a : Addr} {xs : List V} {ds : List D} : SqT K G a xs → DVs K G xs ds → DV K G (.ref a) (.tuple ds)
inductive DVs (K : PySem.W.Frag) (G : Hp) : List V → List D → Prop
  | nil : DVs K G [] []
  | cons {v : V} {vs : List V} {d : D} {ds : List D} : DV K G v d → DVs K G vs ds → DVs K G (v :: vs) (d :: ds)
end
section
variable {K : PySem.W.Frag}
theorem Same.sqt {G G' : Hp} {a : Addr} {xs : List V} (e : Same G G') (h : SqT K G a xs) : SqT K G' a xs := by
  rcases h with (h | ⟨o, h⟩) | h
  · exact .inl (.inl (e _ _ h))
  · exact .inl (.inr ⟨o, e _ _ h⟩)
  · exact .inr h
mutual
theorem dv_mono {G G' : Hp} (e : Same G G') : ∀ (d : D) (v : V), DV K G v d → DV K G' v d
  | .none, _, h => by cases h; exact .non
  | .bool b, _, h => by cases h; exact .bl b
  | .int i, _, h => by cases h; exact .int i
  | .str x, _, h => by cases h; exact .str x
  | .list ds, _, h => by cases h with | lst h1 h2 => exact .lst (e _ _ h1) (dvs_mono e ds _ h2)
  | .tuple ds, _, h => by cases h with | tup h1 h2 => exact .tup (Same.sqt e h1) (dvs_mono e ds _ h2)
  | .dict _, _, h => by cases h
theorem dvs_mono {G G' : Hp} (e : Same G G') : ∀ (ds : List D) (vs : List V), DVs K G vs ds → DVs K G' vs ds
  | [], _, h => by cases h; exact .nil
  | d :: ds, _, h => by cases h with | cons h1 h2 => exact .cons (dv_mono e d _ h1) (dvs_mono e ds _ h2)
end
theorem dvs_len {G : Hp} : ∀ {vs : List V} {ds : List D}, DVs K G vs ds → vs.length = ds.length
  | _, _, .nil => rfl
  | _, _, .cons _ t => congrArg Nat.succ (dvs_len t)
theorem dvs_get {G : Hp} : ∀ {vs : List V} {ds : List D} {i : Nat} {d : D}, DVs K G vs ds → ds[i]? = some d → ∃ v, vs[i]? = some v ∧ DV K G v d
  | _, _, _, _, .nil, e => by simp at e
  | _, _, 0, _, .cons h _, e => by simp at e; subst e; exact ⟨_, rfl, h⟩
  | _, _, i + 1, _, .cons _ t, e => by
    obtain ⟨v, h1, h2⟩ := dvs_get (i := i) t (by simpa using e)
    exact ⟨v, by simpa using h1, h2⟩
theorem dvs_get' {G : Hp} : ∀ {vs : List V} {ds : List D} {i : Nat} {v : V}, DVs K G vs ds → vs[i]? = some v → ∃ d, ds[i]? = some d ∧ DV K G v d
  | _, _, _, _, .nil, e => by simp at e
  | _, _, 0, _, .cons h _, e => by simp at e; subst e; exact ⟨_, rfl, h⟩
  | _, _, i + 1, _, .cons _ t, e => by
    obtain ⟨v, h1, h2⟩ := dvs_get' (i := i) t (by simpa using e)
    exact ⟨v, by simpa using h1, h2⟩
theorem dvs_app {G : Hp} : ∀ {vs ws : List V} {ds es : List D}, DVs K G vs ds → DVs K G ws es → DVs K G (vs ++ ws) (ds ++ es)
  | _, _, _, _, .nil, h => h
  | _, _, _, _, .cons a t, h => .cons a (dvs_app t h)
theorem dvs_drop {G : Hp} : ∀ {vs : List V} {ds : List D} (n : Nat), DVs K G vs ds → DVs K G (vs.drop n) (ds.drop n)
  | _, _, 0, h => h
  | _, _, _ + 1, .nil => .nil
  | _, _, n + 1, .cons _ t => dvs_drop n t
theorem dvs_take {G : Hp} : ∀ {vs : List V} {ds : List D} (n : Nat), DVs K G vs ds → DVs K G (vs.take n) (ds.take n)
  | _, _, 0, _ => .nil
  | _, _, _ + 1, .nil => .nil
  | _, _, n + 1, .cons h t => .cons h (dvs_take n t)
/-- a dict's pairs -/
def KD (K : PySem.W.Frag) (G : Hp) : List (Key × V) → List (Key × D) → Prop := Paired fun p q => p.1 = q.1 ∧ DV K G p.2 q.2
theorem kd_mono {G G' : Hp} (e : Same G G') {kvs : List (Key × V)} {ks : List (Key × D)} (h : KD K G kvs ks) : KD K G' kvs ks :=
  Paired.mapP h fun _ _ ⟨h1, h2⟩ => ⟨h1, dv_mono e _ _ h2⟩
def RO (K : PySem.W.Frag) (G : Hp) : Ob → HO → Prop
  | .lst xs, o => ∃ vs, o = .lst vs ∧ DVs K G vs xs
  | .dic ks, o => ∃ kvs, o = .dK kvs ∧ KD K G kvs ks
theorem ro_mono {G G' : Hp} (e : Same G G') : ∀ {b : Ob} {o : HO}, RO K G b o → RO K G' b o
  | .lst xs, _, ⟨vs, h1, h2⟩ => ⟨vs, h1, dvs_mono e _ _ h2⟩
  | .dic ks, _, ⟨kvs, h1, h2⟩ => ⟨kvs, h1, kd_mono e h2⟩
def RV (K : PySem.W.Frag) (G : Hp) (ρ : List Addr) : R → V → Prop
  | .d x, v => DV K G v x
  | .ref n, v => ∃ a, ρ[n]? = some a ∧ v = .ref a
  | .scr ns, v => ∃ a, v = .ref a ∧ SqL K G a (ns.map V.int)
theorem pre_get {α : Type} {l l' : List α} (h : l <+: l') {n : Nat} {a : α} (e : l[n]? = some a) : l'[n]? = some a := by
  obtain ⟨t, rfl⟩ := h
  rw [List.getElem?_append_left (List.getElem?_eq_some_iff.mp e).1]; exact e
theorem rv_mono {G G' : Hp} {ρ ρ' : List Addr} (e : Same G G') (p : ρ <+: ρ') : ∀ {r : R} {v : V}, RV K G ρ r v → RV K G' ρ' r v
  | .d _, _, h => dv_mono e _ _ h
  | .ref _, _, ⟨a, h1, h2⟩ => ⟨a, pre_get p h1, h2⟩
  | .scr _, _, ⟨a, h1, h2⟩ => ⟨a, h1, e.seq h2⟩
/-- the state: F what is held by others, G what never changes, ρ where the changing things stand -/
structure SOk (K : PySem.W.Frag) (F G : Hp) (ρ : List Addr) (S : Sto) (H : Hp) : Prop where
  len : ρ.length = S.length
  nd : ρ.Nodup
  subF : Same F H
  subG : Same G H
  out : ∀ a ∈ ρ, G a = none ∧ F a = none
  dis : ∀ a, F a ≠ none → G a = none
  obj : ∀ (n : Nat) (b : Ob) (a : Addr), S[n]? = some b → ρ[n]? = some a → ∃ o, H a = some o ∧ RO K G b o
def LOk (K : PySem.W.Frag) (G : Hp) (ρ : List Addr) (L : Loc) (σ : L2.St) : Prop :=
  L.length = σ.length ∧ ∀ (i : Nat) (r : R), L[i]? = some (some r) → ∃ v, σ[i]? = some (some v) ∧ RV K G ρ r v
theorem lok_mono {G G' : Hp} {ρ ρ' : List Addr} (e : Same G G') (p : ρ <+: ρ') {L : Loc} {σ : L2.St} (h : LOk K G ρ L σ) : LOk K G' ρ' L σ :=
  ⟨h.1, fun i r q => let ⟨v, h1, h2⟩ := h.2 i r q; ⟨v, h1, rv_mono e p h2⟩⟩
theorem lok_set {G : Hp} {ρ : List Addr} {L : Loc} {σ : L2.St} (h : LOk K G ρ L σ) {r : R} {v : V} (i : Nat) (q : RV K G ρ r v) : LOk K G ρ (L.set i (some r)) (σ.set i (some v)) := by
  refine ⟨by simp [h.1], fun j r' e => ?_⟩
  by_cases hj : i = j
  · subst hj
    by_cases hl : i < L.length
    · rw [List.getElem?_set_self hl] at e
      cases e
      exact ⟨v, List.getElem?_set_self (by rw [← h.1]; exact hl), q⟩
    · rw [List.getElem?_eq_none (by simpa using hl)] at e; cases e
  · rw [List.getElem?_set_ne hj] at e ⊢
    exact h.2 j r' e
theorem lok_unset {G : Hp} {ρ : List Addr} {L : Loc} {σ : L2.St} (h : LOk K G ρ L σ) (i : Nat) : LOk K G ρ (L.set i none) (σ.set i none) := by
  refine ⟨by simp [h.1], fun j r' e => ?_⟩
  by_cases hj : i = j
  · subst hj
    by_cases hl : i < L.length
    · rw [List.getElem?_set_self hl] at e; cases e
    · rw [List.getElem?_eq_none (by simpa using hl)] at e; cases e
  · rw [List.getElem?_set_ne hj] at e ⊢
    exact h.2 j r' e
def wipeL (L : Loc) : List Nat → Loc
  | [] => L
  | v :: vs => (wipeL L vs).set v none
theorem lok_wipe {G : Hp} {ρ : List Addr} {L : Loc} {σ : L2.St} (h : LOk K G ρ L σ) : ∀ vs : List Nat, LOk K G ρ (wipeL L vs) (wipe σ vs)
  | [] => h
  | v :: vs => lok_unset (lok_wipe h vs) v

/-- what is wanted behind a value: it may be told by more of what never changes and more changing things -/
def Post (K : PySem.W.Frag) (F G : Hp) (ρ : List Addr) (S' : Sto) (r : R) (Q : VK) : Prop :=
  ∀ (G' : Hp) (ρ' : List Addr) (H' : Hp) (v : V), Same G G' → ρ <+: ρ' → SOk K F G' ρ' S' H' → RV K G' ρ' r v → Q v H'
theorem Post.mono {F G G1 : Hp} {ρ ρ1 : List Addr} {S' : Sto} {r : R} {Q : VK} (h : Post K F G ρ S' r Q) (e : Same G G1) (p : ρ <+: ρ1) : Post K F G1 ρ1 S' r Q :=
  fun G' ρ' H' v e' p' s q => h G' ρ' H' v (e.trans e') (p.trans p') s q
abbrev Ev := Loc → Sto → Option (R × Sto)
/-- an expression's reading by its evaluation -/
def tE (K : PySem.W.Frag) (ev : Ev) : TE := fun σ H Q => ∃ F G ρ S L r S', SOk K F G ρ S H ∧ LOk K G ρ L σ ∧ ev L S = some (r, S') ∧ Post K F G ρ S' r Q
abbrev Prim := List R → Sto → Option (R × Sto)
inductive RVs (K : PySem.W.Frag) (G : Hp) (ρ : List Addr) : List R → List V → Prop
  | nil : RVs K G ρ [] []
  | cons {r : R} {v : V} {rs : List R} {vs : List V} : RV K G ρ r v → RVs K G ρ rs vs → RVs K G ρ (r :: rs) (v :: vs)
theorem rvs_mono {G G' : Hp} {ρ ρ' : List Addr} (e : Same G G') (p : ρ <+: ρ') : ∀ {rs : List R} {vs : List V}, RVs K G ρ rs vs → RVs K G' ρ' rs vs
  | _, _, .nil => .nil
  | _, _, .cons h t => .cons (rv_mono e p h) (rvs_mono e p t)
theorem rvs_len {G : Hp} {ρ : List Addr} : ∀ {rs : List R} {vs : List V}, RVs K G ρ rs vs → rs.length = vs.length
  | _, _, .nil => rfl
  | _, _, .cons _ t => congrArg Nat.succ (rvs_len t)
/-- a step by values -/
def tP (K : PySem.W.Frag) (f : Prim) : List V → Hp → VK → Prop := fun vs H Q => ∃ F G ρ S rs r S', SOk K F G ρ S H ∧ RVs K G ρ rs vs ∧ f rs S = some (r, S') ∧ Post K F G ρ S' r Q
theorem PE.weak {X : Cx} {e : Expr} {t t' : TE} (h : PE X e t) (q : ∀ σ H Q, t' σ H Q → t σ H Q) : PE X e t' := ⟨fun pins s σ H Q I w => h.run pins s σ H Q I (q σ H Q w)⟩
theorem PT.weak {X : Cx} {e : Expr} {t t' : TT} (h : PT X e t) (q : ∀ σ H Q, t' σ H Q → t σ H Q) : PT X e t' := ⟨fun pins s σ H Q I w => h.run pins s σ H Q I (q σ H Q w)⟩
theorem PS.weak {X : Cx} {e : Stmt} {t t' : TS} (h : PS X e t) (q : ∀ D σ H, t' D σ H → t D σ H) : PS X e t' := ⟨fun pins s σ H D I w => h.run pins s σ H D I (q D σ H w)⟩
theorem PSs.weak {X : Cx} {e : List Stmt} {t t' : TS} (h : PSs X e t) (q : ∀ D σ H, t' D σ H → t D σ H) : PSs X e t' := ⟨fun pins s σ H D I w => h.run pins s σ H D I (q D σ H w)⟩
theorem PA.weak {X : Cx} {e : List Expr} {t t' : TA} (h : PA X e t) (q : ∀ σ H Q, t' σ H Q → t σ H Q) : PA X e t' := ⟨fun pos pins s σ H Q I w => h.run pos pins s σ H Q I (q σ H Q w)⟩
abbrev Evs := Loc → Sto → Option (List R × Sto)
def tA (K : PySem.W.Frag) (ev : Evs) : TA := fun σ H Q => ∃ F G ρ S L rs S', SOk K F G ρ S H ∧ LOk K G ρ L σ ∧ ev L S = some (rs, S') ∧
  ∀ (G' : Hp) (ρ' : List Addr) (H' : Hp) (vs : List V), Same G G' → ρ <+: ρ' → SOk K F G' ρ' S' H' → RVs K G' ρ' rs vs → Q vs H'
/-- a new thing that never changes -/
theorem SOk.fix {F G : Hp} {ρ : List Addr} {S : Sto} {H : Hp} (s : SOk K F G ρ S H) {p : Addr} {o : HO} (h : H p = none) : SOk K F (upd G p o) ρ S (upd H p o) ∧ Same G (upd G p o) := by
  have hg : G p = none := Same.free s.subG h
  have hf : F p = none := Same.free s.subF h
  have hp : ∀ a ∈ ρ, a ≠ p := fun a ha z => by
    subst z
    obtain ⟨n, hn, e⟩ := List.getElem_of_mem ha
    have hn' : n < S.length := by rw [← s.len]; exact hn
    obtain ⟨o, ho, _⟩ := s.obj n S[n] a (List.getElem?_eq_getElem hn') (by rw [List.getElem?_eq_getElem hn, e])
    rw [h] at ho; cases ho
  refine ⟨⟨s.len, s.nd, s.subF.trans (same_upd h), fun b u e => ?_, fun a ha => ?_, fun a ha => ?_, fun n b a e1 e2 => ?_⟩, same_upd hg⟩
  · by_cases hb : b = p
    · subst hb; rw [upd_same] at e ⊢; exact e
    · rw [upd_ne hb] at e ⊢; exact s.subG b u e
  · rw [upd_ne (hp a ha)]; exact s.out a ha
  · have : a ≠ p := fun z => ha (by rw [z]; exact hf)
    rw [upd_ne this]; exact s.dis a ha
  · obtain ⟨u, hu, r⟩ := s.obj n b a e1 e2
    refine ⟨u, ?_, ro_mono (same_upd hg) r⟩
    rw [upd_ne (hp a (List.mem_of_getElem? e2))]; exact hu
/-- a new changing thing -/
theorem SOk.new {F G : Hp} {ρ : List Addr} {S : Sto} {H : Hp} (s : SOk K F G ρ S H) {p : Addr} {o : HO} {b : Ob} (h : H p = none) (r : RO K G b o) : SOk K F G (ρ ++ [p]) (S ++ [b]) (upd H p o) := by
  have hg : G p = none := Same.free s.subG h
  have hf : F p = none := Same.free s.subF h
  have hp : p ∉ ρ := fun ha => by
    obtain ⟨n, hn, e⟩ := List.getElem_of_mem ha
    have hn' : n < S.length := by rw [← s.len]; exact hn
    obtain ⟨o, ho, _⟩ := s.obj n S[n] p (List.getElem?_eq_getElem hn') (by rw [List.getElem?_eq_getElem hn, e])
    rw [h] at ho; cases ho
  refine ⟨by simp [s.len], ?_, s.subF.trans (same_upd h), s.subG.trans (same_upd h), fun a ha => ?_, s.dis, fun n b' a e1 e2 => ?_⟩
  · rw [List.nodup_append]
    refine ⟨s.nd, by simp, fun a ha b hb => ?_⟩
    rw [List.mem_singleton] at hb; subst hb
    exact fun z => hp (z ▸ ha)
  · rcases List.mem_append.mp ha with ha | ha
    · exact s.out a ha
    · rw [List.mem_singleton] at ha; subst ha; exact ⟨hg, hf⟩
  · by_cases hn : n < S.length
    · rw [List.getElem?_append_left hn] at e1
      rw [List.getElem?_append_left (by rw [s.len]; exact hn)] at e2
      obtain ⟨u, hu, q⟩ := s.obj n b' a e1 e2
      have ha : a ≠ p := fun z => by
        subst z
        exact hp (List.mem_of_getElem? e2)
      exact ⟨u, by rw [upd_ne ha]; exact hu, q⟩
    · have hn' : n = S.length := by
        have := (List.getElem?_eq_some_iff.mp e1).1
        simp at this; omega
      subst hn'
      rw [List.getElem?_append_right (Nat.le_refl _), Nat.sub_self] at e1
      rw [List.getElem?_append_right (by rw [s.len]; exact Nat.le_refl _), s.len, Nat.sub_self] at e2
      cases e1; cases e2
      exact ⟨o, upd_same, r⟩
/-- a changing thing changed -/
theorem SOk.set {F G : Hp} {ρ : List Addr} {S : Sto} {H : Hp} (s : SOk K F G ρ S H) {n : Nat} {p : Addr} {o : HO} {b : Ob} (e : ρ[n]? = some p) (r : RO K G b o) : SOk K F G ρ (S.set n b) (upd H p o) := by
  have hm := List.mem_of_getElem? e
  obtain ⟨hg, hf⟩ := s.out p hm
  have hk : ∀ {T : Hp}, Same T H → T p = none → Same T (upd H p o) := fun {T} hs ht b u q => by
    rw [upd_ne (ne_of_none q ht)]; exact hs b u q
  refine ⟨by simp [s.len], s.nd, hk s.subF hf, hk s.subG hg, s.out, s.dis, fun m b' a e1 e2 => ?_⟩
  have hl : n < S.length := by rw [← s.len]; exact (List.getElem?_eq_some_iff.mp e).1
  by_cases hmn : n = m
  · subst hmn
    rw [List.getElem?_set_self hl] at e1
    cases e1
    rw [e] at e2; cases e2
    exact ⟨o, upd_same, r⟩
  · rw [List.getElem?_set_ne hmn] at e1
    obtain ⟨u, hu, q⟩ := s.obj m b' a e1 e2
    have : a ≠ p := fun z => by
      subst z
      obtain ⟨h1, h1'⟩ := List.getElem?_eq_some_iff.mp e
      obtain ⟨h2, h2'⟩ := List.getElem?_eq_some_iff.mp e2
      exact hmn ((List.getElem_inj (h₀ := h1) (h₁ := h2) s.nd).mp (by rw [h1', h2']))
    exact ⟨u, by rw [upd_ne this]; exact hu, q⟩
/-- the later things forgotten -/
theorem SOk.cut {F G : Hp} {ρ ρ' : List Addr} {S' : Sto} {H : Hp} (s : SOk K F G ρ' S' H) (p : ρ <+: ρ') : SOk K F G ρ (S'.take ρ.length) H := by
  obtain ⟨t, rfl⟩ := p
  have hl := s.len
  rw [List.length_append] at hl
  refine ⟨by rw [List.length_take]; omega, (List.nodup_append.mp s.nd).1, s.subF, s.subG, fun a ha => s.out a (List.mem_append_left _ ha), s.dis, fun n b a e1 e2 => ?_⟩
  have hn := (List.getElem?_eq_some_iff.mp e2).1
  rw [List.getElem?_take_of_lt hn] at e1
  exact s.obj n b a e1 (by rw [List.getElem?_append_left hn]; exact e2)

/-! ### what may be read as a datum -/
mutual
theorem dv_dp {G : Hp} : ∀ (d : D) (v : V), DV K G v d → Dp K G v d
  | .none, _, h => by cases h; exact .non
  | .bool b, _, h => by cases h; exact .bl b
  | .int i, _, h => by cases h; exact .int i
  | .str x, _, h => by cases h; exact .str x
  | .list ds, _, h => by cases h with | lst h1 h2 => exact .lst (.of h1) (dvs_dp ds _ h2)
  | .tuple ds, _, h => by cases h with | tup h1 h2 => exact .tup h1 (dvs_dp ds _ h2)
  | .dict _, _, h => by cases h
theorem dvs_dp {G : Hp} : ∀ (ds : List D) (vs : List V), DVs K G vs ds → DpAll K G vs ds
  | [], _, h => by cases h; exact .nil
  | d :: ds, _, h => by cases h with | cons h1 h2 => exact .cons (dv_dp d _ h1) (dvs_dp ds _ h2)
end
/-- read as a datum: a datum, or a list that changes, as it stands -/
def DW (K : PySem.W.Frag) (G H : Hp) (v : V) (d : D) : Prop := DV K G v d ∨ ∃ a vs xs, d = .list xs ∧ v = .ref a ∧ H a = some (.lst vs) ∧ DVs K G vs xs
def view : R → Sto → Option D
  | .d x, _ => some x
  | .ref n, S => match S[n]? with
    | some (.lst xs) => some (.list xs)
    | _ => none
  | .scr _, _ => none
theorem view_ok {F G : Hp} {ρ : List Addr} {S : Sto} {H : Hp} (s : SOk K F G ρ S H) {r : R} {v : V} {d : D} (q : RV K G ρ r v) (e : view r S = some d) : DW K G H v d := by
  cases r with
  | d x => cases e; exact .inl q
  | scr ns => cases e
  | ref n =>
    obtain ⟨a, ea, rfl⟩ := q
    simp only [view] at e
    cases hs : S[n]? with
    | none => rw [hs] at e; cases e
    | some b =>
      rw [hs] at e
      cases b with
      | dic ks => cases e
      | lst xs =>
        cases e
        obtain ⟨o, ho, vs, rfl, hv⟩ := s.obj n _ a hs ea
        exact .inr ⟨a, vs, xs, rfl, rfl, ho, hv⟩
theorem DW.dp {F G : Hp} {ρ : List Addr} {S : Sto} {H : Hp} (s : SOk K F G ρ S H) {v : V} {d : D} (h : DW K G H v d) : Dp K H v d := by
  rcases h with h | ⟨a, vs, xs, rfl, rfl, h1, h2⟩
  · exact dv_dp d v (dv_mono s.subG d v h)
  · exact .lst (.of h1) (dvs_dp _ _ (dvs_mono s.subG _ _ h2))
/-- a list: it stands at an address -/
theorem DW.lst {F G : Hp} {ρ : List Addr} {S : Sto} {H : Hp} (s : SOk K F G ρ S H) {v : V} {xs : List D} (h : DW K G H v (.list xs)) : ∃ a vs, v = .ref a ∧ H a = some (.lst vs) ∧ DVs K G vs xs := by
  rcases h with h | ⟨a, vs, ys, e, rfl, h1, h2⟩
  · cases h with | lst h1 h2 => exact ⟨_, _, rfl, s.subG _ _ h1, h2⟩
  · cases e; exact ⟨a, vs, rfl, h1, h2⟩
theorem DW.tup {F G : Hp} {ρ : List Addr} {S : Sto} {H : Hp} (s : SOk K F G ρ S H) {v : V} {xs : List D} (h : DW K G H v (.tuple xs)) : ∃ a vs, v = .ref a ∧ SqT K H a vs ∧ DVs K G vs xs := by
  rcases h with h | ⟨a, vs, ys, e, rfl, h1, h2⟩
  · cases h with | tup h1 h2 => exact ⟨_, _, rfl, Same.sqt s.subG h1, h2⟩
  · cases e
/-- a new datum -/
theorem Post.dnew {F G : Hp} {ρ : List Addr} {S : Sto} {d : D} {Q : VK} (h : Post K F G ρ S (.d d) Q) {H : Hp} (s : SOk K F G ρ S H) {o : HO}
    (hd : ∀ p G', Same G G' → G' p = some o → DV K G' (.ref p) d) : ∀ p, H p = none → Q (.ref p) (upd H p o) := fun p hp =>
  let ⟨s', e⟩ := s.fix (o := o) hp
  h _ ρ _ _ e (List.prefix_refl _) s' (hd p _ e upd_same)
theorem Post.now {F G : Hp} {ρ : List Addr} {S : Sto} {r : R} {Q : VK} (h : Post K F G ρ S r Q) {H : Hp} (s : SOk K F G ρ S H) {v : V} (q : RV K G ρ r v) : Q v H := h G ρ H v (Same.refl _) (List.prefix_refl _) s q
theorem Post.rnew {F G : Hp} {ρ : List Addr} {S : Sto} {b : Ob} {Q : VK} (h : Post K F G ρ (S ++ [b]) (.ref S.length) Q) {H : Hp} (s : SOk K F G ρ S H) {o : HO} (r : RO K G b o) : ∀ p, H p = none → Q (.ref p) (upd H p o) := fun p hp =>
  h G (ρ ++ [p]) _ _ (Same.refl _) (List.prefix_append _ _) (s.new hp r) ⟨p, by rw [List.getElem?_append_right (by rw [s.len]; exact Nat.le_refl _), s.len, Nat.sub_self]; rfl, rfl⟩
end
end PL

set_option maxHeartbeats 2000000
namespace PL
open PySem PySem.Spec PyProof.Rows L2
/-! ### texts in order -/
def leS (a b : Str) : Bool := !ltCps b.cps.toList a.cps.toList
theorem leS_iff (a b : Str) : leS a b = true ↔ a.cps.toList ≤ b.cps.toList := by
  unfold leS
  rw [ltCps_eq]
  simp [List.not_lt]
theorem leS_total (a b : Str) : leS a b = true ∨ leS b a = true := by
  rw [leS_iff, leS_iff]
  exact List.le_total _ _
theorem leS_trans {a b c : Str} (h : leS a b = true) (k : leS b c = true) : leS a c = true := by
  rw [leS_iff] at *
  exact List.le_trans h k
theorem leS_anti {a b : Str} (h : leS a b = true) (k : leS b a = true) : a = b := by
  rw [leS_iff] at *
  have := List.le_antisymm h k
  obtain ⟨⟨a⟩⟩ := a
  obtain ⟨⟨b⟩⟩ := b
  cases this
  rfl
def insS (x : Str) : List Str → List Str
  | [] => [x]
  | y :: r => if leS x y = true then x :: y :: r else y :: insS x r
def sortS : List Str → List Str
  | [] => []
  | x :: r => insS x (sortS r)
theorem insS_perm (x : Str) : ∀ l : List Str, (insS x l).Perm (x :: l)
  | [] => List.Perm.refl _
  | y :: r => by
    unfold insS
    split
    · exact List.Perm.refl _
    · exact ((insS_perm x r).cons y).trans (List.Perm.swap _ _ _)
theorem sortS_perm : ∀ l : List Str, (sortS l).Perm l
  | [] => List.Perm.refl _
  | x :: r => (insS_perm x (sortS r)).trans ((sortS_perm r).cons x)
theorem insS_sorted (x : Str) : ∀ l : List Str, l.Pairwise (fun a b => leS a b = true) → (insS x l).Pairwise (fun a b => leS a b = true)
  | [], _ => List.pairwise_singleton _ _
  | y :: r, h => by
    obtain ⟨h1, h2⟩ := List.pairwise_cons.mp h
    unfold insS
    split
    · rename_i hxy
      refine List.pairwise_cons.mpr ⟨fun z hz => ?_, h⟩
      rcases List.mem_cons.mp hz with rfl | hz
      · exact hxy
      · exact leS_trans hxy (h1 z hz)
    · rename_i hxy
      have hyx : leS y x = true := (leS_total y x).resolve_right hxy
      refine List.pairwise_cons.mpr ⟨fun z hz => ?_, insS_sorted x r h2⟩
      rcases List.mem_cons.mp ((insS_perm x r).mem_iff.mp hz) with rfl | hz
      · exact hyx
      · exact h1 z hz
theorem sortS_sorted : ∀ l : List Str, (sortS l).Pairwise (fun a b => leS a b = true)
  | [] => List.Pairwise.nil
  | x :: r => insS_sorted x _ (sortS_sorted r)
theorem rising_le : ∀ (p : Str) (l : List Str), risingS p l = true → (p :: l).Pairwise (fun a b => leS a b = true)
  | p, [], _ => List.pairwise_singleton _ _
  | p, x :: r, h => by
    have h : (!ltCps x.cps.toList p.cps.toList && risingS x r) = true := h
    rw [Bool.and_eq_true] at h
    have ih := rising_le x r h.2
    refine List.pairwise_cons.mpr ⟨fun z hz => ?_, ih⟩
    rcases List.mem_cons.mp hz with rfl | hz
    · exact h.1
    · exact leS_trans h.1 ((List.pairwise_cons.mp ih).1 z hz)
theorem sorted_le : ∀ (l : List Str), sortedS l = true → l.Pairwise (fun a b => leS a b = true)
  | [], _ => List.Pairwise.nil
  | x :: r, h => rising_le x r h
theorem sortS_only {ys xs : List Str} (p : ys.Perm xs) (h : sortedS ys = true) : ys = sortS xs :=
  List.Perm.eq_of_pairwise (fun a b _ _ h1 h2 => leS_anti h1 h2) (sorted_le ys h) (sortS_sorted xs) (p.trans (sortS_perm xs).symm)
end PL

set_option maxHeartbeats 2000000
namespace PL
open PySem PySem.Spec PyProof.Rows L2
section
variable {X : Cx}
theorem OpR.imp {f : Value → Value → Sem Value} {r r' : R2} (h : OpR X f r) (q : ∀ x y H Q, r' x y H Q → r x y H Q) : OpR X f r' :=
  fun pins s σ H x y v u Q I r1 r2 w => h pins s σ H x y v u Q I r1 r2 (q x y H Q w)
theorem CallR.imp {f : Value} {r r' : List V → Hp → VK → Prop} (h : CallR X f r) (q : ∀ xs H Q, r' xs H Q → r xs H Q) : CallR X f r' :=
  fun pins s σ H vs us Q I r1 w => h pins s σ H vs us Q I r1 (q vs H Q w)
end
/-! ### two values -/
def t2 (K : PySem.W.Frag) (g : D → D → Option D) : R2 := fun x y H Q => ∃ F G ρ S dx dy d, SOk K F G ρ S H ∧ DW K G H x dx ∧ DW K G H y dy ∧ g dx dy = some d ∧ Post K F G ρ S (.d d) Q
def t1 (K : PySem.W.Frag) (g : D → Option D) : V → Hp → VK → Prop := fun x H Q => ∃ F G ρ S dx d, SOk K F G ρ S H ∧ DW K G H x dx ∧ g dx = some d ∧ Post K F G ρ S (.d d) Q
section
variable {K : PySem.W.Frag} {G H : Hp} {v : V}
theorem DW.int {i : Int} (h : DW K G H v (.int i)) : v = .int i := by
  rcases h with h | ⟨_, _, _, e, _⟩
  · cases h; rfl
  · cases e
theorem DW.str {i : Str} (h : DW K G H v (.str i)) : v = .str i := by
  rcases h with h | ⟨_, _, _, e, _⟩
  · cases h; rfl
  · cases e
theorem DW.bl {i : Bool} (h : DW K G H v (.bool i)) : v = .bl i := by
  rcases h with h | ⟨_, _, _, e, _⟩
  · cases h; rfl
  · cases e
theorem DW.non (h : DW K G H v .none) : v = .non := by
  rcases h with h | ⟨_, _, _, e, _⟩
  · cases h; rfl
  · cases e
theorem DW.nodict {ks : List (D × D)} (h : DW K G H v (.dict ks)) : False := by
  rcases h with h | ⟨_, _, _, e, _⟩
  · cases h
  · cases e
end
theorem Post.int {K : PySem.W.Frag} {F G : Hp} {ρ : List Addr} {S : Sto} {H : Hp} {Q : VK} {i : Int} (h : Post K F G ρ S (.d (.int i)) Q) (s : SOk K F G ρ S H) : Q (.int i) H := h.now s (.int i)
theorem Post.str {K : PySem.W.Frag} {F G : Hp} {ρ : List Addr} {S : Sto} {H : Hp} {Q : VK} {i : Str} (h : Post K F G ρ S (.d (.str i)) Q) (s : SOk K F G ρ S H) : Q (.str i) H := h.now s (.str i)
theorem Post.bl {K : PySem.W.Frag} {F G : Hp} {ρ : List Addr} {S : Sto} {H : Hp} {Q : VK} {i : Bool} (h : Post K F G ρ S (.d (.bool i)) Q) (s : SOk K F G ρ S H) : Q (.bl i) H := h.now s (.bl i)
/-- a new list of data -/
theorem Post.lst {K : PySem.W.Frag} {F G : Hp} {ρ : List Addr} {S : Sto} {H : Hp} {Q : VK} {ds : List D} {vs : List V} (h : Post K F G ρ S (.d (.list ds)) Q) (s : SOk K F G ρ S H) (a : DVs K G vs ds) : ∀ p, H p = none → Q (.ref p) (upd H p (.lst vs)) :=
  h.dnew s fun p G' e q => .lst q (dvs_mono e _ _ a)
theorem Post.tup {K : PySem.W.Frag} {F G : Hp} {ρ : List Addr} {S : Sto} {H : Hp} {Q : VK} {ds : List D} {vs : List V} (h : Post K F G ρ S (.d (.tuple ds)) Q) (s : SOk K F G ρ S H) (a : DVs K G vs ds) : ∀ p, H p = none → Q (.ref p) (upd H p (.tup vs)) :=
  h.dnew s fun p G' e q => .tup (.of q) (dvs_mono e _ _ a)
theorem sqt_of {K : PySem.W.Frag} {F G : Hp} {ρ : List Addr} {S : Sto} {H : Hp} {a : Addr} {vs : List V} {ds : List D} {v : V} (s : SOk K F G ρ S H) (h : DW K G H v (.tuple ds)) : ∃ a vs, v = .ref a ∧ SqT K G a vs ∧ DVs K G vs ds := by
  rcases h with h | ⟨_, _, _, e, _⟩
  · cases h with | tup h1 h2 => exact ⟨_, _, rfl, h1, h2⟩
  · cases e
theorem tup_of {K : PySem.W.Frag} {G H : Hp} {ds : List D} {v : V} (h : DW K G H v (.tuple ds)) : ∃ a vs, v = .ref a ∧ SqT K G a vs ∧ DVs K G vs ds := by
  rcases h with h | ⟨_, _, _, e, _⟩
  · cases h with | tup h1 h2 => exact ⟨_, _, rfl, h1, h2⟩
  · cases e

def gAdd : D → D → Option D
  | .int i, .int j => some (.int (i + j))
  | .str a, .str b => if a.length + b.length ≤ sizeLine then some (.str (a ++ b)) else none
  | .tuple a, .tuple b => if a.length + b.length ≤ sizeLine then some (.tuple (a ++ b)) else none
  | .list a, .list b => if a.length + b.length ≤ sizeLine then some (.list (a ++ b)) else none
  | _, _ => none
def gSub : D → D → Option D
  | .int i, .int j => some (.int (i - j))
  | _, _ => none
def gMul : D → D → Option D
  | .int i, .int j => if i.natAbs.log2 + j.natAbs.log2 < 1000000 then some (.int (i * j)) else none
  | .list xs, .int k => if -(2 ^ 63) ≤ k ∧ k < 2 ^ 63 ∧ xs.length * k.toNat ≤ sizeLine then some (.list (List.replicate k.toNat xs).flatten) else none
  | _, _ => none
def gDiv : D → D → Option D
  | .int i, .int j => if 0 < j ∧ j.natAbs.log2 < 9000 then some (.int (i / j)) else none
  | _, _ => none
def gMod : D → D → Option D
  | .int i, .int j => if 0 < j then some (.int (i % j)) else none
  | _, _ => none
def gPow : D → D → Option D
  | .int i, .int j => if 0 ≤ j ∧ j ≤ 1000000 ∧ i.natAbs < 2 ^ 64 then some (.int (i ^ j.toNat)) else none
  | _, _ => none
theorem some_if {α : Type} {c : Prop} [Decidable c] {x y : α} (h : (if c then some x else none) = some y) : c ∧ x = y := by
  by_cases hc : c
  · rw [if_pos hc] at h; exact ⟨hc, Option.some.inj h⟩
  · rw [if_neg hc] at h; cases h
section
variable {X : Cx}
theorem o_add : OpR X (binaryOp .Add) (t2 X.K gAdd) := by
  refine OpR.imp (op_add.or (op_add_str.or (op_catA.or op_cat))) fun x y H Q h => ?_
  obtain ⟨F, G, ρ, S, dx, dy, d, s, hx, hy, e, q⟩ := h
  unfold gAdd at e
  split at e
  · cases e; cases hx.int; cases hy.int
    exact .inl ⟨_, _, rfl, rfl, q.int s⟩
  · obtain ⟨c, rfl⟩ := some_if e
    cases hx.str; cases hy.str
    exact .inr (.inl ⟨_, _, rfl, rfl, c, q.str s⟩)
  · obtain ⟨c, rfl⟩ := some_if e
    obtain ⟨a, vs, rfl, h1, h2⟩ := tup_of hx
    obtain ⟨b, ws, rfl, k1, k2⟩ := tup_of hy
    refine .inr (.inr (.inl ⟨a, b, vs, ws, rfl, rfl, Same.sqt s.subG h1, Same.sqt s.subG k1, by rw [dvs_len h2, dvs_len k2]; exact c, fun z => ?_, fun z1 z2 => ?_, fun z1 z2 => ?_⟩))
    · subst z; cases h2
      exact q.now s (.tup k1 k2)
    · subst z2; cases k2
      rw [List.append_nil] at q
      exact q.now s (.tup h1 h2)
    · exact q.tup s (dvs_app h2 k2)
  · obtain ⟨c, rfl⟩ := some_if e
    obtain ⟨a, vs, rfl, h1, h2⟩ := hx.lst s
    obtain ⟨b, ws, rfl, k1, k2⟩ := hy.lst s
    exact .inr (.inr (.inr ⟨a, b, vs, ws, rfl, rfl, h1, k1, by rw [dvs_len h2, dvs_len k2]; exact c, q.lst s (dvs_app h2 k2)⟩))
  · cases e
theorem o_sub : OpR X (binaryOp .Sub) (t2 X.K gSub) := by
  refine OpR.imp op_sub fun x y H Q h => ?_
  obtain ⟨F, G, ρ, S, dx, dy, d, s, hx, hy, e, q⟩ := h
  unfold gSub at e
  split at e
  · cases e; cases hx.int; cases hy.int
    exact ⟨_, _, rfl, rfl, q.int s⟩
  · cases e
theorem dvs_rep {K : PySem.W.Frag} {G : Hp} {vs : List V} {ds : List D} (h : DVs K G vs ds) : ∀ k : Nat, DVs K G (List.replicate k vs).flatten (List.replicate k ds).flatten
  | 0 => .nil
  | k + 1 => by
    rw [List.replicate_succ, List.replicate_succ, List.flatten_cons, List.flatten_cons]
    exact dvs_app h (dvs_rep h k)
theorem o_mul : OpR X (binaryOp .Mult) (t2 X.K gMul) := by
  refine OpR.imp (op_mulW.or op_rep) fun x y H Q h => ?_
  obtain ⟨F, G, ρ, S, dx, dy, d, s, hx, hy, e, q⟩ := h
  unfold gMul at e
  split at e
  · obtain ⟨c, rfl⟩ := some_if e
    cases hx.int; cases hy.int
    exact .inl ⟨_, _, rfl, rfl, c, q.int s⟩
  · obtain ⟨c, rfl⟩ := some_if e
    obtain ⟨a, vs, rfl, h1, h2⟩ := hx.lst s
    cases hy.int
    exact .inr ⟨a, _, vs, rfl, rfl, h1, c.1, c.2.1, by rw [dvs_len h2]; exact c.2.2, q.lst s (dvs_rep h2 _)⟩
  · cases e
theorem o_div : OpR X (binaryOp .FloorDiv) (t2 X.K gDiv) := by
  refine OpR.imp op_fdivW fun x y H Q h => ?_
  obtain ⟨F, G, ρ, S, dx, dy, d, s, hx, hy, e, q⟩ := h
  unfold gDiv at e
  split at e
  · obtain ⟨c, rfl⟩ := some_if e
    cases hx.int; cases hy.int
    exact ⟨_, _, rfl, rfl, c, q.int s⟩
  · cases e
theorem o_mod : OpR X (binaryOp .Mod) (t2 X.K gMod) := by
  refine OpR.imp op_mod fun x y H Q h => ?_
  obtain ⟨F, G, ρ, S, dx, dy, d, s, hx, hy, e, q⟩ := h
  unfold gMod at e
  split at e
  · obtain ⟨c, rfl⟩ := some_if e
    cases hx.int; cases hy.int
    exact ⟨_, _, rfl, rfl, c, q.int s⟩
  · cases e
theorem o_pow : OpR X (binaryOp .Pow) (t2 X.K gPow) := by
  refine OpR.imp op_pow fun x y H Q h => ?_
  obtain ⟨F, G, ρ, S, dx, dy, d, s, hx, hy, e, q⟩ := h
  unfold gPow at e
  split at e
  · obtain ⟨c, rfl⟩ := some_if e
    cases hx.int; cases hy.int
    exact ⟨_, _, rfl, rfl, c, q.int s⟩
  · cases e
end
/-! ### comparisons -/
def bothS : D → D → Bool
  | .str _, .str _ => true
  | _, _ => false
theorem bothS_ok {x y : D} (h : bothS x y = true) : ∃ a b, x = .str a ∧ y = .str b := by
  unfold bothS at h
  split at h
  · exact ⟨_, _, rfl, rfl⟩
  · cases h
def gEq (x y : D) : Option D := if bothS x y = true ∨ (SeqAt.shaped x = true ∧ SeqAt.shaped y = true) then some (.bool (PyData.eqv x y)) else none
def gNe (x y : D) : Option D := if bothS x y = true ∨ (SeqAt.shaped x = true ∧ SeqAt.shaped y = true) then some (.bool (!PyData.eqv x y)) else none
def gLt : D → D → Option D
  | .int i, .int j => some (.bool (decide (i < j)))
  | .str a, .str b => some (.bool (decide (a.cps.toList < b.cps.toList)))
  | _, _ => none
def gLe : D → D → Option D
  | .int i, .int j => some (.bool (decide (i ≤ j)))
  | .str a, .str b => some (.bool (!decide (b.cps.toList < a.cps.toList)))
  | _, _ => none
def gGt : D → D → Option D
  | .int i, .int j => some (.bool (decide (j < i)))
  | .str a, .str b => some (.bool (decide (b.cps.toList < a.cps.toList)))
  | _, _ => none
def gGe : D → D → Option D
  | .int i, .int j => some (.bool (decide (j ≤ i)))
  | .str a, .str b => some (.bool (!decide (a.cps.toList < b.cps.toList)))
  | _, _ => none
def flatD : D → Bool
  | .none => true
  | .bool _ => true
  | .int _ => true
  | .str _ => true
  | _ => false
def items : D → Option (List D)
  | .list xs => some xs
  | .tuple xs => some xs
  | _ => none
def inSeq (x : D) (ys : List D) : Option Bool := if flatD x = true ∧ ys.all flatD = true then some (ys.any fun y => PyData.eqv y x) else none
def inB : D → D → Option Bool
  | x, .list ys => inSeq x ys
  | x, .tuple ys => inSeq x ys
  | .str c, .str z => match c.cps.toList with
    | [n] => some (decide (n ∈ z.cps.toList))
    | _ => some (!(Builtin.Str.occurrences z c 0 z.length 1).isEmpty)
  | _, _ => none
def gIn (x y : D) : Option D := (inB x y).map .bool
def gNotIn (x y : D) : Option D := (inB x y).map fun b => .bool (!b)
def isNon : D → Bool
  | .none => true
  | _ => false
def gIs : D → D → Option D
  | x, .none => some (.bool (isNon x))
  | _, _ => none
def gIsNot : D → D → Option D
  | x, .none => some (.bool (!isNon x))
  | _, _ => none
theorem flatV_of {K : PySem.W.Frag} {G : Hp} {v : V} {d : D} (h : DV K G v d) (f : flatD d = true) : flatV v = true := by
  cases h <;> first | rfl | cases f
theorem flatVs_of {K : PySem.W.Frag} {G : Hp} : ∀ {vs : List V} {ds : List D}, DVs K G vs ds → ds.all flatD = true → vs.all flatV = true
  | _, _, .nil, _ => rfl
  | _, _, .cons h t, f => by
    rw [List.all_cons, Bool.and_eq_true] at f ⊢
    exact ⟨flatV_of h f.1, flatVs_of t f.2⟩
theorem eqV_of {K : PySem.W.Frag} {G : Hp} {v w : V} {d e : D} (h : DV K G v d) (k : DV K G w e) (f : flatD d = true) (f' : flatD e = true) : eqV v w = PyData.eqv d e := by
  cases h <;> first | (cases f; done) | (cases k <;> first | (cases f'; done) | rfl | simp [eqV, PyData.eqv])
theorem any_of {K : PySem.W.Frag} {G : Hp} {w : V} {e : D} (k : DV K G w e) (f' : flatD e = true) : ∀ {vs : List V} {ds : List D}, DVs K G vs ds → ds.all flatD = true → (vs.any fun y => eqV y w) = ds.any fun y => PyData.eqv y e
  | _, _, .nil, _ => rfl
  | _, _, .cons h t, f => by
    rw [List.all_cons, Bool.and_eq_true] at f
    rw [List.any_cons, List.any_cons, eqV_of h k f.1 f', any_of k f' t f.2]
section
variable {X : Cx}
theorem shapedL {x : D} : SeqAt.shaped x = true → SeqAt.shaped x = true := id
theorem o_eq (hu : X.A.units + 64 < cLine) : OpR X (compareOp .Eq) (t2 X.K gEq) := by
  refine OpR.imp ((op_eqD hu).or op_eq) fun x y H Q h => ?_
  obtain ⟨F, G, ρ, S, dx, dy, d, s, hx, hy, e, q⟩ := h
  obtain ⟨c, rfl⟩ := some_if e
  rcases c with c | c
  · obtain ⟨a, b, rfl, rfl⟩ := bothS_ok c
    cases hx.str
    cases hy.str
    refine .inr ⟨rfl, ?_⟩
    rw [dec_str]
    exact q.bl s
  · exact .inl ⟨dx, dy, hx.dp s, hy.dp s, c.1, c.2, q.bl s⟩
theorem o_ne (hu : X.A.units + 64 < cLine) : OpR X (compareOp .NotEq) (t2 X.K gNe) := by
  refine OpR.imp ((op_neD hu).or op_ne) fun x y H Q h => ?_
  obtain ⟨F, G, ρ, S, dx, dy, d, s, hx, hy, e, q⟩ := h
  obtain ⟨c, rfl⟩ := some_if e
  rcases c with c | c
  · obtain ⟨a, b, rfl, rfl⟩ := bothS_ok c
    cases hx.str
    cases hy.str
    refine .inr ⟨rfl, ?_⟩
    rw [dec_str]
    exact q.bl s
  · exact .inl ⟨dx, dy, hx.dp s, hy.dp s, c.1, c.2, q.bl s⟩
theorem o_lt : OpR X (compareOp .Lt) (t2 X.K gLt) := by
  refine OpR.imp (op_lt.or op_lt_str) fun x y H Q h => ?_
  obtain ⟨F, G, ρ, S, dx, dy, d, s, hx, hy, e, q⟩ := h
  unfold gLt at e
  split at e
  · cases e; cases hx.int; cases hy.int; exact .inl ⟨_, _, rfl, rfl, q.bl s⟩
  · cases e; cases hx.str; cases hy.str; exact .inr ⟨_, _, rfl, rfl, q.bl s⟩
  · cases e
theorem o_le : OpR X (compareOp .LtE) (t2 X.K gLe) := by
  refine OpR.imp (op_le.or op_le_str) fun x y H Q h => ?_
  obtain ⟨F, G, ρ, S, dx, dy, d, s, hx, hy, e, q⟩ := h
  unfold gLe at e
  split at e
  · cases e; cases hx.int; cases hy.int; exact .inl ⟨_, _, rfl, rfl, q.bl s⟩
  · cases e; cases hx.str; cases hy.str; exact .inr ⟨_, _, rfl, rfl, q.bl s⟩
  · cases e
theorem o_gt : OpR X (compareOp .Gt) (t2 X.K gGt) := by
  refine OpR.imp (op_gt.or op_gt_str) fun x y H Q h => ?_
  obtain ⟨F, G, ρ, S, dx, dy, d, s, hx, hy, e, q⟩ := h
  unfold gGt at e
  split at e
  · cases e; cases hx.int; cases hy.int; exact .inl ⟨_, _, rfl, rfl, q.bl s⟩
  · cases e; cases hx.str; cases hy.str; exact .inr ⟨_, _, rfl, rfl, q.bl s⟩
  · cases e
theorem o_ge : OpR X (compareOp .GtE) (t2 X.K gGe) := by
  refine OpR.imp (op_ge.or op_ge_str) fun x y H Q h => ?_
  obtain ⟨F, G, ρ, S, dx, dy, d, s, hx, hy, e, q⟩ := h
  unfold gGe at e
  split at e
  · cases e; cases hx.int; cases hy.int; exact .inl ⟨_, _, rfl, rfl, q.bl s⟩
  · cases e; cases hx.str; cases hy.str; exact .inr ⟨_, _, rfl, rfl, q.bl s⟩
  · cases e
/-- what in asks, by the value that the operator gives for the truth b -/
theorem in_cases {K : PySem.W.Frag} {F G : Hp} {ρ : List Addr} {S : Sto} {H : Hp} {x y : V} {dx dy : D} {b : Bool} (s : SOk K F G ρ S H) (hx : DW K G H x dx) (hy : DW K G H y dy) (e : inB dx dy = some b) :
    (∃ p vs, y = .ref p ∧ (SqL K H p vs ∨ SqT K H p vs) ∧ flatV x = true ∧ vs.all flatV = true ∧ inV x vs = b) ∨
    (∃ (c : Nat) (z : Str), x = .str ⟨#[c]⟩ ∧ y = .str z ∧ decide (c ∈ z.cps.toList) = b) ∨
    (∃ i j, x = .str i ∧ y = .str j ∧ (!(Builtin.Str.occurrences j i 0 j.length 1).isEmpty) = b) := by
  have seq : ∀ {ys : List D} {p : Addr} {vs : List V}, inSeq dx ys = some b → DVs K G vs ys → flatV x = true ∧ vs.all flatV = true ∧ inV x vs = b := fun {ys p vs} e hv => by
    obtain ⟨c, rfl⟩ := some_if e
    rcases hx with hx | ⟨_, _, _, ex, _⟩
    · exact ⟨flatV_of hx c.1, flatVs_of hv c.2, any_of hx c.1 hv c.2⟩
    · subst ex; exact absurd c.1 (by simp [flatD])
  unfold inB at e
  split at e
  · obtain ⟨a, vs, rfl, h1, h2⟩ := hy.lst s
    exact .inl ⟨a, vs, rfl, .inl (.of h1), seq (p := a) e h2⟩
  · obtain ⟨a, vs, rfl, h1, h2⟩ := tup_of hy
    exact .inl ⟨a, vs, rfl, .inr (Same.sqt s.subG h1), seq (p := a) e h2⟩
  · rename_i c z
    cases hx.str; cases hy.str
    split at e
    · rename_i n hn
      cases e
      refine .inr (.inl ⟨n, _, ?_, rfl, rfl⟩)
      have : c = ⟨#[n]⟩ := by
        obtain ⟨a⟩ := c
        have h1 : a.toList = [n] := hn
        have h2 : a = #[n] := Array.ext' h1
        rw [h2]
      rw [this]
    · cases e
      exact .inr (.inr ⟨_, _, rfl, rfl, rfl⟩)
  · cases e
theorem o_in : OpR X (compareOp .In) (t2 X.K gIn) := by
  refine OpR.imp (op_in_seq.or (op_in_sign.or op_in_str)) fun x y H Q h => ?_
  obtain ⟨F, G, ρ, S, dx, dy, d, s, hx, hy, e, q⟩ := h
  obtain ⟨b, eb, rfl⟩ := Option.map_eq_some_iff.mp e
  rcases in_cases s hx hy eb with ⟨p, vs, rfl, h1, h2, h3, rfl⟩ | ⟨c, z, rfl, rfl, rfl⟩ | ⟨i, j, rfl, rfl, rfl⟩
  · exact .inl ⟨p, vs, rfl, h1, h2, h3, q.bl s⟩
  · exact .inr (.inl ⟨c, z, rfl, rfl, q.bl s⟩)
  · exact .inr (.inr ⟨i, j, rfl, rfl, q.bl s⟩)
theorem o_notin : OpR X (compareOp .NotIn) (t2 X.K gNotIn) := by
  refine OpR.imp (op_notIn_seq.or (op_notIn_sign.or op_notIn_str)) fun x y H Q h => ?_
  obtain ⟨F, G, ρ, S, dx, dy, d, s, hx, hy, e, q⟩ := h
  obtain ⟨b, eb, rfl⟩ := Option.map_eq_some_iff.mp e
  rcases in_cases s hx hy eb with ⟨p, vs, rfl, h1, h2, h3, rfl⟩ | ⟨c, z, rfl, rfl, rfl⟩ | ⟨i, j, rfl, rfl, rfl⟩
  · exact .inl ⟨p, vs, rfl, h1, h2, h3, q.bl s⟩
  · exact .inr (.inl ⟨c, z, rfl, rfl, q.bl s⟩)
  · exact .inr (.inr ⟨i, j, rfl, rfl, q.bl s⟩)
theorem isNon_of {K : PySem.W.Frag} {G H : Hp} {v : V} {d : D} (h : DW K G H v d) : decide (v = .non) = isNon d := by
  rcases h with h | ⟨a, vs, xs, rfl, rfl, _⟩
  · cases h <;> first | rfl | simp [isNon]
  · simp [isNon]
theorem o_is : OpR X (compareOp .Is) (t2 X.K gIs) := by
  refine OpR.imp op_isN fun x y H Q h => ?_
  obtain ⟨F, G, ρ, S, dx, dy, d, s, hx, hy, e, q⟩ := h
  unfold gIs at e
  split at e
  · cases e
    refine ⟨hy.non, ?_⟩
    rw [isNon_of hx]; exact q.bl s
  · cases e
theorem o_isnot : OpR X (compareOp .IsNot) (t2 X.K gIsNot) := by
  refine OpR.imp op_notN fun x y H Q h => ?_
  obtain ⟨F, G, ρ, S, dx, dy, d, s, hx, hy, e, q⟩ := h
  unfold gIsNot at e
  split at e
  · cases e
    refine ⟨hy.non, ?_⟩
    rw [isNon_of hx]; exact q.bl s
  · cases e
/-- the operators of the text -/
def gBin : Operator → Option (D → D → Option D)
  | .Add => some gAdd
  | .Sub => some gSub
  | .Mult => some gMul
  | .FloorDiv => some gDiv
  | .Mod => some gMod
  | .Pow => some gPow
  | _ => none
theorem o_bin {op : Operator} {g : D → D → Option D} (h : gBin op = some g) : OpR X (binaryOp op) (t2 X.K g) := by
  cases op <;> first | (cases h; done) | (cases h; first | exact o_add | exact o_sub | exact o_mul | exact o_div | exact o_mod | exact o_pow)
def gCmp : CmpOp → D → D → Option D
  | .Eq => gEq
  | .NotEq => gNe
  | .Lt => gLt
  | .LtE => gLe
  | .Gt => gGt
  | .GtE => gGe
  | .In => gIn
  | .NotIn => gNotIn
  | .Is => gIs
  | .IsNot => gIsNot
theorem o_cmp (hu : X.A.units + 64 < cLine) (op : CmpOp) : OpR X (compareOp op) (t2 X.K (gCmp op)) := by
  cases op
  all_goals first | exact o_eq hu | exact o_ne hu | exact o_lt | exact o_le | exact o_gt | exact o_ge | exact o_in | exact o_notin | exact o_is | exact o_isnot
end
end PL

set_option maxHeartbeats 2000000
namespace PL
open PySem PySem.Spec PyProof.Rows L2
/-! ### truth -/
def truth : R → Sto → Option Bool
  | .d .none, _ => some false
  | .d (.bool b), _ => some b
  | .d (.int i), _ => some (i != 0)
  | .d (.str y), _ => if y.length ≤ sizeLine then some ((y.length : Int) != 0) else none
  | .d (.list xs), _ => some (!xs.isEmpty)
  | .d (.tuple xs), _ => some (!xs.isEmpty)
  | .d (.dict _), _ => none
  | .ref n, S => match S[n]? with
    | some (.lst xs) => some (!xs.isEmpty)
    | some (.dic ks) => some (!ks.isEmpty)
    | none => none
  | .scr _, _ => none
theorem dvs_isE {K : PySem.W.Frag} {G : Hp} {vs : List V} {ds : List D} (h : DVs K G vs ds) : vs.isEmpty = ds.isEmpty := by cases h <;> rfl
theorem kd_isE {K : PySem.W.Frag} {G : Hp} {vs : List (Key × V)} {ds : List (Key × D)} (h : KD K G vs ds) : vs.isEmpty = ds.isEmpty := by cases h <;> rfl
theorem truth_ok {K : PySem.W.Frag} {F G : Hp} {ρ : List Addr} {S : Sto} {H : Hp} (s : SOk K F G ρ S H) {r : R} {v : V} {k : Bool} (q : RV K G ρ r v) (e : truth r S = some k) : TruV K v H k := by
  cases r with
  | scr _ => cases e
  | d x =>
    cases q with
    | non => cases e; exact rfl
    | bl b => cases e; exact rfl
    | int i => cases e; exact rfl
    | str y => obtain ⟨c, rfl⟩ := some_if e; exact ⟨c, rfl⟩
    | lst h1 h2 => cases e; exact .inl ⟨_, .of (s.subG _ _ h1), by rw [dvs_isE h2]⟩
    | tup h1 h2 => cases e; exact .inr (.inl ⟨_, Same.sqt s.subG h1, by rw [dvs_isE h2]⟩)
  | ref n =>
    obtain ⟨a, ea, rfl⟩ := q
    simp only [truth] at e
    cases hs : S[n]? with
    | none => rw [hs] at e; cases e
    | some b =>
      rw [hs] at e
      obtain ⟨o, ho, hr⟩ := s.obj n b a hs ea
      cases b with
      | lst xs =>
        obtain ⟨vs, rfl, hv⟩ := hr
        cases e
        exact .inl ⟨vs, .of ho, by rw [dvs_isE hv]⟩
      | dic ks =>
        obtain ⟨kvs, rfl, hv⟩ := hr
        cases e
        exact .inr (.inr ⟨kvs, ho, by rw [kd_isE hv]⟩)
/-! ### one value -/
def gNeg : D → Option D
  | .int i => some (.int (-i))
  | _ => none
def gLen : D → Option D
  | .str z => if z.length ≤ sizeLine then some (.int z.length) else none
  | .list xs => some (.int xs.length)
  | .tuple xs => some (.int xs.length)
  | _ => none
def bools : List D → Option (List Bool)
  | [] => some []
  | .bool b :: r => (bools r).map (b :: ·)
  | _ :: _ => none
def gAll : D → Option D
  | .list xs => (bools xs).map fun bs => .bool (bs.all id)
  | _ => none
def gAny : D → Option D
  | .list xs => (bools xs).map fun bs => .bool (bs.any id)
  | _ => none
def gTuple : D → Option D
  | .list xs => some (.tuple xs)
  | .tuple xs => some (.tuple xs)
  | _ => none
def gList : D → Option D
  | .list xs => some (.list xs)
  | .tuple xs => some (.list xs)
  | _ => none
def gInt : D → Option D
  | .int i => some (.int i)
  | .bool b => some (.int (if b then 1 else 0))
  | _ => none
def strsD : List D → Option (List Str)
  | [] => some []
  | .str b :: r => (strsD r).map (b :: ·)
  | _ :: _ => none
theorem bools_of {K : PySem.W.Frag} {G : Hp} : ∀ {ds : List D} {vs : List V} {bs : List Bool}, DVs K G vs ds → bools ds = some bs → vs = bs.map V.bl
  | [], _, _, h, e => by cases h; cases e; rfl
  | d :: ds, _, bs, h, e => by
    cases h with
    | cons h1 h2 =>
      cases h1 with
      | bl b =>
        have e : (bools ds).map (b :: ·) = some bs := e
        obtain ⟨cs, ec, rfl⟩ := Option.map_eq_some_iff.mp e
        rw [bools_of h2 ec]; rfl
      | _ => cases e
theorem strsD_of {K : PySem.W.Frag} {G : Hp} : ∀ {ds : List D} {vs : List V} {bs : List Str}, DVs K G vs ds → strsD ds = some bs → vs = bs.map V.str
  | [], _, _, h, e => by cases h; cases e; rfl
  | d :: ds, _, bs, h, e => by
    cases h with
    | cons h1 h2 =>
      cases h1 with
      | str b =>
        have e : (strsD ds).map (b :: ·) = some bs := e
        obtain ⟨cs, ec, rfl⟩ := Option.map_eq_some_iff.mp e
        rw [strsD_of h2 ec]; rfl
      | _ => cases e
def tc1 (K : PySem.W.Frag) (g : D → Option D) : List V → Hp → VK → Prop := fun vs H Q => ∃ x, vs = [x] ∧ t1 K g x H Q
section
variable {X : Cx}
theorem u_neg : UnR X (unaryOp .USub) (t1 X.K gNeg) := fun pins s σ H x v Q I r h => by
  obtain ⟨F, G, ρ, S, dx, d, s', hx, e, q⟩ := h
  refine un_neg pins s σ H x v Q I r ?_
  unfold gNeg at e
  split at e
  · cases e; cases hx.int; exact ⟨_, rfl, q.int s'⟩
  · cases e
theorem c_len : CallR X (.builtin "len") (tc1 X.K gLen) := by
  refine CallR.imp (call_len_seq.or call_len_str) fun xs H Q h => ?_
  obtain ⟨x, rfl, F, G, ρ, S, dx, d, s, hx, e, q⟩ := h
  unfold gLen at e
  split at e
  · obtain ⟨c, rfl⟩ := some_if e
    cases hx.str; exact .inr ⟨_, rfl, c, q.int s⟩
  · cases e
    obtain ⟨a, vs, rfl, h1, h2⟩ := hx.lst s
    refine .inl ⟨a, vs, rfl, .inl (.of h1), ?_⟩
    rw [dvs_len h2]; exact q.int s
  · cases e
    obtain ⟨a, vs, rfl, h1, h2⟩ := tup_of hx
    refine .inl ⟨a, vs, rfl, .inr (Same.sqt s.subG h1), ?_⟩
    rw [dvs_len h2]; exact q.int s
  · cases e
theorem c_all (hc : X.calm = true) : CallR X (.builtin "all") (tc1 X.K gAll) := by
  refine CallR.imp (cr_all hc) fun xs H Q h => ?_
  obtain ⟨x, rfl, F, G, ρ, S, dx, d, s, hx, e, q⟩ := h
  unfold gAll at e
  split at e
  · obtain ⟨bs, eb, rfl⟩ := Option.map_eq_some_iff.mp e
    obtain ⟨a, vs, rfl, h1, h2⟩ := hx.lst s
    cases bools_of h2 eb
    exact ⟨a, bs, rfl, .of h1, q.bl s⟩
  · cases e
theorem c_any (hc : X.calm = true) : CallR X (.builtin "any") (tc1 X.K gAny) := by
  refine CallR.imp (cr_any hc) fun xs H Q h => ?_
  obtain ⟨x, rfl, F, G, ρ, S, dx, d, s, hx, e, q⟩ := h
  unfold gAny at e
  split at e
  · obtain ⟨bs, eb, rfl⟩ := Option.map_eq_some_iff.mp e
    obtain ⟨a, vs, rfl, h1, h2⟩ := hx.lst s
    cases bools_of h2 eb
    exact ⟨a, bs, rfl, .of h1, q.bl s⟩
  · cases e
theorem c_tuple : CallR X (.type "tuple") (tc1 X.K gTuple) := by
  refine CallR.imp call_tuple_of fun xs H Q h => ?_
  obtain ⟨x, rfl, F, G, ρ, S, dx, d, s, hx, e, q⟩ := h
  unfold gTuple at e
  split at e
  · cases e
    obtain ⟨a, vs, rfl, h1, h2⟩ := hx.lst s
    exact ⟨a, vs, rfl, .inl ⟨.of h1, q.tup s h2⟩⟩
  · cases e
    obtain ⟨a, vs, rfl, h1, h2⟩ := tup_of hx
    exact ⟨a, vs, rfl, .inr ⟨Same.sqt s.subG h1, q.now s (.tup h1 h2)⟩⟩
  · cases e
theorem c_list : CallR X (.type "list") (tc1 X.K gList) := by
  refine CallR.imp call_list_of fun xs H Q h => ?_
  obtain ⟨x, rfl, F, G, ρ, S, dx, d, s, hx, e, q⟩ := h
  unfold gList at e
  split at e
  · cases e
    obtain ⟨a, vs, rfl, h1, h2⟩ := hx.lst s
    exact ⟨a, vs, rfl, .inl (.of h1), q.lst s h2⟩
  · cases e
    obtain ⟨a, vs, rfl, h1, h2⟩ := tup_of hx
    exact ⟨a, vs, rfl, .inr (Same.sqt s.subG h1), q.lst s h2⟩
  · cases e
theorem c_int : CallR X (.type "int") (tc1 X.K gInt) := by
  refine CallR.imp call_int1 fun xs H Q h => ?_
  obtain ⟨x, rfl, F, G, ρ, S, dx, d, s, hx, e, q⟩ := h
  unfold gInt at e
  split at e
  · cases e; cases hx.int; exact .inl ⟨_, rfl, q.int s⟩
  · cases e; cases hx.bl; exact .inr ⟨_, rfl, q.int s⟩
  · cases e
end
/-! ### isinstance -/
def tyN : D → String
  | .none => "NoneType"
  | .bool _ => "bool"
  | .int _ => "int"
  | .str _ => "str"
  | .list _ => "list"
  | .tuple _ => "tuple"
  | .dict _ => "dict"
/-- the built-in classes that are asked for -/
inductive Ty where
  | int | bool | str | tuple | list
  deriving DecidableEq
def Ty.name : Ty → String
  | .int => "int"
  | .bool => "bool"
  | .str => "str"
  | .tuple => "tuple"
  | .list => "list"
def isTy : Ty → D → Bool
  | .int, .int _ => true
  | .int, .bool _ => true
  | .bool, .bool _ => true
  | .str, .str _ => true
  | .tuple, .tuple _ => true
  | .list, .list _ => true
  | _, _ => false
theorem kit_all (t : Ty) (d : D) (h : ∀ ks, d ≠ .dict ks) : kitB (tyN d) t.name = some (isTy t d) := by
  have k (a : String) (b : String) (r : Bool) (h : kitB a b = some r) : kitB a b = some r := h
  cases d <;> first | exact absurd rfl (h _) | (cases t <;> first | exact k "NoneType" "int" false (by decide +kernel) | exact k "NoneType" "bool" false (by decide +kernel) | exact k "NoneType" "str" false (by decide +kernel) | exact k "NoneType" "tuple" false (by decide +kernel) | exact k "NoneType" "list" false (by decide +kernel) | exact k "bool" "int" true (by decide +kernel) | exact k "bool" "bool" true (by decide +kernel) | exact k "bool" "str" false (by decide +kernel) | exact k "bool" "tuple" false (by decide +kernel) | exact k "bool" "list" false (by decide +kernel) | exact k "int" "int" true (by decide +kernel) | exact k "int" "bool" false (by decide +kernel) | exact k "int" "str" false (by decide +kernel) | exact k "int" "tuple" false (by decide +kernel) | exact k "int" "list" false (by decide +kernel) | exact k "str" "int" false (by decide +kernel) | exact k "str" "bool" false (by decide +kernel) | exact k "str" "str" true (by decide +kernel) | exact k "str" "tuple" false (by decide +kernel) | exact k "str" "list" false (by decide +kernel) | exact k "list" "int" false (by decide +kernel) | exact k "list" "bool" false (by decide +kernel) | exact k "list" "str" false (by decide +kernel) | exact k "list" "tuple" false (by decide +kernel) | exact k "list" "list" true (by decide +kernel) | exact k "tuple" "int" false (by decide +kernel) | exact k "tuple" "bool" false (by decide +kernel) | exact k "tuple" "str" false (by decide +kernel) | exact k "tuple" "tuple" true (by decide +kernel) | exact k "tuple" "list" false (by decide +kernel))
theorem tyX_of {K : PySem.W.Frag} {F G : Hp} {ρ : List Addr} {S : Sto} {H : Hp} (s : SOk K F G ρ S H) {v : V} {d : D} (h : DW K G H v d) : TyX K H v (.type (tyN d)) := by
  rcases h with h | ⟨a, vs, xs, rfl, rfl, h1, _⟩
  · cases h with
    | non => exact .base .non
    | bl b => exact .base (.bl b)
    | int i => exact .base (.int i)
    | str x => exact .base (.str x)
    | lst h1 _ => exact .base (.lst (s.subG _ _ h1))
    | tup h1 _ =>
      rcases h1 with (h1 | ⟨o, h1⟩) | ⟨o, its, n, h1, h2, _⟩
      · exact .base (.tup (s.subG _ _ h1))
      · exact .fTuple (s.subG _ _ h1)
      · exact .kTuple h1 h2
  · exact .base (.lst h1)
/-- the second argument is the class -/
def tIsi (K : PySem.W.Frag) (t : Ty) : List V → Hp → VK → Prop := fun vs H Q => ∃ x, vs = [x, .ty t.name] ∧ t1 K (fun d => some (.bool (isTy t d))) x H Q
theorem c_isi {X : Cx} (t : Ty) : CallR X (.builtin "isinstance") (tIsi X.K t) := by
  refine CallR.imp call_isi fun xs H Q h => ?_
  obtain ⟨x, rfl, F, G, ρ, S, dx, d, s, hx, e, q⟩ := h
  cases e
  exact ⟨x, .ty t.name, .type (tyN dx), .type t.name, isTy t dx, rfl, .ty _, tyX_of s hx, kit_ty (kit_all t dx fun ks z => by subst z; exact hx.nodict), q.bl s⟩
/-! ### items and parts -/
def cutL {α : Type} (xs : List α) (lo hi : Option Int) : List α := (xs.drop (HT.sIx xs.length 0 lo)).take (HT.sIx xs.length xs.length hi - HT.sIx xs.length 0 lo)
theorem cutV_eq (xs : List V) (lo hi : Option Int) : cutV xs lo hi = cutL xs lo hi := rfl
theorem dvs_cut {K : PySem.W.Frag} {G : Hp} {vs : List V} {ds : List D} (h : DVs K G vs ds) (lo hi : Option Int) : DVs K G (cutV vs lo hi) (cutL ds lo hi) := by
  rw [cutV_eq]; unfold cutL
  rw [dvs_len h]
  exact dvs_take _ (dvs_drop _ h)
theorem dvs_ints {K : PySem.W.Frag} {G : Hp} : ∀ ns : List Int, DVs K G (ns.map V.int) (ns.map PyData.int)
  | [] => .nil
  | n :: r => .cons (.int n) (dvs_ints r)
def slR : R → Option Int → Option Int → Sto → Option D
  | .scr ns, lo, hi, _ => some (.list ((cutL ns lo hi).map .int))
  | r, lo, hi, S => match view r S with
    | some (.list xs) => some (.list (cutL xs lo hi))
    | some (.tuple xs) => some (.tuple (cutL xs lo hi))
    | some (.str z) => if z.length ≤ sizeLine then some (.str (cutS z lo hi)) else none
    | _ => none
def tSlR (K : PySem.W.Frag) : V → Option Int → Option Int → Hp → VK → Prop := fun x lo hi H Q => ∃ F G ρ S r d, SOk K F G ρ S H ∧ RV K G ρ r x ∧ slR r lo hi S = some d ∧ Post K F G ρ S (.d d) Q
theorem SlR.imp {X : Cx} {r r' : V → Option Int → Option Int → Hp → VK → Prop} (h : SlR X r) (q : ∀ x lo hi H Q, r' x lo hi H Q → r x lo hi H Q) : SlR X r' :=
  fun pins s σ H x v vl vu lo hi sl Q I rx hs pl pu w => h pins s σ H x v vl vu lo hi sl Q I rx hs pl pu (q x lo hi H Q w)
theorem cut_whole {α : Type} {xs : List α} {lo hi : Option Int} (h : HT.sIx xs.length 0 lo = 0 ∧ HT.sIx xs.length xs.length hi = xs.length) : cutL xs lo hi = xs := by
  unfold cutL
  rw [h.1, h.2, List.drop_zero, Nat.sub_zero, List.take_length]
theorem s_all {X : Cx} : SlR X (tSlR X.K) := by
  refine SlR.imp (sl_list.or (sl_tupA.or sl_str)) fun x lo hi H Q h => ?_
  obtain ⟨F, G, ρ, S, r, d, s, qr, e, q⟩ := h
  have gen : ∀ dx, view r S = some dx → (match some dx with
    | some (.list xs) => some (.list (cutL xs lo hi))
    | some (.tuple xs) => some (.tuple (cutL xs lo hi))
    | some (.str z) => if z.length ≤ sizeLine then some (.str (cutS z lo hi)) else none
    | _ => none) = some d → rSlL X.K x lo hi H Q ∨ rSlA X.K x lo hi H Q ∨ rSlS x lo hi H Q := fun dx ev e => by
    have hx := view_ok s qr ev
    split at e
    · rename_i xs ex
      cases ex; cases e
      obtain ⟨a, vs, rfl, h1, h2⟩ := hx.lst s
      exact .inl ⟨a, vs, rfl, .of h1, q.lst s (dvs_cut h2 lo hi)⟩
    · rename_i xs ex
      cases ex; cases e
      obtain ⟨a, vs, rfl, h1, h2⟩ := tup_of hx
      refine .inr (.inl ⟨a, vs, rfl, Same.sqt s.subG h1, fun z => ?_, fun _ => q.tup s (dvs_cut h2 lo hi)⟩)
      rw [dvs_len h2] at z
      rw [cut_whole z] at q
      exact q.now s (.tup h1 h2)
    · rename_i z ex
      cases ex
      obtain ⟨c, rfl⟩ := some_if e
      cases hx.str
      exact .inr (.inr ⟨_, rfl, c, q.str s⟩)
    · cases e
  cases r with
  | scr ns =>
    cases e
    obtain ⟨a, rfl, h1⟩ := qr
    refine .inl ⟨a, _, rfl, s.subG.seq h1, q.lst s ?_⟩
    rw [cutV_eq]
    have : cutL (ns.map V.int) lo hi = (cutL ns lo hi).map V.int := by
      unfold cutL
      rw [List.length_map, ← List.map_drop, ← List.map_take]
    rw [this]
    exact dvs_ints _
  | d dx => exact gen dx rfl e
  | ref n =>
    have e : (match view (.ref n) S with
      | some (.list xs) => some (.list (cutL xs lo hi))
      | some (.tuple xs) => some (.tuple (cutL xs lo hi))
      | some (.str z) => if z.length ≤ sizeLine then some (.str (cutS z lo hi)) else none
      | _ => none) = some d := e
    cases ev : view (.ref n) S with
    | none => rw [ev] at e; cases e
    | some dx => rw [ev] at e; exact gen dx ev e
def gIx : D → D → Option D
  | .list xs, .int i => atI xs i
  | .tuple xs, .int i => atI xs i
  | .str z, .int i => if z.length ≤ sizeLine then (atI z.cps.toList i).map fun c => .str ⟨#[c]⟩ else none
  | _, _ => none
theorem dvs_atI {K : PySem.W.Frag} {G : Hp} {vs : List V} {ds : List D} (h : DVs K G vs ds) {i : Int} {d : D} (e : atI ds i = some d) : ∃ v, atI vs i = some v ∧ DV K G v d := by
  unfold atI at e ⊢
  rw [dvs_len h]
  cases hi : ixN ds.length i with
  | none => rw [hi] at e; cases e
  | some j =>
    rw [hi] at e
    exact dvs_get h e
theorem IxR.imp {X : Cx} {r r' : R2} (h : IxR X r) (q : ∀ x y H Q, r' x y H Q → r x y H Q) : IxR X r' :=
  fun value slice pins s σ H x y v u Q I r1 r2 w => h value slice pins s σ H x y v u Q I r1 r2 (q x y H Q w)
theorem i_all {X : Cx} : IxR X (t2 X.K gIx) := by
  refine IxR.imp ix_seq fun x y H Q h => ?_
  obtain ⟨F, G, ρ, S, dx, dy, d, s, hx, hy, e, q⟩ := h
  unfold gIx at e
  split at e
  · obtain ⟨a, vs, rfl, h1, h2⟩ := hx.lst s
    cases hy.int
    obtain ⟨v, ev, hv⟩ := dvs_atI h2 e
    exact .inl ⟨a, vs, _, v, rfl, rfl, .of h1, ev, q.now s hv⟩
  · obtain ⟨a, vs, rfl, h1, h2⟩ := tup_of hx
    cases hy.int
    obtain ⟨v, ev, hv⟩ := dvs_atI h2 e
    exact .inr (.inl ⟨a, vs, _, v, rfl, rfl, Same.sqt s.subG h1, ev, q.now s hv⟩)
  · rename_i z i
    cases hx.str; cases hy.int
    by_cases c : z.length ≤ sizeLine
    · rw [if_pos c] at e
      obtain ⟨n, en, rfl⟩ := Option.map_eq_some_iff.mp e
      exact .inr (.inr ⟨_, _, n, rfl, rfl, c, en, q.str s⟩)
    · rw [if_neg c] at e; cases e
  · cases e
/-! ### dicts -/
def keyD : D → Option Key
  | .int i => some (.inl i)
  | .str x => some (.inr x)
  | _ => none
def lookK {α : Type} (ks : List (Key × α)) (k : Key) : Option α := (ks.find? fun kv => decide (kv.1 = k)).map (·.2)
def storeK {α : Type} (kvs : List (Key × α)) (k : Key) (v : α) : List (Key × α) :=
  if (kvs.any fun kv => decide (kv.1 = k)) = true then kvs.map (fun kv => if kv.1 = k then (kv.1, v) else kv) else kvs ++ [(k, v)]
theorem keyD_of {K : PySem.W.Frag} {G H : Hp} {v : V} {d : D} {k : Key} (h : DW K G H v d) (e : keyD d = some k) : v = kV k := by
  unfold keyD at e
  split at e
  · cases e; exact h.int
  · cases e; exact h.str
  · cases e
theorem kd_look {K : PySem.W.Frag} {G : Hp} {k : Key} : ∀ {kvs : List (Key × V)} {ks : List (Key × D)}, KD K G kvs ks → (∀ d, lookK ks k = some d → ∃ v, valV kvs k = some v ∧ DV K G v d) ∧ (lookK ks k = none → valV kvs k = none)
  | _, _, .nil => ⟨fun d e => (nomatch e), fun _ => rfl⟩
  | (k1, v1) :: kvs, (k2, d2) :: ks, .cons ⟨(h1 : k1 = k2), (h2 : DV K G v1 d2)⟩ t => by
    subst h1
    by_cases hk : k1 = k
    · subst hk
      have e1 : lookK ((k1, d2) :: ks) k1 = some d2 := by simp [lookK]
      have e2 : valV ((k1, v1) :: kvs) k1 = some v1 := by simp [valV]
      rw [e1, e2]
      exact ⟨fun d e => by cases e; exact ⟨v1, rfl, h2⟩, fun e => nomatch e⟩
    · have e1 : lookK ((k1, d2) :: ks) k = lookK ks k := by simp [lookK, List.find?_cons, hk]
      have e2 : valV ((k1, v1) :: kvs) k = valV kvs k := by simp [valV, List.find?_cons, hk]
      rw [e1, e2]
      exact kd_look t
theorem kd_any {K : PySem.W.Frag} {G : Hp} {k : Key} : ∀ {kvs : List (Key × V)} {ks : List (Key × D)}, KD K G kvs ks → (kvs.any fun kv => decide (kv.1 = k)) = ks.any fun kv => decide (kv.1 = k)
  | _, _, .nil => rfl
  | (k1, v1) :: kvs, (k2, d2) :: ks, .cons ⟨(h1 : k1 = k2), _⟩ t => by
    subst h1
    rw [List.any_cons, List.any_cons, kd_any t]
theorem kd_map {K : PySem.W.Frag} {G : Hp} {k : Key} {v : V} {d : D} (q : DV K G v d) : ∀ {kvs : List (Key × V)} {ks : List (Key × D)}, KD K G kvs ks → KD K G (kvs.map (fun kv => if kv.1 = k then (kv.1, v) else kv)) (ks.map (fun kv => if kv.1 = k then (kv.1, d) else kv))
  | _, _, .nil => .nil
  | (k1, v1) :: kvs, (k2, d2) :: ks, .cons ⟨(h1 : k1 = k2), (h2 : DV K G v1 d2)⟩ t => by
    subst h1
    refine .cons ?_ (kd_map q t)
    show (if k1 = k then (k1, v) else (k1, v1)).1 = (if k1 = k then (k1, d) else (k1, d2)).1 ∧ DV K G (if k1 = k then (k1, v) else (k1, v1)).2 (if k1 = k then (k1, d) else (k1, d2)).2
    by_cases hk : k1 = k
    · rw [if_pos hk, if_pos hk]; exact ⟨rfl, q⟩
    · rw [if_neg hk, if_neg hk]; exact ⟨rfl, h2⟩
theorem kd_app {K : PySem.W.Frag} {G : Hp} : ∀ {kvs kvs2 : List (Key × V)} {ks ks2 : List (Key × D)}, KD K G kvs ks → KD K G kvs2 ks2 → KD K G (kvs ++ kvs2) (ks ++ ks2)
  | _, _, _, _, .nil, h => h
  | _, _, _, _, .cons a t, h => .cons a (kd_app t h)
theorem kd_put {K : PySem.W.Frag} {G : Hp} {k : Key} {v : V} {d : D} (q : DV K G v d) {kvs : List (Key × V)} {ks : List (Key × D)} (h : KD K G kvs ks) : KD K G (putK kvs k v) (storeK ks k d) := by
  unfold putK storeK
  rw [kd_any h]
  by_cases c : (ks.any fun kv => decide (kv.1 = k)) = true
  · rw [if_pos c, if_pos c]; exact kd_map q h
  · rw [if_neg c, if_neg c]; exact kd_app h (.cons ⟨rfl, q⟩ .nil)
theorem kd_len {K : PySem.W.Frag} {G : Hp} {kvs : List (Key × V)} {ks : List (Key × D)} (h : KD K G kvs ks) : kvs.length = ks.length := Paired.length h
end PL

set_option maxHeartbeats 2000000
namespace PL
open PySem PySem.Spec PyProof.Rows L2
/-! ### repr, sorted, str, join, and what a written dict holds -/
def shownOk (d : D) : Bool := d.showable && decide (d.depth ≤ 50) && !d.hasDict && decide (d.shown.length ≤ sizeLine)
def gRepr : D → Option D
  | .list xs => if shownOk (.list xs) = true then some (.str (PyData.shown (.list xs))) else none
  | .tuple xs => if shownOk (.tuple xs) = true then some (.str (PyData.shown (.tuple xs))) else none
  | .str x => if (reprText x).length ≤ sizeLine then some (.str (reprText x)) else none
  | _ => none
def gStr : D → Option D
  | .int i => if i.natAbs.log2 < 1920 then some (.str (toString i)) else none
  | .str x => some (.str x)
  | _ => none
def gSorted : D → Option D
  | .list ds => match strsD ds with
    | some xs => if xs.length < 64 then some (.list ((sortS xs).map PyData.str)) else none
    | none => none
  | _ => none
def seqD : D → Option (List D)
  | .list ds => some ds
  | .tuple ds => some ds
  | _ => none
def gJoin (a b : D) : Option D := match a, (seqD b).bind strsD with
  | .str a, some xs => if (xs.map (·.length)).sum + xs.length * a.length ≤ 16777216 then some (.str (Txt.join a xs)) else none
  | _, _ => none
theorem dvs_strs {K : PySem.W.Frag} {G : Hp} : ∀ xs : List Str, DVs K G (xs.map V.str) (xs.map PyData.str)
  | [] => .nil
  | x :: r => .cons (.str x) (dvs_strs r)
theorem shownOk_and {d : D} (h : shownOk d = true) : d.showable = true ∧ d.depth ≤ 50 ∧ d.hasDict = false ∧ d.shown.length ≤ sizeLine := by
  simp only [shownOk, Bool.and_eq_true, decide_eq_true_eq, Bool.not_eq_true'] at h
  exact ⟨h.1.1.1, h.1.1.2, h.1.2, h.2⟩
section
variable {X : Cx}
theorem c_repr (hg : X.A.guards = some []) (hu : X.A.units + 64 < cLine) : CallR X (.builtin "repr") (tc1 X.K gRepr) := by
  intro pins s σ H xs us Q I r h
  obtain ⟨x, rfl, F, G, ρ, S, dx, d, sk, hx, e, q⟩ := h
  obtain ⟨u, rfl, r1⟩ := vals1 r
  have big : ∀ (a : Addr) (dd : D), x = .ref a → dx = dd → shownOk dd = true → d = .str dd.shown → wpAny (model X.prog X.w) X.A (PySem.call (.builtin "repr") [u]) (EP X pins σ Q) X.xe s := fun a dd ea ed ok eq => by
    subst ea ed eq
    obtain ⟨h1, h2, h3, h4⟩ := shownOk_and ok
    obtain ⟨as, rd⟩ := Dp.reads I _ _ _ (hx.dp sk) r1
    obtain rfl : u = Value.ref a := r1
    exact repr_of_reads' rd h1 (PyData.noDict_hsm h3) hg (by omega) (fun _ _ e => e) (fun h' t tk hk => ⟨.str _, H, I.kept hk, ⟨_, rfl⟩, q.now sk (.str _)⟩) h4
  cases dx with
  | list ds =>
    obtain ⟨c, rfl⟩ := some_if (show (if shownOk (.list ds) = true then some (PyData.str (PyData.shown (.list ds))) else none) = some d from e)
    obtain ⟨a, vs, ea, _, _⟩ := hx.lst sk
    exact big a _ ea rfl c rfl
  | tuple ds =>
    obtain ⟨c, rfl⟩ := some_if (show (if shownOk (.tuple ds) = true then some (PyData.str (PyData.shown (.tuple ds))) else none) = some d from e)
    obtain ⟨a, vs, ea, _, _⟩ := hx.tup sk
    exact big a _ ea rfl c rfl
  | str z =>
    obtain ⟨c, rfl⟩ := some_if (show (if (reprText z).length ≤ sizeLine then some (PyData.str (reprText z)) else none) = some d from e)
    cases hx.str
    obtain ⟨t, rfl⟩ := r1
    exact PySem.P.repr_of_str ⟨.str _, H, I.tok _, ⟨_, rfl⟩, q.now sk (.str _)⟩ c
  | _ => cases e
theorem c_str : CallR X (.type "str") (tc1 X.K gStr) := by
  refine CallR.imp (call_str_int.or SkE.call_str_str) fun xs H Q h => ?_
  obtain ⟨x, rfl, F, G, ρ, S, dx, d, s, hx, e, q⟩ := h
  unfold gStr at e
  split at e
  · obtain ⟨c, rfl⟩ := some_if e
    cases hx.int; exact .inl ⟨_, rfl, c, q.now s (.str _)⟩
  · cases e
    cases hx.str; exact .inr ⟨_, rfl, q.now s (.str _)⟩
  · cases e
theorem c_sorted : CallR X (.builtin "sorted") (tc1 X.K gSorted) := by
  refine CallR.imp cr_sortedS fun xs H Q h => ?_
  obtain ⟨x, rfl, F, G, ρ, S, dx, d, s, hx, e, q⟩ := h
  unfold gSorted at e
  split at e
  · split at e
    · rename_i ds zs hz
      obtain ⟨c, rfl⟩ := some_if e
      obtain ⟨a, vs, rfl, h1, h2⟩ := hx.lst s
      cases strsD_of h2 hz
      refine ⟨a, zs, rfl, .of h1, c, fun ys p p1 p2 hp => ?_⟩
      cases sortS_only p1 p2
      exact q.lst s (dvs_strs _) p hp
    · cases e
  · cases e
theorem m_join : MtR X "str.join" fun x xs H Q => ∃ y, xs = [y] ∧ t2 X.K gJoin x y H Q := by
  intro pins s0 σ H x xs v us Q I rx rs h
  refine mt_join pins s0 σ H x xs v us Q I rx rs ?_
  obtain ⟨y, rfl, F, G, ρ, S, dx, dy, d, s, hx, hy, e, q⟩ := h
  unfold gJoin at e
  split at e
  · rename_i a zs hz
    obtain ⟨c, rfl⟩ := some_if e
    cases hx.str
    cases dy with
    | list ds =>
      obtain ⟨b, vs, rfl, h1, h2⟩ := hy.lst s
      cases strsD_of h2 (show strsD ds = some zs from hz)
      exact ⟨a, b, zs, rfl, rfl, .inl (.of h1), c, q.now s (.str _)⟩
    | tuple ds =>
      obtain ⟨b, vs, rfl, h1, h2⟩ := tup_of hy
      cases strsD_of h2 (show strsD ds = some zs from hz)
      exact ⟨a, b, zs, rfl, rfl, .inr (Same.sqt s.subG h1), c, q.now s (.str _)⟩
    | _ => cases hz
  · cases e
end
end PL

set_option maxHeartbeats 2000000
namespace PL
open PySem PySem.Spec PyProof.Rows L2
/-! ### equality of data, decided -/
mutual
def dEq : D → D → Bool
  | .none, .none => true
  | .bool a, .bool b => a == b
  | .int a, .int b => a == b
  | .str a, .str b => decide (a = b)
  | .list a, .list b => dEqs a b
  | .tuple a, .tuple b => dEqs a b
  | .dict a, .dict b => dEqp a b
  | _, _ => false
def dEqs : List D → List D → Bool
  | [], [] => true
  | a :: as, b :: bs => dEq a b && dEqs as bs
  | _, _ => false
def dEqp : List (D × D) → List (D × D) → Bool
  | [], [] => true
  | (a, x) :: as, (b, y) :: bs => dEq a b && dEq x y && dEqp as bs
  | _, _ => false
end
mutual
theorem dEq_eq : ∀ (a b : D), dEq a b = true → a = b
  | .none, b, h => by cases b <;> first | rfl | (simp [dEq] at h; done)
  | .bool a, b, h => by cases b <;> first | (simp [dEq] at h; done) | (simp [dEq] at h; rw [h])
  | .int a, b, h => by cases b <;> first | (simp [dEq] at h; done) | (simp [dEq] at h; rw [h])
  | .str a, b, h => by cases b <;> first | (simp [dEq] at h; done) | (simp [dEq] at h; rw [h])
  | .list a, b, h => by cases b <;> first | (simp [dEq] at h; done) | (simp only [dEq] at h; rw [dEqs_eq a _ h])
  | .tuple a, b, h => by cases b <;> first | (simp [dEq] at h; done) | (simp only [dEq] at h; rw [dEqs_eq a _ h])
  | .dict a, b, h => by cases b <;> first | (simp [dEq] at h; done) | (simp only [dEq] at h; rw [dEqp_eq a _ h])
theorem dEqs_eq : ∀ (a b : List D), dEqs a b = true → a = b
  | [], [], _ => rfl
  | [], _ :: _, h => by simp [dEqs] at h
  | _ :: _, [], h => by simp [dEqs] at h
  | x :: xs, y :: ys, h => by
    simp only [dEqs, Bool.and_eq_true] at h
    rw [dEq_eq x y h.1, dEqs_eq xs ys h.2]
theorem dEqp_eq : ∀ (a b : List (D × D)), dEqp a b = true → a = b
  | [], [], _ => rfl
  | [], _ :: _, h => by simp [dEqp] at h
  | _ :: _, [], h => by simp [dEqp] at h
  | (x, u) :: xs, (y, v) :: ys, h => by
    simp only [dEqp, Bool.and_eq_true] at h
    rw [dEq_eq x y h.1.1, dEq_eq u v h.1.2, dEqp_eq xs ys h.2]
end
mutual
theorem dEq_refl : ∀ a : D, dEq a a = true
  | .none => rfl
  | .bool a => by simp [dEq]
  | .int a => by simp [dEq]
  | .str a => by simp [dEq]
  | .list a => by simp only [dEq]; exact dEqs_refl a
  | .tuple a => by simp only [dEq]; exact dEqs_refl a
  | .dict a => by simp only [dEq]; exact dEqp_refl a
theorem dEqs_refl : ∀ a : List D, dEqs a a = true
  | [] => rfl
  | x :: xs => by simp only [dEqs, dEq_refl x, dEqs_refl xs, Bool.and_self]
theorem dEqp_refl : ∀ a : List (D × D), dEqp a a = true
  | [] => rfl
  | (x, y) :: xs => by simp only [dEqp, dEq_refl x, dEq_refl y, dEqp_refl xs, Bool.and_self]
end
/-! ### the text -/
/-- built-ins of one argument -/
inductive Bi where
  | len | all | any | tuple | list | int | repr | sorted | str
def Bi.fn : Bi → D → Option D
  | .len => gLen
  | .all => gAll
  | .any => gAny
  | .tuple => gTuple
  | .list => gList
  | .int => gInt
  | .repr => gRepr
  | .sorted => gSorted
  | .str => gStr
def Bi.name : Bi → Str
  | .len => "len"
  | .all => "all"
  | .any => "any"
  | .tuple => "tuple"
  | .list => "list"
  | .int => "int"
  | .repr => "repr"
  | .sorted => "sorted"
  | .str => "str"
/-- what a loop's item is stored in -/
inductive Tg where
  | one (i : Nat)
  | tup (is : List Nat)
mutual
inductive E where
  | loc (i : Nat)
  | int (i : Int)
  | str (x : Str)
  | bl (b : Bool)
  | non
  | gd (x : Str) (d : D)
  | bin (op : Operator) (a b : E)
  | cmp (op : CmpOp) (a b : E)
  | cmp2 (o p : CmpOp) (a b c : E)
  | bop (isAnd : Bool) (a : E) (r : Es)
  | not (a : E)
  | neg (a : E)
  | ite (c a b : E)
  | tup (es : Es)
  | lst (es : Es)
  | lstR (es : Es)
  | dic0
  | dic (ks : List Str) (es : Es)
  | ix (a i : E)
  | sl (a : E) (lo hi : O)
  | bi (b : Bi) (a : E)
  | isi (t : Ty) (a : E)
  | call (f : Nat) (es : Es)
  | comp (own : List Nat) (tg : Tg) (it : It') (cs : Es) (e : E)
  | compR (own : List Nat) (tg : Tg) (it : It') (cs : Es) (e : E)
  | get2 (d k e : E)
  | app (a e : E)
  | ext (a e : E)
  | join (a e : E)
  | gget (x : Str) (tab : List (Str × D)) (k : E)
  | callK (f : Nat) (x : Str) (e : E)
inductive Es where
  | nil
  | cons (e : E) (es : Es)
inductive O where
  | no
  | so (e : E)
inductive It' where
  | seq (e : E)
  | rng (e : E)
  | zip (a b : E)
  | enm (a : E)
end
inductive Sx where
  | asg (i : Nat) (e : E)
  | asgL (i : Nat) (e : E)
  | par (is : List Nat) (es : Es)
  | parC (is : List Nat) (es : Es)
  | unp (is : List Nat) (e : E)
  | dset (d k v : E)
  | expr (e : E)
  | ret (e : E)
  | ret0
  | ifs (c : E) (a b : List Sx)
  | fors (tg : Tg) (it : It') (b : List Sx)
  | never
  | pass
  | brk
  | cont
/-! ### the evaluation -/
abbrev Cl := Nat → List R → Sto → Option (R × Sto)
def asD : R → Option D
  | .d x => some x
  | _ => none
def asDs : List R → Option (List D)
  | [] => some []
  | .d x :: r => (asDs r).map (x :: ·)
  | _ :: _ => none
def bindIx : List Nat → List D → Loc → Option Loc
  | [], [], L => some L
  | i :: is, d :: ds, L => bindIx is ds (L.set i (some (.d d)))
  | _, _, _ => none
def bindT : Tg → D → Loc → Option Loc
  | .one i, d, L => some (L.set i (some (.d d)))
  | .tup is, .tuple ds, L => bindIx is ds L
  | .tup _, _, _ => none
def setAll : List Nat → List R → Loc → Option Loc
  | [], [], L => some L
  | i :: is, r :: rs, L => setAll is rs (L.set i (some r))
  | _, _, _ => none
abbrev Lk := Option (Nat × List D)
def lockB : Lk → Sto → Bool
  | none, _ => true
  | some (n, xs), S => match S[n]? with
    | some (.lst ys) => dEqs ys xs
    | _ => false
def signs (z : Str) : List D := z.cps.toList.map fun c => .str ⟨#[c]⟩
def zipD : List D → List D → List D
  | x :: xs, y :: ys => .tuple [x, y] :: zipD xs ys
  | _, _ => []
def enumD (n : Nat) : List D → List D
  | [] => []
  | x :: xs => .tuple [.int (n : Int), x] :: enumD (n + 1) xs
def rngD (n : Int) : List D := (List.range n.toNat).map fun (i : Nat) => PyData.int (i : Int)
/-- a comprehension's turns: t gives what is put in, if it is -/
def loopM (lk : Lk) (t : D → Sto → Option (Option D × Sto)) : List D → List D → Sto → Option (List D × Sto)
  | [], acc, S => some (acc, S)
  | d :: ds, acc, S => match t d S with
    | some (o, S') => if lockB lk S' = true then (match o with
        | some y => if acc.length < sizeLine then loopM lk t ds (acc ++ [y]) S' else none
        | none => loopM lk t ds acc S') else none
    | none => none
inductive Fl where
  | nx | bk | ct
  | rt (r : R)
def forM' (lk : Lk) (t : D → Loc → Sto → Option (Fl × Loc × Sto)) : List D → Loc → Sto → Option (Fl × Loc × Sto)
  | [], L, S => some (.nx, L, S)
  | d :: ds, L, S => match t d L S with
    | some (.rt r, L', S') => some (.rt r, L', S')
    | some (.bk, L', S') => some (.nx, L', S')
    | some (_, L', S') => if lockB lk S' = true then forM' lk t ds L' S' else none
    | none => none
def ixR (a i : R) (S : Sto) : Option D :=
  match a with
  | .ref n => match S[n]? with
    | some (.dic ks) => match i with
      | .d k => match keyD k with
        | some k => lookK ks k
        | none => none
      | _ => none
    | some (.lst xs) => match i with
      | .d k => gIx (.list xs) k
      | _ => none
    | none => none
  | .d x => match i with
    | .d k => gIx x k
    | _ => none
  | .scr _ => none
def dsetR (d k v : R) (S : Sto) : Option Sto :=
  match d, k, v with
  | .ref n, .d k, .d v => match S[n]?, keyD k with
    | some (.dic ks), some k => if ks.length < sizeLine then some (S.set n (.dic (storeK ks k v))) else none
    | some (.lst xs), none => none
    | _, _ => none
  | _, _, _ => none
def get2R (d k e : R) (S : Sto) : Option R :=
  match d, k with
  | .ref n, .d k => match S[n]?, keyD k with
    | some (.dic ks), some k => match lookK ks k with
      | some v => some (.d v)
      | none => some e
    | _, _ => none
  | _, _ => none
def appR (a e : R) (S : Sto) : Option Sto :=
  match a, e with
  | .ref n, .d y => match S[n]? with
    | some (.lst xs) => if xs.length < sizeLine then some (S.set n (.lst (xs ++ [y]))) else none
    | _ => none
  | _, _ => none
def extR (a e : R) (S : Sto) : Option Sto :=
  match a with
  | .ref n => match S[n]?, view e S with
    | some (.lst xs), some (.list ys) => if xs.length + ys.length ≤ sizeLine then some (S.set n (.lst (xs ++ ys))) else none
    | _, _ => none
  | _ => none
def bin2 (g : D → D → Option D) (x y : R) (S : Sto) : Option D := match view x S, view y S with
  | some a, some b => g a b
  | _, _ => none
def un1 (g : D → Option D) (x : R) (S : Sto) : Option D := match view x S with
  | some a => g a
  | none => none
def putS (ks : List (Key × D)) : List Str → List D → List (Key × D)
  | k :: r, d :: ds => putS (storeK ks (.inr k) d) r ds
  | _, _ => ks
def okOr {α β : Type} (o : Option α) (f : α → Option β) : Option β := match o with
  | some a => f a
  | none => none
def isDic : R → Sto → Bool
  | .ref n, S => match S[n]? with
    | some (.dic _) => true
    | _ => false
  | _, _ => false
def isLst : R → Sto → Bool
  | .ref n, S => match S[n]? with
    | some (.lst _) => true
    | _ => false
  | _, _ => false
def isS : R → Bool
  | .d (.str _) => true
  | _ => false
/-- what a written dict holds -/
def getTab (tab : List (Str × D)) : R → Option D
  | .d (.str z) => some ((tab.lookup z).getD .none)
  | _ => none
def guardB {α : Type} (b : Bool) (o : Option α) : Option α := match b with
  | true => o
  | false => none
section
variable (cl : Cl)
mutual
def evE : E → Loc → Sto → Option (R × Sto)
  | .loc i, L, S => match L[i]? with
    | some (some r) => some (r, S)
    | _ => none
  | .int i, _, S => some (.d (.int i), S)
  | .str x, _, S => some (.d (.str x), S)
  | .bl b, _, S => some (.d (.bool b), S)
  | .non, _, S => some (.d .none, S)
  | .gd _ d, _, S => some (.d d, S)
  | .bin op a b, L, S => okOr (evE a L S) fun (x, S1) => okOr (evE b L S1) fun (y, S2) => okOr (gBin op) fun g => okOr (bin2 g x y S2) fun d => some (.d d, S2)
  | .cmp op a b, L, S => okOr (evE a L S) fun (x, S1) => okOr (evE b L S1) fun (y, S2) => okOr (bin2 (gCmp op) x y S2) fun d => some (.d d, S2)
  | .cmp2 o p a b c, L, S => okOr (evE a L S) fun (x, S1) => okOr (evE b L S1) fun (y, S2) => okOr (bin2 (gCmp o) x y S2) fun d => match d with
    | .bool true => okOr (evE c L S2) fun (z, S3) => okOr (bin2 (gCmp p) y z S3) fun d => some (.d d, S3)
    | .bool false => some (.d (.bool false), S2)
    | _ => none
  | .bop k a r, L, S => okOr (evE a L S) fun (x, S1) => evB k r x L S1
  | .not a, L, S => okOr (evE a L S) fun (x, S1) => okOr (truth x S1) fun b => some (.d (.bool (!b)), S1)
  | .neg a, L, S => okOr (evE a L S) fun (x, S1) => okOr (un1 gNeg x S1) fun d => some (.d d, S1)
  | .ite c a b, L, S => okOr (evE c L S) fun (x, S1) => okOr (truth x S1) fun k => match k with
    | true => evE a L S1
    | false => evE b L S1
  | .tup es, L, S => okOr (evEs es L S) fun (rs, S1) => okOr (asDs rs) fun ds => if ds.length ≤ sizeLine then some (.d (.tuple ds), S1) else none
  | .lst es, L, S => okOr (evEs es L S) fun (rs, S1) => okOr (asDs rs) fun ds => if ds.length ≤ sizeLine then some (.d (.list ds), S1) else none
  | .lstR es, L, S => okOr (evEs es L S) fun (rs, S1) => okOr (asDs rs) fun ds => if ds.length ≤ sizeLine then some (.ref S1.length, S1 ++ [.lst ds]) else none
  | .dic0, _, S => some (.ref S.length, S ++ [.dic []])
  | .dic ks es, L, S => okOr (evEs es L S) fun (rs, S1) => okOr (asDs rs) fun ds => if ds.length = ks.length ∧ ks.length ≤ 15 ∧ ks ≠ [] then some (.ref S1.length, S1 ++ [.dic (putS [] ks ds)]) else none
  | .ix a i, L, S => okOr (evE a L S) fun (x, S1) => okOr (evE i L S1) fun (y, S2) => okOr (ixR x y S2) fun d => some (.d d, S2)
  | .sl a lo hi, L, S => okOr (evE a L S) fun (x, S1) => okOr (evO lo L S1) fun (l, S2) => okOr (evO hi L S2) fun (h, S3) => okOr (slR x l h S3) fun d => some (.d d, S3)
  | .bi b a, L, S => okOr (evE a L S) fun (x, S1) => okOr (un1 b.fn x S1) fun d => some (.d d, S1)
  | .isi t a, L, S => okOr (evE a L S) fun (x, S1) => okOr (un1 (fun d => some (.bool (isTy t d))) x S1) fun d => some (.d d, S1)
  | .call f es, L, S => okOr (evEs es L S) fun (rs, S1) => cl f rs S1
  | .comp own tg it cs e, L, S => okOr (evI it L S) fun (ds, lk, S1) => guardB (lockB lk S1)
      (okOr (loopM lk (fun d S => okOr (bindT tg d (wipeL L own)) fun L' => okOr (evT cs L' S) fun (b, S') => match b with
        | true => okOr (evE e L' S') fun (y, S2) => okOr (asD y) fun y => some (some y, S2)
        | false => some (none, S')) ds [] S1) fun (ys, S2) => some (.d (.list ys), S2))
  | .compR own tg it cs e, L, S => okOr (evI it L S) fun (ds, lk, S1) => guardB (lockB lk S1)
      (okOr (loopM lk (fun d S => okOr (bindT tg d (wipeL L own)) fun L' => okOr (evT cs L' S) fun (b, S') => match b with
        | true => okOr (evE e L' S') fun (y, S2) => okOr (asD y) fun y => some (some y, S2)
        | false => some (none, S')) ds [] S1) fun (ys, S2) => some (.ref S2.length, S2 ++ [.lst ys]))
  | .get2 d k e, L, S => okOr (evE d L S) fun (x, S1) => guardB (isDic x S1) (okOr (evE k L S1) fun (y, S2) => okOr (evE e L S2) fun (z, S3) => okOr (get2R x y z S3) fun r => some (r, S3))
  | .app a e, L, S => okOr (evE a L S) fun (x, S1) => guardB (isLst x S1) (okOr (evE e L S1) fun (y, S2) => okOr (appR x y S2) fun S3 => some (.d .none, S3))
  | .ext a e, L, S => okOr (evE a L S) fun (x, S1) => guardB (isLst x S1) (okOr (evE e L S1) fun (y, S2) => okOr (extR x y S2) fun S3 => some (.d .none, S3))
  | .join a e, L, S => okOr (evE a L S) fun (x, S1) => guardB (isS x) (okOr (evE e L S1) fun (y, S2) => okOr (bin2 gJoin x y S2) fun d => some (.d d, S2))
  | .gget _ tab k, L, S => okOr (evE k L S) fun (y, S1) => okOr (getTab tab y) fun d => some (.d d, S1)
  | .callK f _ e, L, S => okOr (evE e L S) fun (x, S1) => cl f [x] S1
/-- and, or: x stands, r follows -/
def evB (k : Bool) : Es → R → Loc → Sto → Option (R × Sto)
  | .nil, x, _, S => some (x, S)
  | .cons e es, x, L, S => okOr (truth x S) fun b => if b = k then okOr (evE e L S) fun (y, S1) => evB k es y L S1 else some (x, S)
def evEs : Es → Loc → Sto → Option (List R × Sto)
  | .nil, _, S => some ([], S)
  | .cons e es, L, S => okOr (evE e L S) fun (x, S1) => okOr (evEs es L S1) fun (xs, S2) => some (x :: xs, S2)
/-- a clause's tests, none or one -/
def evT : Es → Loc → Sto → Option (Bool × Sto)
  | .nil, _, S => some (true, S)
  | .cons e .nil, L, S => okOr (evE e L S) fun (x, S1) => okOr (truth x S1) fun b => some (b, S1)
  | .cons _ _, _, _ => none
def evO : O → Loc → Sto → Option (Option Int × Sto)
  | .no, _, S => some (none, S)
  | .so e, L, S => okOr (evE e L S) fun (x, S1) => match x with
    | .d (.int i) => some (some i, S1)
    | _ => none
def evI : It' → Loc → Sto → Option (List D × Lk × Sto)
  | .seq e, L, S => okOr (evE e L S) fun (x, S1) => match x with
    | .d (.list xs) => some (xs, none, S1)
    | .d (.tuple xs) => some (xs, none, S1)
    | .d (.str z) => some (signs z, none, S1)
    | .ref n => (match S1[n]? with
      | some (.lst xs) => some (xs, some (n, xs), S1)
      | _ => none)
    | _ => none
  | .rng e, L, S => okOr (evE e L S) fun (x, S1) => match x with
    | .d (.int i) => if -(2 ^ 62) ≤ i ∧ i < 2 ^ 62 then some (rngD i, none, S1) else none
    | _ => none
  | .zip a b, L, S => okOr (evE a L S) fun (x, S1) => okOr (evE b L S1) fun (y, S2) => match x, y with
    | .d (.list xs), .d (.list ys) => some (zipD xs ys, none, S2)
    | .d (.tuple xs), .d (.tuple ys) => some (zipD xs ys, none, S2)
    | _, _ => none
  | .enm a, L, S => okOr (evE a L S) fun (x, S1) => match x with
    | .d (.list xs) => some (enumD 0 xs, none, S1)
    | _ => none
end
mutual
def evS : Sx → Loc → Sto → Option (Fl × Loc × Sto)
  | .asg i e, L, S => okOr (evE cl e L S) fun (x, S1) => some (.nx, L.set i (some x), S1)
  | .asgL i e, L, S => okOr (evE cl e L S) fun (x, S1) => some (.nx, L.set i (some x), S1)
  | .par is es, L, S => okOr (evEs cl es L S) fun (rs, S1) => okOr (setAll is rs L) fun L' => some (.nx, L', S1)
  | .parC is es, L, S => okOr (evEs cl es L S) fun (rs, S1) => okOr (setAll is rs L) fun L' => some (.nx, L', S1)
  | .unp is e, L, S => okOr (evE cl e L S) fun (x, S1) => match x with
    | .d (.tuple ds) => okOr (bindIx is ds L) fun L' => some (.nx, L', S1)
    | _ => none
  | .dset d k v, L, S => okOr (evE cl v L S) fun (z, S1) => okOr (evE cl d L S1) fun (x, S2) => okOr (evE cl k L S2) fun (y, S3) => okOr (dsetR x y z S3) fun S4 => some (.nx, L, S4)
  | .expr e, L, S => okOr (evE cl e L S) fun (_, S1) => some (.nx, L, S1)
  | .ret e, L, S => okOr (evE cl e L S) fun (x, S1) => some (.rt x, L, S1)
  | .ret0, L, S => some (.rt (.d .none), L, S)
  | .ifs c a b, L, S => okOr (evE cl c L S) fun (x, S1) => okOr (truth x S1) fun k => match k with
    | true => evSs a L S1
    | false => evSs b L S1
  | .fors tg it b, L, S => okOr (evI cl it L S) fun (ds, lk, S1) => guardB (lockB lk S1) (forM' lk (fun d L S => okOr (bindT tg d L) fun L' => evSs b L' S) ds L S1)
  | .never, _, _ => none
  | .pass, L, S => some (.nx, L, S)
  | .brk, L, S => some (.bk, L, S)
  | .cont, L, S => some (.ct, L, S)
def evSs : List Sx → Loc → Sto → Option (Fl × Loc × Sto)
  | [], L, S => some (.nx, L, S)
  | s :: r, L, S => okOr (evS s L S) fun (f, L', S') => match f with
    | .nx => evSs r L' S'
    | f => some (f, L', S')
end
end
/-- a def: its name, its names by slot, how many of them are parameters, its body -/
structure Fn where
  name : Str
  names : List Str
  np : Nat
  body : List Sx
/-- a call's value: where it is a datum, what was made within is forgotten -/
def callN (P : List Fn) : Nat → Cl
  | 0, _, _, _ => none
  | n + 1, f, rs, S => match P[f]? with
    | some d => if rs.length = d.np then (match evSs (callN P n) d.body (rs.map some ++ List.replicate (d.names.length - rs.length) none) S with
        | some (.rt (.d x), _, S') => some (.d x, S'.take S.length)
        | some (.rt r, _, S') => some (r, S')
        | some (.nx, _, S') => some (.d .none, S'.take S.length)
        | _ => none) else none
    | none => none
end PL

set_option maxHeartbeats 2000000
namespace PL
open PySem PySem.Spec PyProof.Rows L2
theorem okOr_some {α β : Type} {o : Option α} {f : α → Option β} {b : β} (h : okOr o f = some b) : ∃ a, o = some a ∧ f a = some b := by
  cases o with
  | none => cases h
  | some a => exact ⟨a, rfl, h⟩
theorem res_eq {α : Type} {x r : α} {S S' : Sto} (h : some (x, S) = some (r, S')) : x = r ∧ S = S' := by
  injection h with h
  injection h with h1 h2
  exact ⟨h1, h2⟩
theorem okOr_eq {α β : Type} (a : α) (f : α → Option β) : okOr (some a) f = f a := rfl
/-- a test's reading -/
def tT (K : PySem.W.Frag) (ev : Loc → Sto → Option (Bool × Sto)) : TT := fun σ H Q => ∃ F G ρ S L b S', SOk K F G ρ S H ∧ LOk K G ρ L σ ∧ ev L S = some (b, S') ∧
  ∀ (G' : Hp) (ρ' : List Addr) (H' : Hp), Same G G' → ρ <+: ρ' → SOk K F G' ρ' S' H' → Q b H'
def tstE (ev : Ev) : Loc → Sto → Option (Bool × Sto) := fun L S => okOr (ev L S) fun (x, S1) => okOr (truth x S1) fun b => some (b, S1)
def tO (K : PySem.W.Frag) (ev : Loc → Sto → Option (Option Int × Sto)) : TO := fun σ H Q => ∃ F G ρ S L b S', SOk K F G ρ S H ∧ LOk K G ρ L σ ∧ ev L S = some (b, S') ∧
  ∀ (G' : Hp) (ρ' : List Addr) (H' : Hp), Same G G' → ρ <+: ρ' → SOk K F G' ρ' S' H' → Q b H'
theorem PO.weak {X : Cx} {e : Option Expr} {t t' : TO} (h : PO X e t) (q : ∀ σ H Q, t' σ H Q → t σ H Q) : PO X e t' := ⟨fun pins s σ H Q I w => h.run pins s σ H Q I (q σ H Q w)⟩
section
variable {X : Cx} {a b c : Expr} {ea eb ec : Ev} {pos : Pos}
theorem e_loc {i : Nat} {x : Str} (hN : X.N[i]? = some x) (hv : Vis X.env.scope x) (hd : (x == ("__debug__" : Str)) = false) (hcd : (x == ("__classdict__" : Str)) = false) :
    PE X (.Name x pos) (tE X.K fun L S => match L[i]? with
      | some (some r) => some (r, S)
      | _ => none) := by
  refine PE.weak (pe_var (i := i) hN hv hd hcd) fun σ H Q h => ?_
  obtain ⟨F, G, ρ, S, L, r, S', s, l, e, q⟩ := h
  dsimp only at e
  split at e
  · rename_i r' hr
    cases e
    obtain ⟨v, hv, rv⟩ := l.2 i _ hr
    exact ⟨v, hv, q.now s rv⟩
  · cases e
theorem e_const {v : V} {d : D} (h : PE X a (tC v)) (hd : ∀ G, DV X.K G v d) : PE X a (tE X.K fun _ S => some (.d d, S)) := by
  refine PE.weak h fun σ H Q h => ?_
  obtain ⟨F, G, ρ, S, L, r, S', s, l, e, q⟩ := h
  cases e
  exact q.now s (hd G)
theorem e_bin {op : Operator} (ha : PE X a (tE X.K ea)) (hb : PE X b (tE X.K eb)) : PE X (.BinOp a op b pos) (tE X.K fun L S => okOr (ea L S) fun (x, S1) => okOr (eb L S1) fun (y, S2) => okOr (gBin op) fun g => okOr (bin2 g x y S2) fun d => some (.d d, S2)) := by
  cases hg : gBin op with
  | none =>
    refine ⟨fun pins s σ H Q I h => ?_⟩
    obtain ⟨F, G, ρ, S, L, r, S', s, l, e, q⟩ := h
    obtain ⟨⟨x, S1⟩, e1, e⟩ := okOr_some e
    obtain ⟨⟨y, S2⟩, e2, e⟩ := okOr_some e
    obtain ⟨g', eg, e⟩ := okOr_some e
    cases eg
  | some g =>
    refine PE.weak (pe_op (o_bin hg) ha hb) fun σ H Q h => ?_
    obtain ⟨F, G, ρ, S, L, r, S', s, l, e, q⟩ := h
    obtain ⟨⟨x, S1⟩, e1, e⟩ := okOr_some e
    obtain ⟨⟨y, S2⟩, e2, e⟩ := okOr_some e
    obtain ⟨g', eg, e⟩ := okOr_some e
    cases eg
    obtain ⟨d, e3, e⟩ := okOr_some e
    obtain ⟨rfl, rfl⟩ := res_eq e
    refine ⟨F, G, ρ, S, L, x, S1, s, l, e1, fun G1 ρ1 H1 v1 g1 p1 s1 q1 => ⟨F, G1, ρ1, S1, L, y, S2, s1, lok_mono g1 p1 l, e2, fun G2 ρ2 H2 v2 g2 p2 s2 q2 => ?_⟩⟩
    simp only [bin2] at e3
    split at e3
    · rename_i dx dy hx hy
      exact ⟨F, G2, ρ2, S2, dx, dy, d, s2, view_ok s2 (rv_mono g2 p2 q1) hx, view_ok s2 q2 hy, e3, (q.mono (g1.trans g2) (p1.trans p2))⟩
    · cases e3
/-- the shared reading of a comparison -/
theorem cmp_read {K : PySem.W.Frag} {g : D → D → Option D} {σ : L2.St} {H : Hp} {Q : VK} (h : tE K (fun L S => okOr (ea L S) fun (x, S1) => okOr (eb L S1) fun (y, S2) => okOr (bin2 g x y S2) fun d => some (.d d, S2)) σ H Q) :
    tOp (t2 K g) (tE K ea) (tE K eb) σ H Q := by
  obtain ⟨F, G, ρ, S, L, r, S', s, l, e, q⟩ := h
  obtain ⟨⟨x, S1⟩, e1, e⟩ := okOr_some e
  obtain ⟨⟨y, S2⟩, e2, e⟩ := okOr_some e
  obtain ⟨d, e3, e⟩ := okOr_some e
  obtain ⟨rfl, rfl⟩ := res_eq e
  refine ⟨F, G, ρ, S, L, x, S1, s, l, e1, fun G1 ρ1 H1 v1 g1 p1 s1 q1 => ⟨F, G1, ρ1, S1, L, y, S2, s1, lok_mono g1 p1 l, e2, fun G2 ρ2 H2 v2 g2 p2 s2 q2 => ?_⟩⟩
  simp only [bin2] at e3
  split at e3
  · rename_i dx dy hx hy
    exact ⟨F, G2, ρ2, S2, dx, dy, d, s2, view_ok s2 (rv_mono g2 p2 q1) hx, view_ok s2 q2 hy, e3, (q.mono (g1.trans g2) (p1.trans p2))⟩
  · cases e3
theorem e_cmp {op : CmpOp} (hu : X.A.units + 64 < cLine) (ha : PE X a (tE X.K ea)) (hb : PE X b (tE X.K eb)) (hm : behindInMarks op b = false) :
    PE X (.Compare a [op] [b] pos) (tE X.K fun L S => okOr (ea L S) fun (x, S1) => okOr (eb L S1) fun (y, S2) => okOr (bin2 (gCmp op) x y S2) fun d => some (.d d, S2)) :=
  PE.weak (pe_cmpR (o_cmp hu op) ha hb hm) fun σ H Q h => cmp_read h
/-- a test that is an expression's truth, from a reading in which the value is a bool -/
theorem tst_bool {K : PySem.W.Frag} {ev : Ev} {t : TE} {σ : L2.St} {H : Hp} {Q : Bool → Hp → Prop} (hb : ∀ L S r S', ev L S = some (r, S') → ∃ b, r = .d (.bool b)) (h : tT K (tstE ev) σ H Q) : tE K ev σ H fun x H' => ∃ k, x = .bl k ∧ Q k H' := by
  obtain ⟨F, G, ρ, S, L, b, S', s, l, e, q⟩ := h
  obtain ⟨⟨x, S1⟩, e1, e⟩ := okOr_some e
  obtain ⟨k, e2, e⟩ := okOr_some e
  cases e
  obtain ⟨b', rfl⟩ := hb _ _ _ _ e1
  cases e2
  exact ⟨F, G, ρ, S, L, _, _, s, l, e1, fun G1 ρ1 H1 v1 g1 p1 s1 q1 => by cases q1; exact ⟨_, rfl, q G1 ρ1 H1 g1 p1 s1⟩⟩
theorem gCmp_bool {op : CmpOp} {x y d : D} (h : gCmp op x y = some d) : ∃ b, d = .bool b := by
  cases op <;> simp only [gCmp] at h
  · obtain ⟨_, rfl⟩ := some_if h; exact ⟨_, rfl⟩
  · obtain ⟨_, rfl⟩ := some_if h; exact ⟨_, rfl⟩
  · unfold gLt at h; split at h <;> first | (cases h; exact ⟨_, rfl⟩) | cases h
  · unfold gLe at h; split at h <;> first | (cases h; exact ⟨_, rfl⟩) | cases h
  · unfold gGt at h; split at h <;> first | (cases h; exact ⟨_, rfl⟩) | cases h
  · unfold gGe at h; split at h <;> first | (cases h; exact ⟨_, rfl⟩) | cases h
  · unfold gIs at h; split at h <;> first | (cases h; exact ⟨_, rfl⟩) | cases h
  · unfold gIsNot at h; split at h <;> first | (cases h; exact ⟨_, rfl⟩) | cases h
  · obtain ⟨b, _, rfl⟩ := Option.map_eq_some_iff.mp h; exact ⟨_, rfl⟩
  · obtain ⟨b, _, rfl⟩ := Option.map_eq_some_iff.mp h; exact ⟨_, rfl⟩
theorem bin2_some {g : D → D → Option D} {x y : R} {S : Sto} {d : D} (h : bin2 g x y S = some d) : ∃ a b, view x S = some a ∧ view y S = some b ∧ g a b = some d := by
  simp only [bin2] at h
  split at h
  · exact ⟨_, _, by assumption, by assumption, h⟩
  · cases h
theorem un1_some {g : D → Option D} {x : R} {S : Sto} {d : D} (h : un1 g x S = some d) : ∃ a, view x S = some a ∧ g a = some d := by
  simp only [un1] at h
  split at h
  · exact ⟨_, by assumption, h⟩
  · cases h
theorem p_cmp {op : CmpOp} (hu : X.A.units + 64 < cLine) (ha : PE X a (tE X.K ea)) (hb : PE X b (tE X.K eb)) (hm : behindInMarks op b = false) :
    PT X (.Compare a [op] [b] pos) (tT X.K (tstE fun L S => okOr (ea L S) fun (x, S1) => okOr (eb L S1) fun (y, S2) => okOr (bin2 (gCmp op) x y S2) fun d => some (.d d, S2))) :=
  PT.weak (pt_cmpR (o_cmp hu op) ha hb hm) fun σ H Q h => cmp_read (tst_bool (t := fun _ _ _ => True) (fun L S r S' e => by
    obtain ⟨⟨x, S1⟩, _, e⟩ := okOr_some e
    obtain ⟨⟨y, S2⟩, _, e⟩ := okOr_some e
    obtain ⟨d, e3, e⟩ := okOr_some e
    obtain ⟨_, _, _, _, e3⟩ := bin2_some e3
    obtain ⟨b, rfl⟩ := gCmp_bool e3
    cases e
    exact ⟨b, rfl⟩) h)
abbrev ev2 (o p : CmpOp) (ea eb ec : Ev) : Ev := fun L S => okOr (ea L S) fun (x, S1) => okOr (eb L S1) fun (y, S2) => okOr (bin2 (gCmp o) x y S2) fun d => match d with
    | .bool true => okOr (ec L S2) fun (z, S3) => okOr (bin2 (gCmp p) y z S3) fun d => some (.d d, S3)
    | .bool false => some (.d (.bool false), S2)
    | _ => none
theorem chain_read {K : PySem.W.Frag} {o p : CmpOp} {σ : L2.St} {H : Hp} {Q : VK} (h : tE K (ev2 o p ea eb ec) σ H Q) : tChain (t2 K (gCmp o)) (t2 K (gCmp p)) (tE K ea) (tE K eb) (tE K ec) σ H Q := by
  obtain ⟨F, G, ρ, S, L, r, S', s, l, e, q⟩ := h
  obtain ⟨⟨x, S1⟩, e1, e⟩ := okOr_some e
  obtain ⟨⟨y, S2⟩, e2, e⟩ := okOr_some e
  obtain ⟨d, e3, e⟩ := okOr_some e
  obtain ⟨dx, dy, hx, hy, e3⟩ := bin2_some e3
  obtain ⟨k, rfl⟩ := gCmp_bool e3
  refine ⟨F, G, ρ, S, L, x, S1, s, l, e1, fun G1 ρ1 H1 v1 g1 p1 s1 q1 => ⟨F, G1, ρ1, S1, L, y, S2, s1, lok_mono g1 p1 l, e2, fun G2 ρ2 H2 v2 g2 p2 s2 q2 => ?_⟩⟩
  refine ⟨F, G2, ρ2, S2, dx, dy, _, s2, view_ok s2 (rv_mono g2 p2 q1) hx, view_ok s2 q2 hy, e3, fun G3 ρ3 H3 v3 g3 p3 s3 q3 => ?_⟩
  cases q3
  refine ⟨k, rfl, ?_⟩
  cases k with
  | false =>
    cases e
    rw [if_neg Bool.false_ne_true]
    exact (q.mono (g1.trans (g2.trans g3)) (p1.trans (p2.trans p3))).bl s3
  | true =>
    rw [if_pos rfl]
    obtain ⟨⟨z, S3⟩, e4, e⟩ := okOr_some e
    obtain ⟨d, e5, e⟩ := okOr_some e
    obtain ⟨rfl, rfl⟩ := res_eq e
    obtain ⟨dy', dz, hy', hz, e5⟩ := bin2_some e5
    refine ⟨F, G3, ρ3, S2, L, z, S3, s3, lok_mono (g1.trans (g2.trans g3)) (p1.trans (p2.trans p3)) l, e4, fun G4 ρ4 H4 v4 g4 p4 s4 q4 => ?_⟩
    exact ⟨F, G4, ρ4, S3, dy', dz, d, s4, view_ok s4 (rv_mono (g3.trans g4) (p3.trans p4) q2) hy', view_ok s4 q4 hz, e5, q.mono (g1.trans (g2.trans (g3.trans g4))) (p1.trans (p2.trans (p3.trans p4)))⟩
end
end PL

set_option maxHeartbeats 2000000
namespace PL
open PySem PySem.Spec PyProof.Rows L2
section
variable {X : Cx} {a b c : Expr} {ea eb ec : Ev} {pos : Pos}
theorem e_cmp2 {o p : CmpOp} (hu : X.A.units + 64 < cLine) (ha : PE X a (tE X.K ea)) (hb : PE X b (tE X.K eb)) (hc : PE X c (tE X.K ec)) (hm : lastMarks [o, p] [b, c] = false) :
    PE X (.Compare a [o, p] [b, c] pos) (tE X.K (ev2 o p ea eb ec)) := PE.weak (pe_chain (o_cmp hu o) (o_cmp hu p) ha hb hc hm) fun σ H Q h => chain_read h
theorem p_cmp2 {o p : CmpOp} (hu : X.A.units + 64 < cLine) (ha : PE X a (tE X.K ea)) (hb : PE X b (tE X.K eb)) (hc : PE X c (tE X.K ec)) (hm : lastMarks [o, p] [b, c] = false) :
    PT X (.Compare a [o, p] [b, c] pos) (tT X.K (tstE (ev2 o p ea eb ec))) := by
  refine PT.weak (pt_chain (o_cmp hu o) (o_cmp hu p) ha hb hc hm) fun σ H Q h => chain_read (tst_bool (t := fun _ _ _ => True) (fun L S r S' e => ?_) h)
  obtain ⟨⟨x, S1⟩, _, e⟩ := okOr_some e
  obtain ⟨⟨y, S2⟩, _, e⟩ := okOr_some e
  obtain ⟨d, e3, e⟩ := okOr_some e
  obtain ⟨_, _, _, _, e3⟩ := bin2_some e3
  obtain ⟨k, rfl⟩ := gCmp_bool e3
  cases k with
  | false => cases e; exact ⟨false, rfl⟩
  | true =>
    obtain ⟨⟨z, S3⟩, _, e⟩ := okOr_some e
    obtain ⟨d, e5, e⟩ := okOr_some e
    obtain ⟨_, _, _, _, e5⟩ := bin2_some e5
    obtain ⟨k, rfl⟩ := gCmp_bool e5
    cases e; exact ⟨k, rfl⟩
/-- truth of a value -/
theorem truth_read {K : PySem.W.Frag} {σ : L2.St} {H : Hp} {Q : Bool → Hp → Prop} (h : tT K (tstE ea) σ H Q) : tE K ea σ H fun x H' => ∃ k, TruV K x H' k ∧ Q k H' := by
  obtain ⟨F, G, ρ, S, L, b, S', s, l, e, q⟩ := h
  obtain ⟨⟨x, S1⟩, e1, e⟩ := okOr_some e
  obtain ⟨k, e2, e⟩ := okOr_some e
  obtain ⟨rfl, rfl⟩ := res_eq e
  exact ⟨F, G, ρ, S, L, x, S1, s, l, e1, fun G1 ρ1 H1 v1 g1 p1 s1 q1 => ⟨k, truth_ok s1 q1 e2, q G1 ρ1 H1 g1 p1 s1⟩⟩
theorem p_val (ha : PE X a (tE X.K ea)) (hw : ∀ whole, isTrue a X.env whole = (do let v ← whole; standAt a.pos; holding [v] (truthy v))) : PT X a (tT X.K (tstE ea)) :=
  PT.weak (pt_truth ha hw) fun σ H Q h => truth_read h
abbrev evNot (ea : Ev) : Ev := fun L S => okOr (ea L S) fun (x, S1) => okOr (truth x S1) fun b => some (.d (.bool (!b)), S1)
theorem e_not (ha : PE X a (tE X.K ea)) : PE X (.UnaryOp .Not a pos) (tE X.K (evNot ea)) := by
  refine PE.weak (pe_notT ha) fun σ H Q h => ?_
  obtain ⟨F, G, ρ, S, L, b, S', s, l, e, q⟩ := h
  obtain ⟨⟨x, S1⟩, e1, e⟩ := okOr_some e
  obtain ⟨k, e2, e⟩ := okOr_some e
  obtain ⟨rfl, rfl⟩ := res_eq e
  exact ⟨F, G, ρ, S, L, x, S1, s, l, e1, fun G1 ρ1 H1 v1 g1 p1 s1 q1 => ⟨k, truth_ok s1 q1 e2, (q.mono g1 p1).bl s1⟩⟩
theorem p_not (ha : PT X a (tT X.K (tstE ea))) : PT X (.UnaryOp .Not a pos) (tT X.K (tstE (evNot ea))) := by
  refine PT.weak (pt_not ha) fun σ H Q h => ?_
  obtain ⟨F, G, ρ, S, L, b, S', s, l, e, q⟩ := h
  obtain ⟨⟨x, S1⟩, e1, e⟩ := okOr_some e
  obtain ⟨k, e2, e⟩ := okOr_some e
  obtain ⟨rfl, rfl⟩ := res_eq e
  obtain ⟨⟨y, S2⟩, e3, e1⟩ := okOr_some e1
  obtain ⟨k', e4, e1⟩ := okOr_some e1
  obtain ⟨rfl, rfl⟩ := res_eq e1
  cases e2
  refine ⟨F, G, ρ, S, L, k', S2, s, l, ?_, fun G1 ρ1 H1 g1 p1 s1 => q G1 ρ1 H1 g1 p1 s1⟩
  show okOr (ea L S) _ = _
  rw [e3]
  show okOr (truth y S2) _ = _
  rw [e4]; rfl
theorem e_neg (ha : PE X a (tE X.K ea)) : PE X (.UnaryOp .USub a pos) (tE X.K fun L S => okOr (ea L S) fun (x, S1) => okOr (un1 gNeg x S1) fun d => some (.d d, S1)) := by
  refine PE.weak (pe_un u_neg ha) fun σ H Q h => ?_
  obtain ⟨F, G, ρ, S, L, b, S', s, l, e, q⟩ := h
  obtain ⟨⟨x, S1⟩, e1, e⟩ := okOr_some e
  obtain ⟨d, e2, e⟩ := okOr_some e
  obtain ⟨rfl, rfl⟩ := res_eq e
  obtain ⟨dx, hx, e2⟩ := un1_some e2
  exact ⟨F, G, ρ, S, L, x, S1, s, l, e1, fun G1 ρ1 H1 v1 g1 p1 s1 q1 => ⟨F, G1, ρ1, S1, dx, d, s1, view_ok s1 q1 hx, e2, q.mono g1 p1⟩⟩
abbrev evIte (ec ea eb : Ev) : Ev := fun L S => okOr (ec L S) fun (x, S1) => okOr (truth x S1) fun k => match k with
    | true => ea L S1
    | false => eb L S1
theorem tst_of {L : Loc} {S S1 : Sto} {x : R} {k : Bool} (e1 : ec L S = some (x, S1)) (e2 : truth x S1 = some k) : tstE ec L S = some (k, S1) := by
  show okOr (ec L S) _ = _
  rw [e1]
  show okOr (truth x S1) _ = _
  rw [e2]; rfl
theorem e_ite (hc : PT X c (tT X.K (tstE ec))) (ha : PE X a (tE X.K ea)) (hb : PE X b (tE X.K eb)) : PE X (.IfExp c a b pos) (tE X.K (evIte ec ea eb)) := by
  refine PE.weak (pe_ifExp hc ha hb) fun σ H Q h => ?_
  obtain ⟨F, G, ρ, S, L, r, S', s, l, e, q⟩ := h
  obtain ⟨⟨x, S1⟩, e1, e⟩ := okOr_some e
  obtain ⟨k, e2, e⟩ := okOr_some e
  refine ⟨F, G, ρ, S, L, k, S1, s, l, tst_of e1 e2, fun G1 ρ1 H1 g1 p1 s1 => ?_⟩
  cases k with
  | true => rw [if_pos rfl]; exact ⟨F, G1, ρ1, S1, L, r, S', s1, lok_mono g1 p1 l, e, q.mono g1 p1⟩
  | false => rw [if_neg Bool.false_ne_true]; exact ⟨F, G1, ρ1, S1, L, r, S', s1, lok_mono g1 p1 l, e, q.mono g1 p1⟩
theorem pt_ifE {tc ta tb : TT} (hc : PT X c tc) (ha : PT X a ta) (hb : PT X b tb) : PT X (.IfExp c a b pos) (fun σ H Q => tc σ H fun k H1 => if k = true then ta σ H1 Q else tb σ H1 Q) := by
  refine ⟨fun pins s0 σ H Q I h => ?_⟩
  show wpAny _ _ (PySem.isTrue c X.env (eval c X.env) >>= fun t => if t = true then PySem.isTrue a X.env (eval a X.env) else PySem.isTrue b X.env (eval b X.env)) _ _ s0
  refine wpAny_bind (thn (hc.run pins s0 σ H (fun k H1 => if k = true then ta σ H1 Q else tb σ H1 Q) I h) fun t s1 ⟨H1, I1, q1⟩ => ?_)
  cases t with
  | true => exact ha.run pins s1 σ H1 Q I1 q1
  | false => exact hb.run pins s1 σ H1 Q I1 q1
theorem p_ite (hc : PT X c (tT X.K (tstE ec))) (ha : PT X a (tT X.K (tstE ea))) (hb : PT X b (tT X.K (tstE eb))) : PT X (.IfExp c a b pos) (tT X.K (tstE (evIte ec ea eb))) := by
  refine PT.weak (pt_ifE hc ha hb) fun σ H Q h => ?_
  obtain ⟨F, G, ρ, S, L, r, S', s, l, e, q⟩ := h
  obtain ⟨⟨y, S2⟩, e0, e⟩ := okOr_some e
  obtain ⟨k2, e3, e⟩ := okOr_some e
  obtain ⟨rfl, rfl⟩ := res_eq e
  obtain ⟨⟨x, S1⟩, e1, e0⟩ := okOr_some e0
  obtain ⟨k, e2, e0⟩ := okOr_some e0
  refine ⟨F, G, ρ, S, L, k, S1, s, l, tst_of e1 e2, fun G1 ρ1 H1 g1 p1 s1 => ?_⟩
  cases k with
  | true => rw [if_pos rfl]; exact ⟨F, G1, ρ1, S1, L, k2, S2, s1, lok_mono g1 p1 l, tst_of e0 e3, fun G2 ρ2 H2 g2 p2 s2 => q G2 ρ2 H2 (g1.trans g2) (p1.trans p2) s2⟩
  | false => rw [if_neg Bool.false_ne_true]; exact ⟨F, G1, ρ1, S1, L, k2, S2, s1, lok_mono g1 p1 l, tst_of e0 e3, fun G2 ρ2 H2 g2 p2 s2 => q G2 ρ2 H2 (g1.trans g2) (p1.trans p2) s2⟩
/-! ### and, or -/
/-- how the rest of an and (or) goes on, from the value that stands -/
abbrev EvB := R → Loc → Sto → Option (R × Sto)
abbrev evBop (k : Bool) (ea : Ev) (r : EvB) : Ev := fun L S => okOr (ea L S) fun (x, S1) => r x L S1
abbrev nilB : EvB := fun x _ S => some (x, S)
abbrev consB (k : Bool) (e : Ev) (r : EvB) : EvB := fun x L S => okOr (truth x S) fun b => if b = k then okOr (e L S) fun (y, S1) => r y L S1 else some (x, S)
variable {rest : List Expr} {r : EvB}
theorem e_bop1 {op : BoolOp} {k : Bool} (ha : PE X a (tE X.K ea)) : PE X (.BoolOp op [a] pos) (tE X.K (evBop k ea nilB)) := by
  refine PE.weak (pe_one ha) fun σ H Q h => ?_
  obtain ⟨F, G, ρ, S, L, r, S', s, l, e, q⟩ := h
  obtain ⟨⟨x, S1⟩, e1, e⟩ := okOr_some e
  obtain ⟨rfl, rfl⟩ := res_eq e
  exact ⟨F, G, ρ, S, L, x, S1, s, l, e1, q⟩
theorem e_and (ha : PE X a (tE X.K ea)) (hb : PE X (.BoolOp .And (b :: rest) pos) (tE X.K (evBop true eb r))) : PE X (.BoolOp .And (a :: b :: rest) pos) (tE X.K (evBop true ea (consB true eb r))) := by
  refine PE.weak (pe_andT ha hb) fun σ H Q h => ?_
  obtain ⟨F, G, ρ, S, L, r', S', s, l, e, q⟩ := h
  obtain ⟨⟨x, S1⟩, e1, e⟩ := okOr_some e
  obtain ⟨k, e2, e⟩ := okOr_some e
  refine ⟨F, G, ρ, S, L, x, S1, s, l, e1, fun G1 ρ1 H1 v1 g1 p1 s1 q1 => ⟨k, truth_ok s1 q1 e2, ?_⟩⟩
  cases k with
  | true => rw [if_pos rfl] at e ⊢; exact ⟨F, G1, ρ1, S1, L, r', S', s1, lok_mono g1 p1 l, e, q.mono g1 p1⟩
  | false =>
    rw [if_neg Bool.false_ne_true] at e ⊢
    obtain ⟨rfl, rfl⟩ := res_eq e
    exact q G1 ρ1 H1 v1 g1 p1 s1 q1
theorem e_or (ha : PE X a (tE X.K ea)) (hb : PE X (.BoolOp .Or (b :: rest) pos) (tE X.K (evBop false eb r))) : PE X (.BoolOp .Or (a :: b :: rest) pos) (tE X.K (evBop false ea (consB false eb r))) := by
  refine PE.weak (pe_orT ha hb) fun σ H Q h => ?_
  obtain ⟨F, G, ρ, S, L, r', S', s, l, e, q⟩ := h
  obtain ⟨⟨x, S1⟩, e1, e⟩ := okOr_some e
  obtain ⟨k, e2, e⟩ := okOr_some e
  refine ⟨F, G, ρ, S, L, x, S1, s, l, e1, fun G1 ρ1 H1 v1 g1 p1 s1 q1 => ⟨k, truth_ok s1 q1 e2, ?_⟩⟩
  cases k with
  | false => rw [if_pos rfl] at e; rw [if_neg Bool.false_ne_true]; exact ⟨F, G1, ρ1, S1, L, r', S', s1, lok_mono g1 p1 l, e, q.mono g1 p1⟩
  | true =>
    rw [if_neg (by decide)] at e
    rw [if_pos rfl]
    obtain ⟨rfl, rfl⟩ := res_eq e
    exact q G1 ρ1 H1 v1 g1 p1 s1 q1
theorem p_and1 {k : Bool} (ha : PT X a (tT X.K (tstE ea))) : PW X (.BoolOp .And [a] pos) (tT X.K (tstE (evBop k ea nilB))) := by
  refine ⟨fun wh pins s σ H Q I h => (pw_and1 ha).run wh pins s σ H Q I ?_⟩
  obtain ⟨F, G, ρ, S, L, r, S', s, l, e, q⟩ := h
  obtain ⟨⟨x, S1⟩, e1, e⟩ := okOr_some e
  obtain ⟨b, e2, e⟩ := okOr_some e
  obtain ⟨rfl, rfl⟩ := res_eq e
  obtain ⟨⟨x', S1'⟩, e1', e0⟩ := okOr_some e1
  obtain ⟨rfl, rfl⟩ := res_eq e0
  exact ⟨F, G, ρ, S, L, _, _, s, l, tst_of e1' e2, q⟩
theorem p_or1 {k : Bool} (ha : PT X a (tT X.K (tstE ea))) : PW X (.BoolOp .Or [a] pos) (tT X.K (tstE (evBop k ea nilB))) := by
  refine ⟨fun wh pins s σ H Q I h => (pw_or1 ha).run wh pins s σ H Q I ?_⟩
  obtain ⟨F, G, ρ, S, L, r, S', s, l, e, q⟩ := h
  obtain ⟨⟨x, S1⟩, e1, e⟩ := okOr_some e
  obtain ⟨b, e2, e⟩ := okOr_some e
  obtain ⟨rfl, rfl⟩ := res_eq e
  obtain ⟨⟨x', S1'⟩, e1', e0⟩ := okOr_some e1
  obtain ⟨rfl, rfl⟩ := res_eq e0
  exact ⟨F, G, ρ, S, L, _, _, s, l, tst_of e1' e2, q⟩
theorem p_and (ha : PT X a (tT X.K (tstE ea))) (hb : PW X (.BoolOp .And (b :: rest) pos) (tT X.K (tstE (evBop true eb r)))) : PW X (.BoolOp .And (a :: b :: rest) pos) (tT X.K (tstE (evBop true ea (consB true eb r)))) := by
  refine ⟨fun wh pins s σ H Q I h => (pw_and ha hb).run wh pins s σ H Q I ?_⟩
  obtain ⟨F, G, ρ, S, L, r', S', s, l, e, q⟩ := h
  obtain ⟨⟨y, S2⟩, e0, e⟩ := okOr_some e
  obtain ⟨k2, e3, e⟩ := okOr_some e
  obtain ⟨rfl, rfl⟩ := res_eq e
  obtain ⟨⟨x, S1⟩, e1, e0⟩ := okOr_some e0
  obtain ⟨k, e2, e0⟩ := okOr_some e0
  refine ⟨F, G, ρ, S, L, k, S1, s, l, tst_of e1 e2, fun G1 ρ1 H1 g1 p1 s1 => ?_⟩
  cases k with
  | true => rw [if_pos rfl] at e0 ⊢; exact ⟨F, G1, ρ1, S1, L, k2, S2, s1, lok_mono g1 p1 l, tst_of (ec := evBop true eb r) e0 e3, fun G2 ρ2 H2 g2 p2 s2 => q G2 ρ2 H2 (g1.trans g2) (p1.trans p2) s2⟩
  | false =>
    rw [if_neg Bool.false_ne_true] at e0 ⊢
    obtain ⟨rfl, rfl⟩ := res_eq e0
    rw [e2] at e3; cases e3
    exact q G1 ρ1 H1 g1 p1 s1
theorem p_or (ha : PT X a (tT X.K (tstE ea))) (hb : PW X (.BoolOp .Or (b :: rest) pos) (tT X.K (tstE (evBop false eb r)))) : PW X (.BoolOp .Or (a :: b :: rest) pos) (tT X.K (tstE (evBop false ea (consB false eb r)))) := by
  refine ⟨fun wh pins s σ H Q I h => (pw_or ha hb).run wh pins s σ H Q I ?_⟩
  obtain ⟨F, G, ρ, S, L, r', S', s, l, e, q⟩ := h
  obtain ⟨⟨y, S2⟩, e0, e⟩ := okOr_some e
  obtain ⟨k2, e3, e⟩ := okOr_some e
  obtain ⟨rfl, rfl⟩ := res_eq e
  obtain ⟨⟨x, S1⟩, e1, e0⟩ := okOr_some e0
  obtain ⟨k, e2, e0⟩ := okOr_some e0
  refine ⟨F, G, ρ, S, L, k, S1, s, l, tst_of e1 e2, fun G1 ρ1 H1 g1 p1 s1 => ?_⟩
  cases k with
  | false => rw [if_pos rfl] at e0; rw [if_neg Bool.false_ne_true]; exact ⟨F, G1, ρ1, S1, L, k2, S2, s1, lok_mono g1 p1 l, tst_of (ec := evBop false eb r) e0 e3, fun G2 ρ2 H2 g2 p2 s2 => q G2 ρ2 H2 (g1.trans g2) (p1.trans p2) s2⟩
  | true =>
    rw [if_neg (by decide)] at e0
    rw [if_pos rfl]
    obtain ⟨rfl, rfl⟩ := res_eq e0
    rw [e2] at e3; cases e3
    exact q G1 ρ1 H1 g1 p1 s1
/-! ### argument lists, displays -/
variable {es : List Expr} {eas : Evs}
theorem a_nil : PA X [] (tA X.K fun _ S => some ([], S)) := by
  refine PA.weak pa_nil fun σ H Q h => ?_
  obtain ⟨F, G, ρ, S, L, rs, S', s, l, e, q⟩ := h
  cases e
  exact q G ρ H [] (Same.refl _) (List.prefix_refl _) s .nil
theorem a_cons (ha : PE X a (tE X.K ea)) (hr : PA X es (tA X.K eas)) (hs : starEach (a :: es) X.env = (false, eval a X.env) :: starEach es X.env) :
    PA X (a :: es) (tA X.K fun L S => okOr (ea L S) fun (x, S1) => okOr (eas L S1) fun (xs, S2) => some (x :: xs, S2)) := by
  refine PA.weak (pa_cons ha hr hs) fun σ H Q h => ?_
  obtain ⟨F, G, ρ, S, L, rs, S', s, l, e, q⟩ := h
  obtain ⟨⟨x, S1⟩, e1, e⟩ := okOr_some e
  obtain ⟨⟨xs, S2⟩, e2, e⟩ := okOr_some e
  obtain ⟨rfl, rfl⟩ := res_eq e
  exact ⟨F, G, ρ, S, L, x, S1, s, l, e1, fun G1 ρ1 H1 v1 g1 p1 s1 q1 => ⟨F, G1, ρ1, S1, L, xs, S2, s1, lok_mono g1 p1 l, e2, fun G2 ρ2 H2 vs g2 p2 s2 q2 =>
    q G2 ρ2 H2 _ (g1.trans g2) (p1.trans p2) s2 (.cons (rv_mono g2 p2 q1) q2)⟩⟩
theorem rvs_dvs {K : PySem.W.Frag} {G : Hp} {ρ : List Addr} : ∀ {rs : List R} {vs : List V} {ds : List D}, RVs K G ρ rs vs → asDs rs = some ds → DVs K G vs ds
  | _, _, _, .nil, e => by cases e; exact .nil
  | .d x :: rs, _, ds, .cons h t, e => by
    have e : (asDs rs).map (x :: ·) = some ds := e
    obtain ⟨es, ee, rfl⟩ := Option.map_eq_some_iff.mp e
    exact .cons h (rvs_dvs t ee)
  | .ref n :: rs, _, _, .cons h t, e => by cases e
  | .scr n :: rs, _, _, .cons h t, e => by cases e
theorem e_tup {k : Nat} (h : PA X es (tA X.K eas)) : PE X (.Tuple es k pos) (tE X.K fun L S => okOr (eas L S) fun (rs, S1) => okOr (asDs rs) fun ds => if ds.length ≤ sizeLine then some (.d (.tuple ds), S1) else none) := by
  refine PE.weak (pe_tup h) fun σ H Q h => ?_
  obtain ⟨F, G, ρ, S, L, r, S', s, l, e, q⟩ := h
  obtain ⟨⟨rs, S1⟩, e1, e⟩ := okOr_some e
  obtain ⟨ds, e2, e⟩ := okOr_some e
  obtain ⟨c, e⟩ := some_if e
  obtain ⟨rfl, rfl⟩ := res_eq (congrArg some e)
  refine ⟨F, G, ρ, S, L, rs, S1, s, l, e1, fun G1 ρ1 H1 vs g1 p1 s1 q1 => ?_⟩
  have hd := rvs_dvs q1 e2
  exact ⟨by rw [dvs_len hd]; exact c, (q.mono g1 p1).tup s1 hd⟩
theorem e_lst (h : PA X es (tA X.K eas)) : PE X (.List es pos) (tE X.K fun L S => okOr (eas L S) fun (rs, S1) => okOr (asDs rs) fun ds => if ds.length ≤ sizeLine then some (.d (.list ds), S1) else none) := by
  refine PE.weak (pe_lst h) fun σ H Q h => ?_
  obtain ⟨F, G, ρ, S, L, r, S', s, l, e, q⟩ := h
  obtain ⟨⟨rs, S1⟩, e1, e⟩ := okOr_some e
  obtain ⟨ds, e2, e⟩ := okOr_some e
  obtain ⟨c, e⟩ := some_if e
  obtain ⟨rfl, rfl⟩ := res_eq (congrArg some e)
  refine ⟨F, G, ρ, S, L, rs, S1, s, l, e1, fun G1 ρ1 H1 vs g1 p1 s1 q1 => ?_⟩
  have hd := rvs_dvs q1 e2
  exact ⟨by rw [dvs_len hd]; exact c, (q.mono g1 p1).lst s1 hd⟩
theorem e_lstR (h : PA X es (tA X.K eas)) : PE X (.List es pos) (tE X.K fun L S => okOr (eas L S) fun (rs, S1) => okOr (asDs rs) fun ds => if ds.length ≤ sizeLine then some (.ref S1.length, S1 ++ [.lst ds]) else none) := by
  refine PE.weak (pe_lst h) fun σ H Q h => ?_
  obtain ⟨F, G, ρ, S, L, r, S', s, l, e, q⟩ := h
  obtain ⟨⟨rs, S1⟩, e1, e⟩ := okOr_some e
  obtain ⟨ds, e2, e⟩ := okOr_some e
  obtain ⟨c, e⟩ := some_if e
  obtain ⟨rfl, rfl⟩ := res_eq (congrArg some e)
  refine ⟨F, G, ρ, S, L, rs, S1, s, l, e1, fun G1 ρ1 H1 vs g1 p1 s1 q1 => ?_⟩
  have hd := rvs_dvs q1 e2
  exact ⟨by rw [dvs_len hd]; exact c, (q.mono g1 p1).rnew s1 ⟨vs, rfl, hd⟩⟩
theorem e_dic0 : PE X (.Dict [] [] pos) (tE X.K fun _ S => some (.ref S.length, S ++ [.dic []])) := by
  refine PE.weak pe_dnewK fun σ H Q h => ?_
  obtain ⟨F, G, ρ, S, L, r, S', s, l, e, q⟩ := h
  obtain ⟨rfl, rfl⟩ := res_eq e
  exact q.rnew s ⟨[], rfl, .nil⟩
end
end PL

set_option maxHeartbeats 2000000
namespace PL
open PySem PySem.Spec PyProof.Rows L2
section
variable {X : Cx} {a b c : Expr} {ea eb ec : Ev} {pos : Pos}
theorem ixR_some {x y : R} {S : Sto} {d : D} (h : ixR x y S = some d) :
    (∃ n ks k kd, x = .ref n ∧ S[n]? = some (.dic ks) ∧ y = .d kd ∧ keyD kd = some k ∧ lookK ks k = some d) ∨ (∃ dx dy, view x S = some dx ∧ view y S = some dy ∧ gIx dx dy = some d) := by
  unfold ixR at h
  cases x with
  | scr _ => cases h
  | d x =>
    dsimp only at h
    cases y with
    | d k => exact .inr ⟨x, k, rfl, rfl, h⟩
    | _ => cases h
  | ref n =>
    dsimp only at h
    cases hs : S[n]? with
    | none => rw [hs] at h; cases h
    | some o =>
      rw [hs] at h
      cases o with
      | dic ks =>
        dsimp only at h
        cases y with
        | d kd =>
          dsimp only at h
          cases hk : keyD kd with
          | none => rw [hk] at h; cases h
          | some k => rw [hk] at h; exact .inl ⟨n, ks, k, kd, rfl, hs, rfl, hk, h⟩
        | _ => cases h
      | lst xs =>
        dsimp only at h
        cases y with
        | d kd => exact .inr ⟨.list xs, kd, by simp only [view, hs], rfl, h⟩
        | _ => cases h
theorem e_ix (hu : X.A.units + 1 < cLine) (ha : PE X a (tE X.K ea)) (hb : PE X b (tE X.K eb)) (hp : PlainIx b) :
    PE X (.Subscript a b pos) (tE X.K fun L S => okOr (ea L S) fun (x, S1) => okOr (eb L S1) fun (y, S2) => okOr (ixR x y S2) fun d => some (.d d, S2)) := by
  refine ⟨fun pins s0 σ H Q I h => ?_⟩
  obtain ⟨F, G, ρ, S, L, r, S', s, l, e, q⟩ := h
  obtain ⟨⟨x, S1⟩, e1, e⟩ := okOr_some e
  obtain ⟨⟨y, S2⟩, e2, e⟩ := okOr_some e
  obtain ⟨d, e3, e⟩ := okOr_some e
  obtain ⟨rfl, rfl⟩ := res_eq e
  rcases ixR_some e3 with ⟨n, ks, k, kd, rfl, hs, rfl, hk, hl⟩ | ⟨dx, dy, hx, hy, hg⟩
  · refine (pe_dget hu ha hb hp).run pins s0 σ H Q I ?_
    refine ⟨F, G, ρ, S, L, _, S1, s, l, e1, fun G1 ρ1 H1 v1 g1 p1 s1 q1 => ⟨F, G1, ρ1, S1, L, _, S2, s1, lok_mono g1 p1 l, e2, fun G2 ρ2 H2 v2 g2 p2 s2 q2 => ?_⟩⟩
    obtain ⟨a, ea', rfl⟩ := q1
    obtain ⟨o, ho, kvs, rfl, hkd⟩ := s2.obj n _ a hs (pre_get p2 ea')
    obtain ⟨v, hv, qv⟩ := (kd_look hkd).1 d hl
    have ev2 : v2 = kV k := keyD_of (H := H2) (.inl q2) hk
    refine ⟨a, v, rfl, ?_, (q.mono (g1.trans g2) (p1.trans p2)).now s2 qv⟩
    rw [ev2, ← hv]
    exact DGet.k ho
  · refine (pe_ix i_all ha hb hp).run pins s0 σ H Q I ?_
    exact ⟨F, G, ρ, S, L, _, S1, s, l, e1, fun G1 ρ1 H1 v1 g1 p1 s1 q1 => ⟨F, G1, ρ1, S1, L, _, S2, s1, lok_mono g1 p1 l, e2, fun G2 ρ2 H2 v2 g2 p2 s2 q2 =>
      ⟨F, G2, ρ2, S2, dx, dy, d, s2, view_ok s2 (rv_mono g2 p2 q1) hx, view_ok s2 q2 hy, hg, q.mono (g1.trans g2) (p1.trans p2)⟩⟩⟩
abbrev noO : Loc → Sto → Option (Option Int × Sto) := fun _ S => some (none, S)
abbrev soO (e : Ev) : Loc → Sto → Option (Option Int × Sto) := fun L S => okOr (e L S) fun (x, S1) => match x with
    | .d (.int i) => some (some i, S1)
    | _ => none
theorem o_none : PO X none (tO X.K noO) := by
  refine PO.weak po_none fun σ H Q h => ?_
  obtain ⟨F, G, ρ, S, L, r, S', s, l, e, q⟩ := h
  obtain ⟨rfl, rfl⟩ := res_eq e
  exact q G ρ H (Same.refl _) (List.prefix_refl _) s
theorem o_some (ha : PE X a (tE X.K ea)) : PO X (some a) (tO X.K (soO ea)) := by
  refine PO.weak (po_some ha) fun σ H Q h => ?_
  obtain ⟨F, G, ρ, S, L, r, S', s, l, e, q⟩ := h
  obtain ⟨⟨x, S1⟩, e1, e⟩ := okOr_some e
  dsimp only at e
  split at e
  · obtain ⟨rfl, rfl⟩ := res_eq e
    exact ⟨F, G, ρ, S, L, _, S1, s, l, e1, fun G1 ρ1 H1 v1 g1 p1 s1 q1 => by cases q1; exact ⟨_, rfl, q G1 ρ1 H1 g1 p1 s1⟩⟩
  · cases e
theorem e_sl {lo hi : Option Expr} {el eh : Loc → Sto → Option (Option Int × Sto)} {p2 : Pos} (ha : PE X a (tE X.K ea)) (hl : PO X lo (tO X.K el)) (hh : PO X hi (tO X.K eh)) :
    PE X (.Subscript a (.Slice lo hi none p2) pos) (tE X.K fun L S => okOr (ea L S) fun (x, S1) => okOr (el L S1) fun (l, S2) => okOr (eh L S2) fun (h, S3) => okOr (slR x l h S3) fun d => some (.d d, S3)) := by
  refine PE.weak (pe_slice s_all ha hl hh) fun σ H Q h => ?_
  obtain ⟨F, G, ρ, S, L, r, S', s, l, e, q⟩ := h
  obtain ⟨⟨x, S1⟩, e1, e⟩ := okOr_some e
  obtain ⟨⟨y, S2⟩, e2, e⟩ := okOr_some e
  obtain ⟨⟨z, S3⟩, e3, e⟩ := okOr_some e
  obtain ⟨d, e4, e⟩ := okOr_some e
  obtain ⟨rfl, rfl⟩ := res_eq e
  refine ⟨F, G, ρ, S, L, x, S1, s, l, e1, fun G1 ρ1 H1 v1 g1 p1 s1 q1 => ⟨F, G1, ρ1, S1, L, y, S2, s1, lok_mono g1 p1 l, e2, fun G2 ρ2 H2 g2 p2 s2 => ⟨F, G2, ρ2, S2, L, z, S3, s2, lok_mono (g1.trans g2) (p1.trans p2) l, e3, fun G3 ρ3 H3 g3 p3 s3 => ?_⟩⟩⟩
  exact ⟨F, G3, ρ3, S3, x, d, s3, rv_mono (g2.trans g3) (p2.trans p3) q1, e4, q.mono (g1.trans (g2.trans g3)) (p1.trans (p2.trans p3))⟩
/-- a built-in of one argument, by values -/
theorem one_read {K : PySem.W.Frag} {g : D → Option D} {σ : L2.St} {H : Hp} {Q : VK} (h : tE K (fun L S => okOr (ea L S) fun (x, S1) => okOr (un1 g x S1) fun d => some (.d d, S1)) σ H Q) :
    tE K ea σ H fun x H' => t1 K g x H' Q := by
  obtain ⟨F, G, ρ, S, L, r, S', s, l, e, q⟩ := h
  obtain ⟨⟨x, S1⟩, e1, e⟩ := okOr_some e
  obtain ⟨d, e2, e⟩ := okOr_some e
  obtain ⟨rfl, rfl⟩ := res_eq e
  obtain ⟨dx, hx, e2⟩ := un1_some e2
  exact ⟨F, G, ρ, S, L, x, S1, s, l, e1, fun G1 ρ1 H1 v1 g1 p1 s1 q1 => ⟨F, G1, ρ1, S1, dx, d, s1, view_ok s1 q1 hx, e2, q.mono g1 p1⟩⟩
theorem star1 {env : Env} (h : ∀ e p, a ≠ .Starred e p) (es : List Expr) : starEach (a :: es) env = (false, eval a env) :: starEach es env := by
  cases a <;> first | rfl | exact absurd rfl (h _ _)
theorem back_nil (p : Pos) (env : Env) : (backTo p (starEach [] env)).any (·.1) = false := rfl
theorem e_fun {id : String} {x : Str} {p : Pos} {g : D → Option D} (hc : CallR X (.builtin id) (tc1 X.K g)) (hg : Gl X x) (hm : X.mg x = none) (hv : bootBuiltins x = some (.builtin id)) (hn : x ≠ "__name__") (hdb : (x == ("__debug__" : Str)) = false)
    (ha : PE X a (tE X.K ea)) (hst : ∀ e p, a ≠ .Starred e p) :
    PE X (.Call (.Name x p) [a] [] pos) (tE X.K fun L S => okOr (ea L S) fun (x, S1) => okOr (un1 g x S1) fun d => some (.d d, S1)) := by
  refine PE.weak (pe_callB hc hg hm hv (pa_cons ha pa_nil (star1 hst [])) hn hdb (star1 hst []) (back_nil _ _)) fun σ H Q h => ?_
  obtain ⟨F, G, ρ, S, L, x, S1, s, l, e1, q⟩ := one_read h
  exact ⟨F, G, ρ, S, L, x, S1, s, l, e1, fun G1 ρ1 H1 v1 g1 p1 s1 q1 => ⟨v1, rfl, q G1 ρ1 H1 v1 g1 p1 s1 q1⟩⟩
theorem e_type {id : String} {x : Str} {p : Pos} {g : D → Option D} (hc : CallR X (.type id) (tc1 X.K g)) (hg : Gl X x) (hm : X.mg x = none) (hv : bootBuiltins x = some (.type id)) (hn : x ≠ "__name__") (hdb : (x == ("__debug__" : Str)) = false)
    (ha : PE X a (tE X.K ea)) (hst : ∀ e p, a ≠ .Starred e p) :
    PE X (.Call (.Name x p) [a] [] pos) (tE X.K fun L S => okOr (ea L S) fun (x, S1) => okOr (un1 g x S1) fun d => some (.d d, S1)) := by
  refine PE.weak (pe_callTy hc hg hm hv (pa_cons ha pa_nil (star1 hst [])) hn hdb (star1 hst []) (back_nil _ _)) fun σ H Q h => ?_
  obtain ⟨F, G, ρ, S, L, x, S1, s, l, e1, q⟩ := one_read h
  exact ⟨F, G, ρ, S, L, x, S1, s, l, e1, fun G1 ρ1 H1 v1 g1 p1 s1 q1 => ⟨v1, rfl, q G1 ρ1 H1 v1 g1 p1 s1 q1⟩⟩
theorem e_bi (t : Bi) {p : Pos} (hc : X.calm = true) (hgd : X.A.guards = some []) (hun : X.A.units + 64 < cLine) (hg : Gl X t.name) (hm : X.mg t.name = none) (ha : PE X a (tE X.K ea)) (hst : ∀ e p, a ≠ .Starred e p) :
    PE X (.Call (.Name t.name p) [a] [] pos) (tE X.K fun L S => okOr (ea L S) fun (x, S1) => okOr (un1 t.fn x S1) fun d => some (.d d, S1)) := by
  cases t
  · exact e_fun c_len hg hm PySem.boot_len (by decide) (by decide) ha hst
  · exact e_fun (c_all hc) hg hm (by decide +kernel) (by decide) (by decide) ha hst
  · exact e_fun (c_any hc) hg hm (by decide +kernel) (by decide) (by decide) ha hst
  · exact e_type c_tuple hg hm (by decide +kernel) (by decide) (by decide) ha hst
  · exact e_type c_list hg hm (by decide +kernel) (by decide) (by decide) ha hst
  · exact e_type c_int hg hm (by decide +kernel) (by decide) (by decide) ha hst
  · exact e_fun (c_repr hgd hun) hg hm (by decide +kernel) (by decide) (by decide) ha hst
  · exact e_fun c_sorted hg hm (by decide +kernel) (by decide) (by decide) ha hst
  · exact e_type c_str hg hm (by decide +kernel) (by decide) (by decide) ha hst
def Ty.nm (t : Ty) : Str := Str.ofString t.name
theorem boot_ty (t : Ty) : bootBuiltins t.nm = some (.type t.name) := by cases t <;> decide +kernel
theorem ty_ne (t : Ty) : t.nm ≠ "__name__" ∧ (t.nm == ("__debug__" : Str)) = false := by cases t <;> decide
theorem e_isi (t : Ty) {p p2 : Pos} (hg : Gl X "isinstance") (hm : X.mg "isinstance" = none) (hg2 : Gl X t.nm) (hm2 : X.mg t.nm = none) (ha : PE X a (tE X.K ea)) (hst : ∀ e p, a ≠ .Starred e p) :
    PE X (.Call (.Name "isinstance" p) [a, .Name t.nm p2] [] pos) (tE X.K fun L S => okOr (ea L S) fun (x, S1) => okOr (un1 (fun d => some (.bool (isTy t d))) x S1) fun d => some (.d d, S1)) := by
  refine PE.weak (pe_callB (c_isi t) hg hm (by decide +kernel) (pa_cons ha (pa_cons (pe_bltn (v := .ty t.name) hg2 hm2 (boot_ty t) rfl (ty_ne t).1 (ty_ne t).2) pa_nil rfl) (star1 hst _)) (by decide) (by decide) (star1 hst _) rfl) fun σ H Q h => ?_
  obtain ⟨F, G, ρ, S, L, x, S1, s, l, e1, q⟩ := one_read h
  exact ⟨F, G, ρ, S, L, x, S1, s, l, e1, fun G1 ρ1 H1 v1 g1 p1 s1 q1 => ⟨v1, rfl, q G1 ρ1 H1 v1 g1 p1 s1 q1⟩⟩
/-! ### methods -/
theorem base_of {o : Expr} {m : Str} (h : ∀ p q, o ≠ .Call (.Name "super" p) [] [] q) : attributeBase o m X.env (eval o X.env) = eval o X.env := by
  unfold attributeBase
  split
  · rename_i id p pos
    have hid : (id != ("super" : Str)) = true := by
      have : id ≠ ("super" : Str) := fun z => h p pos (by rw [z])
      simpa using this
    rw [if_pos (by rw [hid]; rfl)]
  · rfl
end
end PL

set_option maxHeartbeats 2000000
namespace PL
open PySem PySem.Spec PyProof.Rows L2
section
variable {K : PySem.W.Frag}
theorem SOk.notin {F G : Hp} {ρ : List Addr} {S : Sto} {H : Hp} (s : SOk K F G ρ S H) {p : Addr} (h : H p = none ∨ F p ≠ none) : p ∉ ρ := fun ha => by
  rcases h with h | h
  · obtain ⟨n, hn, e⟩ := List.getElem_of_mem ha
    have hn' : n < S.length := by rw [← s.len]; exact hn
    obtain ⟨o, ho, _⟩ := s.obj n S[n] p (List.getElem?_eq_getElem hn') (by rw [List.getElem?_eq_getElem hn, e])
    rw [h] at ho; cases ho
  · exact h (s.out p ha).2
/-- a new thing, held apart -/
theorem SOk.hold {F G : Hp} {ρ : List Addr} {S : Sto} {H : Hp} (s : SOk K F G ρ S H) {p : Addr} {o : HO} (h : H p = none) : SOk K (upd F p o) G ρ S (upd H p o) := by
  have hg : G p = none := Same.free s.subG h
  have hf : F p = none := Same.free s.subF h
  have hp := s.notin (.inl h)
  refine ⟨s.len, s.nd, fun b u e => ?_, s.subG.trans (same_upd h), fun a ha => ?_, fun a ha => ?_, fun n b a e1 e2 => ?_⟩
  · by_cases hb : b = p
    · subst hb; rw [upd_same] at e ⊢; exact e
    · rw [upd_ne hb] at e ⊢; exact s.subF b u e
  · have hne : a ≠ p := fun z => hp (z ▸ ha)
    rw [upd_ne hne]; exact s.out a ha
  · by_cases hb : a = p
    · rw [hb]; exact hg
    · rw [upd_ne hb] at ha; exact s.dis a ha
  · obtain ⟨u, hu, r⟩ := s.obj n b a e1 e2
    have hne : a ≠ p := fun z => hp (z ▸ List.mem_of_getElem? e2)
    exact ⟨u, by rw [upd_ne hne]; exact hu, r⟩
/-- what is held apart, changed -/
theorem SOk.held {F G : Hp} {ρ : List Addr} {S : Sto} {H : Hp} {p : Addr} {o : HO} (s : SOk K (upd F p o) G ρ S H) (o' : HO) : SOk K (upd F p o') G ρ S (upd H p o') := by
  have hF : upd F p o p ≠ none := by rw [upd_same]; exact fun z => nomatch z
  have hg : G p = none := s.dis p hF
  have hp := s.notin (.inr hF)
  refine ⟨s.len, s.nd, fun b u e => ?_, fun b u e => ?_, fun a ha => ?_, fun a ha => ?_, fun n b a e1 e2 => ?_⟩
  · by_cases hb : b = p
    · subst hb; rw [upd_same] at e ⊢; exact e
    · rw [upd_ne hb] at e ⊢; exact s.subF b u (by rw [upd_ne hb]; exact e)
  · have hb : b ≠ p := fun z => by subst z; rw [hg] at e; cases e
    rw [upd_ne hb]; exact s.subG b u e
  · have hne : a ≠ p := fun z => hp (z ▸ ha)
    have := s.out a ha
    rw [upd_ne hne] at this ⊢; exact this
  · by_cases hb : a = p
    · rw [hb]; exact hg
    · rw [upd_ne hb] at ha; exact s.dis a (by rw [upd_ne hb]; exact ha)
  · obtain ⟨u, hu, r⟩ := s.obj n b a e1 e2
    have hne : a ≠ p := fun z => hp (z ▸ List.mem_of_getElem? e2)
    exact ⟨u, by rw [upd_ne hne]; exact hu, r⟩
theorem SOk.heldAt {F G : Hp} {ρ : List Addr} {S : Sto} {H : Hp} {p : Addr} {o : HO} (s : SOk K (upd F p o) G ρ S H) : H p = some o := s.subF p o upd_same
/-- .. becomes a thing that never changes -/
theorem SOk.heldFix {F G : Hp} {ρ : List Addr} {S : Sto} {H : Hp} {p : Addr} {o : HO} (s : SOk K (upd F p o) G ρ S H) (hf : F p = none) : SOk K F (upd G p o) ρ S H ∧ Same G (upd G p o) := by
  have hF : upd F p o p ≠ none := by rw [upd_same]; exact fun z => nomatch z
  have hg : G p = none := s.dis p hF
  have hp := s.notin (.inr hF)
  have hsub : ∀ b u, F b = some u → b ≠ p := fun b u e z => by subst z; rw [hf] at e; cases e
  refine ⟨⟨s.len, s.nd, fun b u e => s.subF b u (by rw [upd_ne (hsub b u e)]; exact e), fun b u e => ?_, fun a ha => ?_, fun a ha => ?_, fun n b a e1 e2 => ?_⟩, same_upd hg⟩
  · by_cases hb : b = p
    · subst hb; rw [upd_same] at e; cases e; exact s.heldAt
    · rw [upd_ne hb] at e; exact s.subG b u e
  · have hne : a ≠ p := fun z => hp (z ▸ ha)
    have := s.out a ha
    rw [upd_ne hne] at this ⊢; exact this
  · have hne : a ≠ p := fun z => ha (by rw [z]; exact hf)
    rw [upd_ne hne]
    exact s.dis a (by rw [upd_ne hne]; exact ha)
  · obtain ⟨u, hu, r⟩ := s.obj n b a e1 e2
    exact ⟨u, hu, ro_mono (same_upd hg) r⟩
/-- .. becomes a changing thing -/
theorem SOk.heldNew {F G : Hp} {ρ : List Addr} {S : Sto} {H : Hp} {p : Addr} {o : HO} (s : SOk K (upd F p o) G ρ S H) (hf : F p = none) {b : Ob} {o' : HO} (r : RO K G b o') : SOk K F G (ρ ++ [p]) (S ++ [b]) (upd H p o') := by
  have hF : upd F p o p ≠ none := by rw [upd_same]; exact fun z => nomatch z
  have hg : G p = none := s.dis p hF
  have hp := s.notin (.inr hF)
  have hsub : ∀ b u, F b = some u → b ≠ p := fun b u e z => by subst z; rw [hf] at e; cases e
  have hsubG : ∀ b u, G b = some u → b ≠ p := fun b u e z => by subst z; rw [hg] at e; cases e
  refine ⟨by simp [s.len], ?_, fun b u e => ?_, fun b u e => ?_, fun a ha => ?_, fun a ha => ?_, fun n b' a e1 e2 => ?_⟩
  · rw [List.nodup_append]
    refine ⟨s.nd, by simp, fun a ha c hc => ?_⟩
    rw [List.mem_singleton] at hc; subst hc
    exact fun z => hp (z ▸ ha)
  · rw [upd_ne (hsub b u e)]; exact s.subF b u (by rw [upd_ne (hsub b u e)]; exact e)
  · rw [upd_ne (hsubG b u e)]; exact s.subG b u e
  · rcases List.mem_append.mp ha with ha | ha
    · have hne : a ≠ p := fun z => hp (z ▸ ha)
      have := s.out a ha
      rw [upd_ne hne] at this; exact this
    · rw [List.mem_singleton] at ha; subst ha; exact ⟨hg, hf⟩
  · have hne : a ≠ p := fun z => ha (by rw [z]; exact hf)
    exact s.dis a (by rw [upd_ne hne]; exact ha)
  · by_cases hn : n < S.length
    · rw [List.getElem?_append_left hn] at e1
      rw [List.getElem?_append_left (by rw [s.len]; exact hn)] at e2
      obtain ⟨u, hu, q⟩ := s.obj n b' a e1 e2
      have hne : a ≠ p := fun z => hp (z ▸ List.mem_of_getElem? e2)
      exact ⟨u, by rw [upd_ne hne]; exact hu, q⟩
    · have hn' : n = S.length := by
        have := (List.getElem?_eq_some_iff.mp e1).1
        simp at this; omega
      subst hn'
      rw [List.getElem?_append_right (Nat.le_refl _), Nat.sub_self] at e1
      rw [List.getElem?_append_right (by rw [s.len]; exact Nat.le_refl _), s.len, Nat.sub_self] at e2
      cases e1; cases e2
      exact ⟨o', upd_same, r⟩
end
section
variable {X : Cx} {a b c : Expr} {ea eb ec : Ev} {pos apos : Pos}
theorem get2R_some {x y z : R} {S : Sto} {r : R} (h : get2R x y z S = some r) : ∃ n ks k kd, x = .ref n ∧ S[n]? = some (.dic ks) ∧ y = .d kd ∧ keyD kd = some k ∧ ((∃ v, lookK ks k = some v ∧ r = .d v) ∨ (lookK ks k = none ∧ r = z)) := by
  unfold get2R at h
  split at h
  · rename_i n kd
    cases hs : S[n]? with
    | none => rw [hs] at h; cases h
    | some o =>
      rw [hs] at h
      cases hk : keyD kd with
      | none => rw [hk] at h; cases o <;> cases h
      | some k =>
        rw [hk] at h
        cases o with
        | lst _ => cases h
        | dic ks =>
          dsimp only at h
          refine ⟨n, ks, k, kd, rfl, hs, rfl, hk, ?_⟩
          cases hl : lookK ks k with
          | none => rw [hl] at h; cases h; exact .inr ⟨rfl, rfl⟩
          | some v => rw [hl] at h; cases h; exact .inl ⟨v, rfl, rfl⟩
  · cases h
theorem m2_of {o e f : Expr} {m : Str} {cpos : Pos} (hb : attributeBase o m X.env (eval o X.env) = eval o X.env) (hl : (apos.endLine == cpos.line) = true) (h1 : ∀ e' p, e ≠ .Starred e' p) (h2 : ∀ e' p, f ≠ .Starred e' p) : M2 X o m apos e f cpos := by
  have e1 : starEach [e, f] X.env = [(false, eval e X.env), (false, eval f X.env)] := by rw [star1 h1, star1 h2]; rfl
  refine ⟨hb, ?_, hl, ?_⟩
  · rw [e1]; rfl
  · rw [e1]; rfl
theorem guardB_some {α : Type} {k : Bool} {o : Option α} {x : α} (h : guardB k o = some x) : k = true ∧ o = some x := by
  cases k with
  | true => exact ⟨rfl, h⟩
  | false => cases h
theorem isDic_some {x : R} {S : Sto} (h : isDic x S = true) : ∃ n ks, x = .ref n ∧ S[n]? = some (.dic ks) := by
  unfold isDic at h
  split at h
  · split at h
    · exact ⟨_, _, rfl, by assumption⟩
    · cases h
  · cases h
theorem isLst_some {x : R} {S : Sto} (h : isLst x S = true) : ∃ n ks, x = .ref n ∧ S[n]? = some (.lst ks) := by
  unfold isLst at h
  split at h
  · split at h
    · exact ⟨_, _, rfl, by assumption⟩
    · cases h
  · cases h
theorem e_get2 (hu : X.A.units + 1 < cLine) (ha : PE X a (tE X.K ea)) (hb : PE X b (tE X.K eb)) (hc : PE X c (tE X.K ec)) (m : M2 X a "get" apos b c pos) :
    PE X (.Call (.Attribute a "get" apos) [b, c] [] pos) (tE X.K fun L S => okOr (ea L S) fun (x, S1) => guardB (isDic x S1) (okOr (eb L S1) fun (y, S2) => okOr (ec L S2) fun (z, S3) => okOr (get2R x y z S3) fun r => some (r, S3))) := by
  refine PE.weak (pe_dget2 hu ha hb hc m) fun σ H Q h => ?_
  obtain ⟨F, G, ρ, S, L, r, S', s, l, e, q⟩ := h
  obtain ⟨⟨x, S1⟩, e1, e⟩ := okOr_some e
  obtain ⟨hd, e⟩ := guardB_some e
  obtain ⟨⟨y, S2⟩, e2, e⟩ := okOr_some e
  obtain ⟨⟨z, S3⟩, e3, e⟩ := okOr_some e
  obtain ⟨r', e4, e⟩ := okOr_some e
  obtain ⟨rfl, rfl⟩ := res_eq e
  obtain ⟨n, ks, k, kd, rfl, hs, rfl, hk, hl⟩ := get2R_some e4
  obtain ⟨n', ks1, en, hs1⟩ := isDic_some hd
  cases en
  refine ⟨F, G, ρ, S, L, _, S1, s, l, e1, fun G1 ρ1 H1 v1 g1 p1 s1 q1 => ?_⟩
  obtain ⟨p, ep, rfl⟩ := q1
  obtain ⟨o1, ho1, kvs1, rfl, _⟩ := s1.obj n _ p hs1 ep
  refine ⟨p, rfl, .inl ⟨kvs1, .of ho1⟩, F, G1, ρ1, S1, L, _, S2, s1, lok_mono g1 p1 l, e2, fun G2 ρ2 H2 v2 g2 p2 s2 q2 => ⟨F, G2, ρ2, S2, L, z, S3, s2, lok_mono (g1.trans g2) (p1.trans p2) l, e3, fun G3 ρ3 H3 v3 g3 p3 s3 q3 => ?_⟩⟩
  obtain ⟨o, ho, kvs, rfl, hkd⟩ := s3.obj n _ p hs (pre_get p3 (pre_get p2 ep))
  have ev2 : v2 = kV k := keyD_of (H := H2) (.inl q2) hk
  refine ⟨valV kvs k, by rw [ev2]; exact DGet.k ho, ?_⟩
  rcases hl with ⟨v, hv, rfl⟩ | ⟨hv, rfl⟩
  · obtain ⟨w', hw, qw⟩ := (kd_look hkd).1 v hv
    rw [hw]
    exact (q.mono (g1.trans (g2.trans g3)) (p1.trans (p2.trans p3))).now s3 qw
  · rw [(kd_look hkd).2 hv]
    exact (q.mono (g1.trans (g2.trans g3)) (p1.trans (p2.trans p3))).now s3 q3
theorem appR_some {x y : R} {S S' : Sto} (h : appR x y S = some S') : ∃ n xs d, x = .ref n ∧ y = .d d ∧ S[n]? = some (.lst xs) ∧ xs.length < sizeLine ∧ S' = S.set n (.lst (xs ++ [d])) := by
  unfold appR at h
  split at h
  · split at h
    · obtain ⟨c, rfl⟩ := some_if h
      exact ⟨_, _, _, rfl, rfl, by assumption, c, rfl⟩
    · cases h
  · cases h
theorem extR_some {x y : R} {S S' : Sto} (h : extR x y S = some S') : ∃ n xs ys, x = .ref n ∧ view y S = some (.list ys) ∧ S[n]? = some (.lst xs) ∧ xs.length + ys.length ≤ sizeLine ∧ S' = S.set n (.lst (xs ++ ys)) := by
  unfold extR at h
  split at h
  · split at h
    · obtain ⟨c, rfl⟩ := some_if h
      exact ⟨_, _, _, rfl, by assumption, by assumption, c, rfl⟩
    · cases h
  · cases h
theorem few1 {cpos : Pos} (h1 : ∀ e' p, b ≠ .Starred e' p) : ((backTo cpos (starEach [b] X.env)).all (fun x => !x.1) && (backToKw cpos (keywordEach [] X.env)).all (fun x => x.1.isSome)
    && decide (([b] : List Expr).length + ([] : List Keyword).length + (if ([] : List Keyword).isEmpty then 0 else 1) < 30)) = true := by
  rw [star1 h1]; rfl
theorem e_app (ha : PE X a (tE X.K ea)) (hb : PE X b (tE X.K eb)) (hbase : attributeBase a "append" X.env (eval a X.env) = eval a X.env) (hl : (apos.endLine == pos.line) = true) (h1 : ∀ e' p, b ≠ .Starred e' p) :
    PE X (.Call (.Attribute a "append" apos) [b] [] pos) (tE X.K fun L S => okOr (ea L S) fun (x, S1) => guardB (isLst x S1) (okOr (eb L S1) fun (y, S2) => okOr (appR x y S2) fun S3 => some (.d .none, S3))) := by
  refine PE.weak (pe_bm PySem.F.plainAttrs_list PySem.F.slot_list_append PySem.F.type_list_append mt_append ha (pa_cons hb pa_nil (star1 h1 [])) hbase (few1 h1) hl (star1 h1 []) rfl) fun σ H Q h => ?_
  obtain ⟨F, G, ρ, S, L, r, S', s, l, e, q⟩ := h
  obtain ⟨⟨x, S1⟩, e1, e⟩ := okOr_some e
  obtain ⟨hd, e⟩ := guardB_some e
  obtain ⟨⟨y, S2⟩, e2, e⟩ := okOr_some e
  obtain ⟨S3, e3, e⟩ := okOr_some e
  obtain ⟨rfl, rfl⟩ := res_eq e
  obtain ⟨n, xs, d, rfl, rfl, hs, hz, rfl⟩ := appR_some e3
  obtain ⟨n', xs1, en, hs1⟩ := isLst_some hd
  cases en
  refine ⟨F, G, ρ, S, L, _, S1, s, l, e1, fun G1 ρ1 H1 v1 g1 p1 s1 q1 => ?_⟩
  obtain ⟨p, ep, rfl⟩ := q1
  obtain ⟨o1, ho1, vs1, rfl, _⟩ := s1.obj n _ p hs1 ep
  refine ⟨.inl ⟨rfl, vs1, .of ho1⟩, F, G1, ρ1, S1, L, _, S2, s1, lok_mono g1 p1 l, e2, fun G2 ρ2 H2 v2 g2 p2 s2 q2 => ?_⟩
  obtain ⟨o, ho, vs, rfl, hv⟩ := s2.obj n _ p hs (pre_get p2 ep)
  refine ⟨p, vs, v2, rfl, rfl, ho, by rw [dvs_len hv]; exact hz, ?_⟩
  exact q G2 ρ2 _ _ (g1.trans g2) (p1.trans p2) (s2.set (pre_get p2 ep) ⟨_, rfl, dvs_app hv (.cons q2 .nil)⟩) .non
theorem e_ext (ha : PE X a (tE X.K ea)) (hb : PE X b (tE X.K eb)) (hbase : attributeBase a "extend" X.env (eval a X.env) = eval a X.env) (hl : (apos.endLine == pos.line) = true) (h1 : ∀ e' p, b ≠ .Starred e' p) :
    PE X (.Call (.Attribute a "extend" apos) [b] [] pos) (tE X.K fun L S => okOr (ea L S) fun (x, S1) => guardB (isLst x S1) (okOr (eb L S1) fun (y, S2) => okOr (extR x y S2) fun S3 => some (.d .none, S3))) := by
  refine PE.weak (pe_bm PySem.F.plainAttrs_list PySem.F.slot_list_extend PySem.F.type_list_extend mt_extend ha (pa_cons hb pa_nil (star1 h1 [])) hbase (few1 h1) hl (star1 h1 []) rfl) fun σ H Q h => ?_
  obtain ⟨F, G, ρ, S, L, r, S', s, l, e, q⟩ := h
  obtain ⟨⟨x, S1⟩, e1, e⟩ := okOr_some e
  obtain ⟨hd, e⟩ := guardB_some e
  obtain ⟨⟨y, S2⟩, e2, e⟩ := okOr_some e
  obtain ⟨S3, e3, e⟩ := okOr_some e
  obtain ⟨rfl, rfl⟩ := res_eq e
  obtain ⟨n, xs, ys, rfl, hy, hs, hz, rfl⟩ := extR_some e3
  obtain ⟨n', xs1, en, hs1⟩ := isLst_some hd
  cases en
  refine ⟨F, G, ρ, S, L, _, S1, s, l, e1, fun G1 ρ1 H1 v1 g1 p1 s1 q1 => ?_⟩
  obtain ⟨p, ep, rfl⟩ := q1
  obtain ⟨o1, ho1, vs1, rfl, _⟩ := s1.obj n _ p hs1 ep
  refine ⟨.inl ⟨rfl, vs1, .of ho1⟩, F, G1, ρ1, S1, L, _, S2, s1, lok_mono g1 p1 l, e2, fun G2 ρ2 H2 v2 g2 p2 s2 q2 => ?_⟩
  obtain ⟨o, ho, vs, rfl, hv⟩ := s2.obj n _ p hs (pre_get p2 ep)
  obtain ⟨b', ws, rfl, hb', hw⟩ := (view_ok s2 q2 hy).lst s2
  refine ⟨p, b', vs, ws, rfl, rfl, ho, hb', by rw [dvs_len hv, dvs_len hw]; exact hz, ?_⟩
  exact q G2 ρ2 _ _ (g1.trans g2) (p1.trans p2) (s2.set (pre_get p2 ep) ⟨_, rfl, dvs_app hv hw⟩) .non
/-! ### a dict display -/
abbrev pairE (x : Str) (e : Ev) : TE × TE := (tC (.str x), tE X.K e)
/-- the values of a display, from the left, while the dict is held apart -/
theorem pairs_read {F : Hp} {L : Loc} {σ : L2.St} : ∀ (ks : List Str) (evs : List Ev) (H : Hp) (G1 : Hp) (ρ1 : List Addr) (S1 : Sto) (Q : List (V × V) → Hp → Prop) (rs : List R) (S' : Sto),
    ks.length = evs.length → SOk X.K F G1 ρ1 S1 H → LOk X.K G1 ρ1 L σ → (evs.foldr (fun (e : Ev) (k : Evs) => fun L S => okOr (e L S) fun (x, S1) => okOr (k L S1) fun (xs, S2) => some (x :: xs, S2)) (fun _ S => some ([], S))) L S1 = some (rs, S') →
    (∀ (G' : Hp) (ρ' : List Addr) (H' : Hp) (vs : List V), Same G1 G' → ρ1 <+: ρ' → SOk X.K F G' ρ' S' H' → RVs X.K G' ρ' rs vs → Q ((ks.map V.str).zip vs) H') →
    tPairs ((ks.zip evs).map fun p => pairE (X := X) p.1 p.2) σ H Q
  | [], [], H, G1, ρ1, S1, Q, rs, S', _, s, l, e, q => by
    obtain ⟨rfl, rfl⟩ := res_eq e
    exact q G1 ρ1 H [] (Same.refl _) (List.prefix_refl _) s .nil
  | k :: ks, ev :: evs, H, G1, ρ1, S1, Q, rs, S', hl, s, l, e, q => by
    obtain ⟨⟨x, S2⟩, e1, e⟩ := okOr_some e
    obtain ⟨⟨xs, S3⟩, e2, e⟩ := okOr_some e
    obtain ⟨rfl, rfl⟩ := res_eq e
    refine ⟨F, G1, ρ1, S1, L, x, S2, s, l, e1, fun G2 ρ2 H2 v2 g2 p2 s2 q2 => ?_⟩
    refine pairs_read ks evs H2 G2 ρ2 S2 _ xs S3 (by simpa using hl) s2 (lok_mono g2 p2 l) e2 fun G3 ρ3 H3 vs g3 p3 s3 q3 => ?_
    exact q G3 ρ3 H3 (v2 :: vs) (g2.trans g3) (p2.trans p3) s3 (.cons (rv_mono g3 p3 q2) q3)
  | [], _ :: _, _, _, _, _, _, _, _, hl, _, _, _, _ => by simp at hl
  | _ :: _, [], _, _, _, _, _, _, _, hl, _, _, _, _ => by simp at hl
theorem kd_merge {K : PySem.W.Frag} {G : Hp} : ∀ (ks : List Str) (vs : List V) (ds : List D) (acc : List (Key × V)) (accD : List (Key × D)), ks.length = ds.length → DVs K G vs ds → KD K G acc accD →
    KD K G (((ks.zip vs).map fun p => ((Sum.inr p.1 : Key), p.2)).foldl (fun acc kv => putK acc kv.1 kv.2) acc) (putS accD ks ds)
  | [], vs, ds, acc, accD, hl, h, k => by
    cases ds with
    | nil => cases h; exact k
    | cons _ _ => simp at hl
  | x :: ks, _, _, acc, accD, hl, .nil, k => by simp at hl
  | x :: ks, _, _, acc, accD, hl, .cons h t, k => kd_merge ks _ _ _ _ (by simpa using hl) t (kd_put h k)
theorem e_dic {ks : List Str} {keys : List (Option Expr)} {values : List Expr} {evs : List Ev} (h : PPs X pos keys values ((ks.zip evs).map fun p => pairE (X := X) p.1 p.2)) (hall : keys.all (·.isSome) = true) (hlen : keys.length = values.length) (h0 : keys ≠ [])
    (h15 : keys.length ≤ 15) (hk : ks.length = evs.length) :
    PE X (.Dict keys values pos) (tE X.K fun L S => okOr ((evs.foldr (fun (e : Ev) (k : Evs) => fun L S => okOr (e L S) fun (x, S1) => okOr (k L S1) fun (xs, S2) => some (x :: xs, S2)) (fun _ S => some ([], S))) L S) fun (rs, S1) => okOr (asDs rs) fun ds => if ds.length = ks.length ∧ ks.length ≤ 15 ∧ ks ≠ [] then some (.ref S1.length, S1 ++ [.dic (putS [] ks ds)]) else none) := by
  refine PE.weak (pe_disp h hall hlen h0 h15) fun σ H Q hw => ?_
  obtain ⟨F, G, ρ, S, L, r, S', s, l, e, q⟩ := hw
  obtain ⟨⟨rs, S1⟩, e1, e⟩ := okOr_some e
  obtain ⟨ds, e2, e⟩ := okOr_some e
  obtain ⟨⟨c1, c2, c3⟩, e⟩ := some_if e
  obtain ⟨rfl, rfl⟩ := res_eq (congrArg some e)
  intro p hp
  have hf : F p = none := Same.free s.subF hp
  refine pairs_read (F := upd F p (.dK [])) (L := L) ks evs _ G ρ S _ rs S1 hk (s.hold hp) l e1 fun G1 ρ1 H1 vs g1 p1 s1 q1 => ?_
  have hd := rvs_dvs q1 e2
  refine ⟨s1.heldAt, (ks.zip vs).map fun p => (Sum.inr p.1, p.2), ?_, ?_, ?_⟩
  · rw [List.map_map]
    have : ∀ (ks : List Str) (vs : List V), (ks.map V.str).zip vs = (ks.zip vs).map ((fun kv : Key × V => (kV kv.1, kv.2)) ∘ fun p => (Sum.inr p.1, p.2)) := fun ks => by
      induction ks with
      | nil => intro vs; rfl
      | cons x ks ih =>
        intro vs
        cases vs with
        | nil => rfl
        | cons v vs =>
          rw [List.map_cons, List.zip_cons_cons, List.zip_cons_cons, List.map_cons, ih vs]
          rfl
    exact this ks vs
  · rw [List.length_map, List.length_zip]
    exact Nat.le_trans (Nat.min_le_left _ _) c2
  · refine q G1 (ρ1 ++ [p]) _ _ g1 (p1.trans (List.prefix_append _ _)) (s1.heldNew hf (b := .dic (putS [] ks ds)) ⟨_, rfl, ?_⟩) ⟨p, ?_, rfl⟩
    · exact kd_merge ks vs ds [] [] c1.symm hd .nil
    · rw [List.getElem?_append_right (by rw [s1.len]; exact Nat.le_refl _), s1.len, Nat.sub_self]; rfl
theorem isS_some {x : R} (h : isS x = true) : ∃ z, x = .d (.str z) := by
  unfold isS at h
  split at h
  · exact ⟨_, rfl⟩
  · cases h
theorem e_join (ha : PE X a (tE X.K ea)) (hb : PE X b (tE X.K eb)) (hbase : attributeBase a "join" X.env (eval a X.env) = eval a X.env) (hl : (apos.endLine == pos.line) = true) (h1 : ∀ e' p, b ≠ .Starred e' p) :
    PE X (.Call (.Attribute a "join" apos) [b] [] pos) (tE X.K fun L S => okOr (ea L S) fun (x, S1) => guardB (isS x) (okOr (eb L S1) fun (y, S2) => okOr (bin2 gJoin x y S2) fun d => some (.d d, S2))) := by
  refine PE.weak (pe_m1 PySem.F.slot_str_join PySem.F.type_str_join m_join ha hb (star1 h1 []) hbase hl) fun σ H Q h => ?_
  obtain ⟨F, G, ρ, S, L, r, S', s, l, e, q⟩ := h
  obtain ⟨⟨x, S1⟩, e1, e⟩ := okOr_some e
  obtain ⟨hd, e⟩ := guardB_some e
  obtain ⟨z, rfl⟩ := isS_some hd
  obtain ⟨⟨y, S2⟩, e2, e⟩ := okOr_some e
  obtain ⟨d, e3, e⟩ := okOr_some e
  obtain ⟨rfl, rfl⟩ := res_eq e
  obtain ⟨dx, dy, hx, hy, hg⟩ := bin2_some e3
  refine ⟨F, G, ρ, S, L, _, S1, s, l, e1, fun G1 ρ1 H1 v1 g1 p1 s1 q1 => ?_⟩
  refine ⟨by cases q1; exact ⟨_, rfl⟩, F, G1, ρ1, S1, L, _, S2, s1, lok_mono g1 p1 l, e2, fun G2 ρ2 H2 v2 g2 p2 s2 q2 => ?_⟩
  exact ⟨v2, rfl, F, G2, ρ2, S2, dx, dy, d, s2, view_ok s2 (rv_mono g2 p2 q1) hx, view_ok s2 q2 hy, hg, q.mono (g1.trans g2) (p1.trans p2)⟩
/-- a dict that is written in the module, and never changed: what it holds of each text -/
def KTab (K : PySem.W.Frag) (w : World) (a : Addr) (tab : List (Str × D)) : Prop := ∃ es n, K.lookup a = some ⟨.type "dict", none, .dict es n, #[]⟩ ∧ PySem.W.KeysLit w.params es.toList ∧ (a == sysModules) = false ∧
  ∀ z : Str, ∃ r, PySem.W.nsIn K a z = some r ∧ match tab.lookup z with
    | some d => ∃ u v, r = some u ∧ RelV v u ∧ ∀ G, DV K G v d
    | none => r = none
theorem m1_of {o e : Expr} {m : Str} {cpos : Pos} (hb : attributeBase o m X.env (eval o X.env) = eval o X.env) (hl : (apos.endLine == cpos.line) = true) (h1 : ∀ e' p, e ≠ .Starred e' p) : M1 X o m apos e cpos := by
  have e1 : starEach [e] X.env = [(false, eval e X.env)] := by rw [star1 h1]; rfl
  refine ⟨hb, ?_, hl, ?_⟩
  · rw [e1]; rfl
  · rw [e1]; rfl
theorem getTab_some {tab : List (Str × D)} {y : R} {d : D} (h : getTab tab y = some d) : ∃ z, y = .d (.str z) ∧ d = (tab.lookup z).getD .none := by
  unfold getTab at h
  split at h
  · cases h; exact ⟨_, rfl, rfl⟩
  · cases h
theorem e_gget {x : Str} {p : Pos} {addr : Addr} {tab : List (Str × D)} (hg : Gl X x) (hm : X.mg x = some (.ref addr)) (hdb : (x == ("__debug__" : Str)) = false) (kt : KTab X.K X.w addr tab) (hb : PE X b (tE X.K eb))
    (m : M1 X (.Name x p) "get" apos b pos) : PE X (.Call (.Attribute (.Name x p) "get" apos) [b] [] pos) (tE X.K fun L S => okOr (eb L S) fun (y, S1) => okOr (getTab tab y) fun d => some (.d d, S1)) := by
  obtain ⟨es, n, hk, lit, low, all⟩ := kt
  refine ⟨fun pins s0 σ H Q I h => ?_⟩
  refine wpAny_Call_method m.base m.few m.line PySem.F.plainAttrs_dict PySem.F.slot_dict_get PySem.F.type_dict_get (thn ((pe_glob (v := .ref addr) hg hm rfl hdb).run pins s0 σ H (fun v H' => v = .ref addr ∧ tE X.K (fun L S => okOr (eb L S) fun (y, S1) => okOr (getTab tab y) fun d => some (.d d, S1)) σ H' Q) I ⟨rfl, h⟩) fun u s1 ⟨v1, H1, I1, rx, ev, h⟩ => ?_)
  subst ev
  obtain rfl : u = Value.ref addr := rx
  have mo := PySem.W.mapOf_K (prog := X.prog) (w := X.w) I1.kIn hk lit
  refine ⟨mo.typeIs, fun b hb => ?_, ?_⟩
  · cases hb
    exact ⟨_, I1.kIn _ _ hk, rfl⟩
  rw [m.trees]
  obtain ⟨F, G, ρ, S, L, r, S', s, l, e, q⟩ := h
  obtain ⟨⟨y, S1⟩, e1, e⟩ := okOr_some e
  obtain ⟨d, e2, e⟩ := okOr_some e
  obtain ⟨rfl, rfl⟩ := res_eq e
  obtain ⟨z, rfl, rfl⟩ := getTab_some e2
  refine Calls.callWith_builtin rfl (Calls.evalArgs_plain (Calls.spliced_cons (thn (hb.run pins s1 σ H1 (fun v H' => v = .str z ∧ ∃ G1 ρ1, SOk X.K F G1 ρ1 S1 H' ∧ Post X.K F G1 ρ1 S1 (.d ((tab.lookup z).getD .none)) Q) I1
    ⟨F, G, ρ, S, L, _, S1, s, l, e1, fun G1 ρ1 H2 v2 g1 p1 s2 q2 => ⟨by cases q2; rfl, G1, ρ1, s2, q.mono g1 p1⟩⟩) fun iv s2 ⟨v2, H2, I2, ry, ev, G1, ρ1, sk, q2⟩ => Calls.spliced_nil ?_)))
  subst ev
  obtain ⟨t, rfl⟩ := (show ∃ t, iv = Value.str z t from ry)
  have mo2 := PySem.W.mapOf_K (prog := X.prog) (w := X.w) I2.kIn hk lit
  refine PySem.call_meetsIn PySem.F.slot_dict_get mo2.typeIs PySem.F.entry_dict_get (PySem.F.args_dict_get_2 _ _) (PySem.meets_dict_get (strKind X.prog X.w) addr (strKind_is X.prog X.w z t) low) ⟨_, mo2, ?_⟩
  obtain ⟨r0, hr, c⟩ := all z
  rw [PySem.W.find_K hk hr]
  cases hz : tab.lookup z with
  | none =>
    rw [hz] at c q2
    subst c
    exact ⟨.non, H2, I2.tok _, rfl, q2.now sk .non⟩
  | some d =>
    rw [hz] at c q2
    obtain ⟨u, v, rfl, ru, dv⟩ := c
    exact ⟨v, H2, I2.tok _, ru, q2.now sk (dv _)⟩
end
end PL

set_option maxHeartbeats 2000000
namespace PL
open PySem PySem.Spec PyProof.Rows L2
/-- what a loop draws: these data, while the lock holds -/
structure Feed (K : PySem.W.Frag) (G : Hp) (ρ : List Addr) (J : It) (ds : List D) (lk : Lk) : Prop where
  go : ∀ (F' G' : Hp) (ρ' : List Addr) (S' : Sto) (H' : Hp) (i : Nat) (d : D), Same G G' → ρ <+: ρ' → SOk K F' G' ρ' S' H' → lockB lk S' = true → ds[i]? = some d → J.go i H'
  yld : ∀ (F' G' : Hp) (ρ' : List Addr) (S' : Sto) (H' : Hp) (i : Nat) (d : D) (x : V) (H2 : Hp), Same G G' → ρ <+: ρ' → SOk K F' G' ρ' S' H' → lockB lk S' = true → ds[i]? = some d → J.yld i H' x H2 → ∃ G2, Same G' G2 ∧ SOk K F' G2 ρ' S' H2 ∧ DV K G2 x d
  stop : ∀ (F' G' : Hp) (ρ' : List Addr) (S' : Sto) (H' : Hp) (i : Nat), Same G G' → ρ <+: ρ' → SOk K F' G' ρ' S' H' → lockB lk S' = true → ds.length ≤ i → J.stop i H'
abbrev EvI := Loc → Sto → Option (List D × Lk × Sto)
def tI (K : PySem.W.Frag) (ev : EvI) : TI := fun σ H R => ∃ F G ρ S L ds lk S', SOk K F G ρ S H ∧ LOk K G ρ L σ ∧ ev L S = some (ds, lk, S') ∧ lockB lk S' = true ∧
  ∀ (J : It) (G' : Hp) (ρ' : List Addr) (H' : Hp), Same G G' → ρ <+: ρ' → SOk K F G' ρ' S' H' → Feed K G' ρ' J ds lk → R J H'
section
variable {K : PySem.W.Frag}
theorem feed_list {G : Hp} {ρ : List Addr} {a : Addr} {vs : List V} {ds : List D} (h : G a = some (.lst vs)) (hv : DVs K G vs ds) : Feed K G ρ (Itl K a) ds none where
  go := fun F' G' ρ' S' H' i d e p s lk hd => by
    obtain ⟨v, h1, _⟩ := dvs_get hv hd
    exact ⟨vs, v, .of (s.subG _ _ (e _ _ h)), h1⟩
  yld := fun F' G' ρ' S' H' i d x H2 e p s lk hd y => by
    obtain ⟨rfl, y⟩ := y
    obtain ⟨v, h1, h2⟩ := dvs_get hv hd
    have := y vs (.of (s.subG _ _ (e _ _ h)))
    rw [h1] at this; cases this
    exact ⟨G', Same.refl _, s, dv_mono e _ _ h2⟩
  stop := fun F' G' ρ' S' H' i e p s lk hd => ⟨vs, .of (s.subG _ _ (e _ _ h)), by rw [dvs_len hv]; exact hd⟩
theorem feed_tup {G : Hp} {ρ : List Addr} {a : Addr} {vs : List V} {ds : List D} (h : SqT K G a vs) (hv : DVs K G vs ds) : Feed K G ρ (Itt K a) ds none where
  go := fun F' G' ρ' S' H' i d e p s lk hd => by
    obtain ⟨v, h1, _⟩ := dvs_get hv hd
    exact ⟨vs, v, Same.sqt s.subG (Same.sqt e h), h1⟩
  yld := fun F' G' ρ' S' H' i d x H2 e p s lk hd y => by
    obtain ⟨rfl, y⟩ := y
    obtain ⟨v, h1, h2⟩ := dvs_get hv hd
    have := y vs (Same.sqt s.subG (Same.sqt e h))
    rw [h1] at this; cases this
    exact ⟨G', Same.refl _, s, dv_mono e _ _ h2⟩
  stop := fun F' G' ρ' S' H' i e p s lk hd => ⟨vs, Same.sqt s.subG (Same.sqt e h), by rw [dvs_len hv]; exact hd⟩
theorem lockB_some {n : Nat} {xs : List D} {S : Sto} (h : lockB (some (n, xs)) S = true) : S[n]? = some (.lst xs) := by
  simp only [lockB] at h
  split at h
  · rename_i ys hy
    rw [hy, dEqs_eq _ _ h]
  · cases h
theorem feed_ref {G : Hp} {ρ : List Addr} {a : Addr} {n : Nat} {ds : List D} (h : ρ[n]? = some a) : Feed K G ρ (Itl K a) ds (some (n, ds)) where
  go := fun F' G' ρ' S' H' i d e p s lk hd => by
    obtain ⟨o, ho, vs, rfl, hv⟩ := s.obj n _ a (lockB_some lk) (pre_get p h)
    obtain ⟨v, h1, _⟩ := dvs_get hv hd
    exact ⟨vs, v, .of ho, h1⟩
  yld := fun F' G' ρ' S' H' i d x H2 e p s lk hd y => by
    obtain ⟨rfl, y⟩ := y
    obtain ⟨o, ho, vs, rfl, hv⟩ := s.obj n _ a (lockB_some lk) (pre_get p h)
    obtain ⟨v, h1, h2⟩ := dvs_get hv hd
    have := y vs (.of ho)
    rw [h1] at this; cases this
    exact ⟨G', Same.refl _, s, h2⟩
  stop := fun F' G' ρ' S' H' i e p s lk hd => by
    obtain ⟨o, ho, vs, rfl, hv⟩ := s.obj n _ a (lockB_some lk) (pre_get p h)
    exact ⟨vs, .of ho, by rw [dvs_len hv]; exact hd⟩
theorem signs_get {z : Str} {i : Nat} {d : D} (h : (signs z)[i]? = some d) : ∃ c, z.cps[i]? = some c ∧ d = .str ⟨#[c]⟩ := by
  unfold signs at h
  rw [List.getElem?_map] at h
  obtain ⟨c, hc, rfl⟩ := Option.map_eq_some_iff.mp h
  exact ⟨c, by rw [← Array.getElem?_toList]; exact hc, rfl⟩
theorem signs_len (z : Str) : (signs z).length = z.cps.size := by unfold signs; rw [List.length_map, Array.length_toList]
theorem feed_str {G : Hp} {ρ : List Addr} (z : Str) : Feed K G ρ (Its z) (signs z) none where
  go := fun F' G' ρ' S' H' i d e p s lk hd => by
    have := (List.getElem?_eq_some_iff.mp hd).1
    rw [signs_len] at this; exact this
  yld := fun F' G' ρ' S' H' i d x H2 e p s lk hd y => by
    obtain ⟨rfl, c, hc, rfl⟩ := y
    obtain ⟨c', hc', rfl⟩ := signs_get hd
    rw [hc] at hc'; cases hc'
    exact ⟨G', Same.refl _, s, .str _⟩
  stop := fun F' G' ρ' S' H' i e p s lk hd => by
    rw [signs_len] at hd; exact hd
theorem feed_rng {G : Hp} {ρ : List Addr} (n : Nat) : Feed K G ρ (Itr 0 n) ((List.range n).map fun (i : Nat) => PyData.int (i : Int)) none where
  go := fun F' G' ρ' S' H' i d e p s lk hd => by
    have := (List.getElem?_eq_some_iff.mp hd).1
    rw [List.length_map, List.length_range] at this; exact this
  yld := fun F' G' ρ' S' H' i d x H2 e p s lk hd y => by
    obtain ⟨rfl, rfl⟩ := y
    rw [List.getElem?_map] at hd
    obtain ⟨j, hj, rfl⟩ := Option.map_eq_some_iff.mp hd
    rw [List.getElem?_range (by have := (List.getElem?_eq_some_iff.mp hj).1; simpa using this)] at hj
    cases hj
    refine ⟨G', Same.refl _, s, ?_⟩
    rw [Int.zero_add]; exact .int _
  stop := fun F' G' ρ' S' H' i e p s lk hd => by
    rw [List.length_map, List.length_range] at hd; exact hd
theorem zip_len : ∀ (xs ys : List D), (zipD xs ys).length = min xs.length ys.length
  | [], _ => by simp [zipD]
  | _ :: _, [] => by simp [zipD]
  | x :: xs, y :: ys => by simp only [zipD, List.length_cons, zip_len xs ys]; omega
theorem zip_get : ∀ {xs ys : List D} {i : Nat} {d : D}, (zipD xs ys)[i]? = some d → ∃ x y, xs[i]? = some x ∧ ys[i]? = some y ∧ d = .tuple [x, y]
  | [], _, i, d, h => by simp [zipD] at h
  | _ :: _, [], i, d, h => by simp [zipD] at h
  | x :: xs, y :: ys, 0, d, h => by
    simp only [zipD, List.getElem?_cons_zero, Option.some.injEq] at h
    exact ⟨x, y, rfl, rfl, h.symm⟩
  | x :: xs, y :: ys, i + 1, d, h => by
    simp only [zipD, List.getElem?_cons_succ] at h
    obtain ⟨x', y', h1, h2, h3⟩ := zip_get (xs := xs) (ys := ys) (i := i) h
    exact ⟨x', y', by simpa using h1, by simpa using h2, h3⟩
/-- a pair just made -/
theorem pair_new {F G : Hp} {ρ : List Addr} {S : Sto} {H : Hp} (s : SOk K F G ρ S H) {T : Addr} {x y : V} {dx dy : D} (h : H T = none) (hx : DV K G x dx) (hy : DV K G y dy) :
    ∃ G2, Same G G2 ∧ SOk K F G2 ρ S (upd H T (.tup [x, y])) ∧ DV K G2 (.ref T) (.tuple [dx, dy]) := by
  obtain ⟨s2, e⟩ := s.fix (o := .tup [x, y]) h
  exact ⟨_, e, s2, .tup (.of upd_same) (.cons (dv_mono e _ _ hx) (.cons (dv_mono e _ _ hy) .nil))⟩
theorem feed_zipL {G : Hp} {ρ : List Addr} {a b : Addr} {vs ws : List V} {ds es : List D} (h : G a = some (.lst vs)) (hv : DVs K G vs ds) (k : G b = some (.lst ws)) (kv : DVs K G ws es) : Feed K G ρ (Itz K a b) (zipD ds es) none where
  go := fun F' G' ρ' S' H' i d e p s lk hd => by
    obtain ⟨x, y, h1, h2, _⟩ := zip_get hd
    obtain ⟨v, v1, _⟩ := dvs_get hv h1
    obtain ⟨w, w1, _⟩ := dvs_get kv h2
    exact ⟨vs, ws, v, w, .of (s.subG _ _ (e _ _ h)), .of (s.subG _ _ (e _ _ k)), v1, w1⟩
  yld := fun F' G' ρ' S' H' i d x H2 e p s lk hd y => by
    obtain ⟨T, x1, y1, rfl, hT, rfl, q1, q2⟩ := y
    obtain ⟨dx, dy, h1, h2, rfl⟩ := zip_get hd
    obtain ⟨v, v1, hv'⟩ := dvs_get hv h1
    obtain ⟨w, w1, kv'⟩ := dvs_get kv h2
    have e1 := q1 vs (.of (s.subG _ _ (e _ _ h)))
    have e2 := q2 ws (.of (s.subG _ _ (e _ _ k)))
    rw [v1] at e1; cases e1
    rw [w1] at e2; cases e2
    exact pair_new s hT (dv_mono e _ _ hv') (dv_mono e _ _ kv')
  stop := fun F' G' ρ' S' H' i e p s lk hd => by
    rw [zip_len] at hd
    refine ⟨vs, ws, .of (s.subG _ _ (e _ _ h)), .of (s.subG _ _ (e _ _ k)), ?_⟩
    rw [dvs_len hv, dvs_len kv]; omega
theorem feed_zipT {G : Hp} {ρ : List Addr} {a b : Addr} {vs ws : List V} {ds es : List D} (h : SqT K G a vs) (hv : DVs K G vs ds) (k : SqT K G b ws) (kv : DVs K G ws es) : Feed K G ρ (RZ.ItzT K a b) (zipD ds es) none where
  go := fun F' G' ρ' S' H' i d e p s lk hd => by
    obtain ⟨x, y, h1, h2, _⟩ := zip_get hd
    obtain ⟨v, v1, _⟩ := dvs_get hv h1
    obtain ⟨w, w1, _⟩ := dvs_get kv h2
    exact ⟨vs, ws, v, w, Same.sqt s.subG (Same.sqt e h), Same.sqt s.subG (Same.sqt e k), v1, w1⟩
  yld := fun F' G' ρ' S' H' i d x H2 e p s lk hd y => by
    obtain ⟨T, x1, y1, rfl, hT, rfl, q1, q2⟩ := y
    obtain ⟨dx, dy, h1, h2, rfl⟩ := zip_get hd
    obtain ⟨v, v1, hv'⟩ := dvs_get hv h1
    obtain ⟨w, w1, kv'⟩ := dvs_get kv h2
    have e1 := q1 vs (Same.sqt s.subG (Same.sqt e h))
    have e2 := q2 ws (Same.sqt s.subG (Same.sqt e k))
    rw [v1] at e1; cases e1
    rw [w1] at e2; cases e2
    exact pair_new s hT (dv_mono e _ _ hv') (dv_mono e _ _ kv')
  stop := fun F' G' ρ' S' H' i e p s lk hd => by
    rw [zip_len] at hd
    refine ⟨vs, ws, Same.sqt s.subG (Same.sqt e h), Same.sqt s.subG (Same.sqt e k), ?_⟩
    rw [dvs_len hv, dvs_len kv]; omega
theorem enum_len : ∀ (n : Nat) (xs : List D), (enumD n xs).length = xs.length
  | _, [] => rfl
  | n, x :: xs => by simp only [enumD, List.length_cons, enum_len (n + 1) xs]
theorem enum_get : ∀ {xs : List D} {n i : Nat} {d : D}, (enumD n xs)[i]? = some d → ∃ x, xs[i]? = some x ∧ d = .tuple [.int ((n + i : Nat) : Int), x]
  | [], n, i, d, h => by simp [enumD] at h
  | x :: xs, n, 0, d, h => by
    simp only [enumD, List.getElem?_cons_zero, Option.some.injEq] at h
    exact ⟨x, rfl, h.symm⟩
  | x :: xs, n, i + 1, d, h => by
    simp only [enumD, List.getElem?_cons_succ] at h
    obtain ⟨y, h1, rfl⟩ := enum_get (xs := xs) (n := n + 1) (i := i) h
    exact ⟨y, by simpa using h1, by rw [show n + 1 + i = n + (i + 1) by omega]⟩
theorem feed_enm {G : Hp} {ρ : List Addr} {a : Addr} {vs : List V} {ds : List D} (h : G a = some (.lst vs)) (hv : DVs K G vs ds) : Feed K G ρ (Ite K a) (enumD 0 ds) none where
  go := fun F' G' ρ' S' H' i d e p s lk hd => by
    obtain ⟨x, h1, _⟩ := enum_get hd
    obtain ⟨v, v1, _⟩ := dvs_get hv h1
    exact ⟨vs, v, .of (s.subG _ _ (e _ _ h)), v1⟩
  yld := fun F' G' ρ' S' H' i d x H2 e p s lk hd y => by
    obtain ⟨T, x1, rfl, hT, rfl, q1⟩ := y
    obtain ⟨dx, h1, rfl⟩ := enum_get hd
    obtain ⟨v, v1, hv'⟩ := dvs_get hv h1
    have e1 := q1 vs (.of (s.subG _ _ (e _ _ h)))
    rw [v1] at e1; cases e1
    rw [Nat.zero_add]
    exact pair_new s hT (.int _) (dv_mono e _ _ hv')
  stop := fun F' G' ρ' S' H' i e p s lk hd => by
    rw [enum_len] at hd
    exact ⟨vs, .of (s.subG _ _ (e _ _ h)), by rw [dvs_len hv]; exact hd⟩
end
/-! ### the sources of the text -/
section
variable {X : Cx} {tg a b : Expr} {ea eb : Ev} {pos : Pos}
abbrev evSeq (ea : Ev) : EvI := fun L S => okOr (ea L S) fun (x, S1) => match x with
    | .d (.list xs) => some (xs, none, S1)
    | .d (.tuple xs) => some (xs, none, S1)
    | .d (.str z) => some (signs z, none, S1)
    | .ref n => (match S1[n]? with
      | some (.lst xs) => some (xs, some (n, xs), S1)
      | _ => none)
    | _ => none
theorem i_seq (ha : PE X a (tE X.K ea)) : PI X tg a (tI X.K (evSeq ea)) := by
  refine ⟨fun pins s0 σ H R I h => ?_⟩
  obtain ⟨F, G, ρ, S, L, ds, lk, S', s, l, e, hlk, q⟩ := h
  obtain ⟨⟨x, S1⟩, e1, e⟩ := okOr_some e
  dsimp only at e
  split at e
  · cases e
    refine (pi_list ha).run pins s0 σ H R I ⟨F, G, ρ, S, L, _, _, s, l, e1, fun G1 ρ1 H1 v1 g1 p1 s1 q1 => ?_⟩
    cases q1 with
    | lst h1 h2 => exact ⟨_, rfl, ⟨_, .of (s1.subG _ _ h1)⟩, q _ G1 ρ1 H1 g1 p1 s1 (feed_list h1 h2)⟩
  · cases e
    refine (pi_tup ha).run pins s0 σ H R I ⟨F, G, ρ, S, L, _, _, s, l, e1, fun G1 ρ1 H1 v1 g1 p1 s1 q1 => ?_⟩
    cases q1 with
    | tup h1 h2 => exact ⟨_, rfl, ⟨_, Same.sqt s1.subG h1⟩, q _ G1 ρ1 H1 g1 p1 s1 (feed_tup h1 h2)⟩
  · cases e
    refine (pi_str ha).run pins s0 σ H R I ⟨F, G, ρ, S, L, _, _, s, l, e1, fun G1 ρ1 H1 v1 g1 p1 s1 q1 => ?_⟩
    cases q1
    exact ⟨_, rfl, q _ G1 ρ1 H1 g1 p1 s1 (feed_str _)⟩
  · rename_i n
    split at e
    · rename_i xs hx
      cases e
      refine (pi_list ha).run pins s0 σ H R I ⟨F, G, ρ, S, L, _, _, s, l, e1, fun G1 ρ1 H1 v1 g1 p1 s1 q1 => ?_⟩
      obtain ⟨p, ep, rfl⟩ := q1
      obtain ⟨o, ho, vs, rfl, hv⟩ := s1.obj n _ p hx ep
      exact ⟨p, rfl, ⟨vs, .of ho⟩, q _ G1 ρ1 H1 g1 p1 s1 (feed_ref ep)⟩
    · cases e
  · cases e
abbrev evRng (ea : Ev) : EvI := fun L S => okOr (ea L S) fun (x, S1) => match x with
    | .d (.int i) => if -(2 ^ 62) ≤ i ∧ i < 2 ^ 62 then some (rngD i, none, S1) else none
    | _ => none
theorem i_rng {p : Pos} (hg : Gl X "range") (hm : X.mg "range" = none) (ha : PE X a (tE X.K ea)) (hst : ∀ e p, a ≠ .Starred e p) : PI X tg (.Call (.Name "range" p) [a] [] pos) (tI X.K (evRng ea)) := by
  refine ⟨fun pins s0 σ H R I h => ?_⟩
  obtain ⟨F, G, ρ, S, L, ds, lk, S', s, l, e, hlk, q⟩ := h
  obtain ⟨⟨x, S1⟩, e1, e⟩ := okOr_some e
  dsimp only at e
  split at e
  · obtain ⟨c, e⟩ := some_if e
    cases e
    refine (pi_range1 hg hm (pa_cons ha pa_nil (star1 hst [])) (star1 hst [])).run pins s0 σ H R I ⟨F, G, ρ, S, L, _, _, s, l, e1, fun G1 ρ1 H1 v1 g1 p1 s1 q1 => ?_⟩
    cases q1
    exact ⟨_, rfl, c.1, c.2, q _ G1 ρ1 H1 g1 p1 s1 (feed_rng _)⟩
  · cases e
abbrev evZip (ea eb : Ev) : EvI := fun L S => okOr (ea L S) fun (x, S1) => okOr (eb L S1) fun (y, S2) => match x, y with
    | .d (.list xs), .d (.list ys) => some (zipD xs ys, none, S2)
    | .d (.tuple xs), .d (.tuple ys) => some (zipD xs ys, none, S2)
    | _, _ => none
theorem i_zip {p tpos : Pos} {elts : List Expr} {kk : Nat} (hg : Gl X "zip") (hm : X.mg "zip" = none) (ha : PE X a (tE X.K ea)) (hb : PE X b (tE X.K eb)) (hst : ∀ e p, a ≠ .Starred e p) (hst2 : ∀ e p, b ≠ .Starred e p) :
    PI X (.Tuple elts kk tpos) (.Call (.Name "zip" p) [a, b] [] pos) (tI X.K (evZip ea eb)) := by
  refine ⟨fun pins s0 σ H R I h => ?_⟩
  obtain ⟨F, G, ρ, S, L, ds, lk, S', s, l, e, hlk, q⟩ := h
  obtain ⟨⟨x, S1⟩, e1, e⟩ := okOr_some e
  obtain ⟨⟨y, S2⟩, e2, e⟩ := okOr_some e
  have hpl : (backTo pos (starEach [b] X.env)).any (·.1) = false := by rw [star1 hst2]; rfl
  refine (RZ.pi_zipA hg hm (pa_cons ha (pa_cons hb pa_nil (star1 hst2 [])) (star1 hst _)) (star1 hst _) hpl).run pins s0 σ H R I ⟨F, G, ρ, S, L, _, _, s, l, e1, fun G1 ρ1 H1 v1 g1 p1 s1 q1 => ⟨F, G1, ρ1, S1, L, _, _, s1, lok_mono g1 p1 l, e2, fun G2 ρ2 H2 v2 g2 p2 s2 q2 => ?_⟩⟩
  dsimp only at e
  split at e
  · cases e
    have q1 := rv_mono g2 p2 q1
    cases q1 with
    | lst h1 h2 =>
      cases q2 with
      | lst k1 k2 => exact ⟨_, _, _, _, rfl, .inl ⟨.of (s2.subG _ _ h1), .of (s2.subG _ _ k1), q _ G2 ρ2 H2 (g1.trans g2) (p1.trans p2) s2 (feed_zipL h1 h2 k1 k2)⟩⟩
  · cases e
    have q1 := rv_mono g2 p2 q1
    cases q1 with
    | tup h1 h2 =>
      cases q2 with
      | tup k1 k2 => exact ⟨_, _, _, _, rfl, .inr ⟨Same.sqt s2.subG h1, Same.sqt s2.subG k1, q _ G2 ρ2 H2 (g1.trans g2) (p1.trans p2) s2 (feed_zipT h1 h2 k1 k2)⟩⟩
  · cases e
abbrev evEnm (ea : Ev) : EvI := fun L S => okOr (ea L S) fun (x, S1) => match x with
    | .d (.list xs) => some (enumD 0 xs, none, S1)
    | _ => none
theorem i_enm {p tpos : Pos} {elts : List Expr} {kk : Nat} (hg : Gl X "enumerate") (hm : X.mg "enumerate" = none) (ha : PE X a (tE X.K ea)) (hst : ∀ e p, a ≠ .Starred e p) : PI X (.Tuple elts kk tpos) (.Call (.Name "enumerate" p) [a] [] pos) (tI X.K (evEnm ea)) := by
  refine ⟨fun pins s0 σ H R I h => ?_⟩
  obtain ⟨F, G, ρ, S, L, ds, lk, S', s, l, e, hlk, q⟩ := h
  obtain ⟨⟨x, S1⟩, e1, e⟩ := okOr_some e
  dsimp only at e
  split at e
  · cases e
    refine (pi_enum hg hm (pa_cons ha pa_nil (star1 hst [])) (star1 hst [])).run pins s0 σ H R I ⟨F, G, ρ, S, L, _, _, s, l, e1, fun G1 ρ1 H1 v1 g1 p1 s1 q1 => ?_⟩
    cases q1 with
    | lst h1 h2 => exact ⟨_, _, rfl, .of (s1.subG _ _ h1), q _ G1 ρ1 H1 g1 p1 s1 (feed_enm h1 h2)⟩
  · cases e
end
end PL

set_option maxHeartbeats 2000000
namespace PL
open PySem PySem.Spec PyProof.Rows L2
theorem upd_self {H : Hp} {a : Addr} {o : HO} (h : H a = some o) : upd H a o = H := by
  funext b
  unfold upd
  split
  · rename_i e; rw [e, h]
  · rfl
/-! ### targets -/
def gNames : List Nat → TGs
  | [] => gNil
  | i :: is => gCons (gName i) (gNames is)
def gT (K : PySem.W.Frag) : Tg → TG
  | .one i => gName i
  | .tup is => gTup K is.length (gNames is)
def Tg.ixs : Tg → List Nat
  | .one i => [i]
  | .tup is => is
theorem wipe_set {σ : L2.St} {i : Nat} {o : Option V} : ∀ {own : List Nat}, i ∈ own → wipe (σ.set i o) own = wipe σ own
  | [], h => absurd h (by simp)
  | v :: vs, h => by
    unfold wipe
    by_cases hv : i ∈ vs
    · rw [wipe_set hv]
    · have e : i = v := by
        rcases List.mem_cons.mp h with e | e
        · exact e
        · exact absurd e hv
      subst e
      have k : ∀ (ws : List Nat), i ∉ ws → wipe (σ.set i o) ws = (wipe σ ws).set i o := fun ws => by
        induction ws with
        | nil => intro _; rfl
        | cons w ws ih =>
          intro hw
          simp only [List.mem_cons, not_or] at hw
          show (wipe (σ.set i o) ws).set w none = ((wipe σ ws).set w none).set i o
          rw [ih hw.2, List.set_comm _ _ hw.1]
      rw [k vs hv, List.set_set]
section
variable {K : PySem.W.Frag}
theorem names_ok {G : Hp} {ρ : List Addr} {H : Hp} {own : List Nat} : ∀ {is : List Nat} {ds : List D} {vs : List V} {L L' : Loc} {σ : L2.St} {Q : L2.St → Hp → Prop}, DVs K G vs ds → bindIx is ds L = some L' → (∀ i ∈ is, i ∈ own) → LOk K G ρ L σ →
    (∀ σ', LOk K G ρ L' σ' → wipe σ' own = wipe σ own → Q σ' H) → gNames is vs σ H Q
  | [], ds, vs, L, L', σ, Q, hv, e, hi, l, q => by
    cases ds with
    | nil => cases hv; cases e; exact ⟨rfl, q σ l rfl⟩
    | cons _ _ => cases e
  | i :: is, ds, vs, L, L', σ, Q, hv, e, hi, l, q => by
    cases hv with
    | nil => cases e
    | cons h t =>
      refine ⟨_, _, rfl, ?_⟩
      refine names_ok t e (fun j hj => hi j (List.mem_cons_of_mem _ hj)) (lok_set (r := .d _) l i h) fun σ' l' w => q σ' l' ?_
      rw [w, wipe_set (hi i List.mem_cons_self)]
theorem tg_ok {F G : Hp} {ρ : List Addr} {S : Sto} {H : Hp} (s : SOk K F G ρ S H) {own : List Nat} {tg : Tg} {d : D} {v : V} {L L' : Loc} {σ : L2.St} {Q : L2.St → Hp → Prop} (h : DV K G v d) (e : bindT tg d L = some L') (hi : ∀ i ∈ tg.ixs, i ∈ own) (l : LOk K G ρ L σ)
    (q : ∀ σ', LOk K G ρ L' σ' → wipe σ' own = wipe σ own → Q σ' H) : gT K tg v σ H Q := by
  cases tg with
  | one i =>
    cases e
    exact q _ (lok_set (r := .d d) l i h) (wipe_set (hi i (List.mem_singleton.mpr rfl)))
  | tup is =>
    cases h with
    | tup h1 h2 =>
      have hl : ∀ {is : List Nat} {ds : List D} {L : Loc}, bindIx is ds L = some L' → ds.length = is.length := fun {is} => by
        induction is with
        | nil => intro ds L e; cases ds <;> first | rfl | cases e
        | cons i is ih => intro ds L e; cases ds <;> first | cases e | exact congrArg Nat.succ (ih e)
      exact ⟨_, _, rfl, Same.sqt s.subG h1, by rw [dvs_len h2]; exact hl e, names_ok h2 e hi l q⟩
    | _ => cases e
end
/-! ### a comprehension -/
section
variable {X : Cx} {own : List Nat} {tg : Tg} {ei : EvI} {et : Loc → Sto → Option (Bool × Sto)} {ee : Ev}
abbrev turnC (own : List Nat) (tg : Tg) (et : Loc → Sto → Option (Bool × Sto)) (ee : Ev) (L : Loc) : D → Sto → Option (Option D × Sto) := fun d S => okOr (bindT tg d (wipeL L own)) fun L' => okOr (et L' S) fun (b, S') => match b with
        | true => okOr (ee L' S') fun (y, S2) => okOr (asD y) fun y => some (some y, S2)
        | false => some (none, S')
theorem asD_some {y : R} {d : D} (h : asD y = some d) : y = .d d := by
  cases y <;> first | (cases h; rfl) | cases h
theorem lc_read {K : PySem.W.Frag} {σ : L2.St} {H : Hp} {Q : VK} {fin : List D → Sto → R × Sto} (hown : ∀ i ∈ tg.ixs, i ∈ own)
    (hfin : ∀ (F G : Hp) (ρ : List Addr) (S : Sto) (H : Hp) (p : Addr) (ys : List D) (vs : List V) (Q : VK), SOk K (upd F p (.lst vs)) G ρ S H → F p = none → DVs K G vs ys → Post K F G ρ (fin ys S).2 (fin ys S).1 Q → Q (.ref p) H)
    (h : tE K (fun L S => okOr (ei L S) fun (ds, lk, S1) => guardB (lockB lk S1) (okOr (loopM lk (turnC own tg et ee L) ds [] S1) fun (ys, S2) => some (fin ys S2))) σ H Q) :
    tLc (tI K ei) (gT K tg) (tT K et) (tE K ee) own σ H Q := by
  obtain ⟨F, G, ρ, S, L, r, Sf, s, l, e, q⟩ := h
  obtain ⟨⟨ds, lk, S1⟩, e1, e⟩ := okOr_some e
  obtain ⟨hlk, e⟩ := guardB_some e
  obtain ⟨⟨ys, S2⟩, e2, e⟩ := okOr_some e
  have ef : fin ys S2 = (r, Sf) := Option.some.inj e
  refine ⟨F, G, ρ, S, L, ds, lk, S1, s, l, e1, hlk, fun J G1 ρ1 H1 g1 p1 s1 feed => ?_⟩
  intro D hD
  have hF : F D = none := Same.free s1.subF hD
  let W : Nat → Nat → Hp → Prop := fun i m H => m = ds.length - i ∧ i ≤ ds.length ∧ ∃ G' ρ' S' acc vs, Same G1 G' ∧ ρ1 <+: ρ' ∧ SOk K (upd F D (.lst vs)) G' ρ' S' H ∧ DVs K G' vs acc ∧ lockB lk S' = true ∧ loopM lk (turnC own tg et ee L) (ds.drop i) acc S' = some (ys, S2)
  refine ⟨W, ⟨ds.length, by simp, Nat.zero_le _, G1, ρ1, S1, [], [], Same.refl _, List.prefix_refl _, s1.hold hD, .nil, hlk, e2⟩, ?_⟩
  rintro i m H2 ⟨rfl, hi, G', ρ', S', acc, vs, g2, p2, s2, hv, hk, hl⟩
  by_cases hlt : i < ds.length
  · refine .inr ⟨feed.go _ G' ρ' S' H2 i ds[i] g2 p2 s2 hk (List.getElem?_eq_getElem hlt), W (i + 1) (ds.length - (i + 1)), fun H' w => ⟨_, by omega, w⟩, fun x H3 hy => ?_⟩
    obtain ⟨G3, g3, s3, hx⟩ := feed.yld _ G' ρ' S' H2 i ds[i] x H3 g2 p2 s2 hk (List.getElem?_eq_getElem hlt) hy
    rw [List.drop_eq_getElem_cons hlt] at hl
    simp only [loopM] at hl
    split at hl
    · rename_i o S3 ht
      by_cases hk3 : lockB lk S3 = true
      · rw [if_pos hk3] at hl
        obtain ⟨L', eb, ht⟩ := okOr_some ht
        obtain ⟨⟨b, S4⟩, et', ht⟩ := okOr_some ht
        have gall := g1.trans (g2.trans g3)
        have pall := p1.trans p2
        refine tg_ok s3 hx eb hown (lok_wipe (lok_mono gall pall l) own) fun σ2 l2 w2 => ⟨?_, ?_⟩
        · rw [w2]
          clear w2 l2
          have ww : ∀ (us vs : List Nat) (τ : L2.St), (∀ v ∈ vs, v ∈ us) → wipe (wipe τ us) vs = wipe τ us := fun us vs => by
            induction vs with
            | nil => intro τ _; rfl
            | cons v vs ih =>
              intro τ hh
              show (wipe (wipe τ us) vs).set v none = wipe τ us
              rw [ih τ fun w hw => hh w (List.mem_cons_of_mem _ hw)]
              apply List.ext_getElem?
              intro j
              by_cases hj : v = j
              · subst hj
                by_cases hb : v < (wipe τ us).length
                · rw [List.getElem?_set_self hb]
                  cases hq : (wipe τ us)[v]? with
                  | none => rw [List.getElem?_eq_none_iff] at hq; omega
                  | some o =>
                    cases o with
                    | none => rfl
                    | some y => exact absurd (hh v List.mem_cons_self) (wipe_some hq).2
                · rw [List.getElem?_eq_none (by simpa using hb), List.getElem?_eq_none (by simpa using hb)]
              · rw [List.getElem?_set_ne hj]
          exact ww own own σ fun v hv => hv
        · refine ⟨_, G3, ρ', S', L', b, S4, s3, l2, et', fun G4 ρ4 H4 g4 p4 s4 => ?_⟩
          cases b with
          | true =>
            rw [if_pos rfl]
            obtain ⟨⟨y, S5⟩, ey, ht⟩ := okOr_some ht
            obtain ⟨dy, ed, ht⟩ := okOr_some ht
            cases asD_some ed
            obtain ⟨rfl, rfl⟩ := res_eq ht
            dsimp only at hl
            obtain ⟨hz, hl⟩ : acc.length < sizeLine ∧ loopM lk (turnC own tg et ee L) (ds.drop (i + 1)) (acc ++ [dy]) S5 = some (ys, S2) := by
              by_cases hz : acc.length < sizeLine
              · rw [if_pos hz] at hl; exact ⟨hz, hl⟩
              · rw [if_neg hz] at hl; cases hl
            refine ⟨_, G4, ρ4, S4, L', _, S5, s4, lok_mono g4 p4 l2, ey, fun G5 ρ5 H5 v5 g5 p5 s5 q5 => ?_⟩
            have gv := g3.trans (g4.trans g5)
            refine ⟨vs, s5.heldAt, by rw [dvs_len hv]; exact hz, rfl, hlt, G5, ρ5, S5, acc ++ [dy], vs ++ [v5], g2.trans gv, p2.trans (p4.trans p5), s5.held _, dvs_app (dvs_mono gv _ _ hv) (.cons q5 .nil), hk3, hl⟩
          | false =>
            rw [if_neg Bool.false_ne_true]
            obtain ⟨rfl, rfl⟩ := res_eq ht
            dsimp only at hl
            have gv := g3.trans g4
            exact ⟨rfl, hlt, G4, ρ4, S4, acc, vs, g2.trans gv, p2.trans p4, s4, dvs_mono gv _ _ hv, hk3, hl⟩
      · rw [if_neg hk3] at hl; cases hl
    · cases hl
  · have hi' : i = ds.length := by omega
    subst hi'
    refine .inl ⟨feed.stop _ G' ρ' S' H2 _ g2 p2 s2 hk (Nat.le_refl _), ?_⟩
    rw [List.drop_length] at hl
    obtain ⟨rfl, rfl⟩ := res_eq hl
    refine hfin F G' ρ' S' H2 D acc vs Q s2 hF hv ?_
    rw [ef]
    exact q.mono (g1.trans g2) (p1.trans p2)
theorem fin_d {K : PySem.W.Frag} (F G : Hp) (ρ : List Addr) (S : Sto) (H : Hp) (p : Addr) (ys : List D) (vs : List V) (Q : VK) (s : SOk K (upd F p (.lst vs)) G ρ S H) (hF : F p = none) (hv : DVs K G vs ys) (q : Post K F G ρ S (.d (.list ys)) Q) : Q (.ref p) H := by
  obtain ⟨s', e⟩ := s.heldFix hF
  exact q _ ρ H _ e (List.prefix_refl _) s' (.lst upd_same (dvs_mono e _ _ hv))
theorem fin_r {K : PySem.W.Frag} (F G : Hp) (ρ : List Addr) (S : Sto) (H : Hp) (p : Addr) (ys : List D) (vs : List V) (Q : VK) (s : SOk K (upd F p (.lst vs)) G ρ S H) (hF : F p = none) (hv : DVs K G vs ys) (q : Post K F G ρ (S ++ [.lst ys]) (.ref S.length) Q) : Q (.ref p) H := by
  have s' := s.heldNew hF (b := .lst ys) (o' := .lst vs) ⟨vs, rfl, hv⟩
  rw [upd_self s.heldAt] at s'
  exact q G (ρ ++ [p]) H _ (Same.refl _) (List.prefix_append _ _) s' ⟨p, by rw [List.getElem?_append_right (by rw [s.len]; exact Nat.le_refl _), s.len, Nat.sub_self]; rfl, rfl⟩
abbrev evC (own : List Nat) (tg : Tg) (ei : EvI) (et : Loc → Sto → Option (Bool × Sto)) (ee : Ev) (fin : List D → Sto → R × Sto) : Ev := fun L S => okOr (ei L S) fun (ds, lk, S1) => guardB (lockB lk S1) (okOr (loopM lk (turnC own tg et ee L) ds [] S1) fun (ys, S2) => some (fin ys S2))
abbrev finD : List D → Sto → R × Sto := fun ys S => (.d (.list ys), S)
abbrev finR : List D → Sto → R × Sto := fun ys S => (.ref S.length, S ++ [.lst ys])
end
end PL

set_option maxHeartbeats 2000000
namespace PL
open PySem PySem.Spec PyProof.Rows L2
def SPost (K : PySem.W.Frag) (F G : Hp) (ρ : List Addr) (f : Fl) (L' : Loc) (S' : Sto) (Dn : Ends) : Prop :=
  match f with
  | .nx => ∀ (G' : Hp) (ρ' : List Addr) (H' : Hp) (σ' : L2.St), Same G G' → ρ <+: ρ' → SOk K F G' ρ' S' H' → LOk K G' ρ' L' σ' → Dn.nx σ' H'
  | .bk => ∀ (G' : Hp) (ρ' : List Addr) (H' : Hp) (σ' : L2.St), Same G G' → ρ <+: ρ' → SOk K F G' ρ' S' H' → LOk K G' ρ' L' σ' → Dn.bk σ' H'
  | .ct => ∀ (G' : Hp) (ρ' : List Addr) (H' : Hp) (σ' : L2.St), Same G G' → ρ <+: ρ' → SOk K F G' ρ' S' H' → LOk K G' ρ' L' σ' → Dn.ct σ' H'
  | .rt r => ∀ (G' : Hp) (ρ' : List Addr) (H' : Hp) (v : V), Same G G' → ρ <+: ρ' → SOk K F G' ρ' S' H' → RV K G' ρ' r v → Dn.rt v H'
theorem SPost.mono {K : PySem.W.Frag} {F G G1 : Hp} {ρ ρ1 : List Addr} {f : Fl} {L' : Loc} {S' : Sto} {Dn : Ends} (h : SPost K F G ρ f L' S' Dn) (e : Same G G1) (p : ρ <+: ρ1) : SPost K F G1 ρ1 f L' S' Dn := by
  cases f <;> exact fun G' ρ' H' v e' p' s q => h G' ρ' H' v (e.trans e') (p.trans p') s q
abbrev EvS := Loc → Sto → Option (Fl × Loc × Sto)
def tS (K : PySem.W.Frag) (ev : EvS) : TS := fun Dn σ H => ∃ F G ρ S L f L' S', SOk K F G ρ S H ∧ LOk K G ρ L σ ∧ ev L S = some (f, L', S') ∧ SPost K F G ρ f L' S' Dn
theorem fl_eq {f f' : Fl} {L L' : Loc} {S S' : Sto} (h : some (f, L, S) = some (f', L', S')) : f = f' ∧ L = L' ∧ S = S' := by
  injection h with h
  injection h with h1 h2
  injection h2 with h2 h3
  exact ⟨h1, h2, h3⟩
section
variable {X : Cx} {a b c : Expr} {ea eb ec : Ev} {pos : Pos} {st : Stmt} {rest : List Stmt} {u w : EvS}
theorem s_nil : PSs X [] (tS X.K fun L S => some (.nx, L, S)) := by
  refine PSs.weak pss_nil fun Dn σ H h => ?_
  obtain ⟨F, G, ρ, S, L, f, L', S', s, l, e, q⟩ := h
  obtain ⟨rfl, rfl, rfl⟩ := fl_eq e
  exact q G ρ H σ (Same.refl _) (List.prefix_refl _) s l
abbrev evSeqS (u w : EvS) : EvS := fun L S => okOr (u L S) fun (f, L', S') => match f with
    | .nx => w L' S'
    | f => some (f, L', S')
theorem s_cons (h1 : PS X st (tS X.K u)) (h2 : PSs X rest (tS X.K w)) : PSs X (st :: rest) (tS X.K (evSeqS u w)) := by
  refine PSs.weak (pss_cons h1 h2) fun Dn σ H h => ?_
  obtain ⟨F, G, ρ, S, L, f, L', S', s, l, e, q⟩ := h
  obtain ⟨⟨f1, L1, S1⟩, e1, e⟩ := okOr_some e
  refine ⟨F, G, ρ, S, L, f1, L1, S1, s, l, e1, ?_⟩
  cases f1 with
  | nx => exact fun G1 ρ1 H1 σ1 g1 p1 s1 l1 => ⟨F, G1, ρ1, S1, L1, f, L', S', s1, l1, e, q.mono g1 p1⟩
  | bk => obtain ⟨rfl, rfl, rfl⟩ := fl_eq e; exact q
  | ct => obtain ⟨rfl, rfl, rfl⟩ := fl_eq e; exact q
  | rt r => obtain ⟨rfl, rfl, rfl⟩ := fl_eq e; exact q
theorem s_asg {i : Nat} {x : Str} {pos' : Pos} (hN : X.N.Nodup) (hi : X.N[i]? = some x) (hx : L2.Loc X.env.scope x) (ha : PE X a (tE X.K ea)) (hs : swapsWith a (some (.Name x pos')) pos.line X.env = pure false) (hf : X.fn x = true) :
    PS X (.Assign [.Name x pos'] a pos) (tS X.K fun L S => okOr (ea L S) fun (x, S1) => some (.nx, L.set i (some x), S1)) := by
  refine PS.weak (ps_set hN hi hx ha hs (.inl hf)) fun Dn σ H h => ?_
  obtain ⟨F, G, ρ, S, L, f, L', S', s, l, e, q⟩ := h
  obtain ⟨⟨x, S1⟩, e1, e⟩ := okOr_some e
  obtain ⟨rfl, rfl, rfl⟩ := fl_eq e
  exact ⟨F, G, ρ, S, L, x, S1, s, l, e1, fun G1 ρ1 H1 v1 g1 p1 s1 q1 => q G1 ρ1 H1 _ g1 p1 s1 (lok_set (lok_mono g1 p1 l) i q1)⟩
theorem s_expr (ha : PE X a (tE X.K ea)) (hs : swapsWith a none pos.line X.env = pure false) : PS X (.Expr a pos) (tS X.K fun L S => okOr (ea L S) fun (_, S1) => some (.nx, L, S1)) := by
  refine PS.weak (ps_expr ha hs) fun Dn σ H h => ?_
  obtain ⟨F, G, ρ, S, L, f, L', S', s, l, e, q⟩ := h
  obtain ⟨⟨x, S1⟩, e1, e⟩ := okOr_some e
  obtain ⟨rfl, rfl, rfl⟩ := fl_eq e
  exact ⟨F, G, ρ, S, L, x, S1, s, l, e1, fun G1 ρ1 H1 v1 g1 p1 s1 q1 => q G1 ρ1 H1 _ g1 p1 s1 (lok_mono g1 p1 l)⟩
theorem s_ret (ha : PE X a (tE X.K ea)) : PS X (.Return (some a) pos) (tS X.K fun L S => okOr (ea L S) fun (x, S1) => some (.rt x, L, S1)) := by
  refine PS.weak (ps_ret ha) fun Dn σ H h => ?_
  obtain ⟨F, G, ρ, S, L, f, L', S', s, l, e, q⟩ := h
  obtain ⟨⟨x, S1⟩, e1, e⟩ := okOr_some e
  obtain ⟨rfl, rfl, rfl⟩ := fl_eq e
  exact ⟨F, G, ρ, S, L, x, S1, s, l, e1, q⟩
theorem s_ret0 : PS X (.Return none pos) (tS X.K fun L S => some (.rt (.d .none), L, S)) := by
  refine PS.weak ps_retN fun Dn σ H h => ?_
  obtain ⟨F, G, ρ, S, L, f, L', S', s, l, e, q⟩ := h
  obtain ⟨rfl, rfl, rfl⟩ := fl_eq e
  exact q G ρ H .non (Same.refl _) (List.prefix_refl _) s .non
theorem s_pass : PS X (.Pass pos) (tS X.K fun L S => some (.nx, L, S)) := by
  refine PS.weak ps_pass fun Dn σ H h => ?_
  obtain ⟨F, G, ρ, S, L, f, L', S', s, l, e, q⟩ := h
  obtain ⟨rfl, rfl, rfl⟩ := fl_eq e
  exact q G ρ H σ (Same.refl _) (List.prefix_refl _) s l
theorem s_brk : PS X (.Break pos) (tS X.K fun L S => some (.bk, L, S)) := by
  refine PS.weak ps_break fun Dn σ H h => ?_
  obtain ⟨F, G, ρ, S, L, f, L', S', s, l, e, q⟩ := h
  obtain ⟨rfl, rfl, rfl⟩ := fl_eq e
  exact q G ρ H σ (Same.refl _) (List.prefix_refl _) s l
theorem s_cont : PS X (.Continue pos) (tS X.K fun L S => some (.ct, L, S)) := by
  refine PS.weak ps_continue fun Dn σ H h => ?_
  obtain ⟨F, G, ρ, S, L, f, L', S', s, l, e, q⟩ := h
  obtain ⟨rfl, rfl, rfl⟩ := fl_eq e
  exact q G ρ H σ (Same.refl _) (List.prefix_refl _) s l
theorem s_never : PS X st (tS X.K fun _ _ => none) := by
  refine PS.weak ps_never fun Dn σ H h => ?_
  obtain ⟨F, G, ρ, S, L, f, L', S', s, l, e, q⟩ := h
  cases e
abbrev evIfS (ec : Ev) (u w : EvS) : EvS := fun L S => okOr (ec L S) fun (x, S1) => okOr (truth x S1) fun k => match k with
    | true => u L S1
    | false => w L S1
theorem s_if {bs cs : List Stmt} (hc : PT X c (tT X.K (tstE ec))) (h1 : PSs X bs (tS X.K u)) (h2 : PSs X cs (tS X.K w)) : PS X (.If c bs cs pos) (tS X.K (evIfS ec u w)) := by
  refine PS.weak (ps_if hc h1 h2) fun Dn σ H h => ?_
  obtain ⟨F, G, ρ, S, L, f, L', S', s, l, e, q⟩ := h
  obtain ⟨⟨x, S1⟩, e1, e⟩ := okOr_some e
  obtain ⟨k, e2, e⟩ := okOr_some e
  refine ⟨F, G, ρ, S, L, k, S1, s, l, tst_of e1 e2, fun G1 ρ1 H1 g1 p1 s1 => ?_⟩
  cases k with
  | true => rw [if_pos rfl]; exact ⟨F, G1, ρ1, S1, L, f, L', S', s1, lok_mono g1 p1 l, e, q.mono g1 p1⟩
  | false => rw [if_neg Bool.false_ne_true]; exact ⟨F, G1, ρ1, S1, L, f, L', S', s1, lok_mono g1 p1 l, e, q.mono g1 p1⟩
/-! ### d[k] = v -/
theorem dsetR_some {x y z : R} {S S' : Sto} (h : dsetR x y z S = some S') : ∃ n ks k kd d, x = .ref n ∧ y = .d kd ∧ z = .d d ∧ S[n]? = some (.dic ks) ∧ keyD kd = some k ∧ ks.length < sizeLine ∧ S' = S.set n (.dic (storeK ks k d)) := by
  unfold dsetR at h
  split at h
  · split at h
    · obtain ⟨c, rfl⟩ := some_if h
      exact ⟨_, _, _, _, _, rfl, rfl, rfl, by assumption, by assumption, c, rfl⟩
    · cases h
    · cases h
  · cases h
theorem s_dset {pos' : Pos} (hu : X.A.units + 1 < cLine) (ha : PE X a (tE X.K ea)) (hb : PE X b (tE X.K eb)) (hc : PE X c (tE X.K ec)) (hs : swapsWith c (some (.Subscript a b pos')) pos.line X.env = pure false) :
    PS X (.Assign [.Subscript a b pos'] c pos) (tS X.K fun L S => okOr (ec L S) fun (z, S1) => okOr (ea L S1) fun (x, S2) => okOr (eb L S2) fun (y, S3) => okOr (dsetR x y z S3) fun S4 => some (.nx, L, S4)) := by
  refine PS.weak (ps_dput hu ha hb hc hs) fun Dn σ H h => ?_
  obtain ⟨F, G, ρ, S, L, f, L', S', s, l, e, q⟩ := h
  obtain ⟨⟨z, S1⟩, e1, e⟩ := okOr_some e
  obtain ⟨⟨x, S2⟩, e2, e⟩ := okOr_some e
  obtain ⟨⟨y, S3⟩, e3, e⟩ := okOr_some e
  obtain ⟨S4, e4, e⟩ := okOr_some e
  obtain ⟨rfl, rfl, rfl⟩ := fl_eq e
  obtain ⟨n, ks, k, kd, d, rfl, rfl, rfl, hs, hk, hz, rfl⟩ := dsetR_some e4
  refine ⟨F, G, ρ, S, L, _, S1, s, l, e1, fun G1 ρ1 H1 v1 g1 p1 s1 q1 => ⟨F, G1, ρ1, S1, L, _, S2, s1, lok_mono g1 p1 l, e2, fun G2 ρ2 H2 v2 g2 p2 s2 q2 =>
    ⟨F, G2, ρ2, S2, L, _, S3, s2, lok_mono (g1.trans g2) (p1.trans p2) l, e3, fun G3 ρ3 H3 v3 g3 p3 s3 q3 => ?_⟩⟩⟩
  obtain ⟨p, ep, rfl⟩ := q2
  obtain ⟨o, ho, kvs, rfl, hkd⟩ := s3.obj n _ p hs (pre_get p3 ep)
  have ev3 : v3 = kV k := keyD_of (H := H3) (.inl q3) hk
  refine ⟨p, upd H3 p (.dK (putK kvs k v1)), rfl, by rw [ev3]; exact DPut.k ho (by rw [kd_len hkd]; exact hz), ?_⟩
  refine q G3 ρ3 _ σ (g1.trans (g2.trans g3)) (p1.trans (p2.trans p3)) (s3.set (pre_get p3 ep) ⟨_, rfl, kd_put ?_ hkd⟩) (lok_mono (g1.trans (g2.trans g3)) (p1.trans (p2.trans p3)) l)
  exact dv_mono (g2.trans g3) _ _ q1
/-! ### several names -/
theorem pgs_names : ∀ {is : List Nat} {es : List Expr}, (List.length is = es.length) → (∀ p ∈ is.zip es, PG X p.2 (gName p.1) ∧ ∀ e q, p.2 ≠ .Starred e q) → PGs X es (gNames is)
  | [], [], _, _ => pgs_nil
  | [], _ :: _, h, _ => by simp at h
  | _ :: _, [], h, _ => by simp at h
  | i :: is, e :: es, h, hp => by
    have h0 := hp (i, e) (by simp)
    refine pgs_cons h0.1 (pgs_names (by simpa using h) fun p hm => hp p (by simp [hm])) ?_
    cases e <;> first | rfl | exact absurd rfl (h0.2 _ _)
theorem each_len : ∀ {es : List Expr} {env : Env}, (∀ e ∈ es, ∀ e' q, e ≠ .Starred e' q) → (assignEach es env).length = es.length ∧ (assignEach es env).findIdx? (·.1) = none
  | [], _, _ => ⟨rfl, rfl⟩
  | e :: es, env, h => by
    have ih := each_len (env := env) fun e' he' => h e' (List.mem_cons_of_mem _ he')
    have h0 := h e List.mem_cons_self
    have e1 : assignEach (e :: es) env = (false, assign e env) :: assignEach es env := by
      cases e <;> first | rfl | exact absurd rfl (h0 _ _)
    rw [e1]
    refine ⟨by rw [List.length_cons, List.length_cons, ih.1], ?_⟩
    rw [List.findIdx?_cons, ih.2]; rfl
theorem setAll_ok {K : PySem.W.Frag} {G : Hp} {ρ : List Addr} {H : Hp} : ∀ {is : List Nat} {rs : List R} {vs : List V} {L L' : Loc} {σ : L2.St} {Q : L2.St → Hp → Prop}, RVs K G ρ rs vs → setAll is rs L = some L' → LOk K G ρ L σ → (∀ σ', LOk K G ρ L' σ' → Q σ' H) → gNames is vs σ H Q
  | [], rs, vs, L, L', σ, Q, hv, e, l, q => by
    cases hv with
    | nil => cases e; exact ⟨rfl, q σ l⟩
    | cons _ _ => cases e
  | i :: is, rs, vs, L, L', σ, Q, hv, e, l, q => by
    cases hv with
    | nil => cases e
    | cons h t => exact ⟨_, _, rfl, setAll_ok t e (lok_set l i h) q⟩
theorem setAll_len : ∀ {is : List Nat} {rs : List R} {L L' : Loc}, setAll is rs L = some L' → rs.length = is.length
  | [], [], _, _, _ => rfl
  | [], _ :: _, _, _, h => by cases h
  | _ :: _, [], _, _, h => by cases h
  | i :: is, r :: rs, L, L', h => congrArg Nat.succ (setAll_len (is := is) (rs := rs) h)
theorem bindIx_len : ∀ {is : List Nat} {rs : List D} {L L' : Loc}, bindIx is rs L = some L' → rs.length = is.length
  | [], [], _, _, _ => rfl
  | [], _ :: _, _, _, h => by cases h
  | _ :: _, [], _, _, h => by cases h
  | i :: is, r :: rs, L, L', h => congrArg Nat.succ (bindIx_len (is := is) (rs := rs) h)
/-- a tuple's display stored in names, by way of the tuple -/
theorem s_parC {is : List Nat} {ts es : List Expr} {eas : Evs} {k k2 : Nat} {tp ep : Pos} (hc : X.calm = true) (hz : List.length is ≤ sizeLine) (hl : List.length is = ts.length) (hp : ∀ p ∈ is.zip ts, PG X p.2 (gName p.1) ∧ ∀ e q, p.2 ≠ .Starred e q) (ha : PA X es (tA X.K eas))
    (hw : swappedStores [.Tuple ts k tp] (.Tuple es k2 ep) X.env = pure none) :
    PS X (.Assign [.Tuple ts k tp] (.Tuple es k2 ep) pos) (tS X.K fun L S => okOr (eas L S) fun (rs, S1) => okOr (setAll is rs L) fun L' => some (.nx, L', S1)) := by
  have hts : ∀ e ∈ ts, ∀ e' q, e ≠ .Starred e' q := fun e he => by
    obtain ⟨n, hn, rfl⟩ := List.getElem_of_mem he
    have hn' : n < is.length := by rw [hl]; exact hn
    have hz : n < (is.zip ts).length := by rw [List.length_zip]; omega
    have := (hp (is.zip ts)[n] (List.getElem_mem hz)).2
    rw [List.getElem_zip] at this
    exact this
  have el := each_len (env := X.env) hts
  refine PS.weak (ps_asg (pe_tup ha) (pg_tup (n := is.length) hc (pgs_names hl hp) (by rw [el.1, hl]) el.2) rfl hw rfl) fun Dn σ H h => ?_
  obtain ⟨F, G, ρ, S, L, f, L', S', s, l, e, q⟩ := h
  obtain ⟨⟨rs, S1⟩, e1, e⟩ := okOr_some e
  obtain ⟨L1, e2, e⟩ := okOr_some e
  obtain ⟨rfl, rfl, rfl⟩ := fl_eq e
  refine ⟨F, G, ρ, S, L, rs, S1, s, l, e1, fun G1 ρ1 H1 vs g1 p1 s1 q1 => ?_⟩
  have hlen : vs.length = is.length := by rw [← rvs_len q1]; exact setAll_len e2
  refine ⟨by rw [hlen]; exact hz, fun p hp => ?_⟩
  obtain ⟨s2, g2⟩ := s1.fix (o := .tup vs) hp
  refine ⟨p, vs, rfl, .of upd_same, hlen, ?_⟩
  refine setAll_ok (G := upd G1 p (.tup vs)) (rvs_mono g2 (List.prefix_refl _) q1) e2 (lok_mono (g1.trans g2) p1 l) fun σ' l' => q _ ρ1 _ σ' (g1.trans g2) p1 s2 l'
theorem s_unp {is : List Nat} {ts : List Expr} {k : Nat} {tp : Pos} (hc : X.calm = true) (hl : List.length is = ts.length) (hp : ∀ p ∈ is.zip ts, PG X p.2 (gName p.1) ∧ ∀ e q, p.2 ≠ .Starred e q) (ha : PE X a (tE X.K ea))
    (hs : swapsWithSole [.Tuple ts k tp] a pos.line X.env = pure false) (hw : swappedStores [.Tuple ts k tp] a X.env = pure none) :
    PS X (.Assign [.Tuple ts k tp] a pos) (tS X.K fun L S => okOr (ea L S) fun (x, S1) => match x with
    | .d (.tuple ds) => okOr (bindIx is ds L) fun L' => some (.nx, L', S1)
    | _ => none) := by
  have hts : ∀ e ∈ ts, ∀ e' q, e ≠ .Starred e' q := fun e he => by
    obtain ⟨n, hn, rfl⟩ := List.getElem_of_mem he
    have hn' : n < is.length := by rw [hl]; exact hn
    have hz : n < (is.zip ts).length := by rw [List.length_zip]; omega
    have := (hp (is.zip ts)[n] (List.getElem_mem hz)).2
    rw [List.getElem_zip] at this
    exact this
  have el := each_len (env := X.env) hts
  refine PS.weak (ps_asg ha (pg_tup (n := is.length) hc (pgs_names hl hp) (by rw [el.1, hl]) el.2) hs hw rfl) fun Dn σ H h => ?_
  obtain ⟨F, G, ρ, S, L, f, L', S', s, l, e, q⟩ := h
  obtain ⟨⟨x, S1⟩, e1, e⟩ := okOr_some e
  dsimp only at e
  split at e
  · obtain ⟨L1, e2, e⟩ := okOr_some e
    obtain ⟨rfl, rfl, rfl⟩ := fl_eq e
    refine ⟨F, G, ρ, S, L, _, S1, s, l, e1, fun G1 ρ1 H1 v1 g1 p1 s1 q1 => ?_⟩
    cases q1 with
    | tup h1 h2 =>
      exact ⟨_, _, rfl, Same.sqt s1.subG h1, by rw [dvs_len h2]; exact bindIx_len e2, names_ok (own := is) h2 e2 (fun i hi => hi) (lok_mono g1 p1 l) fun σ' l' _ => q G1 ρ1 _ σ' g1 p1 s1 l'⟩
  · cases e
/-- two names, two values, stored from the right -/
theorem s_par2 {i j : Nat} {x y : Str} {px py pt : Pos} {kt k2 pt2} {eas : Evs} (hc : X.calm = true) (hN : X.N.Nodup) (hi : X.N[i]? = some x) (hj : X.N[j]? = some y) (hij : i ≠ j) (hx : X.env.scope.names.lookup x = some .local) (hy : X.env.scope.names.lookup y = some .local)
    (ha : PA X [a, b] (tA X.K eas)) (hw : swappedStores [.Tuple [.Name x px, .Name y py] kt pt] (.Tuple [a, b] k2 pt2) X.env = pure (some [x, y])) :
    PS X (.Assign [.Tuple [.Name x px, .Name y py] kt pt] (.Tuple [a, b] k2 pt2) pos) (tS X.K fun L S => okOr (eas L S) fun (rs, S1) => okOr (setAll [i, j] rs L) fun L' => some (.nx, L', S1)) := by
  refine PS.weak (ps_par hc hN hi hj hij hx hy ha hw) fun Dn σ H h => ?_
  obtain ⟨F, G, ρ, S, L, f, L', S', s, l, e, q⟩ := h
  obtain ⟨⟨rs, S1⟩, e1, e⟩ := okOr_some e
  obtain ⟨L1, e2, e⟩ := okOr_some e
  obtain ⟨rfl, rfl, rfl⟩ := fl_eq e
  refine ⟨F, G, ρ, S, L, rs, S1, s, l, e1, fun G1 ρ1 H1 vs g1 p1 s1 q1 => ?_⟩
  cases q1 with
  | nil => cases e2
  | cons h t =>
    cases t with
    | nil => cases e2
    | cons h' t' =>
      cases t' with
      | cons _ _ => cases e2
      | nil =>
        cases e2
        exact ⟨_, _, rfl, q G1 ρ1 _ _ g1 p1 s1 (lok_set (lok_set (lok_mono g1 p1 l) i h) j h')⟩
/-- three names, three values -/
def tPar3 (i j k : Nat) (ta : TA) : TS := fun D σ H => ta σ H fun vs H1 => ∃ v w z, vs = [v, w, z] ∧ D.nx (((σ.set i (some v)).set j (some w)).set k (some z)) H1
theorem ps_par3 {i j k : Nat} {x y z : Str} {ta : TA} {px py pz pt : Pos} {kt k2 pt2} (hc : X.calm = true) (hN : X.N.Nodup) (hi : X.N[i]? = some x) (hj : X.N[j]? = some y) (hk : X.N[k]? = some z) (hij : i ≠ j) (hik : i ≠ k) (hjk : j ≠ k)
    (hx : X.env.scope.names.lookup x = some .local) (hy : X.env.scope.names.lookup y = some .local) (hz : X.env.scope.names.lookup z = some .local) (ha : PA X [a, b, c] ta)
    (hw : swappedStores [.Tuple [.Name x px, .Name y py, .Name z pz] kt pt] (.Tuple [a, b, c] k2 pt2) X.env = pure (some [x, y, z])) :
    PS X (.Assign [.Tuple [.Name x px, .Name y py, .Name z pz] kt pt] (.Tuple [a, b, c] k2 pt2) pos) (tPar3 i j k ta) := by
  refine ⟨fun pins s0 σ H Dn I h => ?_⟩
  rw [exec_Assign_arm]
  refine wpAny_bind (wpAny_standAt ?_)
  rw [show swapsWithSole [.Tuple [.Name x px, .Name y py, .Name z pz] kt pt] (.Tuple [a, b, c] k2 pt2) pos.line X.env = pure false from rfl]
  refine wpAny_bind (wpAny_pure ?_)
  rw [if_neg (by decide)]
  refine wpAny_bind (Tuple_ (thn (ha.run _ pins s0 σ H _ I h) fun us s1 ⟨vs, H1, I1, r1, q1⟩ => ?_))
  obtain ⟨v, w, u, e1, q1⟩ := q1
  subst e1
  obtain ⟨u1, u2, u3, rfl, rv, rw', ru⟩ : ∃ u1 u2 u3, us = [u1, u2, u3] ∧ RelV v u1 ∧ RelV w u2 ∧ RelV u u3 := by
    cases r1 with
    | cons p q => cases q with
      | cons p' q' => cases q' with
        | cons p'' q'' => cases q''; exact ⟨_, _, _, rfl, p, p', p''⟩
  refine wpAny_newObj_type ?_ (by show 3 ≤ sizeLine; decide)
  have I2 : L2.Inv X pins σ H1 { s1 with heap := s1.heap.push { cls := .type "tuple", data := .seq [u1, u2, u3].toArray } } := I1.kept (t' := s1.toks) fun _ _ e => Heap.get?_push_of_some _ e
  rw [hw]
  refine wpAny_bind (wpAny_pure ?_)
  show wpAny (model X.prog X.w) X.A (do
    rule "assign.swapped-stores"
    let items ← unpackItems (.ref s1.heap.objs.size) 3 none
    assignInOrder [fun v => bindName X.env z v, fun v => bindName X.env y v, fun v => bindName X.env x v] items.reverse
    pure Flow.next) _ _ _
  refine wpAny_bind (wpAny_rule (wpAny_bind (unpackItems_tuple (items := #[u1, u2, u3]) (I.ok.hd hc) (IsTup.new s1.heap _) fun h' hx' => ?_)))
  have I3 := I2.kept (h' := h') (t' := s1.toks) fun b o e => hx' b o (Nat.ne_of_lt (Heap.lt_size e)) e
  show wpAny _ _ (assignInOrder [fun v => bindName X.env z v, fun v => bindName X.env y v, fun v => bindName X.env x v] [u3, u2, u1] >>= fun _ => pure Flow.next) _ _ _
  refine wpAny_bind (assignInOrder_cons (wpAny_bindName (store_ok I3 hN hk (.inl hz) ru (fun s2 I4 => ?_) (.inr hz))))
  refine assignInOrder_cons (wpAny_bindName (store_ok I4 hN hj (.inl hy) rw' (fun s3 I5 => ?_) (.inr hy)))
  refine assignInOrder_cons (wpAny_bindName (store_ok I5 hN hi (.inl hx) rv (fun s4 I6 => assignInOrder_nil (wpAny_pure ?_)) (.inr hx)))
  have e6 : (((σ.set k (some u)).set j (some w)).set i (some v)) = (((σ.set i (some v)).set j (some w)).set k (some u)) := by
    rw [List.set_comm _ _ (Ne.symm hij), List.set_comm (some u) (some v) (Ne.symm hik), List.set_comm (some u) (some w) (Ne.symm hjk)]
  rw [e6] at I6
  exact ⟨_, H1, I6, q1⟩
theorem s_par3 {i j k : Nat} {x y z : Str} {px py pz pt : Pos} {kt k2 pt2} {eas : Evs} (hc : X.calm = true) (hN : X.N.Nodup) (hi : X.N[i]? = some x) (hj : X.N[j]? = some y) (hk : X.N[k]? = some z) (hij : i ≠ j) (hik : i ≠ k) (hjk : j ≠ k)
    (hx : X.env.scope.names.lookup x = some .local) (hy : X.env.scope.names.lookup y = some .local) (hz : X.env.scope.names.lookup z = some .local) (ha : PA X [a, b, c] (tA X.K eas))
    (hw : swappedStores [.Tuple [.Name x px, .Name y py, .Name z pz] kt pt] (.Tuple [a, b, c] k2 pt2) X.env = pure (some [x, y, z])) :
    PS X (.Assign [.Tuple [.Name x px, .Name y py, .Name z pz] kt pt] (.Tuple [a, b, c] k2 pt2) pos) (tS X.K fun L S => okOr (eas L S) fun (rs, S1) => okOr (setAll [i, j, k] rs L) fun L' => some (.nx, L', S1)) := by
  refine PS.weak (ps_par3 hc hN hi hj hk hij hik hjk hx hy hz ha hw) fun Dn σ H h => ?_
  obtain ⟨F, G, ρ, S, L, f, L', S', s, l, e, q⟩ := h
  obtain ⟨⟨rs, S1⟩, e1, e⟩ := okOr_some e
  obtain ⟨L1, e2, e⟩ := okOr_some e
  obtain ⟨rfl, rfl, rfl⟩ := fl_eq e
  refine ⟨F, G, ρ, S, L, rs, S1, s, l, e1, fun G1 ρ1 H1 vs g1 p1 s1 q1 => ?_⟩
  cases q1 with
  | nil => cases e2
  | cons h t =>
    cases t with
    | nil => cases e2
    | cons h' t' =>
      cases t' with
      | nil => cases e2
      | cons h'' t'' =>
        cases t'' with
        | cons _ _ => cases e2
        | nil =>
          cases e2
          exact ⟨_, _, _, rfl, q G1 ρ1 _ _ g1 p1 s1 (lok_set (lok_set (lok_set (lok_mono g1 p1 l) i h) j h') k h'')⟩
/-! ### for -/
abbrev evFor (tg : Tg) (ei : EvI) (u : EvS) : EvS := fun L S => okOr (ei L S) fun (ds, lk, S1) => guardB (lockB lk S1) (forM' lk (fun d L S => okOr (bindT tg d L) fun L' => u L' S) ds L S1)
theorem s_for {tgt iter : Expr} {body : List Stmt} {tg : Tg} {ei : EvI} (hp : PassesOwn (model X.prog X.w) X.A X.env X.xe) (hc : X.calm = true) (hi : PI X tgt iter (tI X.K ei)) (hg : PG X tgt (gT X.K tg)) (hb : PSs X body (tS X.K u)) (hs : ∀ x, foldedSetIterable iter X.env x = pure x) :
    PS X (.For tgt iter body [] pos) (tS X.K (evFor tg ei u)) := by
  refine PS.weak (ps_for hp hc hi hg hb hs) fun Dn σ H h => ?_
  obtain ⟨F, G, ρ, S, L, f, Lf, Sf, s, l, e, q⟩ := h
  obtain ⟨⟨ds, lk, S1⟩, e1, e⟩ := okOr_some e
  obtain ⟨hlk, e⟩ := guardB_some e
  refine ⟨F, G, ρ, S, L, ds, lk, S1, s, l, e1, hlk, fun J G1 ρ1 H1 g1 p1 s1 feed => ?_⟩
  let W : Nat → Nat → L2.St → Hp → Prop := fun i m σ H => m = ds.length - i ∧ i ≤ ds.length ∧ ∃ G' ρ' S' L', Same G1 G' ∧ ρ1 <+: ρ' ∧ SOk X.K F G' ρ' S' H ∧ LOk X.K G' ρ' L' σ ∧ lockB lk S' = true ∧ forM' lk (fun d L S => okOr (bindT tg d L) fun L' => u L' S) (ds.drop i) L' S' = some (f, Lf, Sf)
  refine ⟨W, ⟨ds.length, by simp, Nat.zero_le _, G1, ρ1, S1, L, Same.refl _, List.prefix_refl _, s1, lok_mono g1 p1 l, hlk, e⟩, ?_⟩
  rintro i m σ2 H2 ⟨rfl, hi, G', ρ', S', L', g2, p2, s2, l2, hk, hl⟩
  by_cases hlt : i < ds.length
  · refine .inr ⟨feed.go _ G' ρ' S' H2 i ds[i] g2 p2 s2 hk (List.getElem?_eq_getElem hlt), W (i + 1) (ds.length - (i + 1)), fun σ' H' w => ⟨_, by omega, w⟩, fun x H3 hy => ?_⟩
    obtain ⟨G3, g3, s3, hx⟩ := feed.yld _ G' ρ' S' H2 i ds[i] x H3 g2 p2 s2 hk (List.getElem?_eq_getElem hlt) hy
    rw [List.drop_eq_getElem_cons hlt] at hl
    simp only [forM'] at hl
    cases ht : okOr (bindT tg ds[i] L') fun L' => u L' S' with
    | none => rw [ht] at hl; cases hl
    | some res =>
      obtain ⟨f1, L1, S3⟩ := res
      rw [ht] at hl
      obtain ⟨L'', eb, ht⟩ := okOr_some ht
      refine tg_ok (own := tg.ixs) s3 hx eb (fun i hi => hi) (lok_mono g3 (List.prefix_refl _) l2) fun σ3 l3 _ => ?_
      refine ⟨F, G3, ρ', S', L'', f1, L1, S3, s3, l3, ht, ?_⟩
      have gall := g1.trans (g2.trans g3)
      have pall := p1.trans p2
      cases f1 with
      | rt r => obtain ⟨rfl, rfl, rfl⟩ := fl_eq hl; exact q.mono gall pall
      | bk =>
        obtain ⟨rfl, rfl, rfl⟩ := fl_eq hl
        exact fun G4 ρ4 H4 σ4 g4 p4 s4 l4 => q G4 ρ4 H4 σ4 (gall.trans g4) (pall.trans p4) s4 l4
      | nx =>
        dsimp only at hl
        by_cases hk3 : lockB lk S3 = true
        · rw [if_pos hk3] at hl
          exact fun G4 ρ4 H4 σ4 g4 p4 s4 l4 => ⟨rfl, hlt, G4, ρ4, S3, L1, g2.trans (g3.trans g4), p2.trans p4, s4, l4, hk3, hl⟩
        · rw [if_neg hk3] at hl; cases hl
      | ct =>
        dsimp only at hl
        by_cases hk3 : lockB lk S3 = true
        · rw [if_pos hk3] at hl
          exact fun G4 ρ4 H4 σ4 g4 p4 s4 l4 => ⟨rfl, hlt, G4, ρ4, S3, L1, g2.trans (g3.trans g4), p2.trans p4, s4, l4, hk3, hl⟩
        · rw [if_neg hk3] at hl; cases hl
  · have hi' : i = ds.length := by omega
    subst hi'
    refine .inl ⟨feed.stop _ G' ρ' S' H2 _ g2 p2 s2 hk (Nat.le_refl _), ?_⟩
    rw [List.drop_length] at hl
    obtain ⟨rfl, rfl, rfl⟩ := fl_eq hl
    exact q G' ρ' H2 σ2 (g1.trans g2) (p1.trans p2) s2 l2
end
end PL

set_option maxHeartbeats 4000000
namespace PL
open PySem PySem.Spec PyProof.Rows L2
structure Tab where
  fns : List Fn
  gl : List (Str × D)
  gd : List (Str × List (Str × D))
def freeNames : List Str := ["len", "all", "any", "tuple", "list", "int", "isinstance", "bool", "str", "range", "zip", "enumerate", "repr", "sorted"]
/-- a def's promise, where no guard is under way -/
structure FnG (P : Program) (w : World) (K : PySem.W.Frag) (mg : Str → Option Value) (base : Heap) (k : Nat) (f : Addr) (fd : FuncData) (ps : List Str) (cl : Prim) : Prop where
  run : ∀ (A : Around) (outer : List PySem.Env) (s : Shared) (H : Hp) (args : Args) (us : List Value) (vs : List V) (Q : VK), Room k A → A.guards = some [] → Env0 P w K mg base A outer s H → BindsTo s fd args (ps.zip us) → Vals vs us → vs.length = ps.length → tP K cl vs H Q →
    codeAny (model P w) A (.call (.ref f) args) (CR CX0 outer P w H s Q E0) s
  kw : ∀ x, ps = [x] → ∀ (s : Shared) (u : Value), BindsTo s fd ⟨[], [(x, u)]⟩ [(x, u)]
def tabEq : List (Str × D) → List (Str × D) → Bool
  | [], [] => true
  | p :: r, q :: t => decide (p.1 = q.1) && dEq p.2 q.2 && tabEq r t
  | _, _ => false
theorem tabEq_eq : ∀ (a b : List (Str × D)), tabEq a b = true → a = b
  | [], [], _ => rfl
  | [], _ :: _, h => by simp [tabEq] at h
  | _ :: _, [], h => by simp [tabEq] at h
  | (x, u) :: r, (y, v) :: t, h => by
    simp only [tabEq, Bool.and_eq_true, decide_eq_true_eq] at h
    obtain ⟨⟨rfl, h2⟩, h3⟩ := h
    rw [dEq_eq u v h2, tabEq_eq r t h3]
structure Good (T : Tab) (cl : Cl) (n : Nat) (X : Cx) : Prop where
  calm : X.calm = true
  nd : X.N.Nodup
  gd : X.A.guards = some []
  room : Room n X.A
  free : ∀ x ∈ freeNames, X.mg x = none
  glob : ∀ p ∈ T.gl, ∃ u v, X.mg p.1 = some u ∧ RelV v u ∧ ∀ G, DV X.K G v p.2
  gdict : ∀ p ∈ T.gd, ∃ addr, X.mg p.1 = some (.ref addr) ∧ KTab X.K X.w addr p.2
  fn : ∀ f d, T.fns[f]? = some d → ∃ addr fd ps, X.mg d.name = some (.ref addr) ∧ PySem.W.keepIn X.K (.ref addr) = true ∧ Binds X.K fd ps [] ∧ (ps.length = d.np ∧ ps = d.names.take d.np) ∧ FnG X.prog X.w X.K X.mg X.base n addr fd ps (cl f)
  len : ∀ f d rs S r, T.fns[f]? = some d → cl f rs S = some r → rs.length = d.np
theorem Good.blk {T : Tab} {cl : Cl} {n : Nat} {X : Cx} (g : Good T cl n X) (s : Shared) (H : Hp) (scope : Scope) (ce : PySem.Env) (fp : List Addr) : Good T cl n (X.blk s H scope ce fp) :=
  ⟨g.calm, g.nd, g.gd, g.room, g.free, g.glob, g.gdict, g.fn, g.len⟩
theorem Good.un {T : Tab} {cl : Cl} {n : Nat} {X : Cx} (g : Good T cl n X) : X.A.units + 64 < cLine := g.room.units
theorem Good.un1 {T : Tab} {cl : Cl} {n : Nat} {X : Cx} (g : Good T cl n X) : X.A.units + 1 < cLine := hu_of g.room
/-! ### the check -/
def visB (sc : Scope) (x : Str) : Bool := match sc.names.lookup x with
  | some .local => true
  | some .cell => true
  | some .free => true
  | _ => false
def glB (sc : Scope) (x : Str) : Bool := match sc.names.lookup x with
  | some .globalImplicit => !(x == ("__debug__" : Str))
  | _ => false
def nameB (N : List Str) (sc : Scope) (i : Nat) (x : Str) : Bool := decide (N[i]? = some x) && visB sc x && !(x == ("__debug__" : Str)) && !(x == ("__classdict__" : Str))
/-- a name that is stored -/
def storeB (N : List Str) (sc : Scope) (fnb : Str → Bool) (i : Nat) (x : Str) : Bool := decide (N[i]? = some x) && (match sc.names.lookup x with
  | some .local => true
  | some .cell => fnb x
  | _ => false)
def storesB (N : List Str) (sc : Scope) (fnb : Str → Bool) : List Nat → List Expr → Bool
  | [], [] => true
  | i :: is, .Name x _ :: es => storeB N sc fnb i x && storesB N sc fnb is es
  | _, _ => false
def tgB (N : List Str) (sc : Scope) (fnb : Str → Bool) : Tg → Expr → Bool
  | .one i, .Name x _ => storeB N sc fnb i x
  | .tup is, .Tuple es _ _ => storesB N sc fnb is es
  | _, _ => false
def notSuper : Expr → Bool
  | .Call (.Name x _) [] [] _ => !(x == ("super" : Str))
  | _ => true
def isTup : Expr → Bool
  | .Tuple _ _ _ => true
  | _ => false
def keysB : List Str → List (Option Expr) → Bool
  | [], [] => true
  | k :: ks, some (.Constant (.str x) _ _) :: es => decide (k = x) && keysB ks es
  | _, _ => false
mutual
def ckE (T : Tab) (N : List Str) (sc : Scope) : E → Expr → Bool
  | .loc i, .Name x _ => nameB N sc i x
  | .int i, .Constant (.int j) _ _ => decide (i = j)
  | .str x, .Constant (.str y) _ _ => decide (x = y)
  | .bl b, .Constant (.bool c) _ _ => decide (b = c)
  | .non, .Constant .none _ _ => true
  | .gd x d, .Name y _ => decide (x = y) && glB sc y && (T.gl.any fun p => decide (p.1 = y) && dEq p.2 d)
  | .bin op a b, .BinOp l o r _ => decide (op = o) && ckE T N sc a l && ckE T N sc b r
  | .cmp op a b, .Compare l [o] [r] _ => decide (op = o) && ckE T N sc a l && ckE T N sc b r && !behindInMarks o r
  | .cmp2 o p a b c, .Compare x [o', p'] [y, z] _ => decide (o = o') && decide (p = p') && ckE T N sc a x && ckE T N sc b y && ckE T N sc c z && !lastMarks [o', p'] [y, z]
  | .bop k a r, .BoolOp .And (x :: xs) _ => k && ckE T N sc a x && ckEs T N sc r xs
  | .bop k a r, .BoolOp .Or (x :: xs) _ => !k && ckE T N sc a x && ckEs T N sc r xs
  | .not a, .UnaryOp .Not x _ => ckE T N sc a x
  | .neg a, .UnaryOp .USub x _ => ckE T N sc a x
  | .ite c a b, .IfExp x y z _ => ckE T N sc c x && ckE T N sc a y && ckE T N sc b z
  | .tup es, .Tuple xs _ _ => ckEs T N sc es xs
  | .lst es, .List xs _ => ckEs T N sc es xs
  | .lstR es, .List xs _ => ckEs T N sc es xs
  | .dic0, .Dict [] [] _ => true
  | .dic ks es, .Dict keys vals _ => keysB ks keys && ckEs T N sc es vals && decide (keys.length = vals.length) && decide (keys.length ≤ 15) && decide (0 < keys.length)
  | .ix a i, .Subscript x y _ => ckE T N sc a x && ckE T N sc i y
  | .sl a lo hi, .Subscript x (.Slice l h none _) _ => ckE T N sc a x && ckO T N sc lo l && ckO T N sc hi h
  | .bi b a, .Call (.Name x _) [y] [] _ => decide (x = b.name) && glB sc x && ckE T N sc a y
  | .isi t a, .Call (.Name x _) [y, .Name z _] [] _ => decide (x = ("isinstance" : Str)) && glB sc x && decide (z = t.nm) && glB sc z && ckE T N sc a y
  | .call f es, .Call (.Name x _) xs [] _ => (match T.fns[f]? with
      | some d => decide (d.name = x)
      | none => false) && glB sc x && ckEs T N sc es xs
  | .comp own tg it cs e, .ListComp elt [⟨t, i, ifs, z⟩] scope _ => decide (z = 0) && blkC N sc scope (own.map fun i => (N.getD i Str.empty, i)) && (tg.ixs.all fun i => own.contains i) && tgB N (relS scope sc) (fun x => scope.names.lookup x == some .cell) tg t && ckI T N sc it i t && ckEs T N (relS scope sc) cs ifs && ckE T N (relS scope sc) e elt
  | .compR own tg it cs e, .ListComp elt [⟨t, i, ifs, z⟩] scope _ => decide (z = 0) && blkC N sc scope (own.map fun i => (N.getD i Str.empty, i)) && (tg.ixs.all fun i => own.contains i) && tgB N (relS scope sc) (fun x => scope.names.lookup x == some .cell) tg t && ckI T N sc it i t && ckEs T N (relS scope sc) cs ifs && ckE T N (relS scope sc) e elt
  | .get2 d k e, .Call (.Attribute o m apos) [x, y] [] pos => decide (m = ("get" : Str)) && (apos.endLine == pos.line) && notSuper o && ckE T N sc d o && ckE T N sc k x && ckE T N sc e y
  | .app a e, .Call (.Attribute o m apos) [x] [] pos => decide (m = ("append" : Str)) && (apos.endLine == pos.line) && notSuper o && ckE T N sc a o && ckE T N sc e x
  | .ext a e, .Call (.Attribute o m apos) [x] [] pos => decide (m = ("extend" : Str)) && (apos.endLine == pos.line) && notSuper o && ckE T N sc a o && ckE T N sc e x
  | .join a e, .Call (.Attribute o m apos) [x] [] pos => decide (m = ("join" : Str)) && (apos.endLine == pos.line) && notSuper o && ckE T N sc a o && ckE T N sc e x
  | .gget x tab k, .Call (.Attribute (.Name y _) m apos) [z] [] pos => decide (m = ("get" : Str)) && decide (x = y) && (apos.endLine == pos.line) && glB sc y && (T.gd.any fun p => decide (p.1 = y) && tabEq p.2 tab) && ckE T N sc k z
  | .callK f x e, .Call (.Name y _) [] [⟨some z, v, _⟩] _ => (match T.fns[f]? with
      | some d => decide (d.name = y) && decide (d.names.take d.np = [z])
      | none => false) && glB sc y && decide (x = z) && ckE T N sc e v
  | _, _ => false
def ckEs (T : Tab) (N : List Str) (sc : Scope) : Es → List Expr → Bool
  | .nil, [] => true
  | .cons e es, x :: xs => ckE T N sc e x && ckEs T N sc es xs
  | _, _ => false
def ckO (T : Tab) (N : List Str) (sc : Scope) : O → Option Expr → Bool
  | .no, none => true
  | .so e, some x => ckE T N sc e x
  | _, _ => false
def ckI (T : Tab) (N : List Str) (sc : Scope) : It' → Expr → Expr → Bool
  | .seq e, x, _ => ckE T N sc e x
  | .rng e, .Call (.Name x _) [y] [] _, _ => decide (x = ("range" : Str)) && glB sc x && ckE T N sc e y
  | .zip a b, .Call (.Name x _) [y, z] [] _, t => decide (x = ("zip" : Str)) && glB sc x && ckE T N sc a y && ckE T N sc b z && isTup t
  | .enm a, .Call (.Name x _) [y] [] _, t => decide (x = ("enumerate" : Str)) && glB sc x && ckE T N sc a y && isTup t
  | _, _, _ => false
end
theorem ck_star {T : Tab} {N : List Str} {sc : Scope} {e : E} {x : Expr} (h : ckE T N sc e x = true) : ∀ y p, x ≠ .Starred y p := fun y p z => by
  subst z; cases e <;> simp [ckE] at h
theorem ck_slice {T : Tab} {N : List Str} {sc : Scope} {e : E} {x : Expr} (h : ckE T N sc e x = true) : PlainIx x := by
  intro o i
  cases x <;> first | rfl | (cases e <;> simp [ckE] at h)
theorem ck_set {T : Tab} {N : List Str} {sc : Scope} {e : E} {x : Expr} (h : ckE T N sc e x = true) {env : PySem.Env} : ∀ v, foldedSetIterable x env v = pure v := by
  intro v
  cases x <;> first | rfl | (cases e <;> simp [ckE] at h)
theorem vis_ok {sc : Scope} {x : Str} (h : visB sc x = true) : Vis sc x := by
  unfold visB at h
  split at h
  · exact .inl (by assumption)
  · exact .inr (.inl (by assumption))
  · exact .inr (.inr (by assumption))
  · cases h
theorem gl_ok {X : Cx} {x : Str} (h : glB X.env.scope x = true) : Gl X x ∧ (x == ("__debug__" : Str)) = false := by
  unfold glB at h
  split at h
  · rename_i e
    exact ⟨e, by simpa using h⟩
  · cases h
theorem store_ok' {X : Cx} {fnb : Str → Bool} (hf : ∀ x, fnb x = true → X.fn x = true) (hN : X.N.Nodup) {i : Nat} {x : Str} {pos : Pos} (h : storeB X.N X.env.scope fnb i x = true) : PG X (.Name x pos) (gName i) := by
  unfold storeB at h
  rw [Bool.and_eq_true] at h
  obtain ⟨h1, h2⟩ := h
  have h1 := of_decide_eq_true h1
  split at h2
  · exact pg_name hN h1 (.inl (by assumption)) (.inr (by assumption))
  · exact pg_name hN h1 (.inr (by assumption)) (.inl (hf x h2))
  · cases h2
theorem stores_ok {X : Cx} {fnb : Str → Bool} (hf : ∀ x, fnb x = true → X.fn x = true) (hN : X.N.Nodup) : ∀ {is : List Nat} {es : List Expr}, storesB X.N X.env.scope fnb is es = true → is.length = es.length ∧ ∀ p ∈ is.zip es, PG X p.2 (gName p.1) ∧ ∀ e q, p.2 ≠ .Starred e q
  | [], [], _ => ⟨rfl, fun p hp => by simp at hp⟩
  | [], _ :: _, h => by simp [storesB] at h
  | _ :: _, [], h => by simp [storesB] at h
  | i :: is, e :: es, h => by
    cases e <;> first | (simp [storesB] at h; done) | skip
    rename_i x q
    simp only [storesB, Bool.and_eq_true] at h
    obtain ⟨ih1, ih2⟩ := stores_ok hf hN h.2
    refine ⟨congrArg Nat.succ ih1, fun p hp => ?_⟩
    rcases List.mem_cons.mp (show p ∈ (i, Expr.Name x q) :: is.zip es from hp) with e | hp
    · subst e
      exact ⟨store_ok' hf hN h.1, fun e q z => nomatch z⟩
    · exact ih2 p hp
theorem tgB_ok {X : Cx} {fnb : Str → Bool} (hf : ∀ x, fnb x = true → X.fn x = true) (hN : X.N.Nodup) (hc : X.calm = true) {tg : Tg} {e : Expr} (h : tgB X.N X.env.scope fnb tg e = true) : PG X e (gT X.K tg) := by
  cases tg with
  | one i =>
    cases e <;> first | (simp [tgB] at h; done) | skip
    exact store_ok' hf hN h
  | tup is =>
    cases e <;> first | (simp [tgB] at h; done) | skip
    rename_i elts kk pp
    obtain ⟨h1, h2⟩ := stores_ok hf hN h
    have hts : ∀ e ∈ elts, ∀ e' q, e ≠ Expr.Starred e' q := fun e he => by
      obtain ⟨n, hn, rfl⟩ := List.getElem_of_mem he
      have hn' : n < is.length := by rw [h1]; exact hn
      have hz : n < (is.zip elts).length := by rw [List.length_zip]; exact Nat.lt_min.mpr ⟨hn', hn⟩
      have := (h2 _ (List.getElem_mem hz)).2
      rw [List.getElem_zip] at this
      exact this
    have el := each_len (env := X.env) hts
    exact pg_tup (n := is.length) hc (pgs_names h1 h2) (by rw [el.1, h1]) el.2
theorem super_ok {X : Cx} {o : Expr} {m : Str} (h : notSuper o = true) : attributeBase o m X.env (eval o X.env) = eval o X.env := base_of fun p q z => by
  subst z
  simp [notSuper] at h
/-- a def called by values -/
theorem Good.call {T : Tab} {cl : Cl} {n : Nat} {X : Cx} (g : Good T cl n X) {f : Nat} {d : Fn} (hf : T.fns[f]? = some d) : ∃ addr, X.mg d.name = some (.ref addr) ∧ PySem.W.keepIn X.K (.ref addr) = true ∧
    ∀ (pins : List (Addr × Obj)) (s : Shared) (σ : L2.St) (H : Hp) (us : List Value) (vs : List V) (Q : VK), L2.Inv X pins σ H s → Vals vs us → tP X.K (cl f) vs H Q → wpAny (model X.prog X.w) X.A (PySem.call (.ref addr) us) (EP X pins σ Q) X.xe s := by
  obtain ⟨addr, fd, ps, h1, h2, h3, h4, h5⟩ := g.fn f d hf
  refine ⟨addr, h1, h2, fun pins s σ H us vs Q I r h => ?_⟩
  have hl : vs.length = ps.length := by
    obtain ⟨F, G, ρ, S, rs, r', S', s', q, e, _⟩ := h
    rw [← rvs_len q, h4.1]; exact g.len f d rs S _ hf e
  have hlu : (us ++ []).length = ps.length := by rw [List.append_nil, ← r.length]; exact hl
  have hb := h3 s us I.kIn hlu
  rw [List.append_nil] at hb
  refine wpAny_call (codeAny_mono (h5.run X.A X.stack s H ⟨us, []⟩ us vs Q g.room g.gd I.env0 hb r hl h) fun res s' hq => ?_)
  cases res with
  | error e => exact (show False from hq).elim
  | ok fl =>
    cases fl with
    | ret u => exact I.after hq
    | next => exact False.elim hq
    | brk => exact False.elim hq
    | cont => exact False.elim hq
theorem any_back {env : PySem.Env} {pos : Pos} : ∀ (l : List Expr), (∀ e ∈ l, ∀ y q, e ≠ .Starred y q) → (backTo pos (starEach l env)).any (·.1) = false
  | [], _ => rfl
  | x :: xs, h => by
    rw [star1 (h x List.mem_cons_self)]
    show (false || (backTo pos (starEach xs env)).any (·.1)) = false
    rw [any_back xs fun e he => h e (List.mem_cons_of_mem _ he)]
    rfl
theorem e_call0 {T : Tab} {cl : Cl} {n : Nat} {X : Cx} (g : Good T cl n X) {f : Nat} {d : Fn} (hf : T.fns[f]? = some d) {p pos : Pos} (hg : Gl X d.name) (hdb : (d.name == ("__debug__" : Str)) = false) :
    PE X (.Call (.Name d.name p) [] [] pos) (tE X.K fun L S => okOr (some (([] : List R), S)) fun (rs, S1) => cl f rs S1) := by
  obtain ⟨addr, h1, h2, h3⟩ := g.call hf
  refine ⟨fun pins s σ H Q I h => ?_⟩
  refine wpAny_Call_Name_kw (ld_glob I hg h1 ?_ hdb)
  obtain ⟨F, G, ρ, S, L, r, S', s', l, e, q⟩ := h
  exact PySem.W.callWith_K0 I.kIn h2 (h3 pins s σ H [] [] Q I .nil ⟨F, G, ρ, S, [], r, S', s', .nil, e, q⟩)
theorem e_call {T : Tab} {cl : Cl} {n : Nat} {X : Cx} (g : Good T cl n X) {f : Nat} {d : Fn} (hf : T.fns[f]? = some d) {p pos : Pos} {e : Expr} {es : List Expr} {eas : Evs} (hg : Gl X d.name) (hdb : (d.name == ("__debug__" : Str)) = false) (ha : PA X (e :: es) (tA X.K eas))
    (hst : ∀ x ∈ e :: es, ∀ y q, x ≠ .Starred y q) : PE X (.Call (.Name d.name p) (e :: es) [] pos) (tE X.K fun L S => okOr (eas L S) fun (rs, S1) => cl f rs S1) := by
  obtain ⟨addr, h1, h2, h3⟩ := g.call hf
  have fin : ∀ {σ : L2.St} {H : Hp} {Q : VK}, tE X.K (fun L S => okOr (eas L S) fun (rs, S1) => cl f rs S1) σ H Q → tA X.K eas σ H fun vs H1 => tP X.K (cl f) vs H1 Q := fun {σ H Q} h => by
    obtain ⟨F, G, ρ, S, L, r, S', s, l, e, q⟩ := h
    obtain ⟨⟨rs, S1⟩, e1, e⟩ := okOr_some e
    exact ⟨F, G, ρ, S, L, rs, S1, s, l, e1, fun G1 ρ1 H1 vs g1 p1 s1 q1 => ⟨F, G1, ρ1, S1, rs, r, S', s1, q1, e, q.mono g1 p1⟩⟩
  refine ⟨fun pins s σ H Q I h => ?_⟩
  refine wpAny_Call_Name_kw (ld_glob I hg h1 ?_ hdb)
  refine PySem.W.callWith_K (h₀ := X.base) I.ok.mod.kin h2 (thn (ha.run pos pins s σ H _ I (fin h)) fun us s1 ⟨vs, H1, I1, r, q⟩ => ⟨I1.kIn, ?_⟩) (star1 (hst e List.mem_cons_self) es) (any_back es fun x hx => hst x (List.mem_cons_of_mem _ hx))
  exact h3 pins s1 σ H1 us vs Q I1 r q
/-- a def of one parameter, called by its name -/
theorem e_callK {T : Tab} {cl : Cl} {n : Nat} {X : Cx} (g : Good T cl n X) {f : Nat} {d : Fn} (hf : T.fns[f]? = some d) {p pos kpos : Pos} {z : Str} {e : Expr} {ea : Ev} (hg : Gl X d.name) (hdb : (d.name == ("__debug__" : Str)) = false) (hz : d.names.take d.np = [z]) (ha : PE X e (tE X.K ea)) :
    PE X (.Call (.Name d.name p) [] [⟨some z, e, kpos⟩] pos) (tE X.K fun L S => okOr (ea L S) fun (x, S1) => cl f [x] S1) := by
  obtain ⟨addr, fd, ps, h1, h2, h3, h4, h5⟩ := g.fn f d hf
  refine ⟨fun pins s σ H Q I h => ?_⟩
  refine wpAny_Call_Name_kw (ld_glob I hg h1 ?_ hdb)
  have h' : ea = ea := rfl
  refine PySem.W.callWith_KW0 (h₀ := X.base) I.ok.mod.kin h2 rfl ?_ rfl
  obtain ⟨F, G, ρ, S, L, r, S', s', l, ev, q⟩ := h
  obtain ⟨⟨x, S1⟩, e1, ev⟩ := okOr_some ev
  have hl := g.len f d [x] S1 _ hf ev
  have ht : tCons (tE X.K ea) tNil σ H fun vs H1 => ∃ v, vs = [v] ∧ tP X.K (cl f) [v] H1 Q :=
    ⟨F, G, ρ, S, L, x, S1, s', l, e1, fun G1 ρ1 H1 v1 g1 p1 s1 q1 => ⟨v1, rfl, F, G1, ρ1, S1, [x], r, S', s1, .cons q1 .nil, ev, q.mono g1 p1⟩⟩
  refine thn ((pk_cons (nm := some z) (kpos := kpos) ha pk_nil).run pos pins s σ H _ I ht) fun ws s2 ⟨zs, H2, I2, rz, v, ev', q2⟩ => ⟨I2.kIn, ?_⟩
  subst ev'
  obtain ⟨u, rfl, ru⟩ := vals1 rz
  have hp : ps = [z] := h4.2.trans hz
  refine wpAny_call (codeAny_mono (h5.run X.A X.stack s2 H2 ⟨[], [(z, u)]⟩ [u] [v] Q g.room g.gd I2.env0 (by rw [hp]; exact h5.kw z hp s2 u) (.cons ru .nil) (by rw [hp]; rfl) q2) fun res s' hq => ?_)
  cases res with
  | error e => exact (show False from hq).elim
  | ok fl =>
    cases fl <;> first | exact I2.after hq | exact False.elim hq
end PL

set_option maxHeartbeats 8000000
namespace PL
open PySem PySem.Spec PyProof.Rows L2
theorem band {a b : Bool} (h : (a && b) = true) : a = true ∧ b = true := Bool.and_eq_true_iff.mp h
theorem keys_ok {X : Cx} {pos : Pos} : ∀ {ks : List Str} {keys : List (Option Expr)} {vals : List Expr} {evs : List Ev}, keysB ks keys = true → keys.length = vals.length → List.length evs = vals.length → (∀ p ∈ vals.zip evs, PE X p.1 (tE X.K p.2)) →
    PPs X pos keys vals ((ks.zip evs).map fun p => pairE (X := X) p.1 p.2) ∧ keys.all (·.isSome) = true ∧ ks.length = keys.length
  | [], [], vals, evs, _, h1, h2, _ => by
    cases vals with
    | cons _ _ => simp at h1
    | nil => cases evs with
      | cons _ _ => simp at h2
      | nil => exact ⟨pps_nil, rfl, rfl⟩
  | [], _ :: _, _, _, h, _, _, _ => by simp [keysB] at h
  | _ :: _, [], _, _, h, _, _, _ => by simp [keysB] at h
  | k :: ks, none :: keys, vals, evs, h, _, _, _ => by simp [keysB] at h
  | k :: ks, some x :: keys, vals, evs, h, h1, h2, h3 => by
    cases x <;> first | (simp [keysB] at h; done) | skip
    rename_i c j p
    cases c <;> first | (simp [keysB] at h; done) | skip
    rename_i y
    simp only [keysB, Bool.and_eq_true, decide_eq_true_eq] at h
    obtain ⟨rfl, h⟩ := h
    cases vals with
    | nil => simp at h1
    | cons v vals =>
      cases evs with
      | nil => simp at h2
      | cons ev evs =>
        obtain ⟨a1, a2, a3⟩ := keys_ok (pos := pos) (ks := ks) (keys := keys) (vals := vals) (evs := evs) h (by simpa using h1) (by simpa using h2) fun p hp => h3 p (List.mem_cons_of_mem _ hp)
        exact ⟨pps_cons pe_str (h3 (v, ev) List.mem_cons_self) a1, by rw [List.all_cons, a2]; rfl, congrArg Nat.succ a3⟩
/-- the evaluations of a list's parts -/
def evL (cl : Cl) : Es → List Ev
  | .nil => []
  | .cons e es => evE cl e :: evL cl es
theorem evL_fold (cl : Cl) : ∀ es : Es, ((evL cl es).foldr (fun (e : Ev) (k : Evs) => fun L S => okOr (e L S) fun (x, S1) => okOr (k L S1) fun (xs, S2) => some (x :: xs, S2)) (fun _ S => some ([], S))) = evEs cl es
  | .nil => rfl
  | .cons e es => by
    rw [evL, List.foldr_cons, evL_fold cl es]
    rfl
theorem inv_comp {own : List Nat} {N : List Str} {sc scope : Scope} (h : blkC N sc scope (own.map fun i => (N.getD i Str.empty, i)) = true) : BlkOk N sc scope (own.map fun i => (N.getD i Str.empty, i)) ∧ (own.map fun i => (N.getD i Str.empty, i)).map (·.2) = own := by
  refine ⟨blkOk_by h, ?_⟩
  rw [List.map_map]
  exact (List.map_congr_left fun i _ => rfl).trans (List.map_id own)
section
variable {T : Tab} {cl : Cl} {n : Nat}
mutual
theorem sE : ∀ (e : E) (X : Cx) (x : Expr), Good T cl n X → ckE T X.N X.env.scope e x = true → PE X x (tE X.K (evE cl e)) ∧ PT X x (tT X.K (tstE (evE cl e)))
  | .loc i, X, x, g, h => by
    cases x <;> first | (simp [ckE] at h; done) | skip
    simp only [ckE, nameB, Bool.and_eq_true, decide_eq_true_eq, Bool.not_eq_true'] at h
    have hp := e_loc (pos := by assumption) h.1.1.1 (vis_ok h.1.1.2) h.1.2 h.2
    exact ⟨hp, p_val hp fun _ => rfl⟩
  | .int i, X, x, g, h => by
    cases x <;> first | (simp [ckE] at h; done) | skip
    rename_i c k p
    cases c <;> first | (simp [ckE] at h; done) | skip
    simp only [ckE, decide_eq_true_eq] at h
    subst h
    have hp := e_const (pe_int (X := X) (i := i) (j := k) (pos := p)) (d := .int i) fun _ => .int i
    exact ⟨hp, p_val hp fun _ => rfl⟩
  | .str i, X, x, g, h => by
    cases x <;> first | (simp [ckE] at h; done) | skip
    rename_i c k p
    cases c <;> first | (simp [ckE] at h; done) | skip
    simp only [ckE, decide_eq_true_eq] at h
    subst h
    have hp := e_const (pe_str (X := X) (x := i) (j := k) (pos := p)) (d := .str i) fun _ => .str i
    exact ⟨hp, p_val hp fun _ => rfl⟩
  | .bl i, X, x, g, h => by
    cases x <;> first | (simp [ckE] at h; done) | skip
    rename_i c k p
    cases c <;> first | (simp [ckE] at h; done) | skip
    simp only [ckE, decide_eq_true_eq] at h
    subst h
    have hp := e_const (pe_bl (X := X) (b := i) (j := k) (pos := p)) (d := .bool i) fun _ => .bl i
    exact ⟨hp, p_val hp fun _ => rfl⟩
  | .non, X, x, g, h => by
    cases x <;> first | (simp [ckE] at h; done) | skip
    rename_i c k p
    cases c <;> first | (simp [ckE] at h; done) | skip
    have hp := e_const (pe_non (X := X) (j := k) (pos := p)) (d := .none) fun _ => .non
    exact ⟨hp, p_val hp fun _ => rfl⟩
  | .gd y d, X, x, g, h => by
    cases x <;> first | (simp [ckE] at h; done) | skip
    rename_i z p
    simp only [ckE, Bool.and_eq_true, decide_eq_true_eq, List.any_eq_true] at h
    obtain ⟨⟨rfl, h2⟩, q, hq, e1, e2⟩ := h
    obtain ⟨hg, hd⟩ := gl_ok h2
    obtain ⟨u, v, h3, h4, h5⟩ := g.glob q hq
    rw [e1] at h3
    rw [dEq_eq _ _ e2] at h5
    have hp := e_const (pe_glob (pos := p) hg h3 h4 hd) h5
    exact ⟨hp, p_val hp fun _ => rfl⟩
  | .bin op a b, X, x, g, h => by
    cases x <;> first | (simp [ckE] at h; done) | skip
    simp only [ckE, Bool.and_eq_true, decide_eq_true_eq] at h
    obtain ⟨⟨rfl, h1⟩, h2⟩ := h
    have hp := e_bin (op := op) (pos := by assumption) (sE a X _ g h1).1 (sE b X _ g h2).1
    exact ⟨hp, p_val hp fun _ => rfl⟩
  | .cmp op a b, X, x, g, h => by
    cases x <;> first | (simp [ckE] at h; done) | skip
    rename_i l ops cs p
    match ops, cs, h with
    | [o], [r], h =>
      simp only [ckE, Bool.and_eq_true, decide_eq_true_eq, Bool.not_eq_true'] at h
      obtain ⟨⟨⟨rfl, h1⟩, h2⟩, h3⟩ := h
      exact ⟨e_cmp g.un (sE a X _ g h1).1 (sE b X _ g h2).1 h3, p_cmp g.un (sE a X _ g h1).1 (sE b X _ g h2).1 h3⟩
  | .cmp2 o p a b c, X, x, g, h => by
    cases x <;> first | (simp [ckE] at h; done) | skip
    rename_i l ops cs pp
    match ops, cs, h with
    | [o', p'], [y, z], h =>
      simp only [ckE, Bool.and_eq_true, decide_eq_true_eq, Bool.not_eq_true'] at h
      obtain ⟨⟨⟨⟨⟨rfl, rfl⟩, h1⟩, h2⟩, h3⟩, h4⟩ := h
      exact ⟨e_cmp2 g.un (sE a X _ g h1).1 (sE b X _ g h2).1 (sE c X _ g h3).1 h4, p_cmp2 g.un (sE a X _ g h1).1 (sE b X _ g h2).1 (sE c X _ g h3).1 h4⟩
  | .bop k a r, X, x, g, h => by
    cases x <;> first | (simp [ckE] at h; done) | skip
    rename_i op xs p
    match op, xs, h with
    | .And, y :: ys, h =>
      simp only [ckE, Bool.and_eq_true] at h
      obtain ⟨⟨rfl, h1⟩, h2⟩ := h
      have ha := sE a X _ g h1
      have hb := sAnd r X y ys p (evE cl a) g ha.1 ha.2 h2
      exact ⟨hb.1, hb.2.pt⟩
    | .Or, y :: ys, h =>
      simp only [ckE, Bool.and_eq_true, Bool.not_eq_true'] at h
      obtain ⟨⟨rfl, h1⟩, h2⟩ := h
      have ha := sE a X _ g h1
      have hb := sOr r X y ys p (evE cl a) g ha.1 ha.2 h2
      exact ⟨hb.1, hb.2.pt⟩
  | .not a, X, x, g, h => by
    cases x <;> first | (simp [ckE] at h; done) | skip
    rename_i op y p
    cases op <;> first | (simp [ckE] at h; done) | skip
    simp only [ckE] at h
    exact ⟨e_not (sE a X _ g h).1, p_not (sE a X _ g h).2⟩
  | .neg a, X, x, g, h => by
    cases x <;> first | (simp [ckE] at h; done) | skip
    rename_i op y p
    cases op <;> first | (simp [ckE] at h; done) | skip
    simp only [ckE] at h
    have hp := e_neg (pos := p) (sE a X _ g h).1
    exact ⟨hp, p_val hp fun _ => rfl⟩
  | .ite c a b, X, x, g, h => by
    cases x <;> first | (simp [ckE] at h; done) | skip
    simp only [ckE, Bool.and_eq_true] at h
    obtain ⟨⟨h1, h2⟩, h3⟩ := h
    exact ⟨e_ite (sE c X _ g h1).2 (sE a X _ g h2).1 (sE b X _ g h3).1, p_ite (sE c X _ g h1).2 (sE a X _ g h2).2 (sE b X _ g h3).2⟩
  | .tup es, X, x, g, h => by
    cases x <;> first | (simp [ckE] at h; done) | skip
    simp only [ckE] at h
    rename_i k p
    have hp := e_tup (k := k) (pos := p) (sEs es X _ g h).1
    exact ⟨hp, p_val hp fun _ => rfl⟩
  | .lst es, X, x, g, h => by
    cases x <;> first | (simp [ckE] at h; done) | skip
    simp only [ckE] at h
    rename_i p
    have hp := e_lst (pos := p) (sEs es X _ g h).1
    exact ⟨hp, p_val hp fun _ => rfl⟩
  | .lstR es, X, x, g, h => by
    cases x <;> first | (simp [ckE] at h; done) | skip
    simp only [ckE] at h
    rename_i p
    have hp := e_lstR (pos := p) (sEs es X _ g h).1
    exact ⟨hp, p_val hp fun _ => rfl⟩
  | .dic0, X, x, g, h => by
    cases x <;> first | (simp [ckE] at h; done) | skip
    rename_i ks vs p
    match ks, vs, h with
    | [], [], h =>
      have hp := e_dic0 (X := X) (pos := p)
      exact ⟨hp, p_val hp fun _ => rfl⟩
  | .dic ks es, X, x, g, h => by
    cases x <;> first | (simp [ckE] at h; done) | skip
    rename_i keys vals p
    simp only [ckE, Bool.and_eq_true, decide_eq_true_eq] at h
    obtain ⟨⟨⟨⟨h1, h2⟩, h3⟩, h4⟩, h5⟩ := h
    obtain ⟨q1, q2⟩ := sL es X vals g h2
    obtain ⟨k1, k2, k3⟩ := keys_ok (pos := p) h1 h3 q1 q2
    have hp := e_dic k1 k2 h3 (by intro z; subst z; simp at h5) h4 (by rw [k3, h3, q1])
    rw [evL_fold] at hp
    exact ⟨hp, p_val hp fun _ => rfl⟩
  | .ix a i, X, x, g, h => by
    cases x <;> first | (simp [ckE] at h; done) | skip
    rename_i y z p
    simp only [ckE, Bool.and_eq_true] at h
    have hp := e_ix (pos := p) g.un1 (sE a X _ g h.1).1 (sE i X _ g h.2).1 (ck_slice h.2)
    exact ⟨hp, p_val hp fun _ => rfl⟩
  | .sl a lo hi, X, x, g, h => by
    cases x <;> first | (simp [ckE] at h; done) | skip
    rename_i y z p
    cases z <;> first | (simp [ckE] at h; done) | skip
    rename_i l hh st p2
    cases st with
    | some _ => simp [ckE] at h
    | none =>
      simp only [ckE, Bool.and_eq_true] at h
      have hp := e_sl (pos := p) (p2 := p2) (sE a X _ g h.1.1).1 (sO lo X _ g h.1.2) (sO hi X _ g h.2)
      exact ⟨hp, p_val hp fun _ => rfl⟩
  | .bi b a, X, x, g, h => by
    cases x <;> first | (simp [ckE] at h; done) | skip
    rename_i fe args kws p
    cases fe <;> first | (simp [ckE] at h; done) | skip
    rename_i nm p2
    match args, kws, h with
    | [y], [], h =>
      simp only [ckE, Bool.and_eq_true, decide_eq_true_eq] at h
      obtain ⟨⟨rfl, h2⟩, h3⟩ := h
      have hm : X.mg b.name = none := g.free _ (by cases b <;> simp [freeNames, Bi.name])
      have hp := e_bi (pos := p) b g.calm g.gd g.un (p := p2) (gl_ok h2).1 hm (sE a X _ g h3).1 (ck_star h3)
      exact ⟨hp, p_val hp fun _ => rfl⟩
  | .isi t a, X, x, g, h => by
    cases x <;> first | (simp [ckE] at h; done) | skip
    rename_i fe args kws p
    cases fe <;> first | (simp [ckE] at h; done) | skip
    rename_i nm p2
    match args, kws, h with
    | [y, .Name z p3], [], h =>
      simp only [ckE, Bool.and_eq_true, decide_eq_true_eq] at h
      obtain ⟨⟨⟨⟨rfl, h2⟩, rfl⟩, h3⟩, h4⟩ := h
      have hp := e_isi (pos := p) t (p := p2) (p2 := p3) (gl_ok h2).1 (g.free _ (by simp [freeNames])) (gl_ok h3).1 (g.free _ (by cases t <;> simp [freeNames, Ty.nm, Ty.name])) (sE a X _ g h4).1 (ck_star h4)
      exact ⟨hp, p_val hp fun _ => rfl⟩
  | .call f es, X, x, g, h => by
    cases x <;> first | (simp [ckE] at h; done) | skip
    rename_i fe args kws p
    cases fe <;> first | (simp [ckE] at h; done) | skip
    rename_i nm p2
    cases kws with
    | cons _ _ => simp [ckE] at h
    | nil =>
      simp only [ckE, Bool.and_eq_true] at h
      obtain ⟨⟨h1, h2⟩, h3⟩ := h
      cases hf : T.fns[f]? with
      | none => rw [hf] at h1; cases h1
      | some d =>
        rw [hf] at h1
        have hn : d.name = nm := of_decide_eq_true h1
        subst hn
        obtain ⟨q1, q2⟩ := sEs es X args g h3
        obtain ⟨hg, hd⟩ := gl_ok h2
        cases args with
        | nil =>
          cases es with
          | cons _ _ => simp [ckEs] at h3
          | nil =>
            have hp := e_call0 (pos := p) (p := p2) g hf hg hd
            exact ⟨hp, p_val hp fun _ => rfl⟩
        | cons y ys =>
          have hp := e_call (pos := p) (p := p2) g hf hg hd q1 q2
          exact ⟨hp, p_val hp fun _ => rfl⟩
  | .comp own tg it cs e, X, x, g, h => by
    cases x <;> first | (simp [ckE] at h; done) | skip
    rename_i elt gens scope p
    match gens, h with
    | [⟨t, i, ifs, z⟩], h =>
      simp only [ckE, Bool.and_eq_true, decide_eq_true_eq] at h
      obtain ⟨⟨⟨⟨⟨⟨rfl, h1⟩, h2⟩, h3⟩, h4⟩, h5⟩, h6⟩ := h
      obtain ⟨b1, b2⟩ := inv_comp h1
      obtain ⟨i1, i2⟩ := sI it X i t g h4
      have hp := pe_lc (pos := p) (g := gT X.K tg) (tt := tT X.K (evT cl cs)) (te := tE X.K (evE cl e)) g.calm g.nd i1 b1
        (fun s H C c2 fp => tgB_ok (X := X.blk s H scope (compEnvC scope c2 C X.env) fp) (fun _ hx => hx) g.nd g.calm h3)
        (fun s H C c2 fp => sT cs (X.blk s H scope (compEnvC scope c2 C X.env) fp) ifs (g.blk s H scope _ fp) h5)
        (fun s H C c2 fp => (sE e (X.blk s H scope (compEnvC scope c2 C X.env) fp) elt (g.blk s H scope _ fp) h6).1) i2
      rw [b2] at hp
      have hq := PE.weak hp fun σ H Q hh => lc_read (fin := finD) (fun j hj => by simpa using List.all_eq_true.mp h2 j hj) fin_d hh
      exact ⟨hq, p_val hq fun _ => rfl⟩
  | .compR own tg it cs e, X, x, g, h => by
    cases x <;> first | (simp [ckE] at h; done) | skip
    rename_i elt gens scope p
    match gens, h with
    | [⟨t, i, ifs, z⟩], h =>
      simp only [ckE, Bool.and_eq_true, decide_eq_true_eq] at h
      obtain ⟨⟨⟨⟨⟨⟨rfl, h1⟩, h2⟩, h3⟩, h4⟩, h5⟩, h6⟩ := h
      obtain ⟨b1, b2⟩ := inv_comp h1
      obtain ⟨i1, i2⟩ := sI it X i t g h4
      have hp := pe_lc (pos := p) (g := gT X.K tg) (tt := tT X.K (evT cl cs)) (te := tE X.K (evE cl e)) g.calm g.nd i1 b1
        (fun s H C c2 fp => tgB_ok (X := X.blk s H scope (compEnvC scope c2 C X.env) fp) (fun _ hx => hx) g.nd g.calm h3)
        (fun s H C c2 fp => sT cs (X.blk s H scope (compEnvC scope c2 C X.env) fp) ifs (g.blk s H scope _ fp) h5)
        (fun s H C c2 fp => (sE e (X.blk s H scope (compEnvC scope c2 C X.env) fp) elt (g.blk s H scope _ fp) h6).1) i2
      rw [b2] at hp
      have hq := PE.weak hp fun σ H Q hh => lc_read (fin := finR) (fun j hj => by simpa using List.all_eq_true.mp h2 j hj) fin_r hh
      exact ⟨hq, p_val hq fun _ => rfl⟩
  | .get2 d k e, X, x, g, h => by
    cases x <;> first | (simp [ckE] at h; done) | skip
    rename_i fe args kws p
    cases fe <;> first | (simp [ckE] at h; done) | skip
    rename_i o m ap
    match args, kws, h with
    | [y, z], [], h =>
      simp only [ckE, Bool.and_eq_true, decide_eq_true_eq] at h
      obtain ⟨⟨⟨⟨⟨rfl, h1⟩, h2⟩, h3⟩, h4⟩, h5⟩ := h
      have hp := e_get2 g.un1 (sE d X _ g h3).1 (sE k X _ g h4).1 (sE e X _ g h5).1 (m2_of (super_ok h2) h1 (ck_star h4) (ck_star h5))
      exact ⟨hp, p_val hp fun _ => rfl⟩
  | .app a e, X, x, g, h => by
    cases x <;> first | (simp [ckE] at h; done) | skip
    rename_i fe args kws p
    cases fe <;> first | (simp [ckE] at h; done) | skip
    rename_i o m ap
    match args, kws, h with
    | [y], [], h =>
      simp only [ckE, Bool.and_eq_true, decide_eq_true_eq] at h
      obtain ⟨⟨⟨⟨rfl, h1⟩, h2⟩, h3⟩, h4⟩ := h
      have hp := e_app (sE a X _ g h3).1 (sE e X _ g h4).1 (super_ok h2) h1 (ck_star h4)
      exact ⟨hp, p_val hp fun _ => rfl⟩
  | .ext a e, X, x, g, h => by
    cases x <;> first | (simp [ckE] at h; done) | skip
    rename_i fe args kws p
    cases fe <;> first | (simp [ckE] at h; done) | skip
    rename_i o m ap
    match args, kws, h with
    | [y], [], h =>
      simp only [ckE, Bool.and_eq_true, decide_eq_true_eq] at h
      obtain ⟨⟨⟨⟨rfl, h1⟩, h2⟩, h3⟩, h4⟩ := h
      have hp := e_ext (sE a X _ g h3).1 (sE e X _ g h4).1 (super_ok h2) h1 (ck_star h4)
      exact ⟨hp, p_val hp fun _ => rfl⟩
  | .join a e, X, x, g, h => by
    cases x <;> first | (simp [ckE] at h; done) | skip
    rename_i fe args kws p
    cases fe <;> first | (simp [ckE] at h; done) | skip
    rename_i o m ap
    match args, kws, h with
    | [y], [], h =>
      simp only [ckE, Bool.and_eq_true, decide_eq_true_eq] at h
      obtain ⟨⟨⟨⟨rfl, h1⟩, h2⟩, h3⟩, h4⟩ := h
      have hp := e_join (sE a X _ g h3).1 (sE e X _ g h4).1 (super_ok h2) h1 (ck_star h4)
      exact ⟨hp, p_val hp fun _ => rfl⟩
  | .gget y tab k, X, x, g, h => by
    cases x <;> first | (simp [ckE] at h; done) | skip
    rename_i fe args kws p
    cases fe <;> first | (simp [ckE] at h; done) | skip
    rename_i o m ap
    cases o <;> first | (simp [ckE] at h; done) | skip
    rename_i z p2
    match args, kws, h with
    | [w], [], h =>
      simp only [ckE, Bool.and_eq_true, decide_eq_true_eq, List.any_eq_true] at h
      obtain ⟨⟨⟨⟨⟨rfl, rfl⟩, h1⟩, h2⟩, q, hq, e1, e2⟩, h4⟩ := h
      obtain ⟨hg, hd⟩ := gl_ok h2
      obtain ⟨addr, h5, h6⟩ := g.gdict q hq
      rw [e1] at h5
      rw [tabEq_eq _ _ e2] at h6
      have hp := e_gget (pos := p) (p := p2) hg h5 hd h6 (sE k X _ g h4).1 (m1_of rfl h1 (ck_star h4))
      exact ⟨hp, p_val hp fun _ => rfl⟩
  | .callK f y e, X, x, g, h => by
    cases x <;> first | (simp [ckE] at h; done) | skip
    rename_i fe args kws p
    cases fe <;> first | (simp [ckE] at h; done) | skip
    rename_i nm p2
    match args, kws, h with
    | [], [⟨some z, v, kp⟩], h =>
      simp only [ckE, Bool.and_eq_true, decide_eq_true_eq] at h
      obtain ⟨⟨⟨h1, h2⟩, rfl⟩, h3⟩ := h
      cases hf : T.fns[f]? with
      | none => rw [hf] at h1; cases h1
      | some d =>
        rw [hf] at h1
        dsimp only at h1
        rw [Bool.and_eq_true, decide_eq_true_eq, decide_eq_true_eq] at h1
        obtain ⟨rfl, hz⟩ := h1
        obtain ⟨hg, hd⟩ := gl_ok h2
        have hp := e_callK (pos := p) (p := p2) (kpos := kp) g hf hg hd hz (sE e X _ g h3).1
        exact ⟨hp, p_val hp fun _ => rfl⟩
theorem sAnd : ∀ (es : Es) (X : Cx) (x : Expr) (xs : List Expr) (pos : Pos) (ex : Ev), Good T cl n X → PE X x (tE X.K ex) → PT X x (tT X.K (tstE ex)) → ckEs T X.N X.env.scope es xs = true →
    PE X (.BoolOp .And (x :: xs) pos) (tE X.K (evBop true ex (evB cl true es))) ∧ PW X (.BoolOp .And (x :: xs) pos) (tT X.K (tstE (evBop true ex (evB cl true es))))
  | .nil, X, x, xs, pos, ex, g, h1, h2, h => by
    cases xs with
    | cons _ _ => simp [ckEs] at h
    | nil => exact ⟨e_bop1 h1, p_and1 h2⟩
  | .cons e es, X, x, xs, pos, ex, g, h1, h2, h => by
    cases xs with
    | nil => simp [ckEs] at h
    | cons y ys =>
      simp only [ckEs, Bool.and_eq_true] at h
      have ha := sE e X y g h.1
      have hb := sAnd es X y ys pos (evE cl e) g ha.1 ha.2 h.2
      exact ⟨e_and h1 hb.1, p_and h2 hb.2⟩
theorem sOr : ∀ (es : Es) (X : Cx) (x : Expr) (xs : List Expr) (pos : Pos) (ex : Ev), Good T cl n X → PE X x (tE X.K ex) → PT X x (tT X.K (tstE ex)) → ckEs T X.N X.env.scope es xs = true →
    PE X (.BoolOp .Or (x :: xs) pos) (tE X.K (evBop false ex (evB cl false es))) ∧ PW X (.BoolOp .Or (x :: xs) pos) (tT X.K (tstE (evBop false ex (evB cl false es))))
  | .nil, X, x, xs, pos, ex, g, h1, h2, h => by
    cases xs with
    | cons _ _ => simp [ckEs] at h
    | nil => exact ⟨e_bop1 h1, p_or1 h2⟩
  | .cons e es, X, x, xs, pos, ex, g, h1, h2, h => by
    cases xs with
    | nil => simp [ckEs] at h
    | cons y ys =>
      simp only [ckEs, Bool.and_eq_true] at h
      have ha := sE e X y g h.1
      have hb := sOr es X y ys pos (evE cl e) g ha.1 ha.2 h.2
      exact ⟨e_or h1 hb.1, p_or h2 hb.2⟩
theorem sEs : ∀ (es : Es) (X : Cx) (xs : List Expr), Good T cl n X → ckEs T X.N X.env.scope es xs = true → PA X xs (tA X.K (evEs cl es)) ∧ ∀ x ∈ xs, ∀ y p, x ≠ .Starred y p
  | .nil, X, xs, g, h => by
    cases xs with
    | cons _ _ => simp [ckEs] at h
    | nil => exact ⟨a_nil, fun x hx => by simp at hx⟩
  | .cons e es, X, xs, g, h => by
    cases xs with
    | nil => simp [ckEs] at h
    | cons y ys =>
      simp only [ckEs, Bool.and_eq_true] at h
      obtain ⟨q1, q2⟩ := sEs es X ys g h.2
      refine ⟨a_cons (sE e X y g h.1).1 q1 (star1 (ck_star h.1) ys), fun x hx => ?_⟩
      rcases List.mem_cons.mp hx with e | hx
      · rw [e]; exact ck_star h.1
      · exact q2 x hx
theorem sL : ∀ (es : Es) (X : Cx) (xs : List Expr), Good T cl n X → ckEs T X.N X.env.scope es xs = true → List.length (evL cl es) = xs.length ∧ ∀ p ∈ xs.zip (evL cl es), PE X p.1 (tE X.K p.2)
  | .nil, X, xs, g, h => by
    cases xs with
    | cons _ _ => simp [ckEs] at h
    | nil => exact ⟨rfl, fun x hx => by simp [evL] at hx⟩
  | .cons e es, X, xs, g, h => by
    cases xs with
    | nil => simp [ckEs] at h
    | cons y ys =>
      simp only [ckEs, Bool.and_eq_true] at h
      obtain ⟨q1, q2⟩ := sL es X ys g h.2
      refine ⟨congrArg Nat.succ q1, fun p hp => ?_⟩
      rcases List.mem_cons.mp (show p ∈ (y, evE cl e) :: ys.zip (evL cl es) from hp) with z | hp
      · rw [z]; exact (sE e X y g h.1).1
      · exact q2 p hp
theorem sT : ∀ (es : Es) (X : Cx) (xs : List Expr), Good T cl n X → ckEs T X.N X.env.scope es xs = true → PTs X xs (tT X.K (evT cl es))
  | .nil, X, xs, g, h => by
    cases xs with
    | cons _ _ => simp [ckEs] at h
    | nil =>
      refine ⟨fun pins s σ H Q I hh => pts_nil.run pins s σ H Q I ?_⟩
      obtain ⟨F, G, ρ, S, L, b, S', s', l, e, q⟩ := hh
      obtain ⟨rfl, rfl⟩ := res_eq e
      exact q G ρ H (Same.refl _) (List.prefix_refl _) s'
  | .cons e .nil, X, xs, g, h => by
    cases xs with
    | nil => simp [ckEs] at h
    | cons y ys =>
      cases ys with
      | cons _ _ => simp [ckEs] at h
      | nil =>
        simp only [ckEs, Bool.and_eq_true] at h
        exact pts_one (sE e X y g h.1).2
  | .cons e (.cons e2 es), X, xs, g, h => by
    refine ⟨fun pins s σ H Q I hh => ?_⟩
    obtain ⟨F, G, ρ, S, L, b, S', s', l, e, q⟩ := hh
    cases e
theorem sO : ∀ (o : O) (X : Cx) (x : Option Expr), Good T cl n X → ckO T X.N X.env.scope o x = true → PO X x (tO X.K (evO cl o))
  | .no, X, x, g, h => by
    cases x with
    | some _ => simp [ckO] at h
    | none => exact o_none
  | .so e, X, x, g, h => by
    cases x with
    | none => simp [ckO] at h
    | some y =>
      simp only [ckO] at h
      exact o_some (sE e X y g h).1
theorem sI : ∀ (it : It') (X : Cx) (x t : Expr), Good T cl n X → ckI T X.N X.env.scope it x t = true → PI X t x (tI X.K (evI cl it)) ∧ ∀ v, foldedSetIterable x X.env v = pure v
  | .seq e, X, x, t, g, h => by
    have h' : ckE T X.N X.env.scope e x = true := by simpa only [ckI] using h
    exact ⟨i_seq (sE e X x g h').1, ck_set h'⟩
  | .rng e, X, x, t, g, h => by
    cases x <;> first | (simp [ckI] at h; done) | skip
    rename_i fe args kws p
    cases fe <;> first | (simp [ckI] at h; done) | skip
    rename_i nm p2
    match args, kws, h with
    | [y], [], h =>
      simp only [ckI, Bool.and_eq_true, decide_eq_true_eq] at h
      obtain ⟨⟨rfl, h2⟩, h3⟩ := h
      exact ⟨i_rng (gl_ok h2).1 (g.free _ (by simp [freeNames])) (sE e X y g h3).1 (ck_star h3), fun _ => rfl⟩
  | .zip a b, X, x, t, g, h => by
    cases x <;> first | (simp [ckI] at h; done) | skip
    rename_i fe args kws p
    cases fe <;> first | (simp [ckI] at h; done) | skip
    rename_i nm p2
    match args, kws, h with
    | [y, z], [], h =>
      simp only [ckI, Bool.and_eq_true, decide_eq_true_eq] at h
      obtain ⟨⟨⟨⟨rfl, h2⟩, h3⟩, h4⟩, h5⟩ := h
      cases t <;> first | (simp [isTup] at h5; done) | skip
      exact ⟨i_zip (gl_ok h2).1 (g.free _ (by simp [freeNames])) (sE a X y g h3).1 (sE b X z g h4).1 (ck_star h3) (ck_star h4), fun _ => rfl⟩
  | .enm a, X, x, t, g, h => by
    cases x <;> first | (simp [ckI] at h; done) | skip
    rename_i fe args kws p
    cases fe <;> first | (simp [ckI] at h; done) | skip
    rename_i nm p2
    match args, kws, h with
    | [y], [], h =>
      simp only [ckI, Bool.and_eq_true, decide_eq_true_eq] at h
      obtain ⟨⟨⟨rfl, h2⟩, h3⟩, h5⟩ := h
      cases t <;> first | (simp [isTup] at h5; done) | skip
      exact ⟨i_enm (gl_ok h2).1 (g.free _ (by simp [freeNames])) (sE a X y g h3).1 (ck_star h3), fun _ => rfl⟩
end
end
end PL

set_option maxHeartbeats 4000000
namespace PL
open PySem PySem.Spec PyProof.Rows L2
theorem lookup_zip {α : Type} : ∀ {ps : List Str} {us : List α}, ps.Nodup → us.length = ps.length → ∀ {i : Nat} {x : Str} {u : α}, ps[i]? = some x → us[i]? = some u → (ps.zip us).lookup x = some u
  | [], _, _, _, i, x, u, h, _ => by simp at h
  | p :: ps, [], _, hl, _, _, _, _, _ => by simp at hl
  | p :: ps, w :: us, nd, hl, 0, x, u, h1, h2 => by
    simp at h1 h2; subst h1; subst h2
    simp [List.lookup]
  | p :: ps, w :: us, nd, hl, i + 1, x, u, h1, h2 => by
    have hx : x ≠ p := fun z => by
      subst z
      exact (List.nodup_cons.mp nd).1 (List.mem_of_getElem? (by simpa using h1))
    rw [List.zip_cons_cons, List.lookup_cons]
    have : (x == p) = false := by simpa using hx
    rw [this]
    exact lookup_zip (List.nodup_cons.mp nd).2 (by simpa using hl) (i := i) (by simpa using h1) (by simpa using h2)
theorem filter_zip {α : Type} {qs : List Str} {ws : List α} (nd : qs.Nodup) (hl : ws.length = qs.length) : (qs.filterMap fun n => ((qs.zip ws).lookup n).map (n, ·)) = qs.zip ws := by
  have k : ∀ (ps : List Str) (us : List α), us.length = ps.length → (∀ (i : Nat) (x : Str) (u : α), ps[i]? = some x → us[i]? = some u → (qs.zip ws).lookup x = some u) → (ps.filterMap fun n => ((qs.zip ws).lookup n).map (n, ·)) = ps.zip us := fun ps => by
    induction ps with
    | nil => intro us _ _; rfl
    | cons p ps ih =>
      intro us hl h
      cases us with
      | nil => simp at hl
      | cons u us =>
        rw [List.filterMap_cons, h 0 p u rfl rfl]
        show (p, u) :: _ = _
        rw [ih us (by simpa using hl) fun i x v h1 h2 => h (i + 1) x v (by simpa using h1) (by simpa using h2)]
        rfl
  exact k qs ws hl fun i x u h1 h2 => lookup_zip nd hl h1 h2
theorem bind_plain {name qual : Str} {as : List Arg} {body : List Stmt} {scope : Scope} {kV doc pm : Value} {an : Option Addr} {cdv ct : Value} {us : List Value} (nd : (as.map (·.arg)).Nodup) (hl : us.length = (as.map (·.arg)).length) :
    bindArgs (PySem.W.fnOf name qual ⟨[], as, none, [], [], none, []⟩ body scope .none kV doc pm an cdv ct) ⟨us, []⟩ = pure ((as.map (·.arg)).zip us) := by
  have hmiss : ((as.map (·.arg)).filter fun n => (((as.map (·.arg)).zip us).lookup n).isNone) = [] := by
    rw [List.filter_eq_nil_iff]
    intro x hx
    obtain ⟨i, hi, e⟩ := List.getElem_of_mem hx
    have := lookup_zip nd hl (i := i) (x := x) (u := us[i]'(by rw [hl]; exact hi)) (by rw [List.getElem?_eq_getElem hi, e]) (List.getElem?_eq_getElem _)
    rw [this]; simp
  have hfm := filter_zip nd hl
  have hlt : ¬ (us.length > (as.map (·.arg)).length) := by omega
  unfold bindArgs PySem.W.fnOf
  dsimp only
  generalize as.map (·.arg) = ps at *
  have hle : ¬ (ps.length < us.length) := by omega
  have ht : ps.take ps.length = ps := List.take_length
  simp [hmiss, hfm, hle, seqItems?, ht]
  rfl
end PL

set_option maxHeartbeats 8000000
namespace PL
open PySem PySem.Spec PyProof.Rows L2
/-! ### how a display of names is stored -/
def starB : Expr → Bool
  | .Starred _ _ => true
  | _ => false
def lineNames (sc : Scope) (line : Nat) (ts : List Expr) : List Str := ts.filterMap fun
    | .Name id pos => if sc.names.lookup id == some .local && pos.line == line then some id else none
    | _ => none
def swC (sc : Scope) (ts vs : List Expr) : Option (Option (List Str)) :=
  if (!(ts.length == 2 || ts.length == 3) || vs.length != ts.length) = true then some none
  else if vs.any starB = true then some none
  else if ((lineNames sc ((ts.head?.map (·.pos.line)).getD 0) ts).length != ts.length || (lineNames sc ((ts.head?.map (·.pos.line)).getD 0) ts).eraseDups.length != (lineNames sc ((ts.head?.map (·.pos.line)).getD 0) ts).length) = true then some none
  else if vs.all (foldedForSure 8) = true then some none
  else if vs.all (constantsAlone 8) = true then none
  else some (some (lineNames sc ((ts.head?.map (·.pos.line)).getD 0) ts))
theorem swC_ok {env : PySem.Env} {ts vs : List Expr} {k k2 : Nat} {p p2 : Pos} {r : Option (List Str)} (hk : env.scope.kind = .function) (h : swC env.scope ts vs = some r) : swappedStores [.Tuple ts k p] (.Tuple vs k2 p2) env = pure r := by
  have hb : (env.blockKind != .function) = false := by
    unfold Env.blockKind; rw [hk]; rfl
  have e : swappedStores [.Tuple ts k p] (.Tuple vs k2 p2) env = (if (!(ts.length == 2 || ts.length == 3) || vs.length != ts.length || env.blockKind != .function) = true then pure none
      else if vs.any starB = true then pure none
      else if ((lineNames env.scope ((ts.head?.map (·.pos.line)).getD 0) ts).length != ts.length || (lineNames env.scope ((ts.head?.map (·.pos.line)).getD 0) ts).eraseDups.length != (lineNames env.scope ((ts.head?.map (·.pos.line)).getD 0) ts).length) = true then pure none
      else if vs.all (foldedForSure 8) = true then pure none
      else if vs.all (constantsAlone 8) = true then (do
        unsupported "assign.tuple-of-constant-expressions:order-of-the-stores"
        pure (some (lineNames env.scope ((ts.head?.map (·.pos.line)).getD 0) ts)))
      else pure (some (lineNames env.scope ((ts.head?.map (·.pos.line)).getD 0) ts))) := rfl
  rw [e, hb, Bool.or_false]
  unfold swC at h
  split at h
  · rename_i c; rw [if_pos c]; cases h; rfl
  · rename_i c
    rw [if_neg c]
    split at h
    · rename_i c; rw [if_pos c]; cases h; rfl
    · rename_i c
      rw [if_neg c]
      split at h
      · rename_i c; rw [if_pos c]; cases h; rfl
      · rename_i c
        rw [if_neg c]
        split at h
        · rename_i c; rw [if_pos c]; cases h; rfl
        · rename_i c
          rw [if_neg c]
          split at h
          · cases h
          · rename_i c; rw [if_neg c]; cases h; rfl
def notComp : Expr → Bool
  | .ListComp _ _ _ _ => false
  | .SetComp _ _ _ _ => false
  | .DictComp _ _ _ _ _ => false
  | _ => true
theorem swaps_not {v : Expr} {t : Option Expr} {line : Nat} {env : PySem.Env} (h : notComp v = true) : swapsWith v t line env = pure false := by
  cases v <;> first | rfl | (simp [notComp] at h)
def isName : Expr → Bool
  | .Name _ _ => true
  | _ => false
theorem swaps_t {v t : Expr} {line : Nat} {env : PySem.Env} (h : isName t = false) : swapsWith v (some t) line env = pure false := by
  cases v <;> first | rfl | (cases t <;> first | rfl | (simp [isName] at h))
theorem swaps_cell {elt : Expr} {gs : List Comprehension} {scope : Scope} {p q : Pos} {x : Str} {line : Nat} {env : PySem.Env} (h : env.scope.names.lookup x = some .cell) : swapsWith (.ListComp elt gs scope p) (some (.Name x q)) line env = pure false := by
  have hk : env.kindOf x = some .cell := h
  have hf : (some NameKind.cell == some NameKind.local) = false := by decide
  unfold swapsWith
  dsimp only
  rw [hk, hf]
  simp
/-! ### the check of statements -/
def asgB (sc : Scope) (x : Str) (v : Expr) : Bool := notComp v || (match v, sc.names.lookup x with
  | .ListComp _ _ _ _, some .cell => true
  | _, _ => false)
theorem asgB_ok {env : PySem.Env} {x : Str} {q : Pos} {v : Expr} {line : Nat} (h : asgB env.scope x v = true) : swapsWith v (some (.Name x q)) line env = pure false := by
  unfold asgB at h
  rw [Bool.or_eq_true] at h
  rcases h with h | h
  · exact swaps_not h
  · split at h
    · exact swaps_cell (by assumption)
    · cases h
def isT : Expr → Bool
  | .Tuple _ _ _ => true
  | _ => false
theorem swS_none {ts : List Expr} {k : Nat} {p : Pos} {v : Expr} {env : PySem.Env} (h : isT v = false) : swappedStores [.Tuple ts k p] v env = pure none := by
  cases v <;> first | rfl | (simp [isT] at h)
def parB (N : List Str) (sc : Scope) : List Nat → List Expr → List Expr → Bool
  | [i, j], [.Name x px, .Name y py], [a, b] => decide (N[i]? = some x) && decide (N[j]? = some y) && decide (i ≠ j) && decide (sc.names.lookup x = some .local) && decide (sc.names.lookup y = some .local) && decide (swC sc [.Name x px, .Name y py] [a, b] = some (some [x, y]))
  | [i, j, k], [.Name x px, .Name y py, .Name z pz], [a, b, c] => decide (N[i]? = some x) && decide (N[j]? = some y) && decide (N[k]? = some z) && decide (i ≠ j) && decide (i ≠ k) && decide (j ≠ k) &&
      decide (sc.names.lookup x = some .local) && decide (sc.names.lookup y = some .local) && decide (sc.names.lookup z = some .local) && decide (swC sc [.Name x px, .Name y py, .Name z pz] [a, b, c] = some (some [x, y, z]))
  | _, _, _ => false
theorem par_ok {X : Cx} {is : List Nat} {ts vs : List Expr} {eas : Evs} {k k2 : Nat} {p p2 pos : Pos} (hc : X.calm = true) (hN : X.N.Nodup) (hk : X.env.scope.kind = .function) (h : parB X.N X.env.scope is ts vs = true) (ha : PA X vs (tA X.K eas)) :
    PS X (.Assign [.Tuple ts k p] (.Tuple vs k2 p2) pos) (tS X.K fun L S => okOr (eas L S) fun (rs, S1) => okOr (setAll is rs L) fun L' => some (.nx, L', S1)) := by
  unfold parB at h
  split at h
  · simp only [Bool.and_eq_true, decide_eq_true_eq] at h
    obtain ⟨⟨⟨⟨⟨h1, h2⟩, h3⟩, h4⟩, h5⟩, h6⟩ := h
    exact s_par2 hc hN h1 h2 h3 h4 h5 ha (swC_ok hk h6)
  · simp only [Bool.and_eq_true, decide_eq_true_eq] at h
    obtain ⟨⟨⟨⟨⟨⟨⟨⟨⟨h1, h2⟩, h3⟩, h4⟩, h5⟩, h6⟩, h7⟩, h8⟩, h9⟩, h10⟩ := h
    exact s_par3 hc hN h1 h2 h3 h4 h5 h6 h7 h8 h9 ha (swC_ok hk h10)
  · cases h
mutual
def ckS (T : Tab) (N : List Str) (sc : Scope) : Sx → Stmt → Bool
  | .asg i e, .Assign [.Name x _] v _ => storeB N sc (fun _ => true) i x && asgB sc x v && ckE T N sc e v
  | .asgL i e, .Assign [.Name x q] v _ => (match e, v with
      | .comp own tg it cs e, .ListComp elt [⟨t, j, ifs, z⟩] scope p => decide (N[i]? = some x) && decide (sc.names.lookup x = some .local) && (q.line == p.line) && !(scope.names.any fun (n, k) => n == x && (k == .local || k == .cell)) &&
          (decide (z = 0) && blkC N sc scope (own.map fun i => (N.getD i Str.empty, i)) && (tg.ixs.all fun i => own.contains i) && tgB N (relS scope sc) (fun x => scope.names.lookup x == some .cell) tg t && ckI T N sc it j t && ckEs T N (relS scope sc) cs ifs && ckE T N (relS scope sc) e elt)
      | .compR own tg it cs e, .ListComp elt [⟨t, j, ifs, z⟩] scope p => decide (N[i]? = some x) && decide (sc.names.lookup x = some .local) && (q.line == p.line) && !(scope.names.any fun (n, k) => n == x && (k == .local || k == .cell)) &&
          (decide (z = 0) && blkC N sc scope (own.map fun i => (N.getD i Str.empty, i)) && (tg.ixs.all fun i => own.contains i) && tgB N (relS scope sc) (fun x => scope.names.lookup x == some .cell) tg t && ckI T N sc it j t && ckEs T N (relS scope sc) cs ifs && ckE T N (relS scope sc) e elt)
      | _, _ => false)
  | .par is es, .Assign [.Tuple ts _ _] (.Tuple vs _ _) _ => parB N sc is ts vs && ckEs T N sc es vs
  | .parC is es, .Assign [.Tuple ts _ _] (.Tuple vs _ _) _ => decide (is.length ≤ 100) && storesB N sc (fun _ => true) is ts && decide (swC sc ts vs = some none) && ckEs T N sc es vs
  | .unp is e, .Assign [.Tuple ts _ _] v _ => storesB N sc (fun _ => true) is ts && !isT v && ckE T N sc e v
  | .dset d k v, .Assign [.Subscript o i _] x _ => ckE T N sc d o && ckE T N sc k i && ckE T N sc v x
  | .expr e, .Expr x _ => notComp x && ckE T N sc e x
  | .ret e, .Return (some x) _ => ckE T N sc e x
  | .ret0, .Return none _ => true
  | .ifs c a b, .If t x y _ => ckE T N sc c t && ckSs T N sc a x && ckSs T N sc b y
  | .fors tg it b, .For t i x [] _ => tgB N sc (fun _ => true) tg t && ckI T N sc it i t && ckSs T N sc b x
  | .never, _ => true
  | .pass, .Pass _ => true
  | .brk, .Break _ => true
  | .cont, .Continue _ => true
  | _, _ => false
def ckSs (T : Tab) (N : List Str) (sc : Scope) : List Sx → List Stmt → Bool
  | [], [] => true
  | s :: r, x :: xs => ckS T N sc s x && ckSs T N sc r xs
  | _, _ => false
end
structure GoodS (T : Tab) (cl : Cl) (n : Nat) (X : Cx) : Prop extends Good T cl n X where
  fnb : ∀ x, X.fn x = true
  kind : X.env.scope.kind = .function
  own : PassesOwn (model X.prog X.w) X.A X.env X.xe
theorem asg_read {K : PySem.W.Frag} {ea : Ev} {i : Nat} {Dn : Ends} {σ : L2.St} {H : Hp} (h : tS K (fun L S => okOr (ea L S) fun (x, S1) => some (.nx, L.set i (some x), S1)) Dn σ H) : tE K ea σ H fun x H1 => gName i x σ H1 Dn.nx := by
  obtain ⟨F, G, ρ, S, L, f, L', S', s, l, e, q⟩ := h
  obtain ⟨⟨x, S1⟩, e1, e⟩ := okOr_some e
  obtain ⟨rfl, rfl, rfl⟩ := fl_eq e
  exact ⟨F, G, ρ, S, L, x, S1, s, l, e1, fun G1 ρ1 H1 v1 g1 p1 s1 q1 => q G1 ρ1 H1 _ g1 p1 s1 (lok_set (lok_mono g1 p1 l) i q1)⟩
section
variable {T : Tab} {cl : Cl} {n : Nat}
mutual
theorem sS : ∀ (s : Sx) (X : Cx) (x : Stmt), GoodS T cl n X → ckS T X.N X.env.scope s x = true → PS X x (tS X.K (evS cl s))
  | .asg i e, X, x, g, h => by
    cases x <;> first | (simp [ckS] at h; done) | skip
    rename_i ts v p
    match ts, h with
    | [.Name x q], h =>
      simp only [ckS, Bool.and_eq_true] at h
      obtain ⟨⟨h1, h2⟩, h3⟩ := h
      unfold storeB at h1
      rw [Bool.and_eq_true] at h1
      have hx : L2.Loc X.env.scope x := by
        have h1 := h1.2
        split at h1
        · exact .inl (by assumption)
        · exact .inr (by assumption)
        · cases h1
      exact s_asg g.nd (of_decide_eq_true h1.1) hx (sE e X v g.toGood h3).1 (asgB_ok h2) (g.fnb x)
  | .asgL i e, X, x, g, h => by
    cases x <;> first | (simp [ckS] at h; done) | skip
    rename_i ts v p
    match ts, h with
    | [.Name x q], h =>
      simp only [ckS] at h
      split at h
      · simp only [Bool.and_eq_true, decide_eq_true_eq, Bool.not_eq_true'] at h
        obtain ⟨⟨⟨⟨a1, a2⟩, a3⟩, a4⟩, ⟨⟨⟨⟨⟨⟨rfl, h1⟩, h2⟩, h3⟩, h4⟩, h5⟩, h6⟩⟩ := h
        rename_i own tg it cs e elt t j ifs scope pp
        obtain ⟨b1, b2⟩ := inv_comp h1
        obtain ⟨i1, i2⟩ := sI it X j t g.toGood h4
        have hp := ps_setLc (spos := p) (py := q) (g := gT X.K tg) (tt := tT X.K (evT cl cs)) (te := tE X.K (evE cl e)) g.calm g.nd a1 a2 (sw_true g.kind a2 a3 a4) i1 b1
          (fun s H C c2 fp => tgB_ok (X := X.blk s H scope (compEnvC scope c2 C X.env) fp) (fun _ hx => hx) g.nd g.calm h3)
          (fun s H C c2 fp => sT cs (X.blk s H scope (compEnvC scope c2 C X.env) fp) ifs (g.blk s H scope _ fp) h5)
          (fun s H C c2 fp => (sE e (X.blk s H scope (compEnvC scope c2 C X.env) fp) elt (g.blk s H scope _ fp) h6).1) i2
        rw [b2] at hp
        exact PS.weak hp fun Dn σ H hh => lc_read (fin := finD) (fun j hj => by simpa using List.all_eq_true.mp h2 j hj) fin_d (asg_read hh)
      · simp only [Bool.and_eq_true, decide_eq_true_eq, Bool.not_eq_true'] at h
        obtain ⟨⟨⟨⟨a1, a2⟩, a3⟩, a4⟩, ⟨⟨⟨⟨⟨⟨rfl, h1⟩, h2⟩, h3⟩, h4⟩, h5⟩, h6⟩⟩ := h
        rename_i own tg it cs e elt t j ifs scope pp
        obtain ⟨b1, b2⟩ := inv_comp h1
        obtain ⟨i1, i2⟩ := sI it X j t g.toGood h4
        have hp := ps_setLc (spos := p) (py := q) (g := gT X.K tg) (tt := tT X.K (evT cl cs)) (te := tE X.K (evE cl e)) g.calm g.nd a1 a2 (sw_true g.kind a2 a3 a4) i1 b1
          (fun s H C c2 fp => tgB_ok (X := X.blk s H scope (compEnvC scope c2 C X.env) fp) (fun _ hx => hx) g.nd g.calm h3)
          (fun s H C c2 fp => sT cs (X.blk s H scope (compEnvC scope c2 C X.env) fp) ifs (g.blk s H scope _ fp) h5)
          (fun s H C c2 fp => (sE e (X.blk s H scope (compEnvC scope c2 C X.env) fp) elt (g.blk s H scope _ fp) h6).1) i2
        rw [b2] at hp
        exact PS.weak hp fun Dn σ H hh => lc_read (fin := finR) (fun j hj => by simpa using List.all_eq_true.mp h2 j hj) fin_r (asg_read hh)
      · cases h
  | .par is es, X, x, g, h => by
    cases x <;> first | (simp [ckS] at h; done) | skip
    rename_i ts v p
    match ts, v, h with
    | [.Tuple ts k1 p1], .Tuple vs k2 p2, h =>
      simp only [ckS, Bool.and_eq_true] at h
      exact par_ok g.calm g.nd g.kind h.1 (sEs es X _ g.toGood h.2).1
  | .parC is es, X, x, g, h => by
    cases x <;> first | (simp [ckS] at h; done) | skip
    rename_i ts v p
    match ts, v, h with
    | [.Tuple ts k1 p1], .Tuple vs k2 p2, h =>
      simp only [ckS, Bool.and_eq_true, decide_eq_true_eq] at h
      obtain ⟨⟨⟨h0, h1⟩, h2⟩, h3⟩ := h
      obtain ⟨q1, q2⟩ := stores_ok (fun x _ => g.fnb x) g.nd h1
      exact s_parC g.calm (Nat.le_trans h0 (by decide)) q1 q2 (sEs es X _ g.toGood h3).1 (swC_ok g.kind h2)
  | .unp is e, X, x, g, h => by
    cases x <;> first | (simp [ckS] at h; done) | skip
    rename_i ts v p
    match ts, h with
    | [.Tuple ts k1 p1], h =>
      simp only [ckS, Bool.and_eq_true, Bool.not_eq_true'] at h
      obtain ⟨⟨h1, h2⟩, h3⟩ := h
      obtain ⟨q1, q2⟩ := stores_ok (fun x _ => g.fnb x) g.nd h1
      exact s_unp g.calm q1 q2 (sE e X _ g.toGood h3).1 (show swapsWithSole [.Tuple ts k1 p1] v p.line X.env = pure false from swaps_t (t := .Tuple ts k1 p1) (v := v) (line := p.line) (env := X.env) rfl) (swS_none h2)
  | .dset d k v, X, x, g, h => by
    cases x <;> first | (simp [ckS] at h; done) | skip
    rename_i ts v' p
    match ts, h with
    | [.Subscript o i p1], h =>
      simp only [ckS, Bool.and_eq_true] at h
      obtain ⟨⟨h1, h2⟩, h3⟩ := h
      exact s_dset g.un1 (sE d X _ g.toGood h1).1 (sE k X _ g.toGood h2).1 (sE v X _ g.toGood h3).1 (swaps_t rfl)
  | .expr e, X, x, g, h => by
    cases x <;> first | (simp [ckS] at h; done) | skip
    simp only [ckS, Bool.and_eq_true] at h
    exact s_expr (sE e X _ g.toGood h.2).1 (swaps_not h.1)
  | .ret e, X, x, g, h => by
    cases x <;> first | (simp [ckS] at h; done) | skip
    rename_i v p
    cases v with
    | none => simp [ckS] at h
    | some v =>
      simp only [ckS] at h
      exact s_ret (sE e X _ g.toGood h).1
  | .ret0, X, x, g, h => by
    cases x <;> first | (simp [ckS] at h; done) | skip
    rename_i v p
    cases v with
    | none => exact s_ret0
    | some v => simp [ckS] at h
  | .ifs c a b, X, x, g, h => by
    cases x <;> first | (simp [ckS] at h; done) | skip
    simp only [ckS, Bool.and_eq_true] at h
    obtain ⟨⟨h1, h2⟩, h3⟩ := h
    exact s_if (sE c X _ g.toGood h1).2 (sSs a X _ g h2) (sSs b X _ g h3)
  | .fors tg it b, X, x, g, h => by
    cases x <;> first | (simp [ckS] at h; done) | skip
    rename_i t i body els p
    cases els with
    | cons _ _ => simp [ckS] at h
    | nil =>
      simp only [ckS, Bool.and_eq_true] at h
      obtain ⟨⟨h1, h2⟩, h3⟩ := h
      obtain ⟨i1, i2⟩ := sI it X i t g.toGood h2
      exact s_for g.own g.calm i1 (tgB_ok (fun x _ => g.fnb x) g.nd g.calm h1) (sSs b X body g h3) i2
  | .never, X, x, g, h => s_never
  | .pass, X, x, g, h => by
    cases x <;> first | (simp [ckS] at h; done) | skip
    exact s_pass
  | .brk, X, x, g, h => by
    cases x <;> first | (simp [ckS] at h; done) | skip
    exact s_brk
  | .cont, X, x, g, h => by
    cases x <;> first | (simp [ckS] at h; done) | skip
    exact s_cont
theorem sSs : ∀ (ss : List Sx) (X : Cx) (xs : List Stmt), GoodS T cl n X → ckSs T X.N X.env.scope ss xs = true → PSs X xs (tS X.K (evSs cl ss))
  | [], X, xs, g, h => by
    cases xs with
    | cons _ _ => simp [ckSs] at h
    | nil => exact s_nil
  | s :: r, X, xs, g, h => by
    cases xs with
    | nil => simp [ckSs] at h
    | cons y ys =>
      simp only [ckSs, Bool.and_eq_true] at h
      exact s_cons (sS s X y g h.1) (sSs r X ys g h.2)
end
end
end PL

set_option maxHeartbeats 4000000
namespace PL
open PySem PySem.Spec PyProof.Rows L2
theorem rvs_get {K : PySem.W.Frag} {G : Hp} {ρ : List Addr} : ∀ {rs : List R} {vs : List V} {i : Nat} {r : R}, RVs K G ρ rs vs → rs[i]? = some r → ∃ v, vs[i]? = some v ∧ RV K G ρ r v
  | _, _, _, _, .nil, e => by simp at e
  | _, _, 0, _, .cons h _, e => by simp at e; subst e; exact ⟨_, rfl, h⟩
  | _, _, i + 1, _, .cons _ t, e => by
    obtain ⟨v, h1, h2⟩ := rvs_get (i := i) t (by simpa using e)
    exact ⟨v, by simpa using h1, h2⟩
theorem lok_start {K : PySem.W.Frag} {G : Hp} {ρ : List Addr} {rs : List R} {vs : List V} {N : List Str} (h : RVs K G ρ rs vs) : LOk K G ρ (rs.map some ++ List.replicate (N.length - rs.length) none) (L2.start N vs) := by
  have hl := rvs_len h
  refine ⟨by unfold L2.start; simp [hl], fun i r e => ?_⟩
  by_cases hi : i < rs.length
  · rw [List.getElem?_append_left (by simpa using hi), List.getElem?_map] at e
    cases q : rs[i]? with
    | none => rw [q] at e; cases e
    | some r0 =>
      rw [q] at e
      cases e
      obtain ⟨v, h1, h2⟩ := rvs_get h q
      refine ⟨v, ?_, h2⟩
      unfold L2.start
      rw [List.getElem?_append_left (by simpa using hl ▸ hi), List.getElem?_map, h1]
      rfl
  · rw [List.getElem?_append_right (by simpa using hi), List.getElem?_replicate] at e
    split at e <;> cases e
/-- what a call's evaluation says of the body's -/
theorem callN_body {P : List Fn} {n f : Nat} {d : Fn} {rs : List R} {S : Sto} {r : R} {S' : Sto} (hd : P[f]? = some d) (h : callN P (n + 1) f rs S = some (r, S')) : rs.length = d.np ∧ ∃ fl L' S1, evSs (callN P n) d.body (rs.map some ++ List.replicate (d.names.length - rs.length) none) S = some (fl, L', S1) ∧
    ((fl = .nx ∧ r = .d .none ∧ S' = S1.take S.length) ∨ (fl = .rt r ∧ S' = S1) ∨ (∃ x, fl = .rt (.d x) ∧ r = .d x ∧ S' = S1.take S.length)) := by
  rw [callN, hd] at h
  dsimp only at h
  by_cases hl : rs.length = d.np
  · rw [if_pos hl] at h
    refine ⟨hl, ?_⟩
    cases q : evSs (callN P n) d.body (rs.map some ++ List.replicate (d.names.length - rs.length) none) S with
    | none => rw [q] at h; cases h
    | some t =>
      obtain ⟨fl, L', S1⟩ := t
      rw [q] at h
      refine ⟨fl, L', S1, rfl, ?_⟩
      cases fl with
      | nx =>
        obtain ⟨rfl, rfl⟩ := res_eq h
        exact .inl ⟨rfl, rfl, rfl⟩
      | bk => cases h
      | ct => cases h
      | rt r0 =>
        cases r0 with
        | d x =>
          obtain ⟨rfl, rfl⟩ := res_eq h
          exact .inr (.inr ⟨x, rfl, rfl, rfl⟩)
        | ref k =>
          obtain ⟨rfl, rfl⟩ := res_eq h
          exact .inr (.inl ⟨rfl, rfl⟩)
        | scr ns =>
          obtain ⟨rfl, rfl⟩ := res_eq h
          exact .inr (.inl ⟨rfl, rfl⟩)
  · rw [if_neg hl] at h; cases h
theorem callN_len {P : List Fn} {n f : Nat} {d : Fn} {rs : List R} {S : Sto} {r : R × Sto} (hd : P[f]? = some d) (h : callN P n f rs S = some r) : rs.length = d.np := by
  cases n with
  | zero => cases h
  | succ n => exact (callN_body (r := r.1) (S' := r.2) hd h).1
theorem callN_zero {P : List Fn} {f : Nat} {rs : List R} {S : Sto} : callN P 0 f rs S = none := rfl
theorem enter {K : PySem.W.Frag} {P : List Fn} {n f : Nat} {d : Fn} {vs : List V} {H : Hp} {Q : VK} (hd : P[f]? = some d) (h : tP K (callN P (n + 1) f) vs H Q) :
    tS K (evSs (callN P n) d.body) { nx := fun _ H' => Q .non H', rt := Q } (L2.start d.names vs) H := by
  obtain ⟨F, G, ρ, S, rs, r, S', s, q, e, w⟩ := h
  obtain ⟨hl, fl, L', S1, e1, c⟩ := callN_body hd e
  refine ⟨F, G, ρ, S, _, fl, L', S1, s, lok_start q, e1, ?_⟩
  have cut : ∀ {G' : Hp} {ρ' : List Addr} {H' : Hp} {v : V} {x : D}, Same G G' → ρ <+: ρ' → SOk K F G' ρ' S1 H' → DV K G' v x → Post K F G ρ (S1.take S.length) (.d x) Q → Q v H' := fun g p s' dv w => by
    refine w _ ρ _ _ g (List.prefix_refl _) ?_ dv
    have := s'.cut p
    rw [s.len] at this
    exact this
  rcases c with ⟨rfl, rfl, rfl⟩ | ⟨rfl, rfl⟩ | ⟨x, rfl, rfl, rfl⟩
  · exact fun G' ρ' H' σ' g p s' l => cut g p s' .non w
  · exact fun G' ρ' H' v g p s' rv => w G' ρ' H' v g p s' rv
  · exact fun G' ρ' H' v g p s' rv => cut g p s' rv w
/-! ### a def of the text -/
structure Src where
  qual : Str
  as : List Arg
  body : List Stmt
  scope : Scope
def Src.pars (s : Src) : Arguments := ⟨[], s.as, none, [], [], none, []⟩
def parNB (sc : Scope) (x : Str) : Bool := match sc.names.lookup x with
  | some .local => true
  | some .cell => true
  | _ => false
def ckFn (T : Tab) (d : Fn) (s : Src) : Bool :=
  decide (s.as.map (·.arg) = d.names.take d.np) && decide (d.np ≤ d.names.length) && decide d.names.Nodup && decide (s.scope.kind = .function) && !s.scope.isCoroutine && !s.scope.isGenerator && s.scope.names.all (fun y => decide (y.2 ≠ .free)) && (d.names.take d.np).all (parNB s.scope) && ckSs T d.names s.scope d.body s.body
structure FnC (T : Tab) (d : Fn) (s : Src) : Prop where
  ar : s.as.map (·.arg) = d.names.take d.np
  le : d.np ≤ d.names.length
  sc : FnScope d.names (d.names.take d.np) s.scope
  body : ckSs T d.names s.scope d.body s.body = true
theorem ckFn_ok {T : Tab} {d : Fn} {s : Src} (h : ckFn T d s = true) : FnC T d s := by
  simp only [ckFn, Bool.and_eq_true, decide_eq_true_eq, Bool.not_eq_true', List.all_eq_true] at h
  obtain ⟨⟨⟨⟨⟨⟨⟨⟨h1, h2⟩, h3⟩, h4⟩, h5⟩, h6⟩, h7⟩, h8⟩, h9⟩ := h
  refine ⟨h1, h2, ⟨h4, h5, h6, h3, ?_, fun x hx => ?_, fun y hy => h7 y hy⟩, h9⟩
  · rw [List.length_take, Nat.min_eq_left h2]
  · have := h8 x hx
    unfold parNB at this
    cases q : s.scope.names.lookup x with
    | none => rw [q] at this; cases this
    | some k => cases k <;> first | exact .inl rfl | exact .inr rfl | (rw [q] at this; cases this)
section
variable {P : Program} {w : World} {K : PySem.W.Frag} {mg : Str → Option Value} {base : Heap}
/-- the whole text: each def stands behind the top, as it is checked -/
structure Txt (w : World) (K : PySem.W.Frag) (mg : Str → Option Value) (T : Tab) (src : List Src) : Prop where
  free : ∀ x ∈ freeNames, mg x = none
  glob : ∀ p ∈ T.gl, ∃ u v, mg p.1 = some u ∧ RelV v u ∧ ∀ G, DV K G v p.2
  gdict : ∀ p ∈ T.gd, ∃ addr, mg p.1 = some (.ref addr) ∧ KTab K w addr p.2
  def' : ∀ (f : Nat) (d : Fn), T.fns[f]? = some d → ∃ (s : Src) (addr : Addr) (fd : FuncData), (src[f]? : Option Src) = some s ∧ ckFn T d s = true ∧ mg d.name = some (.ref addr) ∧ FunD K d.name s.qual s.pars s.body s.scope [] [] addr fd
theorem funD_binds {d : Fn} {s : Src} {T : Tab} {addr : Addr} {fd : FuncData} (c : FnC T d s) (F : FunD K d.name s.qual s.pars s.body s.scope [] [] addr fd) : Binds K fd (d.names.take d.np) [] := by
  refine F.bindsN fun kV doc pm an cdv ct us hl => ?_
  have := bind_plain (name := d.name) (qual := s.qual) (as := s.as) (body := s.body) (scope := s.scope) (kV := kV) (doc := doc) (pm := pm) (an := an) (cdv := cdv) (ct := ct) (us := us) (by rw [c.ar]; exact c.sc.nd.sublist (List.take_sublist _ _)) (by rw [c.ar]; exact hl)
  rw [c.ar] at this
  exact this
theorem kw_plain {name qual : Str} {as : List Arg} {body : List Stmt} {scope : Scope} {kV doc pm : Value} {an : Option Addr} {cdv ct : Value} {x : Str} {u : Value} (h : as.map (·.arg) = [x]) :
    bindArgs (PySem.W.fnOf name qual ⟨[], as, none, [], [], none, []⟩ body scope .none kV doc pm an cdv ct) ⟨[], [(x, u)]⟩ = pure [(x, u)] := by
  unfold bindArgs PySem.W.fnOf
  dsimp only
  rw [h]
  simp [seqItems?]
  rfl
theorem funD_kw {d : Fn} {s : Src} {T : Tab} {addr : Addr} {fd : FuncData} (c : FnC T d s) (F : FunD K d.name s.qual s.pars s.body s.scope [] [] addr fd) (x : Str) (hx : d.names.take d.np = [x]) (s' : Shared) (u : Value) : BindsTo s' fd ⟨[], [(x, u)]⟩ [(x, u)] := by
  obtain ⟨oc, od, dV, kV, doc, pm, an, cdv, ct, osl, rfl, lk, hcd, hD, hK⟩ := F.ex
  rcases hD with ⟨_, rfl⟩ | ⟨e, _⟩
  · exact .of_eq (kw_plain (c.ar.trans hx))
  · exact absurd rfl e
/-- a def keeps its promise, where those that it calls do -/
theorem fnG_step {T : Tab} {src : List Src} {n f : Nat} {d : Fn} {s : Src} {addr : Addr} {fd : FuncData} (tx : Txt w K mg T src)
    (ih : ∀ (f : Nat) (d : Fn), T.fns[f]? = some d → ∃ addr fd ps, mg d.name = some (.ref addr) ∧ PySem.W.keepIn K (.ref addr) = true ∧ Binds K fd ps [] ∧ (ps.length = d.np ∧ ps = d.names.take d.np) ∧ FnG P w K mg base n addr fd ps (callN T.fns n f))
    (hd : T.fns[f]? = some d) (hck : ckFn T d s = true) (F : FunD K d.name s.qual s.pars s.body s.scope [] [] addr fd) : FnG P w K mg base (n + 1) addr fd (d.names.take d.np) (callN T.fns (n + 1) f) := by
  have c := ckFn_ok hck
  obtain ⟨oc, od, dV, kV, doc, pm, an, cdv, ct, osl, rfl, lk, hcd, _, _⟩ := F.ex
  refine ⟨fun A outer s0 H args us vs Q hr hg e0 hb r hl hsp => ?_, funD_kw c F⟩
  have KX : K.In s0.heap := e0.mod.kin.keeps fun b o e => (e0.bs b o e).1
  have lim : s0.heap.NoLimit := e0.mod.nolimit.keeps fun b o e => (e0.bs b o e).1
  have hkind : ∀ y ∈ (d.names.take d.np).zip us, s.scope.names.lookup y.1 = some .local ∨ (s.scope.names.lookup y.1 = some .cell ∧ ((cellsFrom (s0.heap.objs.size + 1) s.scope.names []).lookup y.1).isSome = true) := fun ⟨x, v⟩ hy => by
    rcases c.sc.par x (List.of_mem_zip hy).1 with q | q
    · exact .inl q
    · exact .inr ⟨q, PySem.W.cellsFrom_some _ _ _ (.inl q)⟩
  refine codeAny_call_function hr.depth (KX _ _ lk) rfl c.sc.co c.sc.gen rfl (PySem.W.codeRec_of KX hcd) (hb _ _ _ _ ?_)
  refine wpAny_newFunctionEnv_cells c.sc.kind hkind fun env he s1 x => ?_
  subst he
  refine ⟨lim.keeps x.toInCall.keep, codeAny_func ?_⟩
  have I : Inv (cxOf CX0 P w K mg base d.names s.qual s.scope addr cdv A outer s0 H E0) [] (L2.start d.names vs) H s1 := inv_start c.sc hr.hd e0 hl r x
  have g : GoodS T (callN T.fns n) n (cxOf CX0 P w K mg base d.names s.qual s.scope addr cdv A outer s0 H E0).nox := {
    calm := rfl
    nd := c.sc.nd
    gd := hg
    room := hr.deeper _
    free := tx.free
    glob := tx.glob
    gdict := tx.gdict
    fn := ih
    len := fun f d rs S r h e => callN_len h e
    fnb := fun _ => rfl
    kind := c.sc.kind
    own := PassesOwn.never }
  have hS := (sSs d.body _ s.body g c.body).nox
  refine wpAny_mono (hS.run [] s1 (L2.start d.names vs) H _ I (enter hd hsp)) (fun fl s' hs => ?_) fun e s' hs => hs
  have fin : ∀ {σ' : L2.St} {H' : Hp} {v : V} {u : Value}, Inv (cxOf CX0 P w K mg base d.names s.qual s.scope addr cdv A outer s0 H E0) [] σ' H' s' → RelV v u → Q v H' → CE outer P w H s0 Q u s' :=
    fun {σ' H' v u} J rv q => ⟨v, H', J.os, J.bare, J.base, J.hok, rv, q⟩
  cases fl with
  | ret u =>
    obtain ⟨v, σ', H', J, rv, q⟩ := hs
    exact fin J rv q
  | next =>
    obtain ⟨σ', H', J, q⟩ := hs
    exact fin (v := V.non) (u := Value.none) J rfl q
  | brk =>
    obtain ⟨_, _, _, q⟩ := hs
    exact False.elim q
  | cont =>
    obtain ⟨_, _, _, q⟩ := hs
    exact False.elim q
/-- all defs keep their promises, at each depth of calls -/
theorem fnG_all {T : Tab} {src : List Src} (tx : Txt w K mg T src) : ∀ (n f : Nat) (d : Fn), T.fns[f]? = some d → ∃ addr fd ps, mg d.name = some (.ref addr) ∧ PySem.W.keepIn K (.ref addr) = true ∧ Binds K fd ps [] ∧ (ps.length = d.np ∧ ps = d.names.take d.np) ∧ FnG P w K mg base n addr fd ps (callN T.fns n f)
  | 0, f, d, hd => by
    obtain ⟨s, addr, fd, h1, h2, h3, F⟩ := tx.def' f d hd
    have c := ckFn_ok h2
    refine ⟨addr, fd, d.names.take d.np, h3, F.kp, funD_binds c F, ⟨by rw [List.length_take, Nat.min_eq_left c.le], rfl⟩, ⟨fun A outer s0 H args us vs Q hr hg e0 hb r hl hsp => ?_, funD_kw c F⟩⟩
    obtain ⟨_, _, _, _, _, _, _, _, _, e, _⟩ := hsp
    cases e
  | n + 1, f, d, hd => by
    obtain ⟨s, addr, fd, h1, h2, h3, F⟩ := tx.def' f d hd
    have c := ckFn_ok h2
    exact ⟨addr, fd, d.names.take d.np, h3, F.kp, funD_binds c F, ⟨by rw [List.length_take, Nat.min_eq_left c.le], rfl⟩, fnG_step tx (fnG_all tx n) hd h2 F⟩
end
end PL

set_option maxHeartbeats 4000000
namespace PL
open PySem PySem.Spec PyProof.Rows L2
abbrev noH : Hp := fun _ => none
abbrev Done (s₁ : Shared) (r : Result) (s' : Shared) : Prop := r = .ok (.ret (.bool true)) ∧ OldK s₁.heap s'.heap ∧ s'.os = s₁.os ∧ AllBare s'.gens
/-- at the entry nothing changes, and the script stands in what never does -/
theorem entry {K : PySem.W.Frag} {cl : Prim} {H : Hp} {a : Addr} {ns : List Int} (hS : SqL K H a (ns.map V.int)) (h : ∃ S', cl [.scr ns] [] = some (.d (.bool true), S')) : tP K cl [.ref a] H fun v _ => v = .bl true := by
  obtain ⟨S', e⟩ := h
  refine ⟨noH, H, [], [], [.scr ns], .d (.bool true), S', ⟨rfl, List.nodup_nil, fun b u q => ?_, fun b u q => q, fun b hb => ?_, fun b hb => absurd rfl hb, fun n b c q => ?_⟩, .cons ⟨a, rfl, hS⟩ .nil, e, fun G' ρ' H' v _ _ _ q => ?_⟩
  · cases q
  · cases hb
  · simp at q
  · cases q; rfl
section
variable {P : Program} {w : World} {K : PySem.W.Frag} {mg mb : Str → Option Value} {k : Nat} {fa a : Addr} {fd : FuncData} {x : Str} {cl : Prim} {s₁ : Shared} {vs : List Value} {ns : List Int}
/-- the law's call over a heap H of the script alone -/
theorem call_over (F : ∀ base : Heap, K.In base → base.Ns mainGlobals mg → FnG P w K mg base k fa fd [x] cl) (hg : s₁.gens = #[]) (hr : Room k callerA) (hbind : ∀ (s : Shared) (u : Value), BindsTo s fd ⟨[u], []⟩ [(x, u)])
    (hsp : ∃ S', cl [.scr ns] [] = some (.d (.bool true), S')) {H : Hp} (hO : Only H) (hS : SqL K H a (ns.map V.int)) (hok : HOk P w H s₁.heap) (hM : Mod K mg (hidT s₁.heap H)) :
    codeAny (model P w) callerA (.call (.ref fa) ⟨[.ref a], []⟩) (Done s₁) s₁ := by
  have e0 : Env0 P w K mg (hidT s₁.heap H) callerA [] s₁ H :=
    { frames := rfl, mod := hM, bs := fun b o e => of_hidT e, bsz := Nat.le_of_eq (hidT_size _ _), funs := trivial, frf := fun b hb => (by cases hb), hok := hok, bare := .of_eq hg }
  have run := (F _ hM.kin hM.glob).run callerA [] s₁ H ⟨[.ref a], []⟩ [.ref a] [.ref a] (fun v _ => v = .bl true) hr rfl e0 (hbind s₁ (.ref a)) (.cons rfl .nil) rfl (entry hS hsp)
  refine codeAny_mono run fun r s' h => ?_
  cases r with
  | error e => exact False.elim h
  | ok fl =>
  cases fl <;> first | exact False.elim h | skip
  obtain ⟨v, H', os, bare, un, hok', r', rfl⟩ := h
  have r' : _ = Value.bool true := r'
  subst r'
  refine ⟨rfl, OldK.of_keep fun b o e => ?_, os, bare⟩
  rcases hO b with z | ⟨ob, xs, z⟩
  · exact un.keep b o e z (fun hb => by cases hb) (by simp)
  · have e1 := (hok b _ z).1
    have e2 := (hok' b _ (un.frzs b ob _ z)).1
    rw [e] at e1; cases e1
    exact e2
/-- the same, whether the script is an object of the module or not -/
theorem law_g (KX : K.In s₁.heap) (hns : s₁.heap.Ns mainGlobals mg) (hb : s₁.heap.Ns builtinsNs mb) (hbb : ∀ x : Str, x ≠ "__name__" → mb x = bootBuiltins x) (hlim : s₁.heap.NoLimit) (hg : s₁.gens = #[])
    (ha : s₁.heap.get? a = some { cls := .type "list", data := .seq vs.toArray }) (hi : IntsAre vs ns) (hl : ns.length ≤ sizeLine) (hr : Room k callerA)
    (F : ∀ base : Heap, K.In base → base.Ns mainGlobals mg → FnG P w K mg base k fa fd [x] cl) (hbind : ∀ (s : Shared) (u : Value), BindsTo s fd ⟨[u], []⟩ [(x, u)]) (hsp : ∃ S', cl [.scr ns] [] = some (.d (.bool true), S')) :
    codeAny (model P w) callerA (.call (.ref fa) ⟨[.ref a], []⟩) (Done s₁) s₁ := by
  have rv := vals_ints hi
  -- over H, which holds the script at most
  have over : ∀ H : Hp, (∀ b, b ≠ a → H b = none) → (H a ≠ none → K.lookup a = none) → Only H → SqL K H a (ns.map V.int) → HOk P w H s₁.heap → codeAny (model P w) callerA (.call (.ref fa) ⟨[.ref a], []⟩) (Done s₁) s₁ := by
    intro H hA hK hO hS hok
    have nsOf : ∀ {b : Addr} {m : Str → Option Value}, s₁.heap.Ns b m → (hidT s₁.heap H).Ns b m := fun {b m} ⟨o, es, ep, e, d, r⟩ => by
      have hba : b ≠ a := fun z => by
        subst z
        rw [ha] at e; cases e
        cases d
      exact ⟨o, es, ep, hidT_get e (hA b hba), d, r⟩
    have kin : K.In (hidT s₁.heap H) := fun b o e => by
      refine hidT_get (KX b o e) (Classical.byContradiction fun z => ?_)
      have : b = a := Classical.byContradiction fun q => z (hA b q)
      subst this
      rw [hK z] at e; cases e
    refine call_over F hg hr hbind hsp hO hS hok ⟨kin, nsOf hns, ⟨mb, nsOf hb, hbb⟩, ?_⟩
    obtain ⟨mc, h1, h2⟩ := hlim
    exact ⟨mc, nsOf h1, h2⟩
  cases hk : K.lookup a with
  | some o =>
    have e := KX a o hk
    rw [ha] at e
    cases e
    exact over noH (fun _ _ => rfl) (fun z => absurd rfl z) (fun _ => .inl rfl) (.inr ⟨_, vs.toArray, _, hk, rfl, rfl, rfl, by rw [List.size_toArray, hi.length]; exact hl, by simpa using rv⟩) fun b u z => by cases z
  | none =>
    have at' : ∀ {b : Addr}, b ≠ a → (if b = a then some (HO.frz { cls := .type "list", data := .seq vs.toArray } (.lst (ns.map V.int))) else none) = none := fun h => if_neg h
    refine over (fun b => if b = a then some (.frz { cls := .type "list", data := .seq vs.toArray } (.lst (ns.map V.int))) else none) (fun b h => at' h) (fun _ => hk) (fun b => ?_) (.inl (.inr ⟨_, if_pos rfl⟩)) fun b u z => ?_
    · rcases Classical.em (b = a) with h | h
      · exact .inr ⟨_, _, if_pos h⟩
      · exact .inl (at' h)
    · rcases Classical.em (b = a) with h | h
      · subst h
        obtain rfl := Option.some.inj ((if_pos rfl).symm.trans z)
        exact ⟨ha, by rw [List.length_map]; exact hl, vs, _, rv, ha⟩
      · cases (if_neg h).symm.trans z
end
/-- the law's row: what is left is the text, as it stands behind the top, and the machine's answer at each script -/
theorem walk_pl {l : PySem.W.OpenLaw} {n k i : Nat} {q : Program} {loose : List Str} {XP : (Str → Option Value) → Heap → Prop} {YP : World → Heap → Prop} {d : DefRec} {T : Tab} {src : List Src} {D : Fn} {x : Str}
    (hn : l.most = some n) (hn2 : n ≤ sizeLine) (hdf : d.params.defaults = []) (hr : Room k callerA)
    (hD : T.fns[i]? = some D) (hdn : d.name = D.name) (hx : D.names.take D.np = [x])
    (F : ∀ (w : World) (mg : Str → Option Value) (fa : Addr) (h : Heap), YP w h → h.Ns mainGlobals mg → mg d.name = some (.ref fa) → ∃ K : PySem.W.Frag, K.In h ∧ Txt w K mg T src)
    (hsp : ∀ ns : List Int, ns.length ≤ n → (∀ z ∈ ns, Builtin.Int.intBits z ≤ 1048576) → ∃ S', callN T.fns k i [.scr ns] [] = some (.d (.bool true), S')) :
    PySem.W.WalkO q loose XP YP l.row.toRowW d [] fun f vs => PySem.call f vs := by
  refine Att.attach_callB hn hdf fun w s₀ s₁ mg mb fa o pm cd doc a vs ns G Y ho hd hcd hmg hobj hints hlen hbits hg => ?_
  obtain ⟨K, KX, tx⟩ := F w mg fa _ Y G.T.g hmg
  obtain ⟨s, fa', fd, h1, h2, h3, Fd⟩ := tx.def' i D hD
  rw [hdn, h3] at hmg
  obtain rfl : fa' = fa := by cases hmg; rfl
  have c := ckFn_ok h2
  have hb : ∀ (s : Shared) (u : Value), BindsTo s fd ⟨[u], []⟩ [(x, u)] := fun s' u => by
    have := Fd.bindsA (ps := D.names.take D.np) (fun kV doc pm an cdv ct us hl => ?_) s' [u] (by rw [hx]; rfl)
    · rw [hx] at this
      exact this
    · have := bind_plain (name := D.name) (qual := s.qual) (as := s.as) (body := s.body) (scope := s.scope) (kV := kV) (doc := doc) (pm := pm) (an := an) (cdv := cdv) (ct := ct) (us := us) (by rw [c.ar]; exact c.sc.nd.sublist (List.take_sublist _ _)) (by rw [c.ar]; exact hl)
      rw [c.ar] at this
      exact this
  refine law_g KX G.T.g G.T.b G.T.builtins G.T.nolimit hg hobj hints (Nat.le_trans hlen hn2) hr (fun base kb nb => ?_) hb (hsp ns hlen hbits)
  cases k with
  | zero =>
    obtain ⟨S', e⟩ := hsp ns hlen hbits
    cases e
  | succ k =>
    have := fnG_step (P := l.prog) (w := w) (base := base) tx (fnG_all tx k) hD h2 Fd
    rw [hx] at this
    exact this
end PL

set_option maxHeartbeats 4000000
namespace PL
open PySem PySem.Spec PyProof.Rows L2
/-! ### what the top leaves: facts by names -/
mutual
/-- a value of the module is this datum, and never changes -/
def datB (K : PySem.W.Frag) : D → Value → Bool
  | .none, .none => true
  | .bool b, .bool c => b == c
  | .int i, .int j _ => decide (i = j)
  | .str x, .str y _ => decide (x = y)
  | .tuple ds, .ref a => (match K.lookup a with
    | some ⟨.type c, _, .seq its _, _⟩ => decide (c = "tuple") && decide (its.size ≤ sizeLine) && datsB K ds its.toList
    | _ => false)
  | _, _ => false
def datsB (K : PySem.W.Frag) : List D → List Value → Bool
  | [], [] => true
  | d :: ds, u :: us => datB K d u && datsB K ds us
  | _, _ => false
end
mutual
theorem datB_ok {K : PySem.W.Frag} : ∀ (d : D) (u : Value), datB K d u = true → ∃ v, RelV v u ∧ ∀ G, DV K G v d
  | .none, u, h => by
    cases u <;> first | exact ⟨.non, rfl, fun _ => .non⟩ | (simp [datB] at h; done)
  | .bool b, u, h => by
    cases u <;> first | (simp [datB] at h; done) | skip
    rename_i c
    have : b = c := by simpa [datB] using h
    subst this
    exact ⟨.bl b, rfl, fun _ => .bl b⟩
  | .int i, u, h => by
    cases u <;> first | (simp [datB] at h; done) | skip
    rename_i j t
    have : i = j := by simpa [datB] using h
    subst this
    exact ⟨.int i, ⟨t, rfl⟩, fun _ => .int i⟩
  | .str x, u, h => by
    cases u <;> first | (simp [datB] at h; done) | skip
    rename_i y t
    have : x = y := by simpa [datB] using h
    subst this
    exact ⟨.str x, ⟨t, rfl⟩, fun _ => .str x⟩
  | .tuple ds, u, h => by
    cases u <;> first | (simp [datB] at h; done) | skip
    rename_i a
    rw [datB] at h
    split at h
    · rename_i c od its n sl q
      simp only [Bool.and_eq_true, decide_eq_true_eq] at h
      obtain ⟨⟨rfl, h2⟩, h3⟩ := h
      obtain ⟨vs, r, e⟩ := datsB_ok ds its.toList h3
      exact ⟨.ref a, rfl, fun G => .tup (.inr ⟨_, its, n, q, rfl, rfl, h2, r⟩) (e G)⟩
    · cases h
  | .list _, u, h => by simp [datB] at h
  | .dict _, u, h => by simp [datB] at h
theorem datsB_ok {K : PySem.W.Frag} : ∀ (ds : List D) (us : List Value), datsB K ds us = true → ∃ vs, Vals vs us ∧ ∀ G, DVs K G vs ds
  | [], us, h => by
    cases us with
    | nil => exact ⟨[], .nil, fun _ => .nil⟩
    | cons _ _ => simp [datsB] at h
  | d :: ds, us, h => by
    cases us with
    | nil => simp [datsB] at h
    | cons u us =>
      simp only [datsB, Bool.and_eq_true] at h
      obtain ⟨v, r1, e1⟩ := datB_ok d u h.1
      obtain ⟨vs, r2, e2⟩ := datsB_ok ds us h.2
      exact ⟨v :: vs, .cons r1 r2, fun G => .cons (e1 G) (e2 G)⟩
end
/-- a written dict's rows -/
def rowsB (K : PySem.W.Frag) : List DictEntry → List (Str × D) → Bool
  | [], [] => true
  | e :: r, p :: t => (match e.key with
      | .str x _ => decide (x = p.1)
      | _ => false) && datB K p.2 e.val && rowsB K r t
  | _, _ => false
theorem rows_look {K : PySem.W.Frag} (z : Str) : ∀ (es : List DictEntry) (tab : List (Str × D)), rowsB K es tab = true → es.any (·.refKey) = false ∧ match tab.lookup z with
    | some d => ∃ e v, es.find? (·.key.isStr z) = some e ∧ RelV v e.val ∧ ∀ G, DV K G v d
    | none => es.find? (·.key.isStr z) = none
  | [], [], _ => ⟨rfl, rfl⟩
  | [], _ :: _, h => by simp [rowsB] at h
  | _ :: _, [], h => by simp [rowsB] at h
  | e :: r, p :: t, h => by
    simp only [rowsB, Bool.and_eq_true] at h
    obtain ⟨⟨h1, h2⟩, h3⟩ := h
    obtain ⟨i1, i2⟩ := rows_look z r t h3
    split at h1
    · rename_i x tk ek
      have hx : x = p.1 := of_decide_eq_true h1
      have hr : e.refKey = false := by unfold DictEntry.refKey; rw [ek]
      refine ⟨by rw [List.any_cons, hr, i1]; rfl, ?_⟩
      obtain ⟨y, d⟩ := p
      have hs : e.key.isStr z = (x == z) := by rw [ek]; rfl
      rw [List.lookup_cons, List.find?_cons, hs]
      by_cases hz : z = y
      · have hx : x = y := hx
        subst hz
        subst hx
        obtain ⟨v, r1, r2⟩ := datB_ok d e.val h2
        rw [beq_self_eq_true]
        exact ⟨e, v, rfl, r1, r2⟩
      · have hx : x = y := hx
        subst hx
        have e1 : (z == x) = false := by simpa using hz
        have e2 : (x == z) = false := by simpa using fun q => hz (Eq.symm q)
        rw [e1, e2]
        exact i2
    · cases h1
def exB (T : Tab) (K : PySem.W.Frag) : Bool := (T.gl.all fun p => match PySem.W.nsIn K mainGlobals p.1 with
    | some (some u) => datB K p.2 u
    | _ => false) && (T.gd.all fun p => He.eqO (PySem.W.nsIn K mainGlobals p.1) (some (some (.ref (He.ga K p.1)))) && (match K.lookup (He.ga K p.1) with
    | some ⟨_, _, .dict es _, _⟩ => rowsB K es.toList p.2
    | _ => false))
def faOf (T : Tab) : List He.Fa := freeNames.map He.Fa.free ++ T.fns.map fun d => He.Fa.glo d.name
def fnOf' (p : Fn × Src) : He.DefD := ⟨(p.1.name, none), p.1.name, p.2.qual, p.2.pars, p.2.body, p.2.scope, [], []⟩
def fnsOf (T : Tab) (src : List Src) : List He.DefD := (T.fns.zip src).map fnOf'
def tsOf (T : Tab) : List He.Tab := T.gd.map fun p => ((fun K => He.ga K p.1), p.2.map (·.1))
theorem txt_of {T : Tab} {src : List Src} {w : World} {K : PySem.W.Frag} {h : Heap} {mg : Str → Option Value} (X : K.In h) (G : h.Ns mainGlobals mg) (c : He.SaysX (faOf T) (fnsOf T src) (tsOf T) [] (exB T) w h K)
    (hck : (T.fns.zip src).all (fun p => ckFn T p.1 p.2) = true) (hl : T.fns.length = src.length) : Txt w K mg T src := by
  have cd := c.t.d
  have cm := c.more
  unfold exB at cm
  rw [Bool.and_eq_true, List.all_eq_true, List.all_eq_true] at cm
  obtain ⟨cg, cdi⟩ := cm
  refine ⟨fun x hx => ?_, fun p hp => ?_, fun p hp => ?_, fun f d hf => ?_⟩
  · exact He.free_ok X G (cd.facts (List.mem_append_left _ (List.mem_map_of_mem hx)))
  · have := cg p hp
    split at this
    · rename_i u q
      obtain ⟨v, r, e⟩ := datB_ok _ _ this
      exact ⟨u, v, PySem.W.mg_of X G q, r, e⟩
    · cases this
  · have h1 := cdi p hp
    rw [Bool.and_eq_true] at h1
    obtain ⟨h1, h2⟩ := h1
    obtain ⟨i, hi, e⟩ := List.mem_iff_getElem.mp hp
    obtain ⟨es, n, kd⟩ := c.t.tab i (t := ((fun K => He.ga K p.1), p.2.map (·.1))) (by
      unfold tsOf
      rw [List.getElem?_map, List.getElem?_eq_getElem hi, e]
      rfl)
    refine ⟨He.ga K p.1, PySem.W.mg_of X G (He.eqO_ok h1), es, n, kd.1, kd.2, kd.3, fun z => ?_⟩
    have hk : K.lookup (He.ga K p.1) = some ⟨.type "dict", none, .dict es n, #[]⟩ := kd.1
    rw [hk] at h2
    obtain ⟨a1, a2⟩ := rows_look z es.toList p.2 h2
    unfold PySem.W.nsIn
    rw [hk]
    dsimp only
    cases q : p.2.lookup z with
    | none =>
      rw [q] at a2
      have a2 : es.toList.find? (·.key.isStr z) = none := a2
      rw [a2]
      dsimp only
      rw [a1]
      exact ⟨none, rfl, rfl⟩
    | some dd =>
      rw [q] at a2
      obtain ⟨e, v, b1, b2, b3⟩ := a2
      rw [b1]
      exact ⟨some e.val, rfl, e.val, v, rfl, b2, b3⟩
  · have hlt : f < T.fns.length := (List.getElem?_eq_some_iff.mp hf).1
    have hs : f < src.length := by rw [← hl]; exact hlt
    have hz : (d, src[f]) ∈ T.fns.zip src := by
      refine List.mem_iff_getElem.mpr ⟨f, by rw [List.length_zip]; exact Nat.lt_min.mpr ⟨hlt, hs⟩, ?_⟩
      rw [List.getElem_zip]
      rw [List.getElem?_eq_getElem hlt] at hf
      rw [Option.some.inj hf]
    obtain ⟨fd, F⟩ := cd.defs (d := fnOf' (d, src[f])) (List.mem_map_of_mem hz)
    exact ⟨src[f], _, fd, List.getElem?_eq_getElem hs, List.all_eq_true.mp hck _ hz, He.glo_ok X G (cd.facts (List.mem_append_right _ (List.mem_map_of_mem (f := fun d : Fn => He.Fa.glo d.name) (List.mem_of_getElem? hf)))), F⟩
end PL

set_option maxHeartbeats 4000000
namespace PL.W
open PySem PySem.Spec PyProof.Rows L2 PL
abbrev at_ (i : Nat) : Stmt := (PySem.Challenge.pw_pagelives_k09_texts_written).main.body.getD i (.Pass ⟨0, 0, 0, 0⟩)
abbrev srcAt (x : Str) (i : Nat) : Src := ⟨x, (defArgs (at_ i)).args, defBody (at_ i), defScope (at_ i)⟩
def d_GUARDS : D := (.tuple [(.str "ahead"), (.str "quiet"), (.str "calm"), (.str "struck"), (.str "first"), (.str "clean"), (.str "whole"), (.str "level"), (.str "settled"), (.str "dead"), (.str "walked"), (.str "fixed")])
def d_LETTERS : D := (.str "abcdefghijklmnopqrstuvwxyz")
def t_DEED_PARTS : List (Str × D) := [("keep", (.tuple [(.str "page")])), ("plain", (.tuple [(.str "page")])), ("write", (.tuple [(.str "page")])), ("free", (.tuple [(.str "page")])), ("strike", (.tuple [(.str "page")])), ("flush", (.tuple [(.str "page")])), ("put", (.tuple [(.str "page")])), ("point", (.tuple [(.str "number")])), ("seal", (.tuple [])), ("stop", (.tuple [])), ("end", (.tuple []))]
def t_RECORD_PARTS : List (Str × D) := [("keep", (.tuple [(.str "page"), (.str "number")])), ("write", (.tuple [(.str "page"), (.str "number")])), ("plain", (.tuple [(.str "page"), (.str "number")])), ("free", (.tuple [(.str "page")])), ("strike", (.tuple [(.str "page")]))]
def f0 : Fn := ⟨"is_ascending", ["things", "one", "two"], 1,
  [.ret (.bi .all (.comp [1, 2] (.tup [1, 2]) (.zip (.loc 0) (.sl (.loc 0) (.so (.int 1)) .no)) .nil (.cmp .Lt (.loc 1) (.loc 2))))]⟩
def f1 : Fn := ⟨"is_integer", ["thing"], 1,
  [.ret (.bop true (.isi .int (.loc 0)) (.cons (.not (.isi .bool (.loc 0))) .nil))]⟩
def f2 : Fn := ⟨"is_page", ["thing", "letter"], 1,
  [.ifs (.bop false (.not (.isi .str (.loc 0))) (.cons (.not (.cmp2 .LtE .LtE (.int 1) (.bi .len (.loc 0)) (.int 8))) .nil)) [.ret (.bl false)] [], .ret (.bi .all (.comp [1] (.one 1) (.seq (.loc 0)) .nil (.cmp .In (.loc 1) (.gd "LETTERS" d_LETTERS))))]⟩
def f3 : Fn := ⟨"is_guard", ["thing"], 1,
  [.ret (.bop true (.isi .str (.loc 0)) (.cons (.cmp .In (.loc 0) (.gd "GUARDS" d_GUARDS)) .nil))]⟩
def f4 : Fn := ⟨"deed_parts", ["word"], 1,
  [.ret (.gget "DEED_PARTS" t_DEED_PARTS (.loc 0))]⟩
def f5 : Fn := ⟨"record_parts", ["word"], 1,
  [.ret (.gget "RECORD_PARTS" t_RECORD_PARTS (.loc 0))]⟩
def f6 : Fn := ⟨"has_word", ["thing"], 1,
  [.ret (.bop true (.isi .tuple (.loc 0)) (.cons (.cmp .Gt (.bi .len (.loc 0)) (.int 0)) (.cons (.isi .str (.ix (.loc 0) (.int 0))) .nil)))]⟩
def f7 : Fn := ⟨"is_part", ["thing", "kind"], 2,
  [.ifs (.cmp .Eq (.loc 1) (.str "page")) [.ret (.call 2 (.cons (.loc 0) .nil))] [], .ret (.bop true (.call 1 (.cons (.loc 0) .nil)) (.cons (.cmp .GtE (.loc 0) (.int 1)) .nil))]⟩
def f8 : Fn := ⟨"are_parts", ["things", "kinds", "thing", "kind"], 2,
  [.ifs (.bop false (.cmp .Is (.loc 1) .non) (.cons (.cmp .NotEq (.bi .len (.loc 0)) (.bi .len (.loc 1))) .nil)) [.ret (.bl false)] [], .ret (.bi .all (.comp [2, 3] (.tup [2, 3]) (.zip (.loc 0) (.loc 1)) .nil (.call 7 (.cons (.loc 2) (.cons (.loc 3) .nil)))))]⟩
def f9 : Fn := ⟨"is_record", ["thing"], 1,
  [.ret (.bop true (.call 6 (.cons (.loc 0) .nil)) (.cons (.call 8 (.cons (.sl (.loc 0) (.so (.int 1)) .no) (.cons (.call 5 (.cons (.ix (.loc 0) (.int 0)) .nil)) .nil))) .nil))]⟩
def f10 : Fn := ⟨"is_deed", ["thing"], 1,
  [.ret (.bop true (.call 6 (.cons (.loc 0) .nil)) (.cons (.call 8 (.cons (.sl (.loc 0) (.so (.int 1)) .no) (.cons (.call 4 (.cons (.ix (.loc 0) (.int 0)) .nil)) .nil))) .nil))]⟩
def f11 : Fn := ⟨"is_rule", ["thing", "guard"], 1,
  [.ifs (.bop false (.not (.isi .tuple (.loc 0))) (.cons (.not (.bi .all (.comp [1] (.one 1) (.seq (.loc 0)) .nil (.call 3 (.cons (.loc 1) .nil))))) .nil)) [.ret (.bl false)] [], .ret (.call 0 (.cons (.loc 0) .nil))]⟩
def f12 : Fn := ⟨"need", ["holds", "word"], 2,
  [.ifs (.not (.loc 0)) [.never] []]⟩
def f13 : Fn := ⟨"deed_text", ["deed"], 1,
  [.expr (.call 12 (.cons (.call 10 (.cons (.loc 0) .nil)) (.cons (.str "deed") .nil))), .ret (.call 17 (.cons (.loc 0) .nil))]⟩
def f14 : Fn := ⟨"record_text", ["record"], 1,
  [.expr (.call 12 (.cons (.call 9 (.cons (.loc 0) .nil)) (.cons (.str "record") .nil))), .ret (.call 17 (.cons (.loc 0) .nil))]⟩
def f15 : Fn := ⟨"rule_text", ["rule"], 1,
  [.expr (.call 12 (.cons (.call 11 (.cons (.loc 0) .nil)) (.cons (.str "rule") .nil))), .ret (.bop false (.join (.str ",") (.loc 0)) (.cons (.str "-") .nil))]⟩
def f16 : Fn := ⟨"history_text", ["history", "deed"], 1,
  [.expr (.call 12 (.cons (.bop true (.isi .tuple (.loc 0)) (.cons (.bi .all (.comp [1] (.one 1) (.seq (.loc 0)) .nil (.call 10 (.cons (.loc 1) .nil)))) .nil)) (.cons (.str "history") .nil))), .ret (.join (.str "\n") (.comp [1] (.one 1) (.seq (.loc 0)) .nil (.call 17 (.cons (.loc 1) .nil))))]⟩
def f17 : Fn := ⟨"parts_text", ["parts", "part"], 1,
  [.ret (.join (.str " ") (.comp [1] (.one 1) (.seq (.loc 0)) .nil (.bi .str (.loc 1))))]⟩
def f18 : Fn := ⟨"_law_spring", ["_law_script"], 1,
  [.ret (.dic ["cells", "place", "rest", "count"] (.cons (.bi .list (.sl (.loc 0) .no (.so (.int 60)))) (.cons (.int 0) (.cons (.int 0) (.cons (.int 0) .nil)))))]⟩
def f19 : Fn := ⟨"_law_dip", ["_law_spring_here", "_law_many", "_law_count", "_law_figure", "_law_turn", "_law_cell", "_law_mixed"], 2,
  [.asg 2 (.bin .Add (.ix (.loc 0) (.str "count")) (.int 1)), .dset (.loc 0) (.str "count") (.loc 2), .ifs (.cmp .Gt (.ix (.loc 0) (.str "rest")) (.int 0)) [.asg 3 (.bin .Mod (.bi .int (.ix (.loc 0) (.str "rest"))) (.loc 1)), .dset (.loc 0) (.str "rest") (.bin .FloorDiv (.ix (.loc 0) (.str "rest")) (.loc 1)), .ret (.loc 3)] [], .asg 4 (.ix (.loc 0) (.str "place")), .dset (.loc 0) (.str "place") (.bin .Add (.loc 4) (.int 1)), .asg 5 (.int 117105), .ifs (.cmp .NotEq (.ix (.loc 0) (.str "cells")) (.lst .nil)) [.asg 5 (.ix (.ix (.loc 0) (.str "cells")) (.bin .Mod (.bi .int (.loc 4)) (.bi .len (.ix (.loc 0) (.str "cells")))))] [], .ifs (.bop true (.cmp .GtE (.loc 5) (.bin .Pow (.int 10) (.int 18))) (.cons (.cmp .Lt (.loc 4) (.bi .len (.ix (.loc 0) (.str "cells")))) .nil)) [.dset (.loc 0) (.str "rest") (.bin .FloorDiv (.loc 5) (.loc 1)), .ret (.bin .Mod (.bi .int (.loc 5)) (.loc 1))] [], .asg 6 (.bin .Mod (.bi .int (.bin .Pow (.bin .Add (.bin .Add (.bin .Mod (.bi .int (.loc 5)) (.int 2147483353)) (.bin .Mult (.int 5077) (.loc 2))) (.int 353)) (.int 3))) (.int 2147483647)), .asg 6 (.bin .Mod (.bi .int (.bin .Pow (.bin .Add (.loc 6) (.bin .Mult (.int 30097) (.loc 2))) (.int 5))) (.int 2147483587)), .ret (.bin .Mod (.bi .int (.bin .FloorDiv (.loc 6) (.int 128))) (.loc 1))]⟩
def f20 : Fn := ⟨"_law_pick", ["_law_spring_here", "_law_items"], 2,
  [.ret (.ix (.loc 1) (.call 19 (.cons (.loc 0) (.cons (.bi .len (.loc 1)) .nil))))]⟩
def f21 : Fn := ⟨"_law_guards", ["_law_first"], 0,
  [.asg 0 (.lst (.cons (.str "ahead") (.cons (.str "quiet") (.cons (.str "calm") (.cons (.str "struck") (.cons (.str "first") (.cons (.str "clean") .nil))))))), .ret (.bin .Add (.loc 0) (.lst (.cons (.str "whole") (.cons (.str "level") (.cons (.str "settled") (.cons (.str "dead") (.cons (.str "walked") (.cons (.str "fixed") .nil))))))))]⟩
def f22 : Fn := ⟨"_law_rule", ["_law_spring_here", "_law_way", "_law_guards_here", "_law_out", "_law_one"], 1,
  [.par [1, 2] (.cons (.call 19 (.cons (.loc 0) (.cons (.int 6) .nil))) (.cons (.bi .sorted (.call 21 .nil)) .nil)), .ifs (.cmp .Lt (.loc 1) (.int 2)) [.ret (.bi .tuple (.sl (.loc 2) .no (.so (.bin .Mult (.int 12) (.loc 1)))))] [], .ifs (.cmp .Eq (.loc 1) (.int 2)) [.asg 3 (.call 20 (.cons (.loc 0) (.cons (.loc 2) .nil))), .ret (.bi .tuple (.comp [4] (.one 4) (.seq (.loc 2)) (.cons (.cmp .NotEq (.loc 4) (.loc 3)) .nil) (.loc 4)))] [], .ret (.bi .tuple (.comp [4] (.one 4) (.seq (.loc 2)) (.cons (.cmp .Eq (.call 19 (.cons (.loc 0) (.cons (.int 3) .nil))) (.int 0)) .nil) (.loc 4)))]⟩
def f23 : Fn := ⟨"_law_pages", ["_law_spring_here", "_law_menu"], 1,
  [.asg 1 (.lst (.cons (.lst (.cons (.str "a") (.cons (.str "b") (.cons (.str "c") .nil)))) (.cons (.lst (.cons (.str "p") (.cons (.str "pq") (.cons (.str "q") .nil)))) (.cons (.lst (.cons (.str "zzzzzzzz") (.cons (.str "a") (.cons (.str "ab") .nil)))) (.cons (.lst (.cons (.str "seal") (.cons (.str "stop") (.cons (.str "keep") .nil)))) .nil))))), .ret (.call 20 (.cons (.loc 0) (.cons (.bin .Add (.loc 1) (.lst (.cons (.lst (.cons (.str "strike") (.cons (.str "write") (.cons (.str "free") .nil)))) (.cons (.lst (.cons (.str "point") (.cons (.str "put") (.cons (.str "flush") .nil)))) .nil)))) .nil)))]⟩
def f24 : Fn := ⟨"_law_deed", ["_law_spring_here", "_law_pages_here", "_law_words", "_law_word"], 2,
  [.asg 2 (.lst (.cons (.str "keep") (.cons (.str "plain") (.cons (.str "write") (.cons (.str "free") (.cons (.str "strike") (.cons (.str "flush") (.cons (.str "put") (.cons (.str "seal") (.cons (.str "point") (.cons (.str "stop") (.cons (.str "end") .nil)))))))))))), .asg 3 (.call 20 (.cons (.loc 0) (.cons (.loc 2) .nil))), .ifs (.cmp .Eq (.loc 3) (.str "point")) [.ret (.tup (.cons (.loc 3) (.cons (.call 20 (.cons (.loc 0) (.cons (.lst (.cons (.int 1) (.cons (.int 2) (.cons (.int 9) (.cons (.int 10) (.cons (.bin .Add (.int 1) (.call 19 (.cons (.loc 0) (.cons (.int 60) .nil)))) (.cons (.bin .Pow (.int 10) (.int 59)) .nil))))))) .nil))) .nil)))] [], .ret (.ite (.cmp .In (.loc 3) (.tup (.cons (.str "seal") (.cons (.str "stop") (.cons (.str "end") .nil))))) (.tup (.cons (.loc 3) .nil)) (.tup (.cons (.loc 3) (.cons (.call 20 (.cons (.loc 0) (.cons (.loc 1) .nil))) .nil))))]⟩
def f25 : Fn := ⟨"_law_deeds", ["_law_spring_here", "_law_pages_here", "_law_most", "_law_lap"], 3,
  [.ret (.bi .tuple (.comp [3] (.one 3) (.rng (.call 19 (.cons (.loc 0) (.cons (.bin .Add (.loc 2) (.int 1)) .nil)))) .nil (.call 24 (.cons (.loc 0) (.cons (.loc 1) .nil)))))]⟩
def f26 : Fn := ⟨"_law_long", ["_law_spring_here", "_law_pages_here", "_law_some", "_law_k"], 2,
  [.asg 2 (.lst (.cons (.tup (.cons (.str "seal") .nil)) (.cons (.tup (.cons (.str "strike") (.cons (.ix (.loc 1) (.int 0)) .nil))) (.cons (.tup (.cons (.str "end") .nil)) .nil)))), .ret (.bi .tuple (.comp [3] (.one 3) (.rng (.call 20 (.cons (.loc 0) (.cons (.lst (.cons (.int 61) (.cons (.int 150) .nil))) .nil)))) .nil (.ix (.loc 2) (.bin .Mod (.bi .int (.loc 3)) (.int 3)))))]⟩
def f27 : Fn := ⟨"_law_record", ["_law_spring_here", "_law_pages_here", "_law_word", "_law_page"], 2,
  [.par [2, 3] (.cons (.call 20 (.cons (.loc 0) (.cons (.lst (.cons (.str "keep") (.cons (.str "write") (.cons (.str "plain") (.cons (.str "free") (.cons (.str "strike") .nil)))))) .nil))) (.cons (.call 20 (.cons (.loc 0) (.cons (.loc 1) .nil))) .nil)), .ifs (.cmp .In (.loc 2) (.tup (.cons (.str "free") (.cons (.str "strike") .nil)))) [.ret (.tup (.cons (.loc 2) (.cons (.loc 3) .nil)))] [], .ret (.tup (.cons (.loc 2) (.cons (.loc 3) (.cons (.call 20 (.cons (.loc 0) (.cons (.lst (.cons (.int 1) (.cons (.int 9) (.cons (.int 10) (.cons (.bin .Add (.int 1) (.call 19 (.cons (.loc 0) (.cons (.int 999) .nil)))) (.cons (.bin .Pow (.int 10) (.int 59)) .nil)))))) .nil))) .nil))))]⟩
def f28 : Fn := ⟨"_law_line", ["_law_parts", "_law_one"], 1,
  [.ret (.join (.str " ") (.comp [1] (.one 1) (.seq (.loc 0)) .nil (.bi .str (.loc 1))))]⟩
def f29 : Fn := ⟨"law", ["_law_script", "_law_spring_here", "_law_lap", "_law_pages_here", "_law_one", "_law_rec", "_law_own", "_law_row", "_law_told", "_law_due", "_law_part"], 1,
  [.asg 1 (.call 18 (.cons (.loc 0) .nil)), .fors (.one 2) (.rng (.int 4)) [.asg 3 (.call 23 (.cons (.loc 1) .nil)), .par [4, 5, 6] (.cons (.call 24 (.cons (.loc 1) (.cons (.loc 3) .nil))) (.cons (.call 27 (.cons (.loc 1) (.cons (.loc 3) .nil))) (.cons (.call 22 (.cons (.loc 1) .nil)) .nil))), .asg 7 (.call 25 (.cons (.loc 1) (.cons (.loc 3) (.cons (.int 8) .nil)))), .asg 8 (.lst (.cons (.call 13 (.cons (.loc 4) .nil)) (.cons (.call 14 (.cons (.loc 5) .nil)) (.cons (.call 15 (.cons (.loc 6) .nil)) (.cons (.call 16 (.cons (.loc 7) .nil)) .nil))))), .asg 9 (.lst (.cons (.call 28 (.cons (.loc 4) .nil)) (.cons (.call 28 (.cons (.loc 5) .nil)) (.cons (.ite (.cmp .NotEq (.loc 6) (.tup .nil)) (.join (.str ",") (.loc 6)) (.str "-")) .nil)))), .ifs (.cmp .NotEq (.bi .repr (.loc 8)) (.bi .repr (.bin .Add (.loc 9) (.lst (.cons (.join (.str "\n") (.comp [10] (.one 10) (.seq (.loc 7)) .nil (.call 28 (.cons (.loc 10) .nil)))) .nil))))) [.ret (.bl false)] []], .asg 7 (.call 26 (.cons (.loc 1) (.cons (.loc 3) .nil))), .ifs (.cmp .NotEq (.bi .repr (.call 16 (.cons (.loc 7) .nil))) (.bi .repr (.join (.str "\n") (.comp [10] (.one 10) (.seq (.loc 7)) .nil (.call 28 (.cons (.loc 10) .nil)))))) [.ret (.bl false)] [], .asg 8 (.lst (.cons (.callK 13 "deed" (.tup (.cons (.str "seal") .nil))) (.cons (.callK 14 "record" (.tup (.cons (.str "free") (.cons (.str "a") .nil)))) (.cons (.callK 15 "rule" (.tup .nil)) (.cons (.callK 16 "history" (.tup .nil)) .nil))))), .ret (.cmp .Eq (.bi .repr (.loc 8)) (.bi .repr (.lst (.cons (.str "seal") (.cons (.str "free a") (.cons (.str "-") (.cons (.str "") .nil)))))))]⟩
def fns : List Fn := [f0, f1, f2, f3, f4, f5, f6, f7, f8, f9, f10, f11, f12, f13, f14, f15, f16, f17, f18, f19, f20, f21, f22, f23, f24, f25, f26, f27, f28, f29]
def srcs : List Src := [srcAt "is_ascending" 1, srcAt "is_integer" 7, srcAt "is_page" 8, srcAt "is_guard" 9, srcAt "deed_parts" 10, srcAt "record_parts" 11, srcAt "has_word" 12, srcAt "is_part" 13, srcAt "are_parts" 14, srcAt "is_record" 15, srcAt "is_deed" 16, srcAt "is_rule" 17, srcAt "need" 23, srcAt "deed_text" 25, srcAt "record_text" 26, srcAt "rule_text" 27, srcAt "history_text" 28, srcAt "parts_text" 29, srcAt "_law_spring" 31, srcAt "_law_dip" 32, srcAt "_law_pick" 33, srcAt "_law_guards" 34, srcAt "_law_rule" 35, srcAt "_law_pages" 36, srcAt "_law_deed" 37, srcAt "_law_deeds" 38, srcAt "_law_long" 39, srcAt "_law_record" 40, srcAt "_law_line" 41, srcAt "law" 42]
def T : Tab := ⟨fns, [("GUARDS", d_GUARDS), ("LETTERS", d_LETTERS)], [("DEED_PARTS", t_DEED_PARTS), ("RECORD_PARTS", t_RECORD_PARTS)]⟩
theorem ck0 : ckFn T f0 (srcAt "is_ascending" 1) = true := by kernel_rfl
theorem ck1 : ckFn T f1 (srcAt "is_integer" 7) = true := by kernel_rfl
theorem ck2 : ckFn T f2 (srcAt "is_page" 8) = true := by kernel_rfl
theorem ck3 : ckFn T f3 (srcAt "is_guard" 9) = true := by kernel_rfl
theorem ck4 : ckFn T f4 (srcAt "deed_parts" 10) = true := by kernel_rfl
theorem ck5 : ckFn T f5 (srcAt "record_parts" 11) = true := by kernel_rfl
theorem ck6 : ckFn T f6 (srcAt "has_word" 12) = true := by kernel_rfl
theorem ck7 : ckFn T f7 (srcAt "is_part" 13) = true := by kernel_rfl
theorem ck8 : ckFn T f8 (srcAt "are_parts" 14) = true := by kernel_rfl
theorem ck9 : ckFn T f9 (srcAt "is_record" 15) = true := by kernel_rfl
theorem ck10 : ckFn T f10 (srcAt "is_deed" 16) = true := by kernel_rfl
theorem ck11 : ckFn T f11 (srcAt "is_rule" 17) = true := by kernel_rfl
theorem ck12 : ckFn T f12 (srcAt "need" 23) = true := by kernel_rfl
theorem ck13 : ckFn T f13 (srcAt "deed_text" 25) = true := by kernel_rfl
theorem ck14 : ckFn T f14 (srcAt "record_text" 26) = true := by kernel_rfl
theorem ck15 : ckFn T f15 (srcAt "rule_text" 27) = true := by kernel_rfl
theorem ck16 : ckFn T f16 (srcAt "history_text" 28) = true := by kernel_rfl
theorem ck17 : ckFn T f17 (srcAt "parts_text" 29) = true := by kernel_rfl
theorem ck18 : ckFn T f18 (srcAt "_law_spring" 31) = true := by kernel_rfl
theorem ck19 : ckFn T f19 (srcAt "_law_dip" 32) = true := by kernel_rfl
theorem ck20 : ckFn T f20 (srcAt "_law_pick" 33) = true := by kernel_rfl
theorem ck21 : ckFn T f21 (srcAt "_law_guards" 34) = true := by kernel_rfl
theorem ck22 : ckFn T f22 (srcAt "_law_rule" 35) = true := by kernel_rfl
theorem ck23 : ckFn T f23 (srcAt "_law_pages" 36) = true := by kernel_rfl
theorem ck24 : ckFn T f24 (srcAt "_law_deed" 37) = true := by kernel_rfl
theorem ck25 : ckFn T f25 (srcAt "_law_deeds" 38) = true := by kernel_rfl
theorem ck26 : ckFn T f26 (srcAt "_law_long" 39) = true := by kernel_rfl
theorem ck27 : ckFn T f27 (srcAt "_law_record" 40) = true := by kernel_rfl
theorem ck28 : ckFn T f28 (srcAt "_law_line" 41) = true := by kernel_rfl
theorem ck29 : ckFn T f29 (srcAt "law" 42) = true := by kernel_rfl
end PL.W

set_option maxHeartbeats 4000000
namespace PL.W
open PySem PySem.Spec PyProof.Rows L2 PL
/-! ### calls -/
def fin (S : Sto) : Option (Fl × Loc × Sto) → Option (R × Sto)
  | some (.rt (.d x), _, S') => some (.d x, S'.take S.length)
  | some (.rt r, _, S') => some (r, S')
  | some (.nx, _, S') => some (.d .none, S'.take S.length)
  | _ => none
theorem call_at {n f : Nat} {d : Fn} {rs : List R} {S : Sto} (hd : fns[f]? = some d) (hl : rs.length = d.np) : callN fns (n + 1) f rs S = fin S (evSs (callN fns n) d.body (rs.map some ++ List.replicate (d.names.length - rs.length) none) S) := by
  rw [callN, hd]
  dsimp only
  rw [if_pos hl]
  rfl
/-- a comprehension's turns that leave the store as it is -/
theorem loop_same {t : D → Sto → Option (Option D × Sto)} {S : Sto} (f : D → Option D) : ∀ (ds acc : List D), (∀ d ∈ ds, t d S = some (f d, S)) → acc.length + ds.length ≤ sizeLine → loopM none t ds acc S = some (acc ++ ds.filterMap f, S)
  | [], acc, _, _ => by simp [loopM]
  | d :: ds, acc, h, hl => by
    rw [List.length_cons] at hl
    rw [loopM, h d List.mem_cons_self]
    dsimp only
    rw [if_pos (show lockB none S = true from rfl)]
    cases hf : f d with
    | none =>
      dsimp only
      rw [loop_same f ds acc (fun x hx => h x (List.mem_cons_of_mem _ hx)) (by omega)]
      simp [hf]
    | some y =>
      dsimp only
      rw [if_pos (by omega), loop_same f ds (acc ++ [y]) (fun x hx => h x (List.mem_cons_of_mem _ hx)) (by rw [List.length_append, List.length_singleton]; omega)]
      simp [hf]
/-! ### the spring -/
def spO (cs : List Int) (p r c : Int) : Ob := .dic [(.inr "cells", .list (cs.map .int)), (.inr "place", .int p), (.inr "rest", .int r), (.inr "count", .int c)]
theorem sp_count {cs : List Int} {p r c : Int} : ixR (.ref 0) (.d (.str "count")) [spO cs p r c] = some (.int c) := rfl
theorem sp_place {cs : List Int} {p r c : Int} : ixR (.ref 0) (.d (.str "place")) [spO cs p r c] = some (.int p) := rfl
theorem sp_rest {cs : List Int} {p r c : Int} : ixR (.ref 0) (.d (.str "rest")) [spO cs p r c] = some (.int r) := rfl
theorem sp_cells {cs : List Int} {p r c : Int} : ixR (.ref 0) (.d (.str "cells")) [spO cs p r c] = some (.list (cs.map .int)) := rfl
theorem st_count {cs : List Int} {p r c x : Int} : dsetR (.ref 0) (.d (.str "count")) (.d (.int x)) [spO cs p r c] = some [spO cs p r x] := rfl
theorem st_place {cs : List Int} {p r c x : Int} : dsetR (.ref 0) (.d (.str "place")) (.d (.int x)) [spO cs p r c] = some [spO cs x r c] := rfl
theorem st_rest {cs : List Int} {p r c x : Int} : dsetR (.ref 0) (.d (.str "rest")) (.d (.int x)) [spO cs p r c] = some [spO cs p x c] := rfl
theorem mod_ok {i j : Int} {S : Sto} (h : 0 < j) : bin2 gMod (.d (.int i)) (.d (.int j)) S = some (.int (i % j)) := by
  show (if 0 < j then some (PyData.int (i % j)) else none) = _
  rw [if_pos h]
theorem div_ok {i j : Int} {S : Sto} (h : 0 < j) (k : j.natAbs.log2 < 9000) : bin2 gDiv (.d (.int i)) (.d (.int j)) S = some (.int (i / j)) := by
  show (if 0 < j ∧ j.natAbs.log2 < 9000 then some (PyData.int (i / j)) else none) = _
  rw [if_pos ⟨h, k⟩]
theorem add_ok {i j : Int} {S : Sto} : bin2 gAdd (.d (.int i)) (.d (.int j)) S = some (.int (i + j)) := rfl
theorem mul_ok {i j : Int} {S : Sto} (h : i.natAbs.log2 + j.natAbs.log2 < 1000000) : bin2 gMul (.d (.int i)) (.d (.int j)) S = some (.int (i * j)) := by
  show (if i.natAbs.log2 + j.natAbs.log2 < 1000000 then some (PyData.int (i * j)) else none) = _
  rw [if_pos h]
theorem pow_ok {i j : Int} {S : Sto} (h : 0 ≤ j) (k : j ≤ 1000000) (l : i.natAbs < 2 ^ 64) : bin2 gPow (.d (.int i)) (.d (.int j)) S = some (.int (i ^ j.toNat)) := by
  show (if 0 ≤ j ∧ j ≤ 1000000 ∧ i.natAbs < 2 ^ 64 then some (PyData.int (i ^ j.toNat)) else none) = _
  rw [if_pos ⟨h, k, l⟩]
theorem int_ok {i : Int} {S : Sto} : un1 gInt (.d (.int i)) S = some (.int i) := rfl
theorem gt_ok {i j : Int} {S : Sto} : bin2 gGt (.d (.int i)) (.d (.int j)) S = some (.bool (decide (j < i))) := rfl
theorem ge_ok {i j : Int} {S : Sto} : bin2 gGe (.d (.int i)) (.d (.int j)) S = some (.bool (decide (j ≤ i))) := rfl
theorem lt_ok {i j : Int} {S : Sto} : bin2 gLt (.d (.int i)) (.d (.int j)) S = some (.bool (decide (i < j))) := rfl
theorem len_ok {ds : List D} {S : Sto} : un1 gLen (.d (.list ds)) S = some (.int ds.length) := rfl
theorem log_lt {a b : Nat} (h : a < 2 ^ b) (hb : 0 < b) : a.log2 < b := by
  by_cases ha : a = 0
  · subst ha; simpa using hb
  · exact (Nat.log2_lt ha).mpr h
def thenF (cl : Cl) (rest : List Sx) : Fl → Loc → Sto → Option (Fl × Loc × Sto)
  | .nx, L', S' => evSs cl rest L' S'
  | f, L', S' => some (f, L', S')
section
variable {cl : Cl} {L : Loc} {S S1 S2 S3 S4 : Sto} {rest a' b' : List Sx} {i : Nat} {e a b d k v c : E} {x y z : R} {op : Operator} {cp : CmpOp} {g : D → D → Option D} {w : D}
theorem asg_at (h : evE cl e L S = some (x, S1)) : evSs cl (.asg i e :: rest) L S = evSs cl rest (L.set i (some x)) S1 := by
  rw [evSs, evS, h]; rfl
theorem dset_at (hv : evE cl v L S = some (z, S1)) (hd : evE cl d L S1 = some (x, S2)) (hk : evE cl k L S2 = some (y, S3)) (h : dsetR x y z S3 = some S4) : evSs cl (.dset d k v :: rest) L S = evSs cl rest L S4 := by
  rw [evSs, evS, hv]
  show okOr (okOr (evE cl d L S1) _) _ = _
  rw [hd]
  show okOr (okOr (evE cl k L S2) _) _ = _
  rw [hk]
  show okOr (okOr (dsetR x y z S3) _) _ = _
  rw [h]; rfl
theorem ret_at (h : evE cl e L S = some (x, S1)) : evSs cl (.ret e :: rest) L S = some (.rt x, L, S1) := by
  rw [evSs, evS, h]; rfl
theorem if_t (h : evE cl c L S = some (x, S1)) (t : truth x S1 = some true) {f : Fl} {L' : Loc} {S' : Sto} (q : evSs cl a' L S1 = some (f, L', S')) : evSs cl (.ifs c a' b' :: rest) L S = thenF cl rest f L' S' := by
  rw [evSs, evS, h]
  show okOr (okOr (truth x S1) _) _ = _
  rw [t]
  show okOr (evSs cl a' L S1) _ = _
  rw [q]
  cases f <;> rfl
theorem if_f (h : evE cl c L S = some (x, S1)) (t : truth x S1 = some false) {f : Fl} {L' : Loc} {S' : Sto} (q : evSs cl b' L S1 = some (f, L', S')) : evSs cl (.ifs c a' b' :: rest) L S = thenF cl rest f L' S' := by
  rw [evSs, evS, h]
  show okOr (okOr (truth x S1) _) _ = _
  rw [t]
  show okOr (evSs cl b' L S1) _ = _
  rw [q]
  cases f <;> rfl
theorem if_f0 (h : evE cl c L S = some (x, S1)) (t : truth x S1 = some false) : evSs cl (.ifs c a' [] :: rest) L S = evSs cl rest L S1 := by
  rw [if_f h t (f := .nx) (L' := L) (S' := S1) rfl]; rfl
theorem bin_at (h1 : evE cl a L S = some (x, S1)) (h2 : evE cl b L S1 = some (y, S2)) (h3 : gBin op = some g) (h4 : bin2 g x y S2 = some w) : evE cl (.bin op a b) L S = some (.d w, S2) := by
  rw [evE, h1]
  show okOr (evE cl b L S1) _ = _
  rw [h2]
  show okOr (gBin op) _ = _
  rw [h3]
  show okOr (bin2 g x y S2) _ = _
  rw [h4]; rfl
theorem cmp_at (h1 : evE cl a L S = some (x, S1)) (h2 : evE cl b L S1 = some (y, S2)) (h4 : bin2 (gCmp cp) x y S2 = some w) : evE cl (.cmp cp a b) L S = some (.d w, S2) := by
  rw [evE, h1]
  show okOr (evE cl b L S1) _ = _
  rw [h2]
  show okOr (bin2 (gCmp cp) x y S2) _ = _
  rw [h4]; rfl
theorem bi_at {t : Bi} (h1 : evE cl a L S = some (x, S1)) (h4 : un1 t.fn x S1 = some w) : evE cl (.bi t a) L S = some (.d w, S1) := by
  rw [evE, h1]
  show okOr (un1 t.fn x S1) _ = _
  rw [h4]; rfl
theorem ix_at (h1 : evE cl a L S = some (x, S1)) (h2 : evE cl b L S1 = some (y, S2)) (h4 : ixR x y S2 = some w) : evE cl (.ix a b) L S = some (.d w, S2) := by
  rw [evE, h1]
  show okOr (evE cl b L S1) _ = _
  rw [h2]
  show okOr (ixR x y S2) _ = _
  rw [h4]; rfl
theorem and_t (h1 : evE cl a L S = some (x, S1)) (t : truth x S1 = some true) (h2 : evE cl b L S1 = some (y, S2)) : evE cl (.bop true a (.cons b .nil)) L S = some (y, S2) := by
  rw [evE, h1]
  show okOr (truth x S1) _ = _
  rw [t]
  show okOr (evE cl b L S1) _ = _
  rw [h2]; rfl
theorem and_f (h1 : evE cl a L S = some (x, S1)) (t : truth x S1 = some false) {r : Es} : evE cl (.bop true a (.cons b r)) L S = some (x, S1) := by
  rw [evE, h1]
  show okOr (truth x S1) _ = _
  rw [t]; rfl
theorem or_t (h1 : evE cl a L S = some (x, S1)) (t : truth x S1 = some true) {r : Es} : evE cl (.bop false a (.cons b r)) L S = some (x, S1) := by
  rw [evE, h1]
  show okOr (truth x S1) _ = _
  rw [t]; rfl
theorem or_f (h1 : evE cl a L S = some (x, S1)) (t : truth x S1 = some false) (h2 : evE cl b L S1 = some (y, S2)) : evE cl (.bop false a (.cons b .nil)) L S = some (y, S2) := by
  rw [evE, h1]
  show okOr (truth x S1) _ = _
  rw [t]
  show okOr (evE cl b L S1) _ = _
  rw [h2]; rfl
theorem not_at {q : Bool} (h1 : evE cl a L S = some (x, S1)) (t : truth x S1 = some q) : evE cl (.not a) L S = some (.d (.bool (!q)), S1) := by
  rw [evE, h1]
  show okOr (truth x S1) _ = _
  rw [t]; rfl
theorem ite_t (h1 : evE cl c L S = some (x, S1)) (t : truth x S1 = some true) : evE cl (.ite c a b) L S = evE cl a L S1 := by
  rw [evE, h1]
  show okOr (truth x S1) _ = _
  rw [t]; rfl
theorem ite_f (h1 : evE cl c L S = some (x, S1)) (t : truth x S1 = some false) : evE cl (.ite c a b) L S = evE cl b L S1 := by
  rw [evE, h1]
  show okOr (truth x S1) _ = _
  rw [t]; rfl
end
theorem mod_rng (i : Int) {m : Int} (h : 0 < m) : 0 ≤ i % m ∧ i % m < m := ⟨Int.emod_nonneg _ (by omega), Int.emod_lt_of_pos _ h⟩
theorem cell_at {cs : List Int} {j : Int} (h0 : 0 ≤ j) (h1 : j < cs.length) : ∃ x, gIx (.list (cs.map .int)) (.int j) = some (.int x) := by
  have hj : j.toNat < cs.length := by omega
  refine ⟨cs[j.toNat], ?_⟩
  show atI (cs.map PyData.int) j = _
  unfold atI ixN
  rw [if_pos h0, List.length_map, if_pos h1]
  show (cs.map PyData.int)[j.toNat]? = _
  rw [List.getElem?_map, List.getElem?_eq_getElem hj]
  rfl
theorem canInts : ∀ cs : List Int, PyData.canLayAll0 (cs.map .int) = true
  | [] => by simp [PyData.canLayAll0]
  | c :: cs => by simp [PyData.canLayAll0, PyData.canLay0, canInts cs]
theorem depInts : ∀ cs : List Int, PyData.depthAll (cs.map .int) = 0
  | [] => by simp [PyData.depthAll]
  | c :: cs => by simp [PyData.depthAll, PyData.depth, depInts cs]
theorem shInts (cs : List Int) : SeqAt.shaped (.list (cs.map .int)) = true := by
  unfold SeqAt.shaped
  simp [PyData.canLay0, canInts, PyData.depth, depInts]
theorem cells_ne {cs : List Int} {S : Sto} : bin2 (gCmp .NotEq) (.d (.list (cs.map .int))) (.d (.list [])) S = some (.bool (!cs.isEmpty)) := by
  show (if bothS (.list (cs.map .int)) (.list []) = true ∨ (SeqAt.shaped (.list (cs.map .int)) = true ∧ SeqAt.shaped (.list []) = true) then some (PyData.bool (!PyData.eqv (.list (cs.map .int)) (.list []))) else none) = _
  rw [if_pos (.inr ⟨shInts cs, by decide +kernel⟩)]
  cases cs <;> simp [PyData.eqv, PyData.eqvAll]
theorem tail_dip (n : Nat) {m c x : Int} {o : Ob} {L4 : Option R} {L3 : Option R} (hc0 : 0 ≤ c) (hc : c < 2 ^ 40) (hm0 : 0 < m) :
    ∃ v L', 0 ≤ v ∧ v < m ∧ evSs (callN fns n) (f19.body.drop 8) [some (.ref 0), some (.d (.int m)), some (.d (.int c)), L3, L4, some (.d (.int x)), none] [o] = some (.rt (.d (.int v)), L', [o]) := by
  have b1 := mod_rng x (m := 2147483353) (by decide)
  have k1 : ((x % 2147483353 + 5077 * c + 353).natAbs) < 2 ^ 64 := by omega
  have b2 := mod_rng ((x % 2147483353 + 5077 * c + 353) ^ (3 : Int).toNat) (m := 2147483647) (by decide)
  generalize hy : (x % 2147483353 + 5077 * c + 353) ^ (3 : Int).toNat % 2147483647 = y at b2
  have k2 : ((y + 30097 * c).natAbs) < 2 ^ 64 := by omega
  have b3 := mod_rng ((y + 30097 * c) ^ (5 : Int).toNat / 1) (m := 2147483587) (by decide)
  have lc : c.natAbs.log2 < 64 := log_lt (by omega) (by decide)
  generalize hz : (y + 30097 * c) ^ (5 : Int).toNat % 2147483587 = z
  have bv := mod_rng (z / 128) hm0
  refine ⟨z / 128 % m, [some (.ref 0), some (.d (.int m)), some (.d (.int c)), L3, L4, some (.d (.int x)), some (.d (.int z))], bv.1, bv.2, ?_⟩
  refine Eq.trans (asg_at (x := .d (.int y)) (S1 := [o]) (bin_at (bi_at (bin_at (bin_at (bin_at (bin_at (bi_at (x := .d (.int x)) rfl int_ok) rfl rfl (mod_ok (by decide))) (bin_at rfl rfl rfl (mul_ok ?_)) rfl add_ok) rfl rfl add_ok) rfl rfl (pow_ok (by decide) (by decide) k1)) int_ok) rfl rfl ?_)) ?_
  · have : (5077 : Int).natAbs.log2 = 12 := by decide
    omega
  · rw [← hy]; exact mod_ok (by decide)
  refine Eq.trans (asg_at (x := .d (.int z)) (S1 := [o]) (bin_at (bi_at (bin_at (bin_at rfl (bin_at rfl rfl rfl (mul_ok ?_)) rfl add_ok) rfl rfl (pow_ok (by decide) (by decide) k2)) int_ok) rfl rfl ?_)) ?_
  · have : (30097 : Int).natAbs.log2 = 14 := by decide
    omega
  · rw [← hz]; exact mod_ok (by decide)
  exact ret_at (bin_at (bi_at (bin_at rfl rfl rfl (div_ok (by decide) (by decide))) int_ok) rfl rfl (mod_ok hm0))
theorem dip (n : Nat) {cs : List Int} {p r c m : Int} (hc0 : 0 ≤ c) (hc : c < 2 ^ 40 - 1) (hm0 : 0 < m) (hm : m < 2 ^ 40) :
    ∃ v p' r', 0 ≤ v ∧ v < m ∧ callN fns (n + 1) 19 [.ref 0, .d (.int m)] [spO cs p r c] = some (.d (.int v), [spO cs p' r' (c + 1)]) := by
  rw [call_at (d := f19) rfl rfl]
  have hl2 : m.natAbs.log2 < 9000 := by
    have : m.natAbs < 2 ^ 40 := by omega
    have := log_lt this (by decide)
    omega
  have start : evSs (callN fns n) f19.body ([R.ref 0, R.d (.int m)].map some ++ List.replicate (f19.names.length - 2) none) [spO cs p r c] =
      evSs (callN fns n) (f19.body.drop 2) [some (.ref 0), some (.d (.int m)), some (.d (.int (c + 1))), none, none, none, none] [spO cs p r (c + 1)] := rfl
  show ∃ v p' r', 0 ≤ v ∧ v < m ∧ fin _ (evSs (callN fns n) f19.body ([R.ref 0, R.d (.int m)].map some ++ List.replicate (f19.names.length - 2) none) [spO cs p r c]) = _
  rw [start]
  by_cases hr : 0 < r
  · have bv := mod_rng r hm0
    refine ⟨r % m, p, r / m, bv.1, bv.2, ?_⟩
    have e : evSs (callN fns n) (f19.body.drop 2) [some (.ref 0), some (.d (.int m)), some (.d (.int (c + 1))), none, none, none, none] [spO cs p r (c + 1)] = some (.rt (.d (.int (r % m))), [some (.ref 0), some (.d (.int m)), some (.d (.int (c + 1))), some (.d (.int (r % m))), none, none, none], [spO cs p (r / m) (c + 1)]) := by
      refine Eq.trans (if_t (x := .d (.bool true)) (S1 := [spO cs p r (c + 1)]) (cmp_at rfl rfl ?_) rfl (Eq.trans (asg_at (x := .d (.int (r % m))) (S1 := [spO cs p r (c + 1)]) (bin_at (bi_at (ix_at rfl rfl sp_rest) int_ok) rfl rfl (mod_ok hm0))) (Eq.trans (dset_at (z := .d (.int (r / m))) (bin_at (ix_at rfl rfl sp_rest) rfl rfl (div_ok hm0 hl2)) rfl rfl st_rest) (ret_at rfl)))) rfl
      exact gt_ok.trans (by rw [decide_eq_true hr])
    rw [e]
    rfl
  · have skip : evSs (callN fns n) (f19.body.drop 2) [some (.ref 0), some (.d (.int m)), some (.d (.int (c + 1))), none, none, none, none] [spO cs p r (c + 1)] =
        evSs (callN fns n) (f19.body.drop 6) [some (.ref 0), some (.d (.int m)), some (.d (.int (c + 1))), none, some (.d (.int p)), some (.d (.int 117105)), none] [spO cs (p + 1) r (c + 1)] :=
      Eq.trans (if_f0 (x := .d (.bool false)) (S1 := [spO cs p r (c + 1)]) (cmp_at rfl rfl (show bin2 gGt (.d (.int r)) (.d (.int 0)) [spO cs p r (c + 1)] = _ from gt_ok.trans (by rw [decide_eq_false hr]))) rfl) rfl
    rw [skip]
    have lenE : ∀ y : Option R, evE (callN fns n) (.bi .len (.ix (.loc 0) (.str "cells"))) [some (.ref 0), some (.d (.int m)), some (.d (.int (c + 1))), none, some (.d (.int p)), y, none] [spO cs (p + 1) r (c + 1)] = some (.d (.int (cs.length : Int)), [spO cs (p + 1) r (c + 1)]) := fun y =>
      bi_at (t := .len) (ix_at rfl rfl sp_cells) (show some (PyData.int ((cs.map PyData.int).length : Int)) = _ by rw [List.length_map])
    have cont : ∀ x : Int, ∃ v p' r', 0 ≤ v ∧ v < m ∧ fin [spO cs p r c] (evSs (callN fns n) (f19.body.drop 7) [some (.ref 0), some (.d (.int m)), some (.d (.int (c + 1))), none, some (.d (.int p)), some (.d (.int x)), none] [spO cs (p + 1) r (c + 1)]) = some (.d (.int v), [spO cs p' r' (c + 1)]) := fun x => by
      have tl : ∃ v p' r', 0 ≤ v ∧ v < m ∧ fin [spO cs p r c] (evSs (callN fns n) (f19.body.drop 8) [some (.ref 0), some (.d (.int m)), some (.d (.int (c + 1))), none, some (.d (.int p)), some (.d (.int x)), none] [spO cs (p + 1) r (c + 1)]) = some (.d (.int v), [spO cs p' r' (c + 1)]) := by
        obtain ⟨v, L', h0, h1, e⟩ := tail_dip n (m := m) (c := c + 1) (x := x) (o := spO cs (p + 1) r (c + 1)) (L4 := some (.d (.int p))) (L3 := none) (by omega) (by omega) hm0
        exact ⟨v, p + 1, r, h0, h1, by rw [e]; rfl⟩
      have ten : evE (callN fns n) (.bin .Pow (.int 10) (.int 18)) [some (.ref 0), some (.d (.int m)), some (.d (.int (c + 1))), none, some (.d (.int p)), some (.d (.int x)), none] [spO cs (p + 1) r (c + 1)] = some (.d (.int (10 ^ 18)), [spO cs (p + 1) r (c + 1)]) := bin_at rfl rfl rfl (pow_ok (by decide) (by decide) (by decide))
      by_cases hx : (10 : Int) ^ 18 ≤ x
      · have g1 : evE (callN fns n) (.cmp .GtE (.loc 5) (.bin .Pow (.int 10) (.int 18))) [some (.ref 0), some (.d (.int m)), some (.d (.int (c + 1))), none, some (.d (.int p)), some (.d (.int x)), none] [spO cs (p + 1) r (c + 1)] = some (.d (.bool true), [spO cs (p + 1) r (c + 1)]) :=
          cmp_at (x := .d (.int x)) rfl ten (show some (PyData.bool (decide ((10 : Int) ^ 18 ≤ x))) = some (PyData.bool true) by rw [decide_eq_true hx])
        have g2 : ∀ b, decide (p < (cs.length : Int)) = b → evE (callN fns n) (.cmp .Lt (.loc 4) (.bi .len (.ix (.loc 0) (.str "cells")))) [some (.ref 0), some (.d (.int m)), some (.d (.int (c + 1))), none, some (.d (.int p)), some (.d (.int x)), none] [spO cs (p + 1) r (c + 1)] = some (.d (.bool b), [spO cs (p + 1) r (c + 1)]) := fun b hb =>
          cmp_at (x := .d (.int p)) (y := .d (.int (cs.length : Int))) rfl (lenE _) (show some (PyData.bool (decide (p < (cs.length : Int)))) = _ by rw [hb])
        by_cases hp : p < (cs.length : Int)
        · have bv := mod_rng x hm0
          refine ⟨x % m, p + 1, x / m, bv.1, bv.2, ?_⟩
          have e : evSs (callN fns n) (f19.body.drop 7) [some (.ref 0), some (.d (.int m)), some (.d (.int (c + 1))), none, some (.d (.int p)), some (.d (.int x)), none] [spO cs (p + 1) r (c + 1)] = some (.rt (.d (.int (x % m))), [some (.ref 0), some (.d (.int m)), some (.d (.int (c + 1))), none, some (.d (.int p)), some (.d (.int x)), none], [spO cs (p + 1) (x / m) (c + 1)]) := by
            refine Eq.trans (if_t (x := .d (.bool true)) (S1 := [spO cs (p + 1) r (c + 1)]) (and_t g1 rfl (g2 true (decide_eq_true hp))) rfl (Eq.trans (dset_at (z := .d (.int (x / m))) (bin_at rfl rfl rfl (div_ok hm0 hl2)) rfl rfl st_rest) (ret_at (bin_at (bi_at rfl int_ok) rfl rfl (mod_ok hm0))))) rfl
          rw [e]
          rfl
        · rw [show evSs (callN fns n) (f19.body.drop 7) [some (.ref 0), some (.d (.int m)), some (.d (.int (c + 1))), none, some (.d (.int p)), some (.d (.int x)), none] [spO cs (p + 1) r (c + 1)] = evSs (callN fns n) (f19.body.drop 8) [some (.ref 0), some (.d (.int m)), some (.d (.int (c + 1))), none, some (.d (.int p)), some (.d (.int x)), none] [spO cs (p + 1) r (c + 1)] from
            if_f0 (x := .d (.bool false)) (S1 := [spO cs (p + 1) r (c + 1)]) (and_t g1 rfl (g2 false (decide_eq_false hp))) rfl]
          exact tl
      · have g0 : evE (callN fns n) (.cmp .GtE (.loc 5) (.bin .Pow (.int 10) (.int 18))) [some (.ref 0), some (.d (.int m)), some (.d (.int (c + 1))), none, some (.d (.int p)), some (.d (.int x)), none] [spO cs (p + 1) r (c + 1)] = some (.d (.bool false), [spO cs (p + 1) r (c + 1)]) :=
          cmp_at (x := .d (.int x)) rfl ten (show some (PyData.bool (decide ((10 : Int) ^ 18 ≤ x))) = some (PyData.bool false) by rw [decide_eq_false hx])
        rw [show evSs (callN fns n) (f19.body.drop 7) [some (.ref 0), some (.d (.int m)), some (.d (.int (c + 1))), none, some (.d (.int p)), some (.d (.int x)), none] [spO cs (p + 1) r (c + 1)] = evSs (callN fns n) (f19.body.drop 8) [some (.ref 0), some (.d (.int m)), some (.d (.int (c + 1))), none, some (.d (.int p)), some (.d (.int x)), none] [spO cs (p + 1) r (c + 1)] from
          if_f0 (x := .d (.bool false)) (S1 := [spO cs (p + 1) r (c + 1)]) (and_f g0 rfl) rfl]
        exact tl
    have ne : evE (callN fns n) (.cmp .NotEq (.ix (.loc 0) (.str "cells")) (.lst .nil)) [some (.ref 0), some (.d (.int m)), some (.d (.int (c + 1))), none, some (.d (.int p)), some (.d (.int 117105)), none] [spO cs (p + 1) r (c + 1)] = some (.d (.bool (!cs.isEmpty)), [spO cs (p + 1) r (c + 1)]) :=
      cmp_at (ix_at rfl rfl sp_cells) rfl cells_ne
    by_cases hcs : cs = []
    · rw [show evSs (callN fns n) (f19.body.drop 6) [some (.ref 0), some (.d (.int m)), some (.d (.int (c + 1))), none, some (.d (.int p)), some (.d (.int 117105)), none] [spO cs (p + 1) r (c + 1)] = evSs (callN fns n) (f19.body.drop 7) [some (.ref 0), some (.d (.int m)), some (.d (.int (c + 1))), none, some (.d (.int p)), some (.d (.int 117105)), none] [spO cs (p + 1) r (c + 1)] from
        if_f0 (x := .d (.bool false)) (S1 := [spO cs (p + 1) r (c + 1)]) (ne.trans (by rw [hcs]; rfl)) rfl]
      exact cont 117105
    · have hlen : 0 < (cs.length : Int) := by
        have := List.length_pos_iff.mpr hcs
        omega
      have b := mod_rng p hlen
      obtain ⟨x, hx⟩ := cell_at b.1 b.2
      have hem : cs.isEmpty = false := by cases cs <;> first | exact absurd rfl hcs | rfl
      rw [show evSs (callN fns n) (f19.body.drop 6) [some (.ref 0), some (.d (.int m)), some (.d (.int (c + 1))), none, some (.d (.int p)), some (.d (.int 117105)), none] [spO cs (p + 1) r (c + 1)] = evSs (callN fns n) (f19.body.drop 7) [some (.ref 0), some (.d (.int m)), some (.d (.int (c + 1))), none, some (.d (.int p)), some (.d (.int x)), none] [spO cs (p + 1) r (c + 1)] from
        Eq.trans (if_t (x := .d (.bool true)) (S1 := [spO cs (p + 1) r (c + 1)]) (ne.trans (by rw [hem]; rfl)) rfl (Eq.trans (asg_at (x := .d (.int x)) (S1 := [spO cs (p + 1) r (c + 1)]) (ix_at (x := .d (.list (cs.map .int))) (y := .d (.int (p % (cs.length : Int)))) (ix_at rfl rfl sp_cells) (bin_at (bi_at rfl int_ok) (lenE _) rfl (mod_ok hlen)) hx)) rfl)) rfl]
      exact cont x
end PL.W

set_option maxHeartbeats 4000000
namespace PL.W
open PySem PySem.Spec PyProof.Rows L2 PL
/-- a comprehension's turn -/
def turn (cl : Cl) (own : List Nat) (tg : Tg) (cs : Es) (e : E) (L : Loc) : D → Sto → Option (Option D × Sto) := fun d S => okOr (bindT tg d (wipeL L own)) fun L' => okOr (evT cl cs L' S) fun (b, S') => match b with
  | true => okOr (evE cl e L' S') fun (y, S2) => okOr (asD y) fun y => some (some y, S2)
  | false => some (none, S')
section
variable {cl : Cl} {L : Loc} {S S1 S2 : Sto} {i f : Nat} {e a b : E} {es cs : Es} {x y : R} {rs xs : List R} {ds ys : List D} {z : R × Sto} {own : List Nat} {tg : Tg} {it : It'} {w : D}
theorem es_nil : evEs cl .nil L S = some ([], S) := rfl
theorem es_cons (h1 : evE cl e L S = some (x, S1)) (h2 : evEs cl es L S1 = some (xs, S2)) : evEs cl (.cons e es) L S = some (x :: xs, S2) := by
  rw [evEs, h1]
  show okOr (evEs cl es L S1) _ = _
  rw [h2]; rfl
theorem call_e (h1 : evEs cl es L S = some (rs, S1)) (h2 : cl f rs S1 = some z) : evE cl (.call f es) L S = some z := by
  rw [evE, h1]
  exact h2
theorem tup_at (h1 : evEs cl es L S = some (rs, S1)) (h2 : asDs rs = some ds) (h3 : ds.length ≤ sizeLine) : evE cl (.tup es) L S = some (.d (.tuple ds), S1) := by
  rw [evE, h1]
  show okOr (asDs rs) _ = _
  rw [h2]
  show (if ds.length ≤ sizeLine then _ else _) = _
  rw [if_pos h3]
theorem lst_at (h1 : evEs cl es L S = some (rs, S1)) (h2 : asDs rs = some ds) (h3 : ds.length ≤ sizeLine) : evE cl (.lst es) L S = some (.d (.list ds), S1) := by
  rw [evE, h1]
  show okOr (asDs rs) _ = _
  rw [h2]
  show (if ds.length ≤ sizeLine then _ else _) = _
  rw [if_pos h3]
theorem join_at {z : Str} (h1 : evE cl a L S = some (.d (.str z), S1)) (h2 : evE cl b L S1 = some (y, S2)) (h4 : bin2 gJoin (.d (.str z)) y S2 = some w) : evE cl (.join a b) L S = some (.d w, S2) := by
  rw [evE, h1]
  show okOr (evE cl b L S1) _ = _
  rw [h2]
  show okOr (bin2 gJoin (.d (.str z)) y S2) _ = _
  rw [h4]; rfl
theorem comp_at (h1 : evI cl it L S = some (ds, none, S1)) (h2 : loopM none (turn cl own tg cs e L) ds [] S1 = some (ys, S2)) : evE cl (.comp own tg it cs e) L S = some (.d (.list ys), S2) := by
  rw [evE, h1]
  show okOr (loopM none (turn cl own tg cs e L) ds [] S1) _ = _
  rw [h2]; rfl
theorem turn_at {L' : Loc} {d y : D} (h1 : bindT tg d (wipeL L own) = some L') (h2 : evT cl cs L' S = some (true, S1)) (h3 : evE cl e L' S1 = some (.d y, S2)) : turn cl own tg cs e L d S = some (some y, S2) := by
  unfold turn
  rw [h1]
  show okOr (evT cl cs L' S) _ = _
  rw [h2]
  show okOr (evE cl e L' S1) _ = _
  rw [h3]; rfl
theorem turn_no {L' : Loc} {d : D} (h1 : bindT tg d (wipeL L own) = some L') (h2 : evT cl cs L' S = some (false, S1)) : turn cl own tg cs e L d S = some (none, S1) := by
  unfold turn
  rw [h1]
  show okOr (evT cl cs L' S) _ = _
  rw [h2]; rfl
theorem test1 {q : Bool} (h1 : evE cl e L S = some (x, S1)) (h2 : truth x S1 = some q) : evT cl (.cons e .nil) L S = some (q, S1) := by
  rw [evT, h1]
  show okOr (truth x S1) _ = _
  rw [h2]; rfl
theorem expr_at {rest : List Sx} (h : evE cl e L S = some (x, S1)) : evSs cl (.expr e :: rest) L S = evSs cl rest L S1 := by
  rw [evSs, evS, h]; rfl
end
/-- a comprehension's turns: what is put in has P, the store keeps I -/
theorem loop_all {t : D → Sto → Option (Option D × Sto)} {I : Nat → Sto → Prop} {P : D → Prop} {N : Nat} : ∀ (ds acc : List D) (j : Nat) (S : Sto), I j S → (∀ d ∈ ds, ∀ j S, j < N → I j S → ∃ y S', t d S = some (some y, S') ∧ P y ∧ I (j + 1) S') → acc.length + ds.length ≤ sizeLine → j + ds.length ≤ N →
    ∃ zs S', loopM none t ds acc S = some (acc ++ zs, S') ∧ (∀ z ∈ zs, P z) ∧ zs.length = ds.length ∧ I (j + ds.length) S'
  | [], acc, j, S, h, _, _, _ => ⟨[], S, by simp [loopM], by simp, rfl, h⟩
  | d :: ds, acc, j, S, h, ht, hl, hN => by
    rw [List.length_cons] at hl hN
    obtain ⟨y, S1, e, p, h1⟩ := ht d List.mem_cons_self j S (by omega) h
    obtain ⟨zs, S2, e2, p2, l2, h2⟩ := loop_all (I := I) (P := P) ds (acc ++ [y]) (j + 1) S1 h1 (fun x hx => ht x (List.mem_cons_of_mem _ hx)) (by rw [List.length_append, List.length_singleton]; omega) (by omega)
    refine ⟨y :: zs, S2, ?_, fun z hz => ?_, by rw [List.length_cons, l2]; rfl, ?_⟩
    · rw [loopM, e]
      dsimp only
      rw [if_pos (show lockB none S1 = true from rfl), if_pos (by omega), e2, List.append_assoc]
      rfl
    · rcases List.mem_cons.mp hz with rfl | hz
      · exact p
      · exact p2 z hz
    · have : j + 1 + ds.length = j + (d :: ds).length := by rw [List.length_cons]; omega
      rw [← this]; exact h2
/-- a comprehension that leaves some out -/
theorem loop_sub {t : D → Sto → Option (Option D × Sto)} {I : Nat → Sto → Prop} {N : Nat} : ∀ (ds acc : List D) (j : Nat) (S : Sto), I j S → (∀ d ∈ ds, ∀ j S, j < N → I j S → ∃ S', (t d S = some (some d, S') ∨ t d S = some (none, S')) ∧ I (j + 1) S') → acc.length + ds.length ≤ sizeLine → j + ds.length ≤ N →
    ∃ zs S', loopM none t ds acc S = some (acc ++ zs, S') ∧ zs.Sublist ds ∧ I (j + ds.length) S'
  | [], acc, j, S, h, _, _, _ => ⟨[], S, by simp [loopM], List.Sublist.slnil, h⟩
  | d :: ds, acc, j, S, h, ht, hl, hN => by
    rw [List.length_cons] at hl hN
    obtain ⟨S1, e, h1⟩ := ht d List.mem_cons_self j S (by omega) h
    have ej : j + 1 + ds.length = j + (d :: ds).length := by rw [List.length_cons]; omega
    rcases e with e | e
    · obtain ⟨zs, S2, e2, l2, h2⟩ := loop_sub (I := I) ds (acc ++ [d]) (j + 1) S1 h1 (fun x hx => ht x (List.mem_cons_of_mem _ hx)) (by rw [List.length_append, List.length_singleton]; omega) (by omega)
      refine ⟨d :: zs, S2, ?_, l2.cons_cons d, ej ▸ h2⟩
      rw [loopM, e]
      dsimp only
      rw [if_pos (show lockB none S1 = true from rfl), if_pos (by omega), e2, List.append_assoc]
      rfl
    · obtain ⟨zs, S2, e2, l2, h2⟩ := loop_sub (I := I) ds acc (j + 1) S1 h1 (fun x hx => ht x (List.mem_cons_of_mem _ hx)) (by omega) (by omega)
      refine ⟨zs, S2, ?_, l2.cons d, ej ▸ h2⟩
      rw [loopM, e]
      dsimp only
      rw [if_pos (show lockB none S1 = true from rfl), e2]
/-! ### the spring's state -/
def Sp (cs : List Int) (k : Int) (S : Sto) : Prop := ∃ p r c, S = [spO cs p r c] ∧ 0 ≤ c ∧ c ≤ k
theorem Sp.mono {cs : List Int} {k k' : Int} {S : Sto} (h : Sp cs k S) (hk : k ≤ k') : Sp cs k' S := by
  obtain ⟨p, r, c, e, h0, h1⟩ := h
  exact ⟨p, r, c, e, h0, by omega⟩
theorem Sp.one {cs : List Int} {k : Int} {S : Sto} (h : Sp cs k S) : ∃ o, S = [o] := by
  obtain ⟨p, r, c, e, h0, h1⟩ := h
  exact ⟨_, e⟩
theorem fin_sp {cs : List Int} {k k' : Int} {S S' : Sto} (h : Sp cs k S) (h' : Sp cs k' S') {x : D} {L : Loc} : fin S (some (.rt (.d x), L, S')) = some (.d x, S') := by
  obtain ⟨o, rfl⟩ := h.one
  obtain ⟨o', rfl⟩ := h'.one
  rfl
theorem dipS (n : Nat) {cs : List Int} {k m : Int} {S : Sto} (h : Sp cs k S) (hk : k < 2 ^ 39) (hm0 : 0 < m) (hm : m < 2 ^ 39) : ∃ v S', 0 ≤ v ∧ v < m ∧ callN fns (n + 1) 19 [.ref 0, .d (.int m)] S = some (.d (.int v), S') ∧ Sp cs (k + 1) S' := by
  obtain ⟨p, r, c, rfl, h0, h1⟩ := h
  obtain ⟨v, p', r', a, b, e⟩ := dip n (cs := cs) (p := p) (r := r) (c := c) (m := m) h0 (by omega) hm0 (by omega)
  exact ⟨v, _, a, b, e, p', r', c + 1, rfl, by omega, by omega⟩
theorem at_list {ds : List D} {j : Int} (h0 : 0 ≤ j) (h1 : j < ds.length) : ∃ x ∈ ds, gIx (.list ds) (.int j) = some x := by
  have hj : j.toNat < ds.length := by omega
  refine ⟨ds[j.toNat], List.getElem_mem hj, ?_⟩
  show atI ds j = _
  unfold atI ixN
  rw [if_pos h0, if_pos h1]
  exact List.getElem?_eq_getElem hj
theorem pickS (n : Nat) {cs : List Int} {k : Int} {S : Sto} (h : Sp cs k S) (hk : k < 2 ^ 39) {ds : List D} (hd : ds ≠ []) (hl : ds.length < 1000) : ∃ d ∈ ds, ∃ S', callN fns (n + 2) 20 [.ref 0, .d (.list ds)] S = some (.d d, S') ∧ Sp cs (k + 1) S' := by
  have h0 : 0 < ds.length := List.length_pos_iff.mpr hd
  obtain ⟨v, S1, a, b, e, h1⟩ := dipS n h hk (m := (ds.length : Int)) (by omega) (by omega)
  obtain ⟨x, hx, ex⟩ := at_list a b
  refine ⟨x, hx, S1, ?_, h1⟩
  rw [call_at (d := f20) rfl rfl]
  have q : evSs (callN fns (n + 1)) f20.body [some (.ref 0), some (.d (.list ds))] S = some (.rt (.d x), [some (.ref 0), some (.d (.list ds))], S1) :=
    ret_at (ix_at (x := .d (.list ds)) (y := .d (.int v)) rfl (call_e (es_cons rfl (es_cons rfl es_nil)) e) ex)
  show fin S (evSs (callN fns (n + 1)) f20.body [some (.ref 0), some (.d (.list ds))] S) = _
  rw [q]
  exact fin_sp h h1
end PL.W

set_option maxHeartbeats 4000000
namespace PL.W
open PySem PySem.Spec PyProof.Rows L2 PL
/-! ### texts that are not long -/
structure Fit (N : Nat) (x : Str) : Prop where
  len : x.length ≤ N
  ok : PyData.strOk x = true
theorem Fit.mono {N M : Nat} {x : Str} (h : Fit N x) (k : N ≤ M) : Fit M x := ⟨Nat.le_trans h.len k, h.ok⟩
theorem fit_of {N : Nat} {x : Str} (h : (decide (x.length ≤ N) && PyData.strOk x) = true) : Fit N x := by
  rw [Bool.and_eq_true, decide_eq_true_eq] at h
  exact ⟨h.1, h.2⟩
theorem glue_ok {g : Array Nat} {N G : Nat} (hg : g.size ≤ G) (hg2 : g.all (· < 0x110000) = true) : ∀ (l : List Str) (acc : Array Nat), (∀ y ∈ l, Fit N y) → acc.all (· < 0x110000) = true →
    (l.foldl (fun acc p => acc ++ g ++ p.cps) acc).size ≤ acc.size + l.length * (G + N) ∧ (l.foldl (fun acc p => acc ++ g ++ p.cps) acc).all (· < 0x110000) = true
  | [], acc, _, h => ⟨by simp, h⟩
  | y :: r, acc, hy, h => by
    have f := hy y List.mem_cons_self
    have a : (acc ++ g ++ y.cps).all (· < 0x110000) = true := by
      rw [Array.all_append, Array.all_append, h, hg2]
      exact f.ok
    obtain ⟨h1, h2⟩ := glue_ok hg hg2 r (acc ++ g ++ y.cps) (fun z hz => hy z (List.mem_cons_of_mem _ hz)) a
    refine ⟨?_, h2⟩
    have l1 : y.cps.size ≤ N := f.len
    rw [List.foldl_cons, List.length_cons]
    refine Nat.le_trans h1 ?_
    rw [Array.size_append, Array.size_append, Nat.succ_mul]
    omega
theorem join_fit {sep : Str} {xs : List Str} {N G : Nat} (hs : Fit G sep) (h : ∀ y ∈ xs, Fit N y) : Fit (xs.length * (G + N)) (Txt.join sep xs) := by
  cases xs with
  | nil => exact ⟨Nat.zero_le _, (by show PyData.strOk Str.empty = true; decide +kernel)⟩
  | cons y r =>
    have f := h y List.mem_cons_self
    obtain ⟨h1, h2⟩ := glue_ok hs.len hs.ok r y.cps (fun z hz => h z (List.mem_cons_of_mem _ hz)) f.ok
    have l1 : y.cps.size ≤ N := f.len
    refine ⟨?_, h2⟩
    have : (Txt.join sep (y :: r)).length ≤ y.cps.size + r.length * (G + N) := h1
    rw [List.length_cons, Nat.succ_mul]
    omega
theorem sum_le {N : Nat} : ∀ {xs : List Str}, (∀ y ∈ xs, Fit N y) → (xs.map (·.length)).sum ≤ xs.length * N
  | [], _ => by simp
  | x :: r, h => by
    have := sum_le (xs := r) fun y hy => h y (List.mem_cons_of_mem _ hy)
    have l := (h x List.mem_cons_self).len
    rw [List.map_cons, List.sum_cons, List.length_cons, Nat.succ_mul]
    omega
theorem strs_map : ∀ xs : List Str, strsD (xs.map PyData.str) = some xs
  | [] => rfl
  | x :: r => by
    show (strsD (r.map PyData.str)).map (x :: ·) = _
    rw [strs_map r]; rfl
theorem join_ok {sep : Str} {xs : List Str} {N G : Nat} {S : Sto} (hs : Fit G sep) (h : ∀ y ∈ xs, Fit N y) (hz : xs.length * (G + N) ≤ 16777216) : bin2 gJoin (.d (.str sep)) (.d (.list (xs.map .str))) S = some (.str (Txt.join sep xs)) := by
  have e : gJoin (.str sep) (.list (xs.map .str)) = some (.str (Txt.join sep xs)) := by
    unfold gJoin
    rw [show (seqD (.list (xs.map PyData.str))).bind strsD = some xs from strs_map xs]
    dsimp only
    have := sum_le h
    have h2 := Nat.mul_le_mul_left xs.length hs.len
    rw [Nat.mul_add] at hz
    rw [if_pos (by omega)]
  exact e
theorem join_okT {sep : Str} {xs : List Str} {N G : Nat} {S : Sto} (hs : Fit G sep) (h : ∀ y ∈ xs, Fit N y) (hz : xs.length * (G + N) ≤ 16777216) : bin2 gJoin (.d (.str sep)) (.d (.tuple (xs.map .str))) S = some (.str (Txt.join sep xs)) := join_ok (S := S) hs h hz
/-! ### deeds and records -/
def P18 : List Str := ["a", "b", "c", "p", "pq", "q", "zzzzzzzz", "a", "ab", "seal", "stop", "keep", "strike", "write", "free", "point", "put", "flush"]
def PAGES : List (List Str) := [["a", "b", "c"], ["p", "pq", "q"], ["zzzzzzzz", "a", "ab"], ["seal", "stop", "keep"], ["strike", "write", "free"], ["point", "put", "flush"]]
def W7 : List Str := ["keep", "plain", "write", "free", "strike", "flush", "put"]
def W3 : List Str := ["seal", "stop", "end"]
def R2 : List Str := ["free", "strike"]
def R3 : List Str := ["keep", "write", "plain"]
def Num (v : Int) : Prop := (1 ≤ v ∧ v < 1000) ∨ v = 10 ^ 59
inductive Deed : List D → Prop
  | page {w p : Str} (hw : w ∈ W7) (hp : p ∈ P18) : Deed [.str w, .str p]
  | point {v : Int} (hv : Num v) : Deed [.str "point", .int v]
  | bare {w : Str} (hw : w ∈ W3) : Deed [.str w]
inductive Rec : List D → Prop
  | two {w p : Str} (hw : w ∈ R2) (hp : p ∈ P18) : Rec [.str w, .str p]
  | three {w p : Str} {v : Int} (hw : w ∈ R3) (hp : p ∈ P18) (hv : Num v) : Rec [.str w, .str p, .int v]
theorem Num.pos {v : Int} (h : Num v) : 1 ≤ v ∧ v.natAbs < 10 ^ 60 := by
  rcases h with h | h
  · omega
  · subst h; decide
/-- what is handed over as text -/
structure Parts (ds : List D) (xs : List Str) : Prop where
  text : ds.map gStr = xs.map fun x => some (.str x)
  few : xs.length ≤ 3
  fit : ∀ y ∈ xs, Fit 61 y
theorem words_fit : ∀ w ∈ W7 ++ W3 ++ R2 ++ R3 ++ P18 ++ [("point" : Str)], Fit 61 w := fun w hw => fit_of (List.all_eq_true.mp (show (W7 ++ W3 ++ R2 ++ R3 ++ P18 ++ [("point" : Str)]).all (fun x => decide (x.length ≤ 61) && PyData.strOk x) = true by decide +kernel) w hw)
theorem strOk_of (s : String) : PyData.strOk (Str.ofString s) = true := by
  rw [Str.ofString_eq_toList]
  unfold PyData.strOk
  simp only [List.all_toArray, List.all_map, List.all_eq_true, Function.comp, decide_eq_true_eq]
  intro c _
  have := c.valid
  rcases this with h | h
  · exact Nat.lt_trans h (by decide)
  · exact h.2
theorem num_text {v : Int} (h : Num v) : ∃ x : Str, gStr (.int v) = some (.str x) ∧ Fit 61 x := by
  obtain ⟨h1, h2⟩ := h.pos
  have l : v.natAbs.log2 < 1920 := by
    have : v.natAbs < 2 ^ 200 := Nat.lt_of_lt_of_le h2 (by decide)
    have := log_lt this (by decide)
    omega
  refine ⟨toString v, ?_, ?_, strOk_of _⟩
  · show (if v.natAbs.log2 < 1920 then some (PyData.str (toString v)) else none) = _
    rw [if_pos l]
  · show (Str.ofString (toString v)).length ≤ 61
    rw [PySem.ofString_length]
    exact int_text_length_le10 (by decide) h2
theorem Deed.parts {ds : List D} (h : Deed ds) : ∃ xs, Parts ds xs := by
  cases h with
  | page hw hp =>
    rename_i w p
    refine ⟨[w, p], rfl, (by show 2 ≤ 3; decide), fun y hy => ?_⟩
    simp only [List.mem_cons, List.not_mem_nil, or_false] at hy
    rcases hy with rfl | rfl
    · exact words_fit _ (by simp only [List.mem_append]; exact .inl (.inl (.inl (.inl (.inl hw)))))
    · exact words_fit _ (by simp only [List.mem_append]; exact .inl (.inr hp))
  | point hv =>
    rename_i v
    obtain ⟨x, hx, fx⟩ := num_text hv
    refine ⟨["point", x], by rw [List.map_cons, List.map_cons, hx]; rfl, (by show 2 ≤ 3; decide), fun y hy => ?_⟩
    simp only [List.mem_cons, List.not_mem_nil, or_false] at hy
    rcases hy with rfl | rfl
    · exact words_fit _ (by decide +kernel)
    · exact fx
  | bare hw =>
    rename_i w
    refine ⟨[w], rfl, (by show 1 ≤ 3; decide), fun y hy => ?_⟩
    simp only [List.mem_cons, List.not_mem_nil, or_false] at hy
    subst hy
    exact words_fit _ (by simp only [List.mem_append]; exact .inl (.inl (.inl (.inl (.inr hw)))))
theorem Rec.parts {ds : List D} (h : Rec ds) : ∃ xs, Parts ds xs := by
  cases h with
  | two hw hp =>
    rename_i w p
    refine ⟨[w, p], rfl, (by show 2 ≤ 3; decide), fun y hy => ?_⟩
    simp only [List.mem_cons, List.not_mem_nil, or_false] at hy
    rcases hy with rfl | rfl
    · exact words_fit _ (by simp only [List.mem_append]; exact .inl (.inl (.inl (.inr hw))))
    · exact words_fit _ (by simp only [List.mem_append]; exact .inl (.inr hp))
  | three hw hp hv =>
    rename_i w p v
    obtain ⟨x, hx, fx⟩ := num_text hv
    refine ⟨[w, p, x], by rw [List.map_cons, List.map_cons, List.map_cons, hx]; rfl, (by show 3 ≤ 3; decide), fun y hy => ?_⟩
    simp only [List.mem_cons, List.not_mem_nil, or_false] at hy
    rcases hy with rfl | rfl | rfl
    · exact words_fit _ (by simp only [List.mem_append]; exact .inl (.inl (.inr hw)))
    · exact words_fit _ (by simp only [List.mem_append]; exact .inl (.inr hp))
    · exact fx
/-! ### the program says yes -/
theorem deed_pages (n : Nat) (o : Ob) : (W7.flatMap fun w => P18.map fun p => callN fns (n + 4) 10 [.d (.tuple [.str w, .str p])] [o]) = List.replicate 126 (some (.d (.bool true), [o])) := by kernel_rfl
theorem deed_point (n : Nat) (o : Ob) (v : Int) : callN fns (n + 4) 10 [.d (.tuple [.str "point", .int v])] [o] = some (.d (.bool (decide (1 ≤ v) && true)), [o]) := by kernel_rfl
theorem deed_bare (n : Nat) (o : Ob) : (W3.map fun w => callN fns (n + 4) 10 [.d (.tuple [.str w])] [o]) = List.replicate 3 (some (.d (.bool true), [o])) := by kernel_rfl
theorem Deed.yes (n : Nat) (o : Ob) {ds : List D} (h : Deed ds) : callN fns (n + 4) 10 [.d (.tuple ds)] [o] = some (.d (.bool true), [o]) := by
  cases h with
  | page hw hp =>
    rename_i w p
    have m : callN fns (n + 4) 10 [.d (.tuple [.str w, .str p])] [o] ∈ (W7.flatMap fun w => P18.map fun p => callN fns (n + 4) 10 [.d (.tuple [.str w, .str p])] [o]) := List.mem_flatMap.mpr ⟨w, hw, List.mem_map.mpr ⟨p, hp, rfl⟩⟩
    rw [deed_pages] at m
    exact List.eq_of_mem_replicate m
  | point hv =>
    rw [deed_point, decide_eq_true hv.pos.1]; rfl
  | bare hw =>
    rename_i w
    have m : callN fns (n + 4) 10 [.d (.tuple [.str w])] [o] ∈ (W3.map fun w => callN fns (n + 4) 10 [.d (.tuple [.str w])] [o]) := List.mem_map.mpr ⟨w, hw, rfl⟩
    rw [deed_bare] at m
    exact List.eq_of_mem_replicate m
theorem rec_two (n : Nat) (o : Ob) : (R2.flatMap fun w => P18.map fun p => callN fns (n + 4) 9 [.d (.tuple [.str w, .str p])] [o]) = List.replicate 36 (some (.d (.bool true), [o])) := by kernel_rfl
theorem rec_three (n : Nat) (o : Ob) (v : Int) : (R3.flatMap fun w => P18.map fun p => callN fns (n + 4) 9 [.d (.tuple [.str w, .str p, .int v])] [o]) = List.replicate 54 (some (.d (.bool (decide (1 ≤ v) && true)), [o])) := by kernel_rfl
theorem Rec.yes (n : Nat) (o : Ob) {ds : List D} (h : Rec ds) : callN fns (n + 4) 9 [.d (.tuple ds)] [o] = some (.d (.bool true), [o]) := by
  cases h with
  | two hw hp =>
    rename_i w p
    have m : callN fns (n + 4) 9 [.d (.tuple [.str w, .str p])] [o] ∈ (R2.flatMap fun w => P18.map fun p => callN fns (n + 4) 9 [.d (.tuple [.str w, .str p])] [o]) := List.mem_flatMap.mpr ⟨w, hw, List.mem_map.mpr ⟨p, hp, rfl⟩⟩
    rw [rec_two] at m
    exact List.eq_of_mem_replicate m
  | three hw hp hv =>
    rename_i w p v
    have m : callN fns (n + 4) 9 [.d (.tuple [.str w, .str p, .int v])] [o] ∈ (R3.flatMap fun w => P18.map fun p => callN fns (n + 4) 9 [.d (.tuple [.str w, .str p, .int v])] [o]) := List.mem_flatMap.mpr ⟨w, hw, List.mem_map.mpr ⟨p, hp, rfl⟩⟩
    rw [rec_three, decide_eq_true hv.pos.1] at m
    exact List.eq_of_mem_replicate m
end PL.W

set_option maxHeartbeats 4000000
namespace PL.W
open PySem PySem.Spec PyProof.Rows L2 PL
theorem filter_text {g : D → Option D} {f : Str → D} : ∀ {ds : List D} {xs : List Str}, ds.map g = xs.map (fun x => some (f x)) → ds.filterMap g = xs.map f
  | [], [], _ => rfl
  | [], _ :: _, h => by simp at h
  | _ :: _, [], h => by simp at h
  | d :: ds, x :: xs, h => by
    rw [List.map_cons, List.map_cons] at h
    injection h with h1 h2
    rw [List.filterMap_cons, h1, List.map_cons]
    dsimp only
    rw [filter_text h2]
theorem Parts.same {ds : List D} {xs : List Str} (h : Parts ds xs) : ds.length = xs.length := by
  have := congrArg List.length h.text
  rw [List.length_map, List.length_map] at this
  exact this
theorem Parts.at_ {ds : List D} {xs : List Str} (h : Parts ds xs) {d : D} (hd : d ∈ ds) : ∃ x, gStr d = some (.str x) := by
  have : gStr d ∈ xs.map fun x => some (PyData.str x) := by
    rw [← h.text]
    exact List.mem_map_of_mem hd
  obtain ⟨x, _, e⟩ := List.mem_map.mp this
  exact ⟨x, e.symm⟩
abbrev LINE : List Sx := [.ret (.join (.str " ") (.comp [1] (.one 1) (.seq (.loc 0)) .nil (.bi .str (.loc 1))))]
theorem sp_fit : Fit 1 (" " : Str) := fit_of (by decide +kernel)
theorem nl_fit : Fit 1 ("\n" : Str) := fit_of (by decide +kernel)
theorem cm_fit : Fit 1 ("," : Str) := fit_of (by decide +kernel)
theorem line_body (cl : Cl) (S : Sto) {ds : List D} {xs : List Str} (h : Parts ds xs) : evSs cl LINE [some (.d (.tuple ds)), none] S = some (.rt (.d (.str (Txt.join " " xs))), [some (.d (.tuple ds)), none], S) := by
  have hl := h.same
  have hf := h.few
  refine ret_at (join_at (y := .d (.list (xs.map .str))) rfl (comp_at (ds := ds) rfl ?_) (join_ok sp_fit h.fit (by omega)))
  have := loop_same (S := S) (t := turn cl [1] (.one 1) .nil (.bi .str (.loc 1)) [some (.d (.tuple ds)), none]) gStr ds [] (fun d hd => by
    obtain ⟨x, hx⟩ := h.at_ hd
    rw [hx]
    exact turn_at (L' := [some (.d (.tuple ds)), some (.d d)]) rfl rfl (bi_at (t := .str) (x := .d d) rfl hx)) (by rw [List.length_nil, hl]; exact Nat.le_trans (by omega) (show 3 ≤ sizeLine by decide))
  rw [List.nil_append, filter_text h.text] at this
  exact this
theorem line17 (n : Nat) (o : Ob) {ds : List D} {xs : List Str} (h : Parts ds xs) : callN fns (n + 1) 17 [.d (.tuple ds)] [o] = some (.d (.str (Txt.join " " xs)), [o]) := by
  rw [call_at (d := f17) rfl rfl]
  show fin [o] (evSs (callN fns n) LINE [some (.d (.tuple ds)), none] [o]) = _
  rw [line_body _ _ h]; rfl
theorem line28 (n : Nat) (o : Ob) {ds : List D} {xs : List Str} (h : Parts ds xs) : callN fns (n + 1) 28 [.d (.tuple ds)] [o] = some (.d (.str (Txt.join " " xs)), [o]) := by
  rw [call_at (d := f28) rfl rfl]
  show fin [o] (evSs (callN fns n) LINE [some (.d (.tuple ds)), none] [o]) = _
  rw [line_body _ _ h]; rfl
theorem need_ok (n : Nat) (o : Ob) (w : Str) : callN fns (n + 1) 12 [.d (.bool true), .d (.str w)] [o] = some (.d .none, [o]) := rfl
theorem deed_text (n : Nat) (o : Ob) {ds : List D} {xs : List Str} (hd : Deed ds) (h : Parts ds xs) : callN fns (n + 5) 13 [.d (.tuple ds)] [o] = some (.d (.str (Txt.join " " xs)), [o]) := by
  rw [call_at (d := f13) rfl rfl]
  have q : evSs (callN fns (n + 4)) f13.body [some (.d (.tuple ds))] [o] = some (.rt (.d (.str (Txt.join " " xs))), [some (.d (.tuple ds))], [o]) :=
    Eq.trans (expr_at (call_e (es_cons (call_e (es_cons rfl es_nil) (hd.yes n o)) (es_cons rfl es_nil)) (need_ok (n + 3) o "deed"))) (ret_at (call_e (es_cons rfl es_nil) (line17 (n + 3) o h)))
  show fin [o] (evSs (callN fns (n + 4)) f13.body [some (.d (.tuple ds))] [o]) = _
  rw [q]; rfl
theorem record_text (n : Nat) (o : Ob) {ds : List D} {xs : List Str} (hd : Rec ds) (h : Parts ds xs) : callN fns (n + 5) 14 [.d (.tuple ds)] [o] = some (.d (.str (Txt.join " " xs)), [o]) := by
  rw [call_at (d := f14) rfl rfl]
  have q : evSs (callN fns (n + 4)) f14.body [some (.d (.tuple ds))] [o] = some (.rt (.d (.str (Txt.join " " xs))), [some (.d (.tuple ds))], [o]) :=
    Eq.trans (expr_at (call_e (es_cons (call_e (es_cons rfl es_nil) (hd.yes n o)) (es_cons rfl es_nil)) (need_ok (n + 3) o "record"))) (ret_at (call_e (es_cons rfl es_nil) (line17 (n + 3) o h)))
  show fin [o] (evSs (callN fns (n + 4)) f14.body [some (.d (.tuple ds))] [o]) = _
  rw [q]; rfl
/-! ### rows of deeds -/
/-- the deeds of a row, and their lines -/
structure Row (rows : List (List D)) (ls : List Str) : Prop where
  each : ∀ r ∈ rows, Deed r
  line : ∃ ps : List (List Str), ps.length = rows.length ∧ (∀ q ∈ rows.zip ps, Parts q.1 q.2) ∧ ls = ps.map (Txt.join " ")
  fit : ∀ y ∈ ls, Fit 200 y
theorem rows_lines {P : List D → Prop} (hp : ∀ r, P r → ∃ xs, Parts r xs) : ∀ rows : List (List D), (∀ r ∈ rows, P r) → ∃ (f : D → Option D) (ls : List Str), (∀ r ∈ rows, ∃ xs, Parts r xs ∧ f (.tuple r) = some (.str (Txt.join " " xs))) ∧ (rows.map PyData.tuple).map f = ls.map (fun x => some (PyData.str x)) ∧ ∀ y ∈ ls, Fit 200 y := by
  intro rows h
  have ch : ∀ r : List D, ∃ xs, P r → Parts r xs := fun r => by
    rcases Classical.em (P r) with q | q
    · obtain ⟨xs, hx⟩ := hp r q
      exact ⟨xs, fun _ => hx⟩
    · exact ⟨[], fun z => absurd z q⟩
  refine ⟨fun d => match d with
    | .tuple r => some (.str (Txt.join " " (Classical.choose (ch r))))
    | _ => none, rows.map fun r => Txt.join " " (Classical.choose (ch r)), fun r hr => ⟨_, Classical.choose_spec (ch r) (h r hr), rfl⟩, by rw [List.map_map, List.map_map]; rfl, fun y hy => ?_⟩
  obtain ⟨r, hr, rfl⟩ := List.mem_map.mp hy
  have p := Classical.choose_spec (ch r) (h r hr)
  refine (join_fit sp_fit p.fit).mono ?_
  have := p.few
  have : (Classical.choose (ch r)).length * (1 + 61) ≤ 3 * 62 := Nat.mul_le_mul_right _ this
  omega
end PL.W

set_option maxHeartbeats 4000000
namespace PL.W
open PySem PySem.Spec PyProof.Rows L2 PL
/-! ### rules -/
def G12 : List Str := ["ahead", "quiet", "calm", "struck", "first", "clean", "whole", "level", "settled", "dead", "walked", "fixed"]
def GS : List Str := ["ahead", "calm", "clean", "dead", "first", "fixed", "level", "quiet", "settled", "struck", "walked", "whole"]
theorem guards_at (n : Nat) (o : Ob) : callN fns (n + 1) 21 [] [o] = some (.d (.list (G12.map .str)), [o]) := by kernel_rfl
theorem guards_sorted (S : Sto) : un1 gSorted (.d (.list (G12.map .str))) S = some (.list (GS.map .str)) := by kernel_rfl
theorem guards_yes (n : Nat) (o : Ob) : (GS.map fun g => callN fns (n + 1) 3 [.d (.str g)] [o]) = List.replicate 12 (some (.d (.bool true), [o])) := by kernel_rfl
theorem guard_yes (n : Nat) (o : Ob) {g : Str} (h : g ∈ GS) : callN fns (n + 1) 3 [.d (.str g)] [o] = some (.d (.bool true), [o]) := by
  have m : callN fns (n + 1) 3 [.d (.str g)] [o] ∈ (GS.map fun g => callN fns (n + 1) 3 [.d (.str g)] [o]) := List.mem_map.mpr ⟨g, h, rfl⟩
  rw [guards_yes] at m
  exact List.eq_of_mem_replicate m
theorem bools_true : ∀ n : Nat, bools (List.replicate n (PyData.bool true)) = some (List.replicate n true)
  | 0 => rfl
  | n + 1 => by
    show (bools (List.replicate n (PyData.bool true))).map (true :: ·) = _
    rw [bools_true n]; rfl
theorem all_true (n : Nat) (S : Sto) : un1 gAll (.d (.list (List.replicate n (PyData.bool true)))) S = some (.bool true) := by
  show (bools (List.replicate n (PyData.bool true))).map (fun bs => PyData.bool (bs.all id)) = _
  rw [bools_true]
  show some (PyData.bool ((List.replicate n true).all id)) = _
  have : (List.replicate n true).all id = true := List.all_eq_true.mpr fun b hb => List.eq_of_mem_replicate hb
  rw [this]
/-- all turns say yes -/
theorem loop_yes {t : D → Sto → Option (Option D × Sto)} {S : Sto} {ds : List D} (h : ∀ d ∈ ds, t d S = some (some (.bool true), S)) (hl : ds.length ≤ sizeLine) : loopM none t ds [] S = some (List.replicate ds.length (PyData.bool true), S) := by
  have := loop_same (t := t) (S := S) (fun _ => some (.bool true)) ds [] h (by simpa using hl)
  rw [List.nil_append] at this
  rw [this]
  have e : ∀ l : List D, l.filterMap (fun _ => some (PyData.bool true)) = List.replicate l.length (PyData.bool true) := fun l => by
    induction l with
    | nil => rfl
    | cons a l ih => rw [List.filterMap_cons]; dsimp only; rw [ih]; rfl
  rw [e]
theorem cut1 {α : Type} (l : List α) : cutL l (some 1) none = l.drop 1 := by
  unfold cutL
  cases l with
  | nil => simp
  | cons a l =>
    have e1 : HT.sIx (a :: l).length 0 (some 1) = 1 := by
      rw [show (some 1 : Option Int) = some ((1 : Nat) : Int) from rfl, HT.sIx_nat]
      rw [List.length_cons]; omega
    rw [e1, HT.sIx_none]
    rw [List.take_of_length_le (by rw [List.length_drop]; exact Nat.le_refl _)]
theorem pairs_lt : ∀ {xs : List Str}, xs.Pairwise (fun a b => a.cps.toList < b.cps.toList) → ∀ d ∈ zipD (xs.map PyData.str) ((xs.map PyData.str).drop 1), ∃ a b : Str, d = .tuple [.str a, .str b] ∧ a.cps.toList < b.cps.toList
  | [], _, d, hd => by simp [zipD] at hd
  | [x], _, d, hd => by simp [zipD] at hd
  | x :: y :: r, h, d, hd => by
    obtain ⟨h1, h2⟩ := List.pairwise_cons.mp h
    have hd : d ∈ PyData.tuple [.str x, .str y] :: zipD ((y :: r).map PyData.str) (((y :: r).map PyData.str).drop 1) := hd
    rcases List.mem_cons.mp hd with rfl | hd
    · exact ⟨x, y, rfl, h1 y List.mem_cons_self⟩
    · exact pairs_lt h2 d hd
theorem zip_len : ∀ (a b : List D), (zipD a b).length ≤ a.length
  | [], _ => by simp [zipD]
  | _ :: _, [] => by simp [zipD]
  | x :: a, y :: b => by
    rw [zipD, List.length_cons, List.length_cons]
    exact Nat.succ_le_succ (zip_len a b)
theorem asc (n : Nat) (o : Ob) {xs : List Str} (h : xs.Pairwise (fun a b => a.cps.toList < b.cps.toList)) (hl : xs.length ≤ 12) : callN fns (n + 1) 0 [.d (.tuple (xs.map .str))] [o] = some (.d (.bool true), [o]) := by
  rw [call_at (d := f0) rfl rfl]
  have q : evSs (callN fns n) f0.body [some (.d (.tuple (xs.map .str))), none, none] [o] = some (.rt (.d (.bool true)), [some (.d (.tuple (xs.map .str))), none, none], [o]) := by
    refine ret_at (bi_at (t := .all) (x := .d (.list (List.replicate (zipD (xs.map PyData.str) (cutL (xs.map PyData.str) (some 1) none)).length (PyData.bool true)))) (comp_at (ds := zipD (xs.map PyData.str) (cutL (xs.map PyData.str) (some 1) none)) rfl (loop_yes (fun d hd => ?_) ?_)) (all_true _ _))
    · rw [cut1] at hd
      obtain ⟨a, b, rfl, hab⟩ := pairs_lt h d hd
      exact turn_at (L' := [some (.d (.tuple (xs.map .str))), some (.d (.str a)), some (.d (.str b))]) rfl rfl (cmp_at (x := .d (.str a)) (y := .d (.str b)) rfl rfl (show some (PyData.bool (decide (a.cps.toList < b.cps.toList))) = _ by rw [decide_eq_true hab]))
    · refine Nat.le_trans (zip_len _ _) ?_
      rw [List.length_map]
      exact Nat.le_trans hl (by decide)
  show fin [o] (evSs (callN fns n) f0.body [some (.d (.tuple (xs.map .str))), none, none] [o]) = _
  rw [q]; rfl
theorem gs_lt : GS.Pairwise (fun a b => a.cps.toList < b.cps.toList) := by decide +kernel
theorem rule_yes (n : Nat) (o : Ob) {xs : List Str} (h : xs.Sublist GS) : callN fns (n + 2) 11 [.d (.tuple (xs.map .str))] [o] = some (.d (.bool true), [o]) := by
  have hl : xs.length ≤ 12 := h.length_le
  rw [call_at (d := f11) rfl rfl]
  have q : evSs (callN fns (n + 1)) f11.body [some (.d (.tuple (xs.map .str))), none] [o] = some (.rt (.d (.bool true)), [some (.d (.tuple (xs.map .str))), none], [o]) := by
    refine Eq.trans (if_f0 (x := .d (.bool false)) (S1 := [o]) (or_f (x := .d (.bool false)) rfl rfl (not_at (q := true) (bi_at (t := .all) (comp_at (ds := xs.map .str) rfl (loop_yes (fun d hd => ?_) ?_)) (all_true _ _)) rfl)) rfl) (ret_at (call_e (es_cons rfl es_nil) (asc n o (gs_lt.sublist h) hl)))
    · obtain ⟨g, hg, rfl⟩ := List.mem_map.mp hd
      exact turn_at (L' := [some (.d (.tuple (xs.map .str))), some (.d (.str g))]) rfl rfl (call_e (es_cons rfl es_nil) (guard_yes n o (h.subset hg)))
    · rw [List.length_map]
      exact Nat.le_trans hl (by decide)
  show fin [o] (evSs (callN fns (n + 1)) f11.body [some (.d (.tuple (xs.map .str))), none] [o]) = _
  rw [q]; rfl
def ruleText (xs : List Str) : Str := if xs.isEmpty = true then "-" else Txt.join "," xs
theorem fold_ge (g : Array Nat) : ∀ (l : List Str) (acc : Array Nat), acc.size ≤ (l.foldl (fun acc p => acc ++ g ++ p.cps) acc).size
  | [], acc => Nat.le_refl _
  | y :: r, acc => by
    rw [List.foldl_cons]
    refine Nat.le_trans ?_ (fold_ge g r _)
    rw [Array.size_append, Array.size_append]
    omega
theorem gs_fit : ∀ g ∈ GS, Fit 61 g ∧ 1 ≤ g.length := fun g hg => by
  have := List.all_eq_true.mp (show GS.all (fun x => decide (x.length ≤ 61) && PyData.strOk x && decide (1 ≤ x.length)) = true by decide +kernel) g hg
  rw [Bool.and_eq_true, decide_eq_true_eq] at this
  exact ⟨fit_of this.1, this.2⟩
theorem rule_join {xs : List Str} (h : xs.Sublist GS) (S : Sto) : bin2 gJoin (.d (.str ",")) (.d (.tuple (xs.map .str))) S = some (.str (Txt.join "," xs)) := by
  have hl : xs.length ≤ 12 := h.length_le
  exact join_okT cm_fit (N := 61) (fun y hy => (gs_fit y (h.subset hy)).1) (by omega)
theorem rule_fit {xs : List Str} (h : xs.Sublist GS) : Fit 1000 (Txt.join "," xs) := by
  have hl : xs.length ≤ 12 := h.length_le
  exact (join_fit cm_fit (N := 61) (fun y hy => (gs_fit y (h.subset hy)).1)).mono (by omega)
theorem rule_truth {xs : List Str} (h : xs.Sublist GS) (S : Sto) : truth (.d (.str (Txt.join "," xs))) S = some (!xs.isEmpty) := by
  have f := rule_fit h
  show (if (Txt.join "," xs).length ≤ sizeLine then some (((Txt.join "," xs).length : Int) != 0) else none) = _
  rw [if_pos (Nat.le_trans f.len (by decide))]
  cases xs with
  | nil => rfl
  | cons y r =>
    have h1 : 1 ≤ y.length := (gs_fit y (h.subset List.mem_cons_self)).2
    have h2 : y.cps.size ≤ (Txt.join "," (y :: r)).length := fold_ge _ r y.cps
    have h3 : 1 ≤ y.cps.size := h1
    have : (((Txt.join "," (y :: r)).length : Int) != 0) = true := by
      rw [bne_iff_ne]; omega
    rw [this]; rfl
theorem rule_text (n : Nat) (o : Ob) {xs : List Str} (h : xs.Sublist GS) : callN fns (n + 3) 15 [.d (.tuple (xs.map .str))] [o] = some (.d (.str (ruleText xs)), [o]) := by
  rw [call_at (d := f15) rfl rfl]
  have hj : evE (callN fns (n + 2)) (.join (.str ",") (.loc 0)) [some (.d (.tuple (xs.map .str)))] [o] = some (.d (.str (Txt.join "," xs)), [o]) := join_at (y := .d (.tuple (xs.map .str))) rfl rfl (rule_join h _)
  have q : evSs (callN fns (n + 2)) f15.body [some (.d (.tuple (xs.map .str)))] [o] = some (.rt (.d (.str (ruleText xs))), [some (.d (.tuple (xs.map .str)))], [o]) := by
    refine Eq.trans (expr_at (call_e (es_cons (call_e (es_cons rfl es_nil) (rule_yes n o h)) (es_cons rfl es_nil)) (need_ok (n + 1) o "rule"))) (ret_at ?_)
    cases hx : xs.isEmpty with
    | true =>
      rw [show ruleText xs = "-" by unfold ruleText; rw [if_pos hx]]
      exact or_f hj (by rw [rule_truth h, hx]; rfl) rfl
    | false =>
      rw [show ruleText xs = Txt.join "," xs by unfold ruleText; rw [if_neg (by rw [hx]; decide)]]
      exact or_t hj (by rw [rule_truth h, hx]; rfl)
  show fin [o] (evSs (callN fns (n + 2)) f15.body [some (.d (.tuple (xs.map .str)))] [o]) = _
  rw [q]; rfl
/-! ### histories -/
theorem history_text (n : Nat) (o : Ob) {rows : List (List D)} {f : D → Option D} {ls : List Str} (hd : ∀ r ∈ rows, Deed r) (hf : ∀ r ∈ rows, ∃ xs, Parts r xs ∧ f (.tuple r) = some (.str (Txt.join " " xs))) (hm : (rows.map PyData.tuple).map f = ls.map (fun x => some (PyData.str x))) (hy : ∀ y ∈ ls, Fit 200 y) (hl : rows.length ≤ 200) :
    callN fns (n + 5) 16 [.d (.tuple (rows.map .tuple))] [o] = some (.d (.str (Txt.join "\n" ls)), [o]) := by
  have hls : ls.length = rows.length := by
    have := congrArg List.length hm
    rw [List.length_map, List.length_map, List.length_map] at this
    exact this.symm
  rw [call_at (d := f16) rfl rfl]
  have q : evSs (callN fns (n + 4)) f16.body [some (.d (.tuple (rows.map .tuple))), none] [o] = some (.rt (.d (.str (Txt.join "\n" ls))), [some (.d (.tuple (rows.map .tuple))), none], [o]) := by
    refine Eq.trans (expr_at (call_e (es_cons (and_t (x := .d (.bool true)) rfl rfl (bi_at (t := .all) (comp_at (ds := rows.map .tuple) rfl (loop_yes (fun d hd' => ?_) ?_)) (all_true _ _))) (es_cons rfl es_nil)) (need_ok (n + 3) o "history"))) (ret_at (join_at (y := .d (.list (ls.map .str))) rfl (comp_at (ds := rows.map .tuple) rfl ?_) (join_ok nl_fit hy (by omega))))
    · obtain ⟨r, hr, rfl⟩ := List.mem_map.mp hd'
      exact turn_at (L' := [some (.d (.tuple (rows.map .tuple))), some (.d (.tuple r))]) rfl rfl (call_e (es_cons rfl es_nil) ((hd r hr).yes n o))
    · rw [List.length_map]
      exact Nat.le_trans hl (by decide)
    · have := loop_same (S := [o]) (t := turn (callN fns (n + 4)) [1] (.one 1) .nil (.call 17 (.cons (.loc 1) .nil)) [some (.d (.tuple (rows.map .tuple))), none]) f (rows.map .tuple) [] (fun d hd' => by
        obtain ⟨r, hr, rfl⟩ := List.mem_map.mp hd'
        obtain ⟨xs, hp, e⟩ := hf r hr
        rw [e]
        exact turn_at (L' := [some (.d (.tuple (rows.map .tuple))), some (.d (.tuple r))]) rfl rfl (call_e (es_cons rfl es_nil) (line17 (n + 3) o hp))) (by rw [List.length_nil, List.length_map]; exact Nat.le_trans (by omega) (show 200 ≤ sizeLine by decide))
      rw [List.nil_append, filter_text hm] at this
      exact this
  show fin [o] (evSs (callN fns (n + 4)) f16.body [some (.d (.tuple (rows.map .tuple))), none] [o]) = _
  rw [q]; rfl
end PL.W

set_option maxHeartbeats 4000000
namespace PL.W
open PySem PySem.Spec PyProof.Rows L2 PL
section
variable {cl : Cl} {L L' : Loc} {S S1 S2 : Sto} {es : Es} {rs : List R} {rest : List Sx} {is : List Nat} {e : E} {v : Int}
theorem par_at (h : evEs cl es L S = some (rs, S1)) (h2 : setAll is rs L = some L') : evSs cl (.par is es :: rest) L S = evSs cl rest L' S1 := by
  rw [evSs, evS, h]
  show okOr (okOr (setAll is rs L) _) _ = _
  rw [h2]; rfl
theorem rng_at (h : evE cl e L S = some (.d (.int v), S1)) (h0 : 0 ≤ v) (h1 : v < 2 ^ 62) : evI cl (.rng e) L S = some (rngD v, none, S1) := by
  rw [evI, h]
  show (if -(2 ^ 62) ≤ v ∧ v < 2 ^ 62 then some (rngD v, none, S1) else none) = _
  rw [if_pos ⟨by omega, h1⟩]
end
theorem rng_len (v : Int) : (rngD v).length = v.toNat := by
  unfold rngD
  rw [List.length_map, List.length_range]
theorem rng_mem {v : Int} {d : D} (h : d ∈ rngD v) : ∃ i : Nat, d = .int i := by
  obtain ⟨i, _, e⟩ := List.mem_map.mp h
  exact ⟨i, e.symm⟩
theorem pages_in : ∀ ps ∈ PAGES, ps.length = 3 ∧ ∀ p ∈ ps, p ∈ P18 := by decide +kernel
def MENU : List D := PAGES.map fun ps => .list (ps.map .str)
section
variable {cs : List Int} {k : Int} {S : Sto}
theorem pagesS (n : Nat) (h : Sp cs k S) (hk : k < 2 ^ 38) : ∃ ps ∈ PAGES, ∃ S', callN fns (n + 3) 23 [.ref 0] S = some (.d (.list (ps.map .str)), S') ∧ Sp cs (k + 1) S' := by
  obtain ⟨d, hd, S1, e, h1⟩ := pickS n h (by omega) (ds := MENU) (by decide) (by decide)
  obtain ⟨ps, hps, rfl⟩ := List.mem_map.mp hd
  refine ⟨ps, hps, S1, ?_, h1⟩
  rw [call_at (d := f23) rfl rfl]
  have q : evSs (callN fns (n + 2)) f23.body [some (.ref 0), none] S = some (.rt (.d (.list (ps.map .str))), [some (.ref 0), some (.d (.list (MENU.take 4)))], S1) :=
    Eq.trans (asg_at (x := .d (.list (MENU.take 4))) (S1 := S) rfl) (ret_at (call_e (es_cons rfl (es_cons (bin_at (w := .list MENU) rfl rfl rfl rfl) es_nil)) e))
  show fin S (evSs (callN fns (n + 2)) f23.body [some (.ref 0), none] S) = _
  rw [q]
  exact fin_sp h h1
def WORDS : List Str := ["keep", "plain", "write", "free", "strike", "flush", "put", "seal", "point", "stop", "end"]
theorem words_kind : ∀ w ∈ WORDS, w ∈ W7 ∨ w ∈ W3 ∨ w = "point" := by decide +kernel
theorem not_point : ∀ w ∈ W7 ++ W3, (w == ("point" : Str)) = false := by decide +kernel
theorem in3 : (W3.map fun w => gIn (.str w) (.tuple (W3.map .str))) = List.replicate 3 (some (.bool true)) := by kernel_rfl
theorem in3' {w : Str} (h : w ∈ W3) : gIn (.str w) (.tuple (W3.map .str)) = some (.bool true) := by
  have m : gIn (.str w) (.tuple (W3.map .str)) ∈ (W3.map fun w => gIn (.str w) (.tuple (W3.map .str))) := List.mem_map.mpr ⟨w, h, rfl⟩
  rw [in3] at m
  exact List.eq_of_mem_replicate m
theorem in7 : (W7.map fun w => gIn (.str w) (.tuple (W3.map .str))) = List.replicate 7 (some (.bool false)) := by kernel_rfl
theorem in7' {w : Str} (h : w ∈ W7) : gIn (.str w) (.tuple (W3.map .str)) = some (.bool false) := by
  have m : gIn (.str w) (.tuple (W3.map .str)) ∈ (W7.map fun w => gIn (.str w) (.tuple (W3.map .str))) := List.mem_map.mpr ⟨w, h, rfl⟩
  rw [in7] at m
  exact List.eq_of_mem_replicate m
theorem page_pick (n : Nat) (h : Sp cs k S) (hk : k < 2 ^ 38) {ps : List Str} (hp : ps ∈ PAGES) : ∃ p ∈ P18, ∃ S', callN fns (n + 2) 20 [.ref 0, .d (.list (ps.map .str))] S = some (.d (.str p), S') ∧ Sp cs (k + 1) S' := by
  obtain ⟨l3, hin⟩ := pages_in ps hp
  obtain ⟨d, hd, S1, e, h1⟩ := pickS n h (by omega) (ds := ps.map .str) (by intro z; have := congrArg List.length z; rw [List.length_map, l3] at this; cases this) (by rw [List.length_map]; omega)
  obtain ⟨p, hpp, rfl⟩ := List.mem_map.mp hd
  exact ⟨p, hin p hpp, S1, e, h1⟩
theorem pow59 {cl : Cl} {L : Loc} {S : Sto} : evE cl (.bin .Pow (.int 10) (.int 59)) L S = some (.d (.int (10 ^ 59)), S) := bin_at rfl rfl rfl (pow_ok (by decide) (by decide) (by decide))
theorem deedS (n : Nat) (h : Sp cs k S) (hk : k < 2 ^ 37) {ps : List Str} (hp : ps ∈ PAGES) : ∃ d S', callN fns (n + 3) 24 [.ref 0, .d (.list (ps.map .str))] S = some (.d (.tuple d), S') ∧ Deed d ∧ Sp cs (k + 3) S' := by
  obtain ⟨d, hd, S1, e1, h1⟩ := pickS n h (by omega) (ds := WORDS.map .str) (by decide) (by decide)
  obtain ⟨w, hw, rfl⟩ := List.mem_map.mp hd
  have st : evSs (callN fns (n + 2)) f24.body [some (.ref 0), some (.d (.list (ps.map .str))), none, none] S = evSs (callN fns (n + 2)) (f24.body.drop 2) [some (.ref 0), some (.d (.list (ps.map .str))), some (.d (.list (WORDS.map .str))), some (.d (.str w))] S1 :=
    Eq.trans (asg_at (x := .d (.list (WORDS.map .str))) (S1 := S) rfl) (asg_at (x := .d (.str w)) (call_e (es_cons rfl (es_cons rfl es_nil)) e1))
  have c1 : evE (callN fns (n + 2)) (.cmp .Eq (.loc 3) (.str "point")) [some (.ref 0), some (.d (.list (ps.map .str))), some (.d (.list (WORDS.map .str))), some (.d (.str w))] S1 = some (.d (.bool (w == ("point" : Str))), S1) := rfl
  have go : ∀ {d : List D} {S' : Sto}, evSs (callN fns (n + 2)) (f24.body.drop 2) [some (.ref 0), some (.d (.list (ps.map .str))), some (.d (.list (WORDS.map .str))), some (.d (.str w))] S1 = some (.rt (.d (.tuple d)), [some (.ref 0), some (.d (.list (ps.map .str))), some (.d (.list (WORDS.map .str))), some (.d (.str w))], S') → Sp cs (k + 3) S' → callN fns (n + 3) 24 [.ref 0, .d (.list (ps.map .str))] S = some (.d (.tuple d), S') := fun {d S'} q h' => by
    rw [call_at (d := f24) rfl rfl]
    show fin S (evSs (callN fns (n + 2)) f24.body [some (.ref 0), some (.d (.list (ps.map .str))), none, none] S) = _
    rw [st, q]
    exact fin_sp h h'
  rcases words_kind w hw with w7 | w3 | rfl
  · have np := not_point w (List.mem_append_left _ w7)
    rw [np] at c1
    obtain ⟨p, hpp, S2, e2, h2⟩ := page_pick n h1 (by omega) hp
    refine ⟨[.str w, .str p], S2, go (Eq.trans (if_f0 c1 rfl) (ret_at (Eq.trans (ite_f (x := .d (.bool false)) (S1 := S1) (cmp_at (x := .d (.str w)) (y := .d (.tuple (W3.map .str))) rfl rfl (in7' w7)) rfl) (tup_at (es_cons rfl (es_cons (call_e (es_cons rfl (es_cons rfl es_nil)) e2) es_nil)) rfl (Nat.le_of_ble_eq_true rfl))))) (h2.mono (by omega)), .page w7 hpp, h2.mono (by omega)⟩
  · have np := not_point w (List.mem_append_right _ w3)
    rw [np] at c1
    exact ⟨[.str w], S1, go (Eq.trans (if_f0 c1 rfl) (ret_at (Eq.trans (ite_t (x := .d (.bool true)) (S1 := S1) (cmp_at (x := .d (.str w)) (y := .d (.tuple (W3.map .str))) rfl rfl (in3' w3)) rfl) (tup_at (es_cons rfl es_nil) rfl (Nat.le_of_ble_eq_true rfl))))) (h1.mono (by omega)), .bare w3, h1.mono (by omega)⟩
  · obtain ⟨v, S2, v0, v1, e2, h2⟩ := dipS (n + 1) h1 (by omega) (m := 60) (by decide) (by decide)
    obtain ⟨x, hx, S3, e3, h3⟩ := pickS n h2 (by omega) (ds := [.int 1, .int 2, .int 9, .int 10, .int (1 + v), .int (10 ^ 59)]) (by simp) (by simp)
    have hn : ∃ u, x = .int u ∧ Num u := by
      simp only [List.mem_cons, List.not_mem_nil, or_false] at hx
      rcases hx with rfl | rfl | rfl | rfl | rfl | rfl
      · exact ⟨_, rfl, .inl (by omega)⟩
      · exact ⟨_, rfl, .inl (by omega)⟩
      · exact ⟨_, rfl, .inl (by omega)⟩
      · exact ⟨_, rfl, .inl (by omega)⟩
      · exact ⟨_, rfl, .inl (by omega)⟩
      · exact ⟨_, rfl, .inr rfl⟩
    obtain ⟨u, rfl, hu⟩ := hn
    have h3' : Sp cs (k + 3) S3 := h3.mono (by omega)
    refine ⟨[.str "point", .int u], S3, go (Eq.trans (if_t c1 rfl (ret_at (tup_at (es_cons rfl (es_cons (call_e (es_cons rfl (es_cons (lst_at (es_cons rfl (es_cons rfl (es_cons rfl (es_cons rfl (es_cons (bin_at rfl (call_e (es_cons rfl (es_cons rfl es_nil)) e2) rfl add_ok) (es_cons pow59 es_nil)))))) rfl (Nat.le_of_ble_eq_true rfl)) es_nil)) e3) es_nil)) rfl (Nat.le_of_ble_eq_true rfl)))) rfl) h3', .point hu, h3'⟩
theorem in2 : (R2.map fun w => gIn (.str w) (.tuple (R2.map .str))) = List.replicate 2 (some (.bool true)) := by kernel_rfl
theorem in2' {w : Str} (h : w ∈ R2) : gIn (.str w) (.tuple (R2.map .str)) = some (.bool true) := by
  have m : gIn (.str w) (.tuple (R2.map .str)) ∈ (R2.map fun w => gIn (.str w) (.tuple (R2.map .str))) := List.mem_map.mpr ⟨w, h, rfl⟩
  rw [in2] at m
  exact List.eq_of_mem_replicate m
theorem inR3 : (R3.map fun w => gIn (.str w) (.tuple (R2.map .str))) = List.replicate 3 (some (.bool false)) := by kernel_rfl
theorem inR3' {w : Str} (h : w ∈ R3) : gIn (.str w) (.tuple (R2.map .str)) = some (.bool false) := by
  have m : gIn (.str w) (.tuple (R2.map .str)) ∈ (R3.map fun w => gIn (.str w) (.tuple (R2.map .str))) := List.mem_map.mpr ⟨w, h, rfl⟩
  rw [inR3] at m
  exact List.eq_of_mem_replicate m
def W5 : List Str := ["keep", "write", "plain", "free", "strike"]
theorem five : ∀ w ∈ W5, w ∈ R2 ∨ w ∈ R3 := by decide +kernel
theorem recordS (n : Nat) (h : Sp cs k S) (hk : k < 2 ^ 37) {ps : List Str} (hp : ps ∈ PAGES) : ∃ d S', callN fns (n + 3) 27 [.ref 0, .d (.list (ps.map .str))] S = some (.d (.tuple d), S') ∧ Rec d ∧ Sp cs (k + 4) S' := by
  obtain ⟨d, hd, S1, e1, h1⟩ := pickS n h (by omega) (ds := W5.map .str) (by decide) (by decide)
  obtain ⟨w, hw, rfl⟩ := List.mem_map.mp hd
  obtain ⟨p, hpp, S2, e2, h2⟩ := page_pick n h1 (by omega) hp
  have st : evSs (callN fns (n + 2)) f27.body [some (.ref 0), some (.d (.list (ps.map .str))), none, none] S = evSs (callN fns (n + 2)) (f27.body.drop 1) [some (.ref 0), some (.d (.list (ps.map .str))), some (.d (.str w)), some (.d (.str p))] S2 :=
    par_at (es_cons (call_e (es_cons rfl (es_cons rfl es_nil)) e1) (es_cons (call_e (es_cons rfl (es_cons rfl es_nil)) e2) es_nil)) rfl
  have go : ∀ {d : List D} {S' : Sto}, evSs (callN fns (n + 2)) (f27.body.drop 1) [some (.ref 0), some (.d (.list (ps.map .str))), some (.d (.str w)), some (.d (.str p))] S2 = some (.rt (.d (.tuple d)), [some (.ref 0), some (.d (.list (ps.map .str))), some (.d (.str w)), some (.d (.str p))], S') → Sp cs (k + 4) S' → callN fns (n + 3) 27 [.ref 0, .d (.list (ps.map .str))] S = some (.d (.tuple d), S') := fun {d S'} q h' => by
    rw [call_at (d := f27) rfl rfl]
    show fin S (evSs (callN fns (n + 2)) f27.body [some (.ref 0), some (.d (.list (ps.map .str))), none, none] S) = _
    rw [st, q]
    exact fin_sp h h'
  have c2 : ∀ b, gIn (.str w) (.tuple (R2.map .str)) = some (.bool b) → evE (callN fns (n + 2)) (.cmp .In (.loc 2) (.tup (.cons (.str "free") (.cons (.str "strike") .nil)))) [some (.ref 0), some (.d (.list (ps.map .str))), some (.d (.str w)), some (.d (.str p))] S2 = some (.d (.bool b), S2) := fun b hb =>
    cmp_at (x := .d (.str w)) (y := .d (.tuple (R2.map .str))) rfl rfl hb
  rcases five w hw with w2 | w3
  · exact ⟨[.str w, .str p], S2, go (Eq.trans (if_t (x := .d (.bool true)) (S1 := S2) (c2 true (in2' w2)) rfl (ret_at (tup_at (es_cons rfl (es_cons rfl es_nil)) rfl (Nat.le_of_ble_eq_true rfl)))) rfl) (h2.mono (by omega)), .two w2 hpp, h2.mono (by omega)⟩
  · obtain ⟨v, S3, v0, v1, e3, h3⟩ := dipS (n + 1) h2 (by omega) (m := 999) (by decide) (by decide)
    obtain ⟨x, hx, S4, e4, h4⟩ := pickS n h3 (by omega) (ds := [.int 1, .int 9, .int 10, .int (1 + v), .int (10 ^ 59)]) (by simp) (by simp)
    have hn : ∃ u, x = .int u ∧ Num u := by
      simp only [List.mem_cons, List.not_mem_nil, or_false] at hx
      rcases hx with rfl | rfl | rfl | rfl | rfl
      · exact ⟨_, rfl, .inl (by omega)⟩
      · exact ⟨_, rfl, .inl (by omega)⟩
      · exact ⟨_, rfl, .inl (by omega)⟩
      · exact ⟨_, rfl, .inl (by omega)⟩
      · exact ⟨_, rfl, .inr rfl⟩
    obtain ⟨u, rfl, hu⟩ := hn
    have h4' : Sp cs (k + 4) S4 := h4.mono (by omega)
    refine ⟨[.str w, .str p, .int u], S4, go (Eq.trans (if_f0 (x := .d (.bool false)) (S1 := S2) (c2 false (inR3' w3)) rfl) (ret_at (tup_at (es_cons rfl (es_cons rfl (es_cons (call_e (es_cons rfl (es_cons (lst_at (es_cons rfl (es_cons rfl (es_cons rfl (es_cons (bin_at rfl (call_e (es_cons rfl (es_cons rfl es_nil)) e3) rfl add_ok) (es_cons pow59 es_nil))))) rfl (Nat.le_of_ble_eq_true rfl)) es_nil)) e4) es_nil))) rfl (Nat.le_of_ble_eq_true rfl)))) h4', .three w3 hpp hu, h4'⟩
theorem tuples {zs : List D} {P : List D → Prop} (h : ∀ z ∈ zs, ∃ r, z = .tuple r ∧ P r) : ∃ rows : List (List D), zs = rows.map PyData.tuple ∧ ∀ r ∈ rows, P r := by
  induction zs with
  | nil => exact ⟨[], rfl, by simp⟩
  | cons z zs ih =>
    obtain ⟨r, rfl, hr⟩ := h z List.mem_cons_self
    obtain ⟨rows, rfl, hrs⟩ := ih fun x hx => h x (List.mem_cons_of_mem _ hx)
    exact ⟨r :: rows, rfl, fun x hx => by
      rcases List.mem_cons.mp hx with rfl | hx
      · exact hr
      · exact hrs x hx⟩
/-- a row of drawn deeds -/
theorem deedsS (n : Nat) (h : Sp cs k S) (hk : k < 2 ^ 36) {ps : List Str} (hp : ps ∈ PAGES) : ∃ (rows : List (List D)) (S' : Sto), callN fns (n + 4) 25 [.ref 0, .d (.list (ps.map .str)), .d (.int 8)] S = some (.d (.tuple (rows.map .tuple)), S') ∧ (∀ r ∈ rows, Deed r) ∧ rows.length ≤ 200 ∧ Sp cs (k + 30) S' := by
  obtain ⟨v, S1, v0, v1, e1, h1⟩ := dipS (n + 2) h (by omega) (m := 9) (by decide) (by decide)
  have hv : v.toNat ≤ 8 := by omega
  obtain ⟨zs, S2, e2, p2, l2, h2⟩ := loop_all (N := 8) (t := turn (callN fns (n + 3)) [3] (.one 3) .nil (.call 24 (.cons (.loc 0) (.cons (.loc 1) .nil))) [some (.ref 0), some (.d (.list (ps.map .str))), some (.d (.int 8)), none]) (I := fun j S => Sp cs (k + 1 + 3 * j) S) (P := fun d => ∃ r, d = .tuple r ∧ Deed r) (rngD v) [] 0 S1 (h1.mono (by simp)) (fun d hd j S hj hI => by
    obtain ⟨r, S', er, dr, hr⟩ := deedS n hI (by omega) hp
    refine ⟨.tuple r, S', turn_at (L' := [some (.ref 0), some (.d (.list (ps.map .str))), some (.d (.int 8)), some (.d d)]) rfl rfl (call_e (es_cons rfl (es_cons rfl es_nil)) er), ⟨r, rfl, dr⟩, hr.mono (by omega)⟩) (by rw [rng_len, List.length_nil]; exact Nat.le_trans (by omega) (show 9 ≤ sizeLine by decide)) (by rw [rng_len]; omega)
  obtain ⟨rows, rfl, hrows⟩ := tuples p2
  have h2' : Sp cs (k + 30) S2 := h2.mono (by rw [rng_len]; omega)
  refine ⟨rows, S2, ?_, hrows, by rw [List.length_map, rng_len] at l2; omega, h2'⟩
  rw [call_at (d := f25) rfl rfl]
  have q : evSs (callN fns (n + 3)) f25.body [some (.ref 0), some (.d (.list (ps.map .str))), some (.d (.int 8)), none] S = some (.rt (.d (.tuple (rows.map .tuple))), [some (.ref 0), some (.d (.list (ps.map .str))), some (.d (.int 8)), none], S2) :=
    ret_at (bi_at (t := .tuple) (x := .d (.list (rows.map .tuple))) (comp_at (rng_at (call_e (es_cons rfl (es_cons rfl es_nil)) e1) v0 (by omega)) e2) rfl)
  show fin S (evSs (callN fns (n + 3)) f25.body [some (.ref 0), some (.d (.list (ps.map .str))), some (.d (.int 8)), none] S) = _
  rw [q]
  exact fin_sp h h2'
/-- a long row -/
theorem longS (n : Nat) (h : Sp cs k S) (hk : k < 2 ^ 36) {ps : List Str} (hp : ps ∈ PAGES) : ∃ (rows : List (List D)) (S' : Sto), callN fns (n + 3) 26 [.ref 0, .d (.list (ps.map .str))] S = some (.d (.tuple (rows.map .tuple)), S') ∧ (∀ r ∈ rows, Deed r) ∧ rows.length ≤ 200 ∧ Sp cs (k + 1) S' := by
  obtain ⟨l3, hin⟩ := pages_in ps hp
  obtain ⟨p, q, r, rfl⟩ : ∃ p q r, ps = [p, q, r] := by
    match ps, l3 with
    | [p, q, r], _ => exact ⟨p, q, r, rfl⟩
  have hpp := hin p List.mem_cons_self
  obtain ⟨d, hd, S1, e1, h1⟩ := pickS n h (by omega) (ds := [.int 61, .int 150]) (by simp) (by simp)
  have hv : ∃ v : Int, d = .int v ∧ 0 ≤ v ∧ v ≤ 150 := by
    simp only [List.mem_cons, List.not_mem_nil, or_false] at hd
    rcases hd with rfl | rfl
    · exact ⟨_, rfl, by omega, by omega⟩
    · exact ⟨_, rfl, by omega, by omega⟩
  obtain ⟨v, rfl, v0, v1⟩ := hv
  let some3 : List D := [.tuple [.str "seal"], .tuple [.str "strike", .str p], .tuple [.str "end"]]
  obtain ⟨zs, S2, e2, p2, l2, h2⟩ := loop_all (N := 150) (t := turn (callN fns (n + 2)) [3] (.one 3) .nil (.ix (.loc 2) (.bin .Mod (.bi .int (.loc 3)) (.int 3))) [some (.ref 0), some (.d (.list ([p, q, r].map .str))), some (.d (.list some3)), none]) (I := fun j S => Sp cs (k + 1) S) (P := fun d => ∃ r, d = .tuple r ∧ Deed r) (rngD v) [] 0 S1 h1 (fun d hd j S hj hI => by
    obtain ⟨i, rfl⟩ := rng_mem hd
    have b := mod_rng (i : Int) (m := 3) (by decide)
    obtain ⟨x, hx, ex⟩ := at_list (ds := some3) b.1 b.2
    have hx' : ∃ r, x = .tuple r ∧ Deed r := by
      simp only [some3, List.mem_cons, List.not_mem_nil, or_false] at hx
      rcases hx with rfl | rfl | rfl
      · exact ⟨_, rfl, .bare (by decide +kernel)⟩
      · exact ⟨_, rfl, .page (by decide +kernel) hpp⟩
      · exact ⟨_, rfl, .bare (by decide +kernel)⟩
    exact ⟨x, S, turn_at (L' := [some (.ref 0), some (.d (.list ([p, q, r].map .str))), some (.d (.list some3)), some (.d (.int i))]) rfl rfl (ix_at (x := .d (.list some3)) (y := .d (.int ((i : Int) % 3))) rfl (bin_at (bi_at (t := .int) rfl int_ok) rfl rfl (mod_ok (by decide))) ex), hx', hI⟩) (by rw [rng_len, List.length_nil]; exact Nat.le_trans (by omega) (show 150 ≤ sizeLine by decide)) (by rw [rng_len]; omega)
  obtain ⟨rows, rfl, hrows⟩ := tuples p2
  refine ⟨rows, S2, ?_, hrows, by rw [List.length_map, rng_len] at l2; omega, h2⟩
  rw [call_at (d := f26) rfl rfl]
  have qq : evSs (callN fns (n + 2)) f26.body [some (.ref 0), some (.d (.list ([p, q, r].map .str))), none, none] S = some (.rt (.d (.tuple (rows.map .tuple))), [some (.ref 0), some (.d (.list ([p, q, r].map .str))), some (.d (.list some3)), none], S2) :=
    Eq.trans (asg_at (x := .d (.list some3)) (S1 := S) rfl) (ret_at (bi_at (t := .tuple) (x := .d (.list (rows.map .tuple))) (comp_at (rng_at (call_e (es_cons rfl (es_cons rfl es_nil)) e1) v0 (by omega)) e2) rfl))
  show fin S (evSs (callN fns (n + 2)) f26.body [some (.ref 0), some (.d (.list ([p, q, r].map .str))), none, none] S) = _
  rw [qq]
  exact fin_sp h h2
theorem eq_str (a b : Str) (S : Sto) : bin2 (gCmp .NotEq) (.d (.str a)) (.d (.str b)) S = some (.bool (!(a == b))) := rfl
/-- a drawn rule -/
theorem ruleS (n : Nat) (h : Sp cs k S) (hk : k < 2 ^ 36) : ∃ (xs : List Str) (S' : Sto), xs.Sublist GS ∧ callN fns (n + 3) 22 [.ref 0] S = some (.d (.tuple (xs.map .str)), S') ∧ Sp cs (k + 20) S' := by
  obtain ⟨v, S1, v0, v1, e1, h1⟩ := dipS (n + 1) h (by omega) (m := 6) (by decide) (by decide)
  obtain ⟨o1, ho1⟩ := h1.one
  have eg : evE (callN fns (n + 2)) (.bi .sorted (.call 21 .nil)) [some (.ref 0), none, none, none, none] S1 = some (.d (.list (GS.map .str)), S1) :=
    bi_at (t := .sorted) (x := .d (.list (G12.map .str))) (call_e es_nil (by rw [ho1]; exact guards_at (n + 1) o1)) (guards_sorted _)
  have st : evSs (callN fns (n + 2)) f22.body [some (.ref 0), none, none, none, none] S = evSs (callN fns (n + 2)) (f22.body.drop 1) [some (.ref 0), some (.d (.int v)), some (.d (.list (GS.map .str))), none, none] S1 :=
    par_at (es_cons (call_e (es_cons rfl (es_cons rfl es_nil)) e1) (es_cons eg es_nil)) rfl
  have go : ∀ {xs : List Str} {L' : Loc} {S' : Sto}, evSs (callN fns (n + 2)) (f22.body.drop 1) [some (.ref 0), some (.d (.int v)), some (.d (.list (GS.map .str))), none, none] S1 = some (.rt (.d (.tuple (xs.map .str))), L', S') → Sp cs (k + 20) S' → callN fns (n + 3) 22 [.ref 0] S = some (.d (.tuple (xs.map .str)), S') := fun {xs L' S'} q h' => by
    rw [call_at (d := f22) rfl rfl]
    show fin S (evSs (callN fns (n + 2)) f22.body [some (.ref 0), none, none, none, none] S) = _
    rw [st, q]
    exact fin_sp h h'
  have c1 : ∀ b, decide (v < 2) = b → evE (callN fns (n + 2)) (.cmp .Lt (.loc 1) (.int 2)) [some (.ref 0), some (.d (.int v)), some (.d (.list (GS.map .str))), none, none] S1 = some (.d (.bool b), S1) := fun b hb =>
    cmp_at (x := .d (.int v)) (y := .d (.int 2)) rfl rfl (show some (PyData.bool (decide (v < 2))) = _ by rw [hb])
  have c2 : ∀ b, (v == 2) = b → evE (callN fns (n + 2)) (.cmp .Eq (.loc 1) (.int 2)) [some (.ref 0), some (.d (.int v)), some (.d (.list (GS.map .str))), none, none] S1 = some (.d (.bool b), S1) := fun b hb =>
    cmp_at (x := .d (.int v)) (y := .d (.int 2)) rfl rfl (show some (PyData.bool (v == 2)) = _ by rw [hb])
  by_cases hv : v < 2
  · have hv2 : v = 0 ∨ v = 1 := by omega
    have c1 := c1 true (decide_eq_true hv)
    rcases hv2 with rfl | rfl
    · exact ⟨[], S1, List.nil_sublist _, go (Eq.trans (if_t c1 rfl (ret_at (x := .d (.tuple (([] : List Str).map .str))) (S1 := S1) rfl)) rfl) (h1.mono (by omega)), h1.mono (by omega)⟩
    · exact ⟨GS, S1, List.Sublist.refl _, go (Eq.trans (if_t c1 rfl (ret_at (x := .d (.tuple (GS.map .str))) (S1 := S1) (by kernel_rfl))) rfl) (h1.mono (by omega)), h1.mono (by omega)⟩
  · have c1 := c1 false (decide_eq_false hv)
    by_cases hv2 : v = 2
    · have c2 := c2 true (by rw [hv2]; rfl)
      obtain ⟨d, hd, S2, e2, h2⟩ := pickS n h1 (by omega) (ds := GS.map .str) (by decide) (by decide)
      obtain ⟨out, hout, rfl⟩ := List.mem_map.mp hd
      obtain ⟨zs, S3, e3, l3, h3⟩ := loop_sub (N := 12) (t := turn (callN fns (n + 2)) [4] (.one 4) (.cons (.cmp .NotEq (.loc 4) (.loc 3)) .nil) (.loc 4) [some (.ref 0), some (.d (.int v)), some (.d (.list (GS.map .str))), some (.d (.str out)), none]) (I := fun j S => Sp cs (k + 2) S) (GS.map .str) [] 0 S2 (h2.mono (by omega)) (fun d hd j S hj hI => by
        obtain ⟨g, hg, rfl⟩ := List.mem_map.mp hd
        refine ⟨S, ?_, hI⟩
        have t : evE (callN fns (n + 2)) (.cmp .NotEq (.loc 4) (.loc 3)) [some (.ref 0), some (.d (.int v)), some (.d (.list (GS.map .str))), some (.d (.str out)), some (.d (.str g))] S = some (.d (.bool (!(g == out))), S) := cmp_at rfl rfl (eq_str g out S)
        cases hb : (!(g == out)) with
        | true =>
          rw [hb] at t
          exact .inl (turn_at (L' := [some (.ref 0), some (.d (.int v)), some (.d (.list (GS.map .str))), some (.d (.str out)), some (.d (.str g))]) rfl (test1 t rfl) rfl)
        | false =>
          rw [hb] at t
          exact .inr (turn_no (L' := [some (.ref 0), some (.d (.int v)), some (.d (.list (GS.map .str))), some (.d (.str out)), some (.d (.str g))]) rfl (test1 t rfl))) (by decide) (by decide)
      obtain ⟨xs, hxs, rfl⟩ := List.sublist_map_iff.mp l3
      refine ⟨xs, S3, hxs, go (Eq.trans (if_f0 c1 rfl) (Eq.trans (if_t c2 rfl (Eq.trans (asg_at (x := .d (.str out)) (call_e (es_cons rfl (es_cons rfl es_nil)) e2)) (ret_at (bi_at (t := .tuple) (x := .d (.list (xs.map .str))) (comp_at rfl e3) rfl)))) rfl)) (h3.mono (by omega)), h3.mono (by omega)⟩
    · have c2 := c2 false (by simpa using hv2)
      obtain ⟨zs, S3, e3, l3, h3⟩ := loop_sub (N := 12) (t := turn (callN fns (n + 2)) [4] (.one 4) (.cons (.cmp .Eq (.call 19 (.cons (.loc 0) (.cons (.int 3) .nil))) (.int 0)) .nil) (.loc 4) [some (.ref 0), some (.d (.int v)), some (.d (.list (GS.map .str))), none, none]) (I := fun j S => Sp cs (k + 1 + j) S) (GS.map .str) [] 0 S1 (h1.mono (by simp)) (fun d hd j S hj hI => by
        obtain ⟨u, S', u0, u1, eu, hu⟩ := dipS (n + 1) hI (by omega) (m := 3) (by decide) (by decide)
        refine ⟨S', ?_, hu.mono (by omega)⟩
        have t : evE (callN fns (n + 2)) (.cmp .Eq (.call 19 (.cons (.loc 0) (.cons (.int 3) .nil))) (.int 0)) [some (.ref 0), some (.d (.int v)), some (.d (.list (GS.map .str))), none, some (.d d)] S = some (.d (.bool (u == 0)), S') := cmp_at (x := .d (.int u)) (y := .d (.int 0)) (call_e (es_cons rfl (es_cons rfl es_nil)) eu) rfl rfl
        cases hb : (u == 0) with
        | true =>
          rw [hb] at t
          exact .inl (turn_at (L' := [some (.ref 0), some (.d (.int v)), some (.d (.list (GS.map .str))), none, some (.d d)]) rfl (test1 t rfl) rfl)
        | false =>
          rw [hb] at t
          exact .inr (turn_no (L' := [some (.ref 0), some (.d (.int v)), some (.d (.list (GS.map .str))), none, some (.d d)]) rfl (test1 t rfl))) (by decide) (by decide)
      obtain ⟨xs, hxs, rfl⟩ := List.sublist_map_iff.mp l3
      have h3' : Sp cs (k + 20) S3 := h3.mono (by rw [List.length_map]; have : GS.length = 12 := rfl; omega)
      refine ⟨xs, S3, hxs, go (Eq.trans (if_f0 c1 rfl) (Eq.trans (if_f0 c2 rfl) (ret_at (bi_at (t := .tuple) (x := .d (.list (xs.map .str))) (comp_at rfl e3) rfl)))) h3', h3'⟩
end
end PL.W

set_option maxHeartbeats 4000000
namespace PL.W
open PySem PySem.Spec PyProof.Rows L2 PL
/-! ### what is told as text -/
theorem showS : ∀ ys : List Str, PyData.showableAll (ys.map .str) = true
  | [] => by simp [PyData.showableAll]
  | y :: r => by simp [PyData.showableAll, PyData.showable, showS r]
theorem dictS : ∀ ys : List Str, PyData.hasDictAll (ys.map .str) = false
  | [] => by simp [PyData.hasDictAll]
  | y :: r => by simp [PyData.hasDictAll, PyData.hasDict, dictS r]
theorem depS : ∀ ys : List Str, PyData.depthAll (ys.map .str) = 0
  | [] => by simp [PyData.depthAll]
  | y :: r => by simp [PyData.depthAll, PyData.depth, depS r]
theorem canS : ∀ ys : List Str, (∀ y ∈ ys, PyData.strOk y = true) → PyData.canLayAll0 (ys.map .str) = true
  | [], _ => by simp [PyData.canLayAll0]
  | y :: r, h => by simp [PyData.canLayAll0, PyData.canLay0, h y List.mem_cons_self, canS r fun z hz => h z (List.mem_cons_of_mem _ hz)]
theorem wS {N : Nat} : ∀ ys : List Str, (∀ y ∈ ys, Fit N y) → PyData.weightAll (ys.map .str) ≤ ys.length * (N + 1)
  | [], _ => by simp [PyData.weightAll]
  | y :: r, h => by
    have l : y.cps.size ≤ N := (h y List.mem_cons_self).len
    have ih := wS r fun z hz => h z (List.mem_cons_of_mem _ hz)
    simp only [List.map_cons, PyData.weightAll, PyData.weight, List.length_cons, Nat.succ_mul]
    omega
def told (ys : List Str) : Str := PyData.shown (.list (ys.map .str))
theorem repr_ok {ys : List Str} {S : Sto} (h : ∀ y ∈ ys, Fit 50000 y) (hl : ys.length ≤ 4) : un1 gRepr (.d (.list (ys.map .str))) S = some (.str (told ys)) := by
  have hw := wS ys h
  have e20 : (2 : Nat) ^ 20 = 1048576 := by decide
  have lay : PyData.layable0 (.list (ys.map .str)) = true := by
    unfold PyData.layable0
    simp only [PyData.canLay0, PyData.depth, PyData.weight, canS ys fun y hy => (h y hy).ok, depS, Bool.true_and, Bool.and_eq_true, decide_eq_true_eq]
    refine ⟨by omega, ?_⟩
    have : ys.length * (50000 + 1) ≤ 4 * 50001 := Nat.mul_le_mul_right _ hl
    have h2 : PyData.weightAll (ys.map .str) ≤ 1048576 := Nat.le_trans hw (Nat.le_trans this (by decide))
    exact decide_eq_true (by rw [e20]; exact h2)
  have len : (PyData.shown (.list (ys.map .str))).length ≤ sizeLine := PyData.shown_fits_of_layable0 (B := 8) (by decide) (by decide) lay (by simp only [PyData.intsShort]; exact PyData.intsShortAll_strs 8 ys)
  have ok : shownOk (.list (ys.map .str)) = true := by
    unfold shownOk
    simp only [PyData.showable, showS, PyData.depth, depS, PyData.hasDict, dictS, Bool.true_and, Bool.not_false, Bool.and_true, Bool.and_eq_true, decide_eq_true_eq]
    exact ⟨by omega, len⟩
  show (if shownOk (.list (ys.map .str)) = true then some (PyData.str (PyData.shown (.list (ys.map .str)))) else none) = _
  rw [if_pos ok]; rfl
theorem reprS_ok {x : Str} {S : Sto} (h : Fit 50000 x) : un1 gRepr (.d (.str x)) S = some (.str (reprText x)) := by
  have l := h.len
  have hc : ∀ c ∈ x.cps.toList, c < 16 ^ 8 := fun c hc => by
    have := h.ok
    unfold PyData.strOk at this
    rw [← Array.all_toList, List.all_eq_true] at this
    have := of_decide_eq_true (this c hc)
    exact Nat.lt_trans this (by decide)
  have := PySem.StrLaws.reprText_len x hc
  have : (reprText x).length ≤ sizeLine := Nat.le_trans this (Nat.le_trans (show 10 * x.length + 2 ≤ 500002 by omega) (by decide))
  show (if (reprText x).length ≤ sizeLine then some (PyData.str (reprText x)) else none) = _
  rw [if_pos this]
theorem ne_same (x : Str) (S : Sto) : bin2 (gCmp .NotEq) (.d (.str x)) (.d (.str x)) S = some (.bool false) := by
  rw [eq_str]; simp
theorem eq_same (x : Str) (S : Sto) : bin2 (gCmp .Eq) (.d (.str x)) (.d (.str x)) S = some (.bool true) := by
  show some (PyData.bool (x == x)) = _
  simp
theorem ne_unit {xs : List Str} (h : xs.Sublist GS) (S : Sto) : bin2 (gCmp .NotEq) (.d (.tuple (xs.map .str))) (.d (.tuple [])) S = some (.bool (!xs.isEmpty)) := by
  have sh : SeqAt.shaped (.tuple (xs.map .str)) = true := by
    unfold SeqAt.shaped
    simp [PyData.canLay0, PyData.depth, depS, canS xs fun y hy => (gs_fit y (h.subset hy)).1.ok]
  show (if bothS (.tuple (xs.map .str)) (.tuple []) = true ∨ (SeqAt.shaped (.tuple (xs.map .str)) = true ∧ SeqAt.shaped (.tuple []) = true) then some (PyData.bool (!PyData.eqv (.tuple (xs.map .str)) (.tuple []))) else none) = _
  rw [if_pos (.inr ⟨sh, by decide +kernel⟩)]
  cases xs <;> simp [PyData.eqv, PyData.eqvAll]
/-! ### loops -/
section
variable {cl : Cl} {L L' : Loc} {S S1 S' : Sto} {tg : Tg} {it : It'} {b rest : List Sx} {ds : List D} {d : D} {f : Nat} {x : Str} {e : E} {z : R} {y : R × Sto}
def lapT (cl : Cl) (tg : Tg) (b : List Sx) : D → Loc → Sto → Option (Fl × Loc × Sto) := fun d L S => okOr (bindT tg d L) fun L' => evSs cl b L' S
theorem for_at (h1 : evI cl it L S = some (ds, none, S1)) (h2 : forM' none (lapT cl tg b) ds L S1 = some (.nx, L', S')) : evSs cl (.fors tg it b :: rest) L S = evSs cl rest L' S' := by
  rw [evSs, evS, h1]
  show okOr (forM' none (lapT cl tg b) ds L S1) _ = _
  rw [h2]; rfl
theorem for_nil {t : D → Loc → Sto → Option (Fl × Loc × Sto)} : forM' none t [] L S = some (.nx, L, S) := rfl
theorem for_cons {t : D → Loc → Sto → Option (Fl × Loc × Sto)} (h : t d L S = some (.nx, L', S')) : forM' none t (d :: ds) L S = forM' none t ds L' S' := by
  rw [forM', h]
  dsimp only
  rw [if_pos (show lockB none S' = true from rfl)]
theorem callK_e (h1 : evE cl e L S = some (z, S1)) (h2 : cl f [z] S1 = some y) : evE cl (.callK f x e) L S = some y := by
  rw [evE, h1]
  exact h2
end
/-- the lines of a row, told by the law -/
theorem lines_at (n : Nat) (o : Ob) (s0 s1 s2 s3 s4 s5 s6 s8 s9 s10 : Option R) {rows : List (List D)} {f : D → Option D} {ls : List Str} (hf : ∀ r ∈ rows, ∃ xs, Parts r xs ∧ f (.tuple r) = some (.str (Txt.join " " xs))) (hm : (rows.map PyData.tuple).map f = ls.map (fun x => some (PyData.str x))) (hy : ∀ y ∈ ls, Fit 200 y) (hl : rows.length ≤ 200) :
    evE (callN fns (n + 1)) (.join (.str "\n") (.comp [10] (.one 10) (.seq (.loc 7)) .nil (.call 28 (.cons (.loc 10) .nil)))) [s0, s1, s2, s3, s4, s5, s6, some (.d (.tuple (rows.map .tuple))), s8, s9, s10] [o] = some (.d (.str (Txt.join "\n" ls)), [o]) := by
  have hls : ls.length = rows.length := by
    have := congrArg List.length hm
    rw [List.length_map, List.length_map, List.length_map] at this
    exact this.symm
  refine join_at (y := .d (.list (ls.map .str))) rfl (comp_at (ds := rows.map .tuple) rfl ?_) (join_ok nl_fit hy (by omega))
  have := loop_same (S := [o]) (t := turn (callN fns (n + 1)) [10] (.one 10) .nil (.call 28 (.cons (.loc 10) .nil)) [s0, s1, s2, s3, s4, s5, s6, some (.d (.tuple (rows.map .tuple))), s8, s9, s10]) f (rows.map .tuple) [] (fun d hd' => by
    obtain ⟨r, hr, rfl⟩ := List.mem_map.mp hd'
    obtain ⟨xs, hp, e⟩ := hf r hr
    rw [e]
    exact turn_at (L' := [s0, s1, s2, s3, s4, s5, s6, some (.d (.tuple (rows.map .tuple))), s8, s9, some (.d (.tuple r))]) rfl rfl (call_e (es_cons rfl es_nil) (line28 n o hp))) (by rw [List.length_nil, List.length_map]; exact Nat.le_trans (by omega) (show 200 ≤ sizeLine by decide))
  rw [List.nil_append, filter_text hm] at this
  exact this
theorem lines_fit {ls : List Str} (hy : ∀ y ∈ ls, Fit 200 y) (hl : ls.length ≤ 200) : Fit 50000 (Txt.join "\n" ls) := by
  refine (join_fit nl_fit hy).mono ?_
  have : ls.length * (1 + 200) ≤ 200 * 201 := Nat.mul_le_mul_right _ hl
  omega
theorem part_fit {ds : List D} {xs : List Str} (h : Parts ds xs) : Fit 50000 (Txt.join " " xs) := by
  refine (join_fit sp_fit h.fit).mono ?_
  have : xs.length * (1 + 61) ≤ 3 * 62 := Nat.mul_le_mul_right _ h.few
  omega
theorem ruleText_fit {xs : List Str} (h : xs.Sublist GS) : Fit 50000 (ruleText xs) := by
  unfold ruleText
  split
  · exact fit_of (by decide +kernel)
  · exact (rule_fit h).mono (by omega)
def LAP : List Sx := match f29.body with
  | _ :: .fors _ _ b :: _ => b
  | _ => []
theorem lap (n : Nat) {cs : List Int} {k : Int} {S : Sto} (h : Sp cs k S) (hk : k < 2 ^ 35) (s0 s2 s3 s4 s5 s6 s7 s8 s9 s10 : Option R) : ∃ ps ∈ PAGES, ∃ m4 m5 m6 m7 m8 m9 S', evSs (callN fns (n + 6)) LAP [s0, some (.ref 0), s2, s3, s4, s5, s6, s7, s8, s9, s10] S = some (.nx, [s0, some (.ref 0), s2, some (.d (.list (ps.map .str))), m4, m5, m6, m7, m8, m9, s10], S') ∧ Sp cs (k + 100) S' := by
  obtain ⟨ps, hps, S1, e1, h1⟩ := pagesS (n + 3) h (by omega)
  obtain ⟨d, S2, e2, hd, h2⟩ := deedS (n + 3) h1 (by omega) hps
  obtain ⟨r, S3, e3, hr, h3⟩ := recordS (n + 3) h2 (by omega) hps
  obtain ⟨xs, S4, hxs, e4, h4⟩ := ruleS (n + 3) h3 (by omega)
  obtain ⟨rows, S5, e5, hrows, hl, h5⟩ := deedsS (n + 2) h4 (by omega) hps
  obtain ⟨o, ho⟩ := h5.one
  subst ho
  obtain ⟨ds1, p1⟩ := hd.parts
  obtain ⟨ds2, p2⟩ := hr.parts
  obtain ⟨f, ls, hf, hm, hy⟩ := rows_lines (P := Deed) (fun r hr => hr.parts) rows hrows
  have hls : ls.length = rows.length := by
    have := congrArg List.length hm
    rw [List.length_map, List.length_map, List.length_map] at this
    exact this.symm
  refine ⟨ps, hps, some (.d (.tuple d)), some (.d (.tuple r)), some (.d (.tuple (xs.map .str))), some (.d (.tuple (rows.map .tuple))), some (.d (.list ([Txt.join " " ds1, Txt.join " " ds2, ruleText xs, Txt.join "\n" ls].map .str))), some (.d (.list ([Txt.join " " ds1, Txt.join " " ds2, ruleText xs].map .str))), [o], ?_, h5.mono (by omega)⟩
  refine Eq.trans (asg_at (call_e (es_cons rfl es_nil) e1)) ?_
  refine Eq.trans (par_at (es_cons (call_e (es_cons rfl (es_cons rfl es_nil)) e2) (es_cons (call_e (es_cons rfl (es_cons rfl es_nil)) e3) (es_cons (call_e (es_cons rfl es_nil) e4) es_nil))) rfl) ?_
  refine Eq.trans (asg_at (call_e (es_cons rfl (es_cons rfl (es_cons rfl es_nil))) e5)) ?_
  refine Eq.trans (asg_at (lst_at (es_cons (call_e (es_cons rfl es_nil) (deed_text (n + 1) o hd p1)) (es_cons (call_e (es_cons rfl es_nil) (record_text (n + 1) o hr p2)) (es_cons (call_e (es_cons rfl es_nil) (rule_text (n + 3) o hxs)) (es_cons (call_e (es_cons rfl es_nil) (history_text (n + 1) o hrows hf hm hy hl)) es_nil)))) rfl (Nat.le_of_ble_eq_true rfl))) ?_
  have own : evE (callN fns (n + 6)) (.ite (.cmp .NotEq (.loc 6) (.tup .nil)) (.join (.str ",") (.loc 6)) (.str "-")) [s0, some (.ref 0), s2, some (.d (.list (ps.map .str))), some (.d (.tuple d)), some (.d (.tuple r)), some (.d (.tuple (xs.map .str))), some (.d (.tuple (rows.map .tuple))), some (.d (.list ([Txt.join " " ds1, Txt.join " " ds2, ruleText xs, Txt.join "\n" ls].map .str))), s9, s10] [o] = some (.d (.str (ruleText xs)), [o]) := by
    cases hx : xs.isEmpty with
    | true =>
      rw [show ruleText xs = "-" by unfold ruleText; rw [if_pos hx]]
      exact Eq.trans (ite_f (cmp_at (x := .d (.tuple (xs.map .str))) (y := .d (.tuple [])) rfl rfl ((ne_unit hxs _).trans (by rw [hx]))) rfl) rfl
    | false =>
      rw [show ruleText xs = Txt.join "," xs by unfold ruleText; rw [if_neg (by rw [hx]; decide)]]
      exact Eq.trans (ite_t (cmp_at (x := .d (.tuple (xs.map .str))) (y := .d (.tuple [])) rfl rfl ((ne_unit hxs _).trans (by rw [hx]))) rfl) (join_at (y := .d (.tuple (xs.map .str))) rfl rfl (rule_join hxs _))
  refine Eq.trans (asg_at (lst_at (es_cons (call_e (es_cons rfl es_nil) (line28 (n + 5) o p1)) (es_cons (call_e (es_cons rfl es_nil) (line28 (n + 5) o p2)) (es_cons own es_nil))) rfl (Nat.le_of_ble_eq_true rfl))) ?_
  have ft : ∀ y ∈ [Txt.join " " ds1, Txt.join " " ds2, ruleText xs, Txt.join "\n" ls], Fit 50000 y := fun y hy' => by
    simp only [List.mem_cons, List.not_mem_nil, or_false] at hy'
    rcases hy' with rfl | rfl | rfl | rfl
    · exact part_fit p1
    · exact part_fit p2
    · exact ruleText_fit hxs
    · exact lines_fit hy (by omega)
  refine Eq.trans (if_f0 (x := .d (.bool false)) (cmp_at (x := .d (.str (told [Txt.join " " ds1, Txt.join " " ds2, ruleText xs, Txt.join "\n" ls]))) (y := .d (.str (told [Txt.join " " ds1, Txt.join " " ds2, ruleText xs, Txt.join "\n" ls]))) (bi_at (t := .repr) (x := .d (.list ([Txt.join " " ds1, Txt.join " " ds2, ruleText xs, Txt.join "\n" ls].map .str))) rfl (repr_ok ft (Nat.le_of_ble_eq_true rfl)))
    (bi_at (t := .repr) (x := .d (.list ([Txt.join " " ds1, Txt.join " " ds2, ruleText xs, Txt.join "\n" ls].map .str))) (bin_at rfl (lst_at (es_cons (lines_at (n + 5) o _ _ _ _ _ _ _ _ _ _ hf hm hy hl) es_nil) rfl (Nat.le_of_ble_eq_true rfl)) rfl rfl) (repr_ok ft (Nat.le_of_ble_eq_true rfl))) (ne_same _ _)) rfl) ?_
  rfl
end PL.W

set_option maxHeartbeats 4000000
namespace PL.W
open PySem PySem.Spec PyProof.Rows L2 PL
theorem springS (n : Nat) (ns : List Int) : callN fns (n + 1) 18 [.scr ns] [] = some (.ref 0, [spO (cutL ns none (some 60)) 0 0 0]) := rfl
theorem hand1 (n : Nat) (o : Ob) : callN fns (n + 6) 13 [.d (.tuple [.str "seal"])] [o] = some (.d (.str "seal"), [o]) := by kernel_rfl
theorem hand2 (n : Nat) (o : Ob) : callN fns (n + 6) 14 [.d (.tuple [.str "free", .str "a"])] [o] = some (.d (.str "free a"), [o]) := by kernel_rfl
theorem hand3 (n : Nat) (o : Ob) : callN fns (n + 6) 15 [.d (.tuple [])] [o] = some (.d (.str "-"), [o]) := by kernel_rfl
theorem hand4 (n : Nat) (o : Ob) : callN fns (n + 6) 16 [.d (.tuple [])] [o] = some (.d (.str ""), [o]) := by kernel_rfl
theorem hand_fit : ∀ y ∈ [("seal" : Str), "free a", "-", ""], Fit 50000 y := fun y hy => fit_of (List.all_eq_true.mp (show [("seal" : Str), "free a", "-", ""].all (fun x => decide (x.length ≤ 50000) && PyData.strOk x) = true by decide +kernel) y hy)
theorem main (ns : List Int) : ∃ S', callN fns 20 29 [.scr ns] [] = some (.d (.bool true), S') := by
  have h0 : Sp (cutL ns none (some 60)) 0 [spO (cutL ns none (some 60)) 0 0 0] := ⟨0, 0, 0, rfl, by omega, by omega⟩
  obtain ⟨ps1, hp1, a4, a5, a6, a7, a8, a9, S1, e1, h1⟩ := lap 13 h0 (by decide) (some (.scr ns)) (some (.d (.int 0))) none none none none none none none none
  obtain ⟨ps2, hp2, b4, b5, b6, b7, b8, b9, S2, e2, h2⟩ := lap 13 h1 (by decide) (some (.scr ns)) (some (.d (.int 1))) (some (.d (.list (ps1.map .str)))) a4 a5 a6 a7 a8 a9 none
  obtain ⟨ps3, hp3, c4, c5, c6, c7, c8, c9, S3, e3, h3⟩ := lap 13 h2 (by decide) (some (.scr ns)) (some (.d (.int 2))) (some (.d (.list (ps2.map .str)))) b4 b5 b6 b7 b8 b9 none
  obtain ⟨ps4, hp4, d4, d5, d6, d7, d8, d9, S4, e4, h4⟩ := lap 13 h3 (by decide) (some (.scr ns)) (some (.d (.int 3))) (some (.d (.list (ps3.map .str)))) c4 c5 c6 c7 c8 c9 none
  obtain ⟨rows, S5, e5, hrows, hl, h5⟩ := longS 16 h4 (by decide) hp4
  obtain ⟨o, ho⟩ := h5.one
  subst ho
  obtain ⟨f, ls, hf, hm, hy⟩ := rows_lines (P := Deed) (fun r hr => hr.parts) rows hrows
  have hls : ls.length = rows.length := by
    have := congrArg List.length hm
    rw [List.length_map, List.length_map, List.length_map] at this
    exact this.symm
  have q : evSs (callN fns 19) f29.body [some (.scr ns), none, none, none, none, none, none, none, none, none, none] [] = some (.rt (.d (.bool true)), [some (.scr ns), some (.ref 0), some (.d (.int 3)), some (.d (.list (ps4.map .str))), d4, d5, d6, some (.d (.tuple (rows.map .tuple))), some (.d (.list ([("seal" : Str), "free a", "-", ""].map .str))), d9, none], [o]) := by
    refine Eq.trans (asg_at (call_e (es_cons rfl es_nil) (springS 18 ns))) ?_
    refine Eq.trans (for_at (L' := [some (.scr ns), some (.ref 0), some (.d (.int 3)), some (.d (.list (ps4.map .str))), d4, d5, d6, d7, d8, d9, none]) (S' := S4) (rng_at (v := 4) rfl (by decide) (by decide)) ?_) ?_
    · show forM' none (lapT (callN fns 19) (.one 2) LAP) [.int 0, .int 1, .int 2, .int 3] [some (.scr ns), some (.ref 0), none, none, none, none, none, none, none, none, none] [spO (cutL ns none (some 60)) 0 0 0] = _
      rw [for_cons e1, for_cons e2, for_cons e3, for_cons e4]
      rfl
    refine Eq.trans (asg_at (call_e (es_cons rfl (es_cons rfl es_nil)) e5)) ?_
    refine Eq.trans (if_f0 (x := .d (.bool false)) (cmp_at (x := .d (.str (reprText (Txt.join "\n" ls)))) (y := .d (.str (reprText (Txt.join "\n" ls)))) (bi_at (t := .repr) (call_e (es_cons rfl es_nil) (history_text 14 o hrows hf hm hy hl)) (reprS_ok (lines_fit hy (by omega))))
      (bi_at (t := .repr) (lines_at 18 o _ _ _ _ _ _ _ _ _ _ hf hm hy hl) (reprS_ok (lines_fit hy (by omega)))) (ne_same _ _)) rfl) ?_
    refine Eq.trans (asg_at (lst_at (es_cons (callK_e (tup_at (es_cons rfl es_nil) rfl (Nat.le_of_ble_eq_true rfl)) (hand1 13 o)) (es_cons (callK_e (tup_at (es_cons rfl (es_cons rfl es_nil)) rfl (Nat.le_of_ble_eq_true rfl)) (hand2 13 o)) (es_cons (callK_e (tup_at es_nil rfl (Nat.le_of_ble_eq_true rfl)) (hand3 13 o)) (es_cons (callK_e (tup_at es_nil rfl (Nat.le_of_ble_eq_true rfl)) (hand4 13 o)) es_nil)))) rfl (Nat.le_of_ble_eq_true rfl))) ?_
    refine ret_at (cmp_at (x := .d (.str (told [("seal" : Str), "free a", "-", ""]))) (y := .d (.str (told [("seal" : Str), "free a", "-", ""]))) (bi_at (t := .repr) (x := .d (.list ([("seal" : Str), "free a", "-", ""].map .str))) rfl (repr_ok hand_fit (Nat.le_of_ble_eq_true rfl)))
      (bi_at (t := .repr) (x := .d (.list ([("seal" : Str), "free a", "-", ""].map .str))) rfl (repr_ok hand_fit (Nat.le_of_ble_eq_true rfl))) (eq_same _ _))
  refine ⟨[], ?_⟩
  rw [call_at (d := f29) rfl rfl]
  show fin [] (evSs (callN fns 19) f29.body [some (.scr ns), none, none, none, none, none, none, none, none, none, none] []) = _
  rw [q]
  rfl
end PL.W

set_option maxHeartbeats 0
namespace PL.W
open PySem PySem.Spec PyProof.Rows L2 PL
abbrev Rw : PySem.W.OpenRow := PySem.W.OpenLaw.row PySem.Challenge.rw_pagelives_k09_texts_written
abbrev hk : PySem.W.Hook := He.hookX 4 (faOf T) (fnsOf T srcs) (tsOf T) [] (exB T)
def ob (s : PySem.W.SharedT) : He.AlX := He.obsX 4 (faOf T) (fnsOf T srcs) (tsOf T) [] (exB T) (HandSHeadRun.getT s)
theorem ob_eq (s : PySem.W.SharedT) : ob s = hk.obs s.abs := He.obsX_eq (HandSHeadRun.getT_eq s)
def names0 : List PySem.Str := ["is_ascending", "GUARDS", "LETTERS", "DEED_PARTS", "RECORD_PARTS", "is_integer", "is_page", "is_guard", "deed_parts", "record_parts", "has_word", "is_part", "are_parts", "is_record", "is_deed", "is_rule", "PageError", "StoreError", "NotUsable", "need"]
def names1 : List PySem.Str := ["deed_text", "record_text", "rule_text", "history_text", "parts_text", "_law_spring", "_law_dip", "_law_pick", "_law_guards", "_law_rule", "_law_pages", "_law_deed", "_law_deeds", "_law_long", "_law_record", "_law_line"]
def names : List PySem.Str := names0 ++ names1
abbrev lawAt : Nat := 42
theorem run (w : World) : HandSHeadRun.RunEq Rw (PySem.W.view Rw.prog [lawAt]) hk ob 4000 names w := by
  refine PySem.W.byRow2 "special-get-raises" (P := fun w => HandSHeadRun.RunEq Rw (PySem.W.view Rw.prog [lawAt]) hk ob 4000 names w) (fun w => ?_) (fun w => ?_) w
  · intro os
    kernel_rfl
  · intro os
    kernel_rfl
end PL.W

set_option maxHeartbeats 0
namespace PL.W
open PySem PySem.Spec PyProof.Rows L2 PL
theorem cks : (T.fns.zip srcs).all (fun p => ckFn T p.1 p.2) = true := by kernel_rfl
end PL.W
open PySem PySem.W PySem.Calls PyProof.Rows
theorem PySem.Challenge.cw_pagelives_k09_texts_written_holds : PySem.Challenge.rw_pagelives_k09_texts_written.Holds := by
  w_on; o_law
  refine HandSHeadRun.head_any (r := PL.W.Rw) (q := view PL.W.Rw.prog [PL.W.lawAt]) (H := PL.W.hk) (ob := PL.W.ob) (M := 4000) (loose := PL.W.names) (d := HandSHeadRun.topDef PL.W.Rw.prog PL.W.lawAt) (kwd := []) PL.W.ob_eq
    (by kernel_rfl) (fun s => by kernel_rfl) PL.W.run (by kernel_rfl) (by kernel_rfl) (by kernel_rfl) (by rfl) (by first | assumption | decide +kernel) (by decide +kernel) ⟨rfl, rfl, rfl, rfl, rfl, by decide +kernel⟩ ?hw ?hc
  case hw => w_witness2
  case hc =>
    refine PL.walk_pl (l := PySem.Challenge.rw_pagelives_k09_texts_written) (n := 63) (k := 20) (i := 29) (T := PL.W.T) (src := PL.W.srcs) (D := PL.W.f29) (x := "_law_script") rfl (by decide) (by kernel_rfl) ⟨rfl, by decide, by decide⟩ rfl (by kernel_rfl) rfl ?F (fun ns _ _ => PL.W.main ns)
    intro w mg fa h Y G hmg
    obtain ⟨K, KX, c⟩ := Y
    exact ⟨K, KX, PL.txt_of KX G c PL.W.cks rfl⟩
