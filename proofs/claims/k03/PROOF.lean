import PyProof.Rows.All
import PySem.Challenge.RW_withoutloops_k03_questions_by_hand_and_r
import HandS.ForMost
import Wide.All
import OpenK.AllK
import Wide.FinOn
import HandS.Set
import HandS.SetTxt0
import HandS.Strs
import PyProof.Rows.SetFrom
import PyProof.Rows.SortShellAny
import HandS.IsInst
import HandS.Evl
import HandS.Walk
import HandS.SortKw
import PyProof.WalkInts
import HandS.TupAny
import KE.KDictOf
import PyProof.ReprRoads
import HandS.EndTab
import HandS.NestedK
import PyProof.CompFree
import HandS.Comp
import HandS.Exc
import HandS.WordsExc
import HandS.ExcInit
import HandS.RaiseMore
import PyProof.ReprBulk
import HandS.Wide
import HandS.ExcValue
import KE.KExcIs
import HandS.Lambda
import HandS.ExcIs
import HandS.ExcField
import HandS.MakeKwOnly
import HandS.DictEq
import PyProof.NeData
import PyProof.StrBlock2
import HandS.Defaults
set_option Elab.async false
set_option maxRecDepth 100000
namespace WL
open PySem L2
def top (i : Nat) : Stmt := PySem.Challenge.pw_withoutloops_k03_questions_by_hand_and_r.main.body.getD i (.Pass ⟨0, 0, 0, 0⟩)
abbrev sLoopError_Init : Stmt := inClass (top 1) 0
abbrev sIsInteger : Stmt := top 14
abbrev sIsName : Stmt := top 15
abbrev sAreUnlikeNames : Stmt := top 16
abbrev sIsHead : Stmt := top 17
abbrev sIsTable : Stmt := top 18
abbrev sIsTables : Stmt := top 19
abbrev sFreeNames : Stmt := top 24
abbrev sPart_Init : Stmt := inClass (top 25) 0
abbrev sReader_Init : Stmt := inClass (top 26) 0
abbrev sReader_NextWord : Stmt := inClass (top 26) 1
abbrev sReader_Take : Stmt := inClass (top 26) 2
abbrev sReader_ReadPlace : Stmt := inClass (top 26) 3
abbrev sReader_ReadBound : Stmt := inClass (top 26) 4
abbrev sReader_ReadPart : Stmt := inClass (top 26) 5
abbrev sReader_ReadEnd : Stmt := inClass (top 26) 6
abbrev sWholePart : Stmt := top 27
abbrev sQuestion_Init : Stmt := inClass (top 29) 0
abbrev sQuestion_Eq : Stmt := inClass (top 29) 1
abbrev sCheckQuestion : Stmt := top 30
abbrev sWidth : Stmt := top 31
abbrev sLawPot : Stmt := top 33
abbrev sLawTake : Stmt := top 34
abbrev sLawOf : Stmt := top 35
abbrev sLawCaught : Stmt := top 36
abbrev sLawIsRefused : Stmt := top 37
abbrev sLawOdd : Stmt := top 38
abbrev sLawWord : Stmt := top 39
abbrev sLawAreTold : Stmt := top 40
abbrev sLawAreTextsRefused : Stmt := top 41
abbrev sLawAreBoundsRight : Stmt := top 42
abbrev sLawRight : Stmt := top 43
abbrev sLaw : Stmt := top 44
end WL

set_option Elab.async false
set_option linter.all false
set_option maxRecDepth 100000
set_option maxHeartbeats 4000000
namespace WL
open PySem PySem.Spec PyProof.Rows L2

structure Pay (P : Program) (w : World) (D : Froz.SD) (l : List Str) : Prop where
  ok : Froz.TxOk P w D l
  nd : l.Nodup
  ris : Ris D.2.2.place.toList
  led : w.params.followText "set-order" = true ∨ D.2.2.led = true

theorem tail_ris {ep : Nat} {es : Array (Int × Value)} {t : SetTable} {b : Bool} (r : Ris t.place.toList) : Ris (Froz.tailTx ep es t b).2.2.place.toList := by
  unfold Froz.tailTx
  split
  · exact relayAll_ris _ _ _
  · exact r
theorem tail_led {ep : Nat} {es : Array (Int × Value)} {t : SetTable} {b : Bool} : (Froz.tailTx ep es t b).2.2.led = t.led := by
  unfold Froz.tailTx
  split
  · exact relayAll_led _ _ _
  · rfl
theorem add_ris {h : Int} {v : Value} {D : Froz.SD} (r : Ris D.2.2.place.toList) : Ris (Froz.addTx h v D).2.2.place.toList := by
  have q := layNew_ris D.2.2 D.1 h v r
  refine tail_ris ?_
  split
  · exact q
  · exact q
theorem add_led {h : Int} {v : Value} {D : Froz.SD} : (Froz.addTx h v D).2.2.led = D.2.2.led := by
  have q := layNew_led D.2.2 D.1 h v
  unfold Froz.addTx
  rw [tail_led]
  split
  · exact q
  · exact q

section
variable {P : Program} {w : World} {A : Around} {E : Value → Shared → Prop} {s : Shared}

theorem Pay.add {D : Froz.SD} {l : List Str} {k : Str} (u : Tok) (F : Pay P w D l) (hk : k ∉ l) : Pay P w (Froz.addTx (hashStr w k) (.str k u) D) (k :: l) where
  ok := Froz.add_ok u F.ok
  nd := List.nodup_cons.mpr ⟨hk, F.nd⟩
  ris := add_ris F.ris
  led := F.led.imp id fun z => by rw [add_led]; exact z

theorem dup_x {a : Addr} {T : String} {D : Froz.SD} {l : List Str} {k : Str} {u : Tok} {Q : Bool → Shared → Prop} (ho : s.heap.get? a = some (Froz.sObj T D)) (F : Froz.TxOk P w D l)
    (hk : k ∈ l) (hb : l.length < scanBound) (h : Q false s) : wpAny (model P w) A (setAddHashed a (.str k u) (hashStr w k)) Q E s := by
  obtain ⟨es, ep, t⟩ := D
  have e1 : (Froz.sObj T (es, ep, t)).data = .set es ep t := rfl
  have e2 : t.fits es.size = true := F.fit
  have e3 : ElemsOf (PySem.strKind P w) es.toList := F.el
  have e4 : es.size < scanBound := by have := F.sz; dsimp only at this; omega
  have e5 : (PySem.strKind P w).is k (.str k u) = true := Froz.is_str k u
  obtain ⟨j, hj⟩ : ∃ j, List.findIdx? (fun e => (PySem.strKind P w).is k e.2) es.toList = some j := by
    cases hr : List.findIdx? (fun e => (PySem.strKind P w).is k e.2) es.toList with
    | some j => exact ⟨j, rfl⟩
    | none =>
      obtain ⟨e, he, q⟩ := (F.mem k).mp hk
      have c := List.findIdx?_eq_none_iff.mp hr e he
      rw [q] at c
      cases c
  unfold setAddHashed setAddHashedIn
  refine wpAny_holding (wpAny_bind (wpAny_setState_of ho e1 e2 ?_)); dsimp only
  rw [byScan_of rfl e4 e3]; simp only [↓reduceIte]
  unfold setAddByScan
  refine wpAny_bind (wpAny_bind (wpAny_rule (wpAny_bind ?_)))
  refine wpAny_setScan_of (knd := PySem.strKind P w) (k := k) e5 ho e1 e2 e3 ?_
  rw [hj]
  dsimp only
  exact wpAny_pure (wpAny_pure h)
end

section
variable {P : Program} {w : World} {A : Around} {R : Result → Shared → Prop} {I : Addr} {fp wr : List Addr} {G : Array GenState → Array GenState → Prop} {n : Nat} {Pv : Nat → Value → Prop} {St : Nat → Shared → Prop}
theorem loopT (W : WalksS P w A.in1 I fp wr G n Pv St) (S : Addr) (hSf : S ∉ fp) (xs : List Str) (hsz : xs.length = n) (hb : n + 1 < scanBound)
    (hval : ∀ i v, Pv i v → ∃ t, v = .str (xs.getD i Str.empty) t) :
    ∀ (k i : Nat) (s : Shared) (D : Froz.SD) (l : List Str), n - i = k → i ≤ n → St i s → s.heap.get? S = some (Froz.sObj "set" D) → Pay P w D l → (∀ x, x ∈ l ↔ x ∈ xs.take i) → l.length ≤ i →
      (∀ s' D' l', Moved (S :: wr) G s s' → s'.heap.get? S = some (Froz.sObj "set" D') → Pay P w D' l' → (∀ x, x ∈ l' ↔ x ∈ xs) → l'.length ≤ n → R (.ok (.ret .none)) s') →
      codeAny (model P w) A (.builtin "set.update.loop" ⟨[.ref S, .ref I], []⟩) R s := by
  have hSw : S ∉ wr := fun h => hSf (W.sub _ h)
  have sub : ∀ b ∈ wr, b ∈ S :: wr := fun b hb => List.mem_cons_of_mem _ hb
  intro k
  induction k with
  | zero =>
    intro i s D l hk hi hst hS F hm hl hR
    have hin : i = n := by omega
    subst hin
    refine codeAny_builtin PyProof.Rows.F.entry_set_update_loop ?_
    rw [Around.under_plainId PyProof.Rows.F.plain_set_update_loop _]
    show wpAny _ A.in1 (pyNext (.ref I) >>= _) _ _ s
    refine wpAny_bind (W.done s _ _ hst fun s' mv => ?_)
    show wpAny _ A.in1 (ret Value.none) _ _ s'
    have q : xs.take i = xs := List.take_of_length_le (by omega)
    rw [q] at hm
    exact wpAny_pure (hR s' D l (mv.mono sub) (mv.heap S _ hSw hS) F hm hl)
  | succ k ih =>
    intro i s D l hk hi hst hS F hm hl hR
    have hlt : i < n := by omega
    refine codeAny_builtin PyProof.Rows.F.entry_set_update_loop ?_
    rw [Around.under_plainId PyProof.Rows.F.plain_set_update_loop _]
    show wpAny _ A.in1 (pyNext (.ref I) >>= _) _ _ s
    refine wpAny_bind (W.item i s _ _ hlt hst fun v s' hP hst' mv => ?_)
    obtain ⟨t, rfl⟩ := hval i v hP
    have hx : xs[i]? = some (xs.getD i Str.empty) := by
      rw [List.getD_eq_getElem?_getD, List.getElem?_eq_getElem (by omega)]; rfl
    generalize xs.getD i Str.empty = x at hx ⊢
    have hS' := mv.heap S _ hSw hS
    have tk : xs.take (i + 1) = xs.take i ++ [x] := by rw [List.take_add_one, hx]; rfl
    show wpAny _ A.in1 (holding [Value.str x t] (setAdd S (.str x t)) >>= _) _ _ s'
    refine wpAny_bind (wpAny_holding ?_)
    unfold setAdd
    refine wpAny_holding (wpAny_bind ((PySem.strKind P w).pyHash (k := x) (Froz.is_str x t) ?_))
    by_cases hxl : x ∈ l
    · refine dup_x (s := { s' with toks := s'.toks + 1 }) hS' F.ok hxl (by omega) ?_
      refine wpAny_pure ⟨plainId_quiet PyProof.Rows.F.plain_set_update_loop _, ih (i + 1) _ D l (by omega) hlt (W.frame _ s' s'.heap _ hst' (Nat.le_succ _) fun b _ o e => e) hS' F (fun y => ?_) (by omega) fun s2 D2 l2 mv2 => ?_⟩
      · rw [hm y, tk, List.mem_append, List.mem_singleton]
        exact ⟨.inl, fun z => z.elim id fun e => by rw [e]; exact (hm x).mp hxl⟩
      · exact hR s2 D2 l2 (Moved.trans W.gtrans ((mv.mono sub).then_heap (Nat.le_succ _) fun b o _ e => e) mv2)
    · refine Froz.add_x (s := { s' with toks := s'.toks + 1 }) hS' F.ok hxl (by omega) ?_
      have F2 := F.add t hxl
      have hS2 := Froz.get_upd (Froz.sObj "set" (Froz.addTx (hashStr w x) (.str x t) D)) hS' rfl
      have far : ∀ b o, b ≠ S → s'.heap.get? b = some o → (s'.heap.update S (fun _ => Froz.sObj "set" (Froz.addTx (hashStr w x) (.str x t) D))).get? b = some o :=
        fun b o hb e => (Heap.get?_update_other _ _ (Ne.symm hb)).trans e
      refine wpAny_pure ⟨plainId_quiet PyProof.Rows.F.plain_set_update_loop _, ih (i + 1) _ _ (x :: l) (by omega) hlt (W.frame _ s' _ _ hst' (Nat.le_succ _) fun b hb o e => far b o (fun z => hSf (z ▸ hb)) e) hS2 F2 (fun y => ?_) (by rw [List.length_cons]; omega) fun s2 D2 l2 mv2 => ?_⟩
      · rw [tk, List.mem_append, List.mem_singleton, List.mem_cons, hm y]
        exact Or.comm
      · exact hR s2 D2 l2 (Moved.trans W.gtrans ((mv.mono sub).then_heap (Nat.le_succ _) fun b o hb e => far b o (fun z => hb (by rw [z]; exact List.mem_cons_self)) e) mv2)
end
end WL

set_option Elab.async false
set_option linter.all false
set_option maxRecDepth 100000
set_option maxHeartbeats 4000000
namespace WL
open PySem PySem.Spec PyProof.Rows L2
section
variable {P : Program} {w : World} {A : Around} {E : Value → Shared → Prop} {s : Shared}
abbrev newT (w : World) : Obj := { cls := .type "set", dict := none, data := .set #[] 0 (.fresh 0 0 (!w.params.followText "set-order")) }
theorem new_pay (w : World) : Pay P w (#[], 0, .fresh 0 0 (!w.params.followText "set-order")) [] where
  ok := Froz.TxOk.nil rfl
  nd := List.nodup_nil
  ris := List.Pairwise.nil
  led := by
    show _ ∨ (!w.params.followText "set-order") = true
    cases w.params.followText "set-order"
    · exact .inr rfl
    · exact .inl rfl
theorem newT_code (a : Value) {Q : Value → Shared → Prop} (h : Q (.ref s.heap.objs.size) { s with heap := s.heap.push (newT w) }) :
    codeAny (model P w) A (.call (.builtin "set.__new__") ⟨[.type "set", a], []⟩) (wants Q E) s := by
  refine codeAny_of_tree ?_
  show wpAny _ A.in1 (checkBuiltinCall "set.__new__" ⟨[.type "set", a], []⟩ >>= fun _ => again (.builtin "set.__new__" ⟨[.type "set", a], []⟩)) _ _ s
  refine wpAny_bind (wpAny_of_eq (PySem.F.newCall_set_1 a) (wpAny_pure ⟨plainId_quiet PySem.F.plain_set_new _, codeAny_builtin PySem.F.entry_set_new ?_⟩))
  rw [Around.under_plainId PySem.F.plain_set_new _]
  unfold Builtin.«set.__new__» Builtin.Frozenset.newClass
  have sub1 := sub_set_self
  obtain ⟨hp, g, d, tk, os⟩ := s
  dsimp only
  wp_walk
  refine wpAny_askSetting (wpAny_pure ?_); dsimp only
  simp only [newObj]
  exact wpAny_bind (wpAny_alloc (wpAny_pure (wpAny_pure h)))

set_option maxHeartbeats 8000000 in
theorem call_setT {l : Addr} {items : Array Value} {xs : List Str} {Q : Value → Shared → Prop}
    (hh : A.handled = none) (hl : s.heap.IsList l items ∨ s.heap.IsTuple l items) (hi : StrsAre items.toList xs) (hb : xs.length + 1 < scanBound)
    (h : ∀ (h' : Heap) (tk : Nat) D ys, h'.get? s.heap.objs.size = some (Froz.sObj "set" D) → Pay P w D ys → (∀ x, x ∈ ys ↔ x ∈ xs) →
      (∀ b o, s.heap.get? b = some o → h'.get? b = some o) → Q (.ref s.heap.objs.size) { s with heap := h', toks := tk }) :
    wpAny (model P w) A (call (.type "set") [.ref l]) Q E s := by
  obtain ⟨c, tl, hmro⟩ := PySem.F.called_set.mro
  have made1 := PySem.F.called_set.made
  have sub1 := PySem.F.called_set.sub
  refine wpAny_call (codeAny_of_tree ?_)
  show wpAny _ _ (callAny (.type "set") _) _ _ _
  refine wpAny_pure ⟨Code.quiet_builtin _ (by decide +kernel), codeAny_builtin PySem.F.entry_type_call ?_⟩
  rw [Around.under_plain (weight_type_call_type "set" [.ref l] []) rfl]
  have g1 := PySem.F.called_set.notType
  have g2 := PySem.F.called_set.canCreate
  have g3 := PySem.F.typeCall_set_1 (.ref l)
  repeat (any_goals (first | assumption | wp_step))
  refine codeAny_mono (newT_code (w := w) (.ref l) (E := E) (Q := fun obj s₁ => obj = .ref s.heap.objs.size ∧ s₁ = { s with heap := s.heap.push (newT w) }) ⟨rfl, rfl⟩) fun r s₁ hr => ?_
  cases r with
  | error e => exact hr
  | ok fl =>
    cases fl with
    | ret obj =>
      obtain ⟨rfl, rfl⟩ := hr
      have hS : (s.heap.push (newT w)).get? s.heap.objs.size = some (newT w) := Heap.get?_push_size _ rfl
      have hT : Shared.TypeIs { s with heap := s.heap.push (newT w) } (.ref s.heap.objs.size) "set" := ⟨_, hS, rfl⟩
      have i1 := PySem.F.called_set.init.lookup
      have i2 := PySem.F.called_set.init.bind (.ref s.heap.objs.size)
      repeat (any_goals (first | assumption | wp_step))
      refine codeAny_mono (codeAny_call_builtin (R := wants (fun r s₂ => r = .none ∧ ∃ h' tk D ys, s₂ = { s with heap := h', toks := tk } ∧ h'.get? s.heap.objs.size = some (Froz.sObj "set" D) ∧ Pay P w D ys ∧
          (∀ x, x ∈ ys ↔ x ∈ xs) ∧ (∀ b o, s.heap.get? b = some o → h'.get? b = some o)) E) PySem.F.called_set.init.plain PySem.F.entry_set_init (check_set_init_1 hT ?_)) fun r₂ s₂ hr₂ => ?_
      · have hsz : xs.length = items.size := by rw [← StrsAre.len_eq hi, Array.length_toList]
        have hval : ∀ (i : Nat) (v : Value), items[i]? = some v → ∃ t, v = .str (xs.getD i Str.empty) t := fun i v hv => SS.strs_at hi i v (by rw [Array.getElem?_toList]; exact hv)
        have hlS : l < s.heap.objs.size := by
          rcases hl with ⟨o, e, _⟩ | ⟨o, e, _⟩ <;> exact Heap.lt_size e
        have q3 : A.in1.in1.in1.handled = none := by simp [hh]
        have nI : l ≠ (s.heap.push (newT w)).objs.size := by rw [Heap.size_push]; exact Nat.ne_of_lt (Nat.lt_succ_of_lt hlS)
        have nS : s.heap.objs.size ∉ [(s.heap.push (newT w)).objs.size, l] := by
          rw [Heap.size_push]; simp only [List.mem_cons, List.not_mem_nil, or_false, not_or]; exact ⟨Nat.ne_of_lt (Nat.lt_succ_self _), Nat.ne_of_gt hlS⟩
        have fin : ∀ s' D' l', Moved [s.heap.objs.size, (s.heap.push (newT w)).objs.size] (fun a b => b = a) s s' → s'.heap.get? s.heap.objs.size = some (Froz.sObj "set" D') → Pay P w D' l' → (∀ x, x ∈ l' ↔ x ∈ xs) →
            ∃ h' tk D ys, s' = { s with heap := h', toks := tk } ∧ h'.get? s.heap.objs.size = some (Froz.sObj "set" D) ∧ Pay P w D ys ∧
            (∀ x, x ∈ ys ↔ x ∈ xs) ∧ (∀ b o, s.heap.get? b = some o → h'.get? b = some o) := by
          intro s' D' l' mv e F hm
          obtain ⟨h', g', d', tk', os'⟩ := s'
          obtain rfl : g' = s.gens := mv.gens
          obtain rfl : d' = s.drawn := mv.drawn
          obtain rfl : os' = s.os := mv.os
          refine ⟨h', tk', D', l', rfl, e, F, hm, fun b o z => ?_⟩
          have hb := Heap.lt_size z
          refine mv.heap b o ?_ z
          rw [Heap.size_push]; simp only [List.mem_cons, List.not_mem_nil, or_false, not_or]; exact ⟨Nat.ne_of_lt hb, Nat.ne_of_lt (Nat.lt_succ_of_lt hb)⟩
        rcases hl with hl | hl
        · obtain ⟨⟨ocls, odict, odata, oslots⟩, hol, hcl, nl, hdl⟩ := hl
          simp only at hcl hdl
          subst hcl; subst hdl
          have hol' : (s.heap.push (newT w)).get? l = some { cls := .type "list", dict := odict, data := .seq items nl, slots := oslots } := Heap.get?_push_of_some _ hol
          have u1 := PySem.F.sub_list_set
          have u2 := PySem.F.sub_list_frozenset
          have u3 : (Value.type "list" == Value.type "dict") = false := by decide
          have hl1 : (s.heap.push (newT w)).IsList l items := ⟨_, hol', rfl, nl, rfl⟩
          unfold Builtin.«set.__init__» noKeywords Builtin.Frozenset.updateFrom
          generalize hPI : pyIter = PI
          wp_walk
          subst hPI
          refine wpAny_pyIter_list hl1 (wpAny_bind (wpAny_runValue ?_))
          refine loopT (P := P) ((Walks.list q3 _ l nI items).toS) s.heap.objs.size nS xs hsz (by rw [← hsz]; exact hb) hval (items.size - 0) 0 _ (#[], 0, .fresh 0 0 (!w.params.followText "set-order")) [] (by omega) (Nat.zero_le _)
            ⟨⟨_, Heap.get?_push_size _ rfl, rfl, rfl⟩, (hl1.push _)⟩ (Heap.get?_push_of_some _ hS) (new_pay w) (fun x => by simp) (Nat.le_refl _) ?_
          intro s' D' l' mv e F hm _
          show wpAny _ _ _ _ _ _
          refine wpAny_pure ?_
          show wpAny _ _ (ret Value.none) _ _ _
          refine wpAny_pure ⟨rfl, fin s' D' l' ⟨fun b o hb z => mv.heap b o hb (Heap.get?_push_of_some _ (Heap.get?_push_of_some _ z)), mv.gens, mv.drawn, mv.os, mv.toks⟩ e F hm⟩
        · obtain ⟨⟨ocls, odict, odata, oslots⟩, hol, hcl, nl, hdl⟩ := hl
          simp only at hcl hdl
          subst hcl; subst hdl
          have hol' : (s.heap.push (newT w)).get? l = some { cls := .type "tuple", dict := odict, data := .seq items nl, slots := oslots } := Heap.get?_push_of_some _ hol
          have u1 := PySem.F.sub_tuple_set
          have u2 := PySem.F.sub_tuple_frozenset
          have u3 : (Value.type "tuple" == Value.type "dict") = false := by decide
          have hl1 : (s.heap.push (newT w)).IsTuple l items := ⟨_, hol', rfl, nl, rfl⟩
          unfold Builtin.«set.__init__» noKeywords Builtin.Frozenset.updateFrom
          generalize hPI : pyIter = PI
          wp_walk
          subst hPI
          refine wpAny_pyIter_tuple hl1 (wpAny_bind (wpAny_runValue ?_))
          refine loopT (P := P) ((Walks.tuple q3 _ l nI items).toS) s.heap.objs.size nS xs hsz (by rw [← hsz]; exact hb) hval (items.size - 0) 0 _ (#[], 0, .fresh 0 0 (!w.params.followText "set-order")) [] (by omega) (Nat.zero_le _)
            ⟨⟨_, Heap.get?_push_size _ rfl, rfl, rfl⟩, (hl1.push _)⟩ (Heap.get?_push_of_some _ hS) (new_pay w) (fun x => by simp) (Nat.le_refl _) ?_
          intro s' D' l' mv e F hm _
          show wpAny _ _ _ _ _ _
          refine wpAny_pure ?_
          show wpAny _ _ (ret Value.none) _ _ _
          refine wpAny_pure ⟨rfl, fin s' D' l' ⟨fun b o hb z => mv.heap b o hb (Heap.get?_push_of_some _ (Heap.get?_push_of_some _ z)), mv.gens, mv.drawn, mv.os, mv.toks⟩ e F hm⟩
      · cases r₂ with
        | error e => exact hr₂
        | ok fl₂ =>
          cases fl₂ with
          | ret r =>
            obtain ⟨rfl, h', tk, D, ys, rfl, e1, e2, e3, e4⟩ := hr₂
            repeat (any_goals (first | assumption | wp_step))
            exact h _ _ D ys e1 e2 e3 e4
          | _ => exact hr₂.elim
    | _ => exact hr.elim
end
end WL

set_option Elab.async false
set_option linter.all false
set_option maxRecDepth 100000
set_option maxHeartbeats 4000000
namespace WL
open PySem PySem.Spec PyProof.Rows L2
def ltS (a b : Str) : Prop := a.cps.toList < b.cps.toList
def Asc (l : List Str) : Prop := l.Pairwise ltS
theorem ltS_irrefl (a : Str) : ¬ ltS a a := fun h => List.lt_irrefl _ h
theorem Asc.nodup {l : List Str} (h : Asc l) : l.Nodup := by
  refine List.Pairwise.imp (S := fun a b => a ≠ b) (fun {a b} q => ?_) h
  intro e
  rw [e] at q
  exact ltS_irrefl b q
theorem len_sub : ∀ {l D : List Str}, l.Nodup → (∀ x ∈ l, x ∈ D) → l.length ≤ D.length
  | [], _, _, _ => Nat.zero_le _
  | x :: l, D, h, s => by
    obtain ⟨h1, h2⟩ := List.nodup_cons.mp h
    have q := len_sub (l := l) (D := D.erase x) h2 fun y hy => (List.mem_erase_of_ne (fun e => h1 (by rw [← e]; exact hy))).mpr (s y (List.mem_cons_of_mem _ hy))
    have m := s x List.mem_cons_self
    rw [List.length_erase_of_mem m] at q
    have := List.length_pos_of_mem m
    rw [List.length_cons]
    omega
theorem nodup_of_len : ∀ {M : List Str}, (∀ D : List Str, (∀ x ∈ M, x ∈ D) → M.length ≤ D.length) → M.Nodup
  | [], _ => List.nodup_nil
  | x :: M, h => by
    refine List.nodup_cons.mpr ⟨fun z => ?_, nodup_of_len fun D s => ?_⟩
    · have q := h M fun y hy => (List.mem_cons.mp hy).elim (fun e => by rw [e]; exact z) id
      rw [List.length_cons] at q
      omega
    · have q := h (x :: D) fun y hy => (List.mem_cons.mp hy).elim (fun e => by rw [e]; exact List.mem_cons_self) fun z => List.mem_cons_of_mem _ (s y z)
      rw [List.length_cons, List.length_cons] at q
      omega
theorem str_ext {a b : Str} (h : a.cps.toList = b.cps.toList) : a = b := by
  obtain ⟨x⟩ := a
  obtain ⟨y⟩ := b
  have q : x = y := Array.toList_inj.mp h
  rw [q]
theorem ltS_asymm {a b : Str} (h : ltS a b) : ¬ ltS b a := fun q => ltS_irrefl a (List.lt_trans h q)
theorem Asc.eq : ∀ {l m : List Str}, Asc l → Asc m → (∀ x, x ∈ l ↔ x ∈ m) → l = m
  | [], [], _, _, _ => rfl
  | [], y :: m, _, _, h => by have q := (h y).mpr List.mem_cons_self; cases q
  | x :: l, [], _, _, h => by have q := (h x).mp List.mem_cons_self; cases q
  | x :: l, y :: m, h1, h2, h => by
    obtain ⟨a1, a2⟩ := List.pairwise_cons.mp h1
    obtain ⟨b1, b2⟩ := List.pairwise_cons.mp h2
    have exy : x = y := by
      rcases List.mem_cons.mp ((h x).mp List.mem_cons_self) with z | z
      · exact z
      · rcases List.mem_cons.mp ((h y).mpr List.mem_cons_self) with u | u
        · exact u.symm
        · exact absurd (a1 y u) (ltS_asymm (b1 x z))
    subst exy
    have n1 : x ∉ l := fun z => ltS_irrefl x (a1 x z)
    have n2 : x ∉ m := fun z => ltS_irrefl x (b1 x z)
    rw [Asc.eq a2 b2 fun z => ⟨fun q => ?_, fun q => ?_⟩]
    · rcases List.mem_cons.mp ((h z).mp (List.mem_cons_of_mem _ q)) with e | e
      · rw [e] at q; exact absurd q n1
      · exact e
    · rcases List.mem_cons.mp ((h z).mpr (List.mem_cons_of_mem _ q)) with e | e
      · rw [e] at q; exact absurd q n2
      · exact e
theorem asc_of {l : List Str} (h : sortedS l = true) (n : l.Nodup) : Asc l := by
  have rise : ∀ (p : Str) (r : List Str), risingS p r = true → (p :: r).Pairwise (fun a b => ¬ ltS b a) := by
    intro p r
    induction r generalizing p with
    | nil => intro _; exact List.pairwise_singleton _ _
    | cons x r ih =>
      intro h
      have h' : (!ltCps x.cps.toList p.cps.toList && risingS x r) = true := h
      rw [Bool.and_eq_true] at h'
      have q := ih x h'.2
      have h0 : ¬ ltS x p := by
        have e := h'.1
        rw [ltCps_eq] at e
        intro z
        rw [decide_eq_true (show x.cps.toList < p.cps.toList from z)] at e
        cases e
      refine List.pairwise_cons.mpr ⟨fun y hy => ?_, q⟩
      rcases List.mem_cons.mp hy with e | e
      · rw [e]; exact h0
      · have q2 := (List.pairwise_cons.mp q).1 y e
        intro z
        have a1 : p.cps.toList ≤ x.cps.toList := List.not_lt.mp h0
        have a2 : x.cps.toList ≤ y.cps.toList := List.not_lt.mp q2
        exact absurd (List.lt_of_le_of_lt a2 z) (List.not_lt.mpr a1)
  cases l with
  | nil => exact List.Pairwise.nil
  | cons p r =>
    have q := rise p r h
    refine List.Pairwise.imp_of_mem (S := ltS) (R := fun a b => ¬ ltS b a ∧ a ≠ b) (fun {a b} _ _ z => ?_) (List.Pairwise.and q n)
    have z1 : a.cps.toList ≤ b.cps.toList := List.not_lt.mp z.1
    rcases Classical.em (ltS a b) with c | c
    · exact c
    · exact absurd (str_ext (List.le_antisymm z1 (List.not_lt.mp c))) z.2

section
variable {P : Program} {w : World} {A : Around} {E : Value → Shared → Prop} {s : Shared}
theorem pay_strs {D : Froz.SD} {ys : List Str} (F : Pay P w D ys) : ∀ v ∈ D.1.toList.map (·.2), ∃ x t, v = Value.str x t := by
  intro v hv
  obtain ⟨e, he, rfl⟩ := List.mem_map.mp hv
  obtain ⟨⟨k, hk, _⟩, _⟩ := F.ok.el e he
  obtain ⟨t, q⟩ := Value.isStrOf_shape (x := k) (v := e.2) hk
  exact ⟨k, t, q⟩
theorem pay_mem {D : Froz.SD} {ys : List Str} (F : Pay P w D ys) (x : Str) : x ∈ (D.1.toList.map (·.2)).map strOf ↔ x ∈ ys := by
  rw [F.ok.mem x]
  constructor
  · intro h
    obtain ⟨v, hv, q⟩ := List.mem_map.mp h
    obtain ⟨e, he, rfl⟩ := List.mem_map.mp hv
    obtain ⟨y, t, q2⟩ := pay_strs F _ hv
    rw [q2] at q
    obtain rfl : y = x := q
    exact ⟨e, he, by rw [q2]; exact Froz.is_str y t⟩
  · rintro ⟨e, he, q⟩
    obtain ⟨t, q2⟩ := Value.isStrOf_shape (x := x) (v := e.2) q
    exact List.mem_map.mpr ⟨e.2, List.mem_map.mpr ⟨e, he, rfl⟩, by rw [q2]; rfl⟩
theorem pay_nodup {D : Froz.SD} {ys : List Str} (F : Pay P w D ys) : ((D.1.toList.map (·.2)).map strOf).Nodup := by
  refine nodup_of_len fun M s => ?_
  have h2 : ((D.1.toList.map (·.2)).map strOf).length = ys.length := by
    rw [List.length_map, List.length_map, Array.length_toList]
    exact F.ok.sz
  rw [h2]
  exact len_sub F.nd fun x hx => s x ((pay_mem F x).mpr hx)

theorem sorted_setT {a : Addr} {D : Froz.SD} {xs : List Str} {Q : Value → Shared → Prop} (ho : s.heap.get? a = some (Froz.sObj "set" D)) (F : Pay P w D xs) (hb : xs.length < scanBound) (hh : A.handled = none)
    (h : ∀ s' p (out : Array Value) (c : Nat) (ys : List Str), (∀ b o, s.heap.get? b = some o → s'.heap.get? b = some o) → s'.gens = s.gens → s'.os = s.os → s.heap.objs.size ≤ p →
      s'.heap.get? p = some (seqObj "list" out c) → StrsAre out.toList ys → Asc ys → (∀ x, x ∈ ys ↔ x ∈ xs) → ys.length < scanBound → Q (.ref p) s') :
    wpAny (model P w) A (call (.builtin "sorted") [.ref a]) Q E s := by
  obtain ⟨es, ep, t⟩ := D
  have sz : es.size = xs.length := F.ok.sz
  refine Calls.call_function_entry kind_sorted plain_sorted entry_sorted (args_sorted1 _) ?_
  unfold Builtin.«sorted»
  refine wpAny_bind (m := checkCount "sorted" 1 1 _) (wpAny_pure (wpAny_bind ?_))
  refine collect_set (A := A.in1) hh ⟨_, ho, rfl, rfl⟩ F.ok.fit (by rw [sz]; exact hb) F.ris F.led fun s1 vs k1 hz g1 o1 pm => ?_
  have hS : StrsAre vs (vs.map strOf) := strsAre_map vs fun v hv => pay_strs F v (pm.mem_iff.mp hv)
  have hlen : vs.length = xs.length := by rw [pm.length_eq, List.length_map, Array.length_toList]; exact sz
  have hL : vs.length ≤ sizeLine := by rw [hlen]; unfold scanBound at hb; rw [sizeLine_eq]; omega
  refine wpAny_bind (wpAny_newList ?_ hL)
  have hoL : (s1.heap.push (seqObj "list" vs.toArray 0)).get? s1.heap.objs.size = some (seqObj "list" vs.toArray 0) := Heap.get?_push_size _ rfl
  refine wpAny_bind (wpAny_holding (wpAny_call_entry slot_list_sort ⟨_, hoL, rfl⟩ entry_list_sort (list_sort_treeKAny strKind_oneLt hoL hS.keysOf (fun v₁ v₂ r e => keyKind_strs (by rw [← e]; exact hS)) hL fun st' a1 a2 => ⟨_, rfl, ?_⟩) (args_list_sort _)))
  obtain ⟨ys, b1, b2, b3⟩ := sorted_out_str hS a1 a2
  obtain ⟨c, hc⟩ := sortedHeap_at (vs := vs) (out := (arrOf st').map (·.2)) hoL
  have m1 : ∀ x, x ∈ ys ↔ x ∈ xs := fun x => by
    rw [b2.mem_iff, ← pay_mem F x]
    exact (pm.map strOf).mem_iff
  have n1 : ys.Nodup := b2.nodup_iff.mpr ((pm.map strOf).nodup_iff.mpr (pay_nodup F))
  refine wpAny_pure ⟨_, rfl, h _ s1.heap.objs.size _ c ys (fun b u e => ?_) g1 o1 hz hc b1 (asc_of b3 n1) m1 ?_⟩
  · have q := k1 b u e
    have hlt := Heap.lt_size q
    show (sortedHeap (s1.heap.push (seqObj "list" vs.toArray 0)) s1.heap.objs.size vs ((arrOf st').map (·.2))).get? b = some u
    rw [sortedHeap_old (Nat.ne_of_lt hlt) (by rw [size_push']; exact Nat.lt_succ_of_lt hlt)]
    exact Heap.get?_push_of_some _ q
  · rw [b2.length_eq, List.length_map, hlen]; exact hb
end

def SetTx (P : Program) (w : World) (a : Addr) (xs : List Str) : HO := .ext fun h => ∃ D ys, h.get? a = some (Froz.sObj "set" D) ∧ Pay P w D ys ∧ (∀ x, x ∈ ys ↔ x ∈ xs) ∧ ys.length < scanBound
theorem setTx_ok {P : Program} {w : World} {H : Hp} {h : Heap} {a : Addr} {xs : List Str} {D : Froz.SD} {ys : List Str} (e : h.get? a = some (Froz.sObj "set" D)) (F : Pay P w D ys) (m : ∀ x, x ∈ ys ↔ x ∈ xs) (hb : ys.length < scanBound) :
    ObjOk P w H h a (SetTx P w a xs) := ⟨⟨D, ys, e, F, m, hb⟩, ⟨_, e⟩, fun h1 h2 ⟨D, ys, e, r⟩ k => ⟨D, ys, k _ e, r⟩⟩
section
variable {X : Cx}
def rMkSet (K : PySem.W.Frag) (P : Program) (w : World) : List V → Hp → VK → Prop := fun vs H Q => ∃ (a : Addr) (xs : List Str), vs = [V.ref a] ∧ (SqL K H a (xs.map V.str) ∨ SqT K H a (xs.map V.str)) ∧ xs.length ≤ 4000 ∧
  ∀ p, H p = none → Q (.ref p) (upd H p (SetTx P w p xs))
theorem cr_mkSet (hc : X.calm = true) : CallR X (.type "set") (rMkSet X.K X.prog X.w) := by
  intro pins s σ H vs us Q I r h
  obtain ⟨a, xs, rfl, hs, hn, q⟩ := h
  rw [Vals.ref1 r]
  have fin : ∀ (items : Array Value), StrsAre items.toList xs → (s.heap.IsList a items ∨ s.heap.IsTuple a items) → wpAny (model X.prog X.w) X.A (call (.type "set") [.ref a]) (EP X pins σ Q) X.xe s := by
    intro items hi hl
    refine call_setT (I.ok.hd hc) hl hi (by unfold scanBound; omega) fun h' tk D ys e F m k => ?_
    have hb : ys.length < scanBound := by have := len_sub F.nd fun x hx => (m x).mp hx; unfold scanBound; omega
    exact ⟨.ref _, upd H s.heap.objs.size (SetTx X.prog X.w s.heap.objs.size xs), I.laid (t' := tk) k (Nat.le_refl _) (setTx_ok e F m hb), rfl, q _ (I.hok.fresh (Nat.le_refl _))⟩
  rcases hs with hs | hs
  · obtain ⟨its, rv, hl, _⟩ := I.list hs
    exact fin its.toArray (by simpa using rv.strs) (.inl hl.isList)
  · obtain ⟨its, rv, hl, _⟩ := I.tuple hs
    exact fin its.toArray (by simpa using rv.strs) (.inr hl)
def rSortSet (P : Program) (w : World) : List V → Hp → VK → Prop := fun vs H Q => ∃ (a : Addr) (xs : List Str), vs = [V.ref a] ∧ H a = some (SetTx P w a xs) ∧
  ∀ (ys : List Str) (p : Addr), Asc ys → (∀ x, x ∈ ys ↔ x ∈ xs) → H p = none → Q (.ref p) (upd H p (.lst (ys.map V.str)))
theorem cr_sortSet (hc : X.calm = true) : CallR X (.builtin "sorted") (rSortSet X.prog X.w) := by
  intro pins s σ H vs us Q I r h
  obtain ⟨a, xs, rfl, ha, q⟩ := h
  rw [Vals.ref1 r]
  obtain ⟨D, zs, e, F, m, hb⟩ := (I.hok a _ ha).1
  refine sorted_setT e F hb (I.ok.hd hc) fun s' p out c ys k g o hp hg hi asc hm hn => ?_
  have hlen : (ys.map V.str).length ≤ sizeLine := by rw [List.length_map, sizeLine_eq]; unfold scanBound at hn; omega
  have fr : H p = none := I.hok.fresh hp
  have J : Inv X pins σ (upd H p (.lst (ys.map V.str))) { s with heap := s'.heap, gens := s'.gens, drawn := s'.drawn, toks := s'.toks } :=
    I.call (ch := []) (Un.laid k hp fr) (I.hok.laid k hp ⟨hlen, out.toList, c, vals_of_strs hi, hg⟩) (by rw [g]; exact I.bare) (fun _ z => nomatch z)
  have e2 : s' = { s with heap := s'.heap, gens := s'.gens, drawn := s'.drawn, toks := s'.toks } := by
    cases s'; cases s; cases o; rfl
  rw [e2]
  exact ⟨.ref p, _, J, rfl, q ys p asc (fun x => (hm x).trans (m x)) fr⟩
def rLenSet (P : Program) (w : World) : List V → Hp → VK → Prop := fun vs H Q => ∃ (a : Addr) (xs : List Str), vs = [V.ref a] ∧ H a = some (SetTx P w a xs) ∧
  ∀ (ys : List Str), ys.Nodup → (∀ x, x ∈ ys ↔ x ∈ xs) → Q (.int (ys.length : Nat)) H
theorem cr_lenSet : CallR X (.builtin "len") (rLenSet X.prog X.w) := by
  intro pins s σ H vs us Q I r h
  obtain ⟨a, xs, rfl, ha, q⟩ := h
  rw [Vals.ref1 r]
  obtain ⟨⟨es, ep, t⟩, zs, e, F, m, hb⟩ := (I.hok a _ ha).1
  have sz : es.size = zs.length := F.ok.sz
  refine call_len_set e ⟨rfl, rfl, rfl⟩ rfl F.ok.fit (by rw [sz]; unfold scanBound at hb; omega) ⟨.int (zs.length : Nat), H, I.tok _, ⟨_, by rw [sz]⟩, q zs F.nd m⟩
end
end WL

set_option Elab.async false
set_option linter.all false
set_option maxRecDepth 100000
set_option maxHeartbeats 4000000
namespace WL
open PySem PySem.Spec PyProof.Rows L2 Evl
section
variable {K : PySem.W.Frag} {σ : L2.St} {H H' : Hp} {ta tb tc te : TE} {t : TT} {x y z v : V}
theorem TyX.up {t : Value} (e : Ex H H') (h : TyX K H x t) : TyX K H' x t := by
  cases h with
  | base b =>
    refine .base ?_
    cases b with
    | non => exact .non
    | bl y => exact .bl y
    | int i => exact .int i
    | str y => exact .str y
    | flt y => exact .flt y
    | lst q => exact .lst (e _ _ q)
    | frz q => exact .frz (e _ _ q)
    | tup q => exact .tup (e _ _ q)
    | dK q => exact .dK (e _ _ q)
    | dT q => exact .dT (e _ _ q)
    | ins q a1 a2 a3 a4 a5 => exact .ins (e _ _ q) a1 a2 a3 a4 a5
  | byt b => exact .byt b
  | set q => exact .set (e _ _ q)
  | kList q c => exact .kList q c
  | kTuple q c => exact .kTuple q c
  | kDict q c => exact .kDict q c
  | fTuple q => exact .fTuple (e _ _ q)
  | fDict q => exact .fDict (e _ _ q)
theorem rc_isi {t : Value} {n : String} {b : Bool} (ty : TyX K H x t) (k : PySem.W.kitOne K t (.type n) = some b) : RC (rIsi K) [x, .ty n] H (.bl b) := fun H1 e Q q =>
  ⟨x, .ty n, t, .type n, b, rfl, .ty n, TyX.up e ty, k, q H1 (Ex.refl H1)⟩
theorem ev_isi {t : Value} {n : String} {b : Bool} (ha : Ev ta σ H x) (ty : TyX K H x t) (k : PySem.W.kitOne K t (.type n) = some b) : Ev (tCB (rIsi K) (tCons ta (tCons (tC (.ty n)) tNil))) σ H (.bl b) :=
  ev_cb (ea_cons ha (ea_cons ev_c ea_nil)) (rc_isi ty k)
theorem ev_chain {p q : Int → Int → Bool} {a b c : Int} (ha : Ev ta σ H (.int a)) (hb : Ev tb σ H (.int b)) (hc : Ev tc σ H (.int c)) :
    Ev (tChain (rI0 fun i j => .bl (p i j)) (rI0 fun i j => .bl (q i j)) ta tb tc) σ H (.bl (p a b && q b c)) := fun H1 e1 Q k => ha H1 e1 _ fun H2 e2 => hb H2 (e1.trans e2) _ fun H3 e3 =>
  ⟨a, b, rfl, rfl, p a b, rfl, by
    cases hp : p a b with
    | false =>
      rw [hp] at k
      exact iteF (k H3 (e2.trans e3))
    | true =>
      rw [hp] at k
      exact iteT (hc H3 ((e1.trans e2).trans e3) _ fun H4 e4 => ⟨b, c, rfl, rfl, k H4 ((e2.trans e3).trans e4)⟩)⟩
theorem et_chain {p q : Int → Int → Bool} {a b c : Int} (ha : Ev ta σ H (.int a)) (hb : Ev tb σ H (.int b)) (hc : Ev tc σ H (.int c)) :
    EvT (tTest (tChain (rI0 fun i j => .bl (p i j)) (rI0 fun i j => .bl (q i j)) ta tb tc)) σ H (p a b && q b c) := et_test (ev_chain ha hb hc)
theorem ev_orV2 {a b : Bool} (h1 : Ev ta σ H (.bl a)) (h2 : Ev tb σ H (.bl b)) : Ev (tOrV ta tb) σ H (.bl (a || b)) := ev_orV h1 fun _ => h2
theorem ev_inSign {c : Nat} {w : Str} (ha : Ev ta σ H (.str ⟨#[c]⟩)) (hb : Ev tb σ H (.str w)) : Ev (tOp (fun x y H Q => ∃ (c : Nat) (z : Str), x = .str ⟨#[c]⟩ ∧ y = .str z ∧ Q (.bl (decide (c ∈ z.cps.toList))) H) ta tb) σ H (.bl (decide (c ∈ w.cps.toList))) :=
  ev_op ha hb fun H1 _ Q q => ⟨c, w, rfl, rfl, q H1 (Ex.refl H1)⟩
theorem ev_fld {a C dx : Addr} {fs : List (Str × V)} {f : Str} (ha : Ev ta σ H (.ref a)) (ho : H a = some (.ins C dx fs)) (hc : Cls K C) (hn : NoAttr K C f) (hl : fs.lookup f = some v) : Ev (tFld K ta f) σ H v := fun H1 e Q q =>
  ha H1 e _ fun H2 e2 => ⟨a, C, dx, fs, v, rfl, e2 _ _ (e _ _ ho), hc, hn, hl, q H2 e2⟩
theorem el_lcW {wi : TI} {J : It} {xs : List V} {G : Hp → Prop} {j : Nat} {vs : List Nat} (f : Nat → Bool) (v : Nat → V) (hwi : ∀ H1, Ex H H1 → ∀ R : It → Hp → Prop, (∀ H2, Ex H1 H2 → R J H2) → wi σ H1 R)
    (wk : Walk J xs.length G (YAt xs)) (hG : ∀ H1, Ex H H1 → G H1) (hz : xs.length ≤ 40000) (hw : ∀ x, wipe ((wipe σ vs).set j (some x)) vs = wipe σ vs)
    (ht : ∀ (i : Nat) (x : V) H1, Ex H H1 → xs[i]? = some x → EvT t ((wipe σ vs).set j (some x)) H1 (f i)) (he : ∀ (i : Nat) (x : V) H1, Ex H H1 → xs[i]? = some x → f i = true → Ev te ((wipe σ vs).set j (some x)) H1 (v i)) :
    EvL (tLc wi (gName j) t te vs) σ H (given xs.length f v) := fun H0 e Q q => hwi H0 e _ fun H1 e1 Dl hD =>
  lc_it wk (Cw H1 f v Dl) ⟨hD, Ex.new hD, upd_same⟩ (fun i H' _ p => hG H' ((e.trans e1).trans p.2.1)) (fun i x H' H'' hi p y => by
    obtain ⟨e2, hx⟩ := y
    subst e2
    exact ⟨hw x, cw_turn p (by omega) (ht i x H1 (e.trans e1) hx) fun hf => he i x H1 (e.trans e1) hx hf⟩)
    (fun H' p => q Dl H' (fresh_back e1 p.1) (e1.trans p.2.1) p.2.2)
theorem given_as {α : Type} (as : List α) (f : α → Bool) (v : α → V) : ∀ n, n ≤ as.length → given n (fun i => ((as[i]?).map f).getD false) (fun i => ((as[i]?).map v).getD .non) = ((as.take n).filter f).map v
  | 0, _ => rfl
  | n + 1, h => by
    have ih := given_as as f v n (Nat.le_of_succ_le h)
    have e : as[n]? = some as[n] := List.getElem?_eq_getElem h
    have tk : as.take (n + 1) = as.take n ++ [as[n]] := by rw [List.take_add_one, e]; rfl
    rw [tk, List.filter_append, List.map_append, ← ih]
    cases hf : f as[n] with
    | true =>
      rw [given_yes (by rw [e]; exact hf), e]
      simp [hf]
    | false =>
      rw [given_no (by rw [e]; exact hf)]
      simp [hf]
theorem given_all {α : Type} (as : List α) (f : α → Bool) (v : α → V) : given as.length (fun i => ((as[i]?).map f).getD false) (fun i => ((as[i]?).map v).getD .non) = (as.filter f).map v := by
  rw [given_as as f v as.length (Nat.le_refl _), List.take_length]
theorem map_at {α : Type} {as : List α} {c : α → V} {i : Nat} {x : V} (h : (as.map c)[i]? = some x) : ∃ a, as[i]? = some a ∧ x = c a := by
  rw [List.getElem?_map] at h
  cases q : as[i]? with
  | none => rw [q] at h; cases h
  | some a => rw [q] at h; exact ⟨a, rfl, (Option.some.inj h).symm⟩
theorem el_lcA {α : Type} {wi : TI} {J : It} {as : List α} {c : α → V} {G : Hp → Prop} {j : Nat} {vs : List Nat} (f : α → Bool) (v : α → V) (hwi : ∀ H1, Ex H H1 → ∀ R : It → Hp → Prop, (∀ H2, Ex H1 H2 → R J H2) → wi σ H1 R)
    (wk : Walk J as.length G (YAt (as.map c))) (hG : ∀ H1, Ex H H1 → G H1) (hz : as.length ≤ 40000) (hw : ∀ x, wipe ((wipe σ vs).set j (some x)) vs = wipe σ vs)
    (ht : ∀ a ∈ as, ∀ H1, Ex H H1 → EvT t ((wipe σ vs).set j (some (c a))) H1 (f a)) (he : ∀ a ∈ as, ∀ H1, Ex H H1 → f a = true → Ev te ((wipe σ vs).set j (some (c a))) H1 (v a)) :
    EvL (tLc wi (gName j) t te vs) σ H ((as.filter f).map v) := by
  rw [← given_all as f v]
  have ln : (as.map c).length = as.length := List.length_map _
  rw [← ln]
  refine el_lcW _ _ hwi (by rw [ln]; exact wk) hG (by rw [ln]; exact hz) hw (fun i x H1 e hx => ?_) (fun i x H1 e hx hf => ?_)
  · obtain ⟨a, ha, rfl⟩ := map_at hx
    have := ht a (List.mem_of_getElem? ha) H1 e
    rw [ha]
    exact this
  · obtain ⟨a, ha, rfl⟩ := map_at hx
    rw [ha] at hf ⊢
    exact he a (List.mem_of_getElem? ha) H1 e hf
theorem all_true {α : Type} (as : List α) : as.filter (fun _ => true) = as := List.filter_eq_self.mpr fun _ _ => rfl
theorem wi_list {a : Addr} (h : Ev te σ H (.ref a)) {xs : List V} (hx : SqL K H a xs) : ∀ H1, Ex H H1 → ∀ R : It → Hp → Prop, (∀ H2, Ex H1 H2 → R (Itl K a) H2) → iList K te σ H1 R := fun H1 e R k =>
  h H1 e _ fun H2 e2 => ⟨a, rfl, ⟨xs, ex_l (e.trans e2) hx⟩, k H2 e2⟩
theorem wi_tup {a : Addr} (h : Ev te σ H (.ref a)) {xs : List V} (hx : SqT K H a xs) : ∀ H1, Ex H H1 → ∀ R : It → Hp → Prop, (∀ H2, Ex H1 H2 → R (Itt K a) H2) → iTup K te σ H1 R := fun H1 e R k =>
  h H1 e _ fun H2 e2 => ⟨a, rfl, ⟨xs, ex_t (e.trans e2) hx⟩, k H2 e2⟩
theorem wi_str {s : Str} (h : Ev te σ H (.str s)) : ∀ H1, Ex H H1 → ∀ R : It → Hp → Prop, (∀ H2, Ex H1 H2 → R (Its s) H2) → iStr te σ H1 R := fun H1 e R k =>
  h H1 e _ fun H2 e2 => ⟨s, rfl, k H2 e2⟩
theorem walk_strA {s : Str} : Walk (Its s) s.cps.toList.length (fun _ => True) (YAt (s.cps.toList.map fun c => V.str ⟨#[c]⟩)) := by
  have q := walk_str (z := s)
  rw [Array.length_toList]
  refine q.mono (fun _ h => h) fun i H x H' hi _ y => ⟨y.1, ?_⟩
  obtain ⟨c, h1, h2⟩ := y.2
  rw [List.getElem?_map, Array.getElem?_toList, h1, h2]
  rfl
theorem ev_allL {bs : List Bool} {r : List V → Hp → VK → Prop} (h : EvL te σ H (bs.map V.bl)) (hr : ∀ (a : Addr) H1 (Q : VK), H1 a = some (.lst (bs.map V.bl)) → Q v H1 → r [.ref a] H1 Q) :
    Ev (tCB r (tCons te tNil)) σ H v := fun H1 e Q q => h H1 e _ fun p H2 _ e2 hp => hr p H2 _ hp (q H2 e2)
end
end WL

set_option Elab.async false
set_option linter.all false
set_option maxRecDepth 100000
set_option maxHeartbeats 4000000
namespace WL
open PySem PySem.Spec PyProof.Rows L2 Evl
instance (a b : Str) : Decidable (ltS a b) := inferInstanceAs (Decidable (a.cps.toList < b.cps.toList))
def once : List Str → List Str
  | [] => []
  | x :: r => if x ∈ once r then once r else x :: once r
theorem once_mem : ∀ (l : List Str) (x : Str), x ∈ once l ↔ x ∈ l
  | [], _ => Iff.rfl
  | y :: r, x => by
    have ih := once_mem r
    unfold once
    split
    · rename_i h
      rw [ih x, List.mem_cons]
      exact ⟨.inr, fun z => z.elim (fun e => by rw [e]; exact (ih y).mp h) id⟩
    · rw [List.mem_cons, List.mem_cons, ih x]
theorem once_nodup : ∀ l : List Str, (once l).Nodup
  | [] => List.nodup_nil
  | y :: r => by
    unfold once
    split
    · exact once_nodup r
    · rename_i h
      exact List.nodup_cons.mpr ⟨h, once_nodup r⟩
theorem once_len {ys l : List Str} (n : ys.Nodup) (h : ∀ x, x ∈ ys ↔ x ∈ l) : ys.length = (once l).length :=
  Nat.le_antisymm (len_sub n fun x hx => (once_mem l x).mpr ((h x).mp hx)) (len_sub (once_nodup l) fun x hx => (h x).mpr ((once_mem l x).mp hx))
def ins (x : Str) : List Str → List Str
  | [] => [x]
  | y :: r => if x = y then y :: r else if ltS x y then x :: y :: r else y :: ins x r
def srt : List Str → List Str
  | [] => []
  | x :: r => ins x (srt r)
theorem ins_mem (x : Str) : ∀ (l : List Str) (z : Str), z ∈ ins x l ↔ z = x ∨ z ∈ l
  | [], z => by simp [ins]
  | y :: r, z => by
    unfold ins
    split
    · rename_i e
      rw [e, List.mem_cons]
      exact ⟨.inr, fun q => q.elim .inl id⟩
    · split
      · rw [List.mem_cons]
      · rw [List.mem_cons, ins_mem x r z, List.mem_cons]
        exact ⟨fun q => q.elim (fun e => .inr (.inl e)) fun q => q.elim .inl fun e => .inr (.inr e), fun q => q.elim (fun e => .inr (.inl e)) fun q => q.elim .inl fun e => .inr (.inr e)⟩
theorem srt_mem : ∀ (l : List Str) (z : Str), z ∈ srt l ↔ z ∈ l
  | [], _ => Iff.rfl
  | x :: r, z => by
    show z ∈ ins x (srt r) ↔ _
    rw [ins_mem, srt_mem r z, List.mem_cons]
theorem ltS_tri {a b : Str} (h1 : a ≠ b) (h2 : ¬ ltS a b) : ltS b a := by
  rcases Classical.em (ltS b a) with c | c
  · exact c
  · exact absurd (str_ext (List.le_antisymm (List.not_lt.mp c) (List.not_lt.mp h2))) h1
theorem ins_asc (x : Str) : ∀ l : List Str, Asc l → Asc (ins x l)
  | [], _ => List.pairwise_singleton _ _
  | y :: r, h => by
    obtain ⟨h1, h2⟩ := List.pairwise_cons.mp h
    unfold ins
    split
    · exact h
    · rename_i e
      split
      · rename_i c
        refine List.pairwise_cons.mpr ⟨fun z hz => ?_, h⟩
        rcases List.mem_cons.mp hz with q | q
        · rw [q]; exact c
        · exact List.lt_trans c (h1 z q)
      · rename_i c
        refine List.pairwise_cons.mpr ⟨fun z hz => ?_, ins_asc x r h2⟩
        rcases (ins_mem x r z).mp hz with q | q
        · rw [q]; exact ltS_tri e c
        · exact h1 z q
theorem srt_asc : ∀ l : List Str, Asc (srt l)
  | [] => List.Pairwise.nil
  | x :: r => ins_asc x _ (srt_asc r)
theorem srt_is {ys l : List Str} (h1 : Asc ys) (h2 : ∀ x, x ∈ ys ↔ x ∈ l) : ys = srt l := Asc.eq h1 (srt_asc l) fun x => (h2 x).trans (srt_mem l x).symm
theorem srt_len (l : List Str) : (srt l).length = (once l).length := once_len (srt_asc l).nodup fun x => srt_mem l x
theorem once_le : ∀ l : List Str, (once l).length ≤ l.length
  | [] => Nat.le_refl _
  | x :: r => by
    have q := once_le r
    unfold once
    split
    · exact Nat.le_succ_of_le q
    · exact Nat.succ_le_succ q
section
variable {K : PySem.W.Frag} {P : Program} {w : World} {σ : L2.St} {H H' : Hp} {te : TE} {v : V}
def EvQ (K : PySem.W.Frag) (te : TE) (σ : L2.St) (H : Hp) (xs : List V) : Prop := ∀ H1, Ex H H1 → ∀ Q : VK, (∀ p H2, Ex H1 H2 → (SqL K H2 p xs ∨ SqT K H2 p xs) → Q (.ref p) H2) → te σ H1 Q
theorem eq_L {xs : List V} (h : EvL te σ H xs) : EvQ K te σ H xs := fun H1 e Q q => h H1 e _ fun p H2 _ e2 hp => q p H2 e2 (.inl (sq_of hp))
theorem eq_U {xs : List V} (h : EvU te σ H xs) : EvQ K te σ H xs := fun H1 e Q q => h H1 e _ fun p H2 _ e2 hp => q p H2 e2 (.inr (st_of hp))
theorem eq_l {a : Addr} {xs : List V} (h : Ev te σ H (.ref a)) (hx : SqL K H a xs) : EvQ K te σ H xs := fun H1 e Q q => h H1 e _ fun H2 e2 => q a H2 e2 (.inl (ex_l (e.trans e2) hx))
theorem eq_t {a : Addr} {xs : List V} (h : Ev te σ H (.ref a)) (hx : SqT K H a xs) : EvQ K te σ H xs := fun H1 e Q q => h H1 e _ fun H2 e2 => q a H2 e2 (.inr (ex_t (e.trans e2) hx))
def EvS (P : Program) (w : World) (te : TE) (σ : L2.St) (H : Hp) (xs : List Str) : Prop := ∀ H1, Ex H H1 → ∀ Q : VK, (∀ p H2, H1 p = none → Ex H1 H2 → H2 p = some (SetTx P w p xs) → Q (.ref p) H2) → te σ H1 Q
theorem es_set {xs : List Str} (h : EvQ K te σ H (xs.map V.str)) (hn : xs.length ≤ 4000) : EvS P w (tCB (rMkSet K P w) (tCons te tNil)) σ H xs := fun H1 e Q q =>
  h H1 e _ fun p H2 e2 hp => ⟨p, xs, rfl, hp, hn, fun r hr => q r _ (fresh_back e2 hr) (e2.trans (Ex.new hr)) upd_same⟩
theorem ev_lenSet {xs : List Str} (h : EvS P w te σ H xs) : Ev (tCB (rLenSet P w) (tCons te tNil)) σ H (.int ((once xs).length : Nat)) := fun H1 e Q q =>
  h H1 e _ fun p H2 _ e2 hp => ⟨p, xs, rfl, hp, fun ys n m => by rw [once_len n m]; exact q H2 e2⟩
theorem el_sortSet {xs : List Str} (h : EvS P w te σ H xs) : EvL (tCB (rSortSet P w) (tCons te tNil)) σ H ((srt xs).map V.str) := fun H1 e Q q =>
  h H1 e _ fun p H2 hp0 e2 hp => ⟨p, xs, rfl, hp, fun ys r asc m hr => by rw [srt_is asc m]; exact q r _ (fresh_back e2 hr) (e2.trans (Ex.new hr)) upd_same⟩
theorem ev_lenQ {xs : List V} (h : EvQ K te σ H xs) : Ev (tCB (rLenS K) (tCons te tNil)) σ H (.int (xs.length : Nat)) := fun H1 e Q q => h H1 e _ fun p H2 e2 hp => ⟨p, xs, rfl, hp, q H2 e2⟩
theorem eu_tuple {xs : List V} (h : EvL te σ H xs) : EvU (tCB (fun zs H Q => ∃ p ys, zs = [.ref p] ∧ ((SqL K H p ys ∧ ∀ l, H l = none → Q (.ref l) (upd H l (.tup ys))) ∨ (SqT K H p ys ∧ Q (.ref p) H))) (tCons te tNil)) σ H xs := fun H1 e Q q =>
  h H1 e _ fun p H2 _ e2 hp => ⟨p, xs, rfl, .inl ⟨sq_of hp, fun l hl => q l _ (fresh_back e2 hl) (e2.trans (Ex.new hl)) upd_same⟩⟩
end
def iQ (K : PySem.W.Frag) (te : TE) : TI := fun σ H R => iList K te σ H R ∨ iTup K te σ H R
theorem pi_q {X : Cx} {tg e : Expr} {te : TE} (h : PE X e te) : PI X tg e (iQ X.K te) := ⟨fun pins s σ H R I q => q.elim ((pi_list h).run pins s σ H R I) ((pi_tup h).run pins s σ H R I)⟩
section
variable {K : PySem.W.Frag} {σ : L2.St} {H : Hp} {te : TE} {t : TT} {tv : TE}
theorem el_lcQ {α : Type} {as : List α} {c : α → V} {a : Addr} {j : Nat} {vs : List Nat} (f : α → Bool) (v : α → V) (h : Ev te σ H (.ref a)) (hs : SqL K H a (as.map c) ∨ SqT K H a (as.map c)) (hz : as.length ≤ 40000) (hw : ∀ x, wipe ((wipe σ vs).set j (some x)) vs = wipe σ vs)
    (ht : ∀ a ∈ as, ∀ H1, Ex H H1 → EvT t ((wipe σ vs).set j (some (c a))) H1 (f a)) (he : ∀ a ∈ as, ∀ H1, Ex H H1 → f a = true → Ev tv ((wipe σ vs).set j (some (c a))) H1 (v a)) :
    EvL (tLc (iQ K te) (gName j) t tv vs) σ H ((as.filter f).map v) := by
  rcases hs with hs | hs
  · have q := el_lcA (t := t) (te := tv) (wi := iList K te) f v (wi_list h hs) (by have z := walk_list (K := K) (a := a) (xs := as.map c); rw [List.length_map] at z; exact z) (fun H1 e => ex_l e hs) hz hw ht he
    exact fun H1 e Q k => .inl (q H1 e Q k)
  · have q := el_lcA (t := t) (te := tv) (wi := iTup K te) f v (wi_tup h hs) (by have z := walk_tup (K := K) (a := a) (xs := as.map c); rw [List.length_map] at z; exact z) (fun H1 e => ex_t e hs) hz hw ht he
    exact fun H1 e Q k => .inr (q H1 e Q k)
end
end WL

set_option Elab.async false
set_option linter.all false
set_option maxRecDepth 100000
set_option maxHeartbeats 4000000
namespace WL
open PySem PySem.Spec PyProof.Rows L2 Evl
section
variable {K : PySem.W.Frag} {σ : L2.St} {H H' : Hp} {te tv : TE} {t : TT} {g : TG}
theorem el_lcG {α : Type} {wi : TI} {J : It} {as : List α} {c : α → V} {G : Hp → Prop} {vs : List Nat} (s : α → L2.St) (f : α → Bool) (v : α → V) (hwi : ∀ H1, Ex H H1 → ∀ R : It → Hp → Prop, (∀ H2, Ex H1 H2 → R J H2) → wi σ H1 R)
    (wk : Walk J as.length G (YAt (as.map c))) (hG : ∀ H1, Ex H H1 → G H1) (hz : as.length ≤ 40000)
    (hg : ∀ a ∈ as, ∀ H1, Ex H H1 → ∀ R : L2.St → Hp → Prop, R (s a) H1 → g (c a) (wipe σ vs) H1 R) (hw : ∀ a ∈ as, wipe (s a) vs = wipe σ vs)
    (ht : ∀ a ∈ as, ∀ H1, Ex H H1 → EvT t (s a) H1 (f a)) (he : ∀ a ∈ as, ∀ H1, Ex H H1 → f a = true → Ev tv (s a) H1 (v a)) :
    EvL (tLc wi g t tv vs) σ H ((as.filter f).map v) := by
  rw [← given_all as f v]
  intro H0 e Q q
  refine hwi H0 e _ fun H1 e1 Dl hD => ?_
  refine lc_it wk (Cw H1 (fun i => ((as[i]?).map f).getD false) (fun i => ((as[i]?).map v).getD .non) Dl) ⟨hD, Ex.new hD, upd_same⟩ (fun i H' _ p => hG H' ((e.trans e1).trans p.2.1)) (fun i x Ha Hb hi p y => ?_)
    (fun H' p => q Dl H' (fresh_back e1 p.1) (e1.trans p.2.1) p.2.2)
  obtain ⟨rfl, hx⟩ := y
  obtain ⟨a, ha, rfl⟩ := map_at hx
  have am := List.mem_of_getElem? ha
  refine hg a am Hb ((e.trans e1).trans p.2.1) _ ⟨hw a am, ?_⟩
  refine cw_turn p (by omega) ?_ fun hf => ?_
  · have z := ht a am H1 (e.trans e1)
    rw [ha]
    exact z
  · rw [ha] at hf ⊢
    exact he a am H1 (e.trans e1) hf
theorem walk_listA {α : Type} {as : List α} {c : α → V} {a : Addr} : Walk (Itl K a) as.length (fun H => SqL K H a (as.map c)) (YAt (as.map c)) := by
  have z := walk_list (K := K) (a := a) (xs := as.map c); rw [List.length_map] at z; exact z
theorem walk_tupA {α : Type} {as : List α} {c : α → V} {a : Addr} : Walk (Itt K a) as.length (fun H => SqT K H a (as.map c)) (YAt (as.map c)) := by
  have z := walk_tup (K := K) (a := a) (xs := as.map c); rw [List.length_map] at z; exact z
theorem g_pair {i j : Nat} {T : Addr} {x y : V} {R : L2.St → Hp → Prop} (hT : SqT K H T [x, y]) (h : R ((σ.set i (some x)).set j (some y)) H) : gTup K 2 (gCons (gName i) (gCons (gName j) gNil)) (.ref T) σ H R :=
  ⟨T, [x, y], rfl, hT, rfl, x, [y], rfl, y, [], rfl, rfl, h⟩
theorem s_retCallL {sp : Sp} {E : XK} {xs : List V} {D : Ends} (h : EvL te σ H xs) (k : ∀ p H1, H p = none → Ex H H1 → H1 p = some (.lst xs) → sp [.ref p] H1 D.rt E) : tRet (tCall sp [] E (tCons te tNil)) D σ H :=
  h H (Ex.refl H) _ fun p H1 hp e hx => k p H1 hp e hx
end
def TabsAt (K : PySem.W.Frag) (H : Hp) (a : Addr) (ts : List (Addr × Str × Int)) : Prop := SqT K H a (ts.map fun t => V.ref t.1) ∧ ∀ t ∈ ts, SqT K H t.1 [.str t.2.1, .int t.2.2]
theorem TabsAt.up {K : PySem.W.Frag} {H H' : Hp} {a : Addr} {ts : List (Addr × Str × Int)} (e : Ex H H') (h : TabsAt K H a ts) : TabsAt K H' a ts := ⟨ex_t e h.1, fun t ht => ex_t e (h.2 t ht)⟩
end WL

set_option Elab.async false
set_option linter.all false
set_option maxRecDepth 100000
set_option maxHeartbeats 4000000
namespace WL
open PySem PySem.Spec PyProof.Rows L2 Evl
inductive Ask where
  | leaf (w : Str) (ps : List Str)
  | una (w : Str) (e : Ask)
  | bin (w : Str) (e f : Ask)
  | qua (w x : Str) (e : Ask)
  | rch (w u v x y : Str) (e : Ask)
namespace Ask
def word : Ask → Str
  | leaf w _ => w
  | una w _ => w
  | bin w _ _ => w
  | qua w _ _ => w
  | rch w _ _ _ _ _ => w
def places : Ask → List Str
  | leaf _ ps => ps
  | rch _ u v _ _ _ => [u, v]
  | _ => []
def bound : Ask → List Str
  | qua _ x _ => [x]
  | rch _ _ _ x y _ => [x, y]
  | _ => []
def inner : Ask → List Ask
  | leaf _ _ => []
  | una _ e => [e]
  | bin _ e f => [e, f]
  | qua _ _ e => [e]
  | rch _ _ _ _ _ e => [e]
end Ask
def changedS : List Str := ["p", "q", "r"]
def freeOf (ps bs : List Str) (inn : List (List Str)) : List Str := srt ((ps.filter fun n => !inV (.str n) (changedS.map V.str)) ++ inn.flatMap fun f => f.filter fun n => !inV (.str n) (bs.map V.str))
def maxOf : List Nat → Nat
  | [] => 0
  | x :: r => max x (maxOf r)
namespace Ask
def free : Ask → List Str
  | leaf _ ps => freeOf ps [] []
  | una _ e => freeOf [] [] [e.free]
  | bin _ e f => freeOf [] [] [e.free, f.free]
  | qua _ x e => freeOf [] [x] [e.free]
  | rch _ u v x y e => freeOf [u, v] [x, y] [e.free]
def depth : Ask → Nat
  | leaf _ _ => 1
  | una _ e => 1 + e.depth
  | bin _ e f => 1 + max e.depth f.depth
  | qua _ _ e => 1 + e.depth
  | rch _ _ _ _ _ e => 1 + e.depth
def most : Ask → Nat
  | leaf _ ps => (freeOf ps [] []).length
  | una _ e => max (freeOf [] [] [e.free]).length (max (once (e.free ++ [])).length e.most)
  | bin _ e f => max (freeOf [] [] [e.free, f.free]).length (max (max (once (e.free ++ [])).length (once (f.free ++ [])).length) (max e.most f.most))
  | qua _ x e => max (freeOf [] [x] [e.free]).length (max (once (e.free ++ [x])).length e.most)
  | rch _ u v x y e => max (freeOf [u, v] [x, y] [e.free]).length (max (once (e.free ++ [x, y])).length e.most)
def words : Ask → List Str
  | leaf w ps => w :: ps
  | una w e => w :: e.words
  | bin w e f => w :: (e.words ++ f.words)
  | qua w x e => w :: x :: e.words
  | rch w u v x y e => w :: u :: v :: x :: y :: e.words
end Ask
def pfs (w : Str) (tp tb ti tf : Addr) (d m : Nat) : List (Str × V) :=
  putF "most_names" (V.int (m : Int)) (putF "depth" (V.int (d : Int)) (putF "free" (V.ref tf) (putF "inner" (V.ref ti) (putF "bound" (V.ref tb) (putF "places" (V.ref tp) (putF "word" (V.str w) []))))))
def Node (K : PySem.W.Frag) (C : Addr) (H : Hp) (a : Addr) (w : Str) (ps bs : List Str) (is : List Addr) (fr : List Str) (d m : Nat) : Prop :=
  ∃ dx tp tb ti tf, H a = some (.ins C dx (pfs w tp tb ti tf d m)) ∧ SqT K H tp (ps.map V.str) ∧ SqT K H tb (bs.map V.str) ∧ SqT K H ti (is.map V.ref) ∧ SqT K H tf (fr.map V.str)
def PartAt (K : PySem.W.Frag) (C : Addr) (H : Hp) : Addr → Ask → Prop
  | a, .leaf w ps => Node K C H a w ps [] [] (Ask.leaf w ps).free (Ask.leaf w ps).depth (Ask.leaf w ps).most
  | a, .una w e => ∃ b, Node K C H a w [] [] [b] (Ask.una w e).free (Ask.una w e).depth (Ask.una w e).most ∧ PartAt K C H b e
  | a, .bin w e f => ∃ b c, Node K C H a w [] [] [b, c] (Ask.bin w e f).free (Ask.bin w e f).depth (Ask.bin w e f).most ∧ PartAt K C H b e ∧ PartAt K C H c f
  | a, .qua w x e => ∃ b, Node K C H a w [] [x] [b] (Ask.qua w x e).free (Ask.qua w x e).depth (Ask.qua w x e).most ∧ PartAt K C H b e
  | a, .rch w u v x y e => ∃ b, Node K C H a w [u, v] [x, y] [b] (Ask.rch w u v x y e).free (Ask.rch w u v x y e).depth (Ask.rch w u v x y e).most ∧ PartAt K C H b e
theorem part_node {K : PySem.W.Frag} {C : Addr} {H : Hp} {a : Addr} {t : Ask} (h : PartAt K C H a t) : ∃ is, Node K C H a t.word t.places t.bound is t.free t.depth t.most ∧ is.length = t.inner.length := by
  cases t with
  | leaf w ps => exact ⟨[], h, rfl⟩
  | una w e => obtain ⟨b, h, _⟩ := h; exact ⟨[b], h, rfl⟩
  | bin w e f => obtain ⟨b, c, h, _⟩ := h; exact ⟨[b, c], h, rfl⟩
  | qua w x e => obtain ⟨b, h, _⟩ := h; exact ⟨[b], h, rfl⟩
  | rch w u v x y e => obtain ⟨b, h, _⟩ := h; exact ⟨[b], h, rfl⟩
def Bar (R : Addr → Prop) (H H' : Hp) : Prop := ∀ a o, H a = some o → ¬ R a → H' a = some o
theorem node_up {K : PySem.W.Frag} {C : Addr} {H H' : Hp} {a : Addr} {w : Str} {ps bs : List Str} {is : List Addr} {fr : List Str} {d m : Nat} (e : Ex H H') (h : Node K C H a w ps bs is fr d m) : Node K C H' a w ps bs is fr d m := by
  obtain ⟨dx, tp, tb, ti, tf, h1, h2, h3, h4, h5⟩ := h
  exact ⟨dx, tp, tb, ti, tf, e _ _ h1, ex_t e h2, ex_t e h3, ex_t e h4, ex_t e h5⟩
theorem part_up {K : PySem.W.Frag} {C : Addr} {H H' : Hp} (e : Ex H H') : ∀ {t : Ask} {a : Addr}, PartAt K C H a t → PartAt K C H' a t
  | .leaf _ _, _, h => node_up e h
  | .una _ _, _, ⟨b, h, i⟩ => ⟨b, node_up e h, part_up e i⟩
  | .bin _ _ _, _, ⟨b, c, h, i, j⟩ => ⟨b, c, node_up e h, part_up e i, part_up e j⟩
  | .qua _ _ _, _, ⟨b, h, i⟩ => ⟨b, node_up e h, part_up e i⟩
  | .rch _ _ _ _ _ _, _, ⟨b, h, i⟩ => ⟨b, node_up e h, part_up e i⟩
theorem pfs_word {w : Str} {tp tb ti tf : Addr} {d m : Nat} : (pfs w tp tb ti tf d m).lookup ("word" : Str) = some (V.str w) := by
  unfold pfs; simp only [lookup_putF]; rfl
theorem pfs_places {w : Str} {tp tb ti tf : Addr} {d m : Nat} : (pfs w tp tb ti tf d m).lookup ("places" : Str) = some (V.ref tp) := by
  unfold pfs; simp only [lookup_putF]; rfl
theorem pfs_bound {w : Str} {tp tb ti tf : Addr} {d m : Nat} : (pfs w tp tb ti tf d m).lookup ("bound" : Str) = some (V.ref tb) := by
  unfold pfs; simp only [lookup_putF]; rfl
theorem pfs_inner {w : Str} {tp tb ti tf : Addr} {d m : Nat} : (pfs w tp tb ti tf d m).lookup ("inner" : Str) = some (V.ref ti) := by
  unfold pfs; simp only [lookup_putF]; rfl
theorem pfs_free {w : Str} {tp tb ti tf : Addr} {d m : Nat} : (pfs w tp tb ti tf d m).lookup ("free" : Str) = some (V.ref tf) := by
  unfold pfs; simp only [lookup_putF]; rfl
theorem pfs_depth {w : Str} {tp tb ti tf : Addr} {d m : Nat} : (pfs w tp tb ti tf d m).lookup ("depth" : Str) = some (V.int (d : Int)) := by
  unfold pfs; simp only [lookup_putF]; rfl
theorem pfs_most {w : Str} {tp tb ti tf : Addr} {d m : Nat} : (pfs w tp tb ti tf d m).lookup ("most_names" : Str) = some (V.int (m : Int)) := by
  unfold pfs; simp only [lookup_putF]; rfl
end WL

set_option Elab.async false
set_option linter.all false
set_option maxRecDepth 100000
set_option maxHeartbeats 4000000
namespace WL
open PySem PySem.Spec PyProof.Rows L2 Evl

def lettersS : Str := "abcdefghijklmnopqrstuvwxyz"
def figuresS : Str := "0123456789"
def noNames : List Str := ["yes", "no", "same", "less", "not", "and", "or", "some", "every", "reach", "told", "kept", "first", "put", "strike", "let", "bar", "set", "answer", "wish", "is", "p", "q", "r"]
structure TV (K : PySem.W.Frag) (mg : Str → Option Value) : Prop where
  letters : ∃ t, mg "LETTERS" = some (.str lettersS t)
  figures : ∃ t, mg "FIGURES" = some (.str figuresS t)
  signs : ∃ t, mg "MOST_SIGNS" = some (.int 6 t)
  inRow : ∃ t, mg "MOST_IN_ROW" = some (.int 3 t)
  noNames : ∃ a, mg "NO_NAMES" = some (.ref a) ∧ ∀ H, SqT K H a (noNames.map V.str)
  changed : ∃ a, mg "CHANGED_NAMES" = some (.ref a) ∧ ∀ H, SqT K H a (changedS.map V.str)
  isi : mg "isinstance" = none
  len : mg "len" = none
  all : mg "all" = none
  any : mg "any" = none
  int : mg "int" = none
  str : mg "str" = none
  bool : mg "bool" = none
  tuple : mg "tuple" = none
  set : mg "set" = none

section
variable {P : Program} {w : World} {K : PySem.W.Frag} {mg : Str → Option Value} {base : Heap}
theorem scIsInteger : FnScope ["value", "low", "high"] ["value", "low", "high"] (defScope sIsInteger) := ⟨rfl, rfl, rfl, by decide +kernel, rfl, by decide +kernel, by decide +kernel⟩
def spIsInteger : Sp := fun vs H Q _ => ∃ i lo hi : Int, vs = [.int i, .int lo, .int hi] ∧ RetV (.bl (decide (lo ≤ i) && decide (i ≤ hi))) H Q
theorem ok_isInteger {f : Addr} {fd : FuncData} (F : Fun K "is_integer" "is_integer" sIsInteger f fd) (T : TV K mg) : FnOk P w K mg base CX0 1 f fd ["value", "low", "high"] spIsInteger := by
  refine F.ok scIsInteger (fun vs H Q E h => ?_) (fun cdv A outer s H vs Q E hr h => ?_)
  · obtain ⟨i, lo, hi, rfl, _⟩ := h
    rfl
  · obtain ⟨i, lo, hi, rfl, k⟩ := h
    refine ⟨_, pss_one (ps_ret (pe_and (pe_callB call_isi (by rfl) T.isi (by decide +kernel) (pa_cons (pv 0) (pa_cons (pe_bltn (v := .ty "int") (by rfl) T.int (by decide +kernel) rfl) pa_nil)))
      (pe_and (pe_not (pe_callB call_isi (by rfl) T.isi (by decide +kernel) (pa_cons (pv 0) (pa_cons (pe_bltn (v := .ty "bool") (by rfl) T.bool (by decide +kernel) rfl) pa_nil))))
        (pe_one (pe_chain op_le op_le (pv 1) (pv 0) (pv 2)))))), ?_⟩
    exact s_ret (ev_andV (ev_isi (ev_var rfl) (.base (.int i)) (kit_ty (r := true) (by decide +kernel))) fun _ => ev_andV (ev_notV (ev_isi (ev_var rfl) (.base (.int i)) (kit_ty (r := false) (by decide +kernel)))) fun _ =>
      ev_chain (ev_var rfl) (ev_var rfl) (ev_var rfl)) fun H1 e => k H1 e

def isName (x : Str) : Bool := (decide (1 ≤ (x.length : Int)) && decide ((x.length : Int) ≤ 6)) && !inV (.str x) (noNames.map V.str) &&
  (decide ((x.cps.toList.getD 0 0) ∈ lettersS.cps.toList) && x.cps.toList.all fun c => decide (c ∈ lettersS.cps.toList) || decide (c ∈ figuresS.cps.toList))
theorem scIsName : FnScope ["value", "sign"] ["value"] (defScope sIsName) := ⟨rfl, rfl, rfl, by decide +kernel, rfl, by decide +kernel, by decide +kernel⟩
def spIsName : Sp := fun vs H Q _ => ∃ x : Str, vs = [.str x] ∧ x.length ≤ 20000 ∧ RetV (.bl (isName x)) H Q
theorem ok_isName {f : Addr} {fd : FuncData} (F : Fun K "is_name" "is_name" sIsName f fd) (T : TV K mg) : FnOk P w K mg base CX0 1 f fd ["value"] spIsName := by
  refine F.ok scIsName (fun vs H Q E h => ?_) (fun cdv A outer s H vs Q E hr h => ?_)
  · obtain ⟨x, rfl, _⟩ := h
    rfl
  · obtain ⟨x, rfl, hx, k⟩ := h
    obtain ⟨t1, m1⟩ := T.letters
    obtain ⟨t2, m2⟩ := T.figures
    obtain ⟨t3, m3⟩ := T.signs
    obtain ⟨a4, m4, q4⟩ := T.noNames
    refine ⟨_, pss_cons (ps_if (PW.pt (pw_or (pt_not (pt_val (pe_callB call_isi (by rfl) T.isi (by decide +kernel) (pa_cons (pv 0) (pa_cons (pe_bltn (v := .ty "str") (by rfl) T.str (by decide +kernel) rfl) pa_nil)))))
        (pw_or (pt_not (pt_chain op_le op_le pe_int (pe_callB call_len_str (by rfl) T.len PySem.boot_len (pa_cons (pv 0) pa_nil)) (pe_glob (v := .int 6) rfl m3 ⟨_, rfl⟩)))
          (pw_or1 (pt_cmpR op_in_seq (pv 0) (pe_glob (v := .ref a4) rfl m4 rfl) rfl)))))
        (pss_one (ps_ret pe_bl)) pss_nil)
      (pss_one (ps_ret (pe_and (pe_cmpR op_in_sign (pe_ix ix_str (pv 0) pe_int (fun _ _ => rfl)) (pe_glob (v := .str lettersS) rfl m1 ⟨_, rfl⟩) rfl)
        (pe_one (pe_callB (cr_all rfl) (by rfl) T.all (by decide +kernel) (pa_cons (pe_lc (own := [("sign", 1)]) (g := gName 1) (tt := tYes) rfl scIsName.nd (pi_str (pv 0)) (blkOk_by (N := ["value", "sign"]) (sc := defScope sIsName) (by decide +kernel))
          (fun _ _ _ _ _ => pg_name (i := 1) scIsName.nd rfl (Or.inl rfl)) (fun _ _ _ _ _ => pts_nil)
          (fun _ _ _ _ _ => pe_or (pe_cmpR op_in_sign (pv 1) (pe_glob (v := .str lettersS) rfl m1 ⟨_, rfl⟩) rfl) (pe_one (pe_cmpR op_in_sign (pv 1) (pe_glob (v := .str figuresS) rfl m2 ⟨_, rfl⟩) rfl)))) pa_nil)))))), ?_⟩
    have e1 : isName x = (!((!true) || ((!(decide (1 ≤ (x.length : Int)) && decide ((x.length : Int) ≤ 6))) || inV (.str x) (noNames.map V.str))) &&
        (decide ((x.cps.toList.getD 0 0) ∈ lettersS.cps.toList) && x.cps.toList.all fun c => decide (c ∈ lettersS.cps.toList) || decide (c ∈ figuresS.cps.toList))) := by
      unfold isName
      cases (decide (1 ≤ (x.length : Int)) && decide ((x.length : Int) ≤ 6)) <;> cases inV (.str x) (noNames.map V.str) <;> rfl
    refine q_when (et_or (et_not (et_B (ev_isi (ev_var rfl) (.base (.str x)) (kit_ty (r := true) (by decide +kernel))))) fun _ => et_or (et_not (et_chain ev_c (ev_cb (ea_cons (ev_var rfl) ea_nil) fun H1 _ Q q => ⟨x, rfl, sz_of (by omega), q H1 (Ex.refl _)⟩) ev_c)) fun _ =>
      et_test (ev_op (ev_var rfl) ev_c (rv_isT (q4 H) rfl (by decide +kernel)))) (fun hb H1 e => ?_) (fun hb H1 e => ?_)
    · refine s_ret ev_c fun H2 e2 => ?_
      have z : isName x = false := by rw [e1, hb]; rfl
      have q := k H2 (e.trans e2)
      rw [z] at q
      exact q
    · have hl : 1 ≤ x.length := by
        cases hc : (decide (1 ≤ (x.length : Int)) && decide ((x.length : Int) ≤ 6)) with
        | false => rw [hc] at hb; cases hb
        | true =>
          rw [Bool.and_eq_true] at hc
          have := of_decide_eq_true hc.1
          omega
      have hl0 : 0 < x.cps.toList.length := by rw [Array.length_toList]; exact hl
      have hc0 : atI x.cps.toList 0 = some (x.cps.toList.getD 0 0) := by
        have q : x.cps.toList[0]? = some (x.cps.toList.getD 0 0) := by
          rw [List.getD_eq_getElem?_getD, List.getElem?_eq_getElem hl0]; rfl
        exact atI_nat (j := 0) q
      have hbig : x.cps.toList.length ≤ 40000 := by rw [Array.length_toList]; exact Nat.le_trans hx (by decide)
      refine s_ret (ev_andV (ev_inSign (ev_op (ev_var rfl) ev_c (rv_ixS (by omega) hc0)) ev_c) fun _ => ev_allL (bs := x.cps.toList.map fun c => decide (c ∈ lettersS.cps.toList) || decide (c ∈ figuresS.cps.toList)) ?_ fun a H1 Q ha q => ⟨a, _, rfl, sq_of ha, q⟩) fun H2 e2 => ?_
      · have q := el_lcA (σ := L2.start ["value", "sign"] [V.str x]) (H := H1) (as := x.cps.toList) (c := fun c => V.str ⟨#[c]⟩) (j := 1) (vs := [1]) (t := tYes) (te := tOrV (tOp (fun x y H Q => ∃ (c : Nat) (z : Str), x = V.str ⟨#[c]⟩ ∧ y = V.str z ∧ Q (V.bl (decide (c ∈ z.cps.toList))) H) (tVar 1) (tC (V.str lettersS))) (tOp (fun x y H Q => ∃ (c : Nat) (z : Str), x = V.str ⟨#[c]⟩ ∧ y = V.str z ∧ Q (V.bl (decide (c ∈ z.cps.toList))) H) (tVar 1) (tC (V.str figuresS))))
          (fun _ => true) (fun c => .bl (decide (c ∈ lettersS.cps.toList) || decide (c ∈ figuresS.cps.toList))) (wi_str (te := tVar 0) (ev_var rfl)) walk_strA (fun _ _ => trivial) hbig (fun _ => rfl) (fun c _ H2 _ H3 _ Q q => q H3 (Ex.refl _)) (fun c _ H2 _ _ => ev_orV2 (ev_inSign (ev_var rfl) ev_c) (ev_inSign (ev_var rfl) ev_c))
        rw [all_true] at q
        rw [List.map_map]
        exact q
      · have q := k H2 (e.trans e2)
        rw [e1, hb] at q
        rw [List.all_map]
        exact q
end
end WL

set_option Elab.async false
set_option linter.all false
set_option maxRecDepth 100000
set_option maxHeartbeats 4000000
namespace WL
open PySem PySem.Spec PyProof.Rows L2 Evl
def unlike (xs : List Str) : Bool := xs.all isName && decide (((once xs).length : Int) = (xs.length : Int))
theorem sp_ret {f : List V → V} {sp : Sp} {vs : List V} {H : Hp} {z : V} (h : ∀ H1, Ex H H1 → ∀ Q : VK, RetV z H1 Q → ∀ E : XK, sp vs H1 Q E) : SpV sp vs H z := fun H1 e Q q E => h H1 e Q q E
structure FVal (P : Program) (w : World) (K : PySem.W.Frag) (mg : Str → Option Value) (base : Heap) (x : Str) (f : Addr) (fd : FuncData) (k : Nat) (ps : List Str) (sp : Sp) : Prop where
  ok : FnOk P w K mg base CX0 k f fd ps sp
  mg : mg x = some (.ref f)
  kp : PySem.W.keepIn K (.ref f) = true
  b : Binds K fd ps []
section
variable {P : Program} {w : World} {K : PySem.W.Frag} {mg : Str → Option Value} {base : Heap}
theorem scAreUnlikeNames : FnScope ["values", "value"] ["values"] (defScope sAreUnlikeNames) := ⟨rfl, rfl, rfl, by decide +kernel, rfl, by decide +kernel, by decide +kernel⟩
def spUnlike (K : PySem.W.Frag) : Sp := fun vs H Q _ => ∃ (a : Addr) (xs : List Str), vs = [.ref a] ∧ (SqL K H a (xs.map V.str) ∨ SqT K H a (xs.map V.str)) ∧ xs.length ≤ 4000 ∧ (∀ x ∈ xs, x.length ≤ 20000) ∧ RetV (.bl (unlike xs)) H Q
theorem sv_isName {H : Hp} {x : Str} (h : x.length ≤ 20000) : SpV spIsName [.str x] H (.bl (isName x)) := fun H1 e Q q E => ⟨x, rfl, h, q⟩
theorem ok_unlike {f g : Addr} {fd gd : FuncData} (F : Fun K "are_unlike_names" "are_unlike_names" sAreUnlikeNames f fd) (T : TV K mg) (G : FVal P w K mg base "is_name" g gd 1 ["value"] spIsName) :
    FnOk P w K mg base CX0 2 f fd ["values"] (spUnlike K) := by
  refine F.ok scAreUnlikeNames (fun vs H Q E h => ?_) (fun cdv A outer s H vs Q E hr h => ?_)
  · obtain ⟨a, xs, rfl, _⟩ := h
    rfl
  · obtain ⟨a, xs, rfl, hs, hn, hl, k⟩ := h
    have elt : ∀ x ∈ xs, ∀ H2, Ex H H2 → ∀ (σ : L2.St), σ[1]? = some (some (V.str x)) → Ev (tCall spIsName [] E0 (tCons (tVar 1) tNil)) σ H2 (.bl (isName x)) := fun x hx H2 _ σ hσ => ev_call (ea_cons (ev_var hσ) ea_nil) (sv_isName (hl x hx))
    have tail : ∀ H1, Ex H H1 → Ev (tOp rEq (tCB (rLenSet P w) (tCons (tCB (rMkSet K P w) (tCons (tVar 0) tNil)) tNil)) (tCB (rLenS K) (tCons (tVar 0) tNil))) (L2.start ["values", "value"] [V.ref a]) H1 (.bl (decide (((once xs).length : Int) = (xs.length : Int)))) := fun H1 e => by
      have q : EvQ K (tVar 0) (L2.start ["values", "value"] [V.ref a]) H1 (xs.map V.str) := by
        rcases hs with hs | hs
        · exact eq_l (ev_var rfl) (ex_l e hs)
        · exact eq_t (ev_var rfl) (ex_t e hs)
      have z := ev_op (ev_lenSet (P := P) (w := w) (es_set q hn)) (ev_lenQ q) (rv_eq rfl)
      rw [List.length_map] at z
      refine ev_is z ?_
      congr 1
      by_cases c : ((once xs).length : Int) = (xs.length : Int)
      · rw [decide_eq_true c, c]; exact decide_eq_true rfl
      · rw [decide_eq_false c]; exact decide_eq_false fun z => c (V.int.inj z)
    refine ⟨_, pss_one (ps_ret (pe_and (pe_callB (cr_all rfl) (by rfl) T.all (by decide +kernel) (pa_cons (pe_lc (own := [("value", 1)]) (g := gName 1) (tt := tYes) rfl scAreUnlikeNames.nd (pi_q (pv 0)) (blkOk_by (N := ["values", "value"]) (sc := defScope sAreUnlikeNames) (by decide +kernel))
          (fun _ _ _ _ _ => pg_name (i := 1) scAreUnlikeNames.nd rfl (Or.inl rfl)) (fun _ _ _ _ _ => pts_nil) (fun _ _ _ _ _ => pe_call G.ok hr (by rfl) G.mg G.kp G.b .nil pass0 (pa_cons (pv 1) pa_nil))) pa_nil))
        (pe_one (pe_cmpR op_eq (pe_callB cr_lenSet (by rfl) T.len PySem.boot_len (pa_cons (pe_callTy (cr_mkSet rfl) (by rfl) T.set (by decide +kernel) (pa_cons (pv 0) pa_nil)) pa_nil)) (pe_callB call_len_seq (by rfl) T.len PySem.boot_len (pa_cons (pv 0) pa_nil)) (nomark _))))), ?_⟩
    refine s_ret (ev_andV (ev_allL (bs := xs.map isName) ?_ fun a H1 Q ha q => ⟨a, _, rfl, sq_of ha, q⟩) fun _ => tail H (Ex.refl H)) fun H2 e2 => ?_
    · have q := el_lcQ (σ := L2.start ["values", "value"] [V.ref a]) (te := tVar 0) (j := 1) (vs := [1]) (t := tYes) (tv := tCall spIsName [] E0 (tCons (tVar 1) tNil)) (fun _ => true) (fun x => .bl (isName x)) (ev_var rfl) hs (by omega) (fun _ => rfl)
        (fun c _ H2 _ H3 _ Q q => q H3 (Ex.refl _)) (fun x hx H2 e _ => elt x hx H2 e _ rfl)
      rw [all_true] at q
      rw [List.map_map]
      exact q
    · have q := k H2 e2
      unfold unlike at q
      rw [List.all_map]
      exact q
end
end WL

set_option Elab.async false
set_option linter.all false
set_option maxRecDepth 100000
set_option maxHeartbeats 4000000
namespace WL
open PySem PySem.Spec PyProof.Rows L2 Evl
theorem ty_tup {K : PySem.W.Frag} {H : Hp} {a : Addr} {xs : List V} (h : SqT K H a xs) : TyX K H (.ref a) (.type "tuple") := by
  rcases h with (h | ⟨o, h⟩) | ⟨o, its, n, h, hc, _⟩
  · exact .base (.tup h)
  · exact .fTuple h
  · exact .kTuple h hc
theorem dec_int {a b : Int} : decide (V.int a = V.int b) = decide (a = b) := by
  by_cases c : a = b
  · rw [c, decide_eq_true rfl, decide_eq_true rfl]
  · rw [decide_eq_false c]; exact decide_eq_false fun z => c (V.int.inj z)
section
variable {P : Program} {w : World} {K : PySem.W.Frag} {mg : Str → Option Value} {base : Heap}
def isHead (xs : List Str) : Bool := decide ((xs.length : Int) ≤ 3) && unlike xs
theorem scIsHead : FnScope ["value"] ["value"] (defScope sIsHead) := ⟨rfl, rfl, rfl, by decide +kernel, rfl, by decide +kernel, by decide +kernel⟩
def spIsHead (K : PySem.W.Frag) : Sp := fun vs H Q _ => ∃ (a : Addr) (xs : List Str), vs = [.ref a] ∧ SqT K H a (xs.map V.str) ∧ xs.length ≤ 4000 ∧ (∀ x ∈ xs, x.length ≤ 20000) ∧ RetV (.bl (isHead xs)) H Q
theorem ok_isHead {f g : Addr} {fd gd : FuncData} (F : Fun K "is_head" "is_head" sIsHead f fd) (T : TV K mg) (G : FVal P w K mg base "are_unlike_names" g gd 2 ["values"] (spUnlike K)) :
    FnOk P w K mg base CX0 3 f fd ["value"] (spIsHead K) := by
  refine F.ok scIsHead (fun vs H Q E h => ?_) (fun cdv A outer s H vs Q E hr h => ?_)
  · obtain ⟨a, xs, rfl, _⟩ := h
    rfl
  · obtain ⟨a, xs, rfl, hs, hn, hl, k⟩ := h
    obtain ⟨t3, m3⟩ := T.inRow
    refine ⟨_, pss_one (ps_ret (pe_and (pe_callB call_isi (by rfl) T.isi (by decide +kernel) (pa_cons (pv 0) (pa_cons (pe_bltn (v := .ty "tuple") (by rfl) T.tuple (by decide +kernel) rfl) pa_nil)))
      (pe_and (pe_cmpR op_le (pe_callB call_len_seq (by rfl) T.len PySem.boot_len (pa_cons (pv 0) pa_nil)) (pe_glob (v := .int 3) rfl m3 ⟨_, rfl⟩) (nomark _))
        (pe_one (pe_call G.ok hr (by rfl) G.mg G.kp G.b .nil pass0 (pa_cons (pv 0) pa_nil)))))), ?_⟩
    have hlen : (xs.map V.str).length = xs.length := List.length_map _
    refine s_ret (ev_andV (ev_isi (ev_var rfl) (ty_tup hs) (kit_ty (r := true) (by decide +kernel))) fun _ => ev_andV (ev_op (ev_lenQ (eq_t (ev_var rfl) hs)) ev_c rv_I0) fun _ =>
      ev_call (ea_cons (ev_var rfl) ea_nil) fun H1 e Q q E => ⟨a, xs, rfl, .inr (ex_t e hs), hn, hl, q⟩) fun H2 e2 => ?_
    have q := k H2 e2
    unfold isHead at q
    rw [hlen]
    exact q
theorem scIsTable : FnScope ["value"] ["value"] (defScope sIsTable) := ⟨rfl, rfl, rfl, by decide +kernel, rfl, by decide +kernel, by decide +kernel⟩
def spIsTable (K : PySem.W.Frag) : Sp := fun vs H Q _ => ∃ (a : Addr) (x : Str) (i : Int), vs = [.ref a] ∧ SqT K H a [.str x, .int i] ∧ RetV (.bl (decide (0 ≤ i) && decide (i ≤ 3))) H Q
theorem ok_isTable {f g : Addr} {fd gd : FuncData} (F : Fun K "is_table" "is_table" sIsTable f fd) (T : TV K mg) (G : FVal P w K mg base "is_integer" g gd 1 ["value", "low", "high"] spIsInteger) :
    FnOk P w K mg base CX0 2 f fd ["value"] (spIsTable K) := by
  refine F.ok scIsTable (fun vs H Q E h => ?_) (fun cdv A outer s H vs Q E hr h => ?_)
  · obtain ⟨a, x, i, rfl, _⟩ := h
    rfl
  · obtain ⟨a, x, i, rfl, hs, k⟩ := h
    obtain ⟨t3, m3⟩ := T.inRow
    refine ⟨_, pss_one (ps_ret (pe_and (pe_callB call_isi (by rfl) T.isi (by decide +kernel) (pa_cons (pv 0) (pa_cons (pe_bltn (v := .ty "tuple") (by rfl) T.tuple (by decide +kernel) rfl) pa_nil)))
      (pe_and (pe_cmpR op_eq (pe_callB call_len_seq (by rfl) T.len PySem.boot_len (pa_cons (pv 0) pa_nil)) pe_int (nomark _))
        (pe_one (pe_call G.ok hr (by rfl) G.mg G.kp G.b .nil pass0 (pa_cons (pe_ix ix_tup (pv 0) pe_int (fun _ _ => rfl)) (pa_cons pe_int (pa_cons (pe_glob (v := .int 3) rfl m3 ⟨_, rfl⟩) pa_nil)))))))), ?_⟩
    exact s_ret (ev_andV (ev_isi (ev_var rfl) (ty_tup hs) (kit_ty (r := true) (by decide +kernel))) fun _ => ev_andV (b := decide (0 ≤ i) && decide (i ≤ 3)) (ev_op (ev_lenQ (eq_t (ev_var rfl) hs)) ev_c (rv_eq rfl)) fun _ =>
      ev_call (ea_cons (ev_op (ev_var rfl) ev_c (rv_ixT hs (atI_nat (j := 1) rfl))) (ea_cons ev_c (ea_cons ev_c ea_nil))) fun H1 e Q q E => ⟨i, 0, 3, rfl, q⟩) fun H2 e2 => k H2 e2
def isTables (ts : List (Addr × Str × Int)) : Bool := (ts.all fun t => decide (0 ≤ t.2.2) && decide (t.2.2 ≤ 3)) && unlike (ts.map fun t => t.2.1)
theorem scIsTables : FnScope ["value", "table", "name", "_"] ["value"] (defScope sIsTables) := ⟨rfl, rfl, rfl, by decide +kernel, rfl, by decide +kernel, by decide +kernel⟩
def spIsTables (K : PySem.W.Frag) : Sp := fun vs H Q _ => ∃ (a : Addr) (ts : List (Addr × Str × Int)), vs = [.ref a] ∧ TabsAt K H a ts ∧ ts.length ≤ 4000 ∧ (∀ t ∈ ts, t.2.1.length ≤ 20000) ∧ RetV (.bl (isTables ts)) H Q
theorem ok_isTables {f g g2 : Addr} {fd gd gd2 : FuncData} (F : Fun K "is_tables" "is_tables" sIsTables f fd) (T : TV K mg) (G : FVal P w K mg base "is_table" g gd 2 ["value"] (spIsTable K)) (G2 : FVal P w K mg base "are_unlike_names" g2 gd2 2 ["values"] (spUnlike K)) :
    FnOk P w K mg base CX0 3 f fd ["value"] (spIsTables K) := by
  refine F.ok scIsTables (fun vs H Q E h => ?_) (fun cdv A outer s H vs Q E hr h => ?_)
  · obtain ⟨a, ts, rfl, _⟩ := h
    rfl
  · obtain ⟨a, ts, rfl, hs, hn, hl, k⟩ := h
    refine ⟨_, pss_cons (ps_if (PW.pt (pw_or (pt_not (pt_val (pe_callB call_isi (by rfl) T.isi (by decide +kernel) (pa_cons (pv 0) (pa_cons (pe_bltn (v := .ty "tuple") (by rfl) T.tuple (by decide +kernel) rfl) pa_nil)))))
        (pw_or1 (pt_not (pt_val (pe_callB (cr_all rfl) (by rfl) T.all (by decide +kernel) (pa_cons (pe_lc (own := [("table", 1)]) (g := gName 1) (tt := tYes) rfl scIsTables.nd (pi_tup (pv 0)) (blkOk_by (N := ["value", "table", "name", "_"]) (sc := defScope sIsTables) (by decide +kernel))
          (fun _ _ _ _ _ => pg_name (i := 1) scIsTables.nd rfl (Or.inl rfl)) (fun _ _ _ _ _ => pts_nil) (fun _ _ _ _ _ => pe_call G.ok hr (by rfl) G.mg G.kp G.b .nil pass0 (pa_cons (pv 1) pa_nil))) pa_nil)))))))
        (pss_one (ps_ret pe_bl)) pss_nil)
      (pss_one (ps_ret (pe_call G2.ok hr (by rfl) G2.mg G2.kp G2.b .nil pass0 (pa_cons (pe_lc (own := [("name", 2), ("_", 3)]) (g := gTup K 2 (gCons (gName 2) (gCons (gName 3) gNil))) (tt := tYes) rfl scIsTables.nd (pi_tup (pv 0)) (blkOk_by (N := ["value", "table", "name", "_"]) (sc := defScope sIsTables) (by decide +kernel))
          (fun _ _ _ _ _ => pg_tup rfl (pgs_cons (pg_name (i := 2) scIsTables.nd rfl (Or.inl rfl)) (pgs_cons (pg_name (i := 3) scIsTables.nd rfl (Or.inl rfl)) pgs_nil))) (fun _ _ _ _ _ => pts_nil) (fun _ _ _ _ _ => pv 2)) pa_nil)))), ?_⟩
    refine q_when (et_or (et_not (et_B (ev_isi (ev_var rfl) (ty_tup hs.1) (kit_ty (r := true) (by decide +kernel))))) fun _ => et_not (et_B (ev_allL (bs := ts.map fun t => decide (0 ≤ t.2.2) && decide (t.2.2 ≤ 3)) ?_ fun a H1 Q ha q => ⟨a, _, rfl, sq_of ha, q⟩))) (fun hb H1 e => ?_) (fun hb H1 e => ?_)
    · have q := el_lcA (σ := L2.start ["value", "table", "name", "_"] [V.ref a]) (H := H) (as := ts) (c := fun t => V.ref t.1) (j := 1) (vs := [1]) (t := tYes) (te := tCall (spIsTable K) [] E0 (tCons (tVar 1) tNil)) (wi := iTup K (tVar 0))
        (fun _ => true) (fun t => .bl (decide (0 ≤ t.2.2) && decide (t.2.2 ≤ 3))) (wi_tup (ev_var rfl) hs.1) walk_tupA (fun H1 e => ex_t e hs.1) (by omega) (fun _ => rfl) (fun c _ H2 _ H3 _ Q q => q H3 (Ex.refl _))
        (fun t ht H2 e2 _ => ev_call (ea_cons (ev_var rfl) ea_nil) fun H3 e3 Q q E => ⟨t.1, t.2.1, t.2.2, rfl, ex_t (e2.trans e3) (hs.2 t ht), q⟩)
      rw [all_true] at q
      rw [List.map_map]
      exact q
    · refine s_ret ev_c fun H2 e2 => ?_
      have z : isTables ts = false := by
        unfold isTables
        rw [List.all_map] at hb
        have hb' : (!(ts.all fun t => decide (0 ≤ t.2.2) && decide (t.2.2 ≤ 3))) = true := hb
        cases hc : (ts.all fun t => decide (0 ≤ t.2.2) && decide (t.2.2 ≤ 3)) with
        | true => rw [hc] at hb'; cases hb'
        | false => rfl
      have q := k H2 (e.trans e2)
      rw [z] at q
      exact q
    · have z : isTables ts = unlike (ts.map fun t => t.2.1) := by
        unfold isTables
        rw [List.all_map] at hb
        have hb' : (!(ts.all fun t => decide (0 ≤ t.2.2) && decide (t.2.2 ≤ 3))) = false := hb
        cases hc : (ts.all fun t => decide (0 ≤ t.2.2) && decide (t.2.2 ≤ 3)) with
        | false => rw [hc] at hb'; cases hb'
        | true => rfl
      have names : EvL (tLc (iTup K (tVar 0)) (gTup K 2 (gCons (gName 2) (gCons (gName 3) gNil))) tYes (tVar 2) [2, 3]) (L2.start ["value", "table", "name", "_"] [V.ref a]) H1 ((ts.map fun t => t.2.1).map V.str) := by
        have q := el_lcG (σ := L2.start ["value", "table", "name", "_"] [V.ref a]) (H := H1) (as := ts) (c := fun t => V.ref t.1) (vs := [2, 3]) (t := tYes) (tv := tVar 2) (wi := iTup K (tVar 0)) (g := gTup K 2 (gCons (gName 2) (gCons (gName 3) gNil)))
          (fun t => [some (V.ref a), none, some (V.str t.2.1), some (V.int t.2.2)]) (fun _ => true) (fun t => .str t.2.1) (wi_tup (ev_var rfl) (ex_t e hs.1)) walk_tupA (fun H2 e2 => ex_t (e.trans e2) hs.1) (by omega)
          (fun t ht H2 e2 R r => g_pair (ex_t (e.trans e2) (hs.2 t ht)) r) (fun _ _ => rfl) (fun c _ H2 _ H3 _ Q q => q H3 (Ex.refl _)) (fun t ht H2 e2 _ => ev_var rfl)
        rw [all_true] at q
        rw [List.map_map]
        exact q
      refine s_retCallL names fun p H2 hp e2 h2 => ⟨p, ts.map fun t => t.2.1, rfl, .inl (sq_of h2), by rw [List.length_map]; exact hn, fun x hx => ?_, ?_⟩
      · obtain ⟨t, ht, rfl⟩ := List.mem_map.mp hx
        exact hl t ht
      · intro H3 e3
        have q := k H3 ((e.trans e2).trans e3)
        rw [z] at q
        exact q
end
end WL

set_option Elab.async false
set_option linter.all false
set_option maxRecDepth 100000
set_option maxHeartbeats 4000000
namespace WL
open PySem PySem.Spec PyProof.Rows L2 Evl
theorem flat_strs (bs : List Str) : (bs.map V.str).all flatV = true := by
  rw [List.all_map]
  exact List.all_eq_true.mpr fun _ _ => rfl
structure TPt (K : PySem.W.Frag) (mg : Str → Option Value) (C : Addr) : Prop where
  v : TV K mg
  cl : Cls K C
  nWord : NoAttr K C "word"
  nPlaces : NoAttr K C "places"
  nBound : NoAttr K C "bound"
  nInner : NoAttr K C "inner"
  nFree : NoAttr K C "free"
  nDepth : NoAttr K C "depth"
  nMost : NoAttr K C "most_names"
  mgC : mg "Part" = some (.ref C)
  sorted : mg "sorted" = none
  max : mg "max" = none
section
variable {P : Program} {w : World} {K : PySem.W.Frag} {mg : Str → Option Value} {base : Heap}
theorem scFreeNames : FnScope ["places", "bound", "inner", "names", "part", "name"] ["places", "bound", "inner"] (defScope sFreeNames) := ⟨rfl, rfl, rfl, by decide +kernel, rfl, by decide +kernel, by decide +kernel⟩
def namesOf (ps bs : List Str) (inn : List (List Str)) : List Str := (ps.filter fun n => !inV (.str n) (changedS.map V.str)) ++ inn.flatMap fun f => f.filter fun n => !inV (.str n) (bs.map V.str)
def spFreeNames (K : PySem.W.Frag) (C : Addr) : Sp := fun vs H Q _ => ∃ (ap ab ai : Addr) (ps bs : List Str) (its : List (Addr × Ask)), vs = [.ref ap, .ref ab, .ref ai] ∧ SqT K H ap (ps.map V.str) ∧ SqT K H ab (bs.map V.str) ∧ SqT K H ai (its.map fun i => V.ref i.1) ∧
  (∀ i ∈ its, PartAt K C H i.1 i.2) ∧ ps.length ≤ 1000 ∧ its.length ≤ 4 ∧ (∀ i ∈ its, i.2.free.length ≤ 500) ∧ ∀ r H', H r = none → Ex H H' → H' r = some (.tup ((freeOf ps bs (its.map fun i => i.2.free)).map V.str)) → Q (.ref r) H'
theorem pre_len (ps bs : List Str) (its : List (Addr × Ask)) (i : Nat) (hp : ps.length ≤ 1000) (hl : its.length ≤ 4) (hf : ∀ i ∈ its, i.2.free.length ≤ 500) : (namesOf ps bs ((its.take i).map fun i => i.2.free)).length ≤ 3000 := by
  have fl : ∀ (l : List (Addr × Ask)), (∀ i ∈ l, i.2.free.length ≤ 500) → ((l.map fun i => i.2.free).flatMap fun f => f.filter fun n => !inV (.str n) (bs.map V.str)).length ≤ 500 * l.length := by
    intro l
    induction l with
    | nil => intro _; exact Nat.le_refl _
    | cons x l ih =>
      intro h
      rw [List.map_cons, List.flatMap_cons, List.length_append, List.length_cons]
      have a1 := ih fun i hi => h i (List.mem_cons_of_mem _ hi)
      have a2 := h x List.mem_cons_self
      have a3 := List.length_filter_le (fun n => !inV (.str n) (bs.map V.str)) x.2.free
      omega
  have q := fl (its.take i) fun x hx => hf x (List.mem_of_mem_take hx)
  have z := List.length_filter_le (fun n => !inV (.str n) (changedS.map V.str)) ps
  have l4 : (its.take i).length ≤ 4 := by rw [List.length_take]; omega
  unfold namesOf
  rw [List.length_append]
  omega
theorem ok_freeNames {f C : Addr} {fd : FuncData} (F : Fun K "free_names" "free_names" sFreeNames f fd) (T : TPt K mg C) : FnOk P w K mg base CX0 1 f fd ["places", "bound", "inner"] (spFreeNames K C) := by
  refine F.ok scFreeNames (fun vs H Q E h => ?_) (fun cdv A outer s H vs Q E hr h => ?_)
  · obtain ⟨ap, ab, ai, ps, bs, its, rfl, _⟩ := h
    rfl
  · obtain ⟨ap, ab, ai, ps, bs, its, rfl, hp, hb, hi, hpt, n1, n2, n3, k⟩ := h
    obtain ⟨a4, m4, q4⟩ := T.v.changed
    refine ⟨_, pss_cons (ps_setLc (i := 3) (y := "names") (own := [("name", 5)]) (g := gName 5) (tt := tTest (tOp (rIn K true) (tVar 5) (tC (V.ref a4)))) (by rfl) scFreeNames.nd rfl rfl (sw_true rfl rfl rfl (by decide +kernel)) (pi_tup (pv 0)) (blkOk_by (N := ["places", "bound", "inner", "names", "part", "name"]) (sc := defScope sFreeNames) (by decide +kernel))
          (fun _ _ _ _ _ => pg_name (i := 5) scFreeNames.nd rfl (Or.inl rfl)) (fun _ _ _ _ _ => pts_one (pt_cmpR op_notIn_seq (pv 5) (pe_glob (v := .ref a4) rfl m4 rfl) rfl)) (fun _ _ _ _ _ => pv 5))
      (pss_cons (ps_for PassesOwn.never rfl (pi_tup (pv 2)) (pg_name (i := 4) scFreeNames.nd rfl (Or.inl rfl))
        (pss_one (ps_expr (pe_bm PySem.F.plainAttrs_list PySem.F.slot_list_extend PySem.F.type_list_extend mt_extend (pv 3) (pa_cons
          (pe_lc (own := [("name", 5)]) (g := gName 5) (tt := tTest (tOp (rIn K true) (tVar 5) (tVar 1))) rfl scFreeNames.nd (pi_tup (pe_fld (pv 4) rfl)) (blkOk_by (N := ["places", "bound", "inner", "names", "part", "name"]) (sc := defScope sFreeNames) (by decide +kernel))
            (fun _ _ _ _ _ => pg_name (i := 5) scFreeNames.nd rfl (Or.inl rfl)) (fun _ _ _ _ _ => pts_one (pt_cmpR op_notIn_seq (pv 5) (pv 1) rfl)) (fun _ _ _ _ _ => pv 5)) pa_nil)))))
      (pss_one (ps_ret (pe_callTy call_tuple_of (by rfl) T.v.tuple (by decide +kernel) (pa_cons (pe_callB (cr_sortSet rfl) (by rfl) T.sorted (by decide +kernel) (pa_cons (pe_callTy (cr_mkSet rfl) (by rfl) T.v.set (by decide +kernel) (pa_cons (pv 3) pa_nil)) pa_nil)) pa_nil))))), ?_⟩
    have first : EvL (tLc (iTup K (tVar 0)) (gName 5) (tTest (tOp (rIn K true) (tVar 5) (tC (V.ref a4)))) (tVar 5) [5]) (L2.start ["places", "bound", "inner", "names", "part", "name"] [V.ref ap, V.ref ab, V.ref ai]) H
        ((ps.filter fun n => !inV (.str n) (changedS.map V.str)).map V.str) :=
      el_lcA (as := ps) (c := V.str) (fun n => !inV (.str n) (changedS.map V.str)) V.str (wi_tup (ev_var rfl) hp) walk_tupA (fun H1 e => ex_t e hp) (by omega) (fun _ => rfl)
        (fun n _ H1 e => et_test (ev_op (ev_var rfl) ev_c (rv_niT (q4 H1) rfl (flat_strs _)))) (fun n _ H1 e _ => ev_var rfl)
    refine q_asgL first fun l H1 hl e1 h1 => ?_
    refine q_forT (ev_var rfl) (ex_t e1 hi) (fun i σ' H' => ∃ y, σ' = [some (.ref ap), some (.ref ab), some (.ref ai), some (.ref l), y, none] ∧ Ex H H' ∧ H' l = some (.lst ((namesOf ps bs ((its.take i).map fun i => i.2.free)).map V.str)))
      (fun H2 e2 => ⟨none, rfl, e1.trans e2, ?_⟩) (fun i σ' H' _ hP => ex_t hP.choose_spec.2.1 hi) (fun i x σ' H' hx hP => ?_) (fun σ' H' hP => ?_)
    · have z : namesOf ps bs ((its.take 0).map fun i => i.2.free) = ps.filter fun n => !inV (.str n) (changedS.map V.str) := by
        unfold namesOf; simp
      rw [z]
      exact e2 l _ h1
    · obtain ⟨y, rfl, e2, h2⟩ := hP
      obtain ⟨it, hit, rfl⟩ := map_at hx
      have im := List.mem_of_getElem? hit
      have pt := part_up e2 (hpt it im)
      obtain ⟨is, ⟨dx, tp, tb, ti, tf, g1, g2, g3, g4, g5⟩, _⟩ := part_node pt
      have nl : l ≠ it.1 := ne_of h2 g1 (by intro q; cases q)
      have comp : EvL (tLc (iTup K (tFld K (tVar 4) "free")) (gName 5) (tTest (tOp (rIn K true) (tVar 5) (tVar 1))) (tVar 5) [5]) [some (.ref ap), some (.ref ab), some (.ref ai), some (.ref l), some (.ref it.1), none] H'
          ((it.2.free.filter fun n => !inV (.str n) (bs.map V.str)).map V.str) :=
        el_lcA (as := it.2.free) (c := V.str) (fun n => !inV (.str n) (bs.map V.str)) V.str (wi_tup (ev_fld (ev_var rfl) g1 T.cl T.nFree pfs_free) g5) walk_tupA (fun H1 e => ex_t e g5) (by have := n3 it im; omega) (fun _ => rfl)
          (fun n _ H3 e3 => et_test (ev_op (ev_var rfl) (ev_var rfl) (rv_niT (ex_t (e2.trans e3) hb) rfl (flat_strs _)))) (fun n _ H3 e3 _ => ev_var rfl)
      have take1 : its.take (i + 1) = its.take i ++ [it] := by rw [List.take_add_one, hit]; rfl
      have big := pre_len ps bs its i n1 n2 n3
      have big2 := n3 it im
      have big3 := List.length_filter_le (fun n => !inV (.str n) (bs.map V.str)) it.2.free
      refine ⟨.ref l, rfl, .inl ⟨rfl, _, sq_of h2⟩, ?_⟩
      refine comp H' (Ex.refl _) _ fun p H3 hp0 e3 hp3 => ?_
      refine ⟨l, p, _, _, rfl, rfl, e3 l _ h2, hp3, ?_, some (.ref it.1), rfl, ?_, ?_⟩
      · rw [List.length_map, List.length_map]; exact sz_of (by omega)
      · exact Ex.mut (e2.trans e3) hl
      · rw [upd_same, take1, ← List.map_append]
        congr 2
        unfold namesOf
        simp
    · obtain ⟨y, rfl, e2, h2⟩ := hP
      have big := pre_len ps bs its its.length n1 n2 n3
      rw [List.length_map, List.take_length] at h2
      rw [List.take_length] at big
      refine s_retU (eu_tuple (el_sortSet (P := P) (w := w) (es_set (eq_l (ev_var rfl) (sq_of h2)) (by omega)))) fun p H3 hp0 e3 h3 => ?_
      exact k p H3 (fresh_back e2 hp0) (e2.trans e3) h3
end
end WL

set_option Elab.async false
set_option linter.all false
set_option maxRecDepth 100000
set_option maxHeartbeats 4000000
namespace WL
open PySem PySem.Spec PyProof.Rows L2 Evl
def maxFrom : Option Int → List Int → Int → Int
  | none, [], d => d
  | some m, [], _ => m
  | none, x :: r, d => maxFrom (some x) r d
  | some m, x :: r, d => maxFrom (some (if x > m then x else m)) r d
theorem maxFrom_some : ∀ (r : List Int) (m d : Int), maxFrom (some m) r d = r.foldl (fun m x => if x > m then x else m) m
  | [], _, _ => rfl
  | x :: r, m, d => maxFrom_some r _ d
section
variable {P : Program} {w : World} {A : Around} {E : Value → Shared → Prop} {s : Shared}
theorem maxD_args (a v : Value) : argsOk "max" ⟨[a], [(Str.ofString "default", v)]⟩ := by unfold argsOk; kernel_rfl
abbrev bestObj (items : Array Value) (c : Nat) : Obj := { cls := .type "list", dict := none, data := .seq items c, slots := #[] }
def Held : Option Int → Array Value → Prop
  | none, items => items = #[]
  | some m, items => ∃ t, items = #[.int m t, .int m t]
theorem maxD_loop {R : Result → Shared → Prop} {I : Addr} {fp wr : List Addr} {n : Nat} {Pv : Nat → Value → Prop} {St : Nat → Heap → Prop} (W : Walks P w A.in1 I fp wr n Pv St) (ns : List Int) (hn : ns.length = n)
    (hval : ∀ i v, Pv i v → ∃ t, v = .int (ns.getD i 0) t) (S : Addr) (hSf : S ∉ fp) (d : Int) (u : Tok) :
    ∀ (k i : Nat) (s : Shared) (b : Option Int) (items : Array Value) (c : Nat), n - i = k → i ≤ n → St i s.heap → s.heap.get? S = some (bestObj items c) → Held b items →
    (∀ v h' tk, (∃ t, v = .int (maxFrom b (ns.drop i) d) t) → (∀ b o, b ∉ wr → b ≠ S → s.heap.get? b = some o → h'.get? b = some o) → R (.ok (.ret v)) { s with heap := h', toks := tk }) →
    codeAny (model P w) A (.builtin "max.loop" ⟨[.ref I, .none, .ref S], [(Str.ofString "default", .int d u)]⟩) R s := by
  have hSw : S ∉ wr := fun h => hSf (W.sub _ h)
  have nm : (toString "max" ++ toString ".loop" : String) = "max.loop" := by decide
  intro k
  induction k with
  | zero =>
    intro i s b items c hk hi hst hS hb hR
    obtain rfl : i = n := by omega
    have dr : ns.drop i = [] := List.drop_eq_nil_of_le (by omega)
    rw [dr] at hR
    refine codeAny_builtin PySem.F.entry_max_loop ?_
    rw [Around.under_plainId PySem.F.plain_max_loop _]
    show wpAny _ A.in1 (seqItems? (.ref S) >>= _) _ _ s
    refine wpAny_bind (wpAny_seqItems hS rfl ?_)
    cases b with
    | none =>
      obtain rfl : items = #[] := hb
      show wpAny _ A.in1 (tryCatch (pyNext (.ref I)) _ >>= _) _ _ s
      refine wpAny_bind (wpAny_tryCatch (W.done s _ _ hst fun h' tk hk' => ?_))
      refine wpAny_bind (wpAny_rule (wpAny_pure ?_))
      exact hR _ h' tk ⟨u, rfl⟩ fun b o hbw _ e => hk' b o hbw e
    | some m =>
      obtain ⟨t, rfl⟩ := hb
      show wpAny _ A.in1 (tryCatch (pyNext (.ref I)) _ >>= _) _ _ s
      refine wpAny_bind (wpAny_tryCatch (W.done s _ _ hst fun h' tk hk' => ?_))
      have hS' := hk' S _ hSw hS
      show wpAny _ A.in1 (updateSeq S (fun _ => #[]) >>= _) _ _ _
      refine wpAny_bind (wpAny_updateSeq hS' rfl (wpAny_bind (wpAny_letGo (wpAny_pure ?_))))
      exact hR _ _ tk ⟨t, rfl⟩ fun b o hbw hbS e => (Heap.get?_update_other _ _ (Ne.symm hbS)).trans (hk' b o hbw e)
  | succ k ih =>
    intro i s b items c hk hi hst hS hb hR
    have hlt : i < n := by omega
    have dr : ns.drop i = ns.getD i 0 :: ns.drop (i + 1) := by
      rw [List.getD_eq_getElem?_getD, List.getElem?_eq_getElem (by omega), Option.getD_some]
      exact List.drop_eq_getElem_cons (by omega)
    rw [dr] at hR
    refine codeAny_builtin PySem.F.entry_max_loop ?_
    rw [Around.under_plainId PySem.F.plain_max_loop _]
    show wpAny _ A.in1 (seqItems? (.ref S) >>= _) _ _ s
    refine wpAny_bind (wpAny_seqItems hS rfl ?_)
    cases b with
    | none =>
      obtain rfl : items = #[] := hb
      show wpAny _ A.in1 (tryCatch (pyNext (.ref I)) _ >>= _) _ _ s
      refine wpAny_bind (wpAny_tryCatch (W.item i s _ _ hlt hst fun v h' tk hP hst' hk' => ?_))
      obtain ⟨t, rfl⟩ := hval i v hP
      have hS' := hk' S _ hSw hS
      show wpAny _ A.in1 (updateSeq S (fun _ => #[Value.int (ns.getD i 0) t, Value.int (ns.getD i 0) t]) >>= _) _ _ _
      refine wpAny_bind (wpAny_updateSeq hS' rfl ?_)
      rw [nm]
      refine wpAny_pure ⟨plainId_quiet PySem.F.plain_max_loop _, ih (i + 1) _ (some (ns.getD i 0)) _ _ (by omega) hlt (W.frame _ _ _ hst' fun b hbf o e => ?_) (Heap.get?_update_self _ hS' rfl) ⟨t, rfl⟩ fun v' h2 tk2 hv k2 => ?_⟩
      · exact (Heap.get?_update_other _ _ (fun h : S = b => hSf (by rw [h]; exact hbf))).trans e
      · exact hR v' h2 tk2 hv fun b o hbw hbS e => k2 b o hbw hbS ((Heap.get?_update_other _ _ (Ne.symm hbS)).trans (hk' b o hbw e))
    | some m =>
      obtain ⟨t0, rfl⟩ := hb
      show wpAny _ A.in1 (tryCatch (pyNext (.ref I)) _ >>= _) _ _ s
      refine wpAny_bind (wpAny_tryCatch (W.item i s _ _ hlt hst fun v h' tk hP hst' hk' => ?_))
      obtain ⟨t, rfl⟩ := hval i v hP
      generalize ns.getD i 0 = x at hR
      have hS' := hk' S _ hSw hS
      show wpAny _ A.in1 (tryCatch (holding [Value.int x t, Value.int x t] (richCompare .Gt (Value.int x t) (Value.int m t0) >>= _)) _ >>= _) _ _ _
      refine wpAny_bind (wpAny_tryCatch (wpAny_holding (wpAny_bind ?_)))
      refine CmpOf.ints_gt (P := fun i v => ∃ t, v = Value.int (if i = 0 then x else m) t) (fun i => if i = 0 then x else m) (fun i v h => h) 0 1 _ _ _ _ _ ⟨t, rfl⟩ ⟨t0, rfl⟩ ?_
      show wpAny _ A.in1 (holding [Value.bool (decide (x > m))] (truthy (Value.bool (decide (x > m)))) >>= _) _ _ _
      refine wpAny_bind (wpAny_holding (wpAny_truthy_bool ?_))
      refine wpAny_bind (wpAny_letGo (wpAny_pure ?_))
      have hR' : ∀ v h' tk, (∃ t, v = .int (maxFrom (some (if x > m then x else m)) (ns.drop (i + 1)) d) t) → (∀ b o, b ∉ wr → b ≠ S → s.heap.get? b = some o → h'.get? b = some o) → R (.ok (.ret v)) { s with heap := h', toks := tk } := hR
      by_cases c1 : x > m
      · rw [decide_eq_true c1]
        rw [if_pos c1] at hR'
        simp only [if_true]
        refine wpAny_bind (wpAny_updateSeq hS' rfl (wpAny_bind (wpAny_letGo ?_)))
        rw [nm]
        refine wpAny_pure ⟨plainId_quiet PySem.F.plain_max_loop _, ih (i + 1) _ (some x) _ _ (by omega) hlt (W.frame _ _ _ hst' fun b hbf o e => ?_) (Heap.get?_update_self _ hS' rfl) ⟨t, rfl⟩ fun v' h2 tk2 hv k2 => ?_⟩
        · exact (Heap.get?_update_other _ _ (fun h : S = b => hSf (by rw [h]; exact hbf))).trans e
        · exact hR' v' h2 tk2 hv fun b o hbw hbS e => k2 b o hbw hbS ((Heap.get?_update_other _ _ (Ne.symm hbS)).trans (hk' b o hbw e))
      · rw [decide_eq_false c1]
        rw [if_neg c1] at hR'
        simp only [Bool.false_eq_true, if_false]
        refine wpAny_bind (wpAny_letGo ?_)
        rw [nm]
        refine wpAny_pure ⟨plainId_quiet PySem.F.plain_max_loop _, ih (i + 1) _ (some m) _ _ (by omega) hlt hst' hS' ⟨t0, rfl⟩ fun v' h2 tk2 hv k2 => ?_⟩
        exact hR' v' h2 tk2 hv fun b o hbw hbS e => k2 b o hbw hbS (hk' b o hbw e)
theorem call_kw_tree {id : String} {b : Builtin} {args : List Value} {kw : List (Str × Value)} {Q : Value → Shared → Prop} (hk : builtinKind id = none) (hp : plainId id = true) (hb : entryFor table id = some b) (ha : argsOk id ⟨args, kw⟩)
    (hc : wpAny (model P w) A.in1 (b ⟨args, kw⟩) (fun fin s' => match fin with
      | .done f => (match (Except.ok f : Result) with | .ok (.ret v) => Q v s' | .ok _ => False | .error e => E e s')
      | .again c => c.quiet = true ∧ codeAny (model P w) A c (fun r s' => match r with | .ok (.ret v) => Q v s' | .ok _ => False | .error e => E e s') s') E s) :
    wpAny (model P w) A (call (.builtin id) args kw) Q E s := by
  refine wpAny_call (codeAny_call_builtin hp hb ?_)
  simp only [checkBuiltinCall, hk]
  cases hs : Manifest.signature? id with
  | none => exact wpAny_pure hc
  | some sig =>
    have z : Bind.checkArgs id sig ⟨args, kw⟩ = pure () := by simpa only [argsOk, hs] using ha
    show wpAny _ A.in1 (Bind.checkArgs id sig ⟨args, kw⟩) _ _ s
    rw [z]
    exact wpAny_pure hc
theorem call_maxD {l : Addr} {items : Array Value} {ns : List Int} {d : Int} {u : Tok} {Q : Value → Shared → Prop} (hh : A.handled = none) (hl : s.heap.IsList l items) (hi : IntsAre items.toList ns)
    (h : ∀ h' tk t, (∀ b o, s.heap.get? b = some o → h'.get? b = some o) → Q (.int (maxFrom none ns d) t) { s with heap := h', toks := tk }) :
    wpAny (model P w) A (call (.builtin "max") [.ref l] [(Str.ofString "default", .int d u)]) Q E s := by
  have nm : (toString "max" ++ toString ".loop" : String) = "max.loop" := by decide
  have hlt : l < s.heap.objs.size := by obtain ⟨_, e, _⟩ := hl; exact Heap.lt_size e
  refine call_kw_tree PySem.F.kind_max PySem.F.plain_max PySem.F.entry_max (maxD_args _ _) ?_
  show wpAny _ A.in1 (Builtin.Builtins.bindParams "max" ["key", "default"] 0 ⟨[], [(Str.ofString "default", .int d u)]⟩ >>= _) _ _ s
  refine wpAny_bind (wpAny_of_eq (show Builtin.Builtins.bindParams "max" ["key", "default"] 0 ⟨[], [(Str.ofString "default", .int d u)]⟩ = pure [none, some (.int d u)] from rfl) ?_)
  refine wpAny_bind (wpAny_pure (wpAny_bind ?_))
  refine wpAny_pyIter_list hl ?_
  refine wpAny_bind (wpAny_newObj_type ?_)
  rw [nm]
  have hsz : ns.length = items.size := by rw [← IntsAre.length hi, Array.length_toList]
  have ne : l ≠ s.heap.objs.size := Nat.ne_of_lt hlt
  have z1 : (s.heap.push { cls := .type "list_iterator", data := .fields #[.ref l, .int 0 0] }).objs.size = s.heap.objs.size + 1 := Heap.size_push ..
  have nS : (s.heap.push { cls := .type "list_iterator", data := .fields #[.ref l, .int 0 0] }).objs.size ∉ [s.heap.objs.size, l] := by
    rw [z1]; simp only [List.mem_cons, List.not_mem_nil, or_false, not_or]
    exact ⟨Nat.ne_of_gt (Nat.lt_succ_self _), Nat.ne_of_gt (Nat.lt_succ_of_lt hlt)⟩
  refine wpAny_pure ⟨plainId_quiet PySem.F.plain_max_loop _, maxD_loop (Walks.list (A := A.in1) hh s.heap.objs.size l ne items) ns hsz (fun i v hv => IntsAre.int_at hi i v (by rw [Array.getElem?_toList]; exact hv)) _ nS d u (items.size - 0) 0 _ none #[] _ (by omega) (Nat.zero_le _)
    ⟨⟨_, Heap.get?_push_of_some _ (Heap.get?_push_size _ rfl), rfl, rfl⟩, (hl.push _).push _⟩ (Heap.get?_push_size _ rfl) rfl fun v h' tk hv hk => ?_⟩
  obtain ⟨t, rfl⟩ := hv
  refine h h' tk t fun b o e => ?_
  have hb := Heap.lt_size e
  refine hk b o (fun hm => ?_) (by rw [z1]; exact Nat.ne_of_lt (Nat.lt_succ_of_lt hb)) (Heap.get?_push_of_some _ (Heap.get?_push_of_some _ e))
  rw [List.mem_singleton] at hm
  rw [hm] at hb
  exact Nat.lt_irrefl _ hb
end
section
variable {X : Cx}
def rMaxD (K : PySem.W.Frag) : List V → List V → Hp → VK → Prop := fun vs zs H Q => ∃ (a : Addr) (ns : List Int) (d : Int), vs = [V.ref a] ∧ zs = [V.int d] ∧ SqL K H a (ns.map V.int) ∧ Q (.int (maxFrom none ns d)) H
theorem cr_maxD (hc : X.calm = true) : CallRK X (.builtin "max") ["default"] (rMaxD X.K) := by
  intro pins s σ H vs zs us ws Q I r r2 h
  obtain ⟨a, ns, d, rfl, rfl, hs, q⟩ := h
  obtain ⟨its, rv, hl, _⟩ := I.list hs
  rw [Vals.ref1 r]
  cases r2 with
  | cons r3 r4 =>
    cases r4
    obtain ⟨u, rfl⟩ := r3
    exact call_maxD (I.ok.hd hc) hl.isList (by simpa using rv.ints) fun h' tk t k => ⟨.int _, H, I.kept (t' := tk) k, ⟨_, rfl⟩, q⟩
theorem ev_maxD {K : PySem.W.Frag} {te td : TE} {σ : L2.St} {H : Hp} {ns : List Int} {d : Int} (h : EvL te σ H (ns.map V.int)) (hd : ∀ H1, Ex H H1 → Ev td σ H1 (.int d)) : Ev (tCKw (rMaxD K) (tCons te tNil) (tCons td tNil)) σ H (.int (maxFrom none ns d)) := fun H1 e Q q =>
  h H1 e _ fun p H2 _ e2 hp => hd H2 (e.trans e2) H2 (Ex.refl _) _ fun H3 e3 => ⟨p, ns, d, rfl, rfl, sq_of (e3 _ _ hp), q H3 (e2.trans e3)⟩
theorem ev_max1 {K : PySem.W.Frag} {te : TE} {σ : L2.St} {H : Hp} {ns : List Int} {m : Int} (h : EvL te σ H (ns.map V.int)) (hm : m ∈ ns) (hu : ∀ y ∈ ns, y ≤ m) : Ev (tCB (rMax K) (tCons te tNil)) σ H (.int m) := fun H1 e Q q =>
  h H1 e _ fun p H2 _ e2 hp => ⟨p, ns, rfl, sq_of hp, List.length_pos_of_mem hm, fun k k1 k2 => by
    have : k = m := Int.le_antisymm (hu k k1) (k2 m hm)
    rw [this]
    exact q H2 e2⟩
end
end WL

set_option Elab.async false
set_option linter.all false
set_option maxRecDepth 100000
set_option maxHeartbeats 4000000
namespace WL
open PySem PySem.Spec PyProof.Rows L2 Evl
def But (p : Addr) (H H' : Hp) : Prop := ∀ b o, H b = some o → b ≠ p → H' b = some o
theorem But.refl (p : Addr) (H : Hp) : But p H H := fun _ _ h _ => h
theorem But.trans {p : Addr} {H H1 H2 : Hp} (a : But p H H1) (b : But p H1 H2) : But p H H2 := fun c o h n => b c o (a c o h n) n
theorem But.ex {p : Addr} {H H' : Hp} (e : Ex H H') : But p H H' := fun b o h _ => e b o h
theorem But.upd {p : Addr} {H H' : Hp} {o : HO} (a : But p H H') : But p H (upd H' p o) := fun b u h n => by rw [upd_ne n]; exact a b u h n
section
variable {K : PySem.W.Frag} {p a C dx : Addr} {fs : List (Str × V)} {H H' : Hp} {xs : List V}
theorem sqT_but (h : SqT K H a xs) (hp : H p = some (.ins C dx fs)) (b : But p H H') : SqT K H' a xs := by
  rcases h with (h | ⟨o, h⟩) | h
  · exact .inl (.inl (b a _ h (ne_of h hp (by intro q; cases q))))
  · exact .inl (.inr ⟨o, b a _ h (ne_of h hp (by intro q; cases q))⟩)
  · exact .inr h
theorem sqL_but (h : SqL K H a xs) (hp : H p = some (.ins C dx fs)) (b : But p H H') : SqL K H' a xs := by
  rcases h with (h | ⟨o, h⟩) | h
  · exact .inl (.inl (b a _ h (ne_of h hp (by intro q; cases q))))
  · exact .inl (.inr ⟨o, b a _ h (ne_of h hp (by intro q; cases q))⟩)
  · exact .inr h
theorem pfs_ne {w : Str} {tp tb ti tf : Addr} {d m : Nat} (h : fs.lookup ("most_names" : Str) = none) : pfs w tp tb ti tf d m ≠ fs := fun e => by
  have q := pfs_most (w := w) (tp := tp) (tb := tb) (ti := ti) (tf := tf) (d := d) (m := m)
  rw [e, h] at q
  cases q
theorem node_but {D : Addr} {w : Str} {ps bs : List Str} {is : List Addr} {fr : List Str} {d m : Nat} (h : Node K D H a w ps bs is fr d m) (hp : H p = some (.ins C dx fs)) (hn : fs.lookup ("most_names" : Str) = none ∨ C ≠ D) (b : But p H H') : Node K D H' a w ps bs is fr d m := by
  obtain ⟨dy, tp, tb, ti, tf, h1, h2, h3, h4, h5⟩ := h
  refine ⟨dy, tp, tb, ti, tf, b a _ h1 (ne_of h1 hp fun q => ?_), sqT_but h2 hp b, sqT_but h3 hp b, sqT_but h4 hp b, sqT_but h5 hp b⟩
  injection q with q1 q2 q3
  rcases hn with hn | hn
  · exact pfs_ne hn q3
  · exact hn q1.symm
theorem part_but {D : Addr} (hp : H p = some (.ins C dx fs)) (hn : fs.lookup ("most_names" : Str) = none ∨ C ≠ D) (b : But p H H') : ∀ {t : Ask} {a : Addr}, PartAt K D H a t → PartAt K D H' a t
  | .leaf _ _, _, h => node_but h hp hn b
  | .una _ _, _, ⟨c, h, i⟩ => ⟨c, node_but h hp hn b, part_but hp hn b i⟩
  | .bin _ _ _, _, ⟨c, d, h, i, j⟩ => ⟨c, d, node_but h hp hn b, part_but hp hn b i, part_but hp hn b j⟩
  | .qua _ _ _, _, ⟨c, h, i⟩ => ⟨c, node_but h hp hn b, part_but hp hn b i⟩
  | .rch _ _ _ _ _ _, _, ⟨c, h, i⟩ => ⟨c, node_but h hp hn b, part_but hp hn b i⟩
variable {σ : L2.St} {ta tv : TE} {y : V} {D : Ends} {tz : TS} {f : Str}
theorem s_fld (hv : Ev tv σ H y) (ha : ∀ H1, Ex H H1 → Ev ta σ H1 (.ref a)) (ho : H a = some (.ins C dx fs)) (hc : Cls K C) (hn : NoAttr K C f) (hl : fs.length < 1000) (k : ∀ H1, Ex H H1 → D.nx σ (upd H1 a (.ins C dx (putF f y fs)))) : sFld K ta tv f D σ H :=
  hv H (Ex.refl H) _ fun H1 e1 => ha H1 e1 H1 (Ex.refl H1) _ fun H2 e2 => ⟨a, C, dx, fs, rfl, (e1.trans e2) _ _ ho, hc, hn, hl, k H2 (e1.trans e2)⟩
theorem q_fld (hv : Ev tv σ H y) (ha : ∀ H1, Ex H H1 → Ev ta σ H1 (.ref a)) (ho : H a = some (.ins C dx fs)) (hc : Cls K C) (hn : NoAttr K C f) (hl : fs.length < 1000) (k : ∀ H1, Ex H H1 → tz D σ (upd H1 a (.ins C dx (putF f y fs)))) : tSeq (sFld K ta tv f) tz D σ H :=
  s_fld (D := { D with nx := tz D }) hv ha ho hc hn hl k
theorem q_fldU (hv : EvU tv σ H xs) (ha : ∀ H1, Ex H H1 → Ev ta σ H1 (.ref a)) (ho : H a = some (.ins C dx fs)) (hc : Cls K C) (hn : NoAttr K C f) (hl : fs.length < 1000)
    (k : ∀ r H1, H r = none → Ex H H1 → H1 r = some (.tup xs) → tz D σ (upd H1 a (.ins C dx (putF f (.ref r) fs)))) : tSeq (sFld K ta tv f) tz D σ H :=
  hv H (Ex.refl H) _ fun r H1 hr e1 h1 => ha H1 e1 H1 (Ex.refl H1) _ fun H2 e2 => ⟨a, C, dx, fs, rfl, (e1.trans e2) _ _ ho, hc, hn, hl, k r H2 hr (e1.trans e2) (e2 _ _ h1)⟩
theorem q_fldL (hv : EvL tv σ H xs) (ha : ∀ H1, Ex H H1 → Ev ta σ H1 (.ref a)) (ho : H a = some (.ins C dx fs)) (hc : Cls K C) (hn : NoAttr K C f) (hl : fs.length < 1000)
    (k : ∀ r H1, H r = none → Ex H H1 → H1 r = some (.lst xs) → tz D σ (upd H1 a (.ins C dx (putF f (.ref r) fs)))) : tSeq (sFld K ta tv f) tz D σ H :=
  hv H (Ex.refl H) _ fun r H1 hr e1 h1 => ha H1 e1 H1 (Ex.refl H1) _ fun H2 e2 => ⟨a, C, dx, fs, rfl, (e1.trans e2) _ _ ho, hc, hn, hl, k r H2 hr (e1.trans e2) (e2 _ _ h1)⟩
theorem eu_call {sp : Sp} {E : XK} {t : TA} {vs : List V} (h : EvA t σ H vs) (hs : ∀ H1, Ex H H1 → ∀ Q : VK, (∀ p H2, H1 p = none → Ex H1 H2 → H2 p = some (.tup xs) → Q (.ref p) H2) → ∀ E : XK, sp vs H1 Q E) : EvU (tCall sp [] E t) σ H xs := fun H1 e Q q =>
  h H1 e _ fun H2 e2 => by
    show sp (vs ++ []) H2 Q E
    rw [List.append_nil]
    exact hs H2 (e.trans e2) Q (fun p H3 hp e3 h3 => q p H3 (fresh_back e2 hp) (e2.trans e3) h3) E
end
theorem putF_len (f : Str) (v : V) : ∀ fs : List (Str × V), (putF f v fs).length ≤ fs.length + 1
  | [] => Nat.le_refl _
  | (g, x) :: r => by
    unfold putF
    split
    · exact Nat.le_succ _
    · exact Nat.succ_le_succ (putF_len f v r)
theorem put_lt {f : Str} {v : V} {fs : List (Str × V)} {n : Nat} (h : fs.length ≤ n) : (putF f v fs).length ≤ n + 1 := Nat.le_trans (putF_len f v fs) (Nat.succ_le_succ h)
end WL

set_option Elab.async false
set_option linter.all false
set_option maxRecDepth 100000
set_option maxHeartbeats 4000000
namespace WL
open PySem PySem.Spec PyProof.Rows L2 Evl
section
variable {K : PySem.W.Frag} {σ : L2.St} {H : Hp} {ta tb : TE}
theorem eq_catA {a b : Addr} {xs ys : List V} (ha : Ev ta σ H (.ref a)) (hb : Ev tb σ H (.ref b)) (h1 : SqT K H a xs) (h2 : SqT K H b ys) (hz : xs.length + ys.length ≤ 100000) : EvQ K (tOp (rCatA K) ta tb) σ H (xs ++ ys) := fun H1 e Q q =>
  ha H1 e _ fun H2 e2 => hb H2 (e.trans e2) _ fun H3 e3 => ⟨a, b, xs, ys, rfl, rfl, ex_t ((e.trans e2).trans e3) h1, ex_t ((e.trans e2).trans e3) h2, sz_of hz,
    fun z => by
      subst z
      exact q b H3 (e2.trans e3) (.inr (ex_t ((e.trans e2).trans e3) h2)),
    fun _ z => by
      subst z
      rw [List.append_nil] at q
      exact q a H3 (e2.trans e3) (.inr (ex_t ((e.trans e2).trans e3) h1)),
    fun _ _ p hp => q p _ ((e2.trans e3).trans (Ex.new hp)) (.inr (st_of upd_same))⟩
theorem el_cat {xs ys : List V} (ha : EvL ta σ H xs) (hb : EvL tb σ H ys) (hz : xs.length + ys.length ≤ 100000) : EvL (tOp rCat ta tb) σ H (xs ++ ys) := fun H1 e Q q =>
  ha H1 e _ fun p H2 _ e2 h2 => hb H2 (e.trans e2) _ fun r H3 _ e3 h3 => ⟨p, r, xs, ys, rfl, rfl, e3 _ _ h2, h3, sz_of hz, fun t ht => q t _ (fresh_back (e2.trans e3) ht) ((e2.trans e3).trans (Ex.new ht)) upd_same⟩
end
theorem el_catV {σ : L2.St} {H : Hp} {ta tb : TE} {l : Addr} {xs ys : List V} (ha : EvL ta σ H xs) (hb : ∀ H1, Ex H H1 → Ev tb σ H1 (.ref l)) (h : H l = some (.lst ys)) (hz : xs.length + ys.length ≤ 100000) : EvL (tOp rCat ta tb) σ H (xs ++ ys) := fun H1 e Q q =>
  ha H1 e _ fun p H2 _ e2 h2 => hb H2 (e.trans e2) H2 (Ex.refl _) _ fun H3 e3 => ⟨p, l, xs, ys, rfl, rfl, e3 _ _ h2, ((e.trans e2).trans e3) _ _ h, sz_of hz, fun t ht => q t _ (fresh_back (e2.trans e3) ht) ((e2.trans e3).trans (Ex.new ht)) upd_same⟩
theorem maxOf_le : ∀ {l : List Nat} {x : Nat}, x ∈ l → x ≤ maxOf l
  | y :: l, x, h => by
    unfold maxOf
    rcases List.mem_cons.mp h with e | e
    · rw [e]; exact Nat.le_max_left _ _
    · exact Nat.le_trans (maxOf_le e) (Nat.le_max_right _ _)
theorem maxOf_mem : ∀ {l : List Nat}, l ≠ [] → maxOf l ∈ l
  | [], h => absurd rfl h
  | [x], _ => by show max x 0 ∈ [x]; rw [Nat.max_zero]; exact List.mem_singleton.mpr rfl
  | x :: y :: l, _ => by
    show max x (maxOf (y :: l)) ∈ _
    have q := maxOf_mem (l := y :: l) (by simp)
    by_cases c : x ≤ maxOf (y :: l)
    · rw [Nat.max_eq_right c]; exact List.mem_cons_of_mem _ q
    · rw [Nat.max_eq_left (by omega)]; exact List.mem_cons_self
theorem maxFrom_nat : ∀ (l : List Nat) (m : Nat) (d : Int), maxFrom (some (m : Int)) (l.map fun (n : Nat) => (n : Int)) d = ((max m (maxOf l) : Nat) : Int)
  | [], m, d => by show (m : Int) = ((max m 0 : Nat) : Int); rw [Nat.max_zero]
  | x :: l, m, d => by
    show maxFrom (some (if (x : Int) > (m : Int) then (x : Int) else (m : Int))) _ d = _
    have q : (if (x : Int) > (m : Int) then (x : Int) else (m : Int)) = ((max m x : Nat) : Int) := by
      by_cases c : (x : Int) > (m : Int)
      · rw [if_pos c, Nat.max_eq_right (by omega)]
      · rw [if_neg c, Nat.max_eq_left (by omega)]
    rw [q, maxFrom_nat l]
    show _ = ((max m (max x (maxOf l)) : Nat) : Int)
    rw [Nat.max_assoc]
theorem maxFrom_all (l : List Nat) : maxFrom none (l.map fun (n : Nat) => (n : Int)) 0 = (maxOf l : Int) := by
  cases l with
  | nil => rfl
  | cons x l => exact maxFrom_nat l x 0
section
variable {P : Program} {w : World} {K : PySem.W.Frag} {mg : Str → Option Value} {base : Heap}
theorem scPart_Init : FnScope ["self", "word", "places", "bound", "inner", "held", "part"] ["self", "word", "places", "bound", "inner"] (defScope sPart_Init) := ⟨rfl, rfl, rfl, by decide +kernel, rfl, by decide +kernel, by decide +kernel⟩
def depthOf (its : List (Addr × Ask)) : Nat := 1 + maxOf (its.map fun i => i.2.depth)
def mostOf (ps bs : List Str) (its : List (Addr × Ask)) : Nat :=
  maxOf ((freeOf ps bs (its.map fun i => i.2.free)).length :: ((its.map fun i => (once (i.2.free ++ bs)).length) ++ its.map fun i => i.2.most))
theorem mostOf_is (ps bs : List Str) (its : List (Addr × Ask)) :
    ((mostOf ps bs its : Nat) : Int) ∈ (([(freeOf ps bs (its.map fun i => i.2.free)).length] ++ its.map fun i => (once (i.2.free ++ bs)).length) ++ its.map fun i => i.2.most).map (fun (n : Nat) => (n : Int)) ∧
    ∀ y ∈ (([(freeOf ps bs (its.map fun i => i.2.free)).length] ++ its.map fun i => (once (i.2.free ++ bs)).length) ++ its.map fun i => i.2.most).map (fun (n : Nat) => (n : Int)), y ≤ ((mostOf ps bs its : Nat) : Int) := by
  rw [List.append_assoc]
  constructor
  · exact List.mem_map.mpr ⟨_, maxOf_mem (l := (freeOf ps bs (its.map fun i => i.2.free)).length :: ((its.map fun i => (once (i.2.free ++ bs)).length) ++ its.map fun i => i.2.most)) (by simp), rfl⟩
  · intro y hy
    obtain ⟨n, hn, rfl⟩ := List.mem_map.mp hy
    have q := maxOf_le (l := (freeOf ps bs (its.map fun i => i.2.free)).length :: ((its.map fun i => (once (i.2.free ++ bs)).length) ++ its.map fun i => i.2.most)) hn
    show (n : Int) ≤ ((maxOf _ : Nat) : Int)
    omega
def spPartInit (K : PySem.W.Frag) (C : Addr) : Sp := fun vs H Q _ => ∃ (p dx : Addr) (wd : Str) (ap ab ai : Addr) (ps bs : List Str) (its : List (Addr × Ask)), vs = [.ref p, .str wd, .ref ap, .ref ab, .ref ai] ∧ H p = some (.ins C dx []) ∧
  SqT K H ap (ps.map V.str) ∧ SqT K H ab (bs.map V.str) ∧ SqT K H ai (its.map fun i => V.ref i.1) ∧ (∀ i ∈ its, PartAt K C H i.1 i.2) ∧ ps.length ≤ 1000 ∧ bs.length ≤ 1000 ∧ its.length ≤ 4 ∧ (∀ i ∈ its, i.2.free.length ≤ 500) ∧
  ∀ H', (∀ b o, H b = some o → b ≠ p → H' b = some o) → Node K C H' p wd ps bs (its.map (·.1)) (freeOf ps bs (its.map fun i => i.2.free)) (depthOf its) (mostOf ps bs its) → Q .non H'
theorem ok_partInit {f g C : Addr} {fd gd : FuncData} (F : Fun K "__init__" "Part.__init__" sPart_Init f fd) (T : TPt K mg C) (G : FVal P w K mg base "free_names" g gd 1 ["places", "bound", "inner"] (spFreeNames K C)) :
    FnOk P w K mg base CX0 2 f fd ["self", "word", "places", "bound", "inner"] (spPartInit K C) := by
  refine F.ok scPart_Init (fun vs H Q E h => ?_) (fun cdv A outer s H vs Q E hr h => ?_)
  · obtain ⟨p, dx, wd, ap, ab, ai, ps, bs, its, rfl, _⟩ := h
    rfl
  · obtain ⟨p, dx, wd, ap, ab, ai, ps, bs, its, rfl, hp, h1, h2, h3, hpt, n1, n2, n3, n4, k⟩ := h
    refine ⟨_, pss_cons (ps_fld (pv 0) (pv 1) rfl) (pss_cons (ps_fld (pv 0) (pv 2) rfl) (pss_cons (ps_fld (pv 0) (pv 3) rfl) (pss_cons (ps_fld (pv 0) (pv 4) rfl)
      (pss_cons (ps_fld (pv 0) (pe_call G.ok hr (by rfl) G.mg G.kp G.b .nil pass0 (pa_cons (pv 2) (pa_cons (pv 3) (pa_cons (pv 4) pa_nil)))) rfl)
      (pss_cons (ps_fld (pv 0) (pe_op op_add pe_int (pe_callBK (cr_maxD rfl) (by rfl) T.max (by decide +kernel) (pa_cons (pe_lc (own := [("part", 6)]) (g := gName 6) (tt := tYes) (te := tFld K (tVar 6) "depth") rfl scPart_Init.nd (pi_tup (pv 4)) (blkOk_by (N := ["self", "word", "places", "bound", "inner", "held", "part"]) (sc := defScope sPart_Init) (by decide +kernel))
          (fun _ _ _ _ _ => pg_name (i := 6) scPart_Init.nd rfl (Or.inl rfl)) (fun _ _ _ _ _ => pts_nil) (fun _ _ _ _ _ => pe_fld (pv 6) rfl)) pa_nil) (pk_cons pe_int pk_nil))) rfl)
      (pss_cons (ps_setLc (i := 5) (y := "held") (own := [("part", 6)]) (g := gName 6) (tt := tYes) (te := tCB (rLenSet P w) (tCons (tCB (rMkSet K P w) (tCons (tOp (rCatA K) (tFld K (tVar 6) "free") (tVar 3)) tNil)) tNil)) (by rfl) scPart_Init.nd rfl rfl (sw_true rfl rfl rfl (by decide +kernel)) (pi_tup (pv 4)) (blkOk_by (N := ["self", "word", "places", "bound", "inner", "held", "part"]) (sc := defScope sPart_Init) (by decide +kernel))
          (fun _ _ _ _ _ => pg_name (i := 6) scPart_Init.nd rfl (Or.inl rfl)) (fun _ _ _ _ _ => pts_nil) (fun _ _ _ _ _ => pe_callB cr_lenSet (by rfl) T.v.len PySem.boot_len (pa_cons (pe_callTy (cr_mkSet rfl) (by rfl) T.v.set (by decide +kernel) (pa_cons (pe_op op_catA (pe_fld (pv 6) rfl) (pv 3)) pa_nil)) pa_nil)))
      (pss_one (ps_fld (pv 0) (pe_callB (cr_max rfl) (by rfl) T.max (by decide +kernel) (pa_cons (pe_op op_cat (pe_op op_cat (pe_lst (pa_cons (pe_callB call_len_seq (by rfl) T.v.len PySem.boot_len (pa_cons (pe_fld (pv 0) rfl) pa_nil)) pa_nil)) (pv 5))
          (pe_lc (own := [("part", 6)]) (g := gName 6) (tt := tYes) (te := tFld K (tVar 6) "most_names") rfl scPart_Init.nd (pi_tup (pv 4)) (blkOk_by (N := ["self", "word", "places", "bound", "inner", "held", "part"]) (sc := defScope sPart_Init) (by decide +kernel))
            (fun _ _ _ _ _ => pg_name (i := 6) scPart_Init.nd rfl (Or.inl rfl)) (fun _ _ _ _ _ => pts_nil) (fun _ _ _ _ _ => pe_fld (pv 6) rfl))) pa_nil)) rfl)))))))), ?_⟩
    have ad : ∀ {H1 H2 : Hp} {fs : List (Str × V)}, But p H H1 → But p H (upd H1 p (.ins C dx fs)) := fun b => b.upd
    have self0 : ∀ (σ : L2.St) (H1 : Hp), σ[0]? = some (some (V.ref p)) → Ev (tVar 0) σ H1 (.ref p) := fun σ H1 h => ev_var h
    have sq : ∀ {H1 : Hp} {a : Addr} {xs : List V}, But p H H1 → SqT K H a xs → SqT K H1 a xs := fun b h => sqT_but h hp b
    have pts : ∀ {H1 : Hp}, But p H H1 → ∀ i ∈ its, PartAt K C H1 i.1 i.2 := fun b i hi => part_but hp (.inl rfl) b (hpt i hi)
    have g0 := hp
    have b0 := But.refl p H
    refine q_fld (ev_var rfl) (fun H1 _ => ev_var rfl) g0 T.cl T.nWord (by decide) fun H1 e1 => ?_
    have b1 := (b0.trans (But.ex e1)).upd (o := .ins C dx (putF "word" (.str wd) []))
    have g1 := upd_same (H := H1) (a := p) (o := .ins C dx (putF "word" (.str wd) []))
    generalize upd H1 p (.ins C dx (putF "word" (.str wd) [])) = G1 at b1 g1 ⊢
    refine q_fld (ev_var rfl) (fun H1 _ => ev_var rfl) g1 T.cl T.nPlaces (Nat.lt_of_le_of_lt (put_lt (Nat.zero_le 0)) (by decide)) fun H2 e2 => ?_
    have b2 := (b1.trans (But.ex e2)).upd (o := .ins C dx (putF "places" (.ref ap) (putF "word" (.str wd) [])))
    have g2 := upd_same (H := H2) (a := p) (o := .ins C dx (putF "places" (.ref ap) (putF "word" (.str wd) [])))
    generalize upd H2 p (.ins C dx (putF "places" (.ref ap) (putF "word" (.str wd) []))) = G2 at b2 g2 ⊢
    refine q_fld (ev_var rfl) (fun H1 _ => ev_var rfl) g2 T.cl T.nBound (Nat.lt_of_le_of_lt (put_lt (put_lt (Nat.zero_le 0))) (by decide)) fun H3 e3 => ?_
    have b3 := (b2.trans (But.ex e3)).upd (o := .ins C dx (putF "bound" (.ref ab) (putF "places" (.ref ap) (putF "word" (.str wd) []))))
    have g3 := upd_same (H := H3) (a := p) (o := .ins C dx (putF "bound" (.ref ab) (putF "places" (.ref ap) (putF "word" (.str wd) []))))
    generalize upd H3 p (.ins C dx (putF "bound" (.ref ab) (putF "places" (.ref ap) (putF "word" (.str wd) [])))) = G3 at b3 g3 ⊢
    refine q_fld (ev_var rfl) (fun H1 _ => ev_var rfl) g3 T.cl T.nInner (Nat.lt_of_le_of_lt (put_lt (put_lt (put_lt (Nat.zero_le 0)))) (by decide)) fun H4 e4 => ?_
    have b4 := (b3.trans (But.ex e4)).upd (o := .ins C dx (putF "inner" (.ref ai) (putF "bound" (.ref ab) (putF "places" (.ref ap) (putF "word" (.str wd) [])))))
    have g4 := upd_same (H := H4) (a := p) (o := .ins C dx (putF "inner" (.ref ai) (putF "bound" (.ref ab) (putF "places" (.ref ap) (putF "word" (.str wd) [])))))
    generalize upd H4 p (.ins C dx (putF "inner" (.ref ai) (putF "bound" (.ref ab) (putF "places" (.ref ap) (putF "word" (.str wd) []))))) = G4 at b4 g4 ⊢
    refine q_fldU (xs := (freeOf ps bs (its.map fun i => i.2.free)).map V.str) (eu_call (ea_cons (ev_var rfl) (ea_cons (ev_var rfl) (ea_cons (ev_var rfl) ea_nil))) fun H5 e5 Q' q' E' => ⟨ap, ab, ai, ps, bs, its, rfl, ex_t e5 (sq b4 h1), ex_t e5 (sq b4 h2), ex_t e5 (sq b4 h3), fun i hi => part_up e5 (pts b4 i hi), n1, n3, n4, fun r H6 hr6 e6 h6 => q' r H6 hr6 e6 h6⟩)
      (fun H1 _ => ev_var rfl) g4 T.cl T.nFree (Nat.lt_of_le_of_lt (put_lt (put_lt (put_lt (put_lt (Nat.zero_le 0))))) (by decide)) fun tf H5 hf0 e5 hf => ?_
    have ntf : tf ≠ p := fun z => by rw [z, g4] at hf0; cases hf0
    have b5 := (b4.trans (But.ex e5)).upd (o := .ins C dx (putF "free" (.ref tf) (putF "inner" (.ref ai) (putF "bound" (.ref ab) (putF "places" (.ref ap) (putF "word" (.str wd) []))))))
    have g5 := upd_same (H := H5) (a := p) (o := .ins C dx (putF "free" (.ref tf) (putF "inner" (.ref ai) (putF "bound" (.ref ab) (putF "places" (.ref ap) (putF "word" (.str wd) []))))))
    have f5 : (upd H5 p (.ins C dx (putF "free" (.ref tf) (putF "inner" (.ref ai) (putF "bound" (.ref ab) (putF "places" (.ref ap) (putF "word" (.str wd) []))))))) tf = some (.tup ((freeOf ps bs (its.map fun i => i.2.free)).map V.str)) := by rw [upd_ne ntf]; exact hf
    generalize upd H5 p (.ins C dx (putF "free" (.ref tf) (putF "inner" (.ref ai) (putF "bound" (.ref ab) (putF "places" (.ref ap) (putF "word" (.str wd) [])))))) = G5 at b5 g5 f5 ⊢
    have fld : ∀ (f : Str) (v : Ask → V) (σ : L2.St) (Ha : Hp), But p H Ha → σ = L2.start ["self", "word", "places", "bound", "inner", "held", "part"] [V.ref p, V.str wd, V.ref ap, V.ref ab, V.ref ai] ∨ (∃ x, σ = [some (.ref p), some (.str wd), some (.ref ap), some (.ref ab), some (.ref ai), some x, none]) →
        NoAttr K C f → (∀ t tp tb ti tg, (pfs (Ask.word t) tp tb ti tg t.depth t.most).lookup f = some (v t)) → EvL (tLc (iTup K (tVar 4)) (gName 6) tYes (tFld K (tVar 6) f) [6]) σ Ha (its.map fun i => v i.2) := by
      intro f v σ Ha ba hσ nf lk
      have q := el_lcA (σ := σ) (H := Ha) (as := its) (c := fun i => V.ref i.1) (j := 6) (vs := [6]) (t := tYes) (te := tFld K (tVar 6) f) (wi := iTup K (tVar 4)) (fun _ => true) (fun i => v i.2) (wi_tup (ev_var (by rcases hσ with rfl | ⟨x, rfl⟩ <;> rfl)) (sq ba h3)) walk_tupA (fun H6 e6 => ex_t e6 (sq ba h3)) (by omega)
        (by rcases hσ with rfl | ⟨x, rfl⟩ <;> exact fun _ => rfl) (fun c _ H6 _ H7 _ Q' q' => q' H7 (Ex.refl _)) (fun i hi H6 e6 _ => by
          obtain ⟨is, ⟨dy, tp, tb, ti, tg, g1, _⟩, _⟩ := part_node (part_up e6 (pts ba i hi))
          exact ev_fld (ev_var (by rcases hσ with rfl | ⟨x, rfl⟩ <;> rfl)) g1 T.cl nf (lk i.2 tp tb ti tg))
      rw [all_true] at q
      exact q
    have dep : EvL (tLc (iTup K (tVar 4)) (gName 6) tYes (tFld K (tVar 6) "depth") [6]) (L2.start ["self", "word", "places", "bound", "inner", "held", "part"] [V.ref p, V.str wd, V.ref ap, V.ref ab, V.ref ai]) G5 (((its.map fun i => i.2.depth).map fun (n : Nat) => (n : Int)).map V.int) := by
      have q := fld "depth" (fun t => .int (t.depth : Nat)) _ _ b5 (.inl rfl) T.nDepth (fun t tp tb ti tg => pfs_depth)
      rw [List.map_map, List.map_map]
      exact q
    refine q_fld (y := .int (1 + maxFrom none ((its.map fun i => i.2.depth).map fun (n : Nat) => (n : Int)) 0)) (ev_op ev_c (ev_maxD dep fun H1 _ => ev_c) rv_I0) (fun H1 _ => ev_var rfl) g5 T.cl T.nDepth (Nat.lt_of_le_of_lt (put_lt (put_lt (put_lt (put_lt (put_lt (Nat.zero_le 0)))))) (by decide)) fun H6 e6 => ?_
    rw [maxFrom_all]
    have ed : (1 + (maxOf (its.map fun i => i.2.depth) : Int)) = ((depthOf its : Nat) : Int) := by unfold depthOf; omega
    rw [ed]
    have b6 := (b5.trans (But.ex e6)).upd (o := .ins C dx (putF "depth" (V.int (depthOf its : Nat)) (putF "free" (.ref tf) (putF "inner" (.ref ai) (putF "bound" (.ref ab) (putF "places" (.ref ap) (putF "word" (.str wd) [])))))))
    have g6 := upd_same (H := H6) (a := p) (o := .ins C dx (putF "depth" (V.int (depthOf its : Nat)) (putF "free" (.ref tf) (putF "inner" (.ref ai) (putF "bound" (.ref ab) (putF "places" (.ref ap) (putF "word" (.str wd) [])))))))
    have f6 := (upd_ne (H := H6) (o := .ins C dx (putF "depth" (V.int (depthOf its : Nat)) (putF "free" (.ref tf) (putF "inner" (.ref ai) (putF "bound" (.ref ab) (putF "places" (.ref ap) (putF "word" (.str wd) []))))))) ntf).trans (e6 _ _ f5)
    generalize upd H6 p (.ins C dx (putF "depth" (V.int (depthOf its : Nat)) (putF "free" (.ref tf) (putF "inner" (.ref ai) (putF "bound" (.ref ab) (putF "places" (.ref ap) (putF "word" (.str wd) []))))))) = G6 at b6 g6 f6 ⊢
    have held : EvL (tLc (iTup K (tVar 4)) (gName 6) tYes (tCB (rLenSet P w) (tCons (tCB (rMkSet K P w) (tCons (tOp (rCatA K) (tFld K (tVar 6) "free") (tVar 3)) tNil)) tNil)) [6]) (L2.start ["self", "word", "places", "bound", "inner", "held", "part"] [V.ref p, V.str wd, V.ref ap, V.ref ab, V.ref ai]) G6
        (((its.map fun i => (once (i.2.free ++ bs)).length).map fun (n : Nat) => (n : Int)).map V.int) := by
      have q := el_lcA (σ := L2.start ["self", "word", "places", "bound", "inner", "held", "part"] [V.ref p, V.str wd, V.ref ap, V.ref ab, V.ref ai]) (as := its) (c := fun i => V.ref i.1) (j := 6) (vs := [6]) (t := tYes) (te := tCB (rLenSet P w) (tCons (tCB (rMkSet K P w) (tCons (tOp (rCatA K) (tFld K (tVar 6) "free") (tVar 3)) tNil)) tNil)) (wi := iTup K (tVar 4)) (fun _ => true)
        (fun i => .int ((once (i.2.free ++ bs)).length : Nat)) (wi_tup (ev_var rfl) (sq b6 h3)) walk_tupA (fun H6 e6 => ex_t e6 (sq b6 h3)) (by omega)
        (fun _ => rfl) (fun c _ H6 _ H7 _ Q' q' => q' H7 (Ex.refl _)) (fun i hi H7 e7 _ => by
          obtain ⟨is, ⟨dy, tp, tb, ti, tg, g1, _, _, _, g5⟩, _⟩ := part_node (part_up e7 (pts b6 i hi))
          have z := n4 i hi
          have cat := eq_catA (ev_fld (ta := tVar 6) (σ := (wipe (L2.start ["self", "word", "places", "bound", "inner", "held", "part"] [V.ref p, V.str wd, V.ref ap, V.ref ab, V.ref ai]) [6]).set 6 (some (V.ref i.1))) (ev_var rfl) g1 T.cl T.nFree pfs_free) (tb := tVar 3) (ev_var rfl) g5 (ex_t e7 (sq b6 h2)) (by rw [List.length_map, List.length_map]; omega)
          rw [← List.map_append] at cat
          exact ev_lenSet (es_set cat (by rw [List.length_append]; omega)))
      rw [all_true] at q
      rw [List.map_map, List.map_map]
      exact q
    refine q_asgL held fun l0 H7 hl0 e7 h7 => ?_
    have b7 := b6.trans (But.ex e7)
    have g7 := e7 _ _ g6
    have f7 := e7 _ _ f6
    have ms : EvL (tLc (iTup K (tVar 4)) (gName 6) tYes (tFld K (tVar 6) "most_names") [6]) ((L2.start ["self", "word", "places", "bound", "inner", "held", "part"] [V.ref p, V.str wd, V.ref ap, V.ref ab, V.ref ai]).set 5 (some (V.ref l0))) H7 (((its.map fun i => i.2.most).map fun (n : Nat) => (n : Int)).map V.int) := by
      have q := fld "most_names" (fun t => .int (t.most : Nat)) _ _ b7 (.inr ⟨.ref l0, rfl⟩) T.nMost (fun t tp tb ti tg => pfs_most)
      rw [List.map_map, List.map_map]
      exact q
    have lens : Ev (tCB (rLenS K) (tCons (tFld K (tVar 0) "free") tNil)) ((L2.start ["self", "word", "places", "bound", "inner", "held", "part"] [V.ref p, V.str wd, V.ref ap, V.ref ab, V.ref ai]).set 5 (some (V.ref l0))) H7 (.int ((freeOf ps bs (its.map fun i => i.2.free)).length : Nat)) := by
      have q := ev_lenQ (K := K) (eq_t (te := tFld K (tVar 0) "free") (σ := (L2.start ["self", "word", "places", "bound", "inner", "held", "part"] [V.ref p, V.str wd, V.ref ap, V.ref ab, V.ref ai]).set 5 (some (V.ref l0))) (ev_fld (ev_var rfl) g7 T.cl T.nFree (by simp only [lookup_putF]; rfl)) (st_of f7))
      rw [List.length_map] at q
      exact q
    have lst0 : EvL (tLst (tCons (tCB (rLenS K) (tCons (tFld K (tVar 0) "free") tNil)) tNil)) ((L2.start ["self", "word", "places", "bound", "inner", "held", "part"] [V.ref p, V.str wd, V.ref ap, V.ref ab, V.ref ai]).set 5 (some (V.ref l0))) H7
        (([(freeOf ps bs (its.map fun i => i.2.free)).length].map fun (n : Nat) => (n : Int)).map V.int) := el_lst (ea_cons lens ea_nil) (by show 1 ≤ 100000; decide)
    have c1 := el_catV lst0 (tb := tVar 5) (fun H8 _ => ev_var rfl) h7 (by simp only [List.length_map, List.length_cons, List.length_nil]; omega)
    have c2 := el_cat c1 ms (by simp only [List.length_append, List.length_map, List.length_cons, List.length_nil]; omega)
    rw [← List.map_append, ← List.map_append, ← List.map_append, ← List.map_append] at c2
    have hmost := mostOf_is ps bs its
    refine s_fld (y := .int (mostOf ps bs its : Nat)) (ev_max1 c2 (hmost.1) (hmost.2)) (fun H1 _ => ev_var rfl) g7 T.cl T.nMost (Nat.lt_of_le_of_lt (put_lt (put_lt (put_lt (put_lt (put_lt (put_lt (Nat.zero_le 0))))))) (by decide)) fun H8 e8 => ?_
    have b8 := b7.trans (But.ex e8)
    refine k _ (b8.upd (o := .ins C dx (pfs wd ap ab ai tf (depthOf its) (mostOf ps bs its)))) ⟨dx, ap, ab, ai, tf, upd_same, sq b8.upd h1, sq b8.upd h2, ?_, ?_⟩
    · rw [List.map_map]
      exact sq b8.upd h3
    · exact .inl (.inl (by rw [upd_ne ntf]; exact e8 _ _ f7))
end
end WL

set_option Elab.async false
set_option linter.all false
set_option maxRecDepth 100000
set_option maxHeartbeats 4000000
namespace WL
open PySem PySem.Spec PyProof.Rows L2 Evl
def baseShapes : List (Str × Int × Int × Int) := [("yes", 0, 0, 0), ("no", 0, 0, 0), ("same", 2, 0, 0), ("less", 2, 0, 0), ("not", 0, 0, 1), ("and", 0, 0, 2), ("or", 0, 0, 2), ("some", 0, 1, 1), ("every", 0, 1, 1), ("reach", 2, 2, 1)]
def entOf (w : World) (x : Str) (t : Tok) (a : Addr) : DictEntry := { hash := PyData.keyHash w.params x, key := .str x t, val := .ref a }
def ents (w : World) : List (Str × Int × Int × Int) → List (Tok × Addr) → List DictEntry
  | b :: bs, r :: rs => entOf w b.1 r.1 r.2 :: ents w bs rs
  | _, _ => []
def kvsOf : List (Str × Int × Int × Int) → List (Tok × Addr) → List (Key × V)
  | b :: bs, r :: rs => (.inr b.1, .ref r.2) :: kvsOf bs rs
  | _, _ => []
def vsOf : List (Str × Int × Int × Int) → List (Tok × Addr) → List (Key × Value)
  | b :: bs, r :: rs => (.inr b.1, .ref r.2) :: vsOf bs rs
  | _, _ => []
def T3 (K : PySem.W.Frag) (a : Addr) (x y z : Int) : Prop := ∃ (t u v : Tok) (n : Nat) (d : Option Addr) (sl : Array (Option Value)), K.lookup a = some ⟨.type "tuple", d, .seq #[.int x t, .int y u, .int z v] n, sl⟩
theorem T3.at {K : PySem.W.Frag} {a : Addr} {x y z : Int} (h : T3 K a x y z) (H : Hp) : SqT K H a [.int x, .int y, .int z] := by
  obtain ⟨t, u, v, n, d, sl, e⟩ := h
  exact .inr ⟨_, _, n, e, rfl, rfl, by show 3 ≤ sizeLine; decide, .cons ⟨t, rfl⟩ (.cons ⟨u, rfl⟩ (.cons ⟨v, rfl⟩ .nil))⟩
inductive AllT3 (K : PySem.W.Frag) : List (Str × Int × Int × Int) → List (Tok × Addr) → Prop
  | nil : AllT3 K [] []
  | cons {b : Str × Int × Int × Int} {r : Tok × Addr} {bs : List (Str × Int × Int × Int)} {rs : List (Tok × Addr)} : T3 K r.2 b.2.1 b.2.2.1 b.2.2.2 → AllT3 K bs rs → AllT3 K (b :: bs) (r :: rs)
def TShape (w : World) (K : PySem.W.Frag) (mg : Str → Option Value) : Prop := ∃ (a : Addr) (rs : List (Tok × Addr)) (n : Nat), mg "SHAPES" = some (.ref a) ∧ (a == sysModules) = false ∧
  K.lookup a = some { cls := .type "dict", data := .dict (ents w baseShapes rs).toArray n } ∧ AllT3 K baseShapes rs
section
variable {P : Program} {w : World} {K : PySem.W.Frag} {H H' : Hp}
theorem ents_pairs : ∀ {bs : List (Str × Int × Int × Int)} {rs : List (Tok × Addr)}, Pairs (mixKind P w) (ents w bs rs) (vsOf bs rs) ∧ (∀ e ∈ ents w bs rs, ∃ k, (mixKind P w).is k e.key = true ∧ e.hash = (mixKind P w).hash k) ∧ KV (kvsOf bs rs) (vsOf bs rs)
  | [], [] => ⟨.nil, (fun e h => nomatch h), .nil⟩
  | [], _ :: _ => ⟨.nil, (fun e h => nomatch h), .nil⟩
  | b :: bs, [] => ⟨.nil, (fun e h => nomatch h), .nil⟩
  | b :: bs, r :: rs => by
    obtain ⟨p, q, k⟩ := ents_pairs (bs := bs) (rs := rs)
    refine ⟨.cons (mixKind_str P w b.1 r.1) rfl p, fun e he => ?_, .cons ⟨rfl, rfl⟩ k⟩
    rcases List.mem_cons.mp he with z | z
    · rw [z]
      exact ⟨.inr b.1, mixKind_str P w b.1 r.1, rfl⟩
    · exact q e z
theorem vsOf_keys : ∀ {bs : List (Str × Int × Int × Int)} {rs : List (Tok × Addr)}, ((vsOf bs rs).map (·.1)).Sublist (bs.map fun b => (Sum.inr b.1 : Key))
  | [], rs => by cases rs <;> exact List.Sublist.slnil
  | b :: bs, [] => List.nil_sublist _
  | b :: bs, r :: rs => List.Sublist.cons_cons _ vsOf_keys
theorem kvsOf_len : ∀ {bs : List (Str × Int × Int × Int)} {rs : List (Tok × Addr)}, (kvsOf bs rs).length ≤ bs.length
  | [], rs => by cases rs <;> exact Nat.le_refl _
  | b :: bs, [] => Nat.zero_le _
  | b :: bs, r :: rs => Nat.succ_le_succ kvsOf_len
theorem base_nodup : (baseShapes.map fun b => (Sum.inr b.1 : Key)).Nodup := by decide +kernel
def rCopyW (w : World) (K : PySem.W.Frag) : List V → Hp → VK → Prop := fun xs H Q => ∃ (a : Addr) (rs : List (Tok × Addr)) (n : Nat), xs = [.ref a] ∧ (a == sysModules) = false ∧
  K.lookup a = some { cls := .type "dict", data := .dict (ents w baseShapes rs).toArray n } ∧ ∀ p, H p = none → Q (.ref p) (upd H p (.dK (kvsOf baseShapes rs)))
theorem cr_copyW {X : Cx} : CallR X (.type "dict") (rCopyW X.w X.K) := by
  intro pins s σ H xs us Q I r h
  obtain ⟨a, rs, n, rfl, ha, hk, q⟩ := h
  rw [Vals.ref1 r]
  obtain ⟨p1, p2, p3⟩ := ents_pairs (P := X.prog) (w := X.w) (bs := baseShapes) (rs := rs)
  have hl : (kvsOf baseShapes rs).length ≤ 10 := kvsOf_len
  have dd : s.heap.DictOf (mixKind X.prog X.w) a (vsOf baseShapes rs) := ⟨_, _, n, I.kIn a _ hk, ⟨rfl, rfl, rfl⟩, rfl, fun e he => p2 e (by simpa using he), p1, vsOf_keys.nodup base_nodup⟩
  have z : (kvsOf baseShapes rs).length ≤ sizeLine := Nat.le_trans hl (by decide)
  refine kt_call_dict ha dd (by rw [← p3.length]; exact z) fun h' dd' hs => ?_
  refine ⟨.ref _, upd H s.heap.objs.size (.dK (kvsOf baseShapes rs)), I.laid (a := s.heap.objs.size) (t' := s.toks) (fun b o e => ?_) (Nat.le_refl _) (dk_new z (beq_eq_false_iff_ne.mpr (Ne.symm (Nat.ne_of_lt I.big))) p3 dd'), rfl, q _ (I.hok.fresh (Nat.le_refl _))⟩
  exact (hs.2 b (Nat.ne_of_lt (Heap.lt_size e))).trans (Heap.get?_push_of_some _ e)

def shapeOf (ts : List (Addr × Str × Int)) (x : Str) : Option (Int × Int × Int) :=
  match ts.reverse.find? (fun t => decide (t.2.1 = x)) with
  | some t => some (t.2.2, 0, 0)
  | none => baseShapes.lookup x
theorem shapeOf_snoc (ts : List (Addr × Str × Int)) (t : Addr × Str × Int) (x : Str) : shapeOf (ts ++ [t]) x = if x = t.2.1 then some (t.2.2, 0, 0) else shapeOf ts x := by
  unfold shapeOf
  rw [List.reverse_append]
  show (match List.find? (fun t => decide (t.2.1 = x)) (t :: ts.reverse) with | some t => some (t.2.2, 0, 0) | none => baseShapes.lookup x) = _
  rw [List.find?_cons]
  by_cases h : x = t.2.1
  · rw [if_pos h, decide_eq_true h.symm]
  · rw [if_neg h, decide_eq_false (fun z => h z.symm)]
def ShapesAt (K : PySem.W.Frag) (H : Hp) (d : Addr) (ts : List (Addr × Str × Int)) : Prop := ∃ kvs : List (Key × V), H d = some (.dK kvs) ∧ kvs.length ≤ 10 + ts.length ∧
  ∀ x : Str, match shapeOf ts x with
    | some s => ∃ r, valV kvs (.inr x) = some (.ref r) ∧ SqT K H r [.int s.1, .int s.2.1, .int s.2.2]
    | none => valV kvs (.inr x) = none
theorem ShapesAt.up {d : Addr} {ts : List (Addr × Str × Int)} (e : Ex H H') (h : ShapesAt K H d ts) : ShapesAt K H' d ts := by
  obtain ⟨kvs, h1, hl, h2⟩ := h
  refine ⟨kvs, e _ _ h1, hl, fun x => ?_⟩
  have q := h2 x
  split at q
  · rename_i s hs
    obtain ⟨r, q1, q2⟩ := q
    exact ⟨r, q1, ex_t e q2⟩
  · exact q
theorem ShapesAt.but {p d C dx : Addr} {fs : List (Str × V)} {ts : List (Addr × Str × Int)} (hp : H p = some (.ins C dx fs)) (b : But p H H') (h : ShapesAt K H d ts) : ShapesAt K H' d ts := by
  obtain ⟨kvs, h1, hl, h2⟩ := h
  refine ⟨kvs, b _ _ h1 (ne_of h1 hp (by intro q; cases q)), hl, fun x => ?_⟩
  have q := h2 x
  split at q
  · rename_i s hs
    obtain ⟨r, q1, q2⟩ := q
    exact ⟨r, q1, sqT_but q2 hp b⟩
  · exact q
theorem base_val : ∀ {bs : List (Str × Int × Int × Int)} {rs : List (Tok × Addr)}, AllT3 K bs rs → ∀ x : Str, match bs.lookup x with
    | some s => ∃ r, valV (kvsOf bs rs) (.inr x) = some (.ref r) ∧ T3 K r s.1 s.2.1 s.2.2
    | none => valV (kvsOf bs rs) (.inr x) = none
  | [], [], _, x => rfl
  | b :: bs, r :: rs, .cons t a, x => by
    have ih := base_val a x
    rw [show (b :: bs).lookup x = (if x == b.1 then some b.2 else bs.lookup x) from by rw [List.lookup_cons]; split <;> simp_all]
    by_cases h : x = b.1
    · rw [if_pos (by rw [h]; exact beq_self_eq_true _)]
      exact ⟨r.2, valV_pos (by rw [h]), t⟩
    · rw [if_neg (by simpa using h)]
      have e : valV (kvsOf (b :: bs) (r :: rs)) (.inr x) = valV (kvsOf bs rs) (.inr x) := valV_neg fun q => h (Sum.inr.inj q).symm
      rw [e]
      exact ih
theorem shapes_base {d : Addr} {rs : List (Tok × Addr)} (a : AllT3 K baseShapes rs) (h : H d = some (.dK (kvsOf baseShapes rs))) : ShapesAt K H d [] := by
  refine ⟨_, h, kvsOf_len, fun x => ?_⟩
  have q := base_val a x
  show match baseShapes.lookup x with
    | some s => ∃ r, valV (kvsOf baseShapes rs) (.inr x) = some (.ref r) ∧ SqT K H r [.int s.1, .int s.2.1, .int s.2.2]
    | none => valV (kvsOf baseShapes rs) (.inr x) = none
  split
  · rename_i s hs
    rw [hs] at q
    obtain ⟨r, q1, q2⟩ := q
    exact ⟨r, q1, q2.at H⟩
  · rename_i hs
    rw [hs] at q
    exact q
theorem ShapesAt.dput {d t0 : Addr} {ts : List (Addr × Str × Int)} {t : Addr × Str × Int} (h : ShapesAt K H d ts) (e : Ex H H') (ht : SqT K H' t0 [.int t.2.2, .int 0, .int 0]) (hn : ts.length ≤ 900) :
    ∃ H2, DPut H' d (.str t.2.1) (.ref t0) H2 ∧ ShapesAt K H2 d (ts ++ [t]) ∧ (∀ b o, H' b = some o → b ≠ d → H2 b = some o) := by
  obtain ⟨kvs, h1, hl, h2⟩ := h
  have h1' := e _ _ h1
  refine ⟨upd H' d (.dK (putK kvs (.inr t.2.1) (.ref t0))), DPut.k (k := .inr t.2.1) h1' (small1000 (by omega)), ⟨_, upd_same, ?_, fun x => ?_⟩, fun b o hb n => by rw [upd_ne n]; exact hb⟩
  · have := length_putK kvs (.inr t.2.1) (.ref t0)
    rw [List.length_append, List.length_singleton]; omega
  · have nd : ∀ {a : Addr} {xs : List V}, SqT K H' a xs → SqT K (upd H' d (.dK (putK kvs (.inr t.2.1) (.ref t0)))) a xs := fun {a xs} z => by
      rcases z with (z | ⟨o, z⟩) | z
      · exact .inl (.inl (by rw [upd_ne (ne_of z h1' (by intro q; cases q))]; exact z))
      · exact .inl (.inr ⟨o, by rw [upd_ne (ne_of z h1' (by intro q; cases q))]; exact z⟩)
      · exact .inr z
    rw [shapeOf_snoc, valV_put]
    by_cases hx : x = t.2.1
    · rw [if_pos hx, if_pos (by rw [hx])]
      exact ⟨t0, rfl, nd ht⟩
    · rw [if_neg hx, if_neg (fun q => hx (Sum.inr.inj q))]
      have q := h2 x
      split
      · rename_i s hs
        rw [hs] at q
        obtain ⟨r, q1, q2⟩ := q
        exact ⟨r, q1, nd (ex_t e q2)⟩
      · rename_i hs
        rw [hs] at q
        exact q
end
end WL

set_option Elab.async false
set_option linter.all false
set_option maxRecDepth 100000
set_option maxHeartbeats 4000000
namespace WL
open PySem PySem.Spec PyProof.Rows L2 Evl
def rfs (l : Addr) (i : Nat) (d : Addr) : List (Str × V) := putF "shapes" (V.ref d) (putF "many_read" (V.int (i : Int)) (putF "words" (V.ref l) []))
theorem rfs_words {l d : Addr} {i : Nat} : (rfs l i d).lookup ("words" : Str) = some (V.ref l) := by
  unfold rfs; simp only [lookup_putF]; rfl
theorem rfs_read {l d : Addr} {i : Nat} : (rfs l i d).lookup ("many_read" : Str) = some (V.int (i : Int)) := by
  unfold rfs; simp only [lookup_putF]; rfl
theorem rfs_shapes {l d : Addr} {i : Nat} : (rfs l i d).lookup ("shapes" : Str) = some (V.ref d) := by
  unfold rfs; simp only [lookup_putF]; rfl
theorem rfs_next {l d : Addr} {i : Nat} : putF "many_read" (V.int ((i : Int) + 1)) (rfs l i d) = rfs l (i + 1) d := by
  unfold rfs
  rfl
theorem rfs_len {l d : Addr} {i : Nat} : (rfs l i d).length < 1000 := Nat.lt_of_le_of_lt (put_lt (put_lt (put_lt (Nat.zero_le 0)))) (by decide)
theorem rfs_no {l d : Addr} {i : Nat} {m : Str} (h1 : ¬ m = "shapes") (h2 : ¬ m = "many_read") (h3 : ¬ m = "words") : (rfs l i d).lookup m = none := by
  unfold rfs
  rw [lookup_putF, if_neg h1, lookup_putF, if_neg h2, lookup_putF, if_neg h3]
  rfl
structure TRd (w : World) (K : PySem.W.Frag) (mg : Str → Option Value) (C : Addr) : Prop where
  v : TV K mg
  sh : TShape w K mg
  cl : Cls K C
  nWords : NoAttr K C "words"
  nRead : NoAttr K C "many_read"
  nShapes : NoAttr K C "shapes"
  mgC : mg "Reader" = some (.ref C)
  dict : mg "dict" = none
  min : mg "min" = none
  words : ∃ t, mg "MOST_WORDS" = some (.int 100 t)
  deep : ∃ t, mg "MOST_DEEP" = some (.int 14 t)
  range : mg "range" = none
def RdAt (K : PySem.W.Frag) (C : Addr) (H : Hp) (p dx l d : Addr) (ws : List Str) (i : Nat) (ts : List (Addr × Str × Int)) : Prop :=
  H p = some (.ins C dx (rfs l i d)) ∧ H l = some (.lst (ws.map V.str)) ∧ ShapesAt K H d ts
section
variable {P : Program} {w : World} {K : PySem.W.Frag} {mg : Str → Option Value} {base : Heap}
theorem scReader_Init : FnScope ["self", "text", "tables", "name", "many"] ["self", "text", "tables"] (defScope sReader_Init) := ⟨rfl, rfl, rfl, by decide +kernel, rfl, by decide +kernel, by decide +kernel⟩
def spReaderInit (K : PySem.W.Frag) (C : Addr) : Sp := fun vs H Q _ => ∃ (p dx : Addr) (text : Str) (at_ : Addr) (ts : List (Addr × Str × Int)), vs = [.ref p, .str text, .ref at_] ∧ H p = some (.ins C dx []) ∧ TabsAt K H at_ ts ∧ ts.length ≤ 800 ∧ text.length ≤ 100000 ∧
  ∀ H' l d, But p H H' → RdAt K C H' p dx l d (Txt.split text " ") 0 ts → H l = none → H d = none → Q .non H'
theorem ok_readerInit {f C : Addr} {fd : FuncData} (F : Fun K "__init__" "Reader.__init__" sReader_Init f fd) (T : TRd w K mg C) : FnOk P w K mg base CX0 1 f fd ["self", "text", "tables"] (spReaderInit K C) := by
  refine F.ok scReader_Init (fun vs H Q E h => ?_) (fun cdv A outer s H vs Q E hr h => ?_)
  · obtain ⟨p, dx, text, at_, ts, rfl, _⟩ := h
    rfl
  · obtain ⟨p, dx, text, at_, ts, rfl, hp, hts, hn, hl, k⟩ := h
    obtain ⟨aS, rs, n, mS, nS, kS, tS⟩ := T.sh
    refine ⟨_, pss_cons (ps_fld (pv 0) (pe_split (pv 1) pe_str) rfl) (pss_cons (ps_fld (pv 0) pe_int rfl)
      (pss_cons (ps_fld (pv 0) (pe_callTy cr_copyW (by rfl) T.dict (by decide +kernel) (pa_cons (pe_glob (v := .ref aS) rfl mS rfl) pa_nil)) rfl)
      (pss_one (ps_for PassesOwn.never rfl (pi_tup (pv 2)) (pg_tup rfl (pgs_cons (pg_name (i := 3) scReader_Init.nd rfl (Or.inl rfl)) (pgs_cons (pg_name (i := 4) scReader_Init.nd rfl (Or.inl rfl)) pgs_nil)))
        (pss_one (ps_dput (hu_of hr) (pe_fld (pv 0) rfl) (pv 3) (pe_tup (pa_cons (pv 4) (pa_cons pe_int (pa_cons pe_int pa_nil)))) rfl)))))), ?_⟩
    have spl : EvL (tM1 (fun x xs H Q => ∃ a b, x = .str a ∧ xs = [.str b] ∧ (b.length == 0) = false ∧ a.length + 2 ≤ sizeLine ∧ rNewStrs (Txt.split a b) H Q) (tVar 1) (tC (.str " "))) (L2.start ["self", "text", "tables", "name", "many"] [V.ref p, V.str text, V.ref at_]) H ((Txt.split text " ").map V.str) := fun H1 e Q q =>
      ⟨.str text, rfl, ⟨text, rfl⟩, text, " ", rfl, rfl, rfl, by have := sizeLine_eq; omega, fun r hr => q r _ hr (Ex.new hr) upd_same⟩
    refine q_fldL spl (fun H1 _ => ev_var rfl) hp T.cl T.nWords (by decide) fun l H1 hl0 e1 h1 => ?_
    have nlp : l ≠ p := fun z => by rw [z, hp] at hl0; cases hl0
    have b1 := (But.ex e1).upd (p := p) (o := .ins C dx (putF "words" (.ref l) []))
    have g1 := upd_same (H := H1) (a := p) (o := .ins C dx (putF "words" (.ref l) []))
    have l1 := (upd_ne (H := H1) (o := .ins C dx (putF "words" (.ref l) [])) nlp).trans h1
    generalize upd H1 p (.ins C dx (putF "words" (.ref l) [])) = G1 at b1 g1 l1 ⊢
    refine q_fld (y := .int ((0 : Nat) : Int)) ev_c (fun H1 _ => ev_var rfl) g1 T.cl T.nRead (Nat.lt_of_le_of_lt (put_lt (Nat.zero_le 0)) (by decide)) fun H2 e2 => ?_
    have b2 := (b1.trans (But.ex e2)).upd (o := .ins C dx (putF "many_read" (V.int ((0 : Nat) : Int)) (putF "words" (.ref l) [])))
    have g2 := upd_same (H := H2) (a := p) (o := .ins C dx (putF "many_read" (V.int ((0 : Nat) : Int)) (putF "words" (.ref l) [])))
    have l2 := (upd_ne (H := H2) (o := .ins C dx (putF "many_read" (V.int ((0 : Nat) : Int)) (putF "words" (.ref l) []))) nlp).trans (e2 _ _ l1)
    generalize upd H2 p (.ins C dx (putF "many_read" (V.int ((0 : Nat) : Int)) (putF "words" (.ref l) []))) = G2 at b2 g2 l2 ⊢
    refine ⟨aS, rs, n, rfl, nS, kS, fun d hd => ?_⟩
    have ndp : d ≠ p := fun z => by rw [z, g2] at hd; cases hd
    have ndl : d ≠ l := fun z => by rw [z, l2] at hd; cases hd
    have e3 := Ex.new (o := HO.dK (kvsOf baseShapes rs)) hd
    refine ⟨_, rfl, p, C, dx, _, rfl, e3 _ _ g2, T.cl, T.nShapes, Nat.lt_of_le_of_lt (put_lt (put_lt (Nat.zero_le 0))) (by decide), ?_⟩
    have b3 := (b2.trans (But.ex e3)).upd (o := .ins C dx (rfs l 0 d))
    have g3 := upd_same (H := upd G2 d (.dK (kvsOf baseShapes rs))) (a := p) (o := .ins C dx (rfs l 0 d))
    have l3 := (upd_ne (H := upd G2 d (.dK (kvsOf baseShapes rs))) (o := .ins C dx (rfs l 0 d)) nlp).trans (e3 _ _ l2)
    have s3 : ShapesAt K (upd (upd G2 d (.dK (kvsOf baseShapes rs))) p (.ins C dx (rfs l 0 d))) d [] := shapes_base tS (by rw [upd_ne ndp, upd_same])
    dsimp only
    rw [show putF "shapes" (V.ref d) (putF "many_read" (V.int ((0 : Nat) : Int)) (putF "words" (V.ref l) [])) = rfs l 0 d from rfl]
    generalize upd (upd G2 d (.dK (kvsOf baseShapes rs))) p (.ins C dx (rfs l 0 d)) = G3 at b3 g3 l3 s3 ⊢
    have hd0 : H d = none := by
      cases q : H d with
      | none => rfl
      | some o => exact absurd (b2 d o q ndp) (by rw [hd]; intro z; cases z)
    have tabs : ∀ {H1 : Hp}, But p H H1 → TabsAt K H1 at_ ts := fun b => ⟨sqT_but hts.1 hp b, fun t ht => sqT_but (hts.2 t ht) hp b⟩
    refine s_forT (ev_var rfl) (tabs b3).1 (fun i σ' H' => ∃ y z, σ' = [some (.ref p), some (.str text), some (.ref at_), y, z] ∧ But p H H' ∧ H' p = some (.ins C dx (rfs l 0 d)) ∧ H' l = some (.lst ((Txt.split text " ").map V.str)) ∧ ShapesAt K H' d (ts.take i))
      (fun H4 e4 => ⟨none, none, rfl, b3.trans (But.ex e4), e4 _ _ g3, e4 _ _ l3, s3.up e4⟩) (fun i σ' H' _ hP => ?_) (fun i x σ' H' hx hP => ?_) (fun σ' H' hP => ?_)
    · obtain ⟨y, z, _, b, _⟩ := hP
      exact (tabs b).1
    · obtain ⟨y, z, rfl, b, gp, gl, sh⟩ := hP
      obtain ⟨t, ht, rfl⟩ := map_at hx
      refine g_pair ((tabs b).2 t (List.mem_of_getElem? ht)) ?_
      refine ⟨_, rfl, by show 3 ≤ sizeLine; decide, fun t0 ht0 => ?_⟩
      have e4 := Ex.new (o := HO.tup [.int t.2.2, .int 0, .int 0]) ht0
      obtain ⟨H5, put, s5, far⟩ := sh.dput (t := t) (t0 := t0) e4 (.inl (.inl upd_same)) (by rw [List.length_take]; omega)
      refine ⟨_, rfl, p, C, dx, _, _, rfl, e4 _ _ gp, T.cl, T.nShapes, rfs_shapes, _, rfl, d, H5, rfl, put, some (.str t.2.1), some (.int t.2.2), rfl, fun b' o hb' n' => ?_, far _ _ (e4 _ _ gp) ndp.symm, far _ _ (e4 _ _ gl) ndl.symm, ?_⟩
      · exact far _ _ (e4 _ _ (b b' o hb' n')) (fun z => by rw [z, hd0] at hb'; cases hb')
      · have tk : ts.take (i + 1) = ts.take i ++ [t] := by rw [List.take_add_one, ht]; rfl
        rw [tk]
        exact s5
    · obtain ⟨y, z, rfl, b, gp, gl, sh⟩ := hP
      rw [List.length_map, List.take_length] at sh
      exact k H' l d b ⟨gp, gl, sh⟩ hl0 hd0
end
end WL

set_option Elab.async false
set_option linter.all false
set_option maxRecDepth 100000
set_option maxHeartbeats 4000000
namespace WL
open PySem PySem.Spec PyProof.Rows L2 Evl
structure FMeth (P : Program) (w : World) (K : PySem.W.Frag) (mg : Str → Option Value) (base : Heap) (C : Addr) (x : Str) (f : Addr) (fd : FuncData) (k : Nat) (ps : List Str) (sp : Sp) : Prop where
  ok : FnOk P w K mg base CX0 k f fd ps sp
  m : Meth K C x f
  b : Binds K fd ps []
def nextW (ws : List Str) (i : Nat) : Str := if i = min ws.length 100 then "" else ws.getD i ""
section
variable {P : Program} {w : World} {K : PySem.W.Frag} {mg : Str → Option Value} {base : Heap}
theorem RdAt.up {C p dx l d : Addr} {H H' : Hp} {ws : List Str} {i : Nat} {ts : List (Addr × Str × Int)} (e : Ex H H') (h : RdAt K C H p dx l d ws i ts) : RdAt K C H' p dx l d ws i ts := by
  obtain ⟨h1, h2, h3⟩ := h
  exact ⟨e _ _ h1, e _ _ h2, h3.up e⟩
theorem scReader_NextWord : FnScope ["self"] ["self"] (defScope sReader_NextWord) := ⟨rfl, rfl, rfl, by decide +kernel, rfl, by decide +kernel, by decide +kernel⟩
def spNextWord (K : PySem.W.Frag) (C : Addr) : Sp := fun vs H Q _ => ∃ (p dx l d : Addr) (ws : List Str) (i : Nat) (ts : List (Addr × Str × Int)), vs = [.ref p] ∧ RdAt K C H p dx l d ws i ts ∧ i ≤ min ws.length 100 ∧ RetV (.str (nextW ws i)) H Q
theorem ok_nextWord {f C : Addr} {fd : FuncData} (F : Fun K "next_word" "Reader.next_word" sReader_NextWord f fd) (T : TRd w K mg C) : FnOk P w K mg base CX0 1 f fd ["self"] (spNextWord K C) := by
  refine F.ok scReader_NextWord (fun vs H Q E h => ?_) (fun cdv A outer s H vs Q E hr h => ?_)
  · obtain ⟨p, dx, l, d, ws, i, ts, rfl, _⟩ := h
    rfl
  · obtain ⟨p, dx, l, d, ws, i, ts, rfl, ⟨g1, g2, g3⟩, hi, k⟩ := h
    obtain ⟨t3, m3⟩ := T.words
    refine ⟨_, pss_cons (ps_if (pt_cmpR op_eq (pe_fld (pv 0) rfl) (pe_callB (call_min2 rfl) (by rfl) T.min (by decide +kernel) (pa_cons (pe_callB call_len_seq (by rfl) T.v.len PySem.boot_len (pa_cons (pe_fld (pv 0) rfl) pa_nil)) (pa_cons (pe_glob (v := .int 100) rfl m3 ⟨_, rfl⟩) pa_nil))) (nomark _))
        (pss_one (ps_ret pe_str)) pss_nil)
      (pss_one (ps_ret (pe_ix ix_list (pe_fld (pv 0) rfl) (pe_fld (pv 0) rfl) (fun _ _ => rfl)))), ?_⟩
    have hm : (if (100 : Int) < (((ws.map V.str).length : Nat) : Int) then (100 : Int) else (((ws.map V.str).length : Nat) : Int)) = ((min ws.length 100 : Nat) : Int) := by
      rw [List.length_map]
      by_cases c : (100 : Int) < ((ws.length : Nat) : Int)
      · rw [if_pos c, Nat.min_eq_right (by omega)]; rfl
      · rw [if_neg c, Nat.min_eq_left (by omega)]
    have emin : Ev (tCB (fun xs H Q => ∃ i j, xs = [V.int i, V.int j] ∧ Q (V.int (if j < i then j else i)) H) (tCons (tCB (rLenS K) (tCons (tFld K (tVar 0) "words") tNil)) (tCons (tC (V.int 100)) tNil))) (L2.start ["self"] [V.ref p]) H (.int ((min ws.length 100 : Nat) : Int)) := by
      rw [← hm]
      exact ev_cb (ea_cons (ev_lenQ (K := K) (eq_l (ev_fld (ev_var rfl) g1 T.cl T.nWords rfs_words) (sq_of g2))) (ea_cons ev_c ea_nil)) fun H1 _ Q q => ⟨_, _, rfl, q H1 (Ex.refl _)⟩
    have nw : nextW ws i = if decide ((i : Int) = ((min ws.length 100 : Nat) : Int)) = true then ("" : Str) else ws.getD i "" := by
      unfold nextW
      by_cases c : i = min ws.length 100
      · rw [if_pos c, if_pos (by rw [c]; exact decide_eq_true rfl)]
      · rw [if_neg c, if_neg (by intro z; exact c (Int.ofNat.inj (of_decide_eq_true z)))]
    refine q_when (b := decide ((i : Int) = ((min ws.length 100 : Nat) : Int))) (et_test (ev_is (ev_op (ev_fld (ev_var rfl) g1 T.cl T.nRead rfs_read) emin (rv_eq rfl)) (congrArg V.bl dec_int))) (fun hb H1 e => ?_) (fun hb H1 e => ?_)
    · refine s_ret ev_c fun H2 e2 => ?_
      rw [hb] at nw
      have q := k H2 (e.trans e2)
      rw [nw] at q
      exact q
    · rw [hb] at nw
      have lt : i < ws.length := by
        have z := of_decide_eq_false hb
        omega
      have at1 : (ws.map V.str)[i]? = some (V.str (ws.getD i "")) := by
        rw [List.getElem?_map, List.getD_eq_getElem?_getD, List.getElem?_eq_getElem lt]; rfl
      refine s_ret (ev_op (ev_fld (ev_var rfl) (e _ _ g1) T.cl T.nWords rfs_words) (ev_fld (ev_var rfl) (e _ _ g1) T.cl T.nRead rfs_read) (rv_ixL (sq_of (e _ _ g2)) (atI_nat at1))) fun H2 e2 => ?_
      have q := k H2 (e.trans e2)
      rw [nw] at q
      exact q
theorem scReader_Take : FnScope ["self", "fits"] ["self", "fits"] (defScope sReader_Take) := ⟨rfl, rfl, rfl, by decide +kernel, rfl, by decide +kernel, by decide +kernel⟩
def spTake (K : PySem.W.Frag) (C : Addr) : Sp := fun vs H Q _ => ∃ (p dx l d : Addr) (ws : List Str) (i : Nat) (ts : List (Addr × Str × Int)), vs = [.ref p, .bl true] ∧ RdAt K C H p dx l d ws i ts ∧ ∀ H', But p H H' → RdAt K C H' p dx l d ws (i + 1) ts → Q .non H'
theorem ok_take {f C : Addr} {fd : FuncData} (F : Fun K "take" "Reader.take" sReader_Take f fd) (T : TRd w K mg C) : FnOk P w K mg base CX0 1 f fd ["self", "fits"] (spTake K C) := by
  refine F.ok scReader_Take (fun vs H Q E h => ?_) (fun cdv A outer s H vs Q E hr h => ?_)
  · obtain ⟨p, dx, l, d, ws, i, ts, rfl, _⟩ := h
    rfl
  · obtain ⟨p, dx, l, d, ws, i, ts, rfl, ⟨g1, g2, g3⟩, k⟩ := h
    refine ⟨_, pss_cons (ps_if (pt_not (pt_val (pv 1))) (pss_one ps_never) pss_nil) (pss_one (ps_fldaug (pv 0) pe_int in_add)), ?_⟩
    refine q_when (b := false) (et_not (et_B (b := true) (ev_var rfl))) (fun hb => by cases hb) (fun hb H1 e => ?_)
    obtain ⟨g1, g2, g3⟩ : _ ∧ _ ∧ _ := ⟨e _ _ g1, e _ _ g2, g3.up e⟩
    refine ⟨_, rfl, p, C, dx, _, _, rfl, g1, T.cl, T.nRead, rfs_read, (i : Int), 1, rfl, rfl, dx, _, g1, rfs_len, ?_⟩
    have b2 : But p H (upd H1 p (.ins C dx (rfs l (i + 1) d))) := (But.ex e).upd
    refine k _ b2 ⟨upd_same, ?_, g3.but g1 (But.upd (But.refl p H1))⟩
    rw [upd_ne (ne_of g2 g1 (by intro q; cases q))]
    exact g2
theorem next_at {ws : List Str} {i : Nat} {x : Str} {r : List Str} (h : ws.drop i = x :: r) (h1 : i < 100) : nextW ws i = x ∧ i ≤ min ws.length 100 ∧ ws.drop (i + 1) = r := by
  have lt : i < ws.length := by
    rcases Nat.lt_or_ge i ws.length with c | c
    · exact c
    · rw [List.drop_eq_nil_of_le c] at h; cases h
  have e := List.drop_eq_getElem_cons lt
  rw [h] at e
  injection e with e1 e2
  refine ⟨?_, by omega, e2.symm⟩
  unfold nextW
  rw [if_neg (by omega), List.getD_eq_getElem?_getD, List.getElem?_eq_getElem lt, e1]
  rfl
theorem scReader_ReadPlace : FnScope ["self", "alive", "name"] ["self", "alive"] (defScope sReader_ReadPlace) := ⟨rfl, rfl, rfl, by decide +kernel, rfl, by decide +kernel, by decide +kernel⟩
def spReadPlace (K : PySem.W.Frag) (C : Addr) : Sp := fun vs H Q _ => ∃ (p al dx l d : Addr) (ws : List Str) (i : Nat) (ts : List (Addr × Str × Int)) (ns : List Str) (x : Str) (r : List Str), vs = [.ref p, .ref al] ∧ RdAt K C H p dx l d ws i ts ∧ SqT K H al (ns.map V.str) ∧ ws.drop i = x :: r ∧ i < 100 ∧
  inV (.str x) (ns.map V.str) = true ∧ ∀ H', But p H H' → RdAt K C H' p dx l d ws (i + 1) ts → Q (.str x) H'
theorem ok_readPlace {f C g1 g2 : Addr} {fd gd1 gd2 : FuncData} (F : Fun K "read_place" "Reader.read_place" sReader_ReadPlace f fd) (T : TRd w K mg C) (GN : FMeth P w K mg base C "next_word" g1 gd1 1 ["self"] (spNextWord K C)) (GT : FMeth P w K mg base C "take" g2 gd2 1 ["self", "fits"] (spTake K C)) :
    FnOk P w K mg base CX0 2 f fd ["self", "alive"] (spReadPlace K C) := by
  refine F.ok scReader_ReadPlace (fun vs H Q E h => ?_) (fun cdv A outer s H vs Q E hr h => ?_)
  · obtain ⟨p, al, dx, l, d, ws, i, ts, ns, x, r, rfl, _⟩ := h
    rfl
  · obtain ⟨p, al, dx, l, d, ws, i, ts, ns, x, r, rfl, rd, ha, hd, hi, hx, k⟩ := h
    refine ⟨_, pss_cons (ps_set (i := 2) scReader_ReadPlace.nd rfl (Or.inl rfl) (pe_meth0 (pv 0) T.cl GN.m GN.ok hr GN.b .nil pass0))
      (pss_cons (ps_expr (pe_meth (pv 0) T.cl GT.m GT.ok hr GT.b .nil pass0 (pa_cons (pe_cmpR op_in_seq (pv 2) (pv 1) rfl) pa_nil)))
      (pss_one (ps_ret (pv 2)))), ?_⟩
    obtain ⟨n1, n2, n3⟩ := next_at hd hi
    obtain ⟨h1, h2, h3⟩ := id rd
    refine ⟨_, rfl, p, dx, _, rfl, h1, rfs_no (by decide +kernel) (by decide +kernel) (by decide +kernel), p, dx, l, d, ws, i, ts, rfl, rd, n2, fun H1 e1 => ?_⟩
    rw [n1]
    have rd1 := rd.up e1
    refine ⟨_, rfl, p, dx, _, rfl, e1 _ _ h1, rfs_no (by decide +kernel) (by decide +kernel) (by decide +kernel), _, rfl, _, rfl, al, _, rfl, .inr (ex_t e1 ha), rfl, flat_strs _, ?_⟩
    rw [if_neg Bool.false_ne_true, hx]
    exact ⟨p, dx, l, d, ws, i, ts, rfl, rd1, fun H2 b2 r2 => ⟨_, rfl, k H2 ((But.ex e1).trans b2) r2⟩⟩
end
end WL

set_option Elab.async false
set_option linter.all false
set_option maxRecDepth 100000
set_option maxHeartbeats 4000000
namespace WL
open PySem PySem.Spec PyProof.Rows L2 Evl
theorem inV_mem {x : Str} {l : List Str} : inV (.str x) (l.map V.str) = true ↔ x ∈ l := by
  unfold inV
  rw [List.any_map, List.any_eq_true]
  constructor
  · rintro ⟨y, hy, e⟩
    have q : eqV (.str y) (.str x) = true ∨ eqV (.str x) (.str y) = true := by first | exact .inl e | exact .inr e
    have : x = y := by
      rcases q with q | q <;> simp [eqV] at q <;> first | exact q | exact q.symm
    rw [this]; exact hy
  · intro h
    exact ⟨x, h, by simp [eqV]⟩
theorem eq_catU {K : PySem.W.Frag} {σ : L2.St} {H : Hp} {ta tb : TE} {a : Addr} {xs ys : List V} (ha : ∀ H1, Ex H H1 → Ev ta σ H1 (.ref a)) (h1 : SqT K H a xs) (hb : EvU tb σ H ys) (hz : xs.length + ys.length ≤ 100000) : ∀ H1, Ex H H1 → ∀ Q : VK, (∀ p H2, Ex H1 H2 → SqT K H2 p (xs ++ ys) → Q (.ref p) H2) → tOp (rCatA K) ta tb σ H1 Q := fun H1 e Q q =>
  ha H1 e H1 (Ex.refl _) _ fun H2 e2 => hb H2 (e.trans e2) _ fun b H3 _ e3 h3 => ⟨a, b, xs, ys, rfl, rfl, ex_t ((e.trans e2).trans e3) h1, .inl (.inl h3), sz_of hz,
    (fun z => by
      subst z
      exact q b H3 (e2.trans e3) (.inl (.inl h3))),
    (fun _ z => by
      subst z
      rw [List.append_nil] at q
      exact q a H3 (e2.trans e3) (ex_t ((e.trans e2).trans e3) h1)),
    fun _ _ p hp => q p _ ((e2.trans e3).trans (Ex.new hp)) (.inl (.inl upd_same))⟩
section
variable {P : Program} {w : World} {K : PySem.W.Frag} {mg : Str → Option Value} {base : Heap}
theorem scReader_ReadBound : FnScope ["self", "many", "bound", "_", "name"] ["self", "many"] (defScope sReader_ReadBound) := ⟨rfl, rfl, rfl, by decide +kernel, rfl, by decide +kernel, by decide +kernel⟩
def spReadBound (K : PySem.W.Frag) (C : Addr) : Sp := fun vs H Q _ => ∃ (p dx l d : Addr) (ws : List Str) (i : Nat) (ts : List (Addr × Str × Int)) (bs r : List Str), vs = [.ref p, .int (bs.length : Nat)] ∧ RdAt K C H p dx l d ws i ts ∧ ws.drop i = bs ++ r ∧ i + bs.length ≤ 100 ∧
  bs.Nodup ∧ (∀ x ∈ bs, isName x = true ∧ shapeOf ts x = none ∧ x.length ≤ 20000) ∧ ∀ a H', But p H H' → RdAt K C H' p dx l d ws (i + bs.length) ts → SqT K H' a (bs.map V.str) → Q (.ref a) H'
theorem ok_readBound {f C g1 g2 g3 : Addr} {fd gd1 gd2 gd3 : FuncData} (F : Fun K "read_bound" "Reader.read_bound" sReader_ReadBound f fd) (T : TRd w K mg C) (GN : FMeth P w K mg base C "next_word" g1 gd1 1 ["self"] (spNextWord K C)) (GT : FMeth P w K mg base C "take" g2 gd2 1 ["self", "fits"] (spTake K C))
    (GI : FVal P w K mg base "is_name" g3 gd3 1 ["value"] spIsName) :
    FnOk P w K mg base CX0 2 f fd ["self", "many"] (spReadBound K C) := by
  refine F.ok scReader_ReadBound (fun vs H Q E h => ?_) (fun cdv A outer s H vs Q E hr h => ?_)
  · obtain ⟨p, dx, l, d, ws, i, ts, bs, r, rfl, _⟩ := h
    rfl
  · obtain ⟨p, dx, l, d, ws, i, ts, bs, r, rfl, rd, hd, hi, hn, hb, k⟩ := h
    refine ⟨_, pss_cons (ps_set (i := 2) scReader_ReadBound.nd rfl (Or.inl rfl) (pe_tup pa_nil))
      (pss_cons (ps_for PassesOwn.never rfl (pi_range1 (by rfl) T.range (pa_cons (pv 1) pa_nil)) (pg_name (i := 3) scReader_ReadBound.nd rfl (Or.inl rfl))
        (pss_cons (ps_set (i := 4) scReader_ReadBound.nd rfl (Or.inl rfl) (pe_meth0 (pv 0) T.cl GN.m GN.ok hr GN.b .nil pass0))
        (pss_cons (ps_expr (pe_meth (pv 0) T.cl GT.m GT.ok hr GT.b .nil pass0 (pa_cons (pe_and (pe_call GI.ok hr (by rfl) GI.mg GI.kp GI.b .nil pass0 (pa_cons (pv 4) pa_nil)) (pe_and (pe_cmp (pc_dnotin (hu_of hr) (pv 4) (pe_fld (pv 0) rfl)) rfl) (pe_one (pe_cmpR op_notIn_seq (pv 4) (pv 2) rfl)))) pa_nil)))
        (pss_one (ps_set (i := 2) scReader_ReadBound.nd rfl (Or.inl rfl) (pe_op op_catA (pv 2) (pe_tup (pa_cons (pv 4) pa_nil))))))))
      (pss_one (ps_ret (pv 2)))), ?_⟩
    refine ⟨Nat.zero_le _, fun t0 ht0 => ?_⟩
    have e0 := Ex.new (o := HO.tup []) ht0
    have hb3 : bs.length ≤ 100 := by omega
    refine q_forR1 (ea_cons (ev_var rfl) ea_nil) ⟨by omega, by omega⟩ (fun j σ' H' => ∃ tb y3 y4, σ' = [some (.ref p), some (.int (bs.length : Nat)), some (.ref tb), y3, y4] ∧ But p H H' ∧ RdAt K C H' p dx l d ws (i + j) ts ∧ SqT K H' tb ((bs.take j).map V.str))
      (fun H1 e1 => ⟨t0, none, none, rfl, But.ex (e0.trans e1), rd.up (e0.trans e1), ex_t e1 (.inl (.inl upd_same))⟩) (fun j σ' H' hj hP => ?_) (fun σ' H' hP => ?_)
    · obtain ⟨tb, y3, y4, rfl, b, rdj, htb⟩ := hP
      have hj' : j < bs.length := by omega
      have hx : bs[j]? = some bs[j] := List.getElem?_eq_getElem hj'
      generalize bs[j] = x at hx
      have xm := List.mem_of_getElem? hx
      obtain ⟨b1, b2, b3⟩ := hb x xm
      have dr : ws.drop (i + j) = x :: (bs.drop (j + 1) ++ r) := by
        rw [← List.drop_drop, hd, List.drop_append_of_le_length (by omega), List.drop_eq_getElem_cons hj', List.cons_append]
        congr 1
        rw [List.getElem?_eq_getElem hj'] at hx
        exact Option.some.inj hx
      obtain ⟨n1, n2, n3⟩ := next_at dr (by omega)
      obtain ⟨h1, h2, h3⟩ := id rdj
      refine ⟨_, rfl, p, dx, _, rfl, h1, rfs_no (by decide +kernel) (by decide +kernel) (by decide +kernel), p, dx, l, d, ws, i + j, ts, rfl, rdj, n2, fun H1 e1 => ?_⟩
      rw [n1]
      have rd1 := rdj.up e1
      obtain ⟨kvs, k1, k2, k3⟩ := h3.up e1
      have kx := k3 x
      rw [b2] at kx
      have nin : inV (.str x) ((bs.take j).map V.str) = false := by
        cases q : inV (.str x) ((bs.take j).map V.str) with
        | false => rfl
        | true =>
          exfalso
          obtain ⟨m, hm⟩ := List.mem_iff_getElem?.mp (inV_mem.mp q)
          rw [List.getElem?_take] at hm
          split at hm
          · exact absurd (nodup_ix hn hm hx) (by omega)
          · cases hm
      refine ⟨_, rfl, p, dx, _, rfl, e1 _ _ h1, rfs_no (by decide +kernel) (by decide +kernel) (by decide +kernel), ?_⟩
      refine ⟨_, rfl, x, rfl, b3, fun H2 e2 => ⟨_, rfl, ?_⟩⟩
      rw [b1]
      refine iteT ⟨_, rfl, _, rfl, p, C, dx, _, _, rfl, (e1.trans e2) _ _ h1, T.cl, T.nShapes, rfs_shapes, d, _, rfl, DGet.k (k := Sum.inr x) (e2 _ _ k1), ?_⟩
      rw [kx]
      refine ⟨_, rfl, iteT ⟨_, rfl, _, rfl, tb, _, rfl, .inr (ex_t (e1.trans e2) htb), rfl, flat_strs _, ?_⟩⟩
      rw [if_pos rfl, nin]
      refine ⟨p, dx, l, d, ws, i + j, ts, rfl, rd1.up e2, fun H3 c3 r3 => ?_⟩
      have b3' := (b.trans (But.ex (e1.trans e2))).trans c3
      have htb3 := sqT_but (ex_t (e1.trans e2) htb) ((e1.trans e2) _ _ h1) c3
      have new : EvU (tTup (tCons (tVar 4) tNil)) [some (V.ref p), some (V.int (bs.length : Nat)), some (V.ref tb), some (V.int ((j : Nat) : Int)), some (V.str x)] H3 [V.str x] := eu_tup (ea_cons (ev_var rfl) ea_nil) (by show 1 ≤ 100000; decide)
      refine eq_catU (K := K) (ta := tVar 2) (fun H4 _ => ev_var rfl) htb3 new (by rw [List.length_map, List.length_take]; show _ + 1 ≤ 100000; omega) H3 (Ex.refl _) _ fun t4 H4 e4 s4 => ?_
      have q4 : SqT K H4 t4 ((bs.take (j + 1)).map V.str) := by
        have tk : bs.take (j + 1) = bs.take j ++ [x] := by rw [List.take_add_one, hx]; rfl
        rw [tk, List.map_append]
        exact s4
      exact ⟨t4, _, _, rfl, b3'.trans (But.ex e4), r3.up e4, q4⟩
    · obtain ⟨tb, y3, y4, rfl, b, rdj, htb⟩ := hP
      have z : (((bs.length : Nat) : Int)).toNat = bs.length := by omega
      rw [z] at rdj htb
      rw [List.take_length] at htb
      exact ⟨_, rfl, k tb H' b rdj htb⟩
end
end WL

set_option Elab.async false
set_option linter.all false
set_option maxRecDepth 100000
set_option maxHeartbeats 4000000
namespace WL
open PySem PySem.Spec PyProof.Rows L2 Evl
theorem nil_all {α : Type} {p : α → Prop} : ∀ x ∈ ([] : List α), p x := fun _ h => absurd h List.not_mem_nil
theorem words_eq (t : Ask) : t.words = t.word :: (t.places ++ (t.bound ++ t.inner.flatMap Ask.words)) := by
  cases t <;> simp [Ask.words, Ask.word, Ask.places, Ask.bound, Ask.inner]
theorem free_eq (t : Ask) : t.free = freeOf t.places t.bound (t.inner.map Ask.free) := by
  cases t <;> simp [Ask.free, Ask.places, Ask.bound, Ask.inner]
theorem depth_eq (t : Ask) : t.depth = 1 + maxOf (t.inner.map Ask.depth) := by
  cases t <;> simp [Ask.depth, Ask.inner, maxOf]
theorem most_eq (t : Ask) : t.most = maxOf (t.free.length :: ((t.inner.map fun e => (once (e.free ++ t.bound)).length) ++ t.inner.map Ask.most)) := by
  cases t <;> simp [Ask.most, Ask.free, Ask.inner, Ask.bound, maxOf] <;> omega
def Wf (ts : List (Addr × Str × Int)) : List Str → Ask → Prop
  | ns, .leaf w ps => shapeOf ts w = some (((ps.length : Nat) : Int), 0, 0) ∧ ∀ x ∈ ps, x ∈ ns
  | ns, .una w e => shapeOf ts w = some (0, 0, 1) ∧ Wf ts ns e
  | ns, .bin w e f => shapeOf ts w = some (0, 0, 2) ∧ Wf ts ns e ∧ Wf ts ns f
  | ns, .qua w x e => shapeOf ts w = some (0, 1, 1) ∧ (isName x = true ∧ shapeOf ts x = none) ∧ Wf ts (ns ++ [x]) e
  | ns, .rch w u v x y e => shapeOf ts w = some (2, 2, 1) ∧ (u ∈ ns ∧ v ∈ ns) ∧ ((isName x = true ∧ shapeOf ts x = none) ∧ (isName y = true ∧ shapeOf ts y = none) ∧ x ≠ y) ∧ Wf ts (ns ++ [x, y]) e
theorem name_short {x : Str} (h : isName x = true) : x.length ≤ 6 := by
  unfold isName at h
  rw [Bool.and_eq_true, Bool.and_eq_true, Bool.and_eq_true] at h
  have := of_decide_eq_true h.1.1.2
  omega
theorem wf_unf {ts : List (Addr × Str × Int)} {ns : List Str} {t : Ask} (h : Wf ts ns t) : shapeOf ts t.word = some (((t.places.length : Nat) : Int), ((t.bound.length : Nat) : Int), ((t.inner.length : Nat) : Int)) ∧ (∀ x ∈ t.places, x ∈ ns) ∧ t.bound.Nodup ∧
    (∀ x ∈ t.bound, isName x = true ∧ shapeOf ts x = none ∧ x.length ≤ 20000) ∧ ∀ e ∈ t.inner, Wf ts (ns ++ t.bound) e := by
  cases t with
  | leaf w ps => exact ⟨h.1, h.2, List.nodup_nil, nil_all, nil_all⟩
  | una w e => exact ⟨h.1, nil_all, List.nodup_nil, nil_all, fun e' z => by rw [List.mem_singleton.mp z, show (Ask.una w e).bound = [] from rfl, List.append_nil]; exact h.2⟩
  | bin w e f =>
    refine ⟨h.1, nil_all, List.nodup_nil, nil_all, fun e' z => ?_⟩
    · rw [show (Ask.bin w e f).bound = [] from rfl, List.append_nil]
      rcases List.mem_cons.mp z with z | z
      · rw [z]; exact h.2.1
      · rw [List.mem_singleton.mp z]; exact h.2.2
  | qua w x e =>
    refine ⟨h.1, nil_all, List.nodup_cons.mpr ⟨List.not_mem_nil, List.nodup_nil⟩, fun y z => ?_, fun e' z => ?_⟩
    · rw [List.mem_singleton.mp z]
      exact ⟨h.2.1.1, h.2.1.2, Nat.le_trans (name_short h.2.1.1) (by decide)⟩
    · rw [List.mem_singleton.mp z]
      exact h.2.2
  | rch w u v x y e =>
    refine ⟨h.1, fun z hz => ?_, List.nodup_cons.mpr ⟨fun z => h.2.2.1.2.2 (List.mem_singleton.mp z), List.nodup_cons.mpr ⟨List.not_mem_nil, List.nodup_nil⟩⟩, fun z hz => ?_, fun e' z => ?_⟩
    · rcases List.mem_cons.mp hz with z | z
      · rw [z]; exact h.2.1.1
      · rw [List.mem_singleton.mp z]; exact h.2.1.2
    · rcases List.mem_cons.mp hz with q | q
      · rw [q]; exact ⟨h.2.2.1.1.1, h.2.2.1.1.2, Nat.le_trans (name_short h.2.2.1.1.1) (by decide)⟩
      · rw [List.mem_singleton.mp q]; exact ⟨h.2.2.1.2.1.1, h.2.2.1.2.1.2, Nat.le_trans (name_short h.2.2.1.2.1.1) (by decide)⟩
    · rw [List.mem_singleton.mp z]
      exact h.2.2.2
theorem srt_le (l : List Str) : (srt l).length ≤ l.length := by rw [srt_len]; exact once_le l
theorem flat_le {f : Ask → List Str} {g : List Str → List Str} (hg : ∀ l, (g l).length ≤ l.length) : ∀ l : List Ask, (∀ e ∈ l, (f e).length ≤ e.words.length) → ((l.map f).flatMap g).length ≤ (l.flatMap Ask.words).length
  | [], _ => Nat.le_refl _
  | e :: l, h => by
    rw [List.map_cons, List.flatMap_cons, List.flatMap_cons, List.length_append, List.length_append]
    have a := hg (f e)
    have b := h e List.mem_cons_self
    have c := flat_le hg l fun e he => h e (List.mem_cons_of_mem _ he)
    omega
theorem free_len : ∀ t : Ask, t.free.length ≤ t.words.length := by
  have key : ∀ t : Ask, (∀ e ∈ t.inner, e.free.length ≤ e.words.length) → t.free.length ≤ t.words.length := fun t h => by
    rw [free_eq, words_eq]
    refine Nat.le_trans (srt_le _) ?_
    rw [List.length_append, List.length_cons, List.length_append, List.length_append]
    have a := List.length_filter_le (fun n => !inV (.str n) (changedS.map V.str)) t.places
    have b := flat_le (f := Ask.free) (g := fun f => f.filter fun n => !inV (.str n) (t.bound.map V.str)) (fun l => List.length_filter_le _ l) t.inner h
    omega
  intro t
  induction t with
  | leaf w ps => exact key _ nil_all
  | una w e ih =>
    refine key _ fun e' z => ?_
    rw [List.mem_singleton.mp z]; exact ih
  | bin w e f ih ih2 =>
    refine key _ fun e' z => ?_
    rcases List.mem_cons.mp z with z | z
    · rw [z]; exact ih
    · rw [List.mem_singleton.mp z]; exact ih2
  | qua w x e ih =>
    refine key _ fun e' z => ?_
    rw [List.mem_singleton.mp z]; exact ih
  | rch w u v x y e ih =>
    refine key _ fun e' z => ?_
    rw [List.mem_singleton.mp z]; exact ih
theorem inner_le (t : Ask) : t.inner.length ≤ 2 := by cases t <;> simp [Ask.inner]
theorem part_of {K : PySem.W.Frag} {C : Addr} {H : Hp} {a : Addr} {t : Ask} {its : List (Addr × Ask)} (hi : its.map (·.2) = t.inner) (hn : Node K C H a t.word t.places t.bound (its.map (·.1)) t.free t.depth t.most) (hp : ∀ i ∈ its, PartAt K C H i.1 i.2) : PartAt K C H a t := by
  cases t with
  | leaf w ps =>
    have e : its = [] := List.map_eq_nil_iff.mp hi
    rw [e] at hn
    exact hn
  | una w e =>
    match its, hi, hn, hp with
    | [i], hi, hn, hp =>
      have q : i.2 = e := (List.cons.inj hi).1
      exact ⟨i.1, hn, by rw [← q]; exact hp i List.mem_cons_self⟩
  | bin w e f =>
    match its, hi, hn, hp with
    | [i, j], hi, hn, hp =>
      have q : i.2 = e := (List.cons.inj hi).1
      have q2 : j.2 = f := (List.cons.inj (List.cons.inj hi).2).1
      exact ⟨i.1, j.1, hn, by rw [← q]; exact hp i List.mem_cons_self, by rw [← q2]; exact hp j (List.mem_cons_of_mem _ List.mem_cons_self)⟩
  | qua w x e =>
    match its, hi, hn, hp with
    | [i], hi, hn, hp =>
      have q : i.2 = e := (List.cons.inj hi).1
      exact ⟨i.1, hn, by rw [← q]; exact hp i List.mem_cons_self⟩
  | rch w u v x y e =>
    match its, hi, hn, hp with
    | [i], hi, hn, hp =>
      have q : i.2 = e := (List.cons.inj hi).1
      exact ⟨i.1, hn, by rw [← q]; exact hp i List.mem_cons_self⟩
theorem inner_depth {t e : Ask} (h : e ∈ t.inner) : e.depth + 1 ≤ t.depth := by
  rw [depth_eq t]
  have := maxOf_le (List.mem_map.mpr ⟨e, h, rfl⟩ : e.depth ∈ t.inner.map Ask.depth)
  omega
theorem eq_catTT {K : PySem.W.Frag} {σ : L2.St} {H : Hp} {ta tb : TE} {a b : Addr} {xs ys : List V} (ha : ∀ H1, Ex H H1 → Ev ta σ H1 (.ref a)) (hb : ∀ H1, Ex H H1 → Ev tb σ H1 (.ref b)) (h1 : SqT K H a xs) (h2 : SqT K H b ys) (hz : xs.length + ys.length ≤ 100000) : ∀ H1, Ex H H1 → ∀ Q : VK, (∀ p H2, Ex H1 H2 → SqT K H2 p (xs ++ ys) → Q (.ref p) H2) → tOp (rCatA K) ta tb σ H1 Q := fun H1 e Q q =>
  ha H1 e H1 (Ex.refl _) _ fun H2 e2 => hb H2 (e.trans e2) H2 (Ex.refl _) _ fun H3 e3 => ⟨a, b, xs, ys, rfl, rfl, ex_t ((e.trans e2).trans e3) h1, ex_t ((e.trans e2).trans e3) h2, sz_of hz,
    (fun z => by
      subst z
      exact q b H3 (e2.trans e3) (ex_t ((e.trans e2).trans e3) h2)),
    (fun _ z => by
      subst z
      rw [List.append_nil] at q
      exact q a H3 (e2.trans e3) (ex_t ((e.trans e2).trans e3) h1)),
    fun _ _ p hp => q p _ ((e2.trans e3).trans (Ex.new hp)) (.inl (.inl upd_same))⟩
end WL

set_option Elab.async false
set_option linter.all false
set_option maxRecDepth 100000
set_option maxHeartbeats 4000000
namespace WL
open PySem PySem.Spec PyProof.Rows L2 Evl
section
variable {P : Program} {w : World} {K : PySem.W.Frag} {mg : Str → Option Value} {base : Heap}
theorem w10 {σ : L2.St} {j : Nat} (x : V) : wipe ((wipe σ [j]).set j (some x)) [j] = wipe σ [j] := by
  show ((σ.set j none).set j (some x)).set j none = σ.set j none
  rw [List.set_set, List.set_set]
theorem at10 {σ : L2.St} {j i : Nat} {x v : V} (h : σ[i]? = some (some v)) (n : j ≠ i) : ((wipe σ [j]).set j (some x))[i]? = some (some v) := by
  show ((σ.set j none).set j (some x))[i]? = some (some v)
  rw [List.getElem?_set_ne n, List.getElem?_set_ne n]
  exact h
theorem ShapesAt.mut {H H' : Hp} {d D : Addr} {o : HO} {ts : List (Addr × Str × Int)} {xs : List V} (h : ShapesAt K H' d ts) (hD : H' D = some (.lst xs)) : ShapesAt K (upd H' D o) d ts := by
  obtain ⟨kvs, h1, hl, h2⟩ := h
  refine ⟨kvs, by rw [upd_ne (ne_of h1 hD (by intro q; cases q))]; exact h1, hl, fun x => ?_⟩
  have q := h2 x
  split at q
  · obtain ⟨r, q1, q2⟩ := q
    refine ⟨r, q1, ?_⟩
    rcases q2 with (z | ⟨o', z⟩) | z
    · exact .inl (.inl (by rw [upd_ne (ne_of z hD (by intro q; cases q))]; exact z))
    · exact .inl (.inr ⟨o', by rw [upd_ne (ne_of z hD (by intro q; cases q))]; exact z⟩)
    · exact .inr z
  · exact q
theorem RdAt.mut {C p dx l d D : Addr} {H' : Hp} {ws : List Str} {i : Nat} {ts : List (Addr × Str × Int)} {xs ys : List V} (h : RdAt K C H' p dx l d ws i ts) (hD : H' D = some (.lst xs)) (n : D ≠ l) : RdAt K C (upd H' D (.lst ys)) p dx l d ws i ts := by
  obtain ⟨h1, h2, h3⟩ := h
  exact ⟨by rw [upd_ne (ne_of h1 hD (by intro q; cases q))]; exact h1, by rw [upd_ne n.symm]; exact h2, h3.mut (H := H') hD⟩
theorem sqT_mut {D a : Addr} {H' : Hp} {o : HO} {xs ys : List V} (h : SqT K H' a xs) (hD : H' D = some (.lst ys)) : SqT K (upd H' D o) a xs := by
  rcases h with (z | ⟨o', z⟩) | z
  · exact .inl (.inl (by rw [upd_ne (ne_of z hD (by intro q; cases q))]; exact z))
  · exact .inl (.inr ⟨o', by rw [upd_ne (ne_of z hD (by intro q; cases q))]; exact z⟩)
  · exact .inr z
theorem node_mut {C D a : Addr} {H' : Hp} {o : HO} {xs : List V} {wd : Str} {ps bs : List Str} {is : List Addr} {fr : List Str} {d m : Nat} (h : Node K C H' a wd ps bs is fr d m) (hD : H' D = some (.lst xs)) : Node K C (upd H' D o) a wd ps bs is fr d m := by
  obtain ⟨dy, tp, tb, ti, tf, h1, h2, h3, h4, h5⟩ := h
  exact ⟨dy, tp, tb, ti, tf, by rw [upd_ne (ne_of h1 hD (by intro q; cases q))]; exact h1, sqT_mut h2 hD, sqT_mut h3 hD, sqT_mut h4 hD, sqT_mut h5 hD⟩
theorem part_mut {C D : Addr} {H' : Hp} {o : HO} {xs : List V} (hD : H' D = some (.lst xs)) : ∀ {t : Ask} {a : Addr}, PartAt K C H' a t → PartAt K C (upd H' D o) a t
  | .leaf _ _, _, h => node_mut h hD
  | .una _ _, _, ⟨c, h, i⟩ => ⟨c, node_mut h hD, part_mut hD i⟩
  | .bin _ _ _, _, ⟨c, d, h, i, j⟩ => ⟨c, d, node_mut h hD, part_mut hD i, part_mut hD j⟩
  | .qua _ _ _, _, ⟨c, h, i⟩ => ⟨c, node_mut h hD, part_mut hD i⟩
  | .rch _ _ _ _ _ _, _, ⟨c, h, i⟩ => ⟨c, node_mut h hD, part_mut hD i⟩
theorem comp_places {C p al dx l d : Addr} {ws ps r : List Str} {i : Nat} {ts : List (Addr × Str × Int)} {ns : List Str} {σ : L2.St} {H : Hp} {Q : VK} (s0 : σ[0]? = some (some (.ref p))) (s1 : σ[1]? = some (some (.ref al))) (s4 : σ[4]? = some (some (.int (ps.length : Nat))))
    (rd : RdAt K C H p dx l d ws i ts) (hal : SqT K H al (ns.map V.str)) (hd : ws.drop i = ps ++ r) (hi : i + ps.length ≤ 100) (hp : ∀ x ∈ ps, x ∈ ns)
    (k : ∀ D H', H D = none → But p H H' → RdAt K C H' p dx l d ws (i + ps.length) ts → H' D = some (.lst (ps.map V.str)) → Q (.ref D) H') :
    tLc (iRng1 (tCons (tVar 4) tNil)) (gName 10) tYes (tMeth C "read_place" (spReadPlace K C) [] E0 (tVar 0) (tCons (tVar 1) tNil)) [10] σ H Q := by
  obtain ⟨g0, gl, _⟩ := id rd
  refine ⟨_, s4, ((ps.length : Nat) : Int), rfl, by omega, by omega, fun D hD => ?_⟩
  have nD : D ≠ p := fun z => by rw [z, g0] at hD; cases hD
  have nl : D ≠ l := fun z => by rw [z, gl] at hD; cases hD
  refine lc_range (lo := 0) (n := ps.length) (fun m H' => But p H H' ∧ RdAt K C H' p dx l d ws (i + m) ts ∧ H' D = some (.lst ((ps.take m).map V.str))) ⟨But.ex (Ex.new hD), rd.up (Ex.new hD), upd_same⟩ (fun m H' hm hP => ?_) (fun H' hP => ?_)
  · obtain ⟨b, rdm, hl⟩ := hP
    refine ⟨w10 _, ?_⟩
    unfold tYes
    dsimp only
    rw [if_pos rfl]
    obtain ⟨g1, g2, g3⟩ := id rdm
    have dr : ws.drop (i + m) = ps[m] :: (ps.drop (m + 1) ++ r) := by
      rw [← List.drop_drop, hd, List.drop_append_of_le_length (by omega), List.drop_eq_getElem_cons hm, List.cons_append]
    refine ⟨_, at10 s0 (by decide), p, dx, _, rfl, g1, rfs_no (by decide +kernel) (by decide +kernel) (by decide +kernel), _, at10 s1 (by decide), p, al, dx, l, d, ws, i + m, ts, ns, ps[m], _, rfl, rdm, sqT_but hal g0 b, dr, by omega, inV_mem.mpr (hp _ (List.getElem_mem hm)), fun H2 b2 r2 => ?_⟩
    have hl2 := b2 _ _ hl nD
    refine ⟨_, hl2, small1000 (by rw [List.length_map, List.length_take]; omega), fun a o ha na => ?_, r2.mut hl2 nl, ?_⟩
    · rw [upd_ne (fun z => by rw [z, hD] at ha; cases ha)]
      exact b2 _ _ (b a o ha na) na
    · rw [upd_same, List.take_add_one, List.getElem?_eq_getElem hm]
      simp only [List.map_append]
      rfl
  · obtain ⟨b, rdm, hl⟩ := hP
    rw [List.take_length] at hl
    exact k D H' hD b rdm hl
def spReadPart (K : PySem.W.Frag) (C CP : Addr) (n : Nat) : Sp := fun vs H Q _ => ∃ (p al dx l d : Addr) (dp : Nat) (ws : List Str) (i : Nat) (ts : List (Addr × Str × Int)) (ns : List Str) (t : Ask) (r : List Str), vs = [.ref p, .ref al, .int (dp : Nat)] ∧ RdAt K C H p dx l d ws i ts ∧ SqT K H al (ns.map V.str) ∧
  ws.drop i = t.words ++ r ∧ i + t.words.length ≤ 100 ∧ t.depth ≤ n ∧ dp + t.depth ≤ 14 ∧ ns.length + 2 * t.depth ≤ 1000 ∧ Wf ts ns t ∧
  ∀ a H', But p H H' → RdAt K C H' p dx l d ws (i + t.words.length) ts → PartAt K CP H' a t → Q (.ref a) H'
theorem take_words (es : List Ask) (m : Nat) (h : m < es.length) (r : List Str) {ws : List Str} {i : Nat} (hd : ws.drop i = es.flatMap Ask.words ++ r) : ws.drop (i + ((es.take m).flatMap Ask.words).length) = es[m].words ++ ((es.drop (m + 1)).flatMap Ask.words ++ r) ∧
    ((es.take (m + 1)).flatMap Ask.words).length = ((es.take m).flatMap Ask.words).length + es[m].words.length ∧ ((es.take (m + 1)).flatMap Ask.words).length ≤ (es.flatMap Ask.words).length := by
  have e1 : es.flatMap Ask.words = (es.take m).flatMap Ask.words ++ (es[m].words ++ (es.drop (m + 1)).flatMap Ask.words) := by
    have : es = es.take m ++ (es[m] :: es.drop (m + 1)) := by rw [← List.drop_eq_getElem_cons h, List.take_append_drop]
    have z : (es.take m ++ (es[m] :: es.drop (m + 1))).flatMap Ask.words = (es.take m).flatMap Ask.words ++ (es[m].words ++ (es.drop (m + 1)).flatMap Ask.words) := by
      rw [List.flatMap_append, List.flatMap_cons]
    rw [← z, ← this]
  have e2 : ((es.take (m + 1)).flatMap Ask.words) = (es.take m).flatMap Ask.words ++ es[m].words := by
    rw [List.take_add_one, List.getElem?_eq_getElem h, List.flatMap_append]
    simp
  refine ⟨?_, by rw [e2, List.length_append], ?_⟩
  · rw [← List.drop_drop, hd, e1, List.append_assoc, List.drop_left, List.append_assoc]
  · rw [e2, e1, List.length_append, List.length_append, List.length_append]; omega
theorem comp_inner {n : Nat} {C CP p al ab dx l d : Addr} {dp : Nat} {ws bs r : List Str} {es : List Ask} {i : Nat} {ts : List (Addr × Str × Int)} {ns : List Str} {σ : L2.St} {H : Hp} {Q : VK} (hne : C ≠ CP) (s0 : σ[0]? = some (some (.ref p))) (s1 : σ[1]? = some (some (.ref al))) (s2 : σ[2]? = some (some (.int (dp : Nat)))) (s8 : σ[8]? = some (some (.ref ab)))
    (s6 : σ[6]? = some (some (.int (es.length : Nat)))) (rd : RdAt K C H p dx l d ws i ts) (hal : SqT K H al (ns.map V.str)) (hab : SqT K H ab (bs.map V.str)) (hd : ws.drop i = es.flatMap Ask.words ++ r) (hi : i + (es.flatMap Ask.words).length ≤ 100) (h2 : es.length ≤ 2)
    (hdn : ∀ e ∈ es, e.depth ≤ n ∧ (dp + 1) + e.depth ≤ 14 ∧ (ns ++ bs).length + 2 * e.depth ≤ 1000 ∧ Wf ts (ns ++ bs) e)
    (k : ∀ D H' (its : List (Addr × Ask)), H D = none → But p H H' → RdAt K C H' p dx l d ws (i + (es.flatMap Ask.words).length) ts → its.map (·.2) = es → (∀ j ∈ its, PartAt K CP H' j.1 j.2) → H' D = some (.lst (its.map fun j => V.ref j.1)) → Q (.ref D) H') :
    tLc (iRng1 (tCons (tVar 6) tNil)) (gName 10) tYes (tMeth C "read_part" (spReadPart K C CP n) [] E0 (tVar 0) (tCons (tOp (rCatA K) (tVar 1) (tVar 8)) (tCons (tOp (rI0 fun i j => .int (i + j)) (tVar 2) (tC (.int 1))) tNil))) [10] σ H Q := by
  obtain ⟨g0, gl, _⟩ := id rd
  refine ⟨_, s6, ((es.length : Nat) : Int), rfl, by omega, by omega, fun D hD => ?_⟩
  have nD : D ≠ p := fun z => by rw [z, g0] at hD; cases hD
  have nl : D ≠ l := fun z => by rw [z, gl] at hD; cases hD
  refine lc_range (lo := 0) (n := es.length) (fun m H' => But p H H' ∧ RdAt K C H' p dx l d ws (i + ((es.take m).flatMap Ask.words).length) ts ∧ ∃ its : List (Addr × Ask), its.map (·.2) = es.take m ∧ (∀ j ∈ its, PartAt K CP H' j.1 j.2) ∧ H' D = some (.lst (its.map fun j => V.ref j.1)))
    ⟨But.ex (Ex.new hD), rd.up (Ex.new hD), [], rfl, nil_all, upd_same⟩ (fun m H' hm hP => ?_) (fun H' hP => ?_)
  · obtain ⟨b, rdm, its, hits, hpt, hl⟩ := hP
    refine ⟨w10 _, ?_⟩
    unfold tYes
    dsimp only
    rw [if_pos rfl]
    obtain ⟨g1, g2, g3⟩ := id rdm
    obtain ⟨t1, t2, t3⟩ := take_words es m hm r hd
    obtain ⟨d1, d2, d3, d4⟩ := hdn es[m] (List.getElem_mem hm)
    refine ⟨_, at10 s0 (by decide), p, dx, _, rfl, g1, rfs_no (by decide +kernel) (by decide +kernel) (by decide +kernel), ?_⟩
    have lns : ns.length + bs.length ≤ 1000 := by rw [List.length_append] at d3; omega
    refine eq_catTT (ta := tVar 1) (tb := tVar 8) (fun H1 _ => ev_var (at10 s1 (by decide))) (fun H1 _ => ev_var (at10 s8 (by decide))) (sqT_but hal g0 b) (sqT_but hab g0 b) (by rw [List.length_map, List.length_map]; omega) H' (Ex.refl _) _ fun q H2 e2 sq2 => ?_
    rw [← List.map_append] at sq2
    refine ⟨_, at10 s2 (by decide), (dp : Int), 1, rfl, rfl, p, q, dx, l, d, dp + 1, ws, _, ts, ns ++ bs, es[m], _, rfl, rdm.up e2, sq2, t1, by omega, d1, d2, d3, d4, fun a H3 b3 r3 p3 => ?_⟩
    have b3' := (But.ex e2).trans b3
    have hl3 := b3' _ _ hl nD
    refine ⟨_, hl3, small1000 (by rw [List.length_map, ← List.length_map (f := (·.2)), hits, List.length_take]; omega), fun c o hc nc => ?_, ?_, its ++ [(a, es[m])], ?_, ?_, ?_⟩
    · rw [upd_ne (fun z => by rw [z, hD] at hc; cases hc)]
      exact b3' _ _ (b c o hc nc) nc
    · rw [t2, ← Nat.add_assoc]
      exact r3.mut hl3 nl
    · rw [List.map_append, hits, List.take_add_one, List.getElem?_eq_getElem hm]
      rfl
    · intro j hj
      rcases List.mem_append.mp hj with z | z
      · exact part_mut hl3 (part_but g1 (.inr hne) b3' (hpt j z))
      · rw [List.mem_singleton.mp z]
        exact part_mut hl3 p3
    · rw [upd_same, List.map_append]
      rfl
  · obtain ⟨b, rdm, its, hits, hpt, hl⟩ := hP
    rw [List.take_length] at rdm hits
    exact k D H' its hD b rdm hits hpt hl
end
end WL

set_option Elab.async false
set_option linter.all false
set_option maxRecDepth 100000
set_option maxHeartbeats 8000000
namespace WL
open PySem PySem.Spec PyProof.Rows L2 Evl
theorem q_asgT1 {te : TE} {i : Nat} {tz : TS} {D : Ends} {σ : L2.St} {H : Hp} {r : List V → Hp → VK → Prop} (h : te σ H fun x H1 => r [x] H1 fun v H2 => tz D (σ.set i (some v)) H2) : tSeq (tAsg (tCB r (tCons te tNil)) (gName i)) tz D σ H := h
section
variable {P : Program} {w : World} {K : PySem.W.Frag} {mg : Str → Option Value} {base : Heap}
abbrev nRP : List Str := ["self", "alive", "within", "word", "many_places", "many_bound", "many_inner", "places", "bound", "inner", "_"]
theorem scReader_ReadPart : FnScope nRP ["self", "alive", "within"] (defScope sReader_ReadPart) := ⟨rfl, rfl, rfl, by decide +kernel, rfl, by decide +kernel, by decide +kernel⟩
theorem ok_readPart {n : Nat} {f C CP g1 g2 g3 g4 g5 : Addr} {fd gd1 gd2 gd3 gd4 gd5 : FuncData} (F : Fun K "read_part" "Reader.read_part" sReader_ReadPart f fd) (T : TRd w K mg C) (TP : TPt K mg CP) (hne : C ≠ CP)
    (GN : FMeth P w K mg base C "next_word" g1 gd1 1 ["self"] (spNextWord K C)) (GT : FMeth P w K mg base C "take" g2 gd2 1 ["self", "fits"] (spTake K C))
    (GP : FMeth P w K mg base C "read_place" g3 gd3 2 ["self", "alive"] (spReadPlace K C)) (GB : FMeth P w K mg base C "read_bound" g4 gd4 2 ["self", "many"] (spReadBound K C))
    (GI : FnOk P w K mg base CX0 2 g5 gd5 ["self", "word", "places", "bound", "inner"] (spPartInit K CP)) (MP : Mk K CP g5) (bI : Binds K gd5 ["self", "word", "places", "bound", "inner"] [])
    (GR : FMeth P w K mg base C "read_part" f fd (4 + n) ["self", "alive", "within"] (spReadPart K C CP n)) :
    FnOk P w K mg base CX0 (4 + n + 1) f fd ["self", "alive", "within"] (spReadPart K C CP (n + 1)) := by
  refine F.ok scReader_ReadPart (fun vs H Q E h => ?_) (fun cdv A outer s H vs Q E hr h => ?_)
  · obtain ⟨p, al, dx, l, d, dp, ws, i, ts, ns, t, r, rfl, _⟩ := h
    rfl
  · obtain ⟨p, al, dx, l, d, dp, ws, i, ts, ns, t, r, rfl, rd, hal, hd, hi, hdn, hdp, hns, wf, k⟩ := h
    obtain ⟨t14, m14⟩ := T.deep
    have hr1 : Room 1 _ := hr.mono (by omega)
    have hr2 : Room 2 _ := hr.mono (by omega)
    have hr3 : Room 3 _ := hr.mono (by omega)
    refine ⟨_, pss_cons (ps_set (i := 3) scReader_ReadPart.nd rfl (Or.inl rfl) (pe_meth0 (pv 0) T.cl GN.m GN.ok hr1 GN.b .nil pass0))
      (pss_cons (ps_expr (pe_meth (pv 0) T.cl GT.m GT.ok hr1 GT.b .nil pass0 (pa_cons (pe_and (pe_cmp (pc_din (hu_of hr) (pv 3) (pe_fld (pv 0) rfl)) rfl) (pe_one (pe_cmpR op_lt (pv 2) (pe_glob (v := .int 14) rfl m14 ⟨_, rfl⟩) (nomark _)))) pa_nil)))
      (pss_cons (ps_asg (pe_dget (hu_of hr) (pe_fld (pv 0) rfl) (pv 3) (fun _ _ => rfl)) (pg_tup rfl (pgs_cons (pg_name (i := 4) scReader_ReadPart.nd rfl (Or.inl rfl)) (pgs_cons (pg_name (i := 5) scReader_ReadPart.nd rfl (Or.inl rfl)) (pgs_cons (pg_name (i := 6) scReader_ReadPart.nd rfl (Or.inl rfl)) pgs_nil)))))
      (pss_cons (ps_set (i := 7) scReader_ReadPart.nd rfl (Or.inl rfl) (pe_callTy call_tuple_of (by rfl) T.v.tuple (by decide +kernel) (pa_cons (pe_lc (own := [("_", 10)]) (g := gName 10) (tt := tYes) rfl scReader_ReadPart.nd (pi_range1 (by rfl) T.range (pa_cons (pv 4) pa_nil)) (blkOk_by (N := nRP) (sc := defScope sReader_ReadPart) (by decide +kernel))
          (fun _ _ _ _ _ => pg_name (i := 10) scReader_ReadPart.nd rfl (Or.inl rfl)) (fun _ _ _ _ _ => pts_nil) (fun _ _ _ _ _ => pe_meth (pv 0) T.cl GP.m GP.ok hr2 GP.b .nil pass0 (pa_cons (pv 1) pa_nil))) pa_nil)))
      (pss_cons (ps_set (i := 8) scReader_ReadPart.nd rfl (Or.inr rfl) (pe_meth (pv 0) T.cl GB.m GB.ok hr2 GB.b .nil pass0 (pa_cons (pv 5) pa_nil)))
      (pss_cons (ps_set (i := 9) scReader_ReadPart.nd rfl (Or.inl rfl) (pe_callTy call_tuple_of (by rfl) T.v.tuple (by decide +kernel) (pa_cons (pe_lc (own := [("_", 10)]) (g := gName 10) (tt := tYes) (te := tMeth C "read_part" (spReadPart K C CP n) [] E0 (tVar 0) (tCons (tOp (rCatA K) (tVar 1) (tVar 8)) (tCons (tOp (rI0 fun i j => .int (i + j)) (tVar 2) (tC (.int 1))) tNil))) rfl scReader_ReadPart.nd (pi_range1 (by rfl) T.range (pa_cons (pv 6) pa_nil)) (blkOk_by (N := nRP) (sc := defScope sReader_ReadPart) (by decide +kernel))
          (fun _ _ _ _ _ => pg_name (i := 10) scReader_ReadPart.nd rfl (Or.inl rfl)) (fun _ _ _ _ _ => pts_nil) (fun _ _ _ _ _ => pe_meth (pv 0) T.cl GR.m GR.ok hr GR.b .nil pass0 (pa_cons (pe_op op_catA (pv 1) (pv 8)) (pa_cons (pe_op op_add (pv 2) pe_int) pa_nil)))) pa_nil)))
      (pss_one (ps_ret (pe_make MP GI hr3 (by rfl) TP.mgC bI .nil pass0 (pa_cons (pv 3) (pa_cons (pv 7) (pa_cons (pv 8) (pa_cons (pv 9) pa_nil)))))))))))), ?_⟩
    obtain ⟨w1, w2, w3, w4, w5⟩ := wf_unf wf
    have we := words_eq t
    have wl : t.words.length = 1 + (t.places.length + (t.bound.length + (t.inner.flatMap Ask.words).length)) := by
      rw [we, List.length_cons, List.length_append, List.length_append]; omega
    have hd0 : ws.drop i = t.word :: ((t.places ++ (t.bound ++ t.inner.flatMap Ask.words)) ++ r) := by rw [hd, we, List.cons_append]
    obtain ⟨n1, n2, n3⟩ := next_at hd0 (by omega)
    obtain ⟨h1, h2, h3⟩ := id rd
    refine ⟨_, rfl, p, dx, _, rfl, h1, rfs_no (by decide +kernel) (by decide +kernel) (by decide +kernel), p, dx, l, d, ws, i, ts, rfl, rd, n2, fun H1 e1 => ?_⟩
    rw [n1]
    obtain ⟨kvs, k1, k2, k3⟩ := h3.up e1
    have kx := k3 t.word
    rw [w1] at kx
    obtain ⟨r0, kx1, kx2⟩ := kx
    refine ⟨_, rfl, p, dx, _, rfl, e1 _ _ h1, rfs_no (by decide +kernel) (by decide +kernel) (by decide +kernel), ?_⟩
    refine ⟨_, rfl, _, rfl, p, C, dx, _, _, rfl, e1 _ _ h1, T.cl, T.nShapes, rfs_shapes, d, _, rfl, DGet.k (k := Sum.inr t.word) k1, ?_⟩
    rw [kx1]
    have dt : 1 ≤ t.depth := by rw [depth_eq]; omega
    have lt14 : decide ((dp : Int) < 14) = true := decide_eq_true (by omega)
    refine ⟨_, rfl, iteT ⟨_, rfl, (dp : Int), 14, rfl, rfl, ?_⟩⟩

    simp only [lt14]
    refine ⟨p, dx, l, d, ws, i, ts, rfl, rd.up e1, fun H2 b2 r2 => ?_⟩
    have b12 := (But.ex e1).trans b2
    have hal2 := sqT_but hal h1 b12
    obtain ⟨g1, g2, g3⟩ := id r2
    obtain ⟨kvs2, q1, q2, q3⟩ := id g3
    have qx := q3 t.word
    rw [w1] at qx
    obtain ⟨r3, qx1, qx2⟩ := qx
    have dg := DGet.k (k := Sum.inr t.word) q1
    rw [qx1] at dg
    refine ⟨_, rfl, p, C, dx, _, _, rfl, g1, T.cl, T.nShapes, rfs_shapes, _, rfl, d, .ref r3, rfl, dg, ?_⟩
    refine ⟨r3, _, rfl, qx2, rfl, _, _, rfl, _, _, rfl, _, _, rfl, rfl, ?_⟩
    have dr1 : ws.drop (i + 1) = t.places ++ ((t.bound ++ t.inner.flatMap Ask.words) ++ r) := by rw [n3, List.append_assoc]
    dsimp only
    refine q_asgT1 (comp_places (σ := [some (V.ref p), some (V.ref al), some (V.int (dp : Int)), some (V.str t.word), some (V.int ((t.places.length : Nat) : Int)), some (V.int ((t.bound.length : Nat) : Int)), some (V.int ((t.inner.length : Nat) : Int)), none, none, none, none]) (ps := t.places) (ns := ns) rfl rfl rfl r2 hal2 dr1 (by omega) w2 fun D H3 hD b3 r3' hl3 => ?_)
    refine ⟨D, _, rfl, .inl ⟨sq_of hl3, fun tp htp => ?_⟩⟩
    have e4 := Ex.new (o := HO.tup (t.places.map V.str)) htp
    have r4 := r3'.up e4
    have b4 := (b12.trans b3).trans (But.ex e4)
    have tp4 : (upd H3 tp (.tup (t.places.map V.str))) tp = some (.tup (t.places.map V.str)) := upd_same
    generalize upd H3 tp (.tup (t.places.map V.str)) = H4 at r4 b4 tp4 ⊢
    obtain ⟨f1, f2, f3⟩ := id r4
    have dr2 : ws.drop (i + 1 + t.places.length) = t.bound ++ (t.inner.flatMap Ask.words ++ r) := by rw [← List.drop_drop, dr1, List.drop_left, List.append_assoc]
    refine ⟨_, rfl, p, dx, _, rfl, f1, rfs_no (by decide +kernel) (by decide +kernel) (by decide +kernel), _, rfl, p, dx, l, d, ws, _, ts, t.bound, _, rfl, r4, dr2, by omega, w3, w4, fun ab H5 b5 r5 hab => ?_⟩
    have b45 := b4.trans b5
    have tp5 : SqT K H5 tp (t.places.map V.str) := sqT_but (.inl (.inl tp4)) f1 b5
    have dr3 : ws.drop (i + 1 + t.places.length + t.bound.length) = t.inner.flatMap Ask.words ++ r := by rw [← List.drop_drop, dr2, List.drop_left]
    dsimp only
    refine q_asgT1 (comp_inner (σ := [some (V.ref p), some (V.ref al), some (V.int (dp : Int)), some (V.str t.word), some (V.int ((t.places.length : Nat) : Int)), some (V.int ((t.bound.length : Nat) : Int)), some (V.int ((t.inner.length : Nat) : Int)), some (V.ref tp), some (V.ref ab), none, none]) (n := n) (es := t.inner) (bs := t.bound) (ns := ns) (dp := dp) hne rfl rfl rfl rfl rfl r5 (sqT_but hal h1 b45) hab dr3 (by omega) (inner_le t) (fun e he => ?_) fun D2 H6 its hD2 b6 r6 hits hpt hl6 => ?_)
    · have := inner_depth he
      have bl : t.bound.length ≤ 2 := by cases t <;> simp [Ask.bound]
      exact ⟨by omega, by omega, by rw [List.length_append]; omega, w5 e he⟩
    refine ⟨D2, _, rfl, .inl ⟨sq_of hl6, fun ti hti => ?_⟩⟩
    have e7 := Ex.new (o := HO.tup (its.map fun j => V.ref j.1)) hti
    obtain ⟨f5, _, _⟩ := id r5
    have b57 := b6.trans (But.ex e7)
    have b7 := b45.trans b57
    have r7 := r6.up e7
    have tp7 := sqT_but tp5 f5 b57
    have ab7 := sqT_but hab f5 b57
    have ti7 : SqT K (upd H6 ti (.tup (its.map fun j => V.ref j.1))) ti (its.map fun j => V.ref j.1) := .inl (.inl upd_same)
    have pt7 : ∀ j ∈ its, PartAt K CP (upd H6 ti (.tup (its.map fun j => V.ref j.1))) j.1 j.2 := fun j hj => part_up e7 (hpt j hj)
    generalize upd H6 ti (.tup (its.map fun j => V.ref j.1)) = H7 at b57 b7 r7 tp7 ab7 ti7 pt7 ⊢
    have hfr : its.map (fun j => j.2.free) = t.inner.map Ask.free := by rw [← hits, List.map_map]; rfl
    have hdp2 : its.map (fun j => j.2.depth) = t.inner.map Ask.depth := by rw [← hits, List.map_map]; rfl
    have hmo : its.map (fun j => j.2.most) = t.inner.map Ask.most := by rw [← hits, List.map_map]; rfl
    have hon : its.map (fun j => (once (j.2.free ++ t.bound)).length) = t.inner.map fun e => (once (e.free ++ t.bound)).length := by rw [← hits, List.map_map]; rfl
    have e1' : freeOf t.places t.bound (its.map fun j => j.2.free) = t.free := by rw [hfr, ← free_eq]
    have e2' : depthOf its = t.depth := by unfold depthOf; rw [hdp2, ← depth_eq]
    have e3' : mostOf t.places t.bound its = t.most := by unfold mostOf; rw [e1', hmo, hon, ← most_eq]
    refine ⟨_, rfl, _, rfl, _, rfl, _, rfl, fun x dy hx hdy hxy => ?_⟩
    have ex8 : Ex H7 (upd (upd H7 dy (.own x)) x (.ins CP dy [])) := fun c o hc => by rw [upd_ne (ne_of_none hc hx), upd_ne (ne_of_none hc hdy)]; exact hc
    have lenw : ∀ e ∈ t.inner, e.words.length ≤ 100 := fun e he => by
      have : e.words.length ≤ (t.inner.flatMap Ask.words).length := by
        obtain ⟨m, hm, rfl⟩ := List.mem_iff_getElem.mp he
        obtain ⟨_, z2, z3⟩ := take_words t.inner m hm r dr3
        omega
      omega
    refine ⟨x, dy, t.word, tp, ab, ti, t.places, t.bound, its, rfl, upd_same, ex_t ex8 tp7, ex_t ex8 ab7, ex_t ex8 ti7, fun j hj => part_up ex8 (pt7 j hj), by omega, by omega, ?_, fun j hj => ?_, fun H9 b9 nd => ⟨rfl, ?_⟩⟩
    · rw [← List.length_map (f := (·.2)), hits]; have := inner_le t; omega
    · have z : j.2 ∈ t.inner := by rw [← hits]; exact List.mem_map.mpr ⟨j, hj, rfl⟩
      have := free_len j.2
      have := lenw j.2 z
      omega
    · have nxp : x ≠ p := fun z => by rw [z, r7.1] at hx; cases hx
      have b79 : Ex H7 H9 := fun c o hc => b9 c o (ex8 c o hc) (ne_of_none hc hx)
      rw [e1', e2', e3'] at nd
      have pf : ∀ j ∈ its, PartAt K CP H9 j.1 j.2 := fun j hj => part_up b79 (pt7 j hj)
      have lenR : i + 1 + t.places.length + t.bound.length + (t.inner.flatMap Ask.words).length = i + t.words.length := by omega
      rw [lenR] at r7
      exact k x H9 (b7.trans (But.ex b79)) (r7.up b79) (part_of hits nd pf)
end
end WL

set_option Elab.async false
set_option linter.all false
set_option maxRecDepth 100000
set_option maxHeartbeats 8000000
namespace WL
open PySem PySem.Spec PyProof.Rows L2 Evl
theorem sIx_all (n : Nat) : HT.sIx n n none = n := HT.sIx_none n n
theorem cut_changed : ∀ ch : Nat, ch ≤ 3 → (HT.sIx (changedS.map V.str).length 0 none = 0 ∧ HT.sIx (changedS.map V.str).length (changedS.map V.str).length (some (ch : Int)) = ch) ∧ cutV (changedS.map V.str) none (some (ch : Int)) = (changedS.take ch).map V.str := by
  intro ch h
  have : ch = 0 ∨ ch = 1 ∨ ch = 2 ∨ ch = 3 := by omega
  rcases this with rfl | rfl | rfl | rfl <;> exact ⟨⟨rfl, rfl⟩, rfl⟩
section
variable {P : Program} {w : World} {K : PySem.W.Frag} {mg : Str → Option Value} {base : Heap}
theorem cat_go {a b : Addr} {xs ys : List V} {H : Hp} {Q : VK} (h1 : SqT K H a xs) (h2 : SqT K H b ys) (hz : xs.length + ys.length ≤ 100000) (q : ∀ p H2, Ex H H2 → SqT K H2 p (xs ++ ys) → Q (.ref p) H2) : rCatA K (.ref a) (.ref b) H Q :=
  ⟨a, b, xs, ys, rfl, rfl, h1, h2, sz_of hz,
    (fun z => by
      subst z
      exact q b H (Ex.refl _) h2),
    (fun _ z => by
      subst z
      rw [List.append_nil] at q
      exact q a H (Ex.refl _) h1),
    fun _ _ p hp => q p _ (Ex.new hp) (.inl (.inl upd_same))⟩
theorem sl_go {aC : Addr} {ch : Nat} {H : Hp} {Q : VK} (h : ch ≤ 3) (hq : SqT K H aC (changedS.map V.str)) (q : ∀ y H', Ex H H' → SqT K H' y ((changedS.take ch).map V.str) → Q (.ref y) H') : rSlA K (.ref aC) none (some (ch : Int)) H Q := by
  obtain ⟨⟨c1, c2⟩, c3⟩ := cut_changed ch h
  refine ⟨aC, _, rfl, hq, fun hw => q aC H (Ex.refl _) ?_, fun _ p hp => q p _ (Ex.new hp) (.inl (.inl (by rw [upd_same, c3])))⟩
  have z : ch = 3 := by rw [c2] at hw; exact hw.2
  rw [z]
  exact hq
theorem readPart_all {f C CP g1 g2 g3 g4 g5 : Addr} {fd gd1 gd2 gd3 gd4 gd5 : FuncData} (F : Fun K "read_part" "Reader.read_part" sReader_ReadPart f fd) (T : TRd w K mg C) (TP : TPt K mg CP) (hne : C ≠ CP)
    (GN : FMeth P w K mg base C "next_word" g1 gd1 1 ["self"] (spNextWord K C)) (GT : FMeth P w K mg base C "take" g2 gd2 1 ["self", "fits"] (spTake K C))
    (GP : FMeth P w K mg base C "read_place" g3 gd3 2 ["self", "alive"] (spReadPlace K C)) (GB : FMeth P w K mg base C "read_bound" g4 gd4 2 ["self", "many"] (spReadBound K C))
    (GI : FnOk P w K mg base CX0 2 g5 gd5 ["self", "word", "places", "bound", "inner"] (spPartInit K CP)) (MP : Mk K CP g5) (bI : Binds K gd5 ["self", "word", "places", "bound", "inner"] [])
    (m : Meth K C "read_part" f) (b : Binds K fd ["self", "alive", "within"] []) : ∀ n, FMeth P w K mg base C "read_part" f fd (4 + n) ["self", "alive", "within"] (spReadPart K C CP n)
  | 0 => by
    have no : ∀ vs H Q E, ¬ spReadPart K C CP 0 vs H Q E := fun vs H Q E h => by
      obtain ⟨p, al, dx, l, d, dp, ws, i, ts, ns, t, r, _, _, _, _, _, hd, _⟩ := h
      rw [depth_eq] at hd
      omega
    exact ⟨⟨fun vs H Q E h => absurd h (no vs H Q E), fun A outer s H args us vs Q E _ _ _ _ h => absurd h (no vs H Q E)⟩, m, b⟩
  | n + 1 => ⟨ok_readPart F T TP hne GN GT GP GB GI MP bI (readPart_all F T TP hne GN GT GP GB GI MP bI m b n), m, b⟩
theorem scReader_ReadEnd : FnScope ["self"] ["self"] (defScope sReader_ReadEnd) := ⟨rfl, rfl, rfl, by decide +kernel, rfl, by decide +kernel, by decide +kernel⟩
def spReadEnd (K : PySem.W.Frag) (C : Addr) : Sp := fun vs H Q _ => ∃ (p dx l d : Addr) (ws : List Str) (ts : List (Addr × Str × Int)), vs = [.ref p] ∧ RdAt K C H p dx l d ws ws.length ts ∧ RetV .non H Q
theorem ok_readEnd {f C : Addr} {fd : FuncData} (F : Fun K "read_end" "Reader.read_end" sReader_ReadEnd f fd) (T : TRd w K mg C) : FnOk P w K mg base CX0 1 f fd ["self"] (spReadEnd K C) := by
  refine F.ok scReader_ReadEnd (fun vs H Q E h => ?_) (fun cdv A outer s H vs Q E hr h => ?_)
  · obtain ⟨p, dx, l, d, ws, ts, rfl, _⟩ := h
    rfl
  · obtain ⟨p, dx, l, d, ws, ts, rfl, ⟨g1, g2, g3⟩, k⟩ := h
    refine ⟨_, pss_one (ps_if (pt_cmpR op_lt (pe_fld (pv 0) rfl) (pe_callB call_len_seq (by rfl) T.v.len PySem.boot_len (pa_cons (pe_fld (pv 0) rfl) pa_nil)) (nomark _)) (pss_one ps_never) pss_nil), ?_⟩
    have q := ev_op (ev_fld (σ := L2.start ["self"] [V.ref p]) (ta := tVar 0) (ev_var rfl) g1 T.cl T.nRead rfs_read) (ev_lenQ (K := K) (eq_l (ev_fld (ta := tVar 0) (ev_var rfl) g1 T.cl T.nWords rfs_words) (sq_of g2))) (rv_I0 (g := fun i j => V.bl (decide (i < j))))
    rw [List.length_map] at q
    have z : decide (((ws.length : Nat) : Int) < ((ws.length : Nat) : Int)) = false := decide_eq_false (by omega)
    have q2 := ev_is q (congrArg V.bl z)
    exact s_when (b := false) (et_test q2) (fun hb => by cases hb) (fun hb H1 e => k H1 e)
theorem scWholePart : FnScope ["head", "text", "tables", "changed", "reader", "whole"] ["head", "text", "tables", "changed"] (defScope sWholePart) := ⟨rfl, rfl, rfl, by decide +kernel, rfl, by decide +kernel, by decide +kernel⟩
structure Told (ts : List (Addr × Str × Int)) (ns : List Str) (text : Str) (t : Ask) : Prop where
  split : Txt.split text " " = t.words
  len : t.words.length ≤ 100
  size : text.length ≤ 100000
  deep : t.depth ≤ 14
  wf : Wf ts ns t
def spWhole (K : PySem.W.Frag) (CP : Addr) : Sp := fun vs H Q _ => ∃ (ah at_ : Addr) (text : Str) (hs : List Str) (ts : List (Addr × Str × Int)) (ch : Nat) (t : Ask), vs = [.ref ah, .str text, .ref at_, .int (ch : Nat)] ∧ SqT K H ah (hs.map V.str) ∧ TabsAt K H at_ ts ∧ ts.length ≤ 800 ∧ ch ≤ 3 ∧ hs.length ≤ 100 ∧
  Told ts (hs ++ changedS.take ch) text t ∧ ∀ a H', Ex H H' → PartAt K CP H' a t → Q (.ref a) H'
theorem ok_wholePart {f C CP g1 g2 g3 : Addr} {fd gd1 gd2 gd3 : FuncData} (F : Fun K "whole_part" "whole_part" sWholePart f fd) (T : TRd w K mg C)
    (GI : FnOk P w K mg base CX0 1 g1 gd1 ["self", "text", "tables"] (spReaderInit K C)) (MR : Mk K C g1) (bI : Binds K gd1 ["self", "text", "tables"] [])
    (GR : FMeth P w K mg base C "read_part" g2 gd2 18 ["self", "alive", "within"] (spReadPart K C CP 14)) (GE : FMeth P w K mg base C "read_end" g3 gd3 1 ["self"] (spReadEnd K C)) :
    FnOk P w K mg base CX0 19 f fd ["head", "text", "tables", "changed"] (spWhole K CP) := by
  refine F.ok scWholePart (fun vs H Q E h => ?_) (fun cdv A outer s H vs Q E hr h => ?_)
  · obtain ⟨ah, at_, text, hs, ts, ch, t, rfl, _⟩ := h
    rfl
  · obtain ⟨ah, at_, text, hs, ts, ch, t, rfl, h1, h2, h3, h4, h5, td, k⟩ := h
    obtain ⟨aC, mC, qC⟩ := T.v.changed
    have hr1 : Room 1 _ := hr.mono (by decide)
    have hr2 : Room 2 _ := hr.mono (by decide)
    refine ⟨_, pss_cons (ps_if (pt_not (pt_val (pe_callB call_isi (by rfl) T.v.isi (by decide +kernel) (pa_cons (pv 1) (pa_cons (pe_bltn (v := .ty "str") (by rfl) T.v.str (by decide +kernel) rfl) pa_nil))))) (pss_one ps_never) pss_nil)
      (pss_cons (ps_set (i := 4) scWholePart.nd rfl (Or.inl rfl) (pe_make MR GI hr2 (by rfl) T.mgC bI .nil pass0 (pa_cons (pv 1) (pa_cons (pv 2) pa_nil))))
      (pss_cons (ps_set (i := 5) scWholePart.nd rfl (Or.inl rfl) (pe_meth (pv 4) T.cl GR.m GR.ok hr GR.b .nil pass0 (pa_cons (pe_op op_catA (pv 0) (pe_slice sl_tupA (pe_glob (v := .ref aC) rfl mC rfl) po_none (po_some (pv 3)))) (pa_cons pe_int pa_nil))))
      (pss_cons (ps_expr (pe_meth0 (pv 4) T.cl GE.m GE.ok hr1 GE.b .nil pass0))
      (pss_one (ps_ret (pv 5)))))), ?_⟩
    refine q_when (b := false) (et_not (et_B (b := true) (ev_isi (ev_var rfl) (.base (.str text)) (kit_ty (r := true) (by decide +kernel))))) (fun hb => by cases hb) (fun hb H1 e1 => ?_)
    refine ⟨_, rfl, _, rfl, fun p dx hp hdx npd => ?_⟩
    have ex2 : Ex H1 (upd (upd H1 dx (.own p)) p (.ins C dx [])) := fun c o hc => by rw [upd_ne (ne_of_none hc hp), upd_ne (ne_of_none hc hdx)]; exact hc
    have tab2 : TabsAt K (upd (upd H1 dx (.own p)) p (.ins C dx [])) at_ ts := (h2.up e1).up ex2
    refine ⟨p, dx, text, at_, ts, rfl, upd_same, tab2, h3, td.size, fun H3 l d b3 r3 hl0 hd0 => ⟨rfl, ?_⟩⟩
    have e3 : Ex H1 H3 := fun c o hc => b3 c o (ex2 c o hc) (ne_of_none hc hp)
    rw [td.split] at r3
    obtain ⟨g1, g2, g3⟩ := id r3
    refine ⟨_, rfl, p, dx, _, rfl, g1, rfs_no (by decide +kernel) (by decide +kernel) (by decide +kernel), _, rfl, ?_⟩
    refine ⟨_, rfl, (ch : Int), rfl, sl_go h4 (qC H3) fun y H4 e4 hy => ?_⟩
    refine cat_go (ex_t e4 (ex_t (e1.trans e3) h1)) hy (by rw [List.length_map, List.length_map, List.length_take]; have : changedS.length = 3 := rfl; omega) fun al H5 e5 hal => ?_
    rw [← List.map_append] at hal
    have r5 := r3.up (e4.trans e5)
    have hl : (hs ++ changedS.take ch).length ≤ 103 := by rw [List.length_append, List.length_take]; have : changedS.length = 3 := rfl; omega
    refine ⟨p, al, dx, l, d, 0, t.words, 0, ts, hs ++ changedS.take ch, t, [], rfl, r5, hal, by rw [List.drop_zero, List.append_nil], by rw [Nat.zero_add]; exact td.len, td.deep, by rw [Nat.zero_add]; exact td.deep, by have := td.deep; omega, td.wf, fun a H6 b6 r6 pt => ?_⟩
    obtain ⟨g6, _, _⟩ := id r6
    rw [Nat.zero_add] at r6 g6
    have e6 : Ex H1 H6 := fun c o hc => b6 c o ((e3.trans (e4.trans e5)) c o hc) (ne_of_none hc hp)
    refine ⟨_, rfl, p, dx, _, rfl, g6, rfs_no (by decide +kernel) (by decide +kernel) (by decide +kernel), p, dx, l, d, t.words, ts, rfl, r6, fun H7 e7 => ?_⟩
    exact ⟨_, rfl, k a H7 ((e1.trans e6).trans e7) (part_up e7 pt)⟩
end
end WL

set_option Elab.async false
set_option linter.all false
set_option maxRecDepth 100000
set_option maxHeartbeats 8000000
namespace WL
open PySem PySem.Spec PyProof.Rows L2 Evl
def qfs (aw ah : Addr) (text : Str) (at_ : Addr) (ch : Nat) (lp : Bool) (dp : Nat) : List (Str × V) :=
  putF "deep" (V.int (dp : Int)) (putF "is_loopless" (V.bl lp) (putF "changed" (V.int (ch : Int)) (putF "tables" (V.ref at_) (putF "text" (V.str text) (putF "head" (V.ref ah) (putF "whole" (V.ref aw) []))))))
section
variable {aw ah at_ : Addr} {text : Str} {ch dp : Nat} {lp : Bool}
theorem qfs_whole : (qfs aw ah text at_ ch lp dp).lookup ("whole" : Str) = some (V.ref aw) := by unfold qfs; simp only [lookup_putF]; rfl
theorem qfs_head : (qfs aw ah text at_ ch lp dp).lookup ("head" : Str) = some (V.ref ah) := by unfold qfs; simp only [lookup_putF]; rfl
theorem qfs_text : (qfs aw ah text at_ ch lp dp).lookup ("text" : Str) = some (V.str text) := by unfold qfs; simp only [lookup_putF]; rfl
theorem qfs_tables : (qfs aw ah text at_ ch lp dp).lookup ("tables" : Str) = some (V.ref at_) := by unfold qfs; simp only [lookup_putF]; rfl
theorem qfs_changed : (qfs aw ah text at_ ch lp dp).lookup ("changed" : Str) = some (V.int (ch : Int)) := by unfold qfs; simp only [lookup_putF]; rfl
theorem qfs_loopless : (qfs aw ah text at_ ch lp dp).lookup ("is_loopless" : Str) = some (V.bl lp) := by unfold qfs; simp only [lookup_putF]; rfl
theorem qfs_deep : (qfs aw ah text at_ ch lp dp).lookup ("deep" : Str) = some (V.int (dp : Int)) := by unfold qfs; simp only [lookup_putF]; rfl
end
structure TQ (K : PySem.W.Frag) (mg : Str → Option Value) (C : Addr) : Prop where
  v : TV K mg
  cl : Cls K C
  nWhole : NoAttr K C "whole"
  nHead : NoAttr K C "head"
  nText : NoAttr K C "text"
  nTables : NoAttr K C "tables"
  nChanged : NoAttr K C "changed"
  nLoopless : NoAttr K C "is_loopless"
  nDeep : NoAttr K C "deep"
  mgC : mg "Question" = some (.ref C)
def QuestAt (K : PySem.W.Frag) (CQ CP : Addr) (H : Hp) (a : Addr) (hs : List Str) (text : Str) (ts : List (Addr × Str × Int)) (ch : Nat) (t : Ask) : Prop :=
  ∃ dx aw ah at_, H a = some (.ins CQ dx (qfs aw ah text at_ ch (!inV (.str "reach") (t.words.map V.str)) t.depth)) ∧ PartAt K CP H aw t ∧ SqT K H ah (hs.map V.str) ∧ TabsAt K H at_ ts
theorem QuestAt.up {K : PySem.W.Frag} {CQ CP : Addr} {H H' : Hp} {a : Addr} {hs : List Str} {text : Str} {ts : List (Addr × Str × Int)} {ch : Nat} {t : Ask} (e : Ex H H') (h : QuestAt K CQ CP H a hs text ts ch t) : QuestAt K CQ CP H' a hs text ts ch t := by
  obtain ⟨dx, aw, ah, at_, h1, h2, h3, h4⟩ := h
  exact ⟨dx, aw, ah, at_, e _ _ h1, part_up e h2, ex_t e h3, h4.up e⟩
section
variable {P : Program} {w : World} {K : PySem.W.Frag} {mg : Str → Option Value} {base : Heap}
theorem scQuestion_Init : FnScope ["self", "head", "text", "tables", "changed", "name", "_"] ["self", "head", "text", "tables", "changed"] (defScope sQuestion_Init) := ⟨rfl, rfl, rfl, by decide +kernel, rfl, by decide +kernel, by decide +kernel⟩
structure Right (hs : List Str) (text : Str) (ts : List (Addr × Str × Int)) (ch : Nat) (t : Ask) : Prop where
  head : isHead hs = true
  hlen : ∀ x ∈ hs, x.length ≤ 20000
  hmany : hs.length ≤ 3
  tabs : isTables ts = true
  tlen : ∀ x ∈ ts, x.2.1.length ≤ 20000
  tmany : ts.length ≤ 800
  apart : ∀ x ∈ ts, x.2.1 ∉ hs
  ch3 : ch ≤ 3
  told : Told ts (hs ++ changedS.take ch) text t
def spQuestInit (K : PySem.W.Frag) (C CP : Addr) : Sp := fun vs H Q _ => ∃ (p dx ah at_ : Addr) (text : Str) (hs : List Str) (ts : List (Addr × Str × Int)) (ch : Nat) (t : Ask), vs = [.ref p, .ref ah, .str text, .ref at_, .int (ch : Nat)] ∧ H p = some (.ins C dx []) ∧ SqT K H ah (hs.map V.str) ∧ TabsAt K H at_ ts ∧ Right hs text ts ch t ∧
  ∀ H', But p H H' → QuestAt K C CP H' p hs text ts ch t → Q .non H'
theorem ok_questInit {f C CP g1 g2 g3 g4 : Addr} {fd gd1 gd2 gd3 gd4 : FuncData} (F : Fun K "__init__" "Question.__init__" sQuestion_Init f fd) (T : TQ K mg C) (TP : TPt K mg CP) (hne : C ≠ CP) (G1 : FVal P w K mg base "is_head" g1 gd1 3 ["value"] (spIsHead K)) (G2 : FVal P w K mg base "is_tables" g2 gd2 3 ["value"] (spIsTables K))
    (G3 : FVal P w K mg base "is_integer" g3 gd3 1 ["value", "low", "high"] spIsInteger) (G4 : FVal P w K mg base "whole_part" g4 gd4 19 ["head", "text", "tables", "changed"] (spWhole K CP)) :
    FnOk P w K mg base CX0 20 f fd ["self", "head", "text", "tables", "changed"] (spQuestInit K C CP) := by
  refine F.ok scQuestion_Init (fun vs H Q E h => ?_) (fun cdv A outer s H vs Q E hr h => ?_)
  · obtain ⟨p, dx, ah, at_, text, hs, ts, ch, t, rfl, _⟩ := h
    rfl
  · obtain ⟨p, dx, ah, at_, text, hs, ts, ch, t, rfl, hp, h1, h2, R, k⟩ := h
    obtain ⟨aC, mC, qC⟩ := T.v.changed
    have hr1 : Room 1 _ := hr.mono (by decide)
    have hr3 : Room 3 _ := hr.mono (by decide)
    refine ⟨_, pss_cons (ps_if (pt_not (pt_val (pe_call G1.ok hr3 (by rfl) G1.mg G1.kp G1.b .nil pass0 (pa_cons (pv 1) pa_nil)))) (pss_one ps_never) pss_nil)
      (pss_cons (ps_if (PW.pt (pw_or (pt_not (pt_val (pe_call G2.ok hr3 (by rfl) G2.mg G2.kp G2.b .nil pass0 (pa_cons (pv 3) pa_nil))))
          (pw_or1 (pt_val (pe_callB (cr_any rfl) (by rfl) T.v.any (by decide +kernel) (pa_cons (pe_lc (own := [("name", 5), ("_", 6)]) (g := gTup K 2 (gCons (gName 5) (gCons (gName 6) gNil))) (tt := tYes) (te := tOp (rIn K false) (tVar 5) (tVar 1)) rfl scQuestion_Init.nd (pi_tup (pv 3)) (blkOk_by (N := ["self", "head", "text", "tables", "changed", "name", "_"]) (sc := defScope sQuestion_Init) (by decide +kernel))
            (fun _ _ _ _ _ => pg_tup rfl (pgs_cons (pg_name (i := 5) scQuestion_Init.nd rfl (Or.inl rfl)) (pgs_cons (pg_name (i := 6) scQuestion_Init.nd rfl (Or.inl rfl)) pgs_nil))) (fun _ _ _ _ _ => pts_nil) (fun _ _ _ _ _ => pe_cmpR op_in_seq (pv 5) (pv 1) rfl)) pa_nil)))))) (pss_one ps_never) pss_nil)
      (pss_cons (ps_if (pt_not (pt_val (pe_call G3.ok hr1 (by rfl) G3.mg G3.kp G3.b .nil pass0 (pa_cons (pv 4) (pa_cons pe_int (pa_cons (pe_callB call_len_seq (by rfl) T.v.len PySem.boot_len (pa_cons (pe_glob (v := .ref aC) rfl mC rfl) pa_nil)) pa_nil)))))) (pss_one ps_never) pss_nil)
      (pss_cons (ps_fld (pv 0) (pe_call G4.ok hr (by rfl) G4.mg G4.kp G4.b .nil pass0 (pa_cons (pv 1) (pa_cons (pv 2) (pa_cons (pv 3) (pa_cons (pv 4) pa_nil))))) rfl)
      (pss_cons (ps_fld (pv 0) (pv 1) rfl) (pss_cons (ps_fld (pv 0) (pv 2) rfl) (pss_cons (ps_fld (pv 0) (pv 3) rfl) (pss_cons (ps_fld (pv 0) (pv 4) rfl)
      (pss_cons (ps_fld (pv 0) (pe_cmpR op_notIn_seq pe_str (pe_split (pv 2) pe_str) rfl) rfl)
      (pss_one (ps_fld (pv 0) (pe_fld (pe_fld (pv 0) rfl) rfl) rfl)))))))))), ?_⟩
    have sq : ∀ {H1 : Hp} {a : Addr} {xs : List V}, But p H H1 → SqT K H a xs → SqT K H1 a xs := fun b h => sqT_but h hp b
    have tabs : ∀ {H1 : Hp}, But p H H1 → TabsAt K H1 at_ ts := fun b => ⟨sqT_but h2.1 hp b, fun t ht => sqT_but (h2.2 t ht) hp b⟩
    refine q_when (b := false) (et_not (et_B (b := true) (ev_call (ea_cons (ev_var rfl) ea_nil) fun H1 e Q q E => ⟨ah, hs, rfl, ex_t e h1, by have := R.hmany; omega, R.hlen, by rw [R.head]; exact q⟩))) (fun hb => by cases hb) (fun hb H1 e1 => ?_)
    have names : EvL (tLc (iTup K (tVar 3)) (gTup K 2 (gCons (gName 5) (gCons (gName 6) gNil))) tYes (tOp (rIn K false) (tVar 5) (tVar 1)) [5, 6]) (L2.start ["self", "head", "text", "tables", "changed", "name", "_"] [V.ref p, V.ref ah, V.str text, V.ref at_, V.int (ch : Nat)]) H1 ((ts.map fun t => inV (.str t.2.1) (hs.map V.str)).map V.bl) := by
      have q := el_lcG (σ := L2.start ["self", "head", "text", "tables", "changed", "name", "_"] [V.ref p, V.ref ah, V.str text, V.ref at_, V.int (ch : Nat)]) (H := H1) (as := ts) (c := fun t => V.ref t.1) (vs := [5, 6]) (t := tYes) (tv := tOp (rIn K false) (tVar 5) (tVar 1)) (wi := iTup K (tVar 3)) (g := gTup K 2 (gCons (gName 5) (gCons (gName 6) gNil)))
        (fun t => [some (V.ref p), some (V.ref ah), some (V.str text), some (V.ref at_), some (V.int (ch : Nat)), some (V.str t.2.1), some (V.int t.2.2)]) (fun _ => true) (fun t => .bl (inV (.str t.2.1) (hs.map V.str))) (wi_tup (ev_var rfl) (ex_t e1 h2.1)) walk_tupA (fun H2 e2 => ex_t (e1.trans e2) h2.1) (by have := R.tmany; omega)
        (fun t ht H2 e2 R' r => g_pair (ex_t (e1.trans e2) (h2.2 t ht)) r) (fun _ _ => rfl) (fun c _ H2 _ H3 _ Q q => q H3 (Ex.refl _)) (fun t ht H2 e2 _ => ev_op (ev_var rfl) (ev_var rfl) (rv_isT (ex_t (e1.trans e2) h1) rfl (flat_strs _)))
      rw [all_true] at q
      rw [List.map_map]
      exact q
    have none_in : (ts.map fun t => inV (.str t.2.1) (hs.map V.str)).any id = false := by
      rw [List.any_map]
      refine List.any_eq_false.mpr fun t ht => ?_
      intro z
      exact R.apart t ht (inV_mem.mp z)
    refine q_when (b := false) (et_or (a := false) (b := false) (et_not (et_B (b := true) (ev_call (ea_cons (ev_var rfl) ea_nil) fun H2 e Q q E => ⟨at_, ts, rfl, h2.up (e1.trans e), by have := R.tmany; omega, R.tlen, by rw [R.tabs]; exact q⟩))) fun _ => et_B (ev_allL (v := V.bl false) names fun a H2 Q ha q => ⟨a, _, rfl, sq_of ha, by rw [none_in]; exact q⟩)) (fun hb => by cases hb) (fun hb H2 e2 => ?_)
    have chd : (decide ((0 : Int) ≤ (ch : Int)) && decide ((ch : Int) ≤ (((changedS.map V.str).length : Nat) : Int))) = true := by
      have := R.ch3
      rw [decide_eq_true (by omega), decide_eq_true (by show (ch : Int) ≤ 3; omega)]; rfl
    refine q_when (b := false) (et_not (et_B (b := true) (ev_call (ea_cons (ev_var rfl) (ea_cons ev_c (ea_cons (ev_lenQ (K := K) (eq_t ev_c (qC H2))) ea_nil))) fun H3 e Q q E => ⟨(ch : Int), 0, _, rfl, by rw [chd]; exact q⟩))) (fun hb => by cases hb) (fun hb H3 e3 => ?_)
    have b0 : But p H H3 := But.ex ((e1.trans e2).trans e3)
    have g0 := ((e1.trans e2).trans e3) _ _ hp
    refine ⟨_, rfl, _, rfl, _, rfl, _, rfl, ah, at_, text, hs, ts, ch, t, rfl, sq b0 h1, tabs b0, R.tmany, R.ch3, by have := R.hmany; omega, R.told, fun aw H4 e4 pw => ?_⟩
    refine ⟨_, rfl, p, C, dx, _, rfl, e4 _ _ g0, T.cl, T.nWhole, by decide, ?_⟩
    dsimp only
    have b1 := (b0.trans (But.ex e4)).upd (o := .ins C dx (putF "whole" (V.ref aw) []))
    have g1 := upd_same (H := H4) (a := p) (o := .ins C dx (putF "whole" (V.ref aw) []))
    have p1 : PartAt K CP (upd H4 p (.ins C dx (putF "whole" (V.ref aw) []))) aw t := part_but (e4 _ _ g0) (.inr hne) (But.upd (But.refl p H4)) pw
    generalize upd H4 p (.ins C dx (putF "whole" (V.ref aw) [])) = G1 at b1 g1 p1 ⊢
    refine q_fld (ev_var rfl) (fun H1 _ => ev_var rfl) g1 T.cl T.nHead (Nat.lt_of_le_of_lt (put_lt (Nat.zero_le 0)) (by decide)) fun H5 e5 => ?_
    have b2 := (b1.trans (But.ex e5)).upd (o := .ins C dx (putF "head" (V.ref ah) (putF "whole" (V.ref aw) [])))
    have g2 := upd_same (H := H5) (a := p) (o := .ins C dx (putF "head" (V.ref ah) (putF "whole" (V.ref aw) [])))
    have p2 : PartAt K CP (upd H5 p (.ins C dx (putF "head" (V.ref ah) (putF "whole" (V.ref aw) [])))) aw t := part_but (e5 _ _ g1) (.inr hne) (But.upd (But.refl p H5)) (part_up e5 p1)
    generalize upd H5 p (.ins C dx (putF "head" (V.ref ah) (putF "whole" (V.ref aw) []))) = G2 at b2 g2 p2 ⊢
    refine q_fld (ev_var rfl) (fun H1 _ => ev_var rfl) g2 T.cl T.nText (Nat.lt_of_le_of_lt (put_lt (put_lt (Nat.zero_le 0))) (by decide)) fun H5 e5 => ?_
    have b3 := (b2.trans (But.ex e5)).upd (o := .ins C dx (putF "text" (V.str text) (putF "head" (V.ref ah) (putF "whole" (V.ref aw) []))))
    have g3 := upd_same (H := H5) (a := p) (o := .ins C dx (putF "text" (V.str text) (putF "head" (V.ref ah) (putF "whole" (V.ref aw) []))))
    have p3 : PartAt K CP (upd H5 p (.ins C dx (putF "text" (V.str text) (putF "head" (V.ref ah) (putF "whole" (V.ref aw) []))))) aw t := part_but (e5 _ _ g2) (.inr hne) (But.upd (But.refl p H5)) (part_up e5 p2)
    generalize upd H5 p (.ins C dx (putF "text" (V.str text) (putF "head" (V.ref ah) (putF "whole" (V.ref aw) [])))) = G3 at b3 g3 p3 ⊢
    refine q_fld (ev_var rfl) (fun H1 _ => ev_var rfl) g3 T.cl T.nTables (Nat.lt_of_le_of_lt (put_lt (put_lt (put_lt (Nat.zero_le 0)))) (by decide)) fun H5 e5 => ?_
    have b4 := (b3.trans (But.ex e5)).upd (o := .ins C dx (putF "tables" (V.ref at_) (putF "text" (V.str text) (putF "head" (V.ref ah) (putF "whole" (V.ref aw) [])))))
    have g4 := upd_same (H := H5) (a := p) (o := .ins C dx (putF "tables" (V.ref at_) (putF "text" (V.str text) (putF "head" (V.ref ah) (putF "whole" (V.ref aw) [])))))
    have p4 : PartAt K CP (upd H5 p (.ins C dx (putF "tables" (V.ref at_) (putF "text" (V.str text) (putF "head" (V.ref ah) (putF "whole" (V.ref aw) [])))))) aw t := part_but (e5 _ _ g3) (.inr hne) (But.upd (But.refl p H5)) (part_up e5 p3)
    generalize upd H5 p (.ins C dx (putF "tables" (V.ref at_) (putF "text" (V.str text) (putF "head" (V.ref ah) (putF "whole" (V.ref aw) []))))) = G4 at b4 g4 p4 ⊢
    refine q_fld (ev_var rfl) (fun H1 _ => ev_var rfl) g4 T.cl T.nChanged (Nat.lt_of_le_of_lt (put_lt (put_lt (put_lt (put_lt (Nat.zero_le 0))))) (by decide)) fun H5 e5 => ?_
    have b5 := (b4.trans (But.ex e5)).upd (o := .ins C dx (putF "changed" (V.int (ch : Int)) (putF "tables" (V.ref at_) (putF "text" (V.str text) (putF "head" (V.ref ah) (putF "whole" (V.ref aw) []))))))
    have g5 := upd_same (H := H5) (a := p) (o := .ins C dx (putF "changed" (V.int (ch : Int)) (putF "tables" (V.ref at_) (putF "text" (V.str text) (putF "head" (V.ref ah) (putF "whole" (V.ref aw) []))))))
    have p5 : PartAt K CP (upd H5 p (.ins C dx (putF "changed" (V.int (ch : Int)) (putF "tables" (V.ref at_) (putF "text" (V.str text) (putF "head" (V.ref ah) (putF "whole" (V.ref aw) []))))))) aw t := part_but (e5 _ _ g4) (.inr hne) (But.upd (But.refl p H5)) (part_up e5 p4)
    generalize upd H5 p (.ins C dx (putF "changed" (V.int (ch : Int)) (putF "tables" (V.ref at_) (putF "text" (V.str text) (putF "head" (V.ref ah) (putF "whole" (V.ref aw) [])))))) = G5 at b5 g5 p5 ⊢
    have spl : EvL (tM1 (fun x xs H Q => ∃ a b, x = V.str a ∧ xs = [V.str b] ∧ (b.length == 0) = false ∧ a.length + 2 ≤ sizeLine ∧ rNewStrs (Txt.split a b) H Q) (tVar 2) (tC (V.str " "))) (L2.start ["self", "head", "text", "tables", "changed", "name", "_"] [V.ref p, V.ref ah, V.str text, V.ref at_, V.int (ch : Nat)]) G5 (t.words.map V.str) := fun H1 e Q q =>
      ⟨V.str text, rfl, ⟨text, rfl⟩, text, " ", rfl, rfl, rfl, by have := sizeLine_eq; have := R.told.size; omega, fun r hr => by rw [R.told.split]; exact q r _ hr (Ex.new hr) upd_same⟩
    refine q_fld (y := .bl (!inV (.str "reach") (t.words.map V.str))) (ev_opL ev_c spl fun q H1 hq _ => rv_niL (sq_of hq) rfl (flat_strs _)) (fun H1 _ => ev_var rfl) g5 T.cl T.nLoopless (Nat.lt_of_le_of_lt (put_lt (put_lt (put_lt (put_lt (put_lt (Nat.zero_le 0)))))) (by decide)) fun H5 e5 => ?_
    have b6 := (b5.trans (But.ex e5)).upd (o := .ins C dx (putF "is_loopless" (V.bl (!inV (.str "reach") (t.words.map V.str))) (putF "changed" (V.int (ch : Int)) (putF "tables" (V.ref at_) (putF "text" (V.str text) (putF "head" (V.ref ah) (putF "whole" (V.ref aw) [])))))))
    have g6 := upd_same (H := H5) (a := p) (o := .ins C dx (putF "is_loopless" (V.bl (!inV (.str "reach") (t.words.map V.str))) (putF "changed" (V.int (ch : Int)) (putF "tables" (V.ref at_) (putF "text" (V.str text) (putF "head" (V.ref ah) (putF "whole" (V.ref aw) [])))))))
    have p6 : PartAt K CP (upd H5 p (.ins C dx (putF "is_loopless" (V.bl (!inV (.str "reach") (t.words.map V.str))) (putF "changed" (V.int (ch : Int)) (putF "tables" (V.ref at_) (putF "text" (V.str text) (putF "head" (V.ref ah) (putF "whole" (V.ref aw) [])))))))) aw t := part_but (e5 _ _ g5) (.inr hne) (But.upd (But.refl p H5)) (part_up e5 p5)
    generalize upd H5 p (.ins C dx (putF "is_loopless" (V.bl (!inV (.str "reach") (t.words.map V.str))) (putF "changed" (V.int (ch : Int)) (putF "tables" (V.ref at_) (putF "text" (V.str text) (putF "head" (V.ref ah) (putF "whole" (V.ref aw) []))))))) = G6 at b6 g6 p6 ⊢
    obtain ⟨is, ⟨dy, tp, tb, ti, tf, n1, _⟩, _⟩ := part_node p6
    refine s_fld (y := .int (t.depth : Int)) (ev_fld (ev_fld (ev_var rfl) g6 T.cl T.nWhole (by simp only [lookup_putF]; rfl)) n1 TP.cl TP.nDepth pfs_depth) (fun H1 _ => ev_var rfl) g6 T.cl T.nDeep (Nat.lt_of_le_of_lt (put_lt (put_lt (put_lt (put_lt (put_lt (put_lt (Nat.zero_le 0))))))) (by decide)) fun H5 e5 => ?_
    have bz := (b6.trans (But.ex e5)).upd (o := .ins C dx (qfs aw ah text at_ ch (!inV (.str "reach") (t.words.map V.str)) t.depth))
    exact k _ bz ⟨dx, aw, ah, at_, upd_same, part_but (e5 _ _ g6) (.inr hne) (But.upd (But.refl p H5)) (part_up e5 p6), sq bz h1, tabs bz⟩
end
end WL

set_option Elab.async false
set_option linter.all false
set_option maxRecDepth 100000
set_option maxHeartbeats 8000000
namespace WL
open PySem PySem.Spec PyProof.Rows L2 Evl
structure IsC (K : PySem.W.Frag) (C : Addr) : Prop where
  cl : Cls K C
  ha : PySem.W.findIn K (.ref C) "__class__" = some (some (.builtin "object.__class__"))
  hn : PySem.W.specialIn K (.builtin "object.__class__") "__get__" = some (some (.builtin "getset_descriptor.__get__"))
  htk : PySem.W.takesIn K (.builtin "object.__class__") = some true
  hm : PySem.W.mroIn K C (.type "object") = some true
theorem kit_own {K : PySem.W.Frag} {C : Addr} : PySem.W.kitOne K (.ref C) (.ref C) = some true := if_pos (beq_self_eq_true _)
theorem ev_isiC {K : PySem.W.Frag} {σ : L2.St} {H : Hp} {ta : TE} {a C dx : Addr} {fs : List (Str × V)} (I : IsC K C) (ha : Ev ta σ H (.ref a)) (ho : H a = some (.ins C dx fs)) : Ev (tCB (rIsi K) (tCons ta (tCons (tC (.ref C)) tNil))) σ H (.bl true) :=
  ev_cb (ea_cons ha (ea_cons ev_c ea_nil)) fun H1 e Q q => ⟨.ref a, .ref C, .ref C, .ref C, true, rfl, .own C, .base (.ins (e _ _ ho) I.cl I.ha I.hn I.htk I.hm), kit_own, q H1 (Ex.refl H1)⟩
theorem inV2 {w a b : Str} : inV (.str w) [V.str a, V.str b] = decide (w = a ∨ w = b) := by
  have q := inV_mem (x := w) (l := [a, b])
  cases h : inV (.str w) [V.str a, V.str b] with
  | true =>
    have z := q.mp h
    simp only [List.mem_cons, List.not_mem_nil, or_false] at z
    exact (decide_eq_true z).symm
  | false =>
    refine (decide_eq_false fun z => ?_).symm
    have r := q.mpr (by simp only [List.mem_cons, List.not_mem_nil, or_false]; exact z)
    have r' : inV (.str w) [V.str a, V.str b] = true := r
    rw [h] at r'
    cases r'
theorem sum_cast {α : Type} (f : α → Nat) : ∀ l : List α, (l.map fun e => ((f e : Nat) : Int)).sum = (((l.map f).sum : Nat) : Int)
  | [] => rfl
  | x :: l => by
    rw [List.map_cons, List.map_cons, List.sum_cons, List.sum_cons, sum_cast f l]
    omega
theorem ev_sumL {K : PySem.W.Frag} {te : TE} {σ : L2.St} {H : Hp} {ns : List Int} (h : EvL te σ H (ns.map V.int)) : Ev (tCB (rSum K) (tCons te tNil)) σ H (.int ns.sum) := fun H1 e Q q =>
  h H1 e _ fun p H2 _ e2 hp => ⟨p, ns, rfl, sq_of hp, q H2 e2⟩
theorem part_inner {K : PySem.W.Frag} {CP : Addr} {H : Hp} {a : Addr} {t : Ask} (h : PartAt K CP H a t) : ∃ its : List (Addr × Ask), its.map (·.2) = t.inner ∧ (∀ i ∈ its, PartAt K CP H i.1 i.2) ∧ Node K CP H a t.word t.places t.bound (its.map (·.1)) t.free t.depth t.most := by
  cases t with
  | leaf w ps => exact ⟨[], rfl, nil_all, h⟩
  | una w e =>
    obtain ⟨b, h, i⟩ := h
    refine ⟨[(b, e)], rfl, fun j hj => ?_, h⟩
    rw [List.mem_singleton.mp hj]; exact i
  | bin w e f =>
    obtain ⟨b, c, h, i, j⟩ := h
    refine ⟨[(b, e), (c, f)], rfl, fun x hx => ?_, h⟩
    rcases List.mem_cons.mp hx with z | z
    · rw [z]; exact i
    · rw [List.mem_singleton.mp z]; exact j
  | qua w x e =>
    obtain ⟨b, h, i⟩ := h
    refine ⟨[(b, e)], rfl, fun j hj => ?_, h⟩
    rw [List.mem_singleton.mp hj]; exact i
  | rch w u v x y e =>
    obtain ⟨b, h, i⟩ := h
    refine ⟨[(b, e)], rfl, fun j hj => ?_, h⟩
    rw [List.mem_singleton.mp hj]; exact i
structure TW (K : PySem.W.Frag) (mg : Str → Option Value) (CQ CP : Addr) : Prop where
  q : TQ K mg CQ
  p : TPt K mg CP
  isC : IsC K CQ
section
variable {P : Program} {w : World} {K : PySem.W.Frag} {mg : Str → Option Value} {base : Heap}
theorem scCheckQuestion : FnScope ["question"] ["question"] (defScope sCheckQuestion) := ⟨rfl, rfl, rfl, by decide +kernel, rfl, by decide +kernel, by decide +kernel⟩
def spCheckQ (CQ : Addr) : Sp := fun vs H Q _ => ∃ (a dx : Addr) (fs : List (Str × V)), vs = [.ref a] ∧ H a = some (.ins CQ dx fs) ∧ RetV .non H Q
theorem ok_checkQ {f CQ CP : Addr} {fd : FuncData} (F : Fun K "check_question" "check_question" sCheckQuestion f fd) (T : TW K mg CQ CP) : FnOk P w K mg base CX0 1 f fd ["question"] (spCheckQ CQ) := by
  refine F.ok scCheckQuestion (fun vs H Q E h => ?_) (fun cdv A outer s H vs Q E hr h => ?_)
  · obtain ⟨a, dx, fs, rfl, _⟩ := h
    rfl
  · obtain ⟨a, dx, fs, rfl, h1, k⟩ := h
    refine ⟨_, pss_one (ps_if (pt_not (pt_val (pe_callB call_isi (by rfl) T.q.v.isi (by decide +kernel) (pa_cons (pv 0) (pa_cons (pe_glob (v := .ref CQ) rfl T.q.mgC rfl) pa_nil))))) (pss_one ps_never) pss_nil), ?_⟩
    exact s_when (b := false) (et_not (et_B (b := true) (ev_isiC T.isC (ev_var rfl) h1))) (fun hb => by cases hb) (fun hb H1 e => k H1 e)
theorem scWidth : FnScope ["question"] ["question"] (defScope sWidth) := ⟨rfl, rfl, rfl, by decide +kernel, rfl, by decide +kernel, by decide +kernel⟩
def spWidth (K : PySem.W.Frag) (CQ CP : Addr) : Sp := fun vs H Q _ => ∃ (a : Addr) (hs : List Str) (text : Str) (ts : List (Addr × Str × Int)) (ch : Nat) (t : Ask), vs = [.ref a] ∧ QuestAt K CQ CP H a hs text ts ch t ∧ RetV (.int (max hs.length t.most : Nat)) H Q
theorem ok_width {f g CQ CP : Addr} {fd gd : FuncData} (F : Fun K "width" "width" sWidth f fd) (T : TW K mg CQ CP) (G : FVal P w K mg base "check_question" g gd 1 ["question"] (spCheckQ CQ)) : FnOk P w K mg base CX0 2 f fd ["question"] (spWidth K CQ CP) := by
  refine F.ok scWidth (fun vs H Q E h => ?_) (fun cdv A outer s H vs Q E hr h => ?_)
  · obtain ⟨a, hs, text, ts, ch, t, rfl, _⟩ := h
    rfl
  · obtain ⟨a, hs, text, ts, ch, t, rfl, ⟨dx, aw, ah, at_, h1, h2, h3, h4⟩, k⟩ := h
    refine ⟨_, pss_cons (ps_expr (pe_call G.ok hr (by rfl) G.mg G.kp G.b .nil pass0 (pa_cons (pv 0) pa_nil)))
      (pss_one (ps_ret (pe_callB (call_max2 rfl) (by rfl) T.p.max (by decide +kernel) (pa_cons (pe_callB call_len_seq (by rfl) T.q.v.len PySem.boot_len (pa_cons (pe_fld (pv 0) rfl) pa_nil)) (pa_cons (pe_fld (pe_fld (pv 0) rfl) rfl) pa_nil))))), ?_⟩
    refine q_drop (ev_call (ea_cons (ev_var rfl) ea_nil) fun H1 e Q q E => ⟨a, dx, _, rfl, e _ _ h1, q⟩) fun H1 e1 => ?_
    obtain ⟨is, ⟨dy, tp, tb, ti, tf, n1, _⟩, _⟩ := part_node h2
    have hl := ev_lenQ (K := K) (eq_t (te := tFld K (tVar 0) "head") (σ := L2.start ["question"] [V.ref a]) (H := H1) (ev_fld (ev_var rfl) (e1 _ _ h1) T.q.cl T.q.nHead qfs_head) (ex_t e1 h3))
    rw [List.length_map] at hl
    refine s_ret (ev_is (ev_max2 hl (ev_fld (ev_fld (ev_var rfl) (e1 _ _ h1) T.q.cl T.q.nWhole qfs_whole) (e1 _ _ n1) T.p.cl T.p.nMost pfs_most)) (congrArg V.int ?_)) fun H2 e2 => k H2 (e1.trans e2)
    show (if ((t.most : Nat) : Int) > ((hs.length : Nat) : Int) then ((t.most : Nat) : Int) else ((hs.length : Nat) : Int)) = ((max hs.length t.most : Nat) : Int)
    split <;> omega
end
end WL

set_option Elab.async false
set_option linter.all false
set_option maxRecDepth 100000
set_option maxHeartbeats 8000000
namespace WL
open PySem PySem.Spec PyProof.Rows L2 Evl
structure FnG (P : Program) (w : World) (K : PySem.W.Frag) (mg : Str → Option Value) (base : Heap) (k : Nat) (f : Addr) (fd : FuncData) (ps : List Str) (sp : Sp) : Prop where
  len : ∀ vs H Q E, sp vs H Q E → vs.length = ps.length
  run : ∀ (A : Around) (outer : List Env) (s : Shared) (H : Hp) (args : Args) (us : List Value) (vs : List V) (Q : VK) (E : XK), Room k A → A.guards = some [] →
    Env0 P w K mg base A outer s H → BindsTo s fd args (ps.zip us) → Vals vs us → sp vs H Q E → codeAny (model P w) A (.call (.ref f) args) (CR CX0 outer P w H s Q E) s
section
variable {P : Program} {w : World} {K : PySem.W.Frag} {mg : Str → Option Value} {base : Heap}
theorem okG {x qual : Str} {st : Stmt} {f : Addr} {fd : FuncData} {N ps : List Str} {k : Nat} {sp : Sp} (F : Fun K x qual st f fd) (S : FnScope N ps (defScope st)) (len : ∀ vs H Q E, sp vs H Q E → vs.length = ps.length)
    (body : ∀ (cdv : Value) (A : Around) (outer : List Env) (s : Shared) (H : Hp) (vs : List V) (Q : VK) (E : XK), Room k (A.deeper (envOfC qual (defScope st) s.heap.objs.size f cdv)) → A.guards = some [] → sp vs H Q E →
      ∃ t, PSs (cxOf CX0 P w K mg base N qual (defScope st) f cdv A outer s H E).nox (defBody st) t ∧ t { nx := fun _ H' => Q .non H', rt := Q } (start N vs) H) : FnG P w K mg base (k + 1) f fd ps sp := by
  obtain ⟨oc, od, kV, doc, pm, an, cdv, ct, osl, rfl, lk, hcd⟩ := F.ex
  refine ⟨len, fun A outer s H args us vs Q E room gu en bi va hs => ?_⟩
  have keep := fun (b : Addr) (o : Obj) (e : base.get? b = some o) => (en.bs b o e).1
  have inK : K.In s.heap := en.mod.kin.keeps keep
  have kinds : ∀ y ∈ ps.zip us, (defScope st).names.lookup y.1 = some .local ∨ ((defScope st).names.lookup y.1 = some .cell ∧ ((cellsFrom (s.heap.objs.size + 1) (defScope st).names []).lookup y.1).isSome = true) := fun y hy =>
    (S.par y.1 (List.of_mem_zip (a := y.1) (b := y.2) hy).1).elim .inl fun q => .inr ⟨q, PySem.W.cellsFrom_some _ _ _ (.inl q)⟩
  refine codeAny_call_function room.depth (inK _ _ lk) rfl S.co S.gen rfl (PySem.W.codeRec_of inK hcd) (bi _ _ _ _ ?_)
  refine wpAny_newFunctionEnv_cells S.kind kinds fun env he s1 inn => ?_
  cases he
  refine ⟨(en.mod.nolimit.keeps keep).keeps inn.toInCall.keep, codeAny_func ?_⟩
  obtain ⟨t, ht, q⟩ := body cdv A outer s H vs Q E (room.deeper _) gu hs
  have start_ := inv_start (CX := CX0) (P := P) (mg := mg) (base := base) (K := K) (w := w) (E := E) S room.hd en (len _ _ _ _ hs) va inn
  refine wpAny_mono (ht.nox.run [] s1 (start N vs) H _ start_ q) (fun fl s' h => ?_) fun e s' h => h
  cases fl with
  | ret u =>
    obtain ⟨v, σ', H', J, rv, q'⟩ := h
    exact ⟨v, H', J.os, J.bare, J.base, J.hok, rv, q'⟩
  | next =>
    obtain ⟨σ', H', J, q'⟩ := h
    exact ⟨.non, H', J.os, J.bare, J.base, J.hok, rfl, q'⟩
  | brk => exact h.elim fun _ h => h.elim fun _ h => h.2.elim
  | cont => exact h.elim fun _ h => h.elim fun _ h => h.2.elim
end
section
variable {X : Cx} {k : Nat} {f : Addr} {fd : FuncData} {ps : List Str} {sp : Sp} {x : Str} {p pos : Pos} {e : Expr} {es : List Expr} {t : TA}
theorem pe_callG (F : FnG X.prog X.w X.K X.mg X.base k f fd ps sp) (room : Room k X.A) (gu : X.A.guards = some []) (hg : Gl X x) (hm : X.mg x = some (.ref f)) (hk : PySem.W.keepIn X.K (.ref f) = true) (hb : Binds X.K fd ps [])
    (ha : PA X (e :: es) t) (hdb : (x == ("__debug__" : Str)) = false := by decide) (he : starEach (e :: es) X.env = (false, eval e X.env) :: starEach es X.env := by rfl) (hpl : (backTo pos (starEach es X.env)).any (·.1) = false := by rfl) :
    PE X (.Call (.Name x p) (e :: es) [] pos) (tCall sp [] E0 t) := by
  refine ⟨fun pins s σ H Q I h => wpAny_Call_Name_kw (ld_glob I hg hm (PySem.W.callWith_K (h₀ := X.base) I.ok.mod.kin hk (thn (ha.run pos pins s σ H _ I h) fun us s1 ⟨vs, H1, I1, r, q⟩ => ⟨I1.kIn, ?_⟩) he hpl) hdb)⟩
  have q' : sp vs H1 Q E0 := by
    have z : sp (vs ++ []) H1 Q E0 := q
    rw [List.append_nil] at z
    exact z
  have ln : (us ++ []).length = ps.length := by rw [List.append_nil, ← r.length]; exact F.len _ _ _ _ q'
  have bi := hb s1 us I1.kIn ln
  rw [List.append_nil] at bi
  refine wpAny_call (codeAny_mono (F.run X.A X.stack s1 H1 ⟨us, []⟩ us vs Q E0 room gu I1.env0 bi r q') fun res s' hq => ?_)
  match res, hq with
  | .error e, hq => exact hq.elim
  | .ok (.ret u), hq => exact I1.after hq
  | .ok .next, hq => exact hq.elim
  | .ok .brk, hq => exact hq.elim
  | .ok .cont, hq => exact hq.elim
def rReprD (K : PySem.W.Frag) : List V → Hp → VK → Prop := fun xs H Q => ∃ a d, xs = [.ref a] ∧ Dp K H (.ref a) d ∧ d.showable = true ∧ d.hasDict = false ∧ d.depth ≤ 60 ∧ d.shown.length ≤ sizeLine ∧ Q (.str d.shown) H
theorem call_reprD (gu : X.A.guards = some []) (hu : X.A.units + 64 < cLine) : CallR X (.builtin "repr") (rReprD X.K) := by
  intro pins s σ H xs us Q I r h
  obtain ⟨a, d, rfl, hd, hs, hn, hl, hz, q⟩ := h
  rw [Vals.ref1 r]
  obtain ⟨as, rd⟩ := Dp.reads I d (.ref a) (.ref a) hd rfl
  refine PySem.repr_of_reads' rd hs (fun z => by rw [hn] at z; cases z) gu (by omega) (fun _ _ e => e) (fun h' u tk keep => ?_) hz
  exact ⟨.str d.shown, H, I.kept (t' := tk) keep, ⟨u, rfl⟩, q⟩
end
end WL

set_option Elab.async false
set_option linter.all false
set_option maxRecDepth 100000
set_option maxHeartbeats 8000000
namespace WL
open PySem PySem.Spec PyProof.Rows L2 LamX
abbrev noTab : Obj := { cls := .none, data := .fields #[] }
structure StartT (P : Program) (w : World) (K : PySem.W.Frag) (h : Heap) (a : Addr) (Ts : List Addr) (ns : List Int) (H : Hp) : Prop where
  sq : SqL K H a (ns.map V.int)
  ok : HOk P w H h
  tb : ∀ T ∈ Ts, H T = some (.tbl #[])
  one : ∀ b, b ≠ a → b ∉ Ts → H b = none
  aa : H a = none ∨ ∃ o xs, H a = some (.frz o (.lst xs))
  out : ∀ o, K.lookup a = some o → H a = none
theorem start_T {P : Program} {w : World} {K : PySem.W.Frag} {h : Heap} {a : Addr} {Ts : List Addr} {vs : List Value} {ns : List Int} (KX : K.In h) (hT : ∀ T ∈ Ts, h.get? T = some noTab) (at_ : h.get? a = some { cls := .type "list", data := .seq vs.toArray }) (hi : IntsAre vs ns) (hl : ns.length ≤ sizeLine) :
    ∃ H, StartT P w K h a Ts ns H := by
  have rv := vals_ints hi
  have same : vs.length = ns.length := hi.length
  have neT : a ∉ Ts := fun z => by
    rw [hT a z] at at_
    cases at_
  by_cases hk : ∃ o, K.lookup a = some o
  · obtain ⟨o, hk⟩ := hk
    have eo : o = { cls := .type "list", data := .seq vs.toArray } := Option.some.inj ((KX a o hk).symm.trans at_)
    subst eo
    refine ⟨fun b => if b ∈ Ts then some (.tbl #[]) else none, .inr ⟨_, vs.toArray, _, hk, rfl, rfl, rfl, ?_, ?_⟩, fun b u z => ?_, fun T hm => if_pos hm, fun b _ n => if_neg n, .inl (if_neg neT), fun _ _ => if_neg neT⟩
    · rw [List.size_toArray, same]; exact hl
    · rw [List.toList_toArray]; exact rv
    · by_cases hb : b ∈ Ts
      · have q : some (HO.tbl #[]) = some u := (if_pos hb).symm.trans z
        cases q
        exact hT b hb
      · have q : (none : Option HO) = some u := (if_neg hb).symm.trans z
        cases q
  · let obj : Obj := { cls := .type "list", data := .seq vs.toArray }
    have no : ∀ o, K.lookup a = some o → False := fun o e => hk ⟨o, e⟩
    refine ⟨fun b => if b ∈ Ts then some (.tbl #[]) else if b = a then some (.frz obj (.lst (ns.map V.int))) else none, .inl (.inr ⟨obj, ?_⟩), fun b u z => ?_, fun T hm => if_pos hm, fun b n1 n2 => ?_, .inr ⟨obj, ns.map V.int, ?_⟩, fun o e => (no o e).elim⟩
    · show (if a ∈ Ts then some (HO.tbl #[]) else if a = a then some (.frz obj (.lst (ns.map V.int))) else none) = _
      rw [if_neg neT, if_pos rfl]
    · by_cases hb : b ∈ Ts
      · have q : some (HO.tbl #[]) = some u := (if_pos hb).symm.trans z
        cases q
        exact hT b hb
      · have z2 : (if b = a then some (HO.frz obj (.lst (ns.map V.int))) else none) = some u := (if_neg hb).symm.trans z
        by_cases ha : b = a
        · have q : some (HO.frz obj (.lst (ns.map V.int))) = some u := (if_pos ha).symm.trans z2
          cases q
          rw [ha]
          exact ⟨at_, by rw [List.length_map]; exact hl, vs, _, rv, at_⟩
        · have q : (none : Option HO) = some u := (if_neg ha).symm.trans z2
          cases q
    · show (if b ∈ Ts then some (HO.tbl #[]) else if b = a then some (.frz obj (.lst (ns.map V.int))) else none) = none
      rw [if_neg n2, if_neg n1]
    · show (if a ∈ Ts then some (HO.tbl #[]) else if a = a then some (.frz obj (.lst (ns.map V.int))) else none) = _
      rw [if_neg neT, if_pos rfl]
theorem law_runT {P : Program} {w : World} {K : PySem.W.Frag} {mg mb : Str → Option Value} {k : Nat} {fa a : Addr} {cs : List (Addr × Addr × Str)} {fd : FuncData} {x : Str} {sp : Sp} {s : Shared} {vs : List Value} {ns : List Int} {H : Hp}
    (KX : K.In s.heap) (gl : s.heap.Ns mainGlobals mg) (bl : s.heap.Ns builtinsNs mb) (bb : ∀ x : Str, x ≠ "__name__" → mb x = bootBuiltins x) (lim : s.heap.NoLimit) (gens : s.gens = #[])
    (hT : ∀ p ∈ cs, s.heap.get? p.2.1 = some noTab) (nT : ∀ p ∈ cs, K.lookup p.2.1 = none) (C : ∀ p ∈ cs, PySem.W.CodeHd s.heap p.1 p.2.1)
    (bm : ∃ (bm : Addr) (ob : Obj), mg "__builtins__" = some (.ref bm) ∧ bm ≠ builtinsNs ∧ s.heap.get? bm = some ob ∧ ob.cls = .type "module" ∧ ob.dict = some builtinsNs ∧ ob.data = .plain)
    (at_ : s.heap.get? a = some { cls := .type "list", data := .seq vs.toArray }) (S : StartT P w K s.heap a (cs.map (·.2.1)) ns H) (room : Room k callerA)
    (F : ∀ base : Heap, K.In base → base.Ns mainGlobals mg → (∀ p ∈ cs, TabB base mg p.1 p.2.1) → FnG P w K mg base k fa fd [x] sp) (bi : ∀ (s : Shared) (u : Value), BindsTo s fd ⟨[u], []⟩ [(x, u)])
    (hsp : Tabs (cs.map (·.2)) H → sp [.ref a] H (fun v _ => v = .bl true) fun _ _ _ => False) :
    codeAny (model P w) callerA (.call (.ref fa) ⟨[.ref a], []⟩) (fun r s' => r = .ok (.ret (.bool true)) ∧ OldK s.heap s'.heap ∧ s'.os = s.os ∧ AllBare s'.gens) s := by
  have memT : ∀ T, T ∈ cs.map (·.2.1) → s.heap.get? T = some noTab ∧ K.lookup T = none := fun T h => by
    obtain ⟨p, hp, e⟩ := List.mem_map.mp h
    rw [← e]
    exact ⟨hT p hp, nT p hp⟩
  have hid : ∀ {b : Addr} {o : Obj}, s.heap.get? b = some o → H b = none → (hidT s.heap H).get? b = some o := fun e n => hidT_get e n
  have off : ∀ {b : Addr} {o : Obj}, s.heap.get? b = some o → (∀ us n, o.data ≠ .seq us n) → o.data ≠ .fields #[] → H b = none := fun {b o} e h1 h2 => S.one b (fun z => by
    rw [z, at_] at e
    cases e
    exact h1 _ _ rfl) fun z => by
    rw [(memT b z).1] at e
    cases e
    exact h2 rfl
  have dicts : ∀ {b : Addr} {o : Obj} {es : Array DictEntry} {n : Nat}, s.heap.get? b = some o → o.data = .dict es n → H b = none := fun {b o es n} e dt => off e (fun us m z => by rw [dt] at z; cases z) fun z => by rw [dt] at z; cases z
  have ns_ : ∀ {b : Addr} {m : Str → Option Value}, s.heap.Ns b m → (hidT s.heap H).Ns b m := fun {b m} n => by
    obtain ⟨o, es, ep, e, dt, r⟩ := n
    exact ⟨o, es, ep, hid e (dicts e dt), dt, r⟩
  have inB : K.In (hidT s.heap H) := fun b o e => hid (KX b o e) (by
    by_cases z : b = a
    · rw [z]; rw [z] at e; exact S.out o e
    · exact S.one b z fun y => by rw [(memT b y).2] at e; cases e)
  have TB : ∀ p ∈ cs, TabB (hidT s.heap H) mg p.1 p.2.1 := fun p hp => by
    refine ⟨?_, ?_, fun z => ?_⟩
    · obtain ⟨o, us, file, tf, flags, tg, inF, text, tt, e1, r1, r2, r3, r⟩ := C p hp
      refine ⟨o, us, file, tf, flags, tg, inF, text, tt, hid e1 (off e1 (fun vs n z => by rw [r2] at z; cases z) fun z => ?_), r1, r2, r3, r⟩
      rw [r2] at z
      cases z
      simp at r3
    · obtain ⟨bm, ob, b1, b2, b3, b4, b5, b6⟩ := bm
      refine ⟨bm, ob, b1, b2, fun q => ?_, fun q => ?_, hid b3 (off b3 (fun vs n z => by rw [b6] at z; cases z) fun z => by rw [b6] at z; cases z), b4, b5, b6⟩
      · obtain ⟨o, es, ep, e, dt, _⟩ := gl
        rw [q, e] at b3
        cases b3
        rw [dt] at b6
        cases b6
      · rw [q, hT p hp] at b3
        cases b3
        cases b6
    · obtain ⟨o, es, ep, e, dt, _⟩ := gl
      rw [z, hT p hp] at e
      cases e
      cases dt
  obtain ⟨mc, l1, l2⟩ := lim
  have env0 : Env0 P w K mg (hidT s.heap H) callerA [] s H := {
    frames := rfl
    mod := ⟨inB, ns_ gl, ⟨mb, ns_ bl, bb⟩, ⟨mc, ns_ l1, l2⟩⟩
    bs := fun b o e => of_hidT e
    bsz := Nat.le_of_eq (hidT_size _ _)
    funs := trivial
    frf := fun b z => (List.not_mem_nil (show b ∈ ([] : List Addr) from z)).elim
    hok := S.ok
    bare := .of_eq gens }
  have tabs : Tabs (cs.map (·.2)) H := fun p hp => by
    obtain ⟨q, hq, e⟩ := List.mem_map.mp hp
    rw [← e]
    exact TabS.nil (S.tb _ (List.mem_map.mpr ⟨q, hq, rfl⟩))
  have done := (F _ inB (ns_ gl) TB).run callerA [] s H ⟨[.ref a], []⟩ [.ref a] [.ref a] _ _ room rfl env0 (bi s (.ref a)) (.cons rfl .nil) (hsp tabs)
  refine codeAny_mono done fun res s' h => ?_
  match res, h with
  | .error _, h => exact h.elim
  | .ok .next, h => exact h.elim
  | .ok .brk, h => exact h.elim
  | .ok .cont, h => exact h.elim
  | .ok (.ret u), h =>
    obtain ⟨v, H', sys, bare, un, ok', rel, q⟩ := h
    obtain rfl : v = .bl true := q
    obtain rfl : u = Value.bool true := rel
    have stays : ∀ b o, b ∉ cs.map (·.2.1) → s.heap.get? b = some o → s'.heap.get? b = some o := fun b o n e => by
      by_cases ha : b = a
      · rcases S.aa with z | ⟨ob, xs, z⟩
        · exact un.keep b o e (by rw [ha]; exact z) (fun m => (List.not_mem_nil (show b ∈ ([] : List Addr) from m)).elim) (by simp)
        · rw [← ha] at z
          obtain ⟨p1, _⟩ := S.ok b _ z
          obtain ⟨p2, _⟩ := ok' b _ (un.frzs b ob _ z)
          rw [e] at p1
          cases p1
          exact p2
      · exact un.keep b o e (S.one b ha n) (fun m => (List.not_mem_nil (show b ∈ ([] : List Addr) from m)).elim) (by simp)
    have gmore : ∀ T, T ∈ cs.map (·.2.1) → ∃ more : Array Value, s'.heap.get? T = some { cls := .none, data := .fields more } := fun T hm => by
      obtain ⟨m, z⟩ := un.tbls T #[] (S.tb T hm)
      exact ⟨_, ok' T _ z⟩
    refine ⟨rfl, ⟨fun b o e => ?_, fun b o e => ?_⟩, sys, bare⟩
    · by_cases hb : b ∈ cs.map (·.2.1)
      · obtain ⟨p, hp, ep⟩ := List.mem_map.mp hb
        obtain ⟨more, gm⟩ := gmore b hb
        rw [← ep] at e gm ⊢
        rw [hT p hp] at e
        cases e
        exact .inr (.inl ⟨((C p hp).tab (hT p hp)).isCodeTable, rfl, #[], more, rfl, by rw [Array.empty_append]; exact gm⟩)
      · exact .inl (stays b o hb e)
    · by_cases hb : b ∈ cs.map (·.2.1)
      · obtain ⟨more, gm⟩ := gmore b hb
        exact ⟨_, gm⟩
      · exact ⟨o, stays b o hb e⟩
theorem walk_ofGT {l : PySem.W.OpenLaw} {n k : Nat} {q : Program} {loose : List Str} {XP : (Str → Option Value) → Heap → Prop} {YP : World → Heap → Prop} {d : DefRec} {K : Params → PySem.W.Frag} {x : Str}
    (most : l.most = some n) (small : n ≤ sizeLine) (nodef : d.params.defaults = []) (room : Room k callerA) (hY : ∀ (w : World) (h : Heap), YP w h → (K w.params).In h)
    (F : ∀ (w : World) (mg : Str → Option Value) (fa : Addr) (h : Heap), (K w.params).In h → h.Ns mainGlobals mg → mg d.name = some (.ref fa) →
      ∃ (fd : FuncData) (K1 : PySem.W.Frag) (cs : List (Addr × Addr × Str)) (sp : Sp), K1.In h ∧ (∀ p ∈ cs, h.get? p.2.1 = some noTab) ∧ (∀ p ∈ cs, K1.lookup p.2.1 = none) ∧ (∀ p ∈ cs, PySem.W.CodeHd h p.1 p.2.1) ∧ (∀ (s : Shared) (u : Value), BindsTo s fd ⟨[u], []⟩ [(x, u)]) ∧
        (∀ base : Heap, K1.In base → base.Ns mainGlobals mg → (∀ p ∈ cs, TabB base mg p.1 p.2.1) → FnG l.prog w K1 mg base k fa fd [x] sp) ∧
        ∀ (H : Hp) (a : Addr) (ns : List Int), ns.length ≤ n → SqL K1 H a (ns.map V.int) → Tabs (cs.map (·.2)) H → sp [.ref a] H (fun v _ => v = .bl true) fun _ _ _ => False) :
    PySem.W.WalkO q loose XP YP l.row.toRowW d [] (fun f vs => PySem.call f vs) :=
  Att.attach_call most nodef fun w s0 s1 mg mb fa o pm cd doc a vs ns G Y ho hd hcd hmg hobj hints hlen hg => by
    have KX := hY w _ Y
    obtain ⟨fd, K1, cs, sp, K1X, hT, nT, C, bi, hF, hsp⟩ := F w mg fa _ KX G.T.g hmg
    obtain ⟨H, S⟩ := start_T (P := l.prog) (w := w) (Ts := cs.map (·.2.1)) K1X (fun T h => by obtain ⟨p, hp, e⟩ := List.mem_map.mp h; rw [← e]; exact hT p hp) hobj hints (Nat.le_trans hlen small)
    exact law_runT K1X G.T.g G.T.b G.T.builtins G.T.nolimit hg hT nT C G.T.bmain hobj S room hF bi (hsp H a ns hlen S.sq)
end WL

set_option Elab.async false
set_option linter.all false
set_option maxRecDepth 100000
set_option maxHeartbeats 8000000
namespace WL
open PySem PySem.Spec PyProof.Rows L2 Evl
mutual
inductive Odd (H : Hp) : V → PyData → Prop
  | non : Odd H .non .none
  | bl (b : Bool) : Odd H (.bl b) (.bool b)
  | int (i : Int) : Odd H (.int i) (.int i)
  | str (x : Str) (h : x.length ≤ 20000) : Odd H (.str x) (.str x)
  | lst {a : Addr} {xs : List V} {ds : List PyData} (h : H a = some (.lst xs)) (hz : xs.length ≤ 1000) (r : OddAll H xs ds) : Odd H (.ref a) (.list ds)
  | tup {a : Addr} {xs : List V} {ds : List PyData} (h : H a = some (.tup xs)) (hz : xs.length ≤ 1000) (r : OddAll H xs ds) : Odd H (.ref a) (.tuple ds)
  | dic {a : Addr} (h : H a = some (.dK [])) : Odd H (.ref a) (.dict [])
inductive OddAll (H : Hp) : List V → List PyData → Prop
  | nil : OddAll H [] []
  | cons {v : V} {vs : List V} {d : PyData} {ds : List PyData} : Odd H v d → OddAll H vs ds → OddAll H (v :: vs) (d :: ds)
end
mutual
theorem Odd.on {H H' : Hp} (e : ∀ b o, H b = some o → (∀ ps, o ≠ .tbl ps) → H' b = some o) : ∀ (d : PyData) (v : V), Odd H v d → Odd H' v d
  | .none, _, h => by cases h; exact .non
  | .bool b, _, h => by cases h; exact .bl b
  | .int i, _, h => by cases h; exact .int i
  | .str x, _, h => by cases h with | str x h => exact .str x h
  | .list ds, _, h => by cases h with | lst h hz r => exact .lst (e _ _ h fun ps z => by cases z) hz (OddAll.on e ds _ r)
  | .tuple ds, _, h => by cases h with | tup h hz r => exact .tup (e _ _ h fun ps z => by cases z) hz (OddAll.on e ds _ r)
  | .dict kvs, _, h => by cases h with | dic h => exact .dic (e _ _ h fun ps z => by cases z)
theorem OddAll.on {H H' : Hp} (e : ∀ b o, H b = some o → (∀ ps, o ≠ .tbl ps) → H' b = some o) : ∀ (ds : List PyData) (vs : List V), OddAll H vs ds → OddAll H' vs ds
  | [], _, h => by cases h; exact .nil
  | d :: ds, _, h => by cases h with | cons h r => exact .cons (Odd.on e d _ h) (OddAll.on e ds _ r)
end
theorem Odd.up {H H' : Hp} (e : Ex H H') {v : V} {d : PyData} (h : Odd H v d) : Odd H' v d := h.on fun b o q _ => e b o q
theorem OddAll.up {H H' : Hp} (e : Ex H H') {vs : List V} {ds : List PyData} (h : OddAll H vs ds) : OddAll H' vs ds := h.on fun b o q _ => e b o q
theorem OddAll.zip {H : Hp} : ∀ {vs : List V} {ds : List PyData}, OddAll H vs ds → ∃ as : List (V × PyData), vs = as.map (·.1) ∧ ds = as.map (·.2) ∧ ∀ p ∈ as, Odd H p.1 p.2
  | [], [], _ => ⟨[], rfl, rfl, fun _ h => nomatch h⟩
  | v :: vs, d :: ds, h => by
    cases h with
    | cons h r =>
      obtain ⟨as, e1, e2, e3⟩ := r.zip
      refine ⟨(v, d) :: as, by rw [e1]; rfl, by rw [e2]; rfl, fun p hp => ?_⟩
      rcases List.mem_cons.mp hp with z | z
      · rw [z]; exact h
      · exact e3 p z
def tyN : PyData → String
  | .none => "NoneType"
  | .bool _ => "bool"
  | .int _ => "int"
  | .str _ => "str"
  | .list _ => "list"
  | .tuple _ => "tuple"
  | .dict _ => "dict"
theorem odd_ty {K : PySem.W.Frag} {H : Hp} {v : V} {d : PyData} (h : Odd H v d) : TyX K H v (.type (tyN d)) := by
  cases h with
  | non => exact .base .non
  | bl b => exact .base (.bl b)
  | int i => exact .base (.int i)
  | str x h => exact .base (.str x)
  | lst h _ r => exact .base (.lst h)
  | tup h _ r => exact .base (.tup h)
  | dic h => exact .base (.dK h)
section
variable {K : PySem.W.Frag}
def isI : PyData → Bool
  | .bool _ => true
  | .int _ => true
  | _ => false
theorem k_isI : ∀ d : PyData, PySem.W.kitOne K (.type (tyN d)) (.type "int") = some (isI d)
  | .none => kit_ty (a := "NoneType") (b := "int") (r := false) (by decide +kernel)
  | .bool _ => kit_ty (a := "bool") (b := "int") (r := true) (by decide +kernel)
  | .int _ => kit_ty (a := "int") (b := "int") (r := true) (by decide +kernel)
  | .str _ => kit_ty (a := "str") (b := "int") (r := false) (by decide +kernel)
  | .list _ => kit_ty (a := "list") (b := "int") (r := false) (by decide +kernel)
  | .tuple _ => kit_ty (a := "tuple") (b := "int") (r := false) (by decide +kernel)
  | .dict _ => kit_ty (a := "dict") (b := "int") (r := false) (by decide +kernel)
def isB : PyData → Bool
  | .bool _ => true
  | _ => false
theorem k_isB : ∀ d : PyData, PySem.W.kitOne K (.type (tyN d)) (.type "bool") = some (isB d)
  | .none => kit_ty (a := "NoneType") (b := "bool") (r := false) (by decide +kernel)
  | .bool _ => kit_ty (a := "bool") (b := "bool") (r := true) (by decide +kernel)
  | .int _ => kit_ty (a := "int") (b := "bool") (r := false) (by decide +kernel)
  | .str _ => kit_ty (a := "str") (b := "bool") (r := false) (by decide +kernel)
  | .list _ => kit_ty (a := "list") (b := "bool") (r := false) (by decide +kernel)
  | .tuple _ => kit_ty (a := "tuple") (b := "bool") (r := false) (by decide +kernel)
  | .dict _ => kit_ty (a := "dict") (b := "bool") (r := false) (by decide +kernel)
def isS : PyData → Bool
  | .str _ => true
  | _ => false
theorem k_isS : ∀ d : PyData, PySem.W.kitOne K (.type (tyN d)) (.type "str") = some (isS d)
  | .none => kit_ty (a := "NoneType") (b := "str") (r := false) (by decide +kernel)
  | .bool _ => kit_ty (a := "bool") (b := "str") (r := false) (by decide +kernel)
  | .int _ => kit_ty (a := "int") (b := "str") (r := false) (by decide +kernel)
  | .str _ => kit_ty (a := "str") (b := "str") (r := true) (by decide +kernel)
  | .list _ => kit_ty (a := "list") (b := "str") (r := false) (by decide +kernel)
  | .tuple _ => kit_ty (a := "tuple") (b := "str") (r := false) (by decide +kernel)
  | .dict _ => kit_ty (a := "dict") (b := "str") (r := false) (by decide +kernel)
def isT : PyData → Bool
  | .tuple _ => true
  | _ => false
theorem k_isT : ∀ d : PyData, PySem.W.kitOne K (.type (tyN d)) (.type "tuple") = some (isT d)
  | .none => kit_ty (a := "NoneType") (b := "tuple") (r := false) (by decide +kernel)
  | .bool _ => kit_ty (a := "bool") (b := "tuple") (r := false) (by decide +kernel)
  | .int _ => kit_ty (a := "int") (b := "tuple") (r := false) (by decide +kernel)
  | .str _ => kit_ty (a := "str") (b := "tuple") (r := false) (by decide +kernel)
  | .list _ => kit_ty (a := "list") (b := "tuple") (r := false) (by decide +kernel)
  | .tuple _ => kit_ty (a := "tuple") (b := "tuple") (r := true) (by decide +kernel)
  | .dict _ => kit_ty (a := "dict") (b := "tuple") (r := false) (by decide +kernel)
end
def isIntD : PyData → Int → Int → Bool
  | .int i, lo, hi => decide (lo ≤ i) && decide (i ≤ hi)
  | _, _, _ => false
def isNameD : PyData → Bool
  | .str x => isName x
  | _ => false
def strsD (ds : List PyData) : List Str := ds.filterMap fun d => match d with | .str x => some x | _ => none
def unlikeD (ds : List PyData) : Bool := ds.all isNameD && unlike (strsD ds)
def isHeadD : PyData → Bool
  | .tuple ds => decide ((ds.length : Int) ≤ 3) && unlikeD ds
  | _ => false
def isTableD : PyData → Bool
  | .tuple ds => decide ((ds.length : Int) = 2) && isIntD (ds.getD 1 .none) 0 3
  | _ => false
def fstD : PyData → PyData
  | .tuple ds => ds.getD 0 .none
  | _ => .none
def isTablesD : PyData → Bool
  | .tuple ds => ds.all isTableD && unlikeD (ds.map fstD)
  | _ => false
section
variable {P : Program} {w : World} {K : PySem.W.Frag} {mg : Str → Option Value} {base : Heap}
theorem fn_or {CX : CXT} {k : Nat} {f : Addr} {fd : FuncData} {ps : List Str} {sp1 sp2 : Sp} (F1 : FnOk P w K mg base CX k f fd ps sp1) (F2 : FnOk P w K mg base CX k f fd ps sp2) : FnOk P w K mg base CX k f fd ps (fun vs H Q E => sp1 vs H Q E ∨ sp2 vs H Q E) :=
  ⟨fun vs H Q E h => h.elim (F1.len vs H Q E) (F2.len vs H Q E), fun A outer s H args us vs Q E r e b v h => h.elim (F1.run A outer s H args us vs Q E r e b v) (F2.run A outer s H args us vs Q E r e b v)⟩
def spIntO : Sp := fun vs H Q _ => ∃ (v : V) (d : PyData) (lo hi : Int), vs = [v, .int lo, .int hi] ∧ Odd H v d ∧ RetV (.bl (isIntD d lo hi)) H Q
theorem ok_intO {f : Addr} {fd : FuncData} (F : Fun K "is_integer" "is_integer" sIsInteger f fd) (T : TV K mg) : FnOk P w K mg base CX0 1 f fd ["value", "low", "high"] spIntO := by
  refine F.ok scIsInteger (fun vs H Q E h => ?_) (fun cdv A outer s H vs Q E hr h => ?_)
  · obtain ⟨v, d, lo, hi, rfl, _⟩ := h
    rfl
  · obtain ⟨v, d, lo, hi, rfl, od, k⟩ := h
    refine ⟨_, pss_one (ps_ret (pe_and (pe_callB call_isi (by rfl) T.isi (by decide +kernel) (pa_cons (pv 0) (pa_cons (pe_bltn (v := .ty "int") (by rfl) T.int (by decide +kernel) rfl) pa_nil)))
      (pe_and (pe_not (pe_callB call_isi (by rfl) T.isi (by decide +kernel) (pa_cons (pv 0) (pa_cons (pe_bltn (v := .ty "bool") (by rfl) T.bool (by decide +kernel) rfl) pa_nil))))
        (pe_one (pe_chain op_le op_le (pv 1) (pv 0) (pv 2)))))), ?_⟩
    have ty := odd_ty (K := K) od
    have kI := k_isI (K := K) d
    have kB := k_isB (K := K) d
    cases od with
    | int i => exact s_ret (ev_andV (ev_isi (ev_var rfl) ty kI) fun _ => ev_andV (ev_notV (ev_isi (ev_var rfl) ty kB)) fun _ =>
      ev_chain (ev_var rfl) (ev_var rfl) (ev_var rfl)) fun H1 e => k H1 e
    | bl b => exact s_ret (ev_andV (a := true) (b := false) (ev_isi (ev_var rfl) ty kI) fun _ => ev_andV (a := false) (b := true) (ev_notV (ev_isi (ev_var rfl) ty kB)) fun z => by cases z) fun H1 e => k H1 e
    | non => exact s_ret (ev_andV (a := false) (b := true) (ev_isi (ev_var rfl) ty kI) fun z => by cases z) fun H1 e => k H1 e
    | str x h => exact s_ret (ev_andV (a := false) (b := true) (ev_isi (ev_var rfl) ty kI) fun z => by cases z) fun H1 e => k H1 e
    | lst h _ r => exact s_ret (ev_andV (a := false) (b := true) (ev_isi (ev_var rfl) ty kI) fun z => by cases z) fun H1 e => k H1 e
    | tup h _ r => exact s_ret (ev_andV (a := false) (b := true) (ev_isi (ev_var rfl) ty kI) fun z => by cases z) fun H1 e => k H1 e
    | dic h => exact s_ret (ev_andV (a := false) (b := true) (ev_isi (ev_var rfl) ty kI) fun z => by cases z) fun H1 e => k H1 e
def spNameN : Sp := fun vs H Q _ => ∃ (v : V) (d : PyData), vs = [v] ∧ Odd H v d ∧ (∀ x, d ≠ .str x) ∧ RetV (.bl false) H Q
theorem ok_nameN {f : Addr} {fd : FuncData} (F : Fun K "is_name" "is_name" sIsName f fd) (T : TV K mg) : FnOk P w K mg base CX0 1 f fd ["value"] spNameN := by
  refine F.ok scIsName (fun vs H Q E h => ?_) (fun cdv A outer s H vs Q E hr h => ?_)
  · obtain ⟨v, d, rfl, _⟩ := h
    rfl
  · obtain ⟨v, d, rfl, od, ns, k⟩ := h
    obtain ⟨t1, m1⟩ := T.letters
    obtain ⟨t2, m2⟩ := T.figures
    obtain ⟨t3, m3⟩ := T.signs
    obtain ⟨a4, m4, q4⟩ := T.noNames
    refine ⟨_, pss_cons (ps_if (PW.pt (pw_or (pt_not (pt_val (pe_callB call_isi (by rfl) T.isi (by decide +kernel) (pa_cons (pv 0) (pa_cons (pe_bltn (v := .ty "str") (by rfl) T.str (by decide +kernel) rfl) pa_nil)))))
        (pw_or (pt_not (pt_chain op_le op_le pe_int (pe_callB call_len_str (by rfl) T.len PySem.boot_len (pa_cons (pv 0) pa_nil)) (pe_glob (v := .int 6) rfl m3 ⟨_, rfl⟩)))
          (pw_or1 (pt_cmpR op_in_seq (pv 0) (pe_glob (v := .ref a4) rfl m4 rfl) rfl)))))
        (pss_one (ps_ret pe_bl)) pss_nil)
      (pss_one (ps_ret (pe_and (pe_cmpR op_in_sign (pe_ix ix_str (pv 0) pe_int (fun _ _ => rfl)) (pe_glob (v := .str lettersS) rfl m1 ⟨_, rfl⟩) rfl)
        (pe_one (pe_callB (cr_all rfl) (by rfl) T.all (by decide +kernel) (pa_cons (pe_lc (own := [("sign", 1)]) (g := gName 1) (tt := tYes) rfl scIsName.nd (pi_str (pv 0)) (blkOk_by (N := ["value", "sign"]) (sc := defScope sIsName) (by decide +kernel))
          (fun _ _ _ _ _ => pg_name (i := 1) scIsName.nd rfl (Or.inl rfl)) (fun _ _ _ _ _ => pts_nil)
          (fun _ _ _ _ _ => pe_or (pe_cmpR op_in_sign (pv 1) (pe_glob (v := .str lettersS) rfl m1 ⟨_, rfl⟩) rfl) (pe_one (pe_cmpR op_in_sign (pv 1) (pe_glob (v := .str figuresS) rfl m2 ⟨_, rfl⟩) rfl)))) pa_nil)))))), ?_⟩
    have no : PySem.W.kitOne K (.type (tyN d)) (.type "str") = some false := by
      rw [k_isS d]
      cases d with
      | str x => exact absurd rfl (ns x)
      | _ => rfl
    exact q_when (b := true) (et_or (a := true) (b := true) (et_not (et_B (b := false) (ev_isi (ev_var rfl) (odd_ty od) no))) fun z => by cases z) (fun _ H1 e => s_ret ev_c fun H2 e2 => k H2 (e.trans e2)) (fun z => by cases z)
def spNameO : Sp := fun vs H Q _ => ∃ (v : V) (d : PyData), vs = [v] ∧ Odd H v d ∧ RetV (.bl (isNameD d)) H Q
theorem ok_nameO {f : Addr} {fd : FuncData} (F : Fun K "is_name" "is_name" sIsName f fd) (T : TV K mg) : FnOk P w K mg base CX0 1 f fd ["value"] spNameO := by
  have F2 := fn_or (ok_isName (P := P) (w := w) (base := base) F T) (ok_nameN F T)
  refine ⟨fun vs H Q E h => ?_, fun A outer s H args us vs Q E r e b v h => F2.run A outer s H args us vs Q E r e b v ?_⟩
  · obtain ⟨v, d, rfl, _⟩ := h
    rfl
  · obtain ⟨v, d, rfl, od, k⟩ := h
    cases od with
    | str x h => exact .inl ⟨x, rfl, h, k⟩
    | non => exact .inr ⟨_, _, rfl, .non, (fun x z => by cases z), k⟩
    | bl b => exact .inr ⟨_, _, rfl, .bl b, (fun x z => by cases z), k⟩
    | int i => exact .inr ⟨_, _, rfl, .int i, (fun x z => by cases z), k⟩
    | lst h hz r => exact .inr ⟨_, _, rfl, .lst h hz r, (fun x z => by cases z), k⟩
    | tup h hz r => exact .inr ⟨_, _, rfl, .tup h hz r, (fun x z => by cases z), k⟩
    | dic h => exact .inr ⟨_, _, rfl, .dic h, (fun x z => by cases z), k⟩
def SeqO (H : Hp) (a : Addr) (xs : List V) : Prop := H a = some (.lst xs) ∨ H a = some (.tup xs)
theorem SeqO.sq {H : Hp} {a : Addr} {xs : List V} (h : SeqO H a xs) : SqL K H a xs ∨ SqT K H a xs := h.imp sq_of st_of
def spUnlikeO : Sp := fun vs H Q _ => ∃ (a : Addr) (xs : List V) (ds : List PyData), vs = [.ref a] ∧ SeqO H a xs ∧ OddAll H xs ds ∧ xs.length ≤ 1000 ∧ RetV (.bl (unlikeD ds)) H Q
theorem strs_of {H : Hp} : ∀ {xs : List V} {ds : List PyData}, OddAll H xs ds → ds.all isNameD = true → xs = (strsD ds).map V.str ∧ (∀ x ∈ strsD ds, x.length ≤ 20000) ∧ (strsD ds).length = ds.length
  | [], [], _, _ => ⟨rfl, (fun _ h => by cases h), rfl⟩
  | v :: vs, d :: ds, h, ha => by
    rw [List.all_cons, Bool.and_eq_true] at ha
    cases h with
    | cons h r =>
      obtain ⟨e1, e2, e3⟩ := strs_of r ha.2
      cases h with
      | str x hx =>
        refine ⟨by rw [e1]; rfl, fun y hy => ?_, by show (strsD ds).length + 1 = ds.length + 1; rw [e3]⟩
        rcases List.mem_cons.mp hy with z | z
        · rw [z]; exact hx
        · exact e2 y z
      | non => cases ha.1
      | bl b => cases ha.1
      | int i => cases ha.1
      | lst _ _ _ => cases ha.1
      | tup _ _ _ => cases ha.1
      | dic _ => cases ha.1
def spUnlikeN : Sp := fun vs H Q _ => ∃ (a : Addr) (xs : List V) (ds : List PyData), vs = [.ref a] ∧ SeqO H a xs ∧ OddAll H xs ds ∧ xs.length ≤ 1000 ∧ ds.all isNameD = false ∧ RetV (.bl false) H Q
theorem ok_unlikeN {f g : Addr} {fd gd : FuncData} (F : Fun K "are_unlike_names" "are_unlike_names" sAreUnlikeNames f fd) (T : TV K mg) (G : FVal P w K mg base "is_name" g gd 1 ["value"] spNameO) :
    FnOk P w K mg base CX0 2 f fd ["values"] spUnlikeN := by
  refine F.ok scAreUnlikeNames (fun vs H Q E h => ?_) (fun cdv A outer s H vs Q E hr h => ?_)
  · obtain ⟨a, xs, ds, rfl, _⟩ := h
    rfl
  · obtain ⟨a, xs, ds, rfl, hs, od, hl, no, k⟩ := h
    refine ⟨_, pss_one (ps_ret (pe_and (pe_callB (cr_all rfl) (by rfl) T.all (by decide +kernel) (pa_cons (pe_lc (own := [("value", 1)]) (g := gName 1) (tt := tYes) (te := tCall spNameO [] E0 (tCons (tVar 1) tNil)) rfl scAreUnlikeNames.nd (pi_q (pv 0)) (blkOk_by (N := ["values", "value"]) (sc := defScope sAreUnlikeNames) (by decide +kernel))
          (fun _ _ _ _ _ => pg_name (i := 1) scAreUnlikeNames.nd rfl (Or.inl rfl)) (fun _ _ _ _ _ => pts_nil) (fun _ _ _ _ _ => pe_call G.ok hr (by rfl) G.mg G.kp G.b .nil pass0 (pa_cons (pv 1) pa_nil))) pa_nil))
        (pe_one (pe_cmpR op_eq (pe_callB cr_lenSet (by rfl) T.len PySem.boot_len (pa_cons (pe_callTy (cr_mkSet rfl) (by rfl) T.set (by decide +kernel) (pa_cons (pv 0) pa_nil)) pa_nil)) (pe_callB call_len_seq (by rfl) T.len PySem.boot_len (pa_cons (pv 0) pa_nil)) (nomark _))))), ?_⟩
    obtain ⟨as, e1, e2, e3⟩ := od.zip
    subst e1 e2
    have allE : ((as.map fun p => isNameD p.2).all id) = false := by
      rw [List.all_map] at no ⊢
      exact no
    refine s_ret (ev_andV (a := false) (b := true) (ev_allL (v := .bl false) (bs := as.map fun p => isNameD p.2) ?_ fun a H1 Q ha q => ⟨a, _, rfl, sq_of ha, by rw [allE]; exact q⟩) fun z => by cases z) fun H2 e2 => k H2 e2
    have q := el_lcQ (K := K) (σ := L2.start ["values", "value"] [V.ref a]) (H := H) (as := as) (c := fun p => p.1) (te := tVar 0) (j := 1) (vs := [1]) (t := tYes) (tv := tCall spNameO [] E0 (tCons (tVar 1) tNil)) (fun _ => true) (fun p => .bl (isNameD p.2)) (ev_var rfl) hs.sq (by rw [List.length_map] at hl; omega) (fun _ => rfl)
      (fun c _ H2 _ H3 _ Q q => q H3 (Ex.refl _)) (fun p hp H2 e _ => ev_call (ea_cons (ev_var rfl) ea_nil) fun H3 e3' Q q E => ⟨p.1, p.2, rfl, (e3 p hp).up (e.trans e3'), q⟩)
    rw [all_true] at q
    rw [List.map_map]
    exact q
theorem ok_unlikeO {f g : Addr} {fd gd : FuncData} (F : Fun K "are_unlike_names" "are_unlike_names" sAreUnlikeNames f fd) (T : TV K mg) (G : FVal P w K mg base "is_name" g gd 1 ["value"] spNameO) (G1 : FVal P w K mg base "is_name" g gd 1 ["value"] spIsName) :
    FnOk P w K mg base CX0 2 f fd ["values"] spUnlikeO := by
  have F2 := fn_or (ok_unlike F T G1) (ok_unlikeN F T G)
  refine ⟨fun vs H Q E h => ?_, fun A outer s H args us vs Q E r e b v h => F2.run A outer s H args us vs Q E r e b v ?_⟩
  · obtain ⟨a, xs, ds, rfl, _⟩ := h
    rfl
  · obtain ⟨a, xs, ds, rfl, hs, od, hl, k⟩ := h
    cases q : ds.all isNameD with
    | true =>
      obtain ⟨e1, e2, e3⟩ := strs_of od q
      have k' : RetV (.bl (unlike (strsD ds))) H Q := by
        unfold unlikeD at k
        rw [q, Bool.true_and] at k
        exact k
      subst e1
      exact .inl ⟨a, strsD ds, rfl, hs.sq, by rw [List.length_map] at hl; omega, e2, k'⟩
    | false =>
      refine .inr ⟨a, xs, ds, rfl, hs, od, hl, q, ?_⟩
      unfold unlikeD at k
      rw [q, Bool.false_and] at k
      exact k
end
end WL

set_option Elab.async false
set_option linter.all false
set_option maxRecDepth 100000
set_option maxHeartbeats 8000000
namespace WL
open PySem PySem.Spec PyProof.Rows L2 Evl
theorem OddAll.len {H : Hp} : ∀ {vs : List V} {ds : List PyData}, OddAll H vs ds → vs.length = ds.length
  | [], [], _ => rfl
  | v :: vs, d :: ds, h => by
    cases h with
    | cons h r => show vs.length + 1 = ds.length + 1; rw [r.len]
theorem OddAll.get {H : Hp} : ∀ {vs : List V} {ds : List PyData}, OddAll H vs ds → ∀ i : Nat, i < vs.length → ∃ v, vs[i]? = some v ∧ Odd H v (ds.getD i .none)
  | v :: vs, d :: ds, h, 0, _ => by
    cases h with
    | cons h r => exact ⟨v, rfl, h⟩
  | v :: vs, d :: ds, h, i + 1, hi => by
    cases h with
    | cons h r => exact r.get i (Nat.lt_of_succ_lt_succ hi)
section
variable {P : Program} {w : World} {K : PySem.W.Frag} {mg : Str → Option Value} {base : Heap}
def spHeadO : Sp := fun vs H Q _ => ∃ (v : V) (d : PyData), vs = [v] ∧ Odd H v d ∧ RetV (.bl (isHeadD d)) H Q
theorem ok_headO {f g : Addr} {fd gd : FuncData} (F : Fun K "is_head" "is_head" sIsHead f fd) (T : TV K mg) (G : FVal P w K mg base "are_unlike_names" g gd 2 ["values"] spUnlikeO) :
    FnOk P w K mg base CX0 3 f fd ["value"] spHeadO := by
  refine F.ok scIsHead (fun vs H Q E h => ?_) (fun cdv A outer s H vs Q E hr h => ?_)
  · obtain ⟨v, d, rfl, _⟩ := h
    rfl
  · obtain ⟨v, d, rfl, od, k⟩ := h
    obtain ⟨t3, m3⟩ := T.inRow
    refine ⟨_, pss_one (ps_ret (pe_and (pe_callB call_isi (by rfl) T.isi (by decide +kernel) (pa_cons (pv 0) (pa_cons (pe_bltn (v := .ty "tuple") (by rfl) T.tuple (by decide +kernel) rfl) pa_nil)))
      (pe_and (pe_cmpR op_le (pe_callB call_len_seq (by rfl) T.len PySem.boot_len (pa_cons (pv 0) pa_nil)) (pe_glob (v := .int 3) rfl m3 ⟨_, rfl⟩) (nomark _))
        (pe_one (pe_call G.ok hr (by rfl) G.mg G.kp G.b .nil pass0 (pa_cons (pv 0) pa_nil)))))), ?_⟩
    have ty := odd_ty (K := K) od
    have kT := k_isT (K := K) d
    cases od with
    | tup h hz r =>
      have hl := r.len
      refine s_ret (ev_andV (ev_isi (ev_var rfl) ty kT) fun _ => ev_andV (ev_op (ev_lenQ (K := K) (eq_t (ev_var rfl) (st_of h))) ev_c rv_I0) fun _ =>
        ev_call (ea_cons (ev_var rfl) ea_nil) fun H1 e Q q E => ⟨_, _, _, rfl, .inr (e _ _ h), r.up e, hz, q⟩) fun H2 e2 => ?_
      have q := k H2 e2
      unfold isHeadD at q
      rw [hl]
      exact q
    | non => exact s_ret (ev_andV (a := false) (b := true) (ev_isi (ev_var rfl) ty kT) fun z => by cases z) fun H1 e => k H1 e
    | bl b => exact s_ret (ev_andV (a := false) (b := true) (ev_isi (ev_var rfl) ty kT) fun z => by cases z) fun H1 e => k H1 e
    | int i => exact s_ret (ev_andV (a := false) (b := true) (ev_isi (ev_var rfl) ty kT) fun z => by cases z) fun H1 e => k H1 e
    | str x h => exact s_ret (ev_andV (a := false) (b := true) (ev_isi (ev_var rfl) ty kT) fun z => by cases z) fun H1 e => k H1 e
    | lst h _ r => exact s_ret (ev_andV (a := false) (b := true) (ev_isi (ev_var rfl) ty kT) fun z => by cases z) fun H1 e => k H1 e
    | dic h => exact s_ret (ev_andV (a := false) (b := true) (ev_isi (ev_var rfl) ty kT) fun z => by cases z) fun H1 e => k H1 e
def spTableO : Sp := fun vs H Q _ => ∃ (v : V) (d : PyData), vs = [v] ∧ Odd H v d ∧ RetV (.bl (isTableD d)) H Q
theorem ok_tableO {f g : Addr} {fd gd : FuncData} (F : Fun K "is_table" "is_table" sIsTable f fd) (T : TV K mg) (G : FVal P w K mg base "is_integer" g gd 1 ["value", "low", "high"] spIntO) :
    FnOk P w K mg base CX0 2 f fd ["value"] spTableO := by
  refine F.ok scIsTable (fun vs H Q E h => ?_) (fun cdv A outer s H vs Q E hr h => ?_)
  · obtain ⟨v, d, rfl, _⟩ := h
    rfl
  · obtain ⟨v, d, rfl, od, k⟩ := h
    obtain ⟨t3, m3⟩ := T.inRow
    refine ⟨_, pss_one (ps_ret (pe_and (pe_callB call_isi (by rfl) T.isi (by decide +kernel) (pa_cons (pv 0) (pa_cons (pe_bltn (v := .ty "tuple") (by rfl) T.tuple (by decide +kernel) rfl) pa_nil)))
      (pe_and (pe_cmpR op_eq (pe_callB call_len_seq (by rfl) T.len PySem.boot_len (pa_cons (pv 0) pa_nil)) pe_int (nomark _))
        (pe_one (pe_call G.ok hr (by rfl) G.mg G.kp G.b .nil pass0 (pa_cons (pe_ix ix_tup (pv 0) pe_int (fun _ _ => rfl)) (pa_cons pe_int (pa_cons (pe_glob (v := .int 3) rfl m3 ⟨_, rfl⟩) pa_nil)))))))), ?_⟩
    have ty := odd_ty (K := K) od
    have kT := k_isT (K := K) d
    cases od with
    | @tup a xs ds h hz r =>
      have hl := r.len
      have eqv : decide (V.int ((xs.length : Nat) : Int) = V.int 2) = decide ((ds.length : Int) = 2) := by rw [dec_int, hl]
      by_cases c : (ds.length : Int) = 2
      · obtain ⟨v, hv, ov⟩ := r.get 1 (by omega)
        refine s_ret (ev_andV (ev_isi (ev_var rfl) ty kT) fun _ => ev_andV (a := true) (b := isIntD (ds.getD 1 .none) 0 3) (ev_op (ev_lenQ (K := K) (eq_t (ev_var rfl) (st_of h))) ev_c (by
            have z := rv_eq (H := H) (x := V.int ((xs.length : Nat) : Int)) (y := V.int 2) rfl
            rw [eqv, decide_eq_true c] at z
            exact z)) fun _ =>
          ev_call (ea_cons (ev_op (ev_var rfl) ev_c (rv_ixT (st_of h) (atI_nat (j := 1) hv))) (ea_cons ev_c (ea_cons ev_c ea_nil))) fun H1 e Q q E => ⟨v, _, 0, 3, rfl, ov.up e, q⟩) fun H2 e2 => ?_
        have q : Q (.bl (decide ((ds.length : Int) = 2) && isIntD (ds.getD 1 .none) 0 3)) H2 := k H2 e2
        rw [decide_eq_true c] at q
        exact q
      · refine s_ret (ev_andV (ev_isi (ev_var rfl) ty kT) fun _ => ev_andV (a := false) (b := true) (ev_op (ev_lenQ (K := K) (eq_t (ev_var rfl) (st_of h))) ev_c (by
            have z := rv_eq (H := H) (x := V.int ((xs.length : Nat) : Int)) (y := V.int 2) rfl
            rw [eqv, decide_eq_false c] at z
            exact z)) fun z => by cases z) fun H2 e2 => ?_
        have q : Q (.bl (decide ((ds.length : Int) = 2) && isIntD (ds.getD 1 .none) 0 3)) H2 := k H2 e2
        rw [decide_eq_false c] at q
        exact q
    | non => exact s_ret (ev_andV (a := false) (b := true) (ev_isi (ev_var rfl) ty kT) fun z => by cases z) fun H1 e => k H1 e
    | bl b => exact s_ret (ev_andV (a := false) (b := true) (ev_isi (ev_var rfl) ty kT) fun z => by cases z) fun H1 e => k H1 e
    | int i => exact s_ret (ev_andV (a := false) (b := true) (ev_isi (ev_var rfl) ty kT) fun z => by cases z) fun H1 e => k H1 e
    | str x h => exact s_ret (ev_andV (a := false) (b := true) (ev_isi (ev_var rfl) ty kT) fun z => by cases z) fun H1 e => k H1 e
    | lst h _ r => exact s_ret (ev_andV (a := false) (b := true) (ev_isi (ev_var rfl) ty kT) fun z => by cases z) fun H1 e => k H1 e
    | dic h => exact s_ret (ev_andV (a := false) (b := true) (ev_isi (ev_var rfl) ty kT) fun z => by cases z) fun H1 e => k H1 e
end
end WL

set_option Elab.async false
set_option linter.all false
set_option maxRecDepth 100000
set_option maxHeartbeats 8000000
namespace WL
open PySem PySem.Spec PyProof.Rows L2 Evl
theorem isTableD_tuple {d : PyData} (h : isTableD d = true) : ∃ d0 d1, d = .tuple [d0, d1] ∧ isIntD d1 0 3 = true := by
  cases d with
  | tuple ds =>
    have h' : (decide ((ds.length : Int) = 2) && isIntD (ds.getD 1 .none) 0 3) = true := h
    rw [Bool.and_eq_true] at h'
    have l := of_decide_eq_true h'.1
    match ds, l, h' with
    | [d0, d1], _, h' => exact ⟨d0, d1, rfl, h'.2⟩
    | [], l, _ => cases l
    | [_], l, _ => cases l
    | _ :: _ :: _ :: _, l, _ => simp only [List.length_cons] at l; omega
  | none => cases h
  | bool b => cases h
  | int i => cases h
  | str x => cases h
  | list l => cases h
  | dict l => cases h
structure TabO where
  (a : Addr) (v0 v1 : V) (d0 d1 : PyData)
def TabOAt (H : Hp) (t : TabO) : Prop := H t.a = some (.tup [t.v0, t.v1]) ∧ Odd H t.v0 t.d0 ∧ Odd H t.v1 t.d1
theorem TabOAt.up {H H' : Hp} (e : Ex H H') {t : TabO} (h : TabOAt H t) : TabOAt H' t := ⟨e _ _ h.1, h.2.1.up e, h.2.2.up e⟩
theorem tabs_ofO {H : Hp} : ∀ {vs : List V} {ds : List PyData}, OddAll H vs ds → ds.all isTableD = true → ∃ ts : List TabO, vs = ts.map (fun t => V.ref t.a) ∧ ds = ts.map (fun t => PyData.tuple [t.d0, t.d1]) ∧ ∀ t ∈ ts, TabOAt H t
  | [], [], _, _ => ⟨[], rfl, rfl, fun _ h => by cases h⟩
  | v :: vs, d :: ds, h, ha => by
    rw [List.all_cons, Bool.and_eq_true] at ha
    cases h with
    | cons h r =>
      obtain ⟨ts, e1, e2, e3⟩ := tabs_ofO r ha.2
      obtain ⟨d0, d1, rfl, _⟩ := isTableD_tuple ha.1
      cases h with
      | @tup a xs _ h hz r' =>
        cases r' with
        | @cons v0 vs0 _ _ o0 r1 =>
          cases r1 with
          | @cons v1 vs1 _ _ o1 r2 =>
            cases r2 with
            | nil =>
              refine ⟨⟨a, v0, v1, d0, d1⟩ :: ts, by rw [e1]; rfl, by rw [e2]; rfl, fun t ht => ?_⟩
              rcases List.mem_cons.mp ht with z | z
              · rw [z]; exact ⟨h, o0, o1⟩
              · exact e3 t z
theorem OddAll.ofMap {H : Hp} {α : Type} {f : α → V} {g : α → PyData} : ∀ {ts : List α}, (∀ t ∈ ts, Odd H (f t) (g t)) → OddAll H (ts.map f) (ts.map g)
  | [], _ => .nil
  | t :: ts, h => .cons (h t (List.mem_cons_self ..)) (OddAll.ofMap fun u hu => h u (List.mem_cons_of_mem _ hu))
section
variable {P : Program} {w : World} {K : PySem.W.Frag} {mg : Str → Option Value} {base : Heap}
def spTablesO : Sp := fun vs H Q _ => ∃ (v : V) (d : PyData), vs = [v] ∧ Odd H v d ∧ RetV (.bl (isTablesD d)) H Q
theorem ok_tablesO {f g g2 : Addr} {fd gd gd2 : FuncData} (F : Fun K "is_tables" "is_tables" sIsTables f fd) (T : TV K mg) (G : FVal P w K mg base "is_table" g gd 2 ["value"] spTableO) (G2 : FVal P w K mg base "are_unlike_names" g2 gd2 2 ["values"] spUnlikeO) :
    FnOk P w K mg base CX0 3 f fd ["value"] spTablesO := by
  refine F.ok scIsTables (fun vs H Q E h => ?_) (fun cdv A outer s H vs Q E hr h => ?_)
  · obtain ⟨v, d, rfl, _⟩ := h
    rfl
  · obtain ⟨v, d, rfl, od, k⟩ := h
    refine ⟨_, pss_cons (ps_if (PW.pt (pw_or (pt_not (pt_val (pe_callB call_isi (by rfl) T.isi (by decide +kernel) (pa_cons (pv 0) (pa_cons (pe_bltn (v := .ty "tuple") (by rfl) T.tuple (by decide +kernel) rfl) pa_nil)))))
        (pw_or1 (pt_not (pt_val (pe_callB (cr_all rfl) (by rfl) T.all (by decide +kernel) (pa_cons (pe_lc (own := [("table", 1)]) (g := gName 1) (tt := tYes) rfl scIsTables.nd (pi_tup (pv 0)) (blkOk_by (N := ["value", "table", "name", "_"]) (sc := defScope sIsTables) (by decide +kernel))
          (fun _ _ _ _ _ => pg_name (i := 1) scIsTables.nd rfl (Or.inl rfl)) (fun _ _ _ _ _ => pts_nil) (fun _ _ _ _ _ => pe_call G.ok hr (by rfl) G.mg G.kp G.b .nil pass0 (pa_cons (pv 1) pa_nil))) pa_nil)))))))
        (pss_one (ps_ret pe_bl)) pss_nil)
      (pss_one (ps_ret (pe_call G2.ok hr (by rfl) G2.mg G2.kp G2.b .nil pass0 (pa_cons (pe_lc (own := [("name", 2), ("_", 3)]) (g := gTup K 2 (gCons (gName 2) (gCons (gName 3) gNil))) (tt := tYes) rfl scIsTables.nd (pi_tup (pv 0)) (blkOk_by (N := ["value", "table", "name", "_"]) (sc := defScope sIsTables) (by decide +kernel))
          (fun _ _ _ _ _ => pg_tup rfl (pgs_cons (pg_name (i := 2) scIsTables.nd rfl (Or.inl rfl)) (pgs_cons (pg_name (i := 3) scIsTables.nd rfl (Or.inl rfl)) pgs_nil))) (fun _ _ _ _ _ => pts_nil) (fun _ _ _ _ _ => pv 2)) pa_nil)))), ?_⟩
    have ty := odd_ty (K := K) od
    have kT := k_isT (K := K) d
    have no : isT d = false → isTablesD d = false := fun h => by
      cases d with
      | tuple _ => cases h
      | _ => rfl
    cases od with
    | @tup a xs ds h hz r =>
      obtain ⟨as, x1, x2, x3⟩ := r.zip
      have bs : as.map (fun p => isTableD p.2) = ds.map isTableD := by rw [x2, List.map_map]; rfl
      have allE : ((as.map fun p => isTableD p.2).all id) = ds.all isTableD := by
        rw [bs, List.all_map]
        rfl
      have ev : EvL (tLc (iTup K (tVar 0)) (gName 1) tYes (tCall spTableO [] E0 (tCons (tVar 1) tNil)) [1]) (L2.start ["value", "table", "name", "_"] [V.ref a]) H ((as.map fun p => isTableD p.2).map V.bl) := by
        have q := el_lcA (σ := L2.start ["value", "table", "name", "_"] [V.ref a]) (H := H) (as := as) (c := fun p => p.1) (j := 1) (vs := [1]) (t := tYes) (te := tCall spTableO [] E0 (tCons (tVar 1) tNil)) (wi := iTup K (tVar 0))
          (fun _ => true) (fun p => .bl (isTableD p.2)) (wi_tup (ev_var rfl) (x1 ▸ st_of h)) walk_tupA (fun H1 e => ex_t e (x1 ▸ st_of h)) (by rw [x1, List.length_map] at hz; omega) (fun _ => rfl) (fun c _ H2 _ H3 _ Q q => q H3 (Ex.refl _))
          (fun p hp H2 e2 _ => ev_call (ea_cons (ev_var rfl) ea_nil) fun H3 e3 Q q E => ⟨p.1, p.2, rfl, (x3 p hp).up (e2.trans e3), q⟩)
        rw [all_true] at q
        rw [List.map_map]
        exact q
      refine q_when (b := !(ds.all isTableD)) (et_or (a := false) (b := !(ds.all isTableD)) (et_not (et_B (b := true) (ev_isi (ev_var rfl) ty kT))) fun _ => et_not (et_B (ev_allL ev fun a H1 Q ha q => ⟨a, _, rfl, sq_of ha, by rw [allE]; exact q⟩))) (fun hb H1 e => ?_) (fun hb H1 e => ?_)
      · refine s_ret ev_c fun H2 e2 => ?_
        have hb' : ds.all isTableD = false := by cases c : ds.all isTableD with
          | true => rw [c] at hb; cases hb
          | false => rfl
        have q : Q (.bl (ds.all isTableD && unlikeD (ds.map fstD))) H2 := k H2 (e.trans e2)
        rw [hb'] at q
        exact q
      · have hb' : ds.all isTableD = true := by cases c : ds.all isTableD with
          | false => rw [c] at hb; cases hb
          | true => rfl
        obtain ⟨ts, y1, y2, y3⟩ := tabs_ofO r hb'
        have hn : ts.length ≤ 1000 := by rw [y1, List.length_map] at hz; exact hz
        have names : EvL (tLc (iTup K (tVar 0)) (gTup K 2 (gCons (gName 2) (gCons (gName 3) gNil))) tYes (tVar 2) [2, 3]) (L2.start ["value", "table", "name", "_"] [V.ref a]) H1 (ts.map fun t => t.v0) := by
          have q := el_lcG (σ := L2.start ["value", "table", "name", "_"] [V.ref a]) (H := H1) (as := ts) (c := fun t => V.ref t.a) (vs := [2, 3]) (t := tYes) (tv := tVar 2) (wi := iTup K (tVar 0)) (g := gTup K 2 (gCons (gName 2) (gCons (gName 3) gNil)))
            (fun t => [some (V.ref a), none, some t.v0, some t.v1]) (fun _ => true) (fun t => t.v0) (wi_tup (ev_var rfl) (ex_t e (y1 ▸ st_of h))) walk_tupA (fun H2 e2 => ex_t (e.trans e2) (y1 ▸ st_of h)) (by omega)
            (fun t ht H2 e2 R r => g_pair (st_of ((e.trans e2) _ _ (y3 t ht).1)) r) (fun _ _ => rfl) (fun c _ H2 _ H3 _ Q q => q H3 (Ex.refl _)) (fun t ht H2 e2 _ => ev_var rfl)
          rw [all_true] at q
          exact q
        refine s_retCallL names fun p H2 hp e2 h2 => ⟨p, _, ds.map fstD, rfl, .inl h2, ?_, by rw [List.length_map]; exact hn, fun H3 e3 => ?_⟩
        · rw [y2, List.map_map]
          exact OddAll.ofMap fun t ht => ((y3 t ht).2.1).up (e.trans e2)
        · have q : Q (.bl (ds.all isTableD && unlikeD (ds.map fstD))) H3 := k H3 ((e.trans e2).trans e3)
          rw [hb'] at q
          exact q
    | non => exact q_when (b := true) (et_or (a := true) (b := true) (et_not (et_B (b := false) (ev_isi (ev_var rfl) ty kT))) fun z => by cases z) (fun _ H1 e => s_ret ev_c fun H2 e2 => k H2 (e.trans e2)) (fun z => by cases z)
    | bl b => exact q_when (b := true) (et_or (a := true) (b := true) (et_not (et_B (b := false) (ev_isi (ev_var rfl) ty kT))) fun z => by cases z) (fun _ H1 e => s_ret ev_c fun H2 e2 => k H2 (e.trans e2)) (fun z => by cases z)
    | int i => exact q_when (b := true) (et_or (a := true) (b := true) (et_not (et_B (b := false) (ev_isi (ev_var rfl) ty kT))) fun z => by cases z) (fun _ H1 e => s_ret ev_c fun H2 e2 => k H2 (e.trans e2)) (fun z => by cases z)
    | str x h => exact q_when (b := true) (et_or (a := true) (b := true) (et_not (et_B (b := false) (ev_isi (ev_var rfl) ty kT))) fun z => by cases z) (fun _ H1 e => s_ret ev_c fun H2 e2 => k H2 (e.trans e2)) (fun z => by cases z)
    | lst h _ r => exact q_when (b := true) (et_or (a := true) (b := true) (et_not (et_B (b := false) (ev_isi (ev_var rfl) ty kT))) fun z => by cases z) (fun _ H1 e => s_ret ev_c fun H2 e2 => k H2 (e.trans e2)) (fun z => by cases z)
    | dic h => exact q_when (b := true) (et_or (a := true) (b := true) (et_not (et_B (b := false) (ev_isi (ev_var rfl) ty kT))) fun z => by cases z) (fun _ H1 e => s_ret ev_c fun H2 e2 => k H2 (e.trans e2)) (fun z => by cases z)
end
end WL

set_option Elab.async false
set_option linter.all false
set_option maxRecDepth 100000
set_option maxHeartbeats 4000000
namespace XC
open PySem PySem.Spec PyProof.Rows L2
section
variable {M : Model} {A : Around} {E : Value → Shared → Prop} {env : Env} {s : Shared}
def Behind (M : Model) (A : Around) (E : Value → Shared → Prop) (Q : Value → Shared → Prop) (acc : Value) (ce : Env) (r : Result) (s' : Shared) : Prop :=
  ∃ m, s'.heap.Ns ce.locals m ∧ ∀ h' m', h'.Ns ce.locals m' → Heap.SameBut ce.locals s'.heap h' → match r with
    | .ok _ => Q acc { s' with heap := h' }
    | .error x => wpAny M A (passOn "comprehension.variables-let-go" x ce : Sem Value) (fun _ _ => False) E { s' with heap := h' }
theorem comp_run {e : Expr} {scope : Scope} {pos : Pos} {newAcc first : Sem Value} {g : Comprehension} {gs : List Comprehension} {cl : List (Str × Addr)} {Q : Value → Shared → Prop}
    (one : clausesOf e = g :: gs) (fold : ∀ x, foldedSetIterable g.iter env x = pure x) (clo : closureFor scope env = pure cl) (fn : scope.kind = .function) (loc : ∀ x ∈ scope.names, x.2 = .local → scope.names.lookup x.1 = some .local)
    (h : wpAny M A first (fun x s1 => wpAny M A (pyIter x) (fun it s2 => wpAny M A newAcc (fun acc s3 => wpAny M A (newFunctionEnv scope env.globals cl [] env.qual none .none (some env)) (fun ce s4 =>
      codeAny M A (.compStart e 0 it acc { ce with scope := relabel scope env }) (Behind M A E Q acc { ce with scope := relabel scope env }) s4) E s3) E s2) E s1) E s) :
    wpAny M A (comprehension e scope env pos newAcc false first none) Q E s := by
  unfold comprehension
  rw [clo, one]
  apply wpAny_bind
  refine wpAny_mono h ?_ fun _ _ z => z
  intro x s1 h1
  refine wpAny_bind (wpAny_standAt (wpAny_bind (wpAny_of_eq (fold x) ?_)))
  apply wpAny_bind
  refine wpAny_holding (wpAny_mono h1 ?_ fun _ _ z => z)
  intro it s2 h2
  refine wpAny_standIf (wpAny_bind (wpAny_mono h2 ?_ fun _ _ z => z))
  intro acc s3 h3
  refine wpAny_bind (wpAny_pure (wpAny_bind (wpAny_mono h3 ?_ fun _ _ z => z)))
  intro ce s4 h4
  dsimp only
  have own : ∀ y ∈ (scope.names.filter fun y => (y.2 == .local || y.2 == .cell) && y.1 != (".0" : Str)).reverse, y.2 = .local → Env.kindOf { ce with scope := relabel scope env } y.1 = some .local := fun y hy hl =>
    lookup_relabel_local (loc y (List.mem_filter.mp (List.mem_reverse.mp hy)).1 hl)
  refine wpAny_holding (wpAny_bind (wpAny_attempt (wpAny_holding (wpAny_run (codeAny_mono h4 ?_)))))
  intro r s5 ⟨m, hn, hr⟩
  cases r with
  | ok f =>
    refine wpAny_bind (wpAny_holding (wpAny_comp_letGo (cenv := { ce with scope := relabel scope env }) fn _ s5 m own hn ?_))
    intro h' m' n' same
    exact wpAny_pure (hr h' m' n' same)
  | error x =>
    refine wpAny_bind (wpAny_holding (wpAny_comp_letGo (cenv := { ce with scope := relabel scope env }) fn _ s5 m own hn ?_))
    intro h' m' n' same
    exact wpAny_mono (hr h' m' n' same) (fun _ _ f => f.elim) fun _ _ y => y
end
end XC

set_option Elab.async false
set_option linter.all false
set_option maxRecDepth 100000
set_option maxHeartbeats 4000000
namespace XC
open PySem PySem.Spec PyProof.Rows L2
def XEC (X : Cx) (W : WX) (C : Addr) (u : Value) (s' : Shared) : Prop :=
  ∃ (a : Addr) (B : Heap) (sI : Shared) (pins : List (Addr × Obj)) (σ : L2.St) (H : Hp) (cls : Value) (d : Option Addr),
    u = .ref a ∧ Inv X pins σ H sI ∧ (∀ b o, sI.heap.get? b = some o → b ∉ frs X.stack → B.get? b = some o) ∧ sI.heap.UpToSlots s'.heap ∧
      Sky B X.stack a (Zc cls d) X.env.locals s'.heap ∧ H a = none ∧ s'.os = sI.os ∧ AllBare s'.gens ∧ W cls d σ H ∧ B.get? C = none ∧ sI.heap.get? C = none ∧ C ∉ frs X.stack ∧ ∃ m, s'.heap.Ns C m
theorem XEC.xe {X : Cx} {W : WX} {C : Addr} {u : Value} {s' : Shared} (x : XEC X W C u s') : XE X W u s' := by
  obtain ⟨a, B, sI, pins, σ, H, cls, d, e, I, nb, up, sky, na, os, ag, w, _⟩ := x
  exact ⟨a, B, sI, pins, σ, H, cls, d, e, I, nb, up, sky, na, os, ag, w⟩
theorem frames_but {B h h' : Heap} {C : Addr} (k : ∀ b, b ≠ C → h'.get? b = h.get? b) : ∀ {l : List Env}, C ∉ frs l → h.FunFrames B l → h'.FunFrames B l
  | [], _, _ => trivial
  | env :: l, hn, ⟨hk, ⟨L, o, hf, e1, e2, e3⟩, hr⟩ => by
    have hL : L ≠ C := fun z => hn (List.mem_filterMap.mpr ⟨env, List.mem_cons_self, by rw [hf, z]⟩)
    refine ⟨hk, ⟨L, o, hf, e1, (k L hL).trans e2, e3⟩, frames_but k (fun q => hn ?_) hr⟩
    obtain ⟨e, he, z⟩ := List.mem_filterMap.mp q
    exact List.mem_filterMap.mpr ⟨e, List.mem_cons_of_mem _ he, z⟩
theorem traced_but {B h h' : Heap} {C e : Addr} {Z : Obj → Prop} {fl : Value} {m : Str → Option Value} (k : ∀ b, b ≠ C → h'.get? b = h.get? b) (hC : h.Ns C m) (t : HandSPX.TracedZ h B e Z fl) : HandSPX.TracedZ h' B e Z fl := by
  obtain ⟨oe, vs, T, oT, ts, he, hz, hd, h1, hn, hTe, hT, hdT, h3⟩ := t
  obtain ⟨o, es, ep, ho, hod, _⟩ := hC
  have n1 : e ≠ C := fun z => by
    rw [z, ho] at he
    cases he
    rw [hod] at hd
    cases hd
  have n2 : T ≠ C := fun z => by
    rw [z, ho] at hT
    cases hT
    rw [hod] at hdT
    cases hdT
  exact ⟨oe, vs, T, oT, ts, (k e n1).trans he, hz, hd, h1, hn, hTe, (k T n2).trans hT, hdT, h3⟩
theorem sky_but {B h h' : Heap} {C e L : Addr} {l : List Env} {Z : Obj → Prop} {m : Str → Option Value} (k : ∀ b, b ≠ C → h'.get? b = h.get? b) (hC : h.Ns C m) (hB : B.get? C = none) (hl : C ∉ frs l) (x : Sky B l e Z L h) : Sky B l e Z L h' := by
  have st : B.StaysIn h → B.StaysIn h' := fun s b o q => (k b fun z => by rw [z, hB] at q; cases q).trans (s b o q)
  rcases x with ⟨a1, a2, a3, oe, vs, he, hz, hd, h1⟩ | ⟨a1, a2, a3, a4⟩ | ⟨a1, a2, a3, a4⟩
  · refine .inl ⟨st a1, a2, frames_but k hl a3, oe, vs, (k e fun z => ?_).trans he, hz, hd, h1⟩
    obtain ⟨o, es, ep, ho, hod, _⟩ := hC
    rw [z, ho] at he
    cases he
    rw [hod] at hd
    cases hd
  · exact .inr (.inl ⟨st a1, a2, frames_but k hl a3, traced_but k hC a4⟩)
  · exact .inr (.inr ⟨st a1, a2, frames_but k hl a3, traced_but k hC a4⟩)
theorem XEC.touch {X : Cx} {W : WX} {C : Addr} {u : Value} {s' : Shared} {h' : Heap} {m' : Str → Option Value} (x : XEC X W C u s') (hn : h'.Ns C m') (sb : Heap.SameBut C s'.heap h') : XEC X W C u { s' with heap := h' } := by
  obtain ⟨a, B, sI, pins, σ, H, cls, d, e, I, nb, up, sky, na, os, ag, w, hB, hI, hf, m, hm⟩ := x
  exact ⟨a, B, sI, pins, σ, H, cls, d, e, I, nb, fun b o q nf => by
    obtain ⟨sl, z⟩ := up b o q nf
    exact ⟨sl, (sb.2 b fun y => by rw [y, hI] at q; cases q).trans z⟩, sky_but sb.2 hm hB hf sky, na, os, ag, w, hB, hI, hf, m', hn⟩
theorem XEC.of_call {X : Cx} {W : WX} {C : Addr} {E : XK} {pins : List (Addr × Obj)} {σ : L2.St} {H : Hp} {s s' : Shared} {u : Value} {m : Str → Option Value} (J : Inv X pins σ H s) (ok : FpOk X pins H C) (hm : s.heap.Ns C m) (hf : C ∉ frs X.stack)
    (hW : ∀ cls d H', E cls d H' → W cls d σ H') (c : CX X.prog X.w X.stack H s E u s') : XEC X W C u s' := by
  obtain ⟨a, B0, H', cls, d, rfl, fl, hok, ub, na, os, ag, hE⟩ := c
  obtain ⟨k0, k1, k2, k3, k4, k5⟩ := ok
  obtain ⟨oC, es, ep, hoC, hdC, rC⟩ := hm
  have hBC : B0.get? C = some oC := ub.keep C oC hoC k0 hf
  have hC' : H' C = none := ub.free C oC hoC k0
  have B1 : ∀ b o, (PySem.W.hideAll B0 [C]).get? b = some o → B0.get? b = some o := fun b o q => PySem.W.of_hideAll _ q
  have B2 : ∀ b o, b ≠ C → B0.get? b = some o → (PySem.W.hideAll B0 [C]).get? b = some o := fun b o hb q => PySem.W.hideAll_get _ q (by simpa using hb)
  have B3 : (PySem.W.hideAll B0 [C]).get? C = none := PySem.W.hideAll_none _ (by simp)
  generalize PySem.W.hideAll B0 [C] = B at B1 B2 B3
  obtain ⟨f1, f2, f3, f4⟩ := fl
  have st : B.StaysIn s'.heap := fun b o q => f1 b o (B1 b o q)
  have nB : ∀ b, B0.get? b = none → B.get? b = none := fun b q => by
    cases z : B.get? b with
    | none => rfl
    | some o => rw [B1 b o z] at q; cases q
  have fl' : HandSPX.FlyingZ B X.stack a (Zc cls d) s'.heap := by
    refine ⟨st, nB a f2, funFrames_none f3 fun L hL => nB L (f3.mem hL).1, ?_⟩
    obtain ⟨oe, vs, T, oT, ts, he, hz, hd, h1, hn, r⟩ := f4
    exact ⟨oe, vs, T, oT, ts, he, hz, hd, h1, nB T hn, r⟩
  obtain ⟨G, g1, g2⟩ := restrict s'.heap fun b => (B.get? b).isSome || decide (b ∈ frs X.stack)
  have gB : ∀ b o, B.get? b = some o → G.get? b = some o := fun b o q => (g1 b (by rw [q]; rfl)).trans (st b o q)
  have gF : ∀ b, b ∈ frs X.stack → G.get? b = s'.heap.get? b := fun b hb => g1 b (by simp [hb])
  have gC : G.get? C = none := g2 C (by rw [B3]; simp [hf])
  have gO : ∀ b o, G.get? b = some o → s'.heap.get? b = some o ∧ (b ∉ frs X.stack → B.get? b = some o) := fun b o q => by
    by_cases hb : b ∈ frs X.stack
    · exact ⟨by rw [← gF b hb]; exact q, fun z => absurd hb z⟩
    · cases z : B.get? b with
      | none => rw [g2 b (by rw [z]; simp [hb])] at q; cases q
      | some o' =>
        have y := gB b o' z
        rw [y] at q
        cases q
        exact ⟨st b _ z, fun _ => rfl⟩
  have hokB : HOk X.prog X.w H' B := fun b o q => (hok b o q).stay (fun c v hc r => B2 c v (fun z => by
    rcases hc with hc | hc
    · rw [← hc, z, hC'] at q; cases q
    · rw [z, hC'] at hc; cases hc) r) (fun _ r => r) fun _ _ r => r
  refine ⟨a, B, { s with heap := G, gens := s'.gens, drawn := s'.drawn, toks := s'.toks }, pins, σ, H', cls, d, rfl, ?_, fun b o q hb => (gO b o q).2 hb, Heap.UpToSlots.of_keeps fun b o q => (gO b o q).1, .inr (.inl fl'), na, os, ag, hW _ _ _ hE, B3, gC, hf, m, oC, es, ep, f1 C oC hBC, hdC, rC⟩
  refine J.call (ch := [C]) ⟨fun b o q n hb hc => gB b o (B2 b o (by simpa using hc) (ub.keep b o q n hb)), fun b o q n hb hc => ?_, fun b o q n _ => ub.free b o q n, fun b o q hc => ?_, ub.tups, ub.frzs, ub.tbls⟩ (hokB.kept gB) ag (fun b hb => ?_)
  · obtain ⟨sl, z⟩ := ub.slot b o q hb
    exact ⟨sl, by rw [gF b hb]; exact z⟩
  · by_cases hb : b ∈ frs X.stack
    · obtain ⟨sl, z⟩ := ub.slot b o q hb
      exact ⟨_, by rw [gF b hb]; exact z⟩
    · obtain ⟨o', z⟩ := ub.there b o q hb
      exact ⟨o', gB b o' (B2 b o' (by simpa using hc) z)⟩
  · have e : b = C := by simpa using hb
    subst e
    exact ⟨k3, k1, k4, k5⟩
end XC

set_option Elab.async false
set_option linter.all false
set_option maxRecDepth 100000
set_option maxHeartbeats 4000000
namespace XC
open PySem PySem.Spec PyProof.Rows L2
def XEH (X : Cx) (W : WX) (C : Addr) (u : Value) (s' : Shared) : Prop :=
  ∃ (a : Addr) (B : Heap) (sI : Shared) (pins : List (Addr × Obj)) (σ : L2.St) (H : Hp) (cls : Value) (d : Option Addr),
    u = .ref a ∧ Inv X pins σ H sI ∧ (∀ b o, sI.heap.get? b = some o → b ∉ frs X.stack → B.get? b = some o) ∧ sI.heap.UpToSlots s'.heap ∧
      HandSPX.HeldZ B X.stack a (Zc cls d) X.env.locals s'.heap ∧ H a = none ∧ s'.os = sI.os ∧ AllBare s'.gens ∧ W cls d σ H ∧ B.get? C = none ∧ sI.heap.get? C = none ∧ C ∉ frs X.stack ∧ ∃ m, s'.heap.Ns C m
theorem XEH.xec {X : Cx} {W : WX} {C : Addr} {u : Value} {s' : Shared} (x : XEH X W C u s') : XEC X W C u s' := by
  obtain ⟨a, B, sI, pins, σ, H, cls, d, e, I, nb, up, hh, r⟩ := x
  exact ⟨a, B, sI, pins, σ, H, cls, d, e, I, nb, up, .inr (.inr hh), r⟩
theorem XEH.touch {X : Cx} {W : WX} {C : Addr} {u : Value} {s' : Shared} {h' : Heap} {m' : Str → Option Value} (x : XEH X W C u s') (hn : h'.Ns C m') (sb : Heap.SameBut C s'.heap h') : XEH X W C u { s' with heap := h' } := by
  obtain ⟨a, B, sI, pins, σ, H, cls, d, e, I, nb, up, ⟨a1, a2, a3, a4⟩, na, os, ag, w, hB, hI, hf, m, hm⟩ := x
  exact ⟨a, B, sI, pins, σ, H, cls, d, e, I, nb, fun b o q nf => by
    obtain ⟨sl, z⟩ := up b o q nf
    exact ⟨sl, (sb.2 b fun y => by rw [y, hI] at q; cases q).trans z⟩, ⟨fun b o q => (sb.2 b fun z => by rw [z, hB] at q; cases q).trans (a1 b o q), a2, frames_but sb.2 hf a3, traced_but sb.2 hm a4⟩, na, os, ag, w, hB, hI, hf, m', hn⟩
theorem note_same {u : Value} {ce env : Env} (h : ce.frame = env.frame) : noteFrame u ce = noteFrame u env := by
  unfold noteFrame PySem.frameOf
  rw [h]
section
variable {X : Cx} {W : WX} {C : Addr} {u : Value} {s' : Shared}
theorem XEC.noted {M : Model} {E : Value → Shared → Prop} {ce : Env} (hs : X.stack = X.env :: X.outer) (hf : X.env.frame = some X.env.locals) (hc : ce.frame = X.env.frame) (x : XEC X W C u s') : wpAny M X.A (noteFrame u ce) (fun _ s2 => XEH X W C u s2) E s' := by
  rw [note_same hc]
  obtain ⟨a, B, sI, pins, σ, H, cls, d, rfl, I, nb, up, sky, na, os, ag, w, hB, hI, hn, m, hm⟩ := x
  have hfr : X.A.frames = some (X.env :: X.outer) := by rw [I.ok.frames, hs]
  have fin : ∀ h1, HandSPX.HeldZ B (X.env :: X.outer) a (Zc cls d) X.env.locals h1 → s'.heap.UpToSlots h1 → XEH X W C (.ref a) { s' with heap := h1 } := fun h1 hh up1 =>
    ⟨a, B, sI, pins, σ, H, cls, d, rfl, I, nb, up.trans up1, by rw [hs]; exact hh, na, os, ag, w, hB, hI, hn, m, up1.ns hm⟩
  rw [hs] at sky
  rcases sky with ⟨k1, k2, k3, oe, vs, he, hz, hd, h1⟩ | fl | hh
  · exact HandSPX.look_newZ Zc.steady hfr k3 hf he k1 k2 hd h1 hz fin
  · exact HandSPX.looks_onZ Zc.steady hfr hf fl fin
  · exact HandSPX.againZ hf hh.2.2.2 (fin s'.heap hh (Heap.UpToSlots.refl _))
theorem XEH.pass {M : Model} {what : String} {α : Type} {Q : α → Shared → Prop} {ce : Env} (hf : X.env.frame = some X.env.locals) (hc : ce.frame = X.env.frame) (tk : Takes X W) (x : XEH X W C u s') : wpAny M X.A (passOn what u ce : Sem α) Q X.xe s' := by
  obtain ⟨a, B, sI, pins, σ, H, cls, d, rfl, I, nb, up, hh, na, os, ag, w, _⟩ := x
  obtain ⟨k1, k2, k3, oe, vs, T, oT, ts, he, hz, hd, h1, hr⟩ := id hh
  unfold PySem.passOn
  refine wpAny_bind (wpAny_field he hd h1 ?_)
  rw [if_neg (show ¬ ((Value.ref T == Value.none) = true) from by simp), hc, hf]
  have go : wpAny M X.A (setFlight (.ref a) (some X.env.locals)) (fun _ s4 => wpAny M X.A (throw (.ref a) : Sem α) Q X.xe s4) X.xe s' :=
    HandSPX.setFlight_onZ hh fun h4 hh4 up4 => wpAny_throw (tk _ _ ⟨a, B, sI, pins, σ, H, cls, d, rfl, I, nb, up.trans up4, .inr (.inr hh4), na, os, ag, w⟩)
  first
    | exact wpAny_bind (wpAny_pure (wpAny_bind go))
    | exact wpAny_bind go
end
end XC

set_option Elab.async false
set_option linter.all false
set_option maxRecDepth 100000
set_option maxHeartbeats 8000000
namespace XC
open PySem PySem.Spec PyProof.Rows L2
section
variable {X : Cx}
theorem pe_lcX {W : WX} {E : XK} {elt tg iter : Expr} {ifs : List Expr} {scope : Scope} {own : List (Str × Nat)} {pos : Pos} {wi : TI} {g : TG} {tt : TT} {te : TE} (hc : X.calm = true) (hs : X.stack = X.env :: X.outer) (hf : X.env.frame = some X.env.locals) (tk : Takes X W) (hW : ∀ cls d σ H', E cls d H' → W cls d σ H')
    (hN : X.N.Nodup) (hi : PI X tg iter wi) (ok : BlkOk X.N X.env.scope scope own)
    (hg : ∀ (s : Shared) (H : Hp) (C : Addr) (cl : List (Str × Addr)) (fp : List Addr) (xe : Value → Shared → Prop), PG ((X.blk s H scope (compEnvC scope cl C X.env) fp).wish xe) tg g)
    (ht : ∀ (s : Shared) (H : Hp) (C : Addr) (cl : List (Str × Addr)) (fp : List Addr) (xe : Value → Shared → Prop), PTs ((X.blk s H scope (compEnvC scope cl C X.env) fp).wish xe) ifs tt)
    (he : ∀ (s : Shared) (H : Hp) (C : Addr) (cl : List (Str × Addr)) (fp : List Addr) (xe : Value → Shared → Prop), Passes (L2.CX X.prog X.w) ((X.blk s H scope (compEnvC scope cl C X.env) fp).wish xe) E → PE ((X.blk s H scope (compEnvC scope cl C X.env) fp).wish xe) elt te)
    (fold : ∀ x, foldedSetIterable iter X.env x = pure x := by intro _; rfl) : PE X (.ListComp elt [⟨tg, iter, ifs, 0⟩] scope pos) (tLc wi g tt te (own.map (·.2))) := by
  refine ⟨fun pins s σ H Q I h => ?_⟩
  rw [eval_ListComp]
  have closed : ∀ y ∈ scope.names, y.2 = .free → ∃ c, X.env.cells.lookup y.1 = some c := fun y hy q => by
    rcases ok.free y hy q with k | k
    · exact I.ok.has _ (.inl k)
    · exact I.ok.has _ (.inr k)
  refine comp_run rfl fold (closure_ok closed) ok.kind (fun y hy q => by rw [ok.uniq y hy, q]) (thn (hi.run pins s σ H _ I h) fun _ _ begun => thn begun fun itv s2 got => ?_)
  obtain ⟨it, fp, tn, J, H2, rfl, I2, T, st2, f2, want⟩ := got
  refine wpAny_newObj_type (newEnv_comp ?_) (by show 0 ≤ sizeLine; decide)
  generalize hD : s2.heap.objs.size = D
  have freshD : H2 D = none := I2.hok.fresh (Nat.le_of_eq hD)
  obtain ⟨Wk, ⟨m0, w0⟩, turn⟩ := want D freshD
  generalize hs3 : ({ s2 with heap := s2.heap.push { cls := .type "list", data := .seq ([] : List Value).toArray } } : Shared) = s3
  have h3 : s3.heap = s2.heap.push { cls := .type "list", data := .seq ([] : List Value).toArray } := by rw [← hs3]
  have I3 : Inv X pins σ (upd H2 D (.lst [])) s3 := by
    subst hs3
    exact I2.laid (t' := s2.toks) (fun b o e => Heap.get?_push_of_some _ e) (Nat.le_of_eq hD) ⟨Nat.zero_le _, [], 0, .nil, by rw [← hD]; exact Heap.get?_push_size _ rfl⟩
  have small : ∀ b ∈ fp, b < s2.heap.objs.size := fun b hb => let ⟨_, e, _⟩ := T.obj _ _ st2 b hb; Heap.lt_size e
  have f3 : ∀ b ∈ fp, FpOk X pins (upd H2 D (.lst [])) b ∧ b < s3.heap.objs.size := fun b hb =>
    ⟨⟨by rw [upd_ne (by rw [← hD]; exact Nat.ne_of_lt (small b hb))]; exact (f2 b hb).1, (f2 b hb).2⟩, by rw [h3, Heap.size_push]; exact Nat.lt_succ_of_lt (small b hb)⟩
  have st3 : tn 0 s3.heap := T.keep _ _ _ st2 fun b _ o e => by rw [h3]; exact Heap.get?_push_of_some _ e
  have I4 := block_start I3 ok hN f3
  have pg := hg s3 (upd H2 D (.lst [])) s3.heap.objs.size (cellsFrom (s3.heap.objs.size + 1) scope.names (cloFrom X.env.cells scope.names [])) fp
  have pt := ht s3 (upd H2 D (.lst [])) s3.heap.objs.size (cellsFrom (s3.heap.objs.size + 1) scope.names (cloFrom X.env.cells scope.names [])) fp
  have pe := he s3 (upd H2 D (.lst [])) s3.heap.objs.size (cellsFrom (s3.heap.objs.size + 1) scope.names (cloFrom X.env.cells scope.names [])) fp
  show codeAny _ _ (.compStart (.ListComp elt [⟨tg, iter, ifs, 0⟩] scope pos) 0 (.ref it) (.ref D) (compEnvC scope (cellsFrom (s3.heap.objs.size + 1) scope.names (cloFrom X.env.cells scope.names [])) s3.heap.objs.size X.env)) (Behind (model X.prog X.w) X.A X.xe _ (.ref D) (compEnvC scope (cellsFrom (s3.heap.objs.size + 1) scope.names (cloFrom X.env.cells scope.names [])) s3.heap.objs.size X.env)) { s3 with heap := pushCells (s3.heap.push { cls := .type "dict", data := .dict #[] }) scope.names }
  have nfp : ∀ b ∈ fp, (upd H2 D (.lst [])) b = none := fun b hb => (f3 b hb).1.1
  generalize hce : compEnvC scope (cellsFrom (s3.heap.objs.size + 1) scope.names (cloFrom X.env.cells scope.names [])) s3.heap.objs.size X.env = ce at I4 pg pt pe ⊢
  have cL : ce.locals = s3.heap.objs.size := by subst hce; rfl
  have cF : ce.frame = X.env.frame := by subst hce; rfl
  generalize hH3 : upd H2 D (.lst []) = H3 at I3 I4 pg pt pe w0 nfp f3
  generalize hs4 : ({ s3 with heap := pushCells (s3.heap.push { cls := .type "dict", data := .dict #[] }) scope.names } : Shared) = s4 at I4 ⊢
  have st4 : tn 0 s4.heap := T.keep _ _ _ st3 fun b _ o e => by rw [← hs4]; exact pushCells_keeps _ _ _ _ (Heap.get?_push_of_some _ e)
  let xe : Value → Shared → Prop := fun u s' => XEC X W ce.locals u s'
  have back : ∀ {pins' : List (Addr × Obj)} {σ' : L2.St} {H' : Hp} {s' : Shared} {x : Value → Shared → Prop}, Inv ((X.blk s3 H3 scope ce fp).wish x) pins' σ' H' s' → Inv X pins σ H' s' := fun {pins' σ' H' s' x} I' =>
    I3.call' (ch := fp) I'.os I'.base I'.hok I'.bare fun b hb => ⟨(f3 b hb).1.2.2.2.1, (f3 b hb).1.2.1, (f3 b hb).1.2.2.2.2.1, (f3 b hb).1.2.2.2.2.2⟩
  have okC : ∀ {H' : Hp}, H' ce.locals = none → FpOk X pins H' ce.locals := fun {H'} n => by
    rw [cL] at n ⊢
    exact I3.fpOk (Nat.le_refl _) n
  have outC : ce.locals ∉ frs X.stack := fun z => by
    have k := okC (H' := fun _ => none) rfl
    rcases List.mem_cons.mp (I3.stkSub _ z) with y | y
    · exact k.2.1 y
    · exact k.2.2.1 y
  have passes : Passes (L2.CX X.prog X.w) ((X.blk s3 H3 scope ce fp).wish xe) E := fun pins' σ' H' s' u s'' I' c => by
    obtain ⟨m, hm, _⟩ := I'.loc
    exact XEC.of_call (back I') (okC I'.free) hm outC (fun cls d H'' q => hW cls d σ H'' q) c
  have out : ∀ u s', xe u s' → notedBy (model X.prog X.w) X.A ce (fun u s'' => Behind (model X.prog X.w) X.A X.xe (fun v s' => ∃ w' H', Inv X pins σ H' s' ∧ RelV w' v ∧ Q w' H') (.ref D) ce (.error u) s'') u s' := fun u s' x => by
    refine wpAny_mono (XEC.noted hs hf cF x) (fun _ s2 y => ?_) fun _ _ z => z
    obtain ⟨_, _, _, _, _, _, _, _, _, _, _, _, _, _, _, _, _, _, _, _, m, hm⟩ := id y
    exact ⟨m, hm, fun h' m' n' sb => XEH.pass hf cF tk (y.touch n' sb)⟩
  have stat : ∀ {σ' : L2.St} {H' : Hp} {s' : Shared}, Inv ((X.blk s3 H3 scope ce fp).wish xe) [] σ' H' s' → (∀ b ∈ fp, H' b = none) → ∀ b ∈ fp, FpOk ((X.blk s3 H3 scope ce fp).wish xe) [] H' b := fun {σ' H' s'} I' hn b hb =>
    ⟨hn b hb, (I'.ok.exf b hb).1, I'.ok.exfs b hb, .inl hb, fun x c e => (I'.ok.exf b hb).2 x c e, fun p hp => absurd (show p ∈ ([] : List (Addr × Obj)) ++ [] from hp) (by simp)⟩
  have loop : codeAny (model X.prog X.w) X.A (.compLoop (.ListComp elt [⟨tg, iter, ifs, 0⟩] scope pos) 0 (.ref it) (.ref D) ce) (Behind (model X.prog X.w) X.A X.xe (fun v s' => ∃ w' H', Inv X pins σ H' s' ∧ RelV w' v ∧ Q w' H') (.ref D) ce) s4 := by
    refine compLoop_any (fun n s' => ∃ i H', Inv ((X.blk s3 H3 scope ce fp).wish xe) [] (wipe σ (own.map (·.2))) H' s' ∧ tn i s'.heap ∧ (∀ b ∈ fp, H' b = none) ∧ Wk i n H') ?_ m0 ⟨0, H3, I4.wish xe, st4, nfp, w0⟩
    rintro n s5 ⟨i, H5, I5, st5, n5, w5⟩
    rcases turn i n H5 w5 with ⟨stop, qq⟩ | ⟨go, Nx, hNx, step⟩
    · refine thnF (T.done ((X.blk s3 H3 scope ce fp).wish xe) rfl rfl rfl hc i [] s5 _ H5 (fun _ _ => False) I5 (stat I5 n5) st5 stop) fun r s6 got => ?_
      obtain ⟨rfl, I6⟩ := got
      obtain ⟨m, hm, _⟩ := I6.loc
      refine ⟨m, hm, fun h' m' n' sb => ⟨.ref D, H5, ?_, rfl, qq⟩⟩
      obtain ⟨k0, k1, k2, k3, k4, k5⟩ := okC (H' := H5) I6.free
      exact (back I6).turned (t' := s6.toks) (fun b o hb q => (sb.2 b hb).trans q) k0 k1 k3 k4 k5
    · refine thnF (T.item ((X.blk s3 H3 scope ce fp).wish xe) rfl rfl rfl hc i [] s5 _ H5 (fun _ _ => False) I5 (stat I5 n5) st5 go) fun r s6 got => ?_
      obtain ⟨v, rfl, h6⟩ := got
      refine thnF h6 fun _ s7 got7 => ?_
      obtain ⟨x, H7, I7, r7, y7, st7, n7⟩ := got7
      have I7p := I7.pinned (stat I7 n7) (T.obj _ _ st7)
      refine wpAny_mono ((pg xe).run _ s7 _ H7 x v _ I7p r7 (step x H7 y7)) (fun _ s8 got8 => ?_) out
      obtain ⟨σ8, H8, I8, hw8, q8⟩ := got8
      refine wpAny_mono ((pt xe).run _ s8 σ8 H8 _ I8 q8) (fun b s9 got9 => ?_) out
      obtain ⟨H9, I9, q9⟩ := got9
      have next : ∀ {s' : Shared} {H' : Hp}, Inv ((X.blk s3 H3 scope ce fp).wish xe) ([] ++ pinsAt fp s7.heap) σ8 H' s' → Nx H' → ∃ m, m < n ∧ ∃ i H', Inv ((X.blk s3 H3 scope ce fp).wish xe) [] (wipe σ (own.map (·.2))) H' s' ∧ tn i s'.heap ∧ (∀ b ∈ fp, H' b = none) ∧ Wk i m H' := fun {s' H'} I' nx => by
        obtain ⟨m', lt, w'⟩ := hNx H' nx
        have pinned : ∀ b ∈ fp, ∀ o, s7.heap.get? b = some o → s'.heap.get? b = some o ∧ H' b = none := fun b hb o e =>
          ⟨(I'.pin (b, o) (List.mem_append_right _ (List.mem_append_right _ (mem_pinsAt hb e)))).1, (I'.pin (b, o) (List.mem_append_right _ (List.mem_append_right _ (mem_pinsAt hb e)))).2.1⟩
        refine ⟨m', lt, i + 1, H', (I'.unpinned (pins := [])).weak (by rw [← hw8, wipe_length]) (fun j u e => (wipe_some (by rw [hw8]; exact e)).1), T.keep _ _ _ st7 fun b hb o e => (pinned b hb o e).1, fun b hb => ?_, w'⟩
        obtain ⟨o, e, _⟩ := T.obj _ _ st7 b hb
        exact (pinned b hb o e).2
      cases b with
      | false =>
        simp only [Bool.false_eq_true, if_false] at q9 ⊢
        exact next I9 q9
      | true =>
        simp only [if_true] at q9 ⊢
        refine wpAny_mono ((pe xe passes).run _ s9 σ8 H9 _ I9 q9) (fun z s10 got10 => ?_) out
        obtain ⟨yv, H10, I10, r10, acc, hD10, hz10, nx⟩ := got10
        exact app_ok (X := (X.blk s3 H3 scope ce fp).wish xe) I10 hD10 hz10 r10 fun s11 I11 => next I11 nx
  exact codeAny_compStart_list loop (T.self X.A 0 _ _ _ st4 loop)
end
end XC

set_option Elab.async false
set_option linter.all false
set_option maxRecDepth 100000
set_option maxHeartbeats 8000000
namespace WL
open PySem PySem.Spec PyProof.Rows L2 Evl
structure ErrC (K : PySem.W.Frag) (C fI : Addr) : Prop where
  ox : OexC K C
  nV : PySem.W.findIn K (.ref C) "value" = some none
  iC : PySem.W.findIn K (.ref C) "__init__" = some (some (.ref fI))
  tI : PySem.W.typeIn K (.ref fI) = some (.type "function")
def ErrTo (C : Addr) (v : V) (H : Hp) (E : XK) : Prop := ∀ d H', Ex H H' → H' d = some (.xd [("value", v)]) → E (.ref C) (some d) H'
theorem exo_ne_exd {e C dx : Addr} {d : Option Addr} {fs : List (Str × V)} {H : Hp} (h : H e = some (exo e C d)) (n : H dx = none) : dx ≠ e := fun z => by
  rw [z, h] at n
  cases n
section
variable {P : Program} {w : World} {K : PySem.W.Frag} {mg : Str → Option Value} {base : Heap}
abbrev nEi : List Str := ["self", "value"]
theorem scErr_Init : FnScope nEi ["self", "value"] (defScope sLoopError_Init) := ⟨rfl, rfl, rfl, by decide +kernel, rfl, by decide +kernel, by decide +kernel⟩
def spErrInit (K : PySem.W.Frag) : Sp := fun vs H Q _ => ∃ (a C : Addr) (v : V), vs = [.ref a, v] ∧ OexC K C ∧ PySem.W.findIn K (.ref C) "value" = some none ∧ H a = some (exo a C none) ∧
  ∀ d, H d = none → d ≠ a → Q .non (upd (upd H d (exd d [("value", v)])) a (exo a C (some d)))
theorem ok_errInit {f : Addr} {fd : FuncData} (F : Fun K "__init__" "LoopError.__init__" sLoopError_Init f fd) : FnOk P w K mg base (L2.CX P w) 1 f fd ["self", "value"] (spErrInit K) := by
  refine F.okX scErr_Init (fun vs H Q E h => ?_) (fun cdv A outer s H vs Q E hr h => ?_)
  · obtain ⟨a, C, v, rfl, _⟩ := h
    rfl
  · obtain ⟨a, C, v, rfl, T, nV, ha, k⟩ := h
    refine ⟨_, pss_one (ps_ost (pv 0) (pv 1)), ?_⟩
    exact ⟨v, rfl, .ref a, rfl, a, C, rfl, T, nV, .inl ⟨ha, fun d hd hne => k d hd hne⟩⟩
theorem pmk_err {X : Cx} {x : Str} {C fI : Addr} {fd : FuncData} {e : Expr} {ta : TA} {p pos : Pos} (T : ErrC X.K C fI) (F1 : FnOk X.prog X.w X.K X.mg X.base (L2.CX X.prog X.w) 1 fI fd ["self", "value"] (spErrInit X.K)) (hr : Room 2 X.A) (hb : Binds X.K fd ["self", "value"] []) (hg : Gl X x) (hm : X.mg x = some (.ref C)) (ha : PA X [e] ta)
    (hdb : (x == ("__debug__" : Str)) = false := by decide) (he : starEach [e] X.env = (false, eval e X.env) :: starEach [] X.env := by rfl) (hpl : (backTo pos (starEach [] X.env)).any (·.1) = false := by rfl) :
    PMk X (.Call (.Name x p) [e] [] pos) (tMkO C (spErrInit X.K) [] ta) := pmk_oex T.ox T.iC T.tI F1 hr hb .nil (fun _ _ _ _ _ _ _ h => by
    obtain ⟨_, _, _, _, _, _, _, _, _, _, _, _, z⟩ := h
    exact z.elim) hg hm ha hdb he hpl
end
end WL

set_option Elab.async false
set_option linter.all false
set_option maxRecDepth 100000
set_option maxHeartbeats 8000000
namespace WL
open PySem PySem.Spec PyProof.Rows L2 Evl
section
variable {P : Program} {w : World} {K : PySem.W.Frag} {mg : Str → Option Value} {base : Heap}
theorem mkErr_go {C fI : Addr} {ta : TA} {σ : L2.St} {H : Hp} {v : V} {E : XK} (T : ErrC K C fI) (h : EvA ta σ H [v]) (k : ErrTo C v H E) : tMkO C (spErrInit K) [] ta σ H (fun cls d H' => E cls d H') := by
  refine h H (Ex.refl H) _ fun H1 e1 => ⟨by show 1 ≤ 1000; decide, fun a ha => ⟨a, C, v, rfl, T.ox, T.nV, upd_same, fun d hd hne => ⟨rfl, d, [("value", v)], upd_same, (upd_ne hne).trans upd_same, (upd_ne hne).symm.trans hd, k d _ (fun b o hb => ?_) upd_same⟩⟩⟩
  have h1 := e1 b o hb
  have na : b ≠ a := ne_of_none h1 ha
  have hd' : H1 d = none := (upd_ne hne).symm.trans hd
  have nd : b ≠ d := ne_of_none h1 hd'
  rw [upd_ne nd, del_ne na, upd_ne na, upd_ne nd, upd_ne na]
  exact h1
structure TBQ (P : Program) (w : World) (K : PySem.W.Frag) (mg : Str → Option Value) (base : Heap) (CB : Addr) : Prop where
  mgC : mg "BadQuestion" = some (.ref CB)
  err : ∃ fI fd, ErrC K CB fI ∧ FnOk P w K mg base (L2.CX P w) 1 fI fd ["self", "value"] (spErrInit K) ∧ Binds K fd ["self", "value"] []
def spTakeX (K : PySem.W.Frag) (C CB : Addr) : Sp := fun vs H Q E => ∃ (p dx l d : Addr) (ws : List Str) (i : Nat) (ts : List (Addr × Str × Int)) (b : Bool), vs = [.ref p, .bl b] ∧ RdAt K C H p dx l d ws i ts ∧ (b = true → ∀ H', But p H H' → RdAt K C H' p dx l d ws (i + 1) ts → Q .non H') ∧
  (b = false → ErrTo CB (.int ((i + 1 : Nat) : Int)) H E)
theorem ok_takeX {f C CB : Addr} {fd : FuncData} (F : Fun K "take" "Reader.take" sReader_Take f fd) (T : TRd w K mg C) (TB : TBQ P w K mg base CB) : FnOk P w K mg base (L2.CX P w) 3 f fd ["self", "fits"] (spTakeX K C CB) := by
  obtain ⟨fI, fdI, TE, GI, bI⟩ := TB.err
  refine F.okX scReader_Take (fun vs H Q E h => ?_) (fun cdv A outer s H vs Q E hr h => ?_)
  · obtain ⟨p, dx, l, d, ws, i, ts, b, rfl, _⟩ := h
    rfl
  · obtain ⟨p, dx, l, d, ws, i, ts, b, rfl, ⟨g1, g2, g3⟩, k1, k2⟩ := h
    refine ⟨_, pss_cons (ps_if (pt_not (pt_val (pv 1))) (pss_one (ps_raise rfl (takes_of rfl rfl rfl rfl) (pmk_err TE GI hr bI (by rfl) TB.mgC (pa_cons (pe_op op_add (pe_fld (pv 0) rfl) pe_int) pa_nil)))) pss_nil) (pss_one (ps_fldaug (pv 0) pe_int in_add)), ?_⟩
    cases b with
    | false =>
      refine q_when (b := true) (et_not (et_B (b := false) (ev_var rfl))) (fun hb H1 e => ?_) (fun hb => by cases hb)
      refine mkErr_go TE (ea_cons (ev_op (ev_fld (ev_var rfl) (e _ _ g1) T.cl T.nRead rfs_read) ev_c rv_I0) ea_nil) ?_
      intro d' H' e' hd'
      refine k2 rfl d' H' (e.trans e') ?_
      rw [hd']
      rfl
    | true =>
      refine q_when (b := false) (et_not (et_B (b := true) (ev_var rfl))) (fun hb => by cases hb) (fun hb H1 e => ?_)
      obtain ⟨g1, g2, g3⟩ : _ ∧ _ ∧ _ := ⟨e _ _ g1, e _ _ g2, g3.up e⟩
      refine ⟨_, rfl, p, C, dx, _, _, rfl, g1, T.cl, T.nRead, rfs_read, (i : Int), 1, rfl, rfl, dx, _, g1, rfs_len, ?_⟩
      have b2 : But p H (upd H1 p (.ins C dx (rfs l (i + 1) d))) := (But.ex e).upd
      refine k1 rfl _ b2 ⟨upd_same, ?_, g3.but g1 (But.upd (But.refl p H1))⟩
      rw [upd_ne (ne_of g2 g1 (by intro q; cases q))]
      exact g2
end
end WL

set_option Elab.async false
set_option linter.all false
set_option maxRecDepth 100000
set_option maxHeartbeats 8000000
namespace WL
open PySem PySem.Spec PyProof.Rows L2 Evl
def ErrB (p C : Addr) (v : V) (H : Hp) (E : XK) : Prop := ∀ d H', But p H H' → H' d = some (.xd [("value", v)]) → E (.ref C) (some d) H'
theorem ErrB.go {p C : Addr} {v : V} {H H1 : Hp} {E : XK} (k : ErrB p C v H E) (b : But p H H1) : ErrTo C v H1 E := fun d H' e h => k d H' (b.trans (But.ex e)) h
theorem ErrB.on {p C : Addr} {v : V} {H H1 : Hp} {E : XK} (k : ErrB p C v H E) (b : But p H H1) : ErrB p C v H1 E := fun d H' e h => k d H' (b.trans e) h
section
variable {P : Program} {w : World} {K : PySem.W.Frag} {mg : Str → Option Value} {base : Heap}
def spReadPlaceX (K : PySem.W.Frag) (C CB : Addr) : Sp := fun vs H Q E => ∃ (p al dx l d : Addr) (ws : List Str) (i : Nat) (ts : List (Addr × Str × Int)) (ns : List Str), vs = [.ref p, .ref al] ∧ RdAt K C H p dx l d ws i ts ∧ SqT K H al (ns.map V.str) ∧ i ≤ min ws.length 100 ∧
  (nextW ws i ∈ ns → ∀ H', But p H H' → RdAt K C H' p dx l d ws (i + 1) ts → Q (.str (nextW ws i)) H') ∧ (nextW ws i ∉ ns → ErrB p CB (.int ((i + 1 : Nat) : Int)) H E)
theorem ok_readPlaceX {f C CB g1 g2 : Addr} {fd gd1 gd2 : FuncData} (F : Fun K "read_place" "Reader.read_place" sReader_ReadPlace f fd) (T : TRd w K mg C) (GN : FMeth P w K mg base C "next_word" g1 gd1 1 ["self"] (spNextWord K C)) (mT : Meth K C "take" g2) (GT : FnOk P w K mg base (L2.CX P w) 3 g2 gd2 ["self", "fits"] (spTakeX K C CB)) (bT : Binds K gd2 ["self", "fits"] []) :
    FnOk P w K mg base (L2.CX P w) 4 f fd ["self", "alive"] (spReadPlaceX K C CB) := by
  refine F.okX scReader_ReadPlace (fun vs H Q E h => ?_) (fun cdv A outer s H vs Q E hr h => ?_)
  · obtain ⟨p, al, dx, l, d, ws, i, ts, ns, rfl, _⟩ := h
    rfl
  · obtain ⟨p, al, dx, l, d, ws, i, ts, ns, rfl, rd, ha, hi, k1, k2⟩ := h
    have hr1 : Room 1 _ := hr.mono (by decide)
    refine ⟨_, pss_cons (ps_set (i := 2) scReader_ReadPlace.nd rfl (Or.inl rfl) (pe_meth0 (pv 0) T.cl GN.m GN.ok hr1 GN.b .nil pass0))
      (pss_cons (ps_expr (pe_meth (pv 0) T.cl mT GT hr bT .nil (passes_call (takes_of rfl rfl rfl rfl) (fun _ _ _ _ h => h)) (pa_cons (pe_cmpR op_in_seq (pv 2) (pv 1) rfl) pa_nil)))
      (pss_one (ps_ret (pv 2)))), ?_⟩
    obtain ⟨h1, h2, h3⟩ := id rd
    refine ⟨_, rfl, p, dx, _, rfl, h1, rfs_no (by decide +kernel) (by decide +kernel) (by decide +kernel), p, dx, l, d, ws, i, ts, rfl, rd, hi, fun H1 e1 => ?_⟩
    have rd1 := rd.up e1
    refine ⟨_, rfl, p, dx, _, rfl, e1 _ _ h1, rfs_no (by decide +kernel) (by decide +kernel) (by decide +kernel), _, rfl, _, rfl, al, _, rfl, .inr (ex_t e1 ha), rfl, flat_strs _, ?_⟩
    rw [if_neg Bool.false_ne_true]
    refine ⟨p, dx, l, d, ws, i, ts, inV (.str (nextW ws i)) (ns.map V.str), rfl, rd1, fun q H2 b2 r2 => ⟨_, rfl, k1 (inV_mem.mp q) H2 ((But.ex e1).trans b2) r2⟩, fun q => (k2 fun z => ?_).go (But.ex e1)⟩
    rw [inV_mem.mpr z] at q
    cases q
end
end WL

set_option Elab.async false
set_option linter.all false
set_option maxRecDepth 100000
set_option maxHeartbeats 8000000
namespace WL
open PySem PySem.Spec PyProof.Rows L2 Evl
def okB (ts : List (Addr × Str × Int)) (bs : List Str) (x : Str) : Bool := isName x && ((shapeOf ts x).isNone && !decide (x ∈ bs))
def rdBound (ts : List (Addr × Str × Int)) (ws : List Str) : Nat → Nat → List Str → Nat ⊕ List Str
  | 0, _, bs => .inr bs
  | m + 1, i, bs => if okB ts bs (nextW ws i) = true then rdBound ts ws m (i + 1) (bs ++ [nextW ws i]) else .inl (i + 1)
theorem rdBound_succ {ts : List (Addr × Str × Int)} {ws : List Str} {m i : Nat} {bs : List Str} : rdBound ts ws (m + 1) i bs = if okB ts bs (nextW ws i) = true then rdBound ts ws m (i + 1) (bs ++ [nextW ws i]) else .inl (i + 1) := rfl
theorem nextW_end {ws : List Str} {i : Nat} (h : i = min ws.length 100) : nextW ws i = "" := if_pos h
theorem nextW_mem {ws : List Str} {i : Nat} (h : i ≤ min ws.length 100) (n : nextW ws i ≠ "") : i < min ws.length 100 ∧ nextW ws i ∈ ws := by
  have lt : i < min ws.length 100 := by
    rcases Nat.lt_or_ge i (min ws.length 100) with c | c
    · exact c
    · exact absurd (nextW_end (by omega)) n
  refine ⟨lt, ?_⟩
  unfold nextW
  rw [if_neg (by omega), List.getD_eq_getElem?_getD, List.getElem?_eq_getElem (by omega)]
  exact List.getElem_mem _
theorem name_filled {x : Str} (h : isName x = true) : x ≠ "" := fun z => by
  rw [z] at h
  exact absurd h (by decide +kernel)
section
variable {P : Program} {w : World} {K : PySem.W.Frag} {mg : Str → Option Value} {base : Heap}
def spReadBoundX (K : PySem.W.Frag) (C CB : Addr) : Sp := fun vs H Q E => ∃ (p dx l d : Addr) (ws : List Str) (i many : Nat) (ts : List (Addr × Str × Int)), vs = [.ref p, .int (many : Nat)] ∧ RdAt K C H p dx l d ws i ts ∧ i ≤ min ws.length 100 ∧ many ≤ 2 ∧ (∀ x ∈ ws, x.length ≤ 20000) ∧
  (∀ bs, rdBound ts ws many i [] = .inr bs → ∀ a H', But p H H' → RdAt K C H' p dx l d ws (i + many) ts → i + many ≤ min ws.length 100 → SqT K H' a (bs.map V.str) → Q (.ref a) H') ∧ (∀ n : Nat, rdBound ts ws many i [] = .inl n → ErrB p CB (.int (n : Int)) H E)
theorem ok_readBoundX {f C CB g1 g2 g3 : Addr} {fd gd1 gd2 gd3 : FuncData} (F : Fun K "read_bound" "Reader.read_bound" sReader_ReadBound f fd) (T : TRd w K mg C) (GN : FMeth P w K mg base C "next_word" g1 gd1 1 ["self"] (spNextWord K C)) (mT : Meth K C "take" g2) (GT : FnOk P w K mg base (L2.CX P w) 3 g2 gd2 ["self", "fits"] (spTakeX K C CB)) (bT : Binds K gd2 ["self", "fits"] [])
    (GI : FVal P w K mg base "is_name" g3 gd3 1 ["value"] spIsName) : FnOk P w K mg base (L2.CX P w) 4 f fd ["self", "many"] (spReadBoundX K C CB) := by
  refine F.okX scReader_ReadBound (fun vs H Q E h => ?_) (fun cdv A outer s H vs Q E hr h => ?_)
  · obtain ⟨p, dx, l, d, ws, i, many, ts, rfl, _⟩ := h
    rfl
  · obtain ⟨p, dx, l, d, ws, i, many, ts, rfl, rd, hi, hm, hw, k1, k2⟩ := h
    have hr1 : Room 1 _ := hr.mono (by decide)
    refine ⟨_, pss_cons (ps_set (i := 2) scReader_ReadBound.nd rfl (Or.inl rfl) (pe_tup pa_nil))
      (pss_cons (ps_for (passes_of rfl) rfl (pi_range1 (by rfl) T.range (pa_cons (pv 1) pa_nil)) (pg_name (i := 3) scReader_ReadBound.nd rfl (Or.inl rfl))
        (pss_cons (ps_set (i := 4) scReader_ReadBound.nd rfl (Or.inl rfl) (pe_meth0 (pv 0) T.cl GN.m GN.ok hr1 GN.b .nil pass0))
        (pss_cons (ps_expr (pe_meth (pv 0) T.cl mT GT hr bT .nil (passes_call (takes_of rfl rfl rfl rfl) (fun _ _ _ _ h => h)) (pa_cons (pe_and (pe_call GI.ok hr1 (by rfl) GI.mg GI.kp GI.b .nil pass0 (pa_cons (pv 4) pa_nil)) (pe_and (pe_cmp (pc_dnotin (hu_of hr) (pv 4) (pe_fld (pv 0) rfl)) rfl) (pe_one (pe_cmpR op_notIn_seq (pv 4) (pv 2) rfl)))) pa_nil)))
        (pss_one (ps_set (i := 2) scReader_ReadBound.nd rfl (Or.inl rfl) (pe_op op_catA (pv 2) (pe_tup (pa_cons (pv 4) pa_nil))))))))
      (pss_one (ps_ret (pv 2)))), ?_⟩
    refine ⟨Nat.zero_le _, fun t0 ht0 => ?_⟩
    have e0 := Ex.new (o := HO.tup []) ht0
    refine q_forR1 (ea_cons (ev_var rfl) ea_nil) ⟨by omega, by omega⟩ (fun j σ' H' => ∃ (tb : Addr) (bs : List Str) (y3 y4 : Option V), σ' = [some (.ref p), some (.int (many : Nat)), some (.ref tb), y3, y4] ∧ But p H H' ∧ RdAt K C H' p dx l d ws (i + j) ts ∧ SqT K H' tb (bs.map V.str) ∧ i + j ≤ min ws.length 100 ∧ bs.length = j ∧ rdBound ts ws many i [] = rdBound ts ws (many - j) (i + j) bs)
      (fun H1 e1 => ⟨t0, [], none, none, rfl, But.ex (e0.trans e1), rd.up (e0.trans e1), ex_t e1 (.inl (.inl upd_same)), hi, rfl, rfl⟩) (fun j σ' H' hj hP => ?_) (fun σ' H' hP => ?_)
    · obtain ⟨tb, bs, y3, y4, rfl, b, rdj, htb, hij, hbl, hrd⟩ := hP
      have hj' : j < many := by omega
      obtain ⟨h1, h2, h3⟩ := id rdj
      have eqm : many - j = (many - (j + 1)) + 1 := by omega
      rw [eqm, rdBound_succ] at hrd
      refine ⟨_, rfl, p, dx, _, rfl, h1, rfs_no (by decide +kernel) (by decide +kernel) (by decide +kernel), p, dx, l, d, ws, i + j, ts, rfl, rdj, hij, fun H1 e1 => ?_⟩
      have xl : (nextW ws (i + j)).length ≤ 20000 := by
        by_cases z : nextW ws (i + j) = ""
        · rw [z]; decide
        · exact hw _ (nextW_mem hij z).2
      have xf : isName (nextW ws (i + j)) = true → i + (j + 1) ≤ min ws.length 100 := fun q => by
        have := (nextW_mem hij (name_filled q)).1
        omega
      generalize nextW ws (i + j) = x at hrd xl xf ⊢
      have rd1 := rdj.up e1
      obtain ⟨kvs, q1, q2, q3⟩ := h3.up e1
      have kx := q3 x
      refine ⟨_, rfl, p, dx, _, rfl, e1 _ _ h1, rfs_no (by decide +kernel) (by decide +kernel) (by decide +kernel), ?_⟩
      have bad : ∀ H2, Ex H1 H2 → okB ts bs x = false → ErrTo CB (.int ((i + j + 1 : Nat) : Int)) H2 E := fun H2 e2 q => by
        rw [q, if_neg (by decide)] at hrd
        exact (k2 _ hrd).go (b.trans (But.ex (e1.trans e2)))
      refine ⟨_, rfl, x, rfl, xl, fun H2 e2 => ⟨_, rfl, ?_⟩⟩
      cases n1 : isName x with
      | false =>
        refine iteF ?_
        refine ⟨p, dx, l, d, ws, i + j, ts, false, rfl, rd1.up e2, ?_, fun _ => bad H2 e2 (by unfold okB; rw [n1]; rfl)⟩
        intro q
        cases q
      | true =>
        refine iteT ⟨_, rfl, _, rfl, p, C, dx, _, _, rfl, (e1.trans e2) _ _ h1, T.cl, T.nShapes, rfs_shapes, d, _, rfl, DGet.k (k := Sum.inr x) (e2 _ _ q1), ?_⟩
        cases hs : shapeOf ts x with
        | some sh =>
          rw [hs] at kx
          obtain ⟨r, kx, _⟩ := kx
          rw [kx]
          refine ⟨_, rfl, iteF ?_⟩
          refine ⟨p, dx, l, d, ws, i + j, ts, false, rfl, rd1.up e2, ?_, fun _ => bad H2 e2 (by unfold okB; rw [n1, hs]; rfl)⟩
          intro q
          cases q
        | none =>
          rw [hs] at kx
          dsimp only at kx
          rw [kx]
          refine ⟨_, rfl, iteT ⟨_, rfl, _, rfl, tb, _, rfl, .inr (ex_t (e1.trans e2) htb), rfl, flat_strs _, ?_⟩⟩
          rw [if_pos rfl]
          by_cases hin : x ∈ bs
          · rw [inV_mem.mpr hin]
            refine ⟨p, dx, l, d, ws, i + j, ts, false, rfl, rd1.up e2, ?_, fun _ => bad H2 e2 (by unfold okB; rw [n1, hs, decide_eq_true hin]; rfl)⟩
            intro q
            cases q
          · have nin : inV (.str x) (bs.map V.str) = false := by
              cases q : inV (.str x) (bs.map V.str) with
              | false => rfl
              | true => exact absurd (inV_mem.mp q) hin
            have fit : okB ts bs x = true := by unfold okB; rw [n1, hs, decide_eq_false hin]; rfl
            rw [nin]
            refine ⟨p, dx, l, d, ws, i + j, ts, true, rfl, rd1.up e2, fun _ H3 c3 r3 => ?_, fun q => by cases q⟩
            have b3' := (b.trans (But.ex (e1.trans e2))).trans c3
            have htb3 := sqT_but (ex_t (e1.trans e2) htb) ((e1.trans e2) _ _ h1) c3
            have new : EvU (tTup (tCons (tVar 4) tNil)) [some (V.ref p), some (V.int (many : Nat)), some (V.ref tb), some (V.int ((j : Nat) : Int)), some (V.str x)] H3 [V.str x] := eu_tup (ea_cons (ev_var rfl) ea_nil) (by show 1 ≤ 100000; decide)
            refine eq_catU (K := K) (ta := tVar 2) (fun H4 _ => ev_var rfl) htb3 new (by rw [List.length_map]; show _ + 1 ≤ 100000; omega) H3 (Ex.refl _) _ fun t4 H4 e4 s4 => ?_
            rw [fit, if_pos rfl] at hrd
            refine ⟨t4, bs ++ [x], _, _, rfl, b3'.trans (But.ex e4), r3.up e4, ?_, xf n1, by rw [List.length_append, hbl]; rfl, hrd⟩
            rw [List.map_append]
            exact s4
    · obtain ⟨tb, bs, y3, y4, rfl, b, rdj, htb, hij, hbl, hrd⟩ := hP
      have z : (((many : Nat) : Int)).toNat = many := by omega
      rw [z] at rdj hij hrd
      rw [Nat.sub_self] at hrd
      exact ⟨_, rfl, k1 bs hrd tb H' b rdj hij htb⟩
end
end WL

set_option Elab.async false
set_option linter.all false
set_option maxRecDepth 100000
set_option maxHeartbeats 8000000
namespace WL
open PySem PySem.Spec PyProof.Rows L2 Evl
def rdPlaces (ns ws : List Str) : Nat → Nat → List Str → Nat ⊕ List Str
  | 0, _, ps => .inr ps
  | m + 1, i, ps => if nextW ws i ∈ ns then rdPlaces ns ws m (i + 1) (ps ++ [nextW ws i]) else .inl (i + 1)
theorem rdPlaces_succ {ns ws : List Str} {m i : Nat} {ps : List Str} : rdPlaces ns ws (m + 1) i ps = if nextW ws i ∈ ns then rdPlaces ns ws m (i + 1) (ps ++ [nextW ws i]) else .inl (i + 1) := rfl
section
variable {P : Program} {w : World} {K : PySem.W.Frag} {mg : Str → Option Value} {base : Heap}
theorem comp_placesX {C CB p al dx l d : Addr} {ws : List Str} {i many : Nat} {ts : List (Addr × Str × Int)} {ns : List Str} {σ : L2.St} {H : Hp} {Q : VK} {E : XK} (s0 : σ[0]? = some (some (.ref p))) (s1 : σ[1]? = some (some (.ref al))) (s4 : σ[4]? = some (some (.int (many : Nat))))
    (rd : RdAt K C H p dx l d ws i ts) (hal : SqT K H al (ns.map V.str)) (hi : i ≤ min ws.length 100) (hm : many ≤ 100) (full : ("" : Str) ∉ ns)
    (k : ∀ ps, rdPlaces ns ws many i [] = .inr ps → ∀ D H', H D = none → But p H H' → RdAt K C H' p dx l d ws (i + many) ts → i + many ≤ min ws.length 100 → H' D = some (.lst (ps.map V.str)) → Q (.ref D) H')
    (bad : ∀ n : Nat, rdPlaces ns ws many i [] = .inl n → ErrB p CB (.int (n : Int)) H E) :
    tLc (iRng1 (tCons (tVar 4) tNil)) (gName 10) tYes (tMeth C "read_place" (spReadPlaceX K C CB) [] E (tVar 0) (tCons (tVar 1) tNil)) [10] σ H Q := by
  obtain ⟨g0, gl, _⟩ := id rd
  refine ⟨_, s4, ((many : Nat) : Int), rfl, by omega, by omega, fun D hD => ?_⟩
  have nD : D ≠ p := fun z => by rw [z, g0] at hD; cases hD
  have nl : D ≠ l := fun z => by rw [z, gl] at hD; cases hD
  refine lc_range (lo := 0) (n := many) (fun m H' => ∃ ps : List Str, But p H H' ∧ RdAt K C H' p dx l d ws (i + m) ts ∧ i + m ≤ min ws.length 100 ∧ ps.length = m ∧ rdPlaces ns ws many i [] = rdPlaces ns ws (many - m) (i + m) ps ∧ H' D = some (.lst (ps.map V.str)))
    ⟨[], But.ex (Ex.new hD), rd.up (Ex.new hD), hi, rfl, rfl, upd_same⟩ (fun m H' hm' hP => ?_) (fun H' hP => ?_)
  · obtain ⟨ps, b, rdm, him, hpl, hr, hl⟩ := hP
    refine ⟨w10 _, ?_⟩
    unfold tYes
    dsimp only
    rw [if_pos rfl]
    obtain ⟨g1, g2, g3⟩ := id rdm
    have eqm : many - m = (many - (m + 1)) + 1 := by omega
    rw [eqm, rdPlaces_succ] at hr
    refine ⟨_, at10 s0 (by decide), p, dx, _, rfl, g1, rfs_no (by decide +kernel) (by decide +kernel) (by decide +kernel), _, at10 s1 (by decide), p, al, dx, l, d, ws, i + m, ts, ns, rfl, rdm, sqT_but hal g0 b, him, fun fit H2 b2 r2 => ?_, fun no => ?_⟩
    · rw [if_pos fit] at hr
      have hl2 := b2 _ _ hl nD
      have lt := (nextW_mem him (fun z => full (by rw [← z]; exact fit))).1
      refine ⟨_, hl2, small1000 (by rw [List.length_map]; omega), ps ++ [nextW ws (i + m)], fun a o ha na => ?_, r2.mut hl2 nl, by omega, by rw [List.length_append, hpl]; rfl, hr, ?_⟩
      · rw [upd_ne (fun z => by rw [z, hD] at ha; cases ha)]
        exact b2 _ _ (b a o ha na) na
      · rw [upd_same, List.map_append]
        rfl
    · rw [if_neg no] at hr
      exact (bad _ hr).on b
  · obtain ⟨ps, b, rdm, him, hpl, hr, hl⟩ := hP
    rw [Nat.sub_self] at hr
    exact k ps hr D H' hD b rdm him hl
end
end WL

set_option Elab.async false
set_option linter.all false
set_option maxRecDepth 100000
set_option maxHeartbeats 8000000
namespace WL
open PySem PySem.Spec PyProof.Rows L2 Evl
def rdMany (g : Nat → Nat ⊕ (Ask × Nat)) : Nat → Nat → List Ask → Nat ⊕ (List Ask × Nat)
  | 0, i, es => .inr (es, i)
  | m + 1, i, es => match g i with
    | .inl n => .inl n
    | .inr (e, j) => rdMany g m j (es ++ [e])
def mkAsk (w : Str) (ps bs : List Str) (es : List Ask) : Ask := match ps, bs, es with
  | [], [], [e] => .una w e
  | [], [], [e, f] => .bin w e f
  | [], [x], [e] => .qua w x e
  | [u, v], [x, y], [e] => .rch w u v x y e
  | ps, _, _ => .leaf w ps
def rdPart (ts : List (Addr × Str × Int)) (ws : List Str) : Nat → List Str → Nat → Nat ⊕ (Ask × Nat)
  | 0, _, i => .inl (i + 1)
  | n + 1, ns, i => match shapeOf ts (nextW ws i) with
    | none => .inl (i + 1)
    | some (a, b, c) => match rdPlaces ns ws a.toNat (i + 1) [] with
      | .inl m => .inl m
      | .inr ps => match rdBound ts ws b.toNat (i + 1 + a.toNat) [] with
        | .inl m => .inl m
        | .inr bs => match rdMany (rdPart ts ws n (ns ++ bs)) c.toNat (i + 1 + a.toNat + b.toNat) [] with
          | .inl m => .inl m
          | .inr (es, j) => .inr (mkAsk (nextW ws i) ps bs es, j)
def SmallT (ts : List (Addr × Str × Int)) : Prop := ∀ t ∈ ts, ∃ n : Nat, t.2.2 = (n : Int) ∧ n ≤ 3
inductive Form : Int × Int × Int → Prop
  | leaf (n : Nat) (h : n ≤ 3) : Form ((n : Int), 0, 0)
  | una : Form (0, 0, 1)
  | bin : Form (0, 0, 2)
  | qua : Form (0, 1, 1)
  | rch : Form (2, 2, 1)
theorem lookup_in {α : Type} : ∀ {l : List (Str × α)} {x : Str} {v : α}, l.lookup x = some v → (x, v) ∈ l
  | [], _, _, h => by cases h
  | (k, u) :: l, x, v, h => by
    rw [List.lookup_cons] at h
    cases q : x == k with
    | true =>
      rw [q] at h
      cases h
      rw [eq_of_beq q]
      exact List.mem_cons_self
    | false =>
      rw [q] at h
      exact List.mem_cons_of_mem _ (lookup_in h)
theorem shape_form {ts : List (Addr × Str × Int)} (st : SmallT ts) {x : Str} {s : Int × Int × Int} (h : shapeOf ts x = some s) : Form s := by
  unfold shapeOf at h
  cases q : ts.reverse.find? (fun t => decide (t.2.1 = x)) with
  | some t =>
    rw [q] at h
    cases h
    obtain ⟨n, e, hn⟩ := st t (List.mem_reverse.mp (List.mem_of_find?_eq_some q))
    rw [e]
    exact .leaf n hn
  | none =>
    rw [q] at h
    have m := lookup_in h
    unfold baseShapes at m
    simp only [List.mem_cons, Prod.mk.injEq, List.not_mem_nil, or_false] at m
    rcases m with ⟨_, rfl⟩ | ⟨_, rfl⟩ | ⟨_, rfl⟩ | ⟨_, rfl⟩ | ⟨_, rfl⟩ | ⟨_, rfl⟩ | ⟨_, rfl⟩ | ⟨_, rfl⟩ | ⟨_, rfl⟩ | ⟨_, rfl⟩
    · exact .leaf 0 (by decide)
    · exact .leaf 0 (by decide)
    · exact .leaf 2 (by decide)
    · exact .leaf 2 (by decide)
    · exact .una
    · exact .bin
    · exact .bin
    · exact .qua
    · exact .qua
    · exact .rch
theorem mk_form {s : Int × Int × Int} (f : Form s) {w : Str} {ps bs : List Str} {es : List Ask} (h1 : ps.length = s.1.toNat) (h2 : bs.length = s.2.1.toNat) (h3 : es.length = s.2.2.toNat) : (mkAsk w ps bs es).word = w ∧ (mkAsk w ps bs es).places = ps ∧ (mkAsk w ps bs es).bound = bs ∧ (mkAsk w ps bs es).inner = es := by
  cases f with
  | leaf n hn =>
    have e2 : bs = [] := List.length_eq_zero_iff.mp h2
    have e3 : es = [] := List.length_eq_zero_iff.mp h3
    subst e2 e3
    unfold mkAsk
    cases ps with
    | nil => exact ⟨rfl, rfl, rfl, rfl⟩
    | cons a r => cases r with
      | nil => exact ⟨rfl, rfl, rfl, rfl⟩
      | cons b q => cases q <;> exact ⟨rfl, rfl, rfl, rfl⟩
  | una =>
    have e1 : ps = [] := List.length_eq_zero_iff.mp h1
    have e2 : bs = [] := List.length_eq_zero_iff.mp h2
    subst e1 e2
    match es, h3 with | [e], _ => exact ⟨rfl, rfl, rfl, rfl⟩
  | bin =>
    have e1 : ps = [] := List.length_eq_zero_iff.mp h1
    have e2 : bs = [] := List.length_eq_zero_iff.mp h2
    subst e1 e2
    match es, h3 with | [e, f], _ => exact ⟨rfl, rfl, rfl, rfl⟩
  | qua =>
    have e1 : ps = [] := List.length_eq_zero_iff.mp h1
    subst e1
    match bs, es, h2, h3 with | [x], [e], _, _ => exact ⟨rfl, rfl, rfl, rfl⟩
  | rch => match ps, bs, es, h1, h2, h3 with | [u, v], [x, y], [e], _, _, _ => exact ⟨rfl, rfl, rfl, rfl⟩
theorem rdPlaces_len {ns ws : List Str} : ∀ {m i : Nat} {ps qs : List Str}, rdPlaces ns ws m i ps = .inr qs → qs.length = ps.length + m ∧ (∀ x ∈ qs, x ∈ ps ∨ x ∈ ns)
  | 0, i, ps, qs, h => by
    cases h
    exact ⟨rfl, fun x hx => .inl hx⟩
  | m + 1, i, ps, qs, h => by
    rw [rdPlaces_succ] at h
    split at h
    · rename_i fit
      obtain ⟨a, b⟩ := rdPlaces_len h
      rw [List.length_append] at a
      refine ⟨by rw [a]; show ps.length + 1 + m = ps.length + (m + 1); omega, fun x hx => ?_⟩
      rcases b x hx with z | z
      · rcases List.mem_append.mp z with y | y
        · exact .inl y
        · rw [List.mem_singleton.mp y]
          exact .inr fit
      · exact .inr z
    · cases h
theorem rdBound_len {ts : List (Addr × Str × Int)} {ws : List Str} : ∀ {m i : Nat} {bs qs : List Str}, rdBound ts ws m i bs = .inr qs → qs.length = bs.length + m
  | 0, i, bs, qs, h => by
    cases h
    rfl
  | m + 1, i, bs, qs, h => by
    rw [rdBound_succ] at h
    split at h
    · have a := rdBound_len h
      rw [List.length_append] at a
      rw [a]
      show bs.length + 1 + m = bs.length + (m + 1)
      omega
    · cases h
theorem rdMany_len {g : Nat → Nat ⊕ (Ask × Nat)} : ∀ {m i j : Nat} {es fs : List Ask}, rdMany g m i es = .inr (fs, j) → fs.length = es.length + m
  | 0, i, j, es, fs, h => by
    cases h
    rfl
  | m + 1, i, j, es, fs, h => by
    unfold rdMany at h
    split at h
    · cases h
    · have a := rdMany_len h
      rw [List.length_append] at a
      rw [a]
      show es.length + 1 + m = es.length + (m + 1)
      omega
end WL

set_option Elab.async false
set_option linter.all false
set_option maxRecDepth 100000
set_option maxHeartbeats 8000000
namespace WL
open PySem PySem.Spec PyProof.Rows L2 Evl
theorem drop_next {ws : List Str} {i : Nat} (h : i < min ws.length 100) : ws.drop i = nextW ws i :: ws.drop (i + 1) := by
  have lt : i < ws.length := by omega
  rw [List.drop_eq_getElem_cons lt]
  congr 1
  unfold nextW
  rw [if_neg (by omega), List.getD_eq_getElem?_getD, List.getElem?_eq_getElem lt]
  rfl
theorem rdPlaces_words {ns ws : List Str} (full : ("" : Str) ∉ ns) : ∀ {m i : Nat} {ps qs : List Str}, i ≤ min ws.length 100 → rdPlaces ns ws m i ps = .inr qs → ∃ rs, qs = ps ++ rs ∧ rs.length = m ∧ ws.drop i = rs ++ ws.drop (i + m) ∧ i + m ≤ min ws.length 100 ∧ ∀ x ∈ rs, x ∈ ns
  | 0, i, ps, qs, hi, h => by
    cases h
    exact ⟨[], (List.append_nil _).symm, rfl, rfl, hi, nil_all⟩
  | m + 1, i, ps, qs, hi, h => by
    rw [rdPlaces_succ] at h
    split at h
    · rename_i fit
      have lt := (nextW_mem hi (fun z => full (by rw [← z]; exact fit))).1
      obtain ⟨rs, e1, e2, e3, e4, e5⟩ := rdPlaces_words full (i := i + 1) (by omega) h
      refine ⟨nextW ws i :: rs, by rw [e1, List.append_assoc]; rfl, by rw [List.length_cons, e2], ?_, by omega, fun x hx => ?_⟩
      · rw [drop_next lt, e3, show i + 1 + m = i + (m + 1) by omega]
        rfl
      · rcases List.mem_cons.mp hx with z | z
        · rw [z]; exact fit
        · exact e5 x z
    · cases h
theorem okB_and {ts : List (Addr × Str × Int)} {bs : List Str} {x : Str} (h : okB ts bs x = true) : isName x = true ∧ shapeOf ts x = none ∧ x ∉ bs := by
  unfold okB at h
  rw [Bool.and_eq_true, Bool.and_eq_true] at h
  obtain ⟨a, b, c⟩ := h
  refine ⟨a, Option.isNone_iff_eq_none.mp b, fun z => ?_⟩
  rw [decide_eq_true z] at c
  cases c
theorem rdBound_words {ts : List (Addr × Str × Int)} {ws : List Str} : ∀ {m i : Nat} {bs qs : List Str}, i ≤ min ws.length 100 → bs.Nodup → rdBound ts ws m i bs = .inr qs → ∃ rs, qs = bs ++ rs ∧ rs.length = m ∧ ws.drop i = rs ++ ws.drop (i + m) ∧ i + m ≤ min ws.length 100 ∧ qs.Nodup ∧ ∀ x ∈ rs, isName x = true ∧ shapeOf ts x = none
  | 0, i, bs, qs, hi, nd, h => by
    cases h
    exact ⟨[], (List.append_nil _).symm, rfl, rfl, hi, nd, nil_all⟩
  | m + 1, i, bs, qs, hi, nd, h => by
    rw [rdBound_succ] at h
    split at h
    · rename_i fit
      obtain ⟨a, b, c⟩ := okB_and fit
      have lt := (nextW_mem hi (name_filled a)).1
      have nd' : (bs ++ [nextW ws i]).Nodup := by
        rw [List.nodup_append]
        refine ⟨nd, by simp, fun x hx y hy z => ?_⟩
        rw [List.mem_singleton.mp hy] at z
        exact c (by rw [← z]; exact hx)
      obtain ⟨rs, e1, e2, e3, e4, e5, e6⟩ := rdBound_words (i := i + 1) (by omega) nd' h
      refine ⟨nextW ws i :: rs, by rw [e1, List.append_assoc]; rfl, by rw [List.length_cons, e2], ?_, by omega, e5, fun x hx => ?_⟩
      · rw [drop_next lt, e3, show i + 1 + m = i + (m + 1) by omega]
        rfl
      · rcases List.mem_cons.mp hx with z | z
        · rw [z]; exact ⟨a, b⟩
        · exact e6 x z
    · cases h
theorem rdMany_words {ws : List Str} {g : Nat → Nat ⊕ (Ask × Nat)} {Pr : Ask → Prop} (ih : ∀ i t j, i ≤ min ws.length 100 → g i = .inr (t, j) → Pr t ∧ ws.drop i = t.words ++ ws.drop j ∧ j = i + t.words.length ∧ j ≤ min ws.length 100) :
    ∀ {m i j : Nat} {es fs : List Ask}, i ≤ min ws.length 100 → rdMany g m i es = .inr (fs, j) → ∃ gs, fs = es ++ gs ∧ gs.length = m ∧ (∀ e ∈ gs, Pr e) ∧ ws.drop i = gs.flatMap Ask.words ++ ws.drop j ∧ j = i + (gs.flatMap Ask.words).length ∧ j ≤ min ws.length 100
  | 0, i, j, es, fs, hi, h => by
    cases h
    exact ⟨[], (List.append_nil _).symm, rfl, nil_all, rfl, rfl, hi⟩
  | m + 1, i, j, es, fs, hi, h => by
    unfold rdMany at h
    split at h
    · cases h
    · rename_i e k hg
      obtain ⟨p1, p2, p3, p4⟩ := ih i e k hi hg
      obtain ⟨gs, e1, e2, e3, e4, e5, e6⟩ := rdMany_words ih p4 h
      refine ⟨e :: gs, by rw [e1, List.append_assoc]; rfl, by rw [List.length_cons, e2], fun x hx => ?_, ?_, ?_, e6⟩
      · rcases List.mem_cons.mp hx with z | z
        · rw [z]; exact p1
        · exact e3 x z
      · rw [p2, e4, List.flatMap_cons, List.append_assoc]
      · rw [List.flatMap_cons, List.length_append]
        omega
theorem wf_form {ts : List (Addr × Str × Int)} {ns : List Str} {s : Int × Int × Int} (f : Form s) {w : Str} {ps bs : List Str} {es : List Ask} (hw : shapeOf ts w = some s) (h1 : ps.length = s.1.toNat) (h2 : bs.length = s.2.1.toNat) (h3 : es.length = s.2.2.toNat)
    (hp : ∀ x ∈ ps, x ∈ ns) (hb : ∀ x ∈ bs, isName x = true ∧ shapeOf ts x = none) (nd : bs.Nodup) (he : ∀ e ∈ es, Wf ts (ns ++ bs) e) : Wf ts ns (mkAsk w ps bs es) := by
  cases f with
  | leaf n hn =>
    have e2 : bs = [] := List.length_eq_zero_iff.mp h2
    have e3 : es = [] := List.length_eq_zero_iff.mp h3
    subst e2 e3
    have q : mkAsk w ps [] [] = .leaf w ps := by
      unfold mkAsk
      cases ps with
      | nil => rfl
      | cons a r => cases r with
        | nil => rfl
        | cons b q => cases q <;> rfl
    rw [q]
    exact ⟨by rw [hw, h1]; rfl, hp⟩
  | una =>
    have e1 : ps = [] := List.length_eq_zero_iff.mp h1
    have e2 : bs = [] := List.length_eq_zero_iff.mp h2
    subst e1 e2
    match es, h3 with | [e], _ => exact ⟨hw, by simpa using he e List.mem_cons_self⟩
  | bin =>
    have e1 : ps = [] := List.length_eq_zero_iff.mp h1
    have e2 : bs = [] := List.length_eq_zero_iff.mp h2
    subst e1 e2
    match es, h3 with | [e, f], _ => exact ⟨hw, by simpa using he e List.mem_cons_self, by simpa using he f (List.mem_cons_of_mem _ List.mem_cons_self)⟩
  | qua =>
    have e1 : ps = [] := List.length_eq_zero_iff.mp h1
    subst e1
    match bs, es, h2, h3 with | [x], [e], _, _ => exact ⟨hw, hb x List.mem_cons_self, he e List.mem_cons_self⟩
  | rch => match ps, bs, es, h1, h2, h3 with
    | [u, v], [x, y], [e], _, _, _ => exact ⟨hw, ⟨hp u List.mem_cons_self, hp v (List.mem_cons_of_mem _ List.mem_cons_self)⟩, ⟨hb x List.mem_cons_self, hb y (List.mem_cons_of_mem _ List.mem_cons_self), fun z => by rw [z] at nd; simp at nd⟩, he e List.mem_cons_self⟩
end WL

set_option Elab.async false
set_option linter.all false
set_option maxRecDepth 100000
set_option maxHeartbeats 8000000
namespace WL
open PySem PySem.Spec PyProof.Rows L2 Evl
theorem maxOf_most {l : List Nat} {n : Nat} (h : ∀ x ∈ l, x ≤ n) : maxOf l ≤ n := by
  by_cases z : l = []
  · rw [z]
    exact Nat.zero_le n
  · exact h _ (maxOf_mem z)
theorem rd_sound {ts : List (Addr × Str × Int)} {ws : List Str} (st : SmallT ts) (no : shapeOf ts "" = none) : ∀ {n : Nat} {ns : List Str} {i j : Nat} {t : Ask}, ("" : Str) ∉ ns → i ≤ min ws.length 100 → rdPart ts ws n ns i = .inr (t, j) →
    (Wf ts ns t ∧ t.depth ≤ n) ∧ ws.drop i = t.words ++ ws.drop j ∧ j = i + t.words.length ∧ j ≤ min ws.length 100
  | 0, ns, i, j, t, full, hi, h => by cases h
  | n + 1, ns, i, j, t, full, hi, h => by
    unfold rdPart at h
    split at h
    · cases h
    · rename_i a b c hs
      have lt : i < min ws.length 100 := (nextW_mem hi (fun z => by rw [z, no] at hs; cases hs)).1
      split at h
      · cases h
      · rename_i ps hps
        split at h
        · cases h
        · rename_i bs hbs
          split at h
          · cases h
          · rename_i es k hes
            injection h with h
            injection h with e1 e2
            subst e1 e2
            obtain ⟨rs, q1, q2, q3, q4, q5⟩ := rdPlaces_words full (by omega) hps
            obtain ⟨us, r1, r2, r3, r4, r5, r6⟩ := rdBound_words (by omega) List.nodup_nil hbs
            rw [List.nil_append] at q1 r1
            subst q1 r1
            have full' : ("" : Str) ∉ ns ++ bs := fun z => by
              rcases List.mem_append.mp z with y | y
              · exact full y
              · exact name_filled (r6 _ y).1 rfl
            obtain ⟨gs, s1, s2, s3, s4, s5, s6⟩ := rdMany_words (Pr := fun t => Wf ts (ns ++ bs) t ∧ t.depth ≤ n) (fun i t j hi h => rd_sound st no full' hi h) (by omega) hes
            rw [List.nil_append] at s1
            subst s1
            have fm := shape_form st hs
            obtain ⟨m1, m2, m3, m4⟩ := mk_form fm (w := nextW ws i) q2 r2 s2
            have we := words_eq (mkAsk (nextW ws i) ps bs es)
            rw [m1, m2, m3, m4] at we
            have wl : (mkAsk (nextW ws i) ps bs es).words.length = 1 + (ps.length + (bs.length + (es.flatMap Ask.words).length)) := by
              rw [we, List.length_cons, List.length_append, List.length_append]
              omega
            refine ⟨⟨wf_form fm hs q2 r2 s2 q5 r6 r5 fun e he => (s3 e he).1, ?_⟩, ?_, ?_, s6⟩
            · rw [depth_eq, m4]
              have := maxOf_most (l := es.map Ask.depth) (n := n) fun x hx => by
                obtain ⟨e, he, rfl⟩ := List.mem_map.mp hx
                exact (s3 e he).2
              omega
            · rw [drop_next lt, we, q3, r3, s4]
              simp only [List.cons_append, List.append_assoc]
            · rw [wl, s5, q2, r2]
              omega
end WL

set_option Elab.async false
set_option linter.all false
set_option maxRecDepth 100000
set_option maxHeartbeats 8000000
namespace WL
open PySem PySem.Spec PyProof.Rows L2 Evl
theorem rdMany_succ {g : Nat → Nat ⊕ (Ask × Nat)} {m i : Nat} {es : List Ask} : rdMany g (m + 1) i es = match g i with
    | .inl n => .inl n
    | .inr (e, j) => rdMany g m j (es ++ [e]) := rfl
section
variable {P : Program} {w : World} {K : PySem.W.Frag} {mg : Str → Option Value} {base : Heap}
def spReadPartX (K : PySem.W.Frag) (C CP CB : Addr) (n : Nat) : Sp := fun vs H Q E => ∃ (p al dx l d : Addr) (dp : Nat) (ws : List Str) (i : Nat) (ts : List (Addr × Str × Int)) (ns : List Str), vs = [.ref p, .ref al, .int (dp : Nat)] ∧ dp + n = 14 ∧ RdAt K C H p dx l d ws i ts ∧ SqT K H al (ns.map V.str) ∧
  i ≤ min ws.length 100 ∧ (∀ x ∈ ws, x.length ≤ 20000) ∧ ("" : Str) ∉ ns ∧ ns.length + 2 * n ≤ 1000 ∧ SmallT ts ∧ shapeOf ts "" = none ∧
  (∀ t j, rdPart ts ws n ns i = .inr (t, j) → ∀ a H', But p H H' → RdAt K C H' p dx l d ws j ts → PartAt K CP H' a t → Q (.ref a) H') ∧ (∀ m : Nat, rdPart ts ws n ns i = .inl m → ErrB p CB (.int (m : Int)) H E)
theorem comp_innerX {n : Nat} {C CP CB p al ab dx l d : Addr} {dp many : Nat} {ws bs : List Str} {i : Nat} {ts : List (Addr × Str × Int)} {ns : List Str} {σ : L2.St} {H : Hp} {Q : VK} {E : XK} (hne : C ≠ CP) (s0 : σ[0]? = some (some (.ref p))) (s1 : σ[1]? = some (some (.ref al))) (s2 : σ[2]? = some (some (.int (dp : Nat)))) (s8 : σ[8]? = some (some (.ref ab)))
    (s6 : σ[6]? = some (some (.int (many : Nat)))) (rd : RdAt K C H p dx l d ws i ts) (hal : SqT K H al (ns.map V.str)) (hab : SqT K H ab (bs.map V.str)) (hi : i ≤ min ws.length 100) (h2 : many ≤ 2) (hdn : dp + 1 + n = 14) (hw : ∀ x ∈ ws, x.length ≤ 20000) (full : ("" : Str) ∉ ns ++ bs) (hln : (ns ++ bs).length + 2 * n ≤ 1000) (st : SmallT ts) (no : shapeOf ts "" = none)
    (k : ∀ es j, rdMany (rdPart ts ws n (ns ++ bs)) many i [] = .inr (es, j) → ∀ D H' (its : List (Addr × Ask)), H D = none → But p H H' → RdAt K C H' p dx l d ws j ts → its.map (·.2) = es → (∀ q ∈ its, PartAt K CP H' q.1 q.2) → H' D = some (.lst (its.map fun q => V.ref q.1)) → Q (.ref D) H')
    (bad : ∀ m : Nat, rdMany (rdPart ts ws n (ns ++ bs)) many i [] = .inl m → ErrB p CB (.int (m : Int)) H E) :
    tLc (iRng1 (tCons (tVar 6) tNil)) (gName 10) tYes (tMeth C "read_part" (spReadPartX K C CP CB n) [] E (tVar 0) (tCons (tOp (rCatA K) (tVar 1) (tVar 8)) (tCons (tOp (rI0 fun i j => .int (i + j)) (tVar 2) (tC (.int 1))) tNil))) [10] σ H Q := by
  obtain ⟨g0, gl, _⟩ := id rd
  refine ⟨_, s6, ((many : Nat) : Int), rfl, by omega, by omega, fun D hD => ?_⟩
  have nD : D ≠ p := fun z => by rw [z, g0] at hD; cases hD
  have nl : D ≠ l := fun z => by rw [z, gl] at hD; cases hD
  refine lc_range (lo := 0) (n := many) (fun m H' => ∃ (its : List (Addr × Ask)) (j : Nat), But p H H' ∧ RdAt K C H' p dx l d ws j ts ∧ j ≤ min ws.length 100 ∧ its.length = m ∧ rdMany (rdPart ts ws n (ns ++ bs)) many i [] = rdMany (rdPart ts ws n (ns ++ bs)) (many - m) j (its.map (·.2)) ∧ (∀ q ∈ its, PartAt K CP H' q.1 q.2) ∧ H' D = some (.lst (its.map fun q => V.ref q.1)))
    ⟨[], i, But.ex (Ex.new hD), rd.up (Ex.new hD), hi, rfl, rfl, nil_all, upd_same⟩ (fun m H' hm hP => ?_) (fun H' hP => ?_)
  · obtain ⟨its, j, b, rdm, hj, hil, hr, hpt, hl⟩ := hP
    refine ⟨w10 _, ?_⟩
    unfold tYes
    dsimp only
    rw [if_pos rfl]
    obtain ⟨g1, g2, g3⟩ := id rdm
    have eqm : many - m = (many - (m + 1)) + 1 := by omega
    rw [eqm, rdMany_succ] at hr
    refine ⟨_, at10 s0 (by decide), p, dx, _, rfl, g1, rfs_no (by decide +kernel) (by decide +kernel) (by decide +kernel), ?_⟩
    have lns : ns.length + bs.length ≤ 1000 := by rw [List.length_append] at hln; omega
    refine eq_catTT (ta := tVar 1) (tb := tVar 8) (fun H1 _ => ev_var (at10 s1 (by decide))) (fun H1 _ => ev_var (at10 s8 (by decide))) (sqT_but hal g0 b) (sqT_but hab g0 b) (by rw [List.length_map, List.length_map]; omega) H' (Ex.refl _) _ fun q H2 e2 sq2 => ?_
    rw [← List.map_append] at sq2
    refine ⟨_, at10 s2 (by decide), (dp : Int), 1, rfl, rfl, p, q, dx, l, d, dp + 1, ws, j, ts, ns ++ bs, rfl, hdn, rdm.up e2, sq2, hj, hw, full, hln, st, no, fun t j' ht a H3 b3 r3 p3 => ?_, fun m' hm' => ?_⟩
    · rw [ht] at hr
      dsimp only at hr
      have b3' := (But.ex e2).trans b3
      have hl3 := b3' _ _ hl nD
      refine ⟨_, hl3, small1000 (by rw [List.length_map]; omega), its ++ [(a, t)], j', fun c o hc nc => ?_, r3.mut hl3 nl, (rd_sound st no full hj ht).2.2.2, by rw [List.length_append, hil]; rfl, ?_, fun q hq => ?_, ?_⟩
      · rw [upd_ne (fun z => by rw [z, hD] at hc; cases hc)]
        exact b3' _ _ (b c o hc nc) nc
      · rw [hr, List.map_append]
        rfl
      · rcases List.mem_append.mp hq with z | z
        · exact part_mut hl3 (part_but g1 (.inr hne) b3' (hpt q z))
        · rw [List.mem_singleton.mp z]
          exact part_mut hl3 p3
      · rw [upd_same, List.map_append]
        rfl
    · rw [hm'] at hr
      exact (bad m' hr).on (b.trans (But.ex e2))
  · obtain ⟨its, j, b, rdm, hj, hil, hr, hpt, hl⟩ := hP
    rw [Nat.sub_self] at hr
    exact k _ j hr D H' its hD b rdm rfl hpt hl
end
end WL

set_option Elab.async false
set_option linter.all false
set_option maxRecDepth 100000
set_option maxHeartbeats 8000000
namespace WL
open PySem PySem.Spec PyProof.Rows L2 Evl
theorem rdPart_none {ts : List (Addr × Str × Int)} {ws ns : List Str} {i : Nat} (sh : shapeOf ts (nextW ws i) = none) : ∀ {n : Nat}, rdPart ts ws n ns i = .inl (i + 1)
  | 0 => rfl
  | n + 1 => by
    unfold rdPart
    rw [sh]
theorem rdPart_some {ts : List (Addr × Str × Int)} {ws ns : List Str} {i n a b c : Nat} (sh : shapeOf ts (nextW ws i) = some ((a : Int), (b : Int), (c : Int))) : rdPart ts ws (n + 1) ns i = match rdPlaces ns ws a (i + 1) [] with
      | .inl m => .inl m
      | .inr ps => match rdBound ts ws b (i + 1 + a) [] with
        | .inl m => .inl m
        | .inr bs => match rdMany (rdPart ts ws n (ns ++ bs)) c (i + 1 + a + b) [] with
          | .inl m => .inl m
          | .inr (es, j) => .inr (mkAsk (nextW ws i) ps bs es, j) := by
  conv => lhs; unfold rdPart
  rw [sh]
  rfl
theorem form_nat {s : Int × Int × Int} (f : Form s) : ∃ a b c : Nat, s = ((a : Int), (b : Int), (c : Int)) ∧ a ≤ 3 ∧ b ≤ 2 ∧ c ≤ 2 := by
  cases f with
  | leaf n hn => exact ⟨n, 0, 0, rfl, hn, by decide, by decide⟩
  | una => exact ⟨0, 0, 1, rfl, by decide, by decide, by decide⟩
  | bin => exact ⟨0, 0, 2, rfl, by decide, by decide, by decide⟩
  | qua => exact ⟨0, 1, 1, rfl, by decide, by decide, by decide⟩
  | rch => exact ⟨2, 2, 1, rfl, by decide, by decide, by decide⟩
section
variable {P : Program} {w : World} {K : PySem.W.Frag} {mg : Str → Option Value} {base : Heap}
theorem ok_readPartX {n : Nat} {S : Sp} {f C CP CB g1 g2 g3 g4 g5 : Addr} {fd gd1 gd2 gd3 gd4 gd5 : FuncData} (F : Fun K "read_part" "Reader.read_part" sReader_ReadPart f fd) (T : TRd w K mg C) (TP : TPt K mg CP) (hne : C ≠ CP)
    (GN : FMeth P w K mg base C "next_word" g1 gd1 1 ["self"] (spNextWord K C)) (mT : Meth K C "take" g2) (GT : FnOk P w K mg base (L2.CX P w) 3 g2 gd2 ["self", "fits"] (spTakeX K C CB)) (bT : Binds K gd2 ["self", "fits"] [])
    (mP : Meth K C "read_place" g3) (GP : FnOk P w K mg base (L2.CX P w) 4 g3 gd3 ["self", "alive"] (spReadPlaceX K C CB)) (bP : Binds K gd3 ["self", "alive"] []) (mB : Meth K C "read_bound" g4) (GB : FnOk P w K mg base (L2.CX P w) 4 g4 gd4 ["self", "many"] (spReadBoundX K C CB)) (bB : Binds K gd4 ["self", "many"] [])
    (GI : FnOk P w K mg base CX0 2 g5 gd5 ["self", "word", "places", "bound", "inner"] (spPartInit K CP)) (MP : Mk K CP g5) (bI : Binds K gd5 ["self", "word", "places", "bound", "inner"] [])
    (mR : Meth K C "read_part" f) (GR : FnOk P w K mg base (L2.CX P w) (5 + n) f fd ["self", "alive", "within"] S) (bR : Binds K fd ["self", "alive", "within"] []) (hS : ∀ m, n = m + 1 → S = spReadPartX K C CP CB m) :
    FnOk P w K mg base (L2.CX P w) (5 + n + 1) f fd ["self", "alive", "within"] (spReadPartX K C CP CB n) := by
  refine F.okX scReader_ReadPart (fun vs H Q E h => ?_) (fun cdv A outer s H vs Q E hr h => ?_)
  · obtain ⟨p, al, dx, l, d, dp, ws, i, ts, ns, rfl, _⟩ := h
    rfl
  · obtain ⟨p, al, dx, l, d, dp, ws, i, ts, ns, rfl, hdn, rd, hal, hi, hwl, full, hln, st, no, kq, kb⟩ := h
    obtain ⟨t14, m14⟩ := T.deep
    have hr1 : Room 1 _ := hr.mono (by omega)
    have hr2 : Room 2 _ := hr.mono (by omega)
    have hr3 : Room 3 _ := hr.mono (by omega)
    have hr4 : Room 4 _ := hr.mono (by omega)
    refine ⟨_, pss_cons (ps_set (i := 3) scReader_ReadPart.nd rfl (Or.inl rfl) (pe_meth0 (pv 0) T.cl GN.m GN.ok hr1 GN.b .nil pass0))
      (pss_cons (ps_expr (pe_meth (pv 0) T.cl mT GT hr3 bT .nil (passes_call (takes_of rfl rfl rfl rfl) (fun _ _ _ _ h => h)) (pa_cons (pe_and (pe_cmp (pc_din (hu_of hr) (pv 3) (pe_fld (pv 0) rfl)) rfl) (pe_one (pe_cmpR op_lt (pv 2) (pe_glob (v := .int 14) rfl m14 ⟨_, rfl⟩) (nomark _)))) pa_nil)))
      (pss_cons (ps_asg (pe_dget (hu_of hr) (pe_fld (pv 0) rfl) (pv 3) (fun _ _ => rfl)) (pg_tup rfl (pgs_cons (pg_name (i := 4) scReader_ReadPart.nd rfl (Or.inl rfl)) (pgs_cons (pg_name (i := 5) scReader_ReadPart.nd rfl (Or.inl rfl)) (pgs_cons (pg_name (i := 6) scReader_ReadPart.nd rfl (Or.inl rfl)) pgs_nil)))))
      (pss_cons (ps_set (i := 7) scReader_ReadPart.nd rfl (Or.inl rfl) (pe_callTy call_tuple_of (by rfl) T.v.tuple (by decide +kernel) (pa_cons (XC.pe_lcX (E := E) (own := [("_", 10)]) (g := gName 10) (tt := tYes) rfl rfl rfl (takes_of rfl rfl rfl rfl) (fun _ _ _ _ h => h) scReader_ReadPart.nd (pi_range1 (by rfl) T.range (pa_cons (pv 4) pa_nil)) (blkOk_by (N := nRP) (sc := defScope sReader_ReadPart) (by decide +kernel))
          (fun _ _ _ _ _ _ => pg_name (i := 10) scReader_ReadPart.nd rfl (Or.inl rfl)) (fun _ _ _ _ _ _ => pts_nil) (fun _ _ _ _ _ _ hp => pe_meth (pv 0) T.cl mP GP hr4 bP .nil hp (pa_cons (pv 1) pa_nil))) pa_nil)))
      (pss_cons (ps_set (i := 8) scReader_ReadPart.nd rfl (Or.inr rfl) (pe_meth (pv 0) T.cl mB GB hr4 bB .nil (passes_call (takes_of rfl rfl rfl rfl) (fun _ _ _ _ h => h)) (pa_cons (pv 5) pa_nil)))
      (pss_cons (ps_set (i := 9) scReader_ReadPart.nd rfl (Or.inl rfl) (pe_callTy call_tuple_of (by rfl) T.v.tuple (by decide +kernel) (pa_cons (XC.pe_lcX (E := E) (own := [("_", 10)]) (g := gName 10) (tt := tYes) (te := tMeth C "read_part" S [] E (tVar 0) (tCons (tOp (rCatA K) (tVar 1) (tVar 8)) (tCons (tOp (rI0 fun i j => .int (i + j)) (tVar 2) (tC (.int 1))) tNil))) rfl rfl rfl (takes_of rfl rfl rfl rfl) (fun _ _ _ _ h => h) scReader_ReadPart.nd (pi_range1 (by rfl) T.range (pa_cons (pv 6) pa_nil)) (blkOk_by (N := nRP) (sc := defScope sReader_ReadPart) (by decide +kernel))
          (fun _ _ _ _ _ _ => pg_name (i := 10) scReader_ReadPart.nd rfl (Or.inl rfl)) (fun _ _ _ _ _ _ => pts_nil) (fun _ _ _ _ _ _ hp => pe_meth (pv 0) T.cl mR GR hr bR .nil hp (pa_cons (pe_op op_catA (pv 1) (pv 8)) (pa_cons (pe_op op_add (pv 2) pe_int) pa_nil)))) pa_nil)))
      (pss_one (ps_ret (pe_make MP GI hr3 (by rfl) TP.mgC bI .nil pass0 (pa_cons (pv 3) (pa_cons (pv 7) (pa_cons (pv 8) (pa_cons (pv 9) pa_nil)))))))))))), ?_⟩
    obtain ⟨h1, h2, h3⟩ := id rd
    refine ⟨_, rfl, p, dx, _, rfl, h1, rfs_no (by decide +kernel) (by decide +kernel) (by decide +kernel), p, dx, l, d, ws, i, ts, rfl, rd, hi, fun H1 e1 => ?_⟩
    obtain ⟨kvs, k1, k2, k3⟩ := h3.up e1
    have kx := k3 (nextW ws i)
    refine ⟨_, rfl, p, dx, _, rfl, e1 _ _ h1, rfs_no (by decide +kernel) (by decide +kernel) (by decide +kernel), ?_⟩
    refine ⟨_, rfl, _, rfl, p, C, dx, _, _, rfl, e1 _ _ h1, T.cl, T.nShapes, rfs_shapes, d, _, rfl, DGet.k (k := Sum.inr (nextW ws i)) k1, ?_⟩
    cases sh : shapeOf ts (nextW ws i) with
    | none =>
      rw [sh] at kx
      dsimp only at kx
      rw [kx]
      exact ⟨_, rfl, iteF ⟨p, dx, l, d, ws, i, ts, false, rfl, rd.up e1, (fun q => by cases q), fun _ => (kb _ (rdPart_none sh)).go (But.ex e1)⟩⟩
    | some s =>
      rw [sh] at kx
      obtain ⟨r0, kx1, kx2⟩ := kx
      rw [kx1]
      refine ⟨_, rfl, iteT ⟨_, rfl, (dp : Int), 14, rfl, rfl, ?_⟩⟩
      cases n with
      | zero =>
        have nlt : decide ((dp : Int) < 14) = false := decide_eq_false (by omega)
        simp only [nlt]
        exact ⟨p, dx, l, d, ws, i, ts, false, rfl, rd.up e1, (fun q => by cases q), fun _ => (kb _ rfl).go (But.ex e1)⟩
      | succ n =>
        have lt14 : decide ((dp : Int) < 14) = true := decide_eq_true (by omega)
        simp only [lt14]
        have fm := shape_form st sh
        obtain ⟨a, b, c, rfl, ha3, hb2, hc2⟩ := form_nat fm
        have hR := rdPart_some (n := n) (ns := ns) sh
        rw [hS n rfl]
        refine ⟨p, dx, l, d, ws, i, ts, true, rfl, rd.up e1, fun _ H2 b2 r2 => ?_, fun q => by cases q⟩
        have b12 := (But.ex e1).trans b2
        have hal2 := sqT_but hal h1 b12
        obtain ⟨g1, g2, g3⟩ := id r2
        obtain ⟨kvs2, q1, q2, q3⟩ := id g3
        have qx := q3 (nextW ws i)
        rw [sh] at qx
        obtain ⟨r3, qx1, qx2⟩ := qx
        have dg := DGet.k (k := Sum.inr (nextW ws i)) q1
        rw [qx1] at dg
        have lt : i < min ws.length 100 := (nextW_mem hi (fun z => by rw [z, no] at sh; cases sh)).1
        refine ⟨_, rfl, p, C, dx, _, _, rfl, g1, T.cl, T.nShapes, rfs_shapes, _, rfl, d, .ref r3, rfl, dg, ?_⟩
        refine ⟨r3, _, rfl, qx2, rfl, _, _, rfl, _, _, rfl, _, _, rfl, rfl, ?_⟩
        dsimp only
        refine q_asgT1 (comp_placesX (CB := CB) (σ := [some (V.ref p), some (V.ref al), some (V.int (dp : Int)), some (V.str (nextW ws i)), some (V.int (a : Int)), some (V.int (b : Int)), some (V.int (c : Int)), none, none, none, none]) (many := a) (ns := ns) rfl rfl rfl r2 hal2 (by omega) (by omega) full (fun ps hps D H3 hD b3 r3' hi3 hl3 => ?_) (fun m q => (kb m (by rw [hR, q])).on b12))
        obtain ⟨rs, y1, y2, y3, y4, y5⟩ := rdPlaces_words full (by omega) hps
        rw [List.nil_append] at y1
        subst y1
        rw [hps] at hR
        dsimp only at hR
        refine ⟨D, _, rfl, .inl ⟨sq_of hl3, fun tp htp => ?_⟩⟩
        have e4 := Ex.new (o := HO.tup (ps.map V.str)) htp
        have r4 := r3'.up e4
        have b4 := (b12.trans b3).trans (But.ex e4)
        have tp4 : (upd H3 tp (.tup (ps.map V.str))) tp = some (.tup (ps.map V.str)) := upd_same
        generalize upd H3 tp (.tup (ps.map V.str)) = H4 at r4 b4 tp4 ⊢
        obtain ⟨f1, f2, f3⟩ := id r4
        refine ⟨_, rfl, p, dx, _, rfl, f1, rfs_no (by decide +kernel) (by decide +kernel) (by decide +kernel), _, rfl, p, dx, l, d, ws, _, b, ts, rfl, r4, hi3, hb2, hwl, fun bs hbs ab H5 b5 r5 hi5 hab => ?_, fun m q => (kb m (by rw [hR, q])).on b4⟩
        obtain ⟨us, z1, z2, z3, z4, z5, z6⟩ := rdBound_words hi3 List.nodup_nil hbs
        rw [List.nil_append] at z1
        subst z1
        rw [hbs] at hR
        dsimp only at hR
        have full' : ("" : Str) ∉ ns ++ bs := fun z => by
          rcases List.mem_append.mp z with y | y
          · exact full y
          · exact name_filled (z6 _ y).1 rfl
        have b45 := b4.trans b5
        have tp5 : SqT K H5 tp (ps.map V.str) := sqT_but (.inl (.inl tp4)) f1 b5
        dsimp only
        refine q_asgT1 (comp_innerX (σ := [some (V.ref p), some (V.ref al), some (V.int (dp : Int)), some (V.str (nextW ws i)), some (V.int (a : Int)), some (V.int (b : Int)), some (V.int (c : Int)), some (V.ref tp), some (V.ref ab), none, none]) (n := n) (many := c) (bs := bs) (ns := ns) (dp := dp) hne rfl rfl rfl rfl rfl r5 (sqT_but hal h1 b45) hab hi5 hc2 (by omega) hwl full' (by rw [List.length_append]; omega) st no (fun es j hes D2 H6 its hD2 b6 r6 hits hpt hl6 => ?_) (fun m q => (kb m (by rw [hR, q])).on b45))
        obtain ⟨gs, s1, s2, s3, s4, s5, s6⟩ := rdMany_words (Pr := fun _ => True) (fun i t j hi h => ⟨trivial, (rd_sound st no full' hi h).2⟩) hi5 hes
        rw [List.nil_append] at s1
        subst s1
        rw [hes] at hR
        dsimp only at hR
        obtain ⟨m1, m2, m3, m4⟩ := mk_form fm (w := nextW ws i) (ps := ps) (bs := bs) (es := es) y2 z2 s2
        have kq' := kq _ _ hR
        generalize mkAsk (nextW ws i) ps bs es = t at m1 m2 m3 m4 kq'
        refine ⟨D2, _, rfl, .inl ⟨sq_of hl6, fun ti hti => ?_⟩⟩
        have e7 := Ex.new (o := HO.tup (its.map fun j => V.ref j.1)) hti
        obtain ⟨f5, _, _⟩ := id r5
        have b57 := b6.trans (But.ex e7)
        have b7 := b45.trans b57
        have r7 := r6.up e7
        have tp7 := sqT_but tp5 f5 b57
        have ab7 := sqT_but hab f5 b57
        have ti7 : SqT K (upd H6 ti (.tup (its.map fun j => V.ref j.1))) ti (its.map fun j => V.ref j.1) := .inl (.inl upd_same)
        have pt7 : ∀ j ∈ its, PartAt K CP (upd H6 ti (.tup (its.map fun j => V.ref j.1))) j.1 j.2 := fun j hj => part_up e7 (hpt j hj)
        generalize upd H6 ti (.tup (its.map fun j => V.ref j.1)) = H7 at b57 b7 r7 tp7 ab7 ti7 pt7 ⊢
        have lenw : ∀ e ∈ es, e.words.length ≤ 100 := fun e he => by
          have : e.words.length ≤ (es.flatMap Ask.words).length := by
            obtain ⟨l1, l2, q⟩ := List.append_of_mem he
            rw [q, List.flatMap_append, List.flatMap_cons, List.length_append, List.length_append]
            omega
          omega
        subst m2 m3
        rw [← m4] at hits s2 lenw
        have hfr : its.map (fun j => j.2.free) = t.inner.map Ask.free := by rw [← hits, List.map_map]; rfl
        have hdp2 : its.map (fun j => j.2.depth) = t.inner.map Ask.depth := by rw [← hits, List.map_map]; rfl
        have hmo : its.map (fun j => j.2.most) = t.inner.map Ask.most := by rw [← hits, List.map_map]; rfl
        have hon : its.map (fun j => (once (j.2.free ++ t.bound)).length) = t.inner.map fun e => (once (e.free ++ t.bound)).length := by rw [← hits, List.map_map]; rfl
        have e1' : freeOf t.places t.bound (its.map fun j => j.2.free) = t.free := by rw [hfr, ← free_eq]
        have e2' : depthOf its = t.depth := by unfold depthOf; rw [hdp2, ← depth_eq]
        have e3' : mostOf t.places t.bound its = t.most := by unfold mostOf; rw [e1', hmo, hon, ← most_eq]
        refine ⟨_, rfl, _, rfl, _, rfl, _, rfl, fun x dy hx hdy hxy => ?_⟩
        have ex8 : Ex H7 (upd (upd H7 dy (.own x)) x (.ins CP dy [])) := fun c o hc => by rw [upd_ne (ne_of_none hc hx), upd_ne (ne_of_none hc hdy)]; exact hc
        refine ⟨x, dy, _, tp, ab, ti, t.places, t.bound, its, rfl, upd_same, ex_t ex8 tp7, ex_t ex8 ab7, ex_t ex8 ti7, fun j hj => part_up ex8 (pt7 j hj), by omega, by omega, ?_, fun j hj => ?_, fun H9 b9 nd => ⟨rfl, ?_⟩⟩
        · rw [← List.length_map (f := (·.2)), hits]; have := inner_le t; omega
        · have z : j.2 ∈ t.inner := by rw [← hits]; exact List.mem_map.mpr ⟨j, hj, rfl⟩
          have := free_len j.2
          have := lenw j.2 z
          omega
        · have b79 : Ex H7 H9 := fun c o hc => b9 c o (ex8 c o hc) (ne_of_none hc hx)
          rw [e1', e2', e3', ← m1] at nd
          have pf : ∀ j ∈ its, PartAt K CP H9 j.1 j.2 := fun j hj => part_up b79 (pt7 j hj)
          exact kq' x H9 (b7.trans (But.ex b79)) (r7.up b79) (part_of hits nd pf)
end
end WL

set_option Elab.async false
set_option linter.all false
set_option maxRecDepth 100000
set_option maxHeartbeats 8000000
namespace WL
open PySem PySem.Spec PyProof.Rows L2 Evl
section
variable {P : Program} {w : World} {K : PySem.W.Frag} {mg : Str → Option Value} {base : Heap}
theorem readPartX_all {f C CP CB g1 g2 g3 g4 g5 : Addr} {fd gd1 gd2 gd3 gd4 gd5 : FuncData} (F : Fun K "read_part" "Reader.read_part" sReader_ReadPart f fd) (T : TRd w K mg C) (TP : TPt K mg CP) (hne : C ≠ CP)
    (GN : FMeth P w K mg base C "next_word" g1 gd1 1 ["self"] (spNextWord K C)) (mT : Meth K C "take" g2) (GT : FnOk P w K mg base (L2.CX P w) 3 g2 gd2 ["self", "fits"] (spTakeX K C CB)) (bT : Binds K gd2 ["self", "fits"] [])
    (mP : Meth K C "read_place" g3) (GP : FnOk P w K mg base (L2.CX P w) 4 g3 gd3 ["self", "alive"] (spReadPlaceX K C CB)) (bP : Binds K gd3 ["self", "alive"] []) (mB : Meth K C "read_bound" g4) (GB : FnOk P w K mg base (L2.CX P w) 4 g4 gd4 ["self", "many"] (spReadBoundX K C CB)) (bB : Binds K gd4 ["self", "many"] [])
    (GI : FnOk P w K mg base CX0 2 g5 gd5 ["self", "word", "places", "bound", "inner"] (spPartInit K CP)) (MP : Mk K CP g5) (bI : Binds K gd5 ["self", "word", "places", "bound", "inner"] [])
    (mR : Meth K C "read_part" f) (bR : Binds K fd ["self", "alive", "within"] []) : ∀ n, FnOk P w K mg base (L2.CX P w) (6 + n) f fd ["self", "alive", "within"] (spReadPartX K C CP CB n)
  | 0 => by
    have never : FnOk P w K mg base (L2.CX P w) 5 f fd ["self", "alive", "within"] (fun _ _ _ _ => False) := ⟨fun vs H Q E h => h.elim, fun A outer s H args us vs Q E _ _ _ _ h => h.elim⟩
    exact ok_readPartX (n := 0) F T TP hne GN mT GT bT mP GP bP mB GB bB GI MP bI mR never bR (fun m q => by cases q)
  | n + 1 => by
    have ih := readPartX_all F T TP hne GN mT GT bT mP GP bP mB GB bB GI MP bI mR bR n
    have eq : 5 + (n + 1) + 1 = 6 + (n + 1) := by omega
    have e2 : 6 + n = 5 + (n + 1) := by omega
    rw [e2] at ih
    rw [← eq]
    exact ok_readPartX (n := n + 1) F T TP hne GN mT GT bT mP GP bP mB GB bB GI MP bI mR ih bR (fun m q => by cases q; rfl)
def spReadEndX (K : PySem.W.Frag) (C CB : Addr) : Sp := fun vs H Q E => ∃ (p dx l d : Addr) (ws : List Str) (i : Nat) (ts : List (Addr × Str × Int)), vs = [.ref p] ∧ RdAt K C H p dx l d ws i ts ∧ (ws.length ≤ i → RetV .non H Q) ∧ (i < ws.length → ErrTo CB (.int ((i + 1 : Nat) : Int)) H E)
theorem ok_readEndX {f C CB : Addr} {fd : FuncData} (F : Fun K "read_end" "Reader.read_end" sReader_ReadEnd f fd) (T : TRd w K mg C) (TB : TBQ P w K mg base CB) : FnOk P w K mg base (L2.CX P w) 3 f fd ["self"] (spReadEndX K C CB) := by
  obtain ⟨fI, fdI, TE, GI, bI⟩ := TB.err
  refine F.okX scReader_ReadEnd (fun vs H Q E h => ?_) (fun cdv A outer s H vs Q E hr h => ?_)
  · obtain ⟨p, dx, l, d, ws, i, ts, rfl, _⟩ := h
    rfl
  · obtain ⟨p, dx, l, d, ws, i, ts, rfl, ⟨g1, g2, g3⟩, k1, k2⟩ := h
    refine ⟨_, pss_one (ps_if (pt_cmpR op_lt (pe_fld (pv 0) rfl) (pe_callB call_len_seq (by rfl) T.v.len PySem.boot_len (pa_cons (pe_fld (pv 0) rfl) pa_nil)) (nomark _)) (pss_one (ps_raise rfl (takes_of rfl rfl rfl rfl) (pmk_err TE GI hr bI (by rfl) TB.mgC (pa_cons (pe_op op_add (pe_fld (pv 0) rfl) pe_int) pa_nil)))) pss_nil), ?_⟩
    have q := ev_op (ev_fld (σ := L2.start ["self"] [V.ref p]) (ta := tVar 0) (ev_var rfl) g1 T.cl T.nRead rfs_read) (ev_lenQ (K := K) (eq_l (ev_fld (ta := tVar 0) (ev_var rfl) g1 T.cl T.nWords rfs_words) (sq_of g2))) (rv_I0 (g := fun i j => V.bl (decide (i < j))))
    rw [List.length_map] at q
    by_cases z : i < ws.length
    · have q2 := ev_is q (congrArg V.bl (decide_eq_true (show ((i : Nat) : Int) < ((ws.length : Nat) : Int) by omega)))
      refine s_when (b := true) (et_test q2) (fun hb H1 e => ?_) (fun hb => by cases hb)
      refine mkErr_go TE (ea_cons (ev_op (ev_fld (ev_var rfl) (e _ _ g1) T.cl T.nRead rfs_read) ev_c rv_I0) ea_nil) ?_
      intro d' H' e' hd'
      refine k2 z d' H' (e.trans e') ?_
      rw [hd']
      rfl
    · have q2 := ev_is q (congrArg V.bl (decide_eq_false (show ¬ ((i : Nat) : Int) < ((ws.length : Nat) : Int) by omega)))
      exact s_when (b := false) (et_test q2) (fun hb => by cases hb) (fun hb H1 e => k1 (by omega) H1 e)
def rdWhole (ts : List (Addr × Str × Int)) (ns ws : List Str) : Nat ⊕ Ask := match rdPart ts ws 14 ns 0 with
  | .inl m => .inl m
  | .inr (t, j) => if j < ws.length then .inl (j + 1) else .inr t
def spWholeX (K : PySem.W.Frag) (CP CB : Addr) : Sp := fun vs H Q E => ∃ (ah at_ : Addr) (text : Str) (hs : List Str) (ts : List (Addr × Str × Int)) (ch : Nat), vs = [.ref ah, .str text, .ref at_, .int (ch : Nat)] ∧ SqT K H ah (hs.map V.str) ∧ TabsAt K H at_ ts ∧ ts.length ≤ 800 ∧ ch ≤ 3 ∧ hs.length ≤ 100 ∧
  text.length ≤ 100000 ∧ (∀ x ∈ Txt.split text " ", x.length ≤ 20000) ∧ ("" : Str) ∉ hs ∧ SmallT ts ∧ shapeOf ts "" = none ∧
  (∀ t, rdWhole ts (hs ++ changedS.take ch) (Txt.split text " ") = .inr t → ∀ a H', Ex H H' → PartAt K CP H' a t → Q (.ref a) H') ∧ (∀ m : Nat, rdWhole ts (hs ++ changedS.take ch) (Txt.split text " ") = .inl m → ErrTo CB (.int (m : Int)) H E)
end
end WL

set_option Elab.async false
set_option linter.all false
set_option maxRecDepth 100000
set_option maxHeartbeats 8000000
namespace WL
open PySem PySem.Spec PyProof.Rows L2 Evl
section
variable {P : Program} {w : World} {K : PySem.W.Frag} {mg : Str → Option Value} {base : Heap}
theorem ok_wholeX {f C CP CB g1 g2 g3 : Addr} {fd gd1 gd2 gd3 : FuncData} (F : Fun K "whole_part" "whole_part" sWholePart f fd) (T : TRd w K mg C) (TB : TBQ P w K mg base CB)
    (GI : FnOk P w K mg base CX0 1 g1 gd1 ["self", "text", "tables"] (spReaderInit K C)) (MR : Mk K C g1) (bI : Binds K gd1 ["self", "text", "tables"] [])
    (mR : Meth K C "read_part" g2) (GR : FnOk P w K mg base (L2.CX P w) 20 g2 gd2 ["self", "alive", "within"] (spReadPartX K C CP CB 14)) (bR : Binds K gd2 ["self", "alive", "within"] [])
    (mE : Meth K C "read_end" g3) (GE : FnOk P w K mg base (L2.CX P w) 3 g3 gd3 ["self"] (spReadEndX K C CB)) (bE : Binds K gd3 ["self"] []) :
    FnOk P w K mg base (L2.CX P w) 21 f fd ["head", "text", "tables", "changed"] (spWholeX K CP CB) := by
  obtain ⟨fI, fdI, TE, GX, bX⟩ := TB.err
  refine F.okX scWholePart (fun vs H Q E h => ?_) (fun cdv A outer s H vs Q E hr h => ?_)
  · obtain ⟨ah, at_, text, hs, ts, ch, rfl, _⟩ := h
    rfl
  · obtain ⟨ah, at_, text, hs, ts, ch, rfl, h1, h2, h3, h4, h5, hz, hwl, full, st, no, kq, kb⟩ := h
    obtain ⟨aC, mC, qC⟩ := T.v.changed
    have hr2 : Room 2 _ := hr.mono (by decide)
    have hr3 : Room 3 _ := hr.mono (by decide)
    refine ⟨_, pss_cons (ps_if (pt_not (pt_val (pe_callB call_isi (by rfl) T.v.isi (by decide +kernel) (pa_cons (pv 1) (pa_cons (pe_bltn (v := .ty "str") (by rfl) T.v.str (by decide +kernel) rfl) pa_nil))))) (pss_one (ps_raise rfl (takes_of rfl rfl rfl rfl) (pmk_err TE GX hr2 bX (by rfl) TB.mgC (pa_cons pe_int pa_nil)))) pss_nil)
      (pss_cons (ps_set (i := 4) scWholePart.nd rfl (Or.inl rfl) (pe_make MR GI hr2 (by rfl) T.mgC bI .nil pass0 (pa_cons (pv 1) (pa_cons (pv 2) pa_nil))))
      (pss_cons (ps_set (i := 5) scWholePart.nd rfl (Or.inl rfl) (pe_meth (pv 4) T.cl mR GR hr bR .nil (passes_call (takes_of rfl rfl rfl rfl) (fun _ _ _ _ h => h)) (pa_cons (pe_op op_catA (pv 0) (pe_slice sl_tupA (pe_glob (v := .ref aC) rfl mC rfl) po_none (po_some (pv 3)))) (pa_cons pe_int pa_nil))))
      (pss_cons (ps_expr (pe_meth0 (pv 4) T.cl mE GE hr3 bE .nil (passes_call (takes_of rfl rfl rfl rfl) (fun _ _ _ _ h => h))))
      (pss_one (ps_ret (pv 5)))))), ?_⟩
    refine q_when (b := false) (et_not (et_B (b := true) (ev_isi (ev_var rfl) (.base (.str text)) (kit_ty (r := true) (by decide +kernel))))) (fun hb => by cases hb) (fun hb H1 e1 => ?_)
    refine ⟨_, rfl, _, rfl, fun p dx hp hdx npd => ?_⟩
    have ex2 : Ex H1 (upd (upd H1 dx (.own p)) p (.ins C dx [])) := fun c o hc => by rw [upd_ne (ne_of_none hc hp), upd_ne (ne_of_none hc hdx)]; exact hc
    have tab2 : TabsAt K (upd (upd H1 dx (.own p)) p (.ins C dx [])) at_ ts := (h2.up e1).up ex2
    refine ⟨p, dx, text, at_, ts, rfl, upd_same, tab2, h3, hz, fun H3 l d b3 r3 hl0 hd0 => ⟨rfl, ?_⟩⟩
    have e3 : Ex H1 H3 := fun c o hc => b3 c o (ex2 c o hc) (ne_of_none hc hp)
    generalize Txt.split text " " = ws at r3 hwl kq kb
    obtain ⟨g1, g2, g3⟩ := id r3
    refine ⟨_, rfl, p, dx, _, rfl, g1, rfs_no (by decide +kernel) (by decide +kernel) (by decide +kernel), _, rfl, ?_⟩
    refine ⟨_, rfl, (ch : Int), rfl, sl_go h4 (qC H3) fun y H4 e4 hy => ?_⟩
    refine cat_go (ex_t e4 (ex_t (e1.trans e3) h1)) hy (by rw [List.length_map, List.length_map, List.length_take]; have : changedS.length = 3 := rfl; omega) fun al H5 e5 hal => ?_
    rw [← List.map_append] at hal
    have r5 := r3.up (e4.trans e5)
    have hl : (hs ++ changedS.take ch).length ≤ 103 := by rw [List.length_append, List.length_take]; have : changedS.length = 3 := rfl; omega
    have full2 : ("" : Str) ∉ hs ++ changedS.take ch := fun z => by
      rcases List.mem_append.mp z with y | y
      · exact full y
      · exact absurd (List.mem_of_mem_take y) (by decide +kernel)
    have up : ∀ {H' : Hp}, But p H5 H' → Ex H H' := fun b c o hc => b c o ((e3.trans (e4.trans e5)) c o (e1 c o hc)) (ne_of_none (e1 c o hc) hp)
    refine ⟨p, al, dx, l, d, 0, ws, 0, ts, hs ++ changedS.take ch, rfl, rfl, r5, hal, Nat.zero_le _, hwl, full2, by omega, st, no, fun t j ht a H6 b6 r6 pt => ?_, fun m hm d' H' e' hd' => kb m (by unfold rdWhole; rw [hm]) d' H' (up e') hd'⟩
    obtain ⟨g6, _, _⟩ := id r6
    refine ⟨_, rfl, p, dx, _, rfl, g6, rfs_no (by decide +kernel) (by decide +kernel) (by decide +kernel), p, dx, l, d, ws, j, ts, rfl, r6, fun z H7 e7 => ?_, fun z d' H' e' hd' => ?_⟩
    · exact ⟨_, rfl, kq t (by unfold rdWhole; rw [ht]; exact if_neg (by omega)) a H7 ((up b6).trans e7) (part_up e7 pt)⟩
    · exact kb _ (by unfold rdWhole; rw [ht]; exact if_pos z) d' H' ((up b6).trans e') hd'
end
end WL

set_option Elab.async false
set_option linter.all false
set_option maxRecDepth 100000
set_option maxHeartbeats 8000000
namespace WL
open PySem PySem.Spec PyProof.Rows L2 Evl
theorem told_of {ts : List (Addr × Str × Int)} {ns : List Str} {text : Str} {t : Ask} (hz : text.length ≤ 100000) (full : ("" : Str) ∉ ns) (st : SmallT ts) (no : shapeOf ts "" = none) (h : rdWhole ts ns (Txt.split text " ") = .inr t) : Told ts ns text t := by
  unfold rdWhole at h
  split at h
  · cases h
  · rename_i u j hu
    obtain ⟨⟨s1, s2⟩, s3, s4, s5⟩ := rd_sound st no full (Nat.zero_le _) hu
    split at h
    · cases h
    · rename_i z
      cases h
      have hd : (Txt.split text " ").drop j = [] := List.drop_eq_nil_iff.mpr (by omega)
      rw [hd, List.append_nil, List.drop_zero] at s3
      exact ⟨s3, by omega, hz, s2, s1⟩
structure RightX (hs : List Str) (text : Str) (ts : List (Addr × Str × Int)) (ch : Nat) : Prop where
  head : isHead hs = true
  hlen : ∀ x ∈ hs, x.length ≤ 20000
  hmany : hs.length ≤ 3
  tabs : isTables ts = true
  tlen : ∀ x ∈ ts, x.2.1.length ≤ 20000
  tmany : ts.length ≤ 800
  apart : ∀ x ∈ ts, x.2.1 ∉ hs
  ch3 : ch ≤ 3
  size : text.length ≤ 100000
  wlen : ∀ x ∈ Txt.split text " ", x.length ≤ 20000
  full : ("" : Str) ∉ hs
  small : SmallT ts
  no : shapeOf ts "" = none
section
variable {P : Program} {w : World} {K : PySem.W.Frag} {mg : Str → Option Value} {base : Heap}
def spQuestInitX (K : PySem.W.Frag) (C CP CB : Addr) : Sp := fun vs H Q E => ∃ (p dx ah at_ : Addr) (text : Str) (hs : List Str) (ts : List (Addr × Str × Int)) (ch : Nat), vs = [.ref p, .ref ah, .str text, .ref at_, .int (ch : Nat)] ∧ H p = some (.ins C dx []) ∧ SqT K H ah (hs.map V.str) ∧ TabsAt K H at_ ts ∧ RightX hs text ts ch ∧
  (∀ t, rdWhole ts (hs ++ changedS.take ch) (Txt.split text " ") = .inr t → ∀ H', But p H H' → QuestAt K C CP H' p hs text ts ch t → Q .non H') ∧ (∀ m : Nat, rdWhole ts (hs ++ changedS.take ch) (Txt.split text " ") = .inl m → ErrB p CB (.int (m : Int)) H E)
theorem ok_questInitX {f C CP CB g1 g2 g3 g4 : Addr} {fd gd1 gd2 gd3 gd4 : FuncData} (F : Fun K "__init__" "Question.__init__" sQuestion_Init f fd) (T : TQ K mg C) (TP : TPt K mg CP) (hne : C ≠ CP) (G1 : FVal P w K mg base "is_head" g1 gd1 3 ["value"] (spIsHead K)) (G2 : FVal P w K mg base "is_tables" g2 gd2 3 ["value"] (spIsTables K))
    (G3 : FVal P w K mg base "is_integer" g3 gd3 1 ["value", "low", "high"] spIsInteger) (G4 : FnOk P w K mg base (L2.CX P w) 21 g4 gd4 ["head", "text", "tables", "changed"] (spWholeX K CP CB)) (G4m : mg "whole_part" = some (.ref g4)) (G4k : PySem.W.keepIn K (.ref g4) = true) (G4b : Binds K gd4 ["head", "text", "tables", "changed"] []) :
    FnOk P w K mg base (L2.CX P w) 22 f fd ["self", "head", "text", "tables", "changed"] (spQuestInitX K C CP CB) := by
  refine F.okX scQuestion_Init (fun vs H Q E h => ?_) (fun cdv A outer s H vs Q E hr h => ?_)
  · obtain ⟨p, dx, ah, at_, text, hs, ts, ch, rfl, _⟩ := h
    rfl
  · obtain ⟨p, dx, ah, at_, text, hs, ts, ch, rfl, hp, h1, h2, R, kq, kb⟩ := h
    obtain ⟨aC, mC, qC⟩ := T.v.changed
    have hr1 : Room 1 _ := hr.mono (by decide)
    have hr3 : Room 3 _ := hr.mono (by decide)
    refine ⟨_, pss_cons (ps_if (pt_not (pt_val (pe_call G1.ok hr3 (by rfl) G1.mg G1.kp G1.b .nil pass0 (pa_cons (pv 1) pa_nil)))) (pss_one ps_never) pss_nil)
      (pss_cons (ps_if (PW.pt (pw_or (pt_not (pt_val (pe_call G2.ok hr3 (by rfl) G2.mg G2.kp G2.b .nil pass0 (pa_cons (pv 3) pa_nil))))
          (pw_or1 (pt_val (pe_callB (cr_any rfl) (by rfl) T.v.any (by decide +kernel) (pa_cons (pe_lc (own := [("name", 5), ("_", 6)]) (g := gTup K 2 (gCons (gName 5) (gCons (gName 6) gNil))) (tt := tYes) (te := tOp (rIn K false) (tVar 5) (tVar 1)) rfl scQuestion_Init.nd (pi_tup (pv 3)) (blkOk_by (N := ["self", "head", "text", "tables", "changed", "name", "_"]) (sc := defScope sQuestion_Init) (by decide +kernel))
            (fun _ _ _ _ _ => pg_tup rfl (pgs_cons (pg_name (i := 5) scQuestion_Init.nd rfl (Or.inl rfl)) (pgs_cons (pg_name (i := 6) scQuestion_Init.nd rfl (Or.inl rfl)) pgs_nil))) (fun _ _ _ _ _ => pts_nil) (fun _ _ _ _ _ => pe_cmpR op_in_seq (pv 5) (pv 1) rfl)) pa_nil)))))) (pss_one ps_never) pss_nil)
      (pss_cons (ps_if (pt_not (pt_val (pe_call G3.ok hr1 (by rfl) G3.mg G3.kp G3.b .nil pass0 (pa_cons (pv 4) (pa_cons pe_int (pa_cons (pe_callB call_len_seq (by rfl) T.v.len PySem.boot_len (pa_cons (pe_glob (v := .ref aC) rfl mC rfl) pa_nil)) pa_nil)))))) (pss_one ps_never) pss_nil)
      (pss_cons (ps_fld (pv 0) (pe_call G4 hr (by rfl) G4m G4k G4b .nil (passes_call (takes_of rfl rfl rfl rfl) (fun _ _ _ _ h => h)) (pa_cons (pv 1) (pa_cons (pv 2) (pa_cons (pv 3) (pa_cons (pv 4) pa_nil))))) rfl)
      (pss_cons (ps_fld (pv 0) (pv 1) rfl) (pss_cons (ps_fld (pv 0) (pv 2) rfl) (pss_cons (ps_fld (pv 0) (pv 3) rfl) (pss_cons (ps_fld (pv 0) (pv 4) rfl)
      (pss_cons (ps_fld (pv 0) (pe_cmpR op_notIn_seq pe_str (pe_split (pv 2) pe_str) rfl) rfl)
      (pss_one (ps_fld (pv 0) (pe_fld (pe_fld (pv 0) rfl) rfl) rfl)))))))))), ?_⟩
    have sq : ∀ {H1 : Hp} {a : Addr} {xs : List V}, But p H H1 → SqT K H a xs → SqT K H1 a xs := fun b h => sqT_but h hp b
    have tabs : ∀ {H1 : Hp}, But p H H1 → TabsAt K H1 at_ ts := fun b => ⟨sqT_but h2.1 hp b, fun t ht => sqT_but (h2.2 t ht) hp b⟩
    refine q_when (b := false) (et_not (et_B (b := true) (ev_call (ea_cons (ev_var rfl) ea_nil) fun H1 e Q q E => ⟨ah, hs, rfl, ex_t e h1, by have := R.hmany; omega, R.hlen, by rw [R.head]; exact q⟩))) (fun hb => by cases hb) (fun hb H1 e1 => ?_)
    have names : EvL (tLc (iTup K (tVar 3)) (gTup K 2 (gCons (gName 5) (gCons (gName 6) gNil))) tYes (tOp (rIn K false) (tVar 5) (tVar 1)) [5, 6]) (L2.start ["self", "head", "text", "tables", "changed", "name", "_"] [V.ref p, V.ref ah, V.str text, V.ref at_, V.int (ch : Nat)]) H1 ((ts.map fun t => inV (.str t.2.1) (hs.map V.str)).map V.bl) := by
      have q := el_lcG (σ := L2.start ["self", "head", "text", "tables", "changed", "name", "_"] [V.ref p, V.ref ah, V.str text, V.ref at_, V.int (ch : Nat)]) (H := H1) (as := ts) (c := fun t => V.ref t.1) (vs := [5, 6]) (t := tYes) (tv := tOp (rIn K false) (tVar 5) (tVar 1)) (wi := iTup K (tVar 3)) (g := gTup K 2 (gCons (gName 5) (gCons (gName 6) gNil)))
        (fun t => [some (V.ref p), some (V.ref ah), some (V.str text), some (V.ref at_), some (V.int (ch : Nat)), some (V.str t.2.1), some (V.int t.2.2)]) (fun _ => true) (fun t => .bl (inV (.str t.2.1) (hs.map V.str))) (wi_tup (ev_var rfl) (ex_t e1 h2.1)) walk_tupA (fun H2 e2 => ex_t (e1.trans e2) h2.1) (by have := R.tmany; omega)
        (fun t ht H2 e2 R' r => g_pair (ex_t (e1.trans e2) (h2.2 t ht)) r) (fun _ _ => rfl) (fun c _ H2 _ H3 _ Q q => q H3 (Ex.refl _)) (fun t ht H2 e2 _ => ev_op (ev_var rfl) (ev_var rfl) (rv_isT (ex_t (e1.trans e2) h1) rfl (flat_strs _)))
      rw [all_true] at q
      rw [List.map_map]
      exact q
    have none_in : (ts.map fun t => inV (.str t.2.1) (hs.map V.str)).any id = false := by
      rw [List.any_map]
      refine List.any_eq_false.mpr fun t ht => ?_
      intro z
      exact R.apart t ht (inV_mem.mp z)
    refine q_when (b := false) (et_or (a := false) (b := false) (et_not (et_B (b := true) (ev_call (ea_cons (ev_var rfl) ea_nil) fun H2 e Q q E => ⟨at_, ts, rfl, h2.up (e1.trans e), by have := R.tmany; omega, R.tlen, by rw [R.tabs]; exact q⟩))) fun _ => et_B (ev_allL (v := V.bl false) names fun a H2 Q ha q => ⟨a, _, rfl, sq_of ha, by rw [none_in]; exact q⟩)) (fun hb => by cases hb) (fun hb H2 e2 => ?_)
    have chd : (decide ((0 : Int) ≤ (ch : Int)) && decide ((ch : Int) ≤ (((changedS.map V.str).length : Nat) : Int))) = true := by
      have := R.ch3
      rw [decide_eq_true (by omega), decide_eq_true (by show (ch : Int) ≤ 3; omega)]; rfl
    refine q_when (b := false) (et_not (et_B (b := true) (ev_call (ea_cons (ev_var rfl) (ea_cons ev_c (ea_cons (ev_lenQ (K := K) (eq_t ev_c (qC H2))) ea_nil))) fun H3 e Q q E => ⟨(ch : Int), 0, _, rfl, by rw [chd]; exact q⟩))) (fun hb => by cases hb) (fun hb H3 e3 => ?_)
    have b0 : But p H H3 := But.ex ((e1.trans e2).trans e3)
    have g0 := ((e1.trans e2).trans e3) _ _ hp
    refine ⟨_, rfl, _, rfl, _, rfl, _, rfl, ah, at_, text, hs, ts, ch, rfl, sq b0 h1, tabs b0, R.tmany, R.ch3, by have := R.hmany; omega, R.size, R.wlen, R.full, R.small, R.no, fun t ht aw H4 e4 pw => ?_, fun m hm d' H' e' hd' => kb m hm d' H' (b0.trans (But.ex e')) hd'⟩
    have td : Told ts (hs ++ changedS.take ch) text t := told_of R.size (fun z => by
      rcases List.mem_append.mp z with y | y
      · exact R.full y
      · exact absurd (List.mem_of_mem_take y) (by decide +kernel)) R.small R.no ht
    have k := kq t ht
    refine ⟨_, rfl, p, C, dx, _, rfl, e4 _ _ g0, T.cl, T.nWhole, by decide, ?_⟩
    dsimp only
    have b1 := (b0.trans (But.ex e4)).upd (o := .ins C dx (putF "whole" (V.ref aw) []))
    have g1 := upd_same (H := H4) (a := p) (o := .ins C dx (putF "whole" (V.ref aw) []))
    have p1 : PartAt K CP (upd H4 p (.ins C dx (putF "whole" (V.ref aw) []))) aw t := part_but (e4 _ _ g0) (.inr hne) (But.upd (But.refl p H4)) pw
    generalize upd H4 p (.ins C dx (putF "whole" (V.ref aw) [])) = G1 at b1 g1 p1 ⊢
    refine q_fld (ev_var rfl) (fun H1 _ => ev_var rfl) g1 T.cl T.nHead (Nat.lt_of_le_of_lt (put_lt (Nat.zero_le 0)) (by decide)) fun H5 e5 => ?_
    have b2 := (b1.trans (But.ex e5)).upd (o := .ins C dx (putF "head" (V.ref ah) (putF "whole" (V.ref aw) [])))
    have g2 := upd_same (H := H5) (a := p) (o := .ins C dx (putF "head" (V.ref ah) (putF "whole" (V.ref aw) [])))
    have p2 : PartAt K CP (upd H5 p (.ins C dx (putF "head" (V.ref ah) (putF "whole" (V.ref aw) [])))) aw t := part_but (e5 _ _ g1) (.inr hne) (But.upd (But.refl p H5)) (part_up e5 p1)
    generalize upd H5 p (.ins C dx (putF "head" (V.ref ah) (putF "whole" (V.ref aw) []))) = G2 at b2 g2 p2 ⊢
    refine q_fld (ev_var rfl) (fun H1 _ => ev_var rfl) g2 T.cl T.nText (Nat.lt_of_le_of_lt (put_lt (put_lt (Nat.zero_le 0))) (by decide)) fun H5 e5 => ?_
    have b3 := (b2.trans (But.ex e5)).upd (o := .ins C dx (putF "text" (V.str text) (putF "head" (V.ref ah) (putF "whole" (V.ref aw) []))))
    have g3 := upd_same (H := H5) (a := p) (o := .ins C dx (putF "text" (V.str text) (putF "head" (V.ref ah) (putF "whole" (V.ref aw) []))))
    have p3 : PartAt K CP (upd H5 p (.ins C dx (putF "text" (V.str text) (putF "head" (V.ref ah) (putF "whole" (V.ref aw) []))))) aw t := part_but (e5 _ _ g2) (.inr hne) (But.upd (But.refl p H5)) (part_up e5 p2)
    generalize upd H5 p (.ins C dx (putF "text" (V.str text) (putF "head" (V.ref ah) (putF "whole" (V.ref aw) [])))) = G3 at b3 g3 p3 ⊢
    refine q_fld (ev_var rfl) (fun H1 _ => ev_var rfl) g3 T.cl T.nTables (Nat.lt_of_le_of_lt (put_lt (put_lt (put_lt (Nat.zero_le 0)))) (by decide)) fun H5 e5 => ?_
    have b4 := (b3.trans (But.ex e5)).upd (o := .ins C dx (putF "tables" (V.ref at_) (putF "text" (V.str text) (putF "head" (V.ref ah) (putF "whole" (V.ref aw) [])))))
    have g4 := upd_same (H := H5) (a := p) (o := .ins C dx (putF "tables" (V.ref at_) (putF "text" (V.str text) (putF "head" (V.ref ah) (putF "whole" (V.ref aw) [])))))
    have p4 : PartAt K CP (upd H5 p (.ins C dx (putF "tables" (V.ref at_) (putF "text" (V.str text) (putF "head" (V.ref ah) (putF "whole" (V.ref aw) [])))))) aw t := part_but (e5 _ _ g3) (.inr hne) (But.upd (But.refl p H5)) (part_up e5 p3)
    generalize upd H5 p (.ins C dx (putF "tables" (V.ref at_) (putF "text" (V.str text) (putF "head" (V.ref ah) (putF "whole" (V.ref aw) []))))) = G4 at b4 g4 p4 ⊢
    refine q_fld (ev_var rfl) (fun H1 _ => ev_var rfl) g4 T.cl T.nChanged (Nat.lt_of_le_of_lt (put_lt (put_lt (put_lt (put_lt (Nat.zero_le 0))))) (by decide)) fun H5 e5 => ?_
    have b5 := (b4.trans (But.ex e5)).upd (o := .ins C dx (putF "changed" (V.int (ch : Int)) (putF "tables" (V.ref at_) (putF "text" (V.str text) (putF "head" (V.ref ah) (putF "whole" (V.ref aw) []))))))
    have g5 := upd_same (H := H5) (a := p) (o := .ins C dx (putF "changed" (V.int (ch : Int)) (putF "tables" (V.ref at_) (putF "text" (V.str text) (putF "head" (V.ref ah) (putF "whole" (V.ref aw) []))))))
    have p5 : PartAt K CP (upd H5 p (.ins C dx (putF "changed" (V.int (ch : Int)) (putF "tables" (V.ref at_) (putF "text" (V.str text) (putF "head" (V.ref ah) (putF "whole" (V.ref aw) []))))))) aw t := part_but (e5 _ _ g4) (.inr hne) (But.upd (But.refl p H5)) (part_up e5 p4)
    generalize upd H5 p (.ins C dx (putF "changed" (V.int (ch : Int)) (putF "tables" (V.ref at_) (putF "text" (V.str text) (putF "head" (V.ref ah) (putF "whole" (V.ref aw) [])))))) = G5 at b5 g5 p5 ⊢
    have spl : EvL (tM1 (fun x xs H Q => ∃ a b, x = V.str a ∧ xs = [V.str b] ∧ (b.length == 0) = false ∧ a.length + 2 ≤ sizeLine ∧ rNewStrs (Txt.split a b) H Q) (tVar 2) (tC (V.str " "))) (L2.start ["self", "head", "text", "tables", "changed", "name", "_"] [V.ref p, V.ref ah, V.str text, V.ref at_, V.int (ch : Nat)]) G5 (t.words.map V.str) := fun H1 e Q q =>
      ⟨V.str text, rfl, ⟨text, rfl⟩, text, " ", rfl, rfl, rfl, by have := sizeLine_eq; have := td.size; omega, fun r hr => by rw [td.split]; exact q r _ hr (Ex.new hr) upd_same⟩
    refine q_fld (y := .bl (!inV (.str "reach") (t.words.map V.str))) (ev_opL ev_c spl fun q H1 hq _ => rv_niL (sq_of hq) rfl (flat_strs _)) (fun H1 _ => ev_var rfl) g5 T.cl T.nLoopless (Nat.lt_of_le_of_lt (put_lt (put_lt (put_lt (put_lt (put_lt (Nat.zero_le 0)))))) (by decide)) fun H5 e5 => ?_
    have b6 := (b5.trans (But.ex e5)).upd (o := .ins C dx (putF "is_loopless" (V.bl (!inV (.str "reach") (t.words.map V.str))) (putF "changed" (V.int (ch : Int)) (putF "tables" (V.ref at_) (putF "text" (V.str text) (putF "head" (V.ref ah) (putF "whole" (V.ref aw) [])))))))
    have g6 := upd_same (H := H5) (a := p) (o := .ins C dx (putF "is_loopless" (V.bl (!inV (.str "reach") (t.words.map V.str))) (putF "changed" (V.int (ch : Int)) (putF "tables" (V.ref at_) (putF "text" (V.str text) (putF "head" (V.ref ah) (putF "whole" (V.ref aw) [])))))))
    have p6 : PartAt K CP (upd H5 p (.ins C dx (putF "is_loopless" (V.bl (!inV (.str "reach") (t.words.map V.str))) (putF "changed" (V.int (ch : Int)) (putF "tables" (V.ref at_) (putF "text" (V.str text) (putF "head" (V.ref ah) (putF "whole" (V.ref aw) [])))))))) aw t := part_but (e5 _ _ g5) (.inr hne) (But.upd (But.refl p H5)) (part_up e5 p5)
    generalize upd H5 p (.ins C dx (putF "is_loopless" (V.bl (!inV (.str "reach") (t.words.map V.str))) (putF "changed" (V.int (ch : Int)) (putF "tables" (V.ref at_) (putF "text" (V.str text) (putF "head" (V.ref ah) (putF "whole" (V.ref aw) []))))))) = G6 at b6 g6 p6 ⊢
    obtain ⟨is, ⟨dy, tp, tb, ti, tf, n1, _⟩, _⟩ := part_node p6
    refine s_fld (y := .int (t.depth : Int)) (ev_fld (ev_fld (ev_var rfl) g6 T.cl T.nWhole (by simp only [lookup_putF]; rfl)) n1 TP.cl TP.nDepth pfs_depth) (fun H1 _ => ev_var rfl) g6 T.cl T.nDeep (Nat.lt_of_le_of_lt (put_lt (put_lt (put_lt (put_lt (put_lt (put_lt (Nat.zero_le 0))))))) (by decide)) fun H5 e5 => ?_
    have bz := (b6.trans (But.ex e5)).upd (o := .ins C dx (qfs aw ah text at_ ch (!inV (.str "reach") (t.words.map V.str)) t.depth))
    exact k _ bz ⟨dx, aw, ah, at_, upd_same, part_but (e5 _ _ g6) (.inr hne) (But.upd (But.refl p H5)) (part_up e5 p6), sq bz h1, tabs bz⟩
end
end WL

set_option Elab.async false
set_option linter.all false
set_option maxRecDepth 100000
set_option maxHeartbeats 8000000
namespace WL
open PySem PySem.Spec PyProof.Rows L2 Evl
structure TEr (P : Program) (w : World) (K : PySem.W.Frag) (mg : Str → Option Value) (base : Heap) (x : Str) (C : Addr) : Prop where
  mgC : mg x = some (.ref C)
  err : ∃ fI fd, ErrC K C fI ∧ FnOk P w K mg base (L2.CX P w) 1 fI fd ["self", "value"] (spErrInit K) ∧ Binds K fd ["self", "value"] []
theorem Odd.str_inv {H : Hp} {v : V} {d : PyData} (h : Odd H v d) (n : isNameD d = true) : ∃ x, v = .str x ∧ d = .str x ∧ x.length ≤ 20000 := by
  cases h with
  | str x hx => exact ⟨x, rfl, rfl, hx⟩
  | non => cases n
  | bl b => cases n
  | int i => cases n
  | lst _ _ _ => cases n
  | tup _ _ _ => cases n
  | dic _ => cases n
section
variable {P : Program} {w : World} {K : PySem.W.Frag} {mg : Str → Option Value} {base : Heap}
def spWholeO (CB : Addr) : Sp := fun vs H Q E => ∃ (vh vx vt vc : V) (d : PyData), vs = [vh, vx, vt, vc] ∧ Odd H vx d ∧ isS d = false ∧ ErrTo CB (.int 0) H E
theorem ok_wholeO {f C CP CB g1 g2 g3 : Addr} {fd gd1 gd2 gd3 : FuncData} (F : Fun K "whole_part" "whole_part" sWholePart f fd) (T : TRd w K mg C) (TB : TBQ P w K mg base CB)
    (GI : FnOk P w K mg base CX0 1 g1 gd1 ["self", "text", "tables"] (spReaderInit K C)) (MR : Mk K C g1) (bI : Binds K gd1 ["self", "text", "tables"] [])
    (mR : Meth K C "read_part" g2) (GR : FnOk P w K mg base (L2.CX P w) 20 g2 gd2 ["self", "alive", "within"] (spReadPartX K C CP CB 14)) (bR : Binds K gd2 ["self", "alive", "within"] [])
    (mE : Meth K C "read_end" g3) (GE : FnOk P w K mg base (L2.CX P w) 3 g3 gd3 ["self"] (spReadEndX K C CB)) (bE : Binds K gd3 ["self"] []) :
    FnOk P w K mg base (L2.CX P w) 21 f fd ["head", "text", "tables", "changed"] (spWholeO CB) := by
  obtain ⟨fI, fdI, TE, GX, bX⟩ := TB.err
  refine F.okX scWholePart (fun vs H Q E h => ?_) (fun cdv A outer s H vs Q E hr h => ?_)
  · obtain ⟨vh, vx, vt, vc, d, rfl, _⟩ := h
    rfl
  · obtain ⟨vh, vx, vt, vc, d, rfl, od, no, k⟩ := h
    obtain ⟨aC, mC, qC⟩ := T.v.changed
    have hr2 : Room 2 _ := hr.mono (by decide)
    have hr3 : Room 3 _ := hr.mono (by decide)
    refine ⟨_, pss_cons (ps_if (pt_not (pt_val (pe_callB call_isi (by rfl) T.v.isi (by decide +kernel) (pa_cons (pv 1) (pa_cons (pe_bltn (v := .ty "str") (by rfl) T.v.str (by decide +kernel) rfl) pa_nil))))) (pss_one (ps_raise rfl (takes_of rfl rfl rfl rfl) (pmk_err TE GX hr2 bX (by rfl) TB.mgC (pa_cons pe_int pa_nil)))) pss_nil)
      (pss_cons (ps_set (i := 4) scWholePart.nd rfl (Or.inl rfl) (pe_make MR GI hr2 (by rfl) T.mgC bI .nil pass0 (pa_cons (pv 1) (pa_cons (pv 2) pa_nil))))
      (pss_cons (ps_set (i := 5) scWholePart.nd rfl (Or.inl rfl) (pe_meth (pv 4) T.cl mR GR hr bR .nil (passes_call (takes_of rfl rfl rfl rfl) (fun _ _ _ _ h => h)) (pa_cons (pe_op op_catA (pv 0) (pe_slice sl_tupA (pe_glob (v := .ref aC) rfl mC rfl) po_none (po_some (pv 3)))) (pa_cons pe_int pa_nil))))
      (pss_cons (ps_expr (pe_meth0 (pv 4) T.cl mE GE hr3 bE .nil (passes_call (takes_of rfl rfl rfl rfl) (fun _ _ _ _ h => h))))
      (pss_one (ps_ret (pv 5)))))), ?_⟩
    have kS := k_isS (K := K) d
    rw [no] at kS
    refine q_when (b := true) (et_not (et_B (b := false) (ev_isi (ev_var rfl) (odd_ty od) kS))) (fun hb H1 e1 => ?_) (fun hb => by cases hb)
    exact mkErr_go TE (ea_cons ev_c ea_nil) fun d H' e' hd => k d H' (e1.trans e') hd
def spQuestInitO (K : PySem.W.Frag) (C CH CT CC CB : Addr) : Sp := fun vs H Q E => ∃ (p dx : Addr) (vh vx vt vc : V) (dh : PyData), vs = [.ref p, vh, vx, vt, vc] ∧ H p = some (.ins C dx []) ∧ Odd H vh dh ∧
  ((isHeadD dh = false ∧ ErrB p CH vh H E) ∨ (isHeadD dh = true ∧ ∃ dt, Odd H vt dt ∧ ((isTablesD dt = false ∧ ErrB p CT vt H E) ∨ (isTablesD dt = true ∧
    ∃ (ah at_ : Addr) (hs : List Str) (ts : List (Addr × Str × Int)), vh = .ref ah ∧ SqT K H ah (hs.map V.str) ∧ vt = .ref at_ ∧ TabsAt K H at_ ts ∧ ts.length ≤ 800 ∧
      (((ts.map fun t => inV (.str t.2.1) (hs.map V.str)).any id = true ∧ ErrB p CT vt H E) ∨ ((ts.map fun t => inV (.str t.2.1) (hs.map V.str)).any id = false ∧ ∃ dc, Odd H vc dc ∧
        ((isIntD dc 0 3 = false ∧ ErrB p CC vc H E) ∨ (isIntD dc 0 3 = true ∧ ∃ dx', Odd H vx dx' ∧ isS dx' = false ∧ ErrB p CB (.int 0) H E))))))))
theorem ok_questInitO {f C CP CH CT CC CB g1 g2 g3 g4 : Addr} {fd gd1 gd2 gd3 gd4 : FuncData} (F : Fun K "__init__" "Question.__init__" sQuestion_Init f fd) (T : TQ K mg C) (TP : TPt K mg CP) (hne : C ≠ CP) (TH : TEr P w K mg base "BadHead" CH) (TT : TEr P w K mg base "BadTables" CT) (TC : TEr P w K mg base "BadChanged" CC) (G1 : FVal P w K mg base "is_head" g1 gd1 3 ["value"] spHeadO) (G2 : FVal P w K mg base "is_tables" g2 gd2 3 ["value"] spTablesO)
    (G3 : FVal P w K mg base "is_integer" g3 gd3 1 ["value", "low", "high"] spIntO) (G4 : FnOk P w K mg base (L2.CX P w) 21 g4 gd4 ["head", "text", "tables", "changed"] (spWholeO CB)) (G4m : mg "whole_part" = some (.ref g4)) (G4k : PySem.W.keepIn K (.ref g4) = true) (G4b : Binds K gd4 ["head", "text", "tables", "changed"] []) :
    FnOk P w K mg base (L2.CX P w) 22 f fd ["self", "head", "text", "tables", "changed"] (spQuestInitO K C CH CT CC CB) := by
  obtain ⟨fIH, fdIH, THE, THG, THb⟩ := TH.err
  obtain ⟨fIT, fdIT, TTE, TTG, TTb⟩ := TT.err
  obtain ⟨fIC, fdIC, TCE, TCG, TCb⟩ := TC.err
  refine F.okX scQuestion_Init (fun vs H Q E h => ?_) (fun cdv A outer s H vs Q E hr h => ?_)
  · obtain ⟨p, dx, vh, vx, vt, vc, dh, rfl, _⟩ := h
    rfl
  · obtain ⟨p, dx, vh, vx, vt, vc, dh, rfl, hp, oh, kk⟩ := h
    obtain ⟨aC, mC, qC⟩ := T.v.changed
    have hr1 : Room 1 _ := hr.mono (by decide)
    have hr2 : Room 2 _ := hr.mono (by decide)
    have hr3 : Room 3 _ := hr.mono (by decide)
    refine ⟨_, pss_cons (ps_if (pt_not (pt_val (pe_call G1.ok hr3 (by rfl) G1.mg G1.kp G1.b .nil pass0 (pa_cons (pv 1) pa_nil)))) (pss_one (ps_raise rfl (takes_of rfl rfl rfl rfl) (pmk_err THE THG hr2 THb (by rfl) TH.mgC (pa_cons (pv 1) pa_nil)))) pss_nil)
      (pss_cons (ps_if (PW.pt (pw_or (pt_not (pt_val (pe_call G2.ok hr3 (by rfl) G2.mg G2.kp G2.b .nil pass0 (pa_cons (pv 3) pa_nil))))
          (pw_or1 (pt_val (pe_callB (cr_any rfl) (by rfl) T.v.any (by decide +kernel) (pa_cons (pe_lc (own := [("name", 5), ("_", 6)]) (g := gTup K 2 (gCons (gName 5) (gCons (gName 6) gNil))) (tt := tYes) (te := tOp (rIn K false) (tVar 5) (tVar 1)) rfl scQuestion_Init.nd (pi_tup (pv 3)) (blkOk_by (N := ["self", "head", "text", "tables", "changed", "name", "_"]) (sc := defScope sQuestion_Init) (by decide +kernel))
            (fun _ _ _ _ _ => pg_tup rfl (pgs_cons (pg_name (i := 5) scQuestion_Init.nd rfl (Or.inl rfl)) (pgs_cons (pg_name (i := 6) scQuestion_Init.nd rfl (Or.inl rfl)) pgs_nil))) (fun _ _ _ _ _ => pts_nil) (fun _ _ _ _ _ => pe_cmpR op_in_seq (pv 5) (pv 1) rfl)) pa_nil)))))) (pss_one (ps_raise rfl (takes_of rfl rfl rfl rfl) (pmk_err TTE TTG hr2 TTb (by rfl) TT.mgC (pa_cons (pv 3) pa_nil)))) pss_nil)
      (pss_cons (ps_if (pt_not (pt_val (pe_call G3.ok hr1 (by rfl) G3.mg G3.kp G3.b .nil pass0 (pa_cons (pv 4) (pa_cons pe_int (pa_cons (pe_callB call_len_seq (by rfl) T.v.len PySem.boot_len (pa_cons (pe_glob (v := .ref aC) rfl mC rfl) pa_nil)) pa_nil)))))) (pss_one (ps_raise rfl (takes_of rfl rfl rfl rfl) (pmk_err TCE TCG hr2 TCb (by rfl) TC.mgC (pa_cons (pv 4) pa_nil)))) pss_nil)
      (pss_cons (ps_fld (pv 0) (pe_call G4 hr (by rfl) G4m G4k G4b .nil (passes_call (takes_of rfl rfl rfl rfl) (fun _ _ _ _ h => h)) (pa_cons (pv 1) (pa_cons (pv 2) (pa_cons (pv 3) (pa_cons (pv 4) pa_nil))))) rfl)
      (pss_cons (ps_fld (pv 0) (pv 1) rfl) (pss_cons (ps_fld (pv 0) (pv 2) rfl) (pss_cons (ps_fld (pv 0) (pv 3) rfl) (pss_cons (ps_fld (pv 0) (pv 4) rfl)
      (pss_cons (ps_fld (pv 0) (pe_cmpR op_notIn_seq pe_str (pe_split (pv 2) pe_str) rfl) rfl)
      (pss_one (ps_fld (pv 0) (pe_fld (pe_fld (pv 0) rfl) rfl) rfl)))))))))), ?_⟩
    rcases kk with ⟨no, kb⟩ | ⟨yes, dt, ot, kk⟩
    · refine q_when (b := true) (et_not (et_B (b := false) (ev_call (ea_cons (ev_var rfl) ea_nil) fun H1 e Q q E => ⟨vh, dh, rfl, oh.up e, by rw [no]; exact q⟩))) (fun hb H1 e1 => ?_) (fun hb => by cases hb)
      exact mkErr_go THE (ea_cons (ev_var rfl) ea_nil) fun d H' e' hd => kb d H' (But.ex (e1.trans e')) hd
    · refine q_when (b := false) (et_not (et_B (b := true) (ev_call (ea_cons (ev_var rfl) ea_nil) fun H1 e Q q E => ⟨vh, dh, rfl, oh.up e, by rw [yes]; exact q⟩))) (fun hb => by cases hb) (fun hb H1 e1 => ?_)
      rcases kk with ⟨no, kb⟩ | ⟨yesT, ah, at_, hs, ts, rfl, h1, rfl, h2, hn, kk⟩
      · refine q_when (b := true) (et_or (a := true) (b := true) (et_not (et_B (b := false) (ev_call (ea_cons (ev_var rfl) ea_nil) fun H2 e Q q E => ⟨vt, dt, rfl, ot.up (e1.trans e), by rw [no]; exact q⟩))) fun z => by cases z) (fun hb H2 e2 => ?_) (fun hb => by cases hb)
        exact mkErr_go TTE (ea_cons (ev_var rfl) ea_nil) fun d H' e' hd => kb d H' (But.ex ((e1.trans e2).trans e')) hd
      · have names : EvL (tLc (iTup K (tVar 3)) (gTup K 2 (gCons (gName 5) (gCons (gName 6) gNil))) tYes (tOp (rIn K false) (tVar 5) (tVar 1)) [5, 6]) (L2.start ["self", "head", "text", "tables", "changed", "name", "_"] [V.ref p, V.ref ah, vx, V.ref at_, vc]) H1 ((ts.map fun t => inV (.str t.2.1) (hs.map V.str)).map V.bl) := by
          have q := el_lcG (σ := L2.start ["self", "head", "text", "tables", "changed", "name", "_"] [V.ref p, V.ref ah, vx, V.ref at_, vc]) (H := H1) (as := ts) (c := fun t => V.ref t.1) (vs := [5, 6]) (t := tYes) (tv := tOp (rIn K false) (tVar 5) (tVar 1)) (wi := iTup K (tVar 3)) (g := gTup K 2 (gCons (gName 5) (gCons (gName 6) gNil)))
            (fun t => [some (V.ref p), some (V.ref ah), some vx, some (V.ref at_), some vc, some (V.str t.2.1), some (V.int t.2.2)]) (fun _ => true) (fun t => .bl (inV (.str t.2.1) (hs.map V.str))) (wi_tup (ev_var rfl) (ex_t e1 h2.1)) walk_tupA (fun H2 e2 => ex_t (e1.trans e2) h2.1) (by omega)
            (fun t ht H2 e2 R' r => g_pair (ex_t (e1.trans e2) (h2.2 t ht)) r) (fun _ _ => rfl) (fun c _ H2 _ H3 _ Q q => q H3 (Ex.refl _)) (fun t ht H2 e2 _ => ev_op (ev_var rfl) (ev_var rfl) (rv_isT (ex_t (e1.trans e2) h1) rfl (flat_strs _)))
          rw [all_true] at q
          rw [List.map_map]
          exact q
        rcases kk with ⟨inn, kb⟩ | ⟨out, dc, oc, kk⟩
        · refine q_when (b := true) (et_or (a := false) (b := true) (et_not (et_B (b := true) (ev_call (ea_cons (ev_var rfl) ea_nil) fun H2 e Q q E => ⟨_, dt, rfl, ot.up (e1.trans e), by rw [yesT]; exact q⟩))) fun _ => et_B (ev_allL (v := V.bl true) names fun a H2 Q ha q => ⟨a, _, rfl, sq_of ha, by rw [inn]; exact q⟩)) (fun hb H2 e2 => ?_) (fun hb => by cases hb)
          exact mkErr_go TTE (ea_cons (ev_var rfl) ea_nil) fun d H' e' hd => kb d H' (But.ex ((e1.trans e2).trans e')) hd
        · refine q_when (b := false) (et_or (a := false) (b := false) (et_not (et_B (b := true) (ev_call (ea_cons (ev_var rfl) ea_nil) fun H2 e Q q E => ⟨_, dt, rfl, ot.up (e1.trans e), by rw [yesT]; exact q⟩))) fun _ => et_B (ev_allL (v := V.bl false) names fun a H2 Q ha q => ⟨a, _, rfl, sq_of ha, by rw [out]; exact q⟩)) (fun hb => by cases hb) (fun hb H2 e2 => ?_)
          rcases kk with ⟨no, kb⟩ | ⟨yesC, dx', ox, noS, kb⟩
          · refine q_when (b := true) (et_not (et_B (b := false) (ev_call (ea_cons (ev_var rfl) (ea_cons ev_c (ea_cons (ev_lenQ (K := K) (eq_t ev_c (qC H2))) ea_nil))) fun H3 e Q q E => ⟨vc, dc, 0, 3, rfl, oc.up ((e1.trans e2).trans e), by rw [no]; exact q⟩))) (fun hb H3 e3 => ?_) (fun hb => by cases hb)
            exact mkErr_go TCE (ea_cons (ev_var rfl) ea_nil) fun d H' e' hd => kb d H' (But.ex (((e1.trans e2).trans e3).trans e')) hd
          · refine q_when (b := false) (et_not (et_B (b := true) (ev_call (ea_cons (ev_var rfl) (ea_cons ev_c (ea_cons (ev_lenQ (K := K) (eq_t ev_c (qC H2))) ea_nil))) fun H3 e Q q E => ⟨vc, dc, 0, 3, rfl, oc.up ((e1.trans e2).trans e), by rw [yesC]; exact q⟩))) (fun hb => by cases hb) (fun hb H3 e3 => ?_)
            exact ⟨_, rfl, _, rfl, _, rfl, _, rfl, _, _, _, _, dx', rfl, ox.up ((e1.trans e2).trans e3), noS, fun d' H' e' hd' => kb d' H' (But.ex (((e1.trans e2).trans e3).trans e')) hd'⟩
end
end WL

set_option Elab.async false
set_option linter.all false
set_option maxRecDepth 100000
set_option maxHeartbeats 8000000
namespace WL
open PySem PySem.Spec PyProof.Rows L2 Evl
section
variable {P : Program} {w : World} {K : PySem.W.Frag} {mg : Str → Option Value} {base : Heap}
def NoInst (K : PySem.W.Frag) (C : Addr) : Prop := ∀ d : PyData, PySem.W.kitOne K (.type (tyN d)) (.ref C) = some false
theorem ev_isiO {σ : L2.St} {H : Hp} {ta : TE} {C : Addr} {v : V} {d : PyData} (N : NoInst K C) (ha : Ev ta σ H v) (od : Odd H v d) : Ev (tCB (rIsi K) (tCons ta (tCons (tC (.ref C)) tNil))) σ H (.bl false) :=
  ev_cb (ea_cons ha (ea_cons ev_c ea_nil)) fun H1 e Q q => ⟨v, .ref C, .type (tyN d), .ref C, false, rfl, .own C, odd_ty (od.up e), N d, q H1 (Ex.refl H1)⟩
def spCheckO (CN : Addr) : Sp := fun vs H Q E => ∃ (v : V) (d : PyData), vs = [v] ∧ Odd H v d ∧ ErrTo CN v H E
theorem ok_checkO {f CQ CP CN : Addr} {fd : FuncData} (F : Fun K "check_question" "check_question" sCheckQuestion f fd) (T : TW K mg CQ CP) (TN : TEr P w K mg base "NoQuestion" CN) (N : NoInst K CQ) : FnOk P w K mg base (L2.CX P w) 3 f fd ["question"] (spCheckO CN) := by
  obtain ⟨fI, fdI, NE, NG, Nb⟩ := TN.err
  refine F.okX scCheckQuestion (fun vs H Q E h => ?_) (fun cdv A outer s H vs Q E hr h => ?_)
  · obtain ⟨v, d, rfl, _⟩ := h
    rfl
  · obtain ⟨v, d, rfl, od, k⟩ := h
    refine ⟨_, pss_one (ps_if (pt_not (pt_val (pe_callB call_isi (by rfl) T.q.v.isi (by decide +kernel) (pa_cons (pv 0) (pa_cons (pe_glob (v := .ref CQ) rfl T.q.mgC rfl) pa_nil)))))
      (pss_one (ps_raise rfl (takes_of rfl rfl rfl rfl) (pmk_err NE NG hr Nb (by rfl) TN.mgC (pa_cons (pv 0) pa_nil)))) pss_nil), ?_⟩
    refine s_when (b := true) (et_not (et_B (b := false) (ev_isiO N (ev_var rfl) od))) (fun hb H1 e => ?_) (fun hb => by cases hb)
    exact mkErr_go NE (ea_cons (ev_var rfl) ea_nil) fun d' H' e' hd => k d' H' (e.trans e') hd
theorem ok_widthO {f g CQ CP CN : Addr} {fd gd : FuncData} (F : Fun K "width" "width" sWidth f fd) (T : TW K mg CQ CP) (G : FnOk P w K mg base (L2.CX P w) 3 g gd ["question"] (spCheckO CN)) (Gm : mg "check_question" = some (.ref g)) (Gk : PySem.W.keepIn K (.ref g) = true) (Gb : Binds K gd ["question"] []) :
    FnOk P w K mg base (L2.CX P w) 4 f fd ["question"] (spCheckO CN) := by
  refine F.okX scWidth (fun vs H Q E h => ?_) (fun cdv A outer s H vs Q E hr h => ?_)
  · obtain ⟨v, d, rfl, _⟩ := h
    rfl
  · obtain ⟨v, d, rfl, od, k⟩ := h
    refine ⟨_, pss_cons (ps_expr (pe_call G hr (by rfl) Gm Gk Gb .nil (passes_call (takes_of rfl rfl rfl rfl) (fun _ _ _ _ h => h)) (pa_cons (pv 0) pa_nil)))
      (pss_one (ps_ret (pe_callB (call_max2 rfl) (by rfl) T.p.max (by decide +kernel) (pa_cons (pe_callB call_len_seq (by rfl) T.q.v.len PySem.boot_len (pa_cons (pe_fld (pv 0) rfl) pa_nil)) (pa_cons (pe_fld (pe_fld (pv 0) rfl) rfl) pa_nil))))), ?_⟩
    exact ⟨_, rfl, v, d, rfl, od, k⟩
end
end WL

set_option Elab.async false
set_option linter.all false
set_option maxRecDepth 100000
set_option maxHeartbeats 8000000
namespace WL
open PySem PySem.Spec PyProof.Rows L2 Evl
def shownO : PyData → Str
  | .none => "None"
  | .bool b => if b then "True" else "False"
  | .int i => toString i
  | .str x => reprText x
  | d => d.shown
def ShowO : PyData → Prop
  | .none => True
  | .bool _ => True
  | .int i => i.natAbs.log2 < 1920
  | .str x => (reprText x).length ≤ sizeLine
  | .dict _ => True
  | d => d.showable = true ∧ d.hasDict = false ∧ d.depth ≤ 60 ∧ d.shown.length ≤ sizeLine
def flatD : PyData → Bool
  | .dict _ => false
  | .list ds => flatDs ds
  | .tuple ds => flatDs ds
  | _ => true
where flatDs : List PyData → Bool
  | [] => true
  | d :: ds => flatD d && flatDs ds
mutual
theorem Odd.dp {K : PySem.W.Frag} {H : Hp} : ∀ (d : PyData) (v : V), Odd H v d → flatD d = true → Dp K H v d
  | .none, _, h, _ => by cases h; exact .non
  | .bool b, _, h, _ => by cases h; exact .bl b
  | .int i, _, h, _ => by cases h; exact .int i
  | .str x, _, h, _ => by cases h with | str x h => exact .str x
  | .list ds, _, h, f => by cases h with | lst h hz r => exact .lst (sq_of h) (OddAll.dp ds _ r f)
  | .tuple ds, _, h, f => by cases h with | tup h hz r => exact .tup (st_of h) (OddAll.dp ds _ r f)
  | .dict kvs, _, h, f => by cases f
theorem OddAll.dp {K : PySem.W.Frag} {H : Hp} : ∀ (ds : List PyData) (vs : List V), OddAll H vs ds → flatD.flatDs ds = true → DpAll K H vs ds
  | [], _, h, _ => by cases h; exact .nil
  | d :: ds, _, h, f => by
    have f' : (flatD d && flatD.flatDs ds) = true := f
    rw [Bool.and_eq_true] at f'
    cases h with | cons h r => exact .cons (Odd.dp d _ h f'.1) (OddAll.dp ds _ r f'.2)
end
section
variable {X : Cx}
def rReprO : List V → Hp → VK → Prop := fun xs H Q => ∃ (v : V) (d : PyData), xs = [v] ∧ Odd H v d ∧ ShowO d ∧ (flatD d = true ∨ d = .dict []) ∧ Q (.str (shownO d)) H
theorem call_reprO (gu : X.A.guards = some []) (hu : X.A.units + 64 < cLine) : CallR X (.builtin "repr") rReprO := by
  intro pins s σ H xs us Q I r h
  obtain ⟨v, d, rfl, od, sh, fl, q⟩ := h
  obtain ⟨u, rfl, ru⟩ := vals1 r
  cases od with
  | non =>
    cases (show u = Value.none from ru)
    exact PySem.P.repr_of_none ⟨.str _, H, I.tok _, ⟨_, rfl⟩, q⟩
  | bl b =>
    cases (show u = Value.bool b from ru)
    exact PySem.P.repr_of_bool ⟨.str _, H, I.tok _, ⟨_, rfl⟩, q⟩
  | int i =>
    obtain ⟨t, rfl⟩ := ru
    exact PySem.P.repr_of_int sh ⟨.str _, H, I.tok _, ⟨_, rfl⟩, q⟩
  | str x hx =>
    obtain ⟨t, rfl⟩ := ru
    exact PySem.P.repr_of_str ⟨.str _, H, I.tok _, ⟨_, rfl⟩, q⟩ sh
  | @lst a xs ds h hz r' =>
    cases (show u = Value.ref a from ru)
    obtain ⟨hs, hn, hl, hz⟩ := sh
    obtain ⟨as, rd⟩ := Dp.reads I _ (.ref a) (.ref a) (Odd.dp (K := X.K) _ _ (Odd.lst h ‹_› r') (fl.resolve_right nofun)) rfl
    refine PySem.repr_of_reads' rd hs (fun z => by rw [hn] at z; cases z) gu (by omega) (fun _ _ e => e) (fun h' u tk keep => ?_) hz
    exact ⟨.str _, H, I.kept (t' := tk) keep, ⟨u, rfl⟩, q⟩
  | @tup a xs ds h hz r' =>
    cases (show u = Value.ref a from ru)
    obtain ⟨hs, hn, hl, hz⟩ := sh
    obtain ⟨as, rd⟩ := Dp.reads I _ (.ref a) (.ref a) (Odd.dp (K := X.K) _ _ (Odd.tup h ‹_› r') (fl.resolve_right nofun)) rfl
    refine PySem.repr_of_reads' rd hs (fun z => by rw [hn] at z; cases z) gu (by omega) (fun _ _ e => e) (fun h' u tk keep => ?_) hz
    exact ⟨.str _, H, I.kept (t' := tk) keep, ⟨u, rfl⟩, q⟩
  | @dic a h =>
    cases (show u = Value.ref a from ru)
    obtain ⟨_, nsm, vs, rk, dd⟩ := (show ObjOk X.prog X.w H s.heap a (.dK []) from I.hok a _ h)
    have ev : vs = [] := by cases rk; rfl
    subst ev
    obtain ⟨o, es, ep, ho, hx, hd, he⟩ := dd
    have hes : es.toList = [] := by
      have p := he.2.1
      cases q : es.toList with
      | nil => rfl
      | cons x r => rw [q] at p; cases p
    have rd : Reads s.heap (.ref a) (.dict []) (a :: [] ++ []) := Reads.dict (kvs := []) ho hx.1 hd (by rw [hes]; exact .nil) (by rw [hes]; exact .nil)
    refine PySem.repr_of_reads' rd (by decide +kernel) (fun _ z => ?_) gu (by have : (PyData.dict []).depth ≤ 2 := by decide +kernel
                                                                              omega) (fun _ _ e => e) (fun h' u tk keep => ?_) (by decide +kernel)
    · rcases List.mem_cons.mp z with y | y
      · rw [← y] at nsm; simp at nsm
      · cases y
    · exact ⟨.str _, H, I.kept (t' := tk) keep, ⟨u, rfl⟩, q⟩
end
end WL

set_option Elab.async false
set_option linter.all false
set_option maxRecDepth 100000
set_option maxHeartbeats 8000000
namespace WL
open PySem PySem.Spec PyProof.Rows L2 Evl
structure Start (P : Program) (w : World) (K : PySem.W.Frag) (h : Heap) (a : Addr) (ns : List Int) (H : Hp) : Prop where
  only : Only H
  sq : SqL K H a (ns.map V.int)
  ok : HOk P w H h
  one : ∀ b, b ≠ a → H b = none
  out : ∀ o, K.lookup a = some o → H a = none
theorem start_at {P : Program} {w : World} {K : PySem.W.Frag} {h : Heap} {a : Addr} {vs : List Value} {ns : List Int} (KX : K.In h) (at_ : h.get? a = some { cls := .type "list", data := .seq vs.toArray }) (hi : IntsAre vs ns) (hl : ns.length ≤ sizeLine) :
    ∃ H, Start P w K h a ns H := by
  have rv := vals_ints hi
  have same : vs.length = ns.length := hi.length
  by_cases hk : ∃ o, K.lookup a = some o
  · obtain ⟨o, hk⟩ := hk
    have eo : o = { cls := .type "list", data := .seq vs.toArray } := Option.some.inj ((KX a o hk).symm.trans at_)
    subst eo
    refine ⟨fun _ => none, fun _ => .inl rfl, .inr ⟨_, vs.toArray, _, hk, rfl, rfl, rfl, ?_, ?_⟩, fun b u z => (nomatch z), fun _ _ => rfl, fun _ _ => rfl⟩
    · rw [List.size_toArray, same]; exact hl
    · rw [List.toList_toArray]; exact rv
  · let obj : Obj := { cls := .type "list", data := .seq vs.toArray }
    have no : ∀ o, K.lookup a = some o → False := fun o e => hk ⟨o, e⟩
    refine ⟨fun b => if b = a then some (.frz obj (.lst (ns.map V.int))) else none, fun b => ?_, .inl (.inr ⟨obj, if_pos rfl⟩), fun b u z => ?_, fun b hb => if_neg hb, fun o e => (no o e).elim⟩
    · by_cases hb : b = a
      · exact .inr ⟨obj, _, if_pos hb⟩
      · exact .inl (if_neg hb)
    · by_cases hb : b = a
      · have q : some (HO.frz obj (.lst (ns.map V.int))) = some u := (if_pos hb).symm.trans z
        cases q
        rw [hb]
        exact ⟨at_, by rw [List.length_map]; exact hl, vs, _, rv, at_⟩
      · have q : (none : Option HO) = some u := (if_neg hb).symm.trans z
        cases q
theorem law_run {P : Program} {w : World} {K : PySem.W.Frag} {mg mb : Str → Option Value} {k : Nat} {fa a : Addr} {fd : FuncData} {x : Str} {sp : Sp} {s : Shared} {vs : List Value} {ns : List Int} {H : Hp}
    (KX : K.In s.heap) (gl : s.heap.Ns mainGlobals mg) (bl : s.heap.Ns builtinsNs mb) (bb : ∀ x : Str, x ≠ "__name__" → mb x = bootBuiltins x) (lim : s.heap.NoLimit) (gens : s.gens = #[])
    (at_ : s.heap.get? a = some { cls := .type "list", data := .seq vs.toArray }) (S : Start P w K s.heap a ns H) (room : Room k callerA)
    (F : ∀ base : Heap, K.In base → base.Ns mainGlobals mg → FnG P w K mg base k fa fd [x] sp) (bi : ∀ (s : Shared) (u : Value), BindsTo s fd ⟨[u], []⟩ [(x, u)])
    (hsp : sp [.ref a] H (fun v _ => v = .bl true) fun _ _ _ => False) :
    codeAny (model P w) callerA (.call (.ref fa) ⟨[.ref a], []⟩) (fun r s' => r = .ok (.ret (.bool true)) ∧ OldK s.heap s'.heap ∧ s'.os = s.os ∧ AllBare s'.gens) s := by
  have hid : ∀ {b : Addr} {o : Obj}, s.heap.get? b = some o → H b = none → (hidT s.heap H).get? b = some o := fun e n => hidT_get e n
  have dicts : ∀ {b : Addr} {o : Obj} {es : Array DictEntry} {n : Nat}, s.heap.get? b = some o → o.data = .dict es n → H b = none := fun {b o es n} e dt => by
    refine S.one b fun z => ?_
    rw [z, at_] at e
    cases e
    cases (dt : Data.seq vs.toArray _ = Data.dict es n)
  have ns_ : ∀ {b : Addr} {m : Str → Option Value}, s.heap.Ns b m → (hidT s.heap H).Ns b m := fun {b m} n => by
    obtain ⟨o, es, ep, e, dt, r⟩ := n
    exact ⟨o, es, ep, hid e (dicts e dt), dt, r⟩
  have inB : K.In (hidT s.heap H) := fun b o e => hid (KX b o e) (by
    by_cases z : b = a
    · rw [z]; rw [z] at e; exact S.out o e
    · exact S.one b z)
  obtain ⟨mc, l1, l2⟩ := lim
  have env0 : Env0 P w K mg (hidT s.heap H) callerA [] s H := {
    frames := rfl
    mod := ⟨inB, ns_ gl, ⟨mb, ns_ bl, bb⟩, ⟨mc, ns_ l1, l2⟩⟩
    bs := fun b o e => of_hidT e
    bsz := Nat.le_of_eq (hidT_size _ _)
    funs := trivial
    frf := fun b z => (List.not_mem_nil (show b ∈ ([] : List Addr) from z)).elim
    hok := S.ok
    bare := .of_eq gens }
  have done := (F _ inB (ns_ gl)).run callerA [] s H ⟨[.ref a], []⟩ [.ref a] [.ref a] _ _ room rfl env0 (bi s (.ref a)) (.cons rfl .nil) hsp
  refine codeAny_mono done fun res s' h => ?_
  match res, h with
  | .error _, h => exact h.elim
  | .ok .next, h => exact h.elim
  | .ok .brk, h => exact h.elim
  | .ok .cont, h => exact h.elim
  | .ok (.ret u), h =>
    obtain ⟨v, H', sys, bare, un, ok', rel, q⟩ := h
    obtain rfl : v = .bl true := q
    obtain rfl : u = Value.bool true := rel
    refine ⟨rfl, OldK.of_keep fun b o e => ?_, sys, bare⟩
    rcases S.only b with z | ⟨ob, xs, z⟩
    · exact un.keep b o e z (fun m => (List.not_mem_nil (show b ∈ ([] : List Addr) from m)).elim) (by simp)
    · obtain ⟨p1, _⟩ := S.ok b _ z
      obtain ⟨p2, _⟩ := ok' b _ (un.frzs b ob _ z)
      rw [e] at p1
      cases p1
      exact p2
theorem walk_ofG {l : PySem.W.OpenLaw} {n k : Nat} {q : Program} {loose : List Str} {XP : (Str → Option Value) → Heap → Prop} {YP : World → Heap → Prop} {d : DefRec} {K : Params → PySem.W.Frag} {sp : World → Sp} {x : Str}
    (most : l.most = some n) (small : n ≤ sizeLine) (nodef : d.params.defaults = []) (room : Room k callerA) (hY : ∀ (w : World) (h : Heap), YP w h → (K w.params).In h)
    (F : ∀ (w : World) (mg : Str → Option Value) (fa : Addr) (h : Heap), (K w.params).In h → h.Ns mainGlobals mg → mg d.name = some (.ref fa) →
      ∃ fd : FuncData, (∀ (s : Shared) (u : Value), BindsTo s fd ⟨[u], []⟩ [(x, u)]) ∧ ∀ base : Heap, (K w.params).In base → base.Ns mainGlobals mg → FnG l.prog w (K w.params) mg base k fa fd [x] (sp w))
    (hsp : ∀ (w : World) (H : Hp) (a : Addr) (ns : List Int), ns.length ≤ n → SqL (K w.params) H a (ns.map V.int) → sp w [.ref a] H (fun v _ => v = .bl true) fun _ _ _ => False) :
    PySem.W.WalkO q loose XP YP l.row.toRowW d [] (fun f vs => PySem.call f vs) :=
  Att.attach_call most nodef fun w s0 s1 mg mb fa o pm cd doc a vs ns G Y ho hd hcd hmg hobj hints hlen hg => by
    have KX := hY w _ Y
    obtain ⟨fd, bi, hF⟩ := F w mg fa _ KX G.T.g hmg
    obtain ⟨H, S⟩ := start_at (P := l.prog) (w := w) KX hobj hints (Nat.le_trans hlen small)
    exact law_run KX G.T.g G.T.b G.T.builtins G.T.nolimit hg hobj S room hF bi (hsp w H a ns hlen S.sq)
end WL

set_option Elab.async false
set_option linter.all false
set_option maxRecDepth 100000
set_option maxHeartbeats 8000000
namespace WL
open PySem PySem.Spec PyProof.Rows L2 Evl
def CPowB (i j : Int) : Prop := 0 ≤ j ∧ (Builtin.Int.intBits i : Int) * j ≤ 2 ^ 27
theorem op_powB {X : Cx} : OpR X (binaryOp .Pow) (rI CPowB fun i j => .int (i ^ j.toNat)) := opI fun _ _ _ _ _ _ _ hc q => pow_int hc.1 hc.2 q
structure TL (mg : Str → Option Value) : Prop where
  int : mg "int" = none
  abs : mg "abs" = none
  len : mg "len" = none
  sum : mg "sum" = none
  all : mg "all" = none
  range : mg "range" = none
  list : mg "list" = none
  max : mg "max" = none
  min : mg "min" = none
  str : mg "str" = none
  isi : mg "isinstance" = none
  repr : mg "repr" = none
  tuple : mg "tuple" = none
def PotAt (H : Hp) (l : Addr) (m : Nat) : Prop := ∃ own b c : Int, H l = some (.lst [.int own, .int b, .int c]) ∧ 0 ≤ own ∧ 0 ≤ b ∧ b < 2 ^ 62 ∧ 0 ≤ c ∧ c ≤ m
theorem PotAt.up {H H' : Hp} {l : Addr} {m : Nat} (e : Ex H H') (h : PotAt H l m) : PotAt H' l m := by
  obtain ⟨own, b, c, h, r⟩ := h
  exact ⟨own, b, c, e _ _ h, r⟩
theorem PotAt.le {H : Hp} {l : Addr} {m m' : Nat} (h : PotAt H l m) (e : m ≤ m') : PotAt H l m' := by
  obtain ⟨own, b, c, h, h1, h2, h3, h4, h5⟩ := h
  exact ⟨own, b, c, h, h1, h2, h3, h4, by omega⟩
section
variable {P : Program} {w : World} {K : PySem.W.Frag} {mg : Str → Option Value} {base : Heap}
theorem rvi_l {H : Hp} {p : Addr} {xs : List V} {i : Int} {v : V} (h : SqL K H p xs) (ha : atI xs i = some v) : RV (rIx K) (.ref p) (.int i) H v := fun H1 e Q q => .inl (rv_ixL h ha H1 e Q q)
theorem rvi_t {H : Hp} {p : Addr} {xs : List V} {i : Int} {v : V} (h : SqT K H p xs) (ha : atI xs i = some v) : RV (rIx K) (.ref p) (.int i) H v := fun H1 e Q q => .inr (.inl (rv_ixT h ha H1 e Q q))
theorem op_gen {r : R2} {ta tb : TE} {σ : L2.St} {H : Hp} {x : V} {Q : VK} (ha : Ev ta σ H x) (hb : ∀ H1, Ex H H1 → tb σ H1 fun y H2 => r x y H2 Q) : tOp r ta tb σ H Q := ha H (Ex.refl H) _ fun H1 e => hb H1 e
theorem call_gen {sp : Sp} {E : XK} {t : TA} {vs : List V} {σ : L2.St} {H : Hp} {Q : VK} (h : EvA t σ H vs) (hs : ∀ H1, Ex H H1 → sp vs H1 Q E) : tCall sp [] E t σ H Q := h H (Ex.refl H) _ fun H1 e => by
  show sp (vs ++ []) H1 Q E
  rw [List.append_nil]
  exact hs H1 e
theorem rc_int {H : Hp} {i : Int} : RC (fun xs H Q => (∃ i, xs = [V.int i] ∧ Q (V.int i) H) ∨ ∃ k, xs = [V.bl k] ∧ Q (V.int (if k then 1 else 0)) H) [.int i] H (.int i) := fun H1 e Q q => .inl ⟨i, rfl, q H1 (Ex.refl H1)⟩
theorem rc_intb {H : Hp} {k : Bool} : RC (fun xs H Q => (∃ i, xs = [V.int i] ∧ Q (V.int i) H) ∨ ∃ k, xs = [V.bl k] ∧ Q (V.int (if k then 1 else 0)) H) [.bl k] H (.int (if k then 1 else 0)) := fun H1 e Q q => .inr ⟨k, rfl, q H1 (Ex.refl H1)⟩
theorem ev_I {ta : TE} {σ : L2.St} {H : Hp} {i : Int} (h : Ev ta σ H (.int i)) : Ev (tCB (fun xs H Q => (∃ i, xs = [V.int i] ∧ Q (V.int i) H) ∨ ∃ k, xs = [V.bl k] ∧ Q (V.int (if k then 1 else 0)) H) (tCons ta tNil)) σ H (.int i) := ev_cb (ea_cons h ea_nil) rc_int
theorem ev_Ib {ta : TE} {σ : L2.St} {H : Hp} {k : Bool} (h : Ev ta σ H (.bl k)) : Ev (tCB (fun xs H Q => (∃ i, xs = [V.int i] ∧ Q (V.int i) H) ∨ ∃ k, xs = [V.bl k] ∧ Q (V.int (if k then 1 else 0)) H) (tCons ta tNil)) σ H (.int (if k then 1 else 0)) := ev_cb (ea_cons h ea_nil) rc_intb
theorem ev_abs {ta : TE} {σ : L2.St} {H : Hp} {i : Int} (h : Ev ta σ H (.int i)) : Ev (tCB (fun xs H Q => ∃ i, xs = [V.int i] ∧ Q (V.int (if i < 0 then -i else i)) H) (tCons ta tNil)) σ H (.int (if i < 0 then -i else i)) := ev_cb (ea_cons h ea_nil) fun H1 e Q q => ⟨i, rfl, q H1 (Ex.refl H1)⟩
theorem b01 (b : Bool) : (0 : Int) ≤ (if b = true then 1 else 0) ∧ (if b = true then (1 : Int) else 0) < 2 ^ 64 ∧ -(2 ^ 64) < (if b = true then (1 : Int) else 0) := by cases b <;> exact ⟨by decide, by decide, by decide⟩
theorem cut1 (xs : List V) : cutV xs none (some 1) = xs.take 1 := by
  cases xs with
  | nil => rfl
  | cons x r =>
    unfold cutV
    have e1 : HT.sIx (x :: r).length 0 none = 0 := rfl
    have e2 : HT.sIx (x :: r).length (x :: r).length (some 1) = 1 := by
      unfold HT.sIx
      simp
      try omega
    rw [e1, e2]
    rfl
def cellP (ns : List Int) (place : Nat) : Int := if place < ns.length then ns.getD place 0 else (ns.take 1).sum % 1000003 + 1907 * (place : Int) + 1291
theorem scLawPot : FnScope ["script", "place", "cell", "own", "small"] ["script", "place"] (defScope sLawPot) := ⟨rfl, rfl, rfl, by decide +kernel, rfl, by decide +kernel, by decide +kernel⟩
def spPot (K : PySem.W.Frag) : Sp := fun vs H Q _ => ∃ (a : Addr) (ns : List Int) (i : Nat), vs = [.ref a, .int (i : Int)] ∧ SqL K H a (ns.map V.int) ∧ i ≤ 100 ∧ ∀ l H', H l = none → Ex H H' → PotAt H' l 0 → Q (.ref l) H'
theorem ok_pot {f : Addr} {fd : FuncData} (F : Fun K "_law_pot" "_law_pot" sLawPot f fd) (T : TL mg) : FnOk P w K mg base CX0 1 f fd ["script", "place"] (spPot K) := by
  refine F.ok scLawPot (fun vs H Q E h => ?_) (fun cdv A outer s H vs Q E hr h => ?_)
  · obtain ⟨a, ns, i, rfl, _⟩ := h
    rfl
  · obtain ⟨a, ns, i, rfl, hs, hi, k⟩ := h
    refine ⟨_, pss_cons (ps_set (i := 2) scLawPot.nd rfl (Or.inl rfl) (pe_ifExp (pt_cmpR op_lt (pv 1) (pe_callB call_len_seq (by rfl) T.len PySem.boot_len (pa_cons (pv 0) pa_nil)) (nomark _)) (pe_ix ix_seq (pv 0) (pv 1) fun _ _ => rfl)
        (pe_op op_add (pe_op op_add (pe_op op_mod (pe_callTy call_int1 (by rfl) T.int (by decide +kernel) (pa_cons (pe_callB (cr_sum rfl) (by rfl) T.sum (by decide +kernel) (pa_cons (pe_slice sl_list (pv 0) po_none (po_some pe_int)) pa_nil)) pa_nil)) pe_int) (pe_op op_mul pe_int (pv 1))) pe_int)))
      (pss_cons (ps_set (i := 3) scLawPot.nd rfl (Or.inl rfl) (pe_op op_mul (pe_op op_mod (pe_callTy call_int1 (by rfl) T.int (by decide +kernel) (pa_cons (pe_callB call_abs (by rfl) T.abs (by decide +kernel) (pa_cons (pv 2) pa_nil)) pa_nil)) (pe_op op_powB (pe_op op_pow pe_int pe_int) pe_int))
        (pe_callTy call_int1 (by rfl) T.int (by decide +kernel) (pa_cons (pe_cmpR op_ge (pe_callB call_abs (by rfl) T.abs (by decide +kernel) (pa_cons (pv 2) pa_nil)) (pe_op op_pow pe_int pe_int) (nomark _)) pa_nil))))
      (pss_cons (ps_set (i := 4) scLawPot.nd rfl (Or.inl rfl) (pe_op op_mod (pe_callTy call_int1 (by rfl) T.int (by decide +kernel) (pa_cons (pv 2) pa_nil)) pe_int))
      (pss_one (ps_ret (pe_lst (pa_cons (pv 3) (pa_cons (pe_op op_mod (pe_callTy call_int1 (by rfl) T.int (by decide +kernel) (pa_cons (pe_op op_add (pe_op op_add (pe_op op_mul (pv 4) pe_int) (pe_op op_mul (pe_op op_mul pe_int (pv 1)) (pv 1))) pe_int) pa_nil)) pe_int) (pa_cons pe_int pa_nil)))))))), ?_⟩
    refine q_asg (v := .int (cellP ns i)) (ev_if (b := decide ((i : Int) < (((ns.map V.int).length : Nat) : Int))) (et_test (ev_op (ev_var rfl) (ev_lenQ (eq_l (ev_var rfl) hs)) rv_I0)) (fun hb => ?_) (fun hb => ?_)) fun H1 e1 => ?_
    · have hj : i < ns.length := by
        have z := of_decide_eq_true hb
        rw [List.length_map] at z
        omega
      refine ev_op (ev_var rfl) (ev_var rfl) (rvi_l hs (atI_nat ?_))
      rw [List.getElem?_map, List.getElem?_eq_getElem hj]
      unfold cellP
      rw [if_pos hj, List.getD_eq_getElem?_getD, List.getElem?_eq_getElem hj]
      rfl
    · have hj : ¬ i < ns.length := by
        have z := of_decide_eq_false hb
        rw [List.length_map] at z
        omega
      have sl : EvL (tSl (rSlL K) (tVar 0) (fun σ H Q => Q none H) (tPart (tC (.int 1)))) (L2.start ["script", "place", "cell", "own", "small"] [V.ref a, V.int (i : Int)]) H ((ns.take 1).map V.int) := by
        have q := el_sl (K := K) (te := tVar 0) (σ := L2.start ["script", "place", "cell", "own", "small"] [V.ref a, V.int (i : Int)]) (H := H) (ev_var rfl) (lo := none) (hi := some 1) (tl := fun σ H Q => Q none H) (fun H1 e Q q => q H1 (Ex.refl H1)) (eo_some (te := tC (.int 1)) ev_c) hs
        rw [cut1, ← List.map_take] at q
        exact q
      refine ev_is (ev_op (ev_op (ev_op (ev_I (ev_sumL sl)) ev_c (rv_I (C := fun _ j => 0 < j) (by decide))) (ev_op ev_c (ev_var rfl) (rv_I (C := CMul) (.inl ⟨by decide, by decide⟩))) rv_I0) ev_c rv_I0) ?_
      unfold cellP
      rw [if_neg hj]
    · generalize cellP ns i = c
      refine q_asg (ev_op (ev_op (ev_I (ev_abs (ev_var rfl))) (ev_op (ev_op ev_c ev_c (rv_I (C := CPow) ⟨by decide, by decide, by decide⟩)) ev_c (rv_I (C := CPowB) ⟨by decide, by decide +kernel⟩)) (rv_I (C := fun _ j => 0 < j) (by decide +kernel)))
        (ev_Ib (ev_op (ev_abs (ev_var rfl)) (ev_op ev_c ev_c (rv_I (C := CPow) ⟨by decide, by decide, by decide⟩)) rv_I0)) (rv_I (C := CMul) (.inr ⟨(b01 _).2.2, (b01 _).2.1⟩))) fun H2 e2 => ?_
      have o0 : (0 : Int) ≤ (if c < 0 then -c else c) % (((10 : Int) ^ (60 : Int).toNat) ^ (5 : Int).toNat) * (if decide (((10 : Int) ^ (18 : Int).toNat) ≤ (if c < 0 then -c else c)) = true then 1 else 0) := Int.mul_nonneg (Int.emod_nonneg _ (by decide +kernel)) (b01 _).1
      generalize (if c < 0 then -c else c) % (((10 : Int) ^ (60 : Int).toNat) ^ (5 : Int).toNat) * (if decide (((10 : Int) ^ (18 : Int).toNat) ≤ (if c < 0 then -c else c)) = true then 1 else 0) = o at o0 ⊢
      refine q_asg (ev_op (ev_I (ev_var rfl)) ev_c (rv_I (C := fun _ j => 0 < j) (by decide))) fun H3 e3 => ?_
      have s0 : (0 : Int) ≤ c % 2305843009213693951 := Int.emod_nonneg _ (by decide)
      have s1 : c % 2305843009213693951 < 2305843009213693951 := Int.emod_lt_of_pos _ (by decide)
      generalize c % 2305843009213693951 = sm at s0 s1 ⊢
      refine s_retL (el_lst (ea_cons (ev_var rfl) (ea_cons (ev_op (ev_I (ev_op (ev_op (ev_op (ev_var rfl) ev_c (rv_I (C := CMul) (.inr ⟨by decide, by decide⟩))) (ev_op (ev_op ev_c (ev_var rfl) (rv_I (C := CMul) (.inl ⟨by decide, by decide⟩))) (ev_var rfl) (rv_I (C := CMul) (.inr ⟨by omega, by omega⟩))) rv_I0) ev_c rv_I0)) ev_c (rv_I (C := fun _ j => 0 < j) (by decide))) (ea_cons ev_c ea_nil))) (by show 3 ≤ 100000; decide)) fun p H4 hp e4 h4 => ?_
      have e13 := (e1.trans e2).trans e3
      refine k p H4 (fresh_back e13 hp) (e13.trans e4) ⟨_, _, _, h4, o0, Int.emod_nonneg _ (by decide), Int.lt_trans (Int.emod_lt_of_pos _ (by decide)) (by decide), by decide, by decide⟩
end
end WL

set_option Elab.async false
set_option linter.all false
set_option maxRecDepth 100000
set_option maxHeartbeats 8000000
namespace WL
open PySem PySem.Spec PyProof.Rows L2 Evl
section
variable {P : Program} {w : World} {K : PySem.W.Frag} {mg : Str → Option Value} {base : Heap}
abbrev nTk : List Str := ["pot", "upto", "digit", "prime", "blend"]
theorem scLawTake : FnScope nTk ["pot", "upto"] (defScope sLawTake) := ⟨rfl, rfl, rfl, by decide +kernel, rfl, by decide +kernel, by decide +kernel⟩
def spLTake : Sp := fun vs H Q _ => ∃ (l : Addr) (u m : Nat), vs = [.ref l, .int (u : Int)] ∧ 1 ≤ u ∧ u ≤ 100000 ∧ m ≤ 1000000 ∧ PotAt H l m ∧ ∀ (d : Nat) H', d < u → But l H H' → PotAt H' l (m + 1) → Q (.int (d : Int)) H'
abbrev primes : List V := [.int 2147483647, .int 2147483629, .int 2147483587, .int 2147483579, .int 2147483563]
theorem prime_at {c : Int} (h : 0 ≤ c) : ∃ p : Int, atI primes (c % 5) = some (.int p) ∧ 0 < p ∧ p < 2147483648 := by
  have a := Int.emod_nonneg c (show (5 : Int) ≠ 0 by decide)
  have b := Int.emod_lt_of_pos c (show (0 : Int) < 5 by decide)
  have e : c % 5 = 0 ∨ c % 5 = 1 ∨ c % 5 = 2 ∨ c % 5 = 3 ∨ c % 5 = 4 := by omega
  rcases e with e | e | e | e | e <;> rw [e]
  · exact ⟨_, rfl, by decide, by decide⟩
  · exact ⟨_, rfl, by decide, by decide⟩
  · exact ⟨_, rfl, by decide, by decide⟩
  · exact ⟨_, rfl, by decide, by decide⟩
  · exact ⟨_, rfl, by decide, by decide⟩
theorem nat_of {i : Int} {u : Nat} (h1 : 0 ≤ i) (h2 : i < u) : ∃ d : Nat, i = (d : Int) ∧ d < u := ⟨i.toNat, by omega, by omega⟩
theorem sq_bound {c : Int} (h0 : 0 ≤ c) (h1 : c ≤ 1000001) : 0 ≤ c * c ∧ c * c ≤ 1000001 * 1000001 := ⟨Int.mul_nonneg h0 h0, Int.mul_le_mul h1 h1 h0 (by decide)⟩
theorem ok_ltake {f : Addr} {fd : FuncData} (F : Fun K "_law_take" "_law_take" sLawTake f fd) (T : TL mg) : FnOk P w K mg base CX0 1 f fd ["pot", "upto"] spLTake := by
  refine F.ok scLawTake (fun vs H Q E h => ?_) (fun cdv A outer s H vs Q E hr h => ?_)
  · obtain ⟨l, u, m, rfl, _⟩ := h
    rfl
  · obtain ⟨l, u, m, rfl, hu1, hu2, hm, ⟨own, b, c, hl, o0, b0, b1, c0, c1⟩, k⟩ := h
    refine ⟨_, pss_cons (ps_if (pt_cmpR op_gt (pe_ix ix_seq (pv 0) pe_int fun _ _ => rfl) pe_int (nomark _))
        (pss_cons (ps_set (i := 2) scLawTake.nd rfl (Or.inl rfl) (pe_op op_mod (pe_callTy call_int1 (by rfl) T.int (by decide +kernel) (pa_cons (pe_ix ix_seq (pv 0) pe_int fun _ _ => rfl) pa_nil)) (pv 1)))
        (pss_cons (ps_asg (pe_op op_fdiv (pe_ix ix_seq (pv 0) pe_int fun _ _ => rfl) (pv 1)) (pg_sub (pv 0) pe_int set_list))
        (pss_one (ps_ret (pv 2))))) pss_nil)
      (pss_cons (ps_asg (pe_op op_add (pe_ix ix_seq (pv 0) pe_int fun _ _ => rfl) pe_int) (pg_sub (pv 0) pe_int set_list))
      (pss_cons (ps_set (i := 3) scLawTake.nd rfl (Or.inl rfl) (pe_ix ix_seq (pe_lst (pa_cons pe_int (pa_cons pe_int (pa_cons pe_int (pa_cons pe_int (pa_cons pe_int pa_nil)))))) (pe_op op_mod (pe_callTy call_int1 (by rfl) T.int (by decide +kernel) (pa_cons (pe_ix ix_seq (pv 0) pe_int fun _ _ => rfl) pa_nil)) pe_int) fun _ _ => rfl))
      (pss_cons (ps_set (i := 4) scLawTake.nd rfl (Or.inl rfl) (pe_op op_mod (pe_callTy call_int1 (by rfl) T.int (by decide +kernel) (pa_cons (pe_op op_pow (pe_callTy call_int1 (by rfl) T.int (by decide +kernel) (pa_cons (pe_op op_add (pe_op op_add (pe_ix ix_seq (pv 0) pe_int fun _ _ => rfl) (pe_op op_mul (pe_op op_mul pe_int (pe_ix ix_seq (pv 0) pe_int fun _ _ => rfl)) (pe_ix ix_seq (pv 0) pe_int fun _ _ => rfl))) pe_int) pa_nil)) pe_int) pa_nil)) (pv 3)))
      (pss_one (ps_ret (pe_op op_mod (pe_callTy call_int1 (by rfl) T.int (by decide +kernel) (pa_cons (pe_op op_fdiv (pe_op op_mul (pv 4) (pe_op op_add (pe_op op_mod (pe_callTy call_int1 (by rfl) T.int (by decide +kernel) (pa_cons (pv 4) pa_nil)) pe_int) (pe_op op_mul pe_int (pe_ix ix_seq (pv 0) pe_int fun _ _ => rfl)))) pe_int) pa_nil)) (pv 1))))))), ?_⟩
    have at0 : ∀ {o b' c' : Int} {σ : L2.St} {H1 : Hp}, H1 l = some (.lst [.int o, .int b', .int c']) → σ[0]? = some (some (V.ref l)) → Ev (tOp (rIx K) (tVar 0) (tC (.int 0))) σ H1 (.int o) := fun h hσ => ev_op (ev_var hσ) ev_c (rvi_l (sq_of h) (atI_nat (j := 0) rfl))
    have at1 : ∀ {o b' c' : Int} {σ : L2.St} {H1 : Hp}, H1 l = some (.lst [.int o, .int b', .int c']) → σ[0]? = some (some (V.ref l)) → Ev (tOp (rIx K) (tVar 0) (tC (.int 1))) σ H1 (.int b') := fun h hσ => ev_op (ev_var hσ) ev_c (rvi_l (sq_of h) (atI_nat (j := 1) rfl))
    have at2 : ∀ {o b' c' : Int} {σ : L2.St} {H1 : Hp}, H1 l = some (.lst [.int o, .int b', .int c']) → σ[0]? = some (some (V.ref l)) → Ev (tOp (rIx K) (tVar 0) (tC (.int 2))) σ H1 (.int c') := fun h hσ => ev_op (ev_var hσ) ev_c (rvi_l (sq_of h) (atI_nat (j := 2) rfl))
    have u0 : (0 : Int) < (u : Int) := by omega
    have u9 : (u : Int) < 1073741824 := by omega
    refine q_when (b := decide (0 < own)) (et_test (ev_op (at0 hl rfl) ev_c rv_I0)) (fun hb H1 e1 => ?_) (fun hb H1 e1 => ?_)
    · refine q_asg (ev_op (ev_I (at0 (e1 _ _ hl) rfl)) (ev_var rfl) (rv_I (C := fun _ j => 0 < j) u0)) fun H2 e2 => ?_
      obtain ⟨d, hd, hdu⟩ := nat_of (u := u) (Int.emod_nonneg own (by omega)) (Int.emod_lt_of_pos own u0)
      rw [hd]
      refine q_setL (j := 0) ((e1.trans e2) _ _ hl) (ev_op (at0 ((e1.trans e2) _ _ hl) rfl) (ev_var rfl) (rv_I (C := CDiv) ⟨u0, u9⟩)) (ev_var rfl) ev_c (by show 0 < 3; decide) fun H3 e3 => ?_
      refine s_ret (ev_var rfl) fun H4 e4 => ?_
      refine k d H4 hdu (((But.ex ((e1.trans e2).trans e3)).upd).trans (But.ex e4)) ⟨own / u, b, c, e4 _ _ upd_same, Int.ediv_nonneg o0 (by omega), b0, b1, c0, by omega⟩
    · refine q_setL (j := 2) (e1 _ _ hl) (ev_op (at2 (e1 _ _ hl) rfl) ev_c rv_I0) (ev_var rfl) ev_c (by show 2 < 3; decide) fun H2 e2 => ?_
      have hl2 := upd_same (H := H2) (a := l) (o := .lst [.int own, .int b, .int (c + 1)])
      have bt := (But.ex (p := l) (e1.trans e2)).upd (o := .lst [.int own, .int b, .int (c + 1)])
      show _
      change tSeq _ _ _ _ (upd H2 l (.lst [.int own, .int b, .int (c + 1)]))
      generalize upd H2 l (.lst [.int own, .int b, .int (c + 1)]) = G at hl2 bt ⊢
      obtain ⟨p, hp, p0, p1⟩ := prime_at (c := c + 1) (by omega)
      obtain ⟨q0, q1⟩ := sq_bound (c := c + 1) (by omega) (by omega)
      refine q_asg (ev_opL1 (el_lst (ea_cons ev_c (ea_cons ev_c (ea_cons ev_c (ea_cons ev_c (ea_cons ev_c ea_nil))))) (by show 5 ≤ 100000; decide)) (fun H3 e3 => ev_op (ev_I (at2 (e3 _ _ hl2) rfl)) ev_c (rv_I (C := fun _ j => 0 < j) (by decide))) fun a H3 ha e3 => rvi_l (sq_of ha) hp) fun H3 e3 => ?_
      have g3 := e3 _ _ hl2
      have mm : 99881 * (c + 1) * (c + 1) = 99881 * ((c + 1) * (c + 1)) := Int.mul_assoc _ _ _
      refine q_asg (ev_op (ev_I (ev_op (ev_I (ev_op (ev_op (at1 g3 rfl) (ev_op (ev_op ev_c (at2 g3 rfl) (rv_I (C := CMul) (.inl ⟨by decide, by decide⟩))) (at2 g3 rfl) (rv_I (C := CMul) (.inr ⟨by omega, by omega⟩))) rv_I0) ev_c rv_I0)) ev_c (rv_I (C := CPow) ⟨by decide, by decide, by rw [mm]; omega⟩))) (ev_var rfl) (rv_I (C := fun _ j => 0 < j) p0)) fun H4 e4 => ?_
      have l0 : (0 : Int) ≤ (b + 99881 * (c + 1) * (c + 1) + 1571) ^ (3 : Int).toNat % p := Int.emod_nonneg _ (by omega)
      have l1 : (b + 99881 * (c + 1) * (c + 1) + 1571) ^ (3 : Int).toNat % p < p := Int.emod_lt_of_pos _ p0
      generalize (b + 99881 * (c + 1) * (c + 1) + 1571) ^ (3 : Int).toNat % p = bl at l0 l1 ⊢
      have fin : ∀ x : Int, ∃ d : Nat, x % (u : Int) = (d : Int) ∧ d < u := fun x => nat_of (Int.emod_nonneg x (by omega)) (Int.emod_lt_of_pos x u0)
      refine s_ret (ev_op (ev_I (ev_op (ev_op (ev_var rfl) (ev_op (ev_op (ev_I (ev_var rfl)) ev_c (rv_I (C := fun _ j => 0 < j) (by decide))) (ev_op ev_c (at2 (e4 _ _ g3) rfl) (rv_I (C := CMul) (.inl ⟨by decide, by decide⟩))) rv_I0) (rv_I (C := CMul) (.inl ⟨by omega, by omega⟩))) ev_c (rv_I (C := CDiv) ⟨by decide, by decide⟩))) (ev_var rfl) (rv_I (C := fun _ j => 0 < j) u0)) fun H5 e5 => ?_
      obtain ⟨d, hd, hdu⟩ := fin (bl * (bl % 10529 + 251 * (c + 1)) / 137)
      rw [hd]
      exact k d H5 hdu (bt.trans (But.ex ((e3.trans e4).trans e5))) ⟨own, b, c + 1, (e4.trans e5) _ _ g3, o0, b0, b1, by omega, by omega⟩
end
end WL

set_option Elab.async false
set_option linter.all false
set_option maxRecDepth 100000
set_option maxHeartbeats 8000000
namespace WL
open PySem PySem.Spec PyProof.Rows L2 Evl
def exk (z : Addr) (cl : Value) (dd : Option Addr) : HO := .ext fun g => ∃ (oz : Obj) (us : Array Value), g.get? z = some oz ∧ Zc cl dd oz ∧ oz.data = .fields us
theorem exk_ok {P : Program} {w : World} {G : Hp} {g : Heap} {z : Addr} {cl : Value} {dd : Option Addr} {oz : Obj} {us : Array Value} (e : g.get? z = some oz) (hz : Zc cl dd oz) (hd : oz.data = .fields us) : ObjOk P w G g z (exk z cl dd) :=
  ⟨⟨oz, us, e, hz, hd⟩, ⟨oz, e⟩, fun _ _ ⟨o, v, q1, q2, q3⟩ k => ⟨o, v, k o q1, q2, q3⟩⟩
section
variable {X : Cx} {pins : List (Addr × Obj)} {σ : L2.St} {H : Hp} {s : Shared}
theorem suite_out {z : Addr} {p : Addr × Obj} {more : List (Addr × Obj)} (I : Inv (X.suite z (p :: (X.pn ++ pins))) more σ H s) (ok : X.Ok) : Inv X (p :: pins) σ H s where
  ok := ok
  os := I.os
  bare := I.bare
  base := I.base
  loc := I.loc
  cell := I.cell
  free := I.free
  freeC := I.freeC
  pin := fun q hq => I.pin q (List.mem_append_left _ (by
    rcases List.mem_append.mp hq with m | m
    · exact List.mem_cons_of_mem _ (List.mem_append_left _ m)
    · rcases List.mem_cons.mp m with m | m
      · rw [m]; exact List.mem_cons_self
      · exact List.mem_cons_of_mem _ (List.mem_append_right _ m)))
  hok := I.hok
  len := I.len
theorem track {z : Addr} {oz : Obj} {us : Array Value} {cl : Value} {dd : Option Addr} (I : Inv X ((z, oz) :: pins) σ H s) (new : X.s_0.heap.get? z = none) (hz : Zc cl dd oz) (hd : oz.data = .fields us) (np : ∀ p ∈ X.pn ++ pins, p.1 ≠ z) : Inv X pins σ (upd H z (exk z cl dd)) s := by
  obtain ⟨hg, hn, hL, hF, hc⟩ := I.pin (z, oz) (List.mem_append_right _ List.mem_cons_self)
  dsimp only at hg hn hL hF hc
  have ne : ∀ {b : Addr} {u : HO}, H b = some u → b ≠ z := fun {b u} e y => by rw [y, hn] at e; cases e
  have base : Un X.fs X.ex X.H_0 (upd H z (exk z cl dd)) X.s_0.heap s.heap := {
    keep := I.base.keep
    slot := I.base.slot
    free := fun b o e n x => by
      rw [upd_ne (fun y => by rw [y, new] at e; cases e)]
      exact I.base.free b o e n x
    there := I.base.there
    tups := fun b xs e => by rw [upd_ne (ne (I.base.tups b xs e))]; exact I.base.tups b xs e
    frzs := fun b o u e => by rw [upd_ne (ne (I.base.frzs b o u e))]; exact I.base.frzs b o u e
    tbls := fun b ps e => by
      obtain ⟨m, q⟩ := I.base.tbls b ps e
      exact ⟨m, by rw [upd_ne (ne q)]; exact q⟩ }
  refine ⟨I.ok, I.os, I.bare, base, I.loc, I.cell, ?_, fun x c e => ?_, fun p hp => ?_, HOk.laidN I.hok (fun _ _ e => e) hn (exk_ok hg hz hd), I.len⟩
  · rw [upd_ne (Ne.symm hL)]; exact I.free
  · obtain ⟨v, o, ho, hv⟩ := I.cell x c e
    rw [upd_ne (fun y => by rw [y, hg] at ho; cases ho; exact hc v hv)]
    exact I.freeC x c e
  · obtain ⟨q1, q2, q3, q4, q5⟩ := I.pin p (by
      rcases List.mem_append.mp hp with m | m
      · exact List.mem_append_left _ m
      · exact List.mem_append_right _ (List.mem_cons_of_mem _ m))
    exact ⟨q1, by rw [upd_ne (np p hp)]; exact q2, q3, q4, q5⟩
end
def wKeep (K : PySem.W.Frag) (cv : Value) (i : Nat) (ts : Addr → Value → Option Addr → TS) (Wo : WX) (D : Ends) : WX := fun cl dd σ H =>
  ∃ b, PySem.W.exmOne K cl cv = some b ∧
    (b = true → i < σ.length → ∀ z, H z = none → ts z cl dd { nx := fun _ _ => False, rt := fun v G => G z = none → D.rt v (upd G z (exk z cl dd)), bk := fun _ _ => False, ct := fun _ _ => False } (σ.set i (some (.ref z))) H) ∧ (b = false → Wo cl dd σ H)
section
variable {X : Cx} {x n : Str} {cv : Value} {i : Nat} {body su : List Stmt} {b0 : Stmt} {p1 p2 p3 : Pos} {tb : WX → TS} {ts : Addr → Value → Option Addr → TS} {Wo : WX}
theorem ps_try_keep (hex : X.ex = []) (h1 : X.stack = X.env :: X.outer) (h2 : X.env.frame = some X.env.locals) (hN : X.N.Nodup) (hi : X.N[i]? = some n) (hl : X.env.kindOf n = some .local) (hc : Names X x cv) (tk : Takes X Wo)
    (hb : ∀ (W : WX) (pn : List (Addr × Obj)) (xe : Value → Shared → Prop), Takes (X.tr pn xe) W → PassesOwn (model X.prog X.w) X.A X.env xe → PSs (X.tr pn xe) body (tb W))
    (hsu : ∀ (z : Addr) (oz : Obj) (cl : Value) (dd : Option Addr) (pn : List (Addr × Obj)), Zc cl dd oz → (∃ us, oz.data = .fields us) → PSs (X.suite z ((z, oz) :: pn)) (b0 :: su) (ts z cl dd)) :
    PS X (.Try body [.ExceptHandler (some (.Name x p1)) (some n) (b0 :: su) p2] [] [] p3) (fun D σ H => tb (wKeep X.K cv i ts Wo D) D σ H) := by
  refine ⟨fun pins s σ H D I h => ?_⟩
  have ok := I.ok
  have frm : X.A.frames = some (X.env :: X.outer) := by rw [ok.frames, h1]
  refine wpAny_Try_except ?_
  refine wpAny_mono ((hb (wKeep X.K cv i ts Wo D) (X.pn ++ pins) (fun u t1 => wpAny (model X.prog X.w) X.A (noteFrame u X.env) (fun _ t2 => wpAny (model X.prog X.w) X.A (setFlight u none) (fun _ t3 =>
    wpAny (model X.prog X.w) X.A (handleBy u X.env [.ExceptHandler (some (.Name x p1)) (some n) (b0 :: su) p2]) (SP X pins D) X.xe t3) X.xe t2) X.xe t1) (fun u t xx => ?_) PassesOwn.looking).run [] s σ H D (I.toTry _) h) (fun f t hsp => ?_) (fun u t he => he)
  · obtain ⟨z, B, sI, pins', σ', G, cl, dd, rfl, I', nb, up, sky, nz, os, ag, b, hb1, yes, no⟩ := xx
    have J : Inv X pins σ' G sI := I'.ofTry ok
    rw [show (X.tr (X.pn ++ pins) _).stack = X.env :: X.outer from h1] at sky
    show wpAny (model X.prog X.w) X.A (noteFrame (.ref z) X.env) _ _ _
    refine Sky.land Zc.steady frm h2 sky fun g3 fl up3 => ?_
    have J3 : Inv X pins σ' G { t with heap := g3 } := J.landed nb fl.1 (up.trans up3) os ag
    obtain ⟨o3, us3, e3, z3, d3⟩ := fl.there
    have offFr : ∀ {g : Heap} {o : Obj} {us : Array Value}, g.FunFrames B (X.env :: X.outer) → g.get? z = some o → o.data = .fields us → z ∉ frs (X.env :: X.outer) := fun {g o us} ff e dt hm => by
      obtain ⟨_, o', e', nf⟩ := ff.mem hm
      rw [e] at e'
      cases e'
      exact nf _ dt
    have off := offFr fl.2.2.1 e3 d3
    have zL : z ≠ X.env.locals := fun y => off (List.mem_filterMap.mpr ⟨X.env, List.mem_cons_self, by rw [h2, y]⟩)
    have zF : z ∉ X.fs := fun hm => by
      obtain ⟨e, he, q⟩ := List.mem_filterMap.mp hm
      exact off (List.mem_filterMap.mpr ⟨e, List.mem_cons_of_mem _ he, q⟩)
    have newI : sI.heap.get? z = none := by
      cases q : sI.heap.get? z with
      | none => rfl
      | some o =>
        have y := nb z o q (by rw [show X.stack = X.env :: X.outer from h1]; exact off)
        rw [fl.2.1] at y
        cases y
    have new0 : X.s_0.heap.get? z = none := by
      cases q : X.s_0.heap.get? z with
      | none => rfl
      | some o =>
        exfalso
        by_cases m : z ∈ X.ex
        · rw [hex] at m
          cases m
        · obtain ⟨o', y⟩ := J.base.there z o q m
          rw [newI] at y
          cases y
    have np : ∀ p ∈ X.pn ++ pins, p.1 ≠ z := fun p hp y => by
      obtain ⟨q, _⟩ := J.pin p hp
      rw [y, newI] at q
      cases q
    have S3 := J3.suite e3 d3 nz zL zF
    refine wpAny_handleBy_cons (codeAny_handlers_test ?_) (by intro q; cases q)
    have LT : PySem.W.Looks (model X.prog X.w) g3 (typeOf (.ref z)) cl := fun A Q E s k q => wpAny_typeOf_ref (k _ _ e3) (by rw [z3.1]; exact q)
    have LM := PySem.W.exm_one (M := model X.prog X.w) J3.kIn LT hb1
    have test : ∀ {Q : Value → Shared → Prop} {E : Value → Shared → Prop}, Q cv { t with heap := g3 } → wpAny (model X.prog X.w) (X.A.mark (some (.ref z))) (eval (.Name x p1) X.env) Q E { t with heap := g3 } := fun {Q E} q => by
      obtain ⟨hg, hdb, y | ⟨y, hv, hnn⟩⟩ := hc
      · exact ld_glob (X := X.suite z ((z, o3) :: (X.pn ++ pins))) S3 hg y q hdb
      · exact ld_blt (X := X.suite z ((z, o3) :: (X.pn ++ pins))) S3 hg y hv q hnn hdb
    refine test (LM.here ?_)
    cases b with
    | true =>
      refine codeAny_handlers_suite_as ?_
      refine HandSPX.lands_againZ fl fun g4 fl2 up4 => ?_
      have J4 : Inv X pins σ' G { t with heap := g4 } := J.landed nb fl2.1 ((up.trans up3).trans up4) os ag
      obtain ⟨o4, us4, e4, z4, d4⟩ := fl2.there
      have S4 := J4.suite e4 d4 nz zL zF
      refine store_ok (X := X.suite z ((z, o4) :: (X.pn ++ pins))) (v := .ref z) S4 hN hi (.inl hl) rfl (fun t5 S5 => ?_) (.inr hl)
      refine wpAny_mono ((hsu z o4 cl dd (X.pn ++ pins) z4 ⟨_, d4⟩).run [] t5 _ G _ S5 (yes rfl (by rw [J4.len]; exact (List.getElem?_eq_some_iff.mp hi).1) z nz)) (fun f t6 hsp => ?_) (fun _ _ y => y.elim)
      cases f with
      | next => obtain ⟨_, _, _, y⟩ := hsp; exact y.elim
      | brk => obtain ⟨_, _, _, y⟩ := hsp; exact y.elim
      | cont => obtain ⟨_, _, _, y⟩ := hsp; exact y.elim
      | ret u =>
        obtain ⟨v6, σ6, G6, S6, r6, q6⟩ := hsp
        refine gone_ok (suite_out S6 ok) hN hi hl fun t7 J7 => ?_
        obtain ⟨_, nz7, _⟩ := J7.pin (z, o4) (List.mem_append_right _ List.mem_cons_self)
        exact ⟨v6, _, _, track J7 new0 z4 d4 np, r6, q6 nz7⟩
    | false =>
      show wpAny _ X.A (handleBy (.ref z) X.env []) _ _ _
      refine wpAny_handleBy_nil ?_
      obtain ⟨k1, k2, k3, oe, vs, T, oT, tt, he, hz, hd, hv1, hr⟩ := id fl
      unfold PySem.passOn
      refine wpAny_bind (wpAny_field he hd hv1 ?_)
      rw [if_neg (show ¬ ((Value.ref T == Value.none) = true) from by simp)]
      have fin : wpAny (model X.prog X.w) X.A (setFlight (.ref z) X.env.frame) (fun _ t4 => wpAny (model X.prog X.w) X.A (throw (.ref z) : Sem Flow) (SP X pins D) X.xe t4) X.xe { t with heap := g3 } := by
        rw [h2]
        refine HandSPX.setFlight_upZ fl fun g4 hh4 up4 => wpAny_throw (tk _ _ ?_)
        exact ⟨z, B, sI, pins, σ', G, cl, dd, rfl, J, nb, (up.trans up3).trans up4, .inr (.inr (by rw [h1]; exact hh4)), nz, os, ag, no rfl⟩
      first
        | exact wpAny_bind (wpAny_pure (wpAny_bind fin))
        | exact wpAny_bind fin
  · cases f with
    | next => obtain ⟨σ', G, J, q⟩ := hsp; exact wpAny_execs_nil ⟨σ', G, J.ofTry ok, q⟩
    | brk => obtain ⟨σ', G, J, q⟩ := hsp; exact ⟨σ', G, J.ofTry ok, q⟩
    | cont => obtain ⟨σ', G, J, q⟩ := hsp; exact ⟨σ', G, J.ofTry ok, q⟩
    | ret u => obtain ⟨v, σ', G, J, r, q⟩ := hsp; exact ⟨v, σ', G, J.ofTry ok, r, q⟩
end
end WL

set_option Elab.async false
set_option linter.all false
set_option maxRecDepth 100000
set_option maxHeartbeats 8000000
namespace WL
open PySem PySem.Spec PyProof.Rows L2 Evl LamX
section
variable {X : Cx} {C : Addr}
theorem kept_inst {pins : List (Addr × Obj)} {σ : L2.St} {H : Hp} {s : Shared} {z dd : Addr} {fs : List (Str × V)} (I : Inv X pins σ H s) (hz : H z = some (exk z (.ref C) (some dd))) (hd : H dd = some (.xd fs)) :
    ∃ oz od, PySem.W.InstAt s.heap z oz C (some od) ∧ ∀ f v, fs.lookup f = some v → ∃ u, PySem.W.lookIn f od = some (some u) ∧ RelV v u := by
  obtain ⟨⟨oz, us, e1, e2, e3⟩, _, _⟩ := I.hok z _ hz
  have hx : ObjOk X.prog X.w H s.heap dd (.xd fs) := I.hok dd _ hd
  obtain ⟨mA, hns, hr⟩ := hx
  obtain ⟨od, ho, hl⟩ := lookIn_ns hns
  refine ⟨oz, od, ⟨e1, e2.1, by unfold PySem.W.notCls; rw [e3] <;> rfl, by rw [e2.2]; exact ho⟩, fun f v e => ?_⟩
  obtain ⟨u, hu, ru⟩ := RelO.some_of (v := v) (o := mA f) (by rw [← e]; exact hr f)
  exact ⟨u, by rw [hl, hu], ru⟩
def rIsK (C : Addr) : List V → Hp → VK → Prop := fun xs H Q => ∃ (z dd : Addr) (fs : List (Str × V)), xs = [.ref z, .ref C] ∧ H z = some (exk z (.ref C) (some dd)) ∧ H dd = some (.xd fs) ∧ Q (.bl true) H
theorem call_isK (E : ExcC X.K C) : CallR X (.builtin "isinstance") (rIsK C) := by
  intro pins s σ H xs us Q I r h
  obtain ⟨z, dd, fs, rfl, hz, hd, q⟩ := h
  cases r with
  | cons rx rr =>
    cases rr with
    | cons rt rr =>
      cases rr
      cases rx
      cases rt
      obtain ⟨oz, od, J, _⟩ := kept_inst I hz hd
      have hcl : (PySem.W.clsIn X.K C).isSome = true := by
        obtain ⟨cd, hc, _⟩ := PySem.W.any_some E.hd
        rw [hc]
        rfl
      exact PySem.W.kia_one (PySem.W.kitx_exc hcl E.hg E.hk E.hs E.ha E.hn E.ht E.hm) I.kIn J (if_pos (beq_self_eq_true _)) (fun y => nomatch y) fun tk => ⟨.bl true, H, I.kept (t' := tk) fun _ _ e => e, rfl, q⟩
def tXk (C : Addr) (f : Str) (te : TE) : TE := fun σ H Q => te σ H fun x H1 => ∃ (z dd : Addr) (fs : List (Str × V)) (v : V), x = .ref z ∧ H1 z = some (exk z (.ref C) (some dd)) ∧ H1 dd = some (.xd fs) ∧ fs.lookup f = some v ∧ Q v H1
theorem pe_xk {e : Expr} {te : TE} {pos : Pos} {n : Str} (T : XfC X.K C) (hno : PySem.W.findIn X.K (.ref C) n = some none) (he : PE X e te) (hb : attributeBase e n X.env (eval e X.env) = eval e X.env := by rfl) : PE X (.Attribute e n pos) (tXk C n te) := by
  refine ⟨fun pins s σ H Q I h => ?_⟩
  refine attr_of hb (thn (he.run pins s σ H _ I h) fun u s1 hh => ?_)
  obtain ⟨x, H1, I1, rx, z, dd, fs, v, ex, hz, hd, l, q⟩ := hh
  subst ex
  obtain rfl : u = Value.ref z := rx
  obtain ⟨oz, od, J, hl⟩ := kept_inst I1 hz hd
  obtain ⟨u, hu, ru⟩ := hl n v l
  exact HandSPX.exc_get I1.kIn J T.ga T.gg T.exC (PySem.W.findObj_own T.hdC hno rfl hu) (handed_of ru) ⟨v, H1, I1.tok _, ru, q⟩
end
section
variable {P : Program} {w : World} {K : PySem.W.Frag} {mg : Str → Option Value} {base : Heap}
def TCaught (K : PySem.W.Frag) (CS : Addr) : (XK → Hp → VK → Prop) → Hp → VK → Prop := fun tl H Q =>
  tl (fun cl dd G => ∃ b, PySem.W.exmOne K cl (.ref CS) = some b ∧ b = true ∧ ∀ z, G z = none → ∀ p G', Ex G G' → G' p = some (.tup [.ref z, .non]) → G' z = none → Q (.ref p) (upd G' z (exk z cl dd))) H
    fun v H' => ∀ p H'', Ex H' H'' → H'' p = some (.tup [.non, v]) → Q (.ref p) H''
abbrev nCa : List Str := ["call", "act", "caught"]
theorem scLawCaught : FnScope nCa ["call"] (defScope sLawCaught) := ⟨rfl, rfl, rfl, by decide +kernel, rfl, by decide +kernel, by decide +kernel⟩
theorem pe_weak {X : Cx} {e : Expr} {te : TE} (h : PE X e te) : PE X e (fun σ H Q => ∃ Q1 : VK, (∀ v H', Q1 v H' → Q v H') ∧ te σ H Q1) := ⟨fun pins s σ H Q I q => by
  obtain ⟨Q1, q1, q2⟩ := q
  refine wpAny_mono (h.run pins s σ H Q1 I q2) (fun u s1 hu => ?_) fun _ _ z => z
  obtain ⟨v, H1, I1, r, z⟩ := hu
  exact ⟨v, H1, I1, r, q1 v H1 z⟩⟩
theorem caught_gives {X : Cx} {g CS : Addr} {cdg : Value} {q : Str} (hme : X.mg "LoopError" = some (.ref CS)) : GivesTo X nCa "_law_caught" (defScope sLawCaught) g cdg (defBody sLawCaught) "call" q (TCaught X.K CS) := by
  intro f c' s H Q tl act hc h
  refine ⟨_, pss_cons (ps_try_keep (i := 2) (cv := .ref CS) (tb := fun W D σ H => ∃ Ech : XK, (∀ cls d σ' H', Ech cls d H' → W cls d σ' H') ∧ ∃ Q1 : VK, (∀ v H', Q1 v H' → D.nx (σ.set 1 (some v)) H') ∧ σ[0]? = some (some (.ref f)) ∧ H c' = some (CodeO c' q) ∧ tl Ech H Q1) rfl rfl rfl scLawCaught.nd rfl (by rfl) ⟨by rfl, by decide, .inl hme⟩ LamX.takes0 (fun W pn xe tk _ => ?_)
      (fun z oz cl dd pn _ _ => pss_one (ps_ret (pe_tup (pa_cons (pv 2) (pa_cons pe_non pa_nil)))))) (pss_one (ps_ret (pe_tup (pa_cons pe_non (pa_cons (pv 1) pa_nil))))), ?_⟩
  · refine ⟨fun pins s' σ H' D I h' => ?_⟩
    obtain ⟨Ech, hW, Q1, hQ, h1, h2, h3⟩ := h'
    exact (pss_one (ps_set (i := 1) scLawCaught.nd rfl (Or.inl rfl) (pe_weak (act W pn xe Ech _ _ tk hW)))).run pins s' σ H' D I ⟨Q1, hQ, h1, h2, h3⟩
  · refine ⟨_, fun cl dd σ' G hE => ?_, _, fun v G hv => ?_, rfl, hc, h⟩
    · obtain ⟨b, e1, rfl, e2⟩ := hE
      refine ⟨true, e1, fun _ hlt z hz => ?_, fun y => by cases y⟩
      have h2 : (σ'.set 2 (some (V.ref z)))[2]? = some (some (V.ref z)) := List.getElem?_set_self hlt
      exact s_retU (eu_tup (ea_cons (ev_var h2) (ea_cons ev_c ea_nil)) (show 2 ≤ 100000 by decide)) fun p G1 _ e g1 hz1 => e2 z hz p G1 e g1 hz1
    · exact s_retU (eu_tup (ea_cons ev_c (ea_cons (ev_var rfl) ea_nil)) (show 2 ≤ 100000 by decide)) fun p G1 _ e g1 => hv p G1 e g1
end
end WL

set_option Elab.async false
set_option linter.all false
set_option maxRecDepth 100000
set_option maxHeartbeats 8000000
namespace WL
open PySem PySem.Spec PyProof.Rows L2 LamX
theorem un_later {fs fs1 : List Addr} {H0 H H1 : Hp} {h0 h h1 : Heap} (a : Un fs [] H0 H h0 h) (b : Un fs1 [] H H1 h h1) (sub : ∀ x ∈ fs, x ∈ fs1) (new : ∀ x ∈ fs1, x ∉ fs → h0.get? x = none) : Un fs [] H0 H1 h0 h1 where
  keep := fun x o e n hx hex => by
    have k := a.keep x o e n hx hex
    exact b.keep x o k (a.free x o e n hex) (fun m => by have z := new x m hx; rw [e] at z; cases z) hex
  slot := fun x o e n hx hex => by
    obtain ⟨sl, k⟩ := a.slot x o e n hx hex
    obtain ⟨sl2, k2⟩ := b.slot x _ k (a.free x o e n hex) (sub x hx) hex
    exact ⟨sl2, k2⟩
  free := fun x o e n hex => by
    obtain ⟨o', k⟩ := a.there x o e hex
    exact b.free x o' k (a.free x o e n hex) hex
  there := fun x o e hex => by
    obtain ⟨o', k⟩ := a.there x o e hex
    exact b.there x o' k hex
  tups := fun x xs e => b.tups x xs (a.tups x xs e)
  frzs := fun x o u e => b.frzs x o u (a.frzs x o u e)
  tbls := fun x ps e => by
    obtain ⟨m, k⟩ := a.tbls x ps e
    obtain ⟨m2, k2⟩ := b.tbls x _ k
    exact ⟨m ++ m2, by rw [k2, Array.append_assoc]⟩
structure Thunk (P : Program) (w : World) (K : PySem.W.Frag) (mg : Str → Option Value) (base : Heap) (k : Nat) (f c' : Addr) (q : Str) (fs : List Addr) (H0 : Hp) (h0 : Heap) (tl : XK → Hp → VK → Prop) : Prop where
  go : ∀ (A : Around) (outer : List Env) (s1 : Shared) (HZ : Hp) (Q : VK) (E : XK), Room (k + 1) A → Env0 P w K mg base A outer s1 HZ → Un fs [] H0 HZ h0 s1.heap → HZ c' = some (CodeO c' q) → tl E HZ Q →
    codeAny (model P w) A (.call (.ref f) ⟨[], []⟩) (CR (L2.CX P w) outer P w HZ s1 Q E) s1
  obj : ∃ (fd : FuncData) (c : Value) (d : Option Addr) (sl : Array (Option Value)), ∀ (s1 : Shared) (HZ : Hp), Un fs [] H0 HZ h0 s1.heap → s1.heap.get? f = some ⟨c, d, .func fd, sl⟩
section
variable {X : Cx} {pins : List (Addr × Obj)} {σ : L2.St} {H : Hp} {s : Shared}
theorem thunk_of {f c' : Addr} {pm ctv : Value} {params : Arguments} {body : Expr} {scope : Scope} {k : Nat} {t : XK → TE}
    (I : Inv X pins σ H s) (hex : X.ex = []) (L : LamS X.env.scope scope) (hf : s.heap.get? f = some (PySem.W.kla_obj "<lambda>" (X.env.qual ++ "<lambda>") params body scope (cloFrom X.env.cells scope.names []) pm c' ctv)) (hfn : H f = none) (hfr : f ∉ frs X.stack)
    (hbind : bindArgs (PySem.W.kla_fn "<lambda>" (X.env.qual ++ "<lambda>") params body scope (cloFrom X.env.cells scope.names []) pm (.ref c') ctv) ⟨[], []⟩ = pure [])
    (hbody : ∀ (A : Around) (outer : List Env) (s : Shared) (H : Hp) (E : XK), Room k (A.deeper (lamEnv X scope s.heap.objs.size f c')) → PE (lamCx X A outer s H E scope f c') body (t E)) :
    Thunk X.prog X.w X.K X.mg X.base k f c' (X.env.qual ++ "<lambda>") (frs X.stack) H s.heap fun E HZ Q => t E σ HZ Q where
  go := fun A outer s1 HZ Q E hr e0 un hc ht => by
    have of1 := un.keep f _ hf hfn hfr (by simp)
    obtain ⟨⟨oc, vs, tk, hoc, hdc, hvc⟩, _, _⟩ := e0.hok c' _ hc
    refine PySem.W.kla_callFunE hr.depth of1 rfl L.co L.gen rfl ⟨c', oc, vs, tk, rfl, hoc, hdc, hvc⟩ ?_
    rw [hbind]
    have lim : s1.heap.NoLimit := e0.mod.nolimit.keeps fun b o e => (e0.bs b o e).1
    refine wpAny_pure (wpAny_newFunctionEnv (fun y hy => (L.own y hy).2) (fun y hy => absurd hy (by simp)) (fun h₁ hns hsb => ⟨lim.fresh _ hsb, ?_⟩) L.kind)
    show codeAny _ _ (.expr body (lamEnv X scope s1.heap.objs.size f c')) _ _
    have kp : ∀ b o, s1.heap.get? b = some o → h₁.get? b = some o := fun b o e => hsb.extBut b o (Nat.ne_of_lt (Heap.lt_size e)) (Heap.get?_push_of_some _ e)
    have J : Inv (lamCx X A outer s1 HZ E scope f c') [] σ HZ { s1 with heap := h₁, toks := s1.toks + ([] : List (Str × Value)).length } := lam_start2 I L e0 hr.hd un hns kp
    refine PySem.W.kla_codeExpr (wpAny_mono ((hbody A outer s1 HZ E (hr.deeper _)).run [] _ _ HZ Q J ht) (fun v s' hq => ?_) fun e s' hq => hq)
    obtain ⟨w', H', J', rv, q⟩ := hq
    exact ⟨w', H', J'.os, J'.bare, J'.base, J'.hok, rv, q⟩
  obj := ⟨_, _, _, _, fun s1 HZ un => un.keep f _ hf hfn hfr (by simp)⟩
end
end WL

set_option Elab.async false
set_option linter.all false
set_option maxRecDepth 100000
set_option maxHeartbeats 8000000
namespace WL
open PySem PySem.Spec PyProof.Rows L2 Evl LamX
abbrev TT := XK → Hp → VK → Prop
structure FnTh (P : Program) (w : World) (K : PySem.W.Frag) (mg : Str → Option Value) (base : Heap) (k kt : Nat) (f : Addr) (fd : FuncData) (ps : List Str) (sp : TT → Sp) : Prop where
  len : ∀ tl vs H Q E, sp tl vs H Q E → vs.length = ps.length
  run : ∀ (A : Around) (outer : List Env) (s : Shared) (H : Hp) (args : Args) (us : List Value) (vs : List V) (Q : VK) (fl c' : Addr) (q : Str) (fs : List Addr) (H0 : Hp) (h0 : Heap) (tl : TT), Room k A → A.guards = some [] → Env0 P w K mg base A outer s H → BindsTo s fd args (ps.zip us) → Vals (.ref fl :: vs) us →
    Thunk P w K mg base kt fl c' q fs H0 h0 tl → Un fs [] H0 H h0 s.heap → (∀ x ∈ fs, x ∈ frs outer) → (∀ x ∈ frs outer, x ∉ fs → h0.get? x = none) → H c' = some (CodeO c' q) → sp tl (.ref fl :: vs) H Q E0 → codeAny (model P w) A (.call (.ref f) args) (CR CX0 outer P w H s Q E0) s
section
variable {P : Program} {w : World} {K : PySem.W.Frag} {mg : Str → Option Value} {base : Heap}
theorem okTh {x qual : Str} {st : Stmt} {f : Addr} {fd : FuncData} {N ps : List Str} {k kt : Nat} {sp : TT → Sp} (F : Fun K x qual st f fd) (S : FnScope N ps (defScope st)) (len : ∀ tl vs H Q E, sp tl vs H Q E → vs.length = ps.length)
    (body : ∀ (cdv : Value) (A : Around) (outer : List Env) (s : Shared) (H : Hp) (vs : List V) (Q : VK) (fl c' : Addr) (q : Str) (fs : List Addr) (H0 : Hp) (h0 : Heap) (tl : TT), Room k (A.deeper (envOfC qual (defScope st) s.heap.objs.size f cdv)) → A.guards = some [] →
      Thunk P w K mg base kt fl c' q fs H0 h0 tl → Un fs [] H0 H h0 s.heap → (∀ x ∈ fs, x ∈ frs outer) → (∀ x ∈ frs outer, x ∉ fs → h0.get? x = none) → H c' = some (CodeO c' q) → sp tl (.ref fl :: vs) H Q E0 →
      ∃ t, PSs (cxOf CX0 P w K mg base N qual (defScope st) f cdv A outer s H E0).nox (defBody st) t ∧ t { nx := fun _ H' => Q .non H', rt := Q } (L2.start N (.ref fl :: vs)) H) : FnTh P w K mg base (k + 1) kt f fd ps sp := by
  obtain ⟨oc, od, kV, doc, pm, an, cdv, ct, osl, rfl, lk, hcd⟩ := F.ex
  refine ⟨len, fun A outer s H args us vs Q fl c' q fs H0 h0 tl room gu en bi va th un sub new hc hs => ?_⟩
  have keep := fun (b : Addr) (o : Obj) (e : base.get? b = some o) => (en.bs b o e).1
  have inK : K.In s.heap := en.mod.kin.keeps keep
  have kinds : ∀ y ∈ ps.zip us, (defScope st).names.lookup y.1 = some .local ∨ ((defScope st).names.lookup y.1 = some .cell ∧ ((cellsFrom (s.heap.objs.size + 1) (defScope st).names []).lookup y.1).isSome = true) := fun y hy =>
    (S.par y.1 (List.of_mem_zip (a := y.1) (b := y.2) hy).1).elim .inl fun q => .inr ⟨q, PySem.W.cellsFrom_some _ _ _ (.inl q)⟩
  refine codeAny_call_function room.depth (inK _ _ lk) rfl S.co S.gen rfl (PySem.W.codeRec_of inK hcd) (bi _ _ _ _ ?_)
  refine wpAny_newFunctionEnv_cells S.kind kinds fun env he s1 inn => ?_
  cases he
  refine ⟨(en.mod.nolimit.keeps keep).keeps inn.toInCall.keep, codeAny_func ?_⟩
  obtain ⟨t, ht, q⟩ := body cdv A outer s H vs Q fl c' q fs H0 h0 tl (room.deeper _) gu th un sub new hc hs
  have start_ := inv_start (CX := CX0) (P := P) (mg := mg) (base := base) (K := K) (w := w) (E := E0) S room.hd en (len tl _ _ _ _ hs) va inn
  refine wpAny_mono (ht.nox.run [] s1 (L2.start N (.ref fl :: vs)) H _ start_ q) (fun fl s' h => ?_) fun e s' h => h
  cases fl with
  | ret u =>
    obtain ⟨v, σ', H', J, rv, q'⟩ := h
    exact ⟨v, H', J.os, J.bare, J.base, J.hok, rv, q'⟩
  | next =>
    obtain ⟨σ', H', J, q'⟩ := h
    exact ⟨.non, H', J.os, J.bare, J.base, J.hok, rfl, q'⟩
  | brk => exact h.elim fun _ h => h.elim fun _ h => h.2.elim
  | cont => exact h.elim fun _ h => h.elim fun _ h => h.2.elim
end
section
variable {X : Cx} {k kt g fl c' : Addr} {q x a : Str} {fs : List Addr} {H0 : Hp} {h0 : Heap} {tl : TT} {p1 p2 p3 pos : Pos} {gd : FuncData}
structure Came (X : Cx) (fl c' : Addr) (q : Str) (kt : Nat) (fs : List Addr) (H0 : Hp) (h0 : Heap) (tl : TT) : Prop where
  th : Thunk X.prog X.w X.K X.mg X.base kt fl c' q fs H0 h0 tl
  un : ∀ pins σ H s, Inv X pins σ H s → Un fs [] H0 H h0 s.heap
  sub : ∀ x ∈ fs, x ∈ frs X.stack
  new : ∀ x ∈ frs X.stack, x ∉ fs → h0.get? x = none
theorem pe_came {W : WX} {E : XK} {i : Nat} {pn : List (Addr × Obj)} {xe : Value → Shared → Prop} (C : Came (X.tr pn xe) fl c' q kt fs H0 h0 tl) (hN : X.N[i]? = some a) (hv : Vis X.env.scope a) (tk : Takes (X.tr pn xe) W) (hW : ∀ cls d σ' H', E cls d H' → W cls d σ' H') (hr : Room (kt + 1) X.A)
    (hd : (a == ("__debug__" : Str)) = false := by decide) (hcd : (a == ("__classdict__" : Str)) = false := by decide) :
    PE (X.tr pn xe) (.Call (.Name a p1) [] [] p2) (fun σ H Q => σ[i]? = some (some (.ref fl)) ∧ H c' = some (CodeO c' q) ∧ tl E H Q) := by
  refine ⟨fun pins s σ H Q I h => ?_⟩
  obtain ⟨hs, hc, ht⟩ := h
  refine wpAny_Call_Name_kw (thn ((pe_var (pos := p1) (i := i) (X := X.tr pn xe) hN hv hd hcd).run pins s σ H (fun v H1 => v = .ref fl ∧ H1 = H) I ⟨.ref fl, hs, rfl, rfl⟩) fun u s1 ⟨v, H1, I1, r1, q1⟩ => ?_)
  obtain ⟨ev, eH⟩ := q1
  subst ev
  rw [eH] at I1
  obtain rfl : u = Value.ref fl := r1
  have un1 := C.un _ _ _ _ I1
  obtain ⟨fd, c, d, sl, of1⟩ := C.th.obj
  refine PySem.W.callWith_F0 ⟨_, _, _, _, of1 s1 H un1⟩ ?_
  have hx := passes_call tk hW
  refine wpAny_call (codeAny_mono (C.th.go X.A X.stack s1 H Q E hr I1.env0 un1 hc ht) fun r s' hq => ?_)
  cases r with
  | error e => exact hx pins σ H s1 e s' I1 hq
  | ok fl =>
    cases fl with
    | ret u => exact I1.after hq
    | next => exact False.elim hq
    | brk => exact False.elim hq
    | cont => exact False.elim hq
end
end WL

set_option Elab.async false
set_option linter.all false
set_option maxRecDepth 100000
set_option maxHeartbeats 8000000
namespace WL
open PySem PySem.Spec PyProof.Rows L2 Evl LamX
section
variable {X : Cx} {k kt g fl c' : Addr} {q x a : Str} {fs : List Addr} {H0 : Hp} {h0 : Heap} {tl : TT} {p p1 p2 p3 pos : Pos} {gd : FuncData} {ps : List Str} {sp : TT → Sp} {e : Expr} {es : List Expr} {ta : TA}
theorem pe_callTh (F : FnTh X.prog X.w X.K X.mg X.base k kt g gd ps sp) (C : Came X fl c' q kt fs H0 h0 tl) (hr : Room k X.A) (gu : X.A.guards = some []) (hg : Gl X x) (hm : X.mg x = some (.ref g)) (hk : PySem.W.keepIn X.K (.ref g) = true) (hb : Binds X.K gd ps [])
    (ha : PA X (e :: es) ta) (hdb : (x == ("__debug__" : Str)) = false := by decide) (he : starEach (e :: es) X.env = (false, eval e X.env) :: starEach es X.env := by rfl) (hpl : (backTo pos (starEach es X.env)).any (·.1) = false := by rfl) :
    PE X (.Call (.Name x p) (e :: es) [] pos) (fun σ H Q => ta σ H fun vs H1 => ∃ ws, vs = .ref fl :: ws ∧ H1 c' = some (CodeO c' q) ∧ sp tl vs H1 Q E0) := by
  refine ⟨fun pins s σ H Q I h => wpAny_Call_Name_kw (ld_glob I hg hm (PySem.W.callWith_K (h₀ := X.base) I.ok.mod.kin hk (thn (ha.run pos pins s σ H _ I h) fun us s1 ⟨vs, H1, I1, r, ws, ev, hc, hsp⟩ => ⟨I1.kIn, ?_⟩) he hpl) hdb)⟩
  subst ev
  have ln : (us ++ []).length = ps.length := by rw [List.append_nil, ← r.length]; exact F.len _ _ _ _ _ hsp
  have bi := hb s1 us I1.kIn ln
  rw [List.append_nil] at bi
  refine wpAny_call (codeAny_mono (F.run X.A X.stack s1 H1 ⟨us, []⟩ us ws Q fl c' q fs H0 h0 tl hr gu I1.env0 bi r C.th (C.un _ _ _ _ I1) C.sub C.new hc hsp) fun res s' hq => ?_)
  match res, hq with
  | .error e, hq => exact hq.elim
  | .ok (.ret u), hq => exact I1.after hq
  | .ok .next, hq => exact hq.elim
  | .ok .brk, hq => exact hq.elim
  | .ok .cont, hq => exact hq.elim
theorem less_pin {pins : List (Addr × Obj)} {pn : Addr × Obj} {σ : L2.St} {H : Hp} {s : Shared} (I : Inv X (pn :: pins) σ H s) : Inv X pins σ H s where
  ok := I.ok
  os := I.os
  bare := I.bare
  base := I.base
  loc := I.loc
  cell := I.cell
  free := I.free
  freeC := I.freeC
  pin := fun q hq => I.pin q (by
    rcases List.mem_append.mp hq with m | m
    · exact List.mem_append_left _ m
    · exact List.mem_append_right _ (List.mem_cons_of_mem _ m))
  hok := I.hok
  len := I.len
theorem more_pin {pins : List (Addr × Obj)} {f : Addr} {o : Obj} {σ : L2.St} {H : Hp} {s : Shared} (I : Inv X pins σ H s) (hf : s.heap.get? f = some o) (hn : H f = none) (hL : f ≠ X.env.locals) (hF : f ∉ X.fs) (hc : ∀ v, o.data ≠ .cell v) : Inv X ((f, o) :: pins) σ H s where
  ok := I.ok
  os := I.os
  bare := I.bare
  base := I.base
  loc := I.loc
  cell := I.cell
  free := I.free
  freeC := I.freeC
  pin := fun q hq => by
    rcases List.mem_append.mp hq with m | m
    · exact I.pin q (List.mem_append_left _ m)
    · rcases List.mem_cons.mp m with z | z
      · rw [z]; exact ⟨hf, hn, hL, hF, hc⟩
      · exact I.pin q (List.mem_append_right _ z)
  hok := I.hok
  len := I.len
def tLamTh (T : List (Addr × Str)) (nm : Str) (sp : TT → Sp) (t : XK → TE) (ta : TA) : TE := fun σ H Q => Tabs T H ∧ ∀ H1, ExtN H H1 → Tabs T H1 → ∀ c', H1 c' = some (CodeO c' nm) → ta σ H1 fun vs H2 => H2 c' = some (CodeO c' nm) ∧ ∀ fl, sp (fun E H' Q' => t E σ H' Q') (.ref fl :: vs) H2 Q E0
theorem pe_lamTh {T : List (Addr × Str)} {nm : Str} {c Pt : Addr} {params : Arguments} {body : Expr} {scope : Scope} {t : XK → TE} {lpos : Pos} (F : FnTh X.prog X.w X.K X.mg X.base k kt g gd ps sp) (hx : X.ex = []) (hstk : X.stack = X.env :: X.outer) (hr : Room k X.A) (gu : X.A.guards = some []) (hg : Gl X x) (hm : X.mg x = some (.ref g)) (hk : PySem.W.keepIn X.K (.ref g) = true) (hb : Binds X.K gd ps [])
    (TB : TabB X.base X.mg c Pt) (hcode : X.env.code = .ref c) (hnm : X.env.qual ++ "<lambda>" = nm) (hmT : (Pt, nm) ∈ T) (hu : ∀ p ∈ T, p.1 = Pt → p.2 = nm) (L : LamS X.env.scope scope) (hdef : defaultsOf params X.env = ([], []))
    (hbind : ∀ (q : Str) (cl : List (Str × Addr)) (pm cv ctv : Value), bindArgs (PySem.W.kla_fn "<lambda>" q params body scope cl pm cv ctv) ⟨[], []⟩ = pure [])
    (hbody : ∀ (A : Around) (outer : List Env) (s : Shared) (H : Hp) (E : XK) (f c' : Addr), Room kt (A.deeper (lamEnv X scope s.heap.objs.size f c')) → PE (lamCx X A outer s H E scope f c') body (t E))
    (ha : PA X es ta) (hdb : (x == ("__debug__" : Str)) = false := by decide) (hfr0 : frs X.stack = X.env.locals :: X.fs := by rfl)
    (he : starEach (.Lambda params body scope lpos :: es) X.env = (false, eval (.Lambda params body scope lpos) X.env) :: starEach es X.env := by rfl) (hpl : (backTo pos (starEach es X.env)).any (·.1) = false := by rfl) :
    PE X (.Call (.Name x p) (.Lambda params body scope lpos :: es) [] pos) (tLamTh T nm sp t ta) := by
  subst hnm
  refine ⟨fun pins s σ H Q I h => ?_⟩
  obtain ⟨hT, h⟩ := h
  refine wpAny_Call_Name_kw (ld_glob I hg hm ?_ hdb)
  refine PySem.W.callWith_K (h₀ := X.base) I.ok.mod.kin hk ?_ he hpl
  rw [he]
  show wpAny _ _ (spliced ((false, eval (.Lambda params body scope lpos) X.env) :: backTo pos (starEach es X.env))) _ _ s
  refine Calls.spliced_cons (lam_make2 I TB hcode hmT hu hT hdef (L.has I.ok) fun f c' pm ctv H1 s1 I1 eN T1 hf hfn hfr hco => ?_)
  have fL : f ≠ X.env.locals := fun z => hfr (by rw [hfr0, z]; exact List.mem_cons_self)
  have fF : f ∉ X.fs := fun z => hfr (by rw [hfr0]; exact List.mem_cons_of_mem _ z)
  have I1p := more_pin I1 hf hfn fL fF fun v z => by cases z
  refine thn (ha.run pos _ s1 σ H1 _ I1p (h H1 eN T1 c' hco)) fun us s2 ⟨vs, H2, I2, r2, hc2, hsp⟩ => ⟨I2.kIn, ?_⟩
  obtain ⟨hf2, hfn2, _⟩ := I2.pin (f, _) (List.mem_append_right _ List.mem_cons_self)
  have I3 := less_pin I2
  have th := thunk_of (k := kt) I3 hx L hf2 hfn2 hfr (hbind _ _ _ _ _) fun A outer s H E hr2 => hbody A outer s H E f c' hr2
  have hq := hsp f
  have rr : Vals (V.ref f :: vs) (Value.ref f :: us) := .cons rfl r2
  have ln : (Value.ref f :: us).length = ps.length := by rw [← rr.length]; exact F.len _ _ _ _ _ hq
  have bi := hb s2 (Value.ref f :: us) I3.kIn (by rw [List.append_nil]; exact ln)
  rw [List.append_nil] at bi
  refine wpAny_call (codeAny_mono (F.run X.A X.stack s2 H2 ⟨Value.ref f :: us, []⟩ (Value.ref f :: us) vs Q f c' _ (frs X.stack) H2 s2.heap _ hr gu I3.env0 bi rr th Un.refl (fun x hx => hx) (fun x hx n => absurd hx n) hc2 hq) fun res s' hq => ?_)
  match res, hq with
  | .error e, hq => exact hq.elim
  | .ok (.ret u), hq => exact I3.after hq
  | .ok .next, hq => exact hq.elim
  | .ok .brk, hq => exact hq.elim
  | .ok .cont, hq => exact hq.elim
end
end WL

set_option Elab.async false
set_option linter.all false
set_option maxRecDepth 100000
set_option maxHeartbeats 8000000
namespace WL
open PySem PySem.Spec PyProof.Rows L2 Evl LamX
def EvD (te : TE) (σ : L2.St) (H : Hp) (d : PyData) : Prop := ∀ H1, Ex H H1 → ∀ Q : VK, (∀ v H2, Ex H1 H2 → Odd H2 v d → Q v H2) → te σ H1 Q
def EvDs (ta : TA) (σ : L2.St) (H : Hp) (ds : List PyData) : Prop := ∀ H1, Ex H H1 → ∀ Q : List V → Hp → Prop, (∀ vs H2, Ex H1 H2 → OddAll H2 vs ds → Q vs H2) → ta σ H1 Q
section
variable {σ : L2.St} {H : Hp} {te tb : TE} {ta : TA} {d : PyData} {ds : List PyData}
theorem ed_ev {v : V} (h : Ev te σ H v) (o : ∀ H', Ex H H' → Odd H' v d) : EvD te σ H d := fun H1 e Q q => h H1 e _ fun H2 e2 => q v H2 e2 (o H2 (e.trans e2))
theorem ed_str {x : Str} (hx : x.length ≤ 20000) : EvD (tC (.str x)) σ H (.str x) := ed_ev ev_c fun _ _ => .str x hx
theorem ed_int {i : Int} : EvD (tC (.int i)) σ H (.int i) := ed_ev ev_c fun _ _ => .int i
theorem ed_bl {b : Bool} : EvD (tC (.bl b)) σ H (.bool b) := ed_ev ev_c fun _ _ => .bl b
theorem ed_non : EvD (tC .non) σ H .none := ed_ev ev_c fun _ _ => .non
theorem ed_bool {b : Bool} (h : Ev te σ H (.bl b)) : EvD te σ H (.bool b) := ed_ev h fun _ _ => .bl b
theorem ed_var {i : Nat} {v : V} (h : σ[i]? = some (some v)) (o : Odd H v d) : EvD (tVar i) σ H d := ed_ev (ev_var h) fun _ e => o.up e
theorem eds_nil : EvDs tNil σ H [] := fun H1 e Q q => q [] H1 (Ex.refl H1) .nil
theorem eds_cons (h : EvD te σ H d) (r : EvDs ta σ H ds) : EvDs (tCons te ta) σ H (d :: ds) := fun H1 e Q q => h H1 e _ fun v H2 e2 o => r H2 (e.trans e2) _ fun vs H3 e3 os => q (v :: vs) H3 (e2.trans e3) (.cons (o.up e3) os)
theorem ed_tup (h : EvDs ta σ H ds) (hz : ds.length ≤ 1000) : EvD (tTup ta) σ H (.tuple ds) := fun H1 e Q q => h H1 e _ fun vs H2 e2 os => ⟨by rw [os.len]; exact Nat.le_trans hz (by rw [sizeLine_eq]; decide), fun p hp => q _ _ (e2.trans (Ex.new hp)) (.tup upd_same (by rw [os.len]; exact hz) (os.up (Ex.new hp)))⟩
theorem ed_lst (h : EvDs ta σ H ds) (hz : ds.length ≤ 1000) : EvD (tLst ta) σ H (.list ds) := fun H1 e Q q => h H1 e _ fun vs H2 e2 os => ⟨by rw [os.len]; exact Nat.le_trans hz (by rw [sizeLine_eq]; decide), fun p hp => q _ _ (e2.trans (Ex.new hp)) (.lst upd_same (by rw [os.len]; exact hz) (os.up (Ex.new hp)))⟩
theorem ed_dict : EvD tDNewK σ H (.dict []) := fun H1 e Q q p hp => q _ _ (Ex.new hp) (.dic upd_same)
theorem Odd.list_inv {v : V} {ds : List PyData} (h : Odd H v (.list ds)) : ∃ a xs, v = .ref a ∧ H a = some (.lst xs) ∧ xs.length ≤ 1000 ∧ OddAll H xs ds := by
  cases h with | lst h hz r => exact ⟨_, _, rfl, h, hz, r⟩
theorem Odd.tuple_inv {v : V} {ds : List PyData} (h : Odd H v (.tuple ds)) : ∃ a xs, v = .ref a ∧ H a = some (.tup xs) ∧ xs.length ≤ 1000 ∧ OddAll H xs ds := by
  cases h with | tup h hz r => exact ⟨_, _, rfl, h, hz, r⟩
theorem OddAll.app {xs ys : List V} {ds es : List PyData} (h : OddAll H xs ds) (k : OddAll H ys es) : OddAll H (xs ++ ys) (ds ++ es) := by
  induction xs generalizing ds with
  | nil => cases h; exact k
  | cons x xs ih => cases h with | cons h r => exact .cons h (ih r)
theorem ed_cat {xs ys : List PyData} (ha : EvD te σ H (.list xs)) (hb : EvD tb σ H (.list ys)) (hz : xs.length + ys.length ≤ 1000) : EvD (tOp rCat te tb) σ H (.list (xs ++ ys)) := fun H1 e Q q => ha H1 e _ fun v H2 e2 o1 => hb H2 (e.trans e2) _ fun u H3 e3 o2 => by
  obtain ⟨l, vs, rfl, hl, zl, al⟩ := o1.list_inv
  obtain ⟨r, us, rfl, hr, zr, ar⟩ := o2.list_inv
  have z : (vs ++ us).length ≤ 1000 := by rw [List.length_append, al.len, ar.len]; exact hz
  exact ⟨l, r, vs, us, rfl, rfl, e3 _ _ hl, hr, by have := sizeLine_eq; rw [List.length_append] at z; omega, fun t ht => q _ _ ((e2.trans e3).trans (Ex.new ht)) (.lst upd_same z (((al.up e3).app ar).up (Ex.new ht)))⟩
end
section
variable {X : Cx}
def rIsK2 (K : PySem.W.Frag) : List V → Hp → VK → Prop := fun xs H Q => ∃ (z dd C D : Addr) (fs : List (Str × V)) (b : Bool), xs = [.ref z, .ref D] ∧ ExcC K C ∧ PySem.W.kitOne K (.ref C) (.ref D) = some b ∧ H z = some (exk z (.ref C) (some dd)) ∧ H dd = some (.xd fs) ∧ Q (.bl b) H
theorem call_isK2 : CallR X (.builtin "isinstance") (rIsK2 X.K) := by
  intro pins s σ H xs us Q I r h
  obtain ⟨z, dd, C, D, fs, b, rfl, E, kk, hz, hd, q⟩ := h
  cases r with
  | cons rx rr =>
    cases rr with
    | cons rt rr =>
      cases rr
      cases rx
      cases rt
      obtain ⟨oz, od, J, _⟩ := kept_inst I hz hd
      have hcl : (PySem.W.clsIn X.K C).isSome = true := by
        obtain ⟨cd, hc, _⟩ := PySem.W.any_some E.hd
        rw [hc]
        rfl
      exact PySem.W.kia_one (PySem.W.kitx_exc hcl E.hg E.hk E.hs E.ha E.hn E.ht E.hm) I.kIn J kk (fun y => nomatch y) fun tk => ⟨.bl b, H, I.kept (t' := tk) fun _ _ e => e, rfl, q⟩
def tXk2 (K : PySem.W.Frag) (n : Str) (te : TE) : TE := fun σ H Q => te σ H fun x H1 => ∃ (z dd C : Addr) (fs : List (Str × V)) (v : V), x = .ref z ∧ XfC K C ∧ PySem.W.findIn K (.ref C) n = some none ∧ H1 z = some (exk z (.ref C) (some dd)) ∧ H1 dd = some (.xd fs) ∧ fs.lookup n = some v ∧ Q v H1
theorem pe_xk2 {e : Expr} {te : TE} {pos : Pos} {n : Str} (he : PE X e te) (hb : attributeBase e n X.env (eval e X.env) = eval e X.env := by rfl) : PE X (.Attribute e n pos) (tXk2 X.K n te) := by
  refine ⟨fun pins s σ H Q I h => ?_⟩
  refine attr_of hb (thn (he.run pins s σ H _ I h) fun u s1 hh => ?_)
  obtain ⟨x, H1, I1, rx, z, dd, C, fs, v, ex, T, hno, hz, hd, l, q⟩ := hh
  subst ex
  obtain rfl : u = Value.ref z := rx
  obtain ⟨oz, od, J, hl⟩ := kept_inst I1 hz hd
  obtain ⟨u, hu, ru⟩ := hl n v l
  exact HandSPX.exc_get I1.kIn J T.ga T.gg T.exC (PySem.W.findObj_own T.hdC hno rfl hu) (handed_of ru) ⟨v, H1, I1.tok _, ru, q⟩
end
end WL

set_option Elab.async false
set_option linter.all false
set_option maxRecDepth 100000
set_option maxHeartbeats 8000000
namespace WL
open PySem PySem.Spec PyProof.Rows L2 Evl LamX
def errWords : List Str := ["head", "tables", "changed", "question", "none"]
structure ErrX (K : PySem.W.Frag) (CS : Addr) (Cs : List Addr) (i : Nat) (C : Addr) : Prop where
  sub : PySem.W.exmOne K (.ref C) (.ref CS) = some true
  ex : ExcC K C
  xf : XfC K C
  nV : PySem.W.findIn K (.ref C) "value" = some none
  is : Cs.length = 5 ∧ i < 5 ∧ ∀ j D, Cs[j]? = some D → PySem.W.kitOne K (.ref C) (.ref D) = some (decide (j = i))
section
variable {P : Program} {w : World} {K : PySem.W.Frag} {mg : Str → Option Value} {base : Heap}
abbrev nWo : List Str := ["error", "kinds", "found", "word", "is_so"]
theorem scLawWord : FnScope nWo ["error"] (defScope sLawWord) := ⟨rfl, rfl, rfl, by decide +kernel, rfl, by decide +kernel, by decide +kernel⟩
def spWord (K : PySem.W.Frag) (CS : Addr) (Cs : List Addr) : Sp := fun vs H Q _ => ∃ (z dd C : Addr) (fs : List (Str × V)) (i : Nat) (x : Str), vs = [.ref z] ∧ ErrX K CS Cs i C ∧ errWords[i]? = some x ∧ H z = some (exk z (.ref C) (some dd)) ∧ H dd = some (.xd fs) ∧ RetV (.str x) H Q
theorem ev_isK2 {σ : L2.St} {H : Hp} {ta : TE} {CS C D z dd : Addr} {Cs : List Addr} {i j : Nat} {fs : List (Str × V)} (ha : Ev ta σ H (.ref z)) (X : ErrX K CS Cs i C) (hj : Cs[j]? = some D) (hz : H z = some (exk z (.ref C) (some dd))) (hd : H dd = some (.xd fs)) :
    Ev (tCB (rIsK2 K) (tCons ta (tCons (tC (.ref D)) tNil))) σ H (.bl (decide (j = i))) :=
  ev_cb (ea_cons ha (ea_cons ev_c ea_nil)) fun H1 e Q q => ⟨z, dd, C, D, fs, _, rfl, X.ex, X.is.2.2 j D hj, e _ _ hz, e _ _ hd, q H1 (Ex.refl H1)⟩
theorem word_pair {H : Hp} {v : V} {x : Str} {b : Bool} (h : Odd H v (.tuple [.str x, .bool b])) : ∃ a, v = .ref a ∧ H a = some (.tup [.str x, .bl b]) := by
  obtain ⟨a, xs, rfl, h, _, r⟩ := h.tuple_inv
  cases r with
  | cons h1 r =>
    cases r with
    | cons h2 r =>
      cases r
      cases h1
      cases h2
      exact ⟨a, rfl, h⟩
theorem pairs_of {H : Hp} : ∀ {ps : List (Str × Bool)} {vs : List V}, OddAll H vs (ps.map fun p => .tuple [.str p.1, .bool p.2]) → ∃ as : List (Addr × Str × Bool), vs = as.map (fun t => V.ref t.1) ∧ as.map (·.2) = ps ∧ ∀ t ∈ as, H t.1 = some (.tup [.str t.2.1, .bl t.2.2])
  | [], [], _ => ⟨[], rfl, rfl, fun _ h => by cases h⟩
  | p :: ps, v :: vs, h => by
    cases h with
    | cons h r =>
      obtain ⟨a, rfl, ha⟩ := word_pair h
      obtain ⟨as, e1, e2, e3⟩ := pairs_of r
      refine ⟨(a, p.1, p.2) :: as, by rw [e1]; rfl, by rw [List.map_cons, e2], fun t ht => ?_⟩
      rcases List.mem_cons.mp ht with z | z
      · rw [z]; exact ha
      · exact e3 t z
end
end WL

set_option Elab.async false
set_option linter.all false
set_option maxRecDepth 100000
set_option maxHeartbeats 400000
namespace WL
open PySem PySem.Spec PyProof.Rows L2 Evl LamX
section
variable {P : Program} {w : World} {K : PySem.W.Frag} {mg : Str → Option Value} {base : Heap}
theorem q_setD {te : TE} {u : TS} {D : Ends} {σ : L2.St} {H : Hp} {d : PyData} {i : Nat} (h : EvD te σ H d) (k : ∀ v H1, Ex H H1 → Odd H1 v d → u D (σ.set i (some v)) H1) : tSeq (tAsg te (gName i)) u D σ H := h H (Ex.refl H) _ k
theorem q_setL {te : TE} {u : TS} {D : Ends} {σ : L2.St} {H : Hp} {xs : List V} {i : Nat} (h : EvL te σ H xs) (k : ∀ p H1, H p = none → Ex H H1 → H1 p = some (.lst xs) → u D (σ.set i (some (.ref p))) H1) : tSeq (tAsg te (gName i)) u D σ H := h H (Ex.refl H) _ k
theorem el_lcD {α : Type} {σ : L2.St} {H : Hp} {te tv : TE} {t : L2.TT} {g : TG} {vs : List Nat} {d : List PyData} {ys : List V} (h : EvD te σ H (.list d))
    (k : ∀ a xs H1, Ex H H1 → H1 a = some (.lst xs) → xs.length ≤ 1000 → OddAll H1 xs d → EvL (tLc (iList K (tC (.ref a))) g t tv vs) σ H1 ys) : EvL (tLc (iList K te) g t tv vs) σ H ys := fun H1 e Q q => h H1 e _ fun v H2 e2 o => by
  obtain ⟨a, xs, rfl, hl, hz, r⟩ := o.list_inv
  exact k a xs H2 (e.trans e2) hl hz r H2 (Ex.refl H2) Q fun p H3 hp e3 h3 => q p H3 (fresh_back e2 hp) (e2.trans e3) h3
abbrev tPr (K : PySem.W.Frag) (x : Str) (D : Addr) : TE := tTup (tCons (tC (.str x)) (tCons (tCB (rIsK2 K) (tCons (tVar 0) (tCons (tC (.ref D)) tNil))) tNil))
theorem ed_pr {σ : L2.St} {H : Hp} {CS C D z dd : Addr} {Cs : List Addr} {i j : Nat} {fs : List (Str × V)} {x : Str} (s0 : σ[0]? = some (some (.ref z))) (X : ErrX K CS Cs i C) (hj : Cs[j]? = some D) (hz : H z = some (exk z (.ref C) (some dd))) (hd : H dd = some (.xd fs)) (hx : x.length ≤ 20000) : EvD (tPr K x D) σ H (.tuple [.str x, .bool (decide (j = i))]) :=
  ed_tup (eds_cons (ed_str hx) (eds_cons (ed_bool (ev_isK2 (ev_var s0) X hj hz hd)) eds_nil)) (show 2 ≤ 1000 by decide)
theorem found_of {σ : L2.St} {H : Hp} {v z : V} {a : Addr} {xs : List V} {ps : List (Str × Bool)} {x : Str} (hs : σ = [some z, some v, none, none, none]) (h2 : H a = some (.lst xs)) (z2 : xs.length ≤ 1000) (r2 : OddAll H xs (ps.map fun p => .tuple [.str p.1, .bool p.2])) (hx : (ps.filter (·.2)).map (·.1) = [x]) :
    EvL (tLc (iList K (tC (.ref a))) (gTup K 2 (gCons (gName 3) (gCons (gName 4) gNil))) (tB (tVar 4)) (tVar 3) [3, 4]) σ H [V.str x] := by
  subst hs
  obtain ⟨as, x1, x2, x3⟩ := pairs_of r2
  have lst2 : SqL K H a (as.map fun t => V.ref t.1) := x1 ▸ sq_of h2
  have hl : as.length ≤ 40000 := by rw [x1, List.length_map] at z2; omega
  have q := el_lcG (σ := [some z, some v, none, none, none]) (H := H) (as := as) (c := fun t => V.ref t.1) (vs := [3, 4]) (t := tB (tVar 4)) (tv := tVar 3) (wi := iList K (tC (.ref a))) (g := gTup K 2 (gCons (gName 3) (gCons (gName 4) gNil)))
    (fun t => [some z, some v, none, some (V.str t.2.1), some (V.bl t.2.2)]) (fun t => t.2.2) (fun t => .str t.2.1) (wi_list ev_c lst2) walk_listA (fun H3 e3 => ex_l e3 lst2) hl
    (fun t ht H3 e3 R r => g_pair (st_of (e3 _ _ (x3 t ht))) r) (fun _ _ => rfl) (fun t ht H3 e3 => et_B (ev_var rfl)) (fun t ht H3 e3 _ => ev_var rfl)
  have fl : (as.filter fun t => t.2.2).map (fun t => V.str t.2.1) = [V.str x] := by
    have y : (as.filter fun t => t.2.2).map (fun t => V.str t.2.1) = (((as.map (·.2)).filter (·.2)).map (·.1)).map V.str := by
      rw [List.filter_map, List.map_map, List.map_map]
      rfl
    rw [y, x2, hx]
    rfl
  rw [fl] at q
  exact q
theorem ev_ifT {σ : L2.St} {H : Hp} {t : L2.TT} {ta tb : TE} {v : V} (h : EvT t σ H true) (h1 : Ev ta σ H v) : Ev (tIf t ta tb) σ H v := fun H1 e Q q => h H1 e _ fun H2 e2 => h1 H2 (e.trans e2) Q (fun H3 e3 => q H3 (e2.trans e3))
theorem word_is {i : Nat} {x : Str} (hx : errWords[i]? = some x) : (([("head", decide (0 = i)), ("tables", decide (1 = i)), ("changed", decide (2 = i)), ("question", decide (3 = i)), ("none", decide (4 = i))] : List (Str × Bool)).filter (·.2)).map (·.1) = [x] := by
  have hi : i < 5 := (List.getElem?_eq_some_iff.mp hx).1
  have c : i = 0 ∨ i = 1 ∨ i = 2 ∨ i = 3 ∨ i = 4 := by omega
  rcases c with rfl | rfl | rfl | rfl | rfl <;> (cases hx; rfl)
theorem ev_neOne {σ : L2.St} {H : Hp} {ta : TE} {a : Addr} {x : Str} (h : Ev ta σ H (.ref a)) (hs : H a = some (.lst [V.str x])) (hp : SeqAt.shaped (.list [.str x]) = true) : Ev (tOp (rNeD K) ta (tLst tNil)) σ H (.bl true) := fun H1 e Q q =>
  h H1 e _ fun H2 e2 => ⟨Nat.zero_le _, fun p hp' => ⟨.list [.str x], .list [], .lst (sq_of ((e2.trans (Ex.new hp')) _ _ (e _ _ hs))) (.cons (.str x) .nil), .lst (sq_of upd_same) .nil, hp, by decide, q _ (e2.trans (Ex.new hp'))⟩⟩
theorem word_shaped {i : Nat} {x : Str} (hx : errWords[i]? = some x) : SeqAt.shaped (.list [.str x]) = true ∧ x.length ≤ 20000 := by
  have hi : i < 5 := (List.getElem?_eq_some_iff.mp hx).1
  have c : i = 0 ∨ i = 1 ∨ i = 2 ∨ i = 3 ∨ i = 4 := by omega
  rcases c with rfl | rfl | rfl | rfl | rfl <;> (cases hx; decide +kernel)
theorem ok_word {f CS c0 c1 c2 c3 c4 : Addr} {fd : FuncData} (F : Fun K "_law_word" "_law_word" sLawWord f fd) (T : TL mg) (m0 : mg "BadHead" = some (.ref c0)) (m1 : mg "BadTables" = some (.ref c1)) (m2 : mg "BadChanged" = some (.ref c2)) (m3 : mg "BadQuestion" = some (.ref c3)) (m4 : mg "NoQuestion" = some (.ref c4)) :
    FnOk P w K mg base CX0 1 f fd ["error"] (spWord K CS [c0, c1, c2, c3, c4]) := by
  refine F.ok scLawWord (fun vs H Q E h => ?_) (fun cdv A outer s H vs Q E hr h => ?_)
  · obtain ⟨z, dd, C, fs, i, x, rfl, _⟩ := h
    rfl
  · obtain ⟨z, dd, C, fs, i, x, rfl, EX, hx, hz, hd, k⟩ := h
    refine ⟨_, pss_cons (ps_set (i := 1) scLawWord.nd rfl (Or.inl rfl) (pe_lst (pa_cons (pe_tup (pa_cons pe_str (pa_cons (pe_callB call_isK2 (by rfl) T.isi (by decide +kernel) (pa_cons (pv 0) (pa_cons (pe_glob (v := .ref c0) rfl m0 rfl) pa_nil))) pa_nil)))
        (pa_cons (pe_tup (pa_cons pe_str (pa_cons (pe_callB call_isK2 (by rfl) T.isi (by decide +kernel) (pa_cons (pv 0) (pa_cons (pe_glob (v := .ref c1) rfl m1 rfl) pa_nil))) pa_nil)))
        (pa_cons (pe_tup (pa_cons pe_str (pa_cons (pe_callB call_isK2 (by rfl) T.isi (by decide +kernel) (pa_cons (pv 0) (pa_cons (pe_glob (v := .ref c2) rfl m2 rfl) pa_nil))) pa_nil))) pa_nil)))))
      (pss_cons (ps_setLc (i := 2) (y := "found") (own := [("word", 3), ("is_so", 4)]) (g := gTup K 2 (gCons (gName 3) (gCons (gName 4) gNil))) (tt := tB (tVar 4)) (by rfl) scLawWord.nd rfl rfl (sw_true rfl rfl rfl (by decide +kernel)) (pi_list (pe_op op_cat (pv 1) (pe_lst (pa_cons (pe_tup (pa_cons pe_str (pa_cons (pe_callB call_isK2 (by rfl) T.isi (by decide +kernel) (pa_cons (pv 0) (pa_cons (pe_glob (v := .ref c3) rfl m3 rfl) pa_nil))) pa_nil)))
          (pa_cons (pe_tup (pa_cons pe_str (pa_cons (pe_callB call_isK2 (by rfl) T.isi (by decide +kernel) (pa_cons (pv 0) (pa_cons (pe_glob (v := .ref c4) rfl m4 rfl) pa_nil))) pa_nil))) pa_nil))))) (blkOk_by (N := nWo) (sc := defScope sLawWord) (by decide +kernel))
          (fun _ _ _ _ _ => pg_tup rfl (pgs_cons (pg_name (i := 3) scLawWord.nd rfl (Or.inl rfl)) (pgs_cons (pg_name (i := 4) scLawWord.nd rfl (Or.inl rfl)) pgs_nil))) (fun _ _ _ _ _ => pts_one (pt_val (pv 4))) (fun _ _ _ _ _ => pv 3))
      (pss_one (ps_ret (pe_ifExp (pt_cmpR (op_neD hr.units) (pv 2) (pe_lst pa_nil) (nomark _)) (pe_ix ix_list (pv 2) pe_int fun _ _ => rfl) pe_str)))), ?_⟩
    have sh := word_shaped hx
    refine q_setD (d := .list [.tuple [.str "head", .bool (decide (0 = i))], .tuple [.str "tables", .bool (decide (1 = i))], .tuple [.str "changed", .bool (decide (2 = i))]])
      (ed_lst (eds_cons (ed_pr (x := "head") (j := 0) (D := c0) rfl EX rfl hz hd (by decide)) (eds_cons (ed_pr (x := "tables") (j := 1) (D := c1) rfl EX rfl hz hd (by decide)) (eds_cons (ed_pr (x := "changed") (j := 2) (D := c2) rfl EX rfl hz hd (by decide)) eds_nil))) (show 3 ≤ 1000 by decide)) fun v1 H1 e1 o1 => ?_
    refine q_setL (xs := [V.str x]) (el_lcD (α := Unit) (d := [.tuple [.str "head", .bool (decide (0 = i))], .tuple [.str "tables", .bool (decide (1 = i))], .tuple [.str "changed", .bool (decide (2 = i))], .tuple [.str "question", .bool (decide (3 = i))], .tuple [.str "none", .bool (decide (4 = i))]])
      (ed_cat (xs := [.tuple [.str "head", .bool (decide (0 = i))], .tuple [.str "tables", .bool (decide (1 = i))], .tuple [.str "changed", .bool (decide (2 = i))]]) (ys := [.tuple [.str "question", .bool (decide (3 = i))], .tuple [.str "none", .bool (decide (4 = i))]]) (ed_var rfl o1)
        (ed_lst (eds_cons (ed_pr (x := "question") (j := 3) (D := c3) rfl EX rfl (e1 _ _ hz) (e1 _ _ hd) (by decide)) (eds_cons (ed_pr (x := "none") (j := 4) (D := c4) rfl EX rfl (e1 _ _ hz) (e1 _ _ hd) (by decide)) eds_nil)) (show 2 ≤ 1000 by decide)) (show 3 + 2 ≤ 1000 by decide))
      fun a xs H2 e2 h2 z2 r2 => found_of (ps := [("head", decide (0 = i)), ("tables", decide (1 = i)), ("changed", decide (2 = i)), ("question", decide (3 = i)), ("none", decide (4 = i))]) rfl h2 z2 r2 (word_is hx)) fun p H2 hp e2 h2 => ?_
    exact s_ret (v := .str x) (ev_ifT (et_test (ev_neOne (ev_var rfl) h2 sh.1)) (ev_op (ev_var rfl) ev_c (rv_ixL (sq_of h2) (atI_nat (j := 0) rfl)))) fun H3 e3 => k H3 ((e1.trans e2).trans e3)
end
end WL

set_option Elab.async false
set_option linter.all false
set_option maxRecDepth 100000
set_option maxHeartbeats 400000
namespace WL
open PySem PySem.Spec PyProof.Rows L2 Evl LamX
section
variable {P : Program} {w : World} {K : PySem.W.Frag} {mg : Str → Option Value} {base : Heap}
theorem came_in {CX : CXT} {N : List Str} {x q : Str} {sg : Scope} {g fl c' : Addr} {cdg : Value} {A : Around} {outer : List Env} {s : Shared} {H : Hp} {E : XK} {kt : Nat} {fs : List Addr} {H0 : Hp} {h0 : Heap} {tl : TT}
    (th : Thunk P w K mg base kt fl c' q fs H0 h0 tl) (un : Un fs [] H0 H h0 s.heap) (sub : ∀ x ∈ fs, x ∈ frs outer) (new : ∀ x ∈ frs outer, x ∉ fs → h0.get? x = none) :
    Came (cxOf CX P w K mg base N x sg g cdg A outer s H E) fl c' q kt fs H0 h0 tl where
  th := th
  un := fun pins σ H' s' I => un_later un I.base sub new
  sub := fun y hy => List.mem_cons_of_mem _ (sub y hy)
  new := fun y hy n => by
    rcases List.mem_cons.mp (show y ∈ s.heap.objs.size :: frs outer from hy) with z | z
    · cases e : h0.get? y with
      | none => rfl
      | some o =>
        obtain ⟨o', k⟩ := un.there y o e (by simp)
        exact absurd z (Nat.ne_of_lt (Heap.lt_size k))
    · exact new y z n
theorem came_nox {X : Cx} {fl c' : Addr} {q : Str} {kt : Nat} {fs : List Addr} {H0 : Hp} {h0 : Heap} {tl : TT} (C : Came X fl c' q kt fs H0 h0 tl) (h : ∀ pins σ H s, Inv X.nox pins σ H s → Un fs [] H0 H h0 s.heap) : Came X.nox fl c' q kt fs H0 h0 tl := ⟨C.th, h, C.sub, C.new⟩
theorem came_tr {X : Cx} {fl c' : Addr} {q : Str} {kt : Nat} {fs : List Addr} {H0 : Hp} {h0 : Heap} {tl : TT} {pn : List (Addr × Obj)} {xe : Value → Shared → Prop} (C : Came X fl c' q kt fs H0 h0 tl) (h : ∀ pins σ H s, Inv (X.tr pn xe) pins σ H s → Un fs [] H0 H h0 s.heap) : Came (X.tr pn xe) fl c' q kt fs H0 h0 tl := ⟨C.th, h, C.sub, C.new⟩
theorem ok_caughtTh {f CS : Addr} {fd : FuncData} {kt : Nat} (F : Fun K "_law_caught" "_law_caught" sLawCaught f fd) (hme : mg "LoopError" = some (.ref CS)) : FnTh P w K mg base (kt + 2) kt f fd ["call"] (fun tl vs H Q _ => vs.length = 1 ∧ TCaught K CS tl H Q) := by
  refine okTh F scLawCaught (fun tl vs H Q E h => h.1) (fun cdv A outer s H vs Q fl c' q fs H0 h0 tl hr gu th un sub new hc h => ?_)
  obtain ⟨hl, h⟩ := h
  obtain rfl : vs = [] := List.length_eq_zero_iff.mp (by rw [List.length_cons] at hl; omega)
  have ca : Came (cxOf CX0 P w K mg base nCa "_law_caught" (defScope sLawCaught) f cdv A outer s H E0) fl c' q kt fs H0 h0 tl := came_in th un sub new
  exact caught_gives (X := { cxOf CX0 P w K mg base nCa "_law_caught" (defScope sLawCaught) f cdv A outer s H E0 with A := A, stack := outer }) hme fl c' s H Q tl
    (fun W pn xe E p1 p2 tk hW => pe_came (i := 0) (came_tr ca fun pins σ H' s' I => un_later un I.base sub new) rfl (show Vis (defScope sLawCaught) "call" from .inl (by decide +kernel)) tk hW hr) hc h
abbrev nRf : List Str := ["call", "word", "value", "caught"]
theorem scLawIsRefused : FnScope nRf ["call", "word", "value"] (defScope sLawIsRefused) := ⟨rfl, rfl, rfl, by decide +kernel, rfl, by decide +kernel, by decide +kernel⟩
def spRefused (K : PySem.W.Frag) (CS : Addr) (Cs : List Addr) : TT → Sp := fun tl vs H Q _ => ∃ (x y v : V) (wd : Str), vs = [x, .str wd, v] ∧
  ∀ (E' : XK) (Q' : VK), (∀ (C d : Addr) (i : Nat) (u : V) (dt : PyData) (G : Hp), ErrX K CS Cs i C → errWords[i]? = some wd → G d = some (.xd [("value", u)]) → Odd G u dt → Odd G v dt → ShowO dt → (flatD dt = true ∨ dt = .dict []) → (∀ G', Ex G G' → Q (.bl true) G') → E' (.ref C) (some d) G) → tl E' H Q'
theorem ok_refused {f g1 g2 CS : Addr} {fd gd1 gd2 : FuncData} {Cs : List Addr} {kt : Nat} (F : Fun K "_law_is_refused" "_law_is_refused" sLawIsRefused f fd) (T : TL mg) (G1 : FnTh P w K mg base (kt + 2) kt g1 gd1 ["call"] (fun tl vs H Q _ => vs.length = 1 ∧ TCaught K CS tl H Q)) (m1 : mg "_law_caught" = some (.ref g1)) (k1 : PySem.W.keepIn K (.ref g1) = true) (b1 : Binds K gd1 ["call"] [])
    (G2 : FVal P w K mg base "_law_word" g2 gd2 1 ["error"] (spWord K CS Cs)) : FnTh P w K mg base (kt + 3) kt f fd ["call", "word", "value"] (spRefused K CS Cs) := by
  refine okTh F scLawIsRefused (fun tl vs H Q E h => ?_) (fun cdv A outer s H vs Q fl c' q fs H0 h0 tl hr gu th un sub new hc h => ?_)
  · obtain ⟨x, y, v, wd, rfl, _⟩ := h
    rfl
  obtain ⟨x, y, v, wd, hv, h⟩ := h
  obtain ⟨rfl, rfl⟩ : vs = [.str wd, v] ∧ x = .ref fl := by cases hv; exact ⟨rfl, rfl⟩
  have ca : Came (cxOf CX0 P w K mg base nRf "_law_is_refused" (defScope sLawIsRefused) f cdv A outer s H E0).nox fl c' q kt fs H0 h0 tl := came_nox (came_in th un sub new) fun pins σ H' s' I => un_later un I.base sub new
  have hr1 : Room 1 _ := hr.mono (by omega)
  refine ⟨_, pss_cons (ps_set (i := 3) scLawIsRefused.nd rfl (Or.inl rfl) (pe_ix ix_tup (pe_callTh G1 ca hr gu (by rfl) m1 k1 b1 (pa_cons (pv 0) pa_nil)) pe_int (fun _ _ => rfl)))
    (pss_one (ps_ret (pe_and (pe_cmpR op_eq (pe_call G2.ok hr1 (by rfl) G2.mg G2.kp G2.b .nil pass0 (pa_cons (pv 3) pa_nil)) (pv 1) (nomark _))
      (pe_one (pe_cmpR op_eq (pe_callB (call_reprO gu hr.units) (by rfl) T.repr (by decide +kernel) (pa_cons (pe_xk2 (pv 3)) pa_nil)) (pe_callB (call_reprO gu hr.units) (by rfl) T.repr (by decide +kernel) (pa_cons (pv 2) pa_nil)) (nomark _)))))), ?_⟩
  refine ⟨_, rfl, [], rfl, hc, rfl, ?_⟩
  refine h _ _ fun C d i u dt G EX hw gd ou ov sh fl' k => ?_
  refine ⟨true, EX.sub, rfl, fun z hz p G1 e1 hp hz1 => ?_⟩
  have e2 := Ex.new (o := exk z (.ref C) (some d)) hz1
  have gz := upd_same (H := G1) (a := z) (o := exk z (.ref C) (some d))
  have e12 := e1.trans e2
  have hp2 := e2 _ _ hp
  generalize upd G1 z (exk z (.ref C) (some d)) = G2 at e2 gz e12 hp2 ⊢
  refine ⟨p, [V.ref z, V.non], 0, V.ref z, rfl, rfl, st_of hp2, atI_nat (j := 0) rfl, ?_⟩
  have gd2 := e12 _ _ gd
  have ou2 := ou.up e12
  have ov2 := ov.up e12
  have ev1 : Ev (tCall (spWord K CS Cs) [] E0 (tCons (tVar 3) tNil)) [some (V.ref fl), some (V.str wd), some v, some (V.ref z)] G2 (.str wd) := ev_call (ea_cons (ev_var rfl) ea_nil) fun H3 e3 Q q E => ⟨z, d, C, _, i, wd, rfl, EX, hw, e3 _ _ gz, e3 _ _ gd2, q⟩
  have ev2 : Ev (tCB rReprO (tCons (tXk2 K "value" (tVar 3)) tNil)) [some (V.ref fl), some (V.str wd), some v, some (V.ref z)] G2 (.str (shownO dt)) := ev_cb (vs := [u]) (ea_cons (fun H3 e3 Q q => ⟨.ref z, rfl, z, d, C, _, u, rfl, EX.xf, EX.nV, e3 _ _ gz, e3 _ _ gd2, rfl, q H3 (Ex.refl H3)⟩) ea_nil) fun H3 e3 Q q => ⟨u, dt, rfl, ou2.up e3, sh, fl', q H3 (Ex.refl H3)⟩
  have ev3 : Ev (tCB rReprO (tCons (tVar 2) tNil)) [some (V.ref fl), some (V.str wd), some v, some (V.ref z)] G2 (.str (shownO dt)) := ev_cb (vs := [v]) (ea_cons (ev_var rfl) ea_nil) fun H3 e3 Q q => ⟨v, dt, rfl, ov2.up e3, sh, fl', q H3 (Ex.refl H3)⟩
  exact s_ret (v := .bl true) (ev_is (ev_andV (a := true) (b := true) (ev_is (ev_op ev1 (ev_var rfl) (rv_eq rfl)) (congrArg V.bl (decide_eq_true rfl))) fun _ => ev_is (ev_op ev2 ev3 (rv_eq rfl)) (congrArg V.bl (decide_eq_true rfl))) rfl) fun H3 e3 => k H3 (e12.trans e3)
end
end WL

set_option Elab.async false
set_option linter.all false
set_option maxRecDepth 100000
set_option maxHeartbeats 400000
namespace PySem.SeqAt
open PySem PySem.Spec MeetsSeq AutoSeq1
theorem tuple_ne_declines_dict (l b : Addr) (items : Array Value) (n : Nat) (dt2 : Data) (dd dd2 : Option Addr) (sl sl2 : Array (Option Value)) :
    Meets (Builtin.«tuple.__ne__» ⟨[.ref l, .ref b], []⟩) (fun _ R s => s.heap.get? l = some { cls := .type "tuple", dict := dd, data := .seq items n, slots := sl } ∧ s.heap.get? b = some { cls := .type "dict", dict := dd2, data := dt2, slots := sl2 } ∧ R (.ok (.ret .notImplemented)) s) :=
  .of_wp fun prog w A R s h => by obtain ⟨hp, g, d, tk, os⟩ := s; obtain ⟨hl, hb, h⟩ := h; have f1 := F.sub_dict_tuple; wp_walk using wpAny_loadPart' hl, wpAny_loadPart' hb; exact ⟨_, rfl, h⟩
section
variable {prog : Program} {w : World} {A : Around} {E : Value → Shared → Prop} {s : Shared}
theorem ne_dict_tuple {a b : Addr} {o : Obj} {items : Array Value} {Q : Value → Shared → Prop} (ho : s.heap.get? a = some o) (hc : o.cls = .type "dict") (hb : s.heap.IsTuple b items) (hu : A.units < cLine) (h : Q (.bool true) s) :
    wpAny (model prog w) A (compareOp .NotEq (.ref a) (.ref b)) Q E s := by
  obtain ⟨⟨cls2, dd2, data2, sl2⟩, ho2, hc2, n2, hd2⟩ := id hb
  obtain ⟨cls, dd, dt, sl⟩ := o
  simp only at hc hc2 hd2
  subst hc hc2 hd2
  have hne : a ≠ b := fun z => by rw [z, ho2] at ho; simp at ho
  have tyA : s.TypeIs (.ref a) "dict" := ⟨_, ho, rfl⟩
  have tyB : s.TypeIs (.ref b) "tuple" := ⟨_, ho2, rfl⟩
  refine rc_ne_decline_or (k := false) tyA tyB (by decide) F.sub_tuple_dict F.slot_dict_ne F.slot_tuple_ne_refl (fun Q' hq => ?_)
    (fun _ hq => call_meets F.slot_tuple_ne_refl tyB F.entry_tuple_ne (F.args_tuple_ne_2 _ _) (tuple_ne_declines_dict b a items n2 dt dd2 dd sl2 sl) ⟨ho2, ho, hq⟩)
    (fun _ hq => wpAny_isSame_ref_other hne ho ho2 (by simp) hq) (.inr hu) h
  refine wpAny_call_entry PySem.F.slot_dict_ne tyA PySem.F.entry_dict_ne ?_ (PySem.F.args_dict_ne_2 _ _)
  show wpAny _ _ (Builtin.Dict.dictSlotArgs "__ne__" ⟨[.ref a, .ref b], []⟩ >>= _) _ _ s
  refine wpAny_bind ?_
  unfold Builtin.Dict.dictSlotArgs
  refine wpAny_bind (wpAny_notOrdered_dict tyA ?_)
  show wpAny _ _ (pure (Value.ref a, Value.ref b)) _ _ s
  refine wpAny_pure ?_
  refine wpAny_bind (wpAny_isInstance (T := "tuple") tyB PySem.F.sub_tuple_dict ?_)
  simp only [Bool.not_false, if_true]
  exact wpAny_bind (wpAny_rule (wpAny_pure ⟨_, rfl, hq⟩))
end
end PySem.SeqAt
namespace WL
open PySem PySem.Spec PyProof.Rows L2 Evl LamX
section
variable {X : Cx}
def rNeNil : R2 := fun x y H Q => ∃ (d : PyData) (a : Addr), Odd H x d ∧ y = .ref a ∧ H a = some (.tup []) ∧ ((SeqAt.shaped d = true ∧ flatD d = true) ∨ d = .dict []) ∧ PyData.eqv d (.tuple []) = false ∧ Q (.bl true) H
theorem op_neNil (hu : X.A.units + 64 < cLine) : OpR X (compareOp .NotEq) rNeNil := by
  intro pins s σ H x y v u Q I rx ry h
  obtain ⟨d, a, od, rfl, ha, sh, ne, q⟩ := h
  cases (show u = Value.ref a from ry)
  have dp : Dp X.K H (.ref a) (.tuple []) := .tup (st_of ha) .nil
  obtain ⟨bs, r2⟩ := Dp.reads I _ (.ref a) (.ref a) dp rfl
  rcases sh with ⟨sh, fl⟩ | rfl
  · obtain ⟨as, r1⟩ := Dp.reads I d x v (Odd.dp (K := X.K) d x od fl) rx
    exact SeqAt.compareNe_shaped r1 r2 sh (by decide) hu ⟨.bl _, H, I, rfl, by rw [ne]; exact q⟩
  · cases od with
    | @dic b h =>
      cases (show v = Value.ref b from rx)
      obtain ⟨_, nsm, vs, rk, dd⟩ := (show ObjOk X.prog X.w H s.heap b (.dK []) from I.hok b _ h)
      obtain ⟨o, es, ep, ho, hx, hd, he⟩ := dd
      obtain ⟨_, its, rv, ht⟩ := (show ObjOk X.prog X.w H s.heap a (.tup []) from I.hok a _ ha)
      exact SeqAt.ne_dict_tuple ho hx.1 ht (by omega) ⟨.bl true, H, I, rfl, q⟩
end
end WL

set_option Elab.async false
set_option linter.all false
set_option maxRecDepth 100000
set_option maxHeartbeats 400000
namespace WL
open PySem PySem.Spec PyProof.Rows L2 Evl LamX
section
variable {X : Cx}
def rMulS : R2 := fun x y H Q => ∃ (a : Str) (n : Int), x = .str a ∧ y = .int n ∧ PySem.MulOk a n ∧ Q (.str (Txt.mul a n)) H
theorem op_mulS : OpR X (binaryOp .Mult) rMulS := by
  intro pins s σ H x y v u Q I rx ry h
  obtain ⟨a, n, rfl, rfl, ok, q⟩ := h
  obtain ⟨t, rfl⟩ := rx
  obtain ⟨t2, rfl⟩ := ry
  exact SB.mul ok fun t' k => ⟨.str _, H, I.tok _, ⟨t', rfl⟩, q⟩
end
theorem for_tupW {K : PySem.W.Frag} {wi : TI} {g : TG} {tb : TS} {D : Ends} {σ : L2.St} {H : Hp} {a : Addr} {xs : List V} (Iv : L2.St → Hp → Prop)
    (hwi : ∀ R : It → Hp → Prop, (∀ H2, Ex H H2 → R (Itt K a) H2) → wi σ H R) (h0 : ∀ H2, Ex H H2 → Iv σ H2) (hs : ∀ σ' H', Iv σ' H' → SqT K H' a xs)
    (hb : ∀ x ∈ xs, ∀ σ' H', Iv σ' H' → g x σ' H' fun σ2 H2 => tb { D with nx := Iv, ct := Iv, bk := D.nx } σ2 H2) (hd : ∀ σ' H', Iv σ' H' → D.nx σ' H') : tFor wi g tb D σ H := by
  refine hwi _ fun H2 e2 => ⟨fun i m σ' H' => Iv σ' H' ∧ m = xs.length - i, ⟨_, h0 H2 e2, rfl⟩, fun i m σ' H' w => ?_⟩
  obtain ⟨iv, rfl⟩ := w
  rcases Nat.lt_or_ge i xs.length with hi | hi
  · refine .inr ⟨⟨xs, xs[i], hs _ _ iv, List.getElem?_eq_getElem hi⟩, Iv, fun σ3 H3 v3 => ⟨xs.length - (i + 1), by omega, v3, rfl⟩, fun x H3 y => ?_⟩
    obtain ⟨rfl, hx⟩ := y
    have z := hx _ (hs _ _ iv)
    exact hb x (List.mem_of_getElem? z) _ _ iv
  · exact .inl ⟨⟨xs, hs _ _ iv, hi⟩, hd _ _ iv⟩
theorem for_listW {K : PySem.W.Frag} {wi : TI} {g : TG} {tb : TS} {D : Ends} {σ : L2.St} {H : Hp} {a : Addr} {xs : List V} (Iv : L2.St → Hp → Prop)
    (hwi : ∀ R : It → Hp → Prop, (∀ H2, Ex H H2 → R (Itl K a) H2) → wi σ H R) (h0 : ∀ H2, Ex H H2 → Iv σ H2) (hs : ∀ σ' H', Iv σ' H' → SqL K H' a xs)
    (hb : ∀ x ∈ xs, ∀ σ' H', Iv σ' H' → g x σ' H' fun σ2 H2 => tb { D with nx := Iv, ct := Iv, bk := D.nx } σ2 H2) (hd : ∀ σ' H', Iv σ' H' → D.nx σ' H') : tFor wi g tb D σ H := by
  refine hwi _ fun H2 e2 => ⟨fun i m σ' H' => Iv σ' H' ∧ m = xs.length - i, ⟨_, h0 H2 e2, rfl⟩, fun i m σ' H' w => ?_⟩
  obtain ⟨iv, rfl⟩ := w
  rcases Nat.lt_or_ge i xs.length with hi | hi
  · refine .inr ⟨⟨xs, xs[i], hs _ _ iv, List.getElem?_eq_getElem hi⟩, Iv, fun σ3 H3 v3 => ⟨xs.length - (i + 1), by omega, v3, rfl⟩, fun x H3 y => ?_⟩
    obtain ⟨rfl, hx⟩ := y
    have z := hx _ (hs _ _ iv)
    exact hb x (List.mem_of_getElem? z) _ _ iv
  · exact .inl ⟨⟨xs, hs _ _ iv, hi⟩, hd _ _ iv⟩
def stillD : PyData → Bool
  | .list _ => false
  | .dict _ => false
  | .tuple ds => stillDs ds
  | _ => true
where stillDs : List PyData → Bool
  | [] => true
  | d :: ds => stillD d && stillDs ds
mutual
theorem Odd.still {H H' : Hp} {l : Addr} {zs : List V} (b : But l H H') (hl : H l = some (.lst zs)) : ∀ (d : PyData) (v : V), Odd H v d → stillD d = true → Odd H' v d
  | .none, _, h, _ => by cases h; exact .non
  | .bool b, _, h, _ => by cases h; exact .bl b
  | .int i, _, h, _ => by cases h; exact .int i
  | .str x, _, h, _ => by cases h with | str x h => exact .str x h
  | .list ds, _, h, f => by cases f
  | .tuple ds, _, h, f => by cases h with | tup h hz r => exact .tup (b _ _ h fun z => by rw [z, hl] at h; cases h) hz (OddAll.still b hl ds _ r f)
  | .dict kvs, _, h, f => by cases f
theorem OddAll.still {H H' : Hp} {l : Addr} {zs : List V} (b : But l H H') (hl : H l = some (.lst zs)) : ∀ (ds : List PyData) (vs : List V), OddAll H vs ds → stillD.stillDs ds = true → OddAll H' vs ds
  | [], _, h, _ => by cases h; exact .nil
  | d :: ds, _, h, f => by
    have f' : (stillD d && stillD.stillDs ds) = true := f
    rw [Bool.and_eq_true] at f'
    cases h with | cons h r => exact .cons (Odd.still b hl d _ h f'.1) (OddAll.still b hl ds _ r f'.2)
end
theorem Odd.onN {H H' : Hp} (e : ExtN H H') {v : V} {d : PyData} (h : Odd H v d) : Odd H' v d := h.on fun b o q n => e b o q n
theorem OddAll.onN {H H' : Hp} (e : ExtN H H') {vs : List V} {ds : List PyData} (h : OddAll H vs ds) : OddAll H' vs ds := h.on fun b o q n => e b o q n
end WL

set_option Elab.async false
set_option linter.all false
set_option maxRecDepth 100000
set_option maxHeartbeats 1000000
namespace WL
open PySem PySem.Spec PyProof.Rows L2 Evl LamX
section
variable {P : Program} {w : World} {K : PySem.W.Frag} {mg : Str → Option Value} {base : Heap}
theorem sqL_ne {H H' : Hp} {l a : Addr} {xs : List V} (hn : a ≠ l) (b : But l H H') (h : SqL K H a xs) : SqL K H' a xs := by
  rcases h with (h | ⟨o, h⟩) | h
  · exact .inl (.inl (b a _ h hn))
  · exact .inl (.inr ⟨o, b a _ h hn⟩)
  · exact .inr h
theorem scLawOf : FnScope ["pot", "some"] ["pot", "some"] (defScope sLawOf) := ⟨rfl, rfl, rfl, by decide +kernel, rfl, by decide +kernel, by decide +kernel⟩
def spOf (K : PySem.W.Frag) : Sp := fun vs H Q _ => ∃ (l a : Addr) (xs : List V) (m : Nat), vs = [.ref l, .ref a] ∧ SqL K H a xs ∧ a ≠ l ∧ 1 ≤ xs.length ∧ xs.length ≤ 1000 ∧ m ≤ 1000000 ∧ PotAt H l m ∧ ∀ x ∈ xs, ∀ H', But l H H' → PotAt H' l (m + 1) → Q x H'
theorem ok_of {f g : Addr} {fd gd : FuncData} (F : Fun K "_law_of" "_law_of" sLawOf f fd) (T : TL mg) (G : FVal P w K mg base "_law_take" g gd 1 ["pot", "upto"] spLTake) : FnOk P w K mg base CX0 2 f fd ["pot", "some"] (spOf K) := by
  refine F.ok scLawOf (fun vs H Q E h => ?_) (fun cdv A outer s H vs Q E hr h => ?_)
  · obtain ⟨l, a, xs, m, rfl, _⟩ := h
    rfl
  · obtain ⟨l, a, xs, m, rfl, hs, hne, h1, h2, hm, hp, k⟩ := h
    refine ⟨_, pss_one (ps_ret (pe_ix ix_seq (pv 1) (pe_call G.ok hr (by rfl) G.mg G.kp G.b .nil pass0 (pa_cons (pv 0) (pa_cons (pe_callB call_len_seq (by rfl) T.len PySem.boot_len (pa_cons (pv 1) pa_nil)) pa_nil))) fun _ _ => rfl)), ?_⟩
    refine op_gen (ev_var rfl) fun H1 e1 => ?_
    refine call_gen (ea_cons (ev_var rfl) (ea_cons (ev_lenQ (K := K) (eq_l (ev_var rfl) (ex_l e1 hs))) ea_nil)) fun H2 e2 => ?_
    have e := e1.trans e2
    refine ⟨l, xs.length, m, rfl, h1, by omega, hm, hp.up e, fun d H3 hd b3 p3 => ?_⟩
    have b := (But.ex (p := l) e).trans b3
    exact .inl ⟨a, xs, (d : Int), xs[d], rfl, rfl, sqL_ne hne b hs, atI_nat (List.getElem?_eq_getElem hd), k _ (List.getElem_mem hd) H3 b p3⟩

end
def potD : PyData → Bool
  | .list ds => decide (ds.length ≠ 3) && potDs ds
  | .tuple ds => potDs ds
  | _ => true
where potDs : List PyData → Bool
  | [] => true
  | d :: ds => potD d && potDs ds
mutual
theorem Odd.pot {H H' : Hp} {l : Addr} {zs : List V} (b : But l H H') (hl : H l = some (.lst zs)) (h3 : zs.length = 3) : ∀ (d : PyData) (v : V), Odd H v d → potD d = true → Odd H' v d
  | .none, _, h, _ => by cases h; exact .non
  | .bool b, _, h, _ => by cases h; exact .bl b
  | .int i, _, h, _ => by cases h; exact .int i
  | .str x, _, h, _ => by cases h with | str x h => exact .str x h
  | .list ds, _, h, f => by
    have f' : (decide (ds.length ≠ 3) && potD.potDs ds) = true := f
    rw [Bool.and_eq_true] at f'
    have n3 := of_decide_eq_true f'.1
    cases h with
    | lst h hz r =>
      refine .lst (b _ _ h fun z => ?_) hz (OddAll.pot b hl h3 ds _ r f'.2)
      rw [z, hl] at h
      cases h
      exact n3 (by rw [← r.len]; exact h3)
  | .tuple ds, _, h, f => by cases h with | tup h hz r => exact .tup (b _ _ h fun z => by rw [z, hl] at h; cases h) hz (OddAll.pot b hl h3 ds _ r f)
  | .dict kvs, _, h, f => by cases h with | dic h => exact .dic (b _ _ h fun z => by rw [z, hl] at h; cases h)
theorem OddAll.pot {H H' : Hp} {l : Addr} {zs : List V} (b : But l H H') (hl : H l = some (.lst zs)) (h3 : zs.length = 3) : ∀ (ds : List PyData) (vs : List V), OddAll H vs ds → potD.potDs ds = true → OddAll H' vs ds
  | [], _, h, _ => by cases h; exact .nil
  | d :: ds, _, h, f => by
    have f' : (potD d && potD.potDs ds) = true := f
    rw [Bool.and_eq_true] at f'
    cases h with | cons h r => exact .cons (Odd.pot b hl h3 d _ h f'.1) (OddAll.pot b hl h3 ds _ r f'.2)
end
def oddL : List PyData := [.none, .bool true, .bool false, .str "1", .str "", .list [], .dict [], .tuple [.bool true], .tuple [.tuple []], .int (-1), .list [.int 0], .str "01", .tuple [.none]]
theorem oddL_pot : potD.potDs oddL = true := by decide +kernel
end WL

set_option Elab.async false
set_option linter.all false
set_option maxRecDepth 100000
set_option maxHeartbeats 1000000
namespace WL
open PySem PySem.Spec PyProof.Rows L2 Evl LamX
theorem ed_neg1 {σ : L2.St} {H : Hp} : EvD (tUn (rU fun i => .int (-i)) (tC (.int 1))) σ H (.int (-1)) := fun H1 e Q q => ⟨1, rfl, q _ H1 (Ex.refl H1) (.int _)⟩
theorem OddAll.mem {H : Hp} : ∀ {vs : List V} {ds : List PyData}, OddAll H vs ds → ∀ x ∈ vs, ∃ d ∈ ds, Odd H x d
  | [], [], _, x, hx => by cases hx
  | v :: vs, d :: ds, h, x, hx => by
    cases h with
    | cons h r =>
      rcases List.mem_cons.mp hx with rfl | hx
      · exact ⟨d, List.mem_cons_self, h⟩
      · obtain ⟨d', hd, o⟩ := r.mem x hx
        exact ⟨d', List.mem_cons_of_mem _ hd, o⟩
theorem pot_mem : ∀ {ds : List PyData}, potD.potDs ds = true → ∀ d ∈ ds, potD d = true
  | [], _, d, hd => by cases hd
  | e :: ds, h, d, hd => by
    have h' : (potD e && potD.potDs ds) = true := h
    rw [Bool.and_eq_true] at h'
    rcases List.mem_cons.mp hd with rfl | hd
    · exact h'.1
    · exact pot_mem h'.2 d hd
section
variable {P : Program} {w : World} {K : PySem.W.Frag} {mg : Str → Option Value} {base : Heap}
theorem scLawOdd : FnScope ["pot"] ["pot"] (defScope sLawOdd) := ⟨rfl, rfl, rfl, by decide +kernel, rfl, by decide +kernel, by decide +kernel⟩
def spOdd : Sp := fun vs H Q _ => ∃ (l : Addr) (m : Nat), vs = [.ref l] ∧ m ≤ 1000000 ∧ PotAt H l m ∧ ∀ d ∈ oddL, ∀ x H', Odd H' x d → But l H H' → PotAt H' l (m + 1) → Q x H'
theorem ok_odd {f g : Addr} {fd gd : FuncData} (F : Fun K "_law_odd" "_law_odd" sLawOdd f fd) (T : TL mg) (G : FVal P w K mg base "_law_of" g gd 2 ["pot", "some"] (spOf K)) : FnOk P w K mg base CX0 3 f fd ["pot"] spOdd := by
  refine F.ok scLawOdd (fun vs H Q E h => ?_) (fun cdv A outer s H vs Q E hr h => ?_)
  · obtain ⟨l, m, rfl, _⟩ := h
    rfl
  · obtain ⟨l, m, rfl, hm, hp, k⟩ := h
    refine ⟨_, pss_one (ps_ret (pe_call G.ok hr (by rfl) G.mg G.kp G.b .nil pass0 (pa_cons (pv 0) (pa_cons (pe_lst (pa_cons pe_non (pa_cons pe_bl (pa_cons pe_bl (pa_cons pe_str (pa_cons pe_str (pa_cons (pe_lst pa_nil) (pa_cons pe_dnewK (pa_cons (pe_tup (pa_cons pe_bl pa_nil)) (pa_cons (pe_tup (pa_cons (pe_tup pa_nil) pa_nil)) (pa_cons (pe_un un_neg pe_int) (pa_cons (pe_lst (pa_cons pe_int pa_nil)) (pa_cons pe_str (pa_cons (pe_tup (pa_cons pe_non pa_nil)) pa_nil)))))))))))))) pa_nil)))), ?_⟩
    have lit : EvD (tLst _) (L2.start ["pot"] [V.ref l]) H (.list oddL) := ed_lst (eds_cons ed_non (eds_cons ed_bl (eds_cons ed_bl (eds_cons (ed_str (by decide)) (eds_cons (ed_str (by decide)) (eds_cons (ed_lst eds_nil (by decide)) (eds_cons ed_dict (eds_cons (ed_tup (eds_cons ed_bl eds_nil) (show 1 ≤ 1000 by decide)) (eds_cons (ed_tup (eds_cons (ed_tup eds_nil (by decide)) eds_nil) (show 1 ≤ 1000 by decide)) (eds_cons ed_neg1 (eds_cons (ed_lst (eds_cons ed_int eds_nil) (show 1 ≤ 1000 by decide)) (eds_cons (ed_str (by decide)) (eds_cons (ed_tup (eds_cons ed_non eds_nil) (show 1 ≤ 1000 by decide)) eds_nil))))))))))))) (show 13 ≤ 1000 by decide)
    refine ⟨_, rfl, ?_⟩
    refine lit H (Ex.refl H) _ fun v H1 e1 o1 => ?_
    obtain ⟨a, xs, rfl, ha, hz, r⟩ := o1.list_inv
    have hl13 : xs.length = 13 := r.len
    have hp1 := hp.up e1
    obtain ⟨own, b, c, hl, _⟩ := id hp1
    have hne : a ≠ l := fun z => by
      rw [z, hl] at ha
      cases ha
      cases hl13
    refine ⟨l, a, xs, m, rfl, sq_of ha, hne, by omega, by omega, hm, hp1, fun x hx H2 b2 p2 => ?_⟩
    obtain ⟨d, hd, od⟩ := r.mem x hx
    exact k d hd x H2 (Odd.pot b2 hl rfl d x od (pot_mem oddL_pot d hd)) ((But.ex e1).trans b2) p2
end
end WL

set_option Elab.async false
set_option linter.all false
set_option maxRecDepth 100000
set_option maxHeartbeats 8000000
namespace WL
open PySem PySem.Spec PyProof.Rows L2 Evl LamX
section
variable {P : Program} {w : World} {K : PySem.W.Frag} {mg : Str → Option Value} {base : Heap}
theorem okC {x qual : Str} {st : Stmt} {f : Addr} {fd : FuncData} {N ps : List Str} {k : Nat} {sp : Sp} (F : Fun K x qual st f fd) (S : FnScope N ps (defScope st)) (len : ∀ vs H Q E, sp vs H Q E → vs.length = ps.length)
    (body : ∀ (cdv : Value) (A : Around) (outer : List Env) (s : Shared) (H : Hp) (vs : List V) (Q : VK) (E : XK), fd.code = cdv → Room k (A.deeper (envOfC qual (defScope st) s.heap.objs.size f cdv)) → A.guards = some [] → sp vs H Q E →
      ∃ t, PSs (cxOf CX0 P w K mg base N qual (defScope st) f cdv A outer s H E).nox (defBody st) t ∧ t { nx := fun _ H' => Q .non H', rt := Q } (start N vs) H) : FnG P w K mg base (k + 1) f fd ps sp := by
  obtain ⟨oc, od, kV, doc, pm, an, cdv, ct, osl, rfl, lk, hcd⟩ := F.ex
  refine ⟨len, fun A outer s H args us vs Q E room gu en bi va hs => ?_⟩
  have keep := fun (b : Addr) (o : Obj) (e : base.get? b = some o) => (en.bs b o e).1
  have inK : K.In s.heap := en.mod.kin.keeps keep
  have kinds : ∀ y ∈ ps.zip us, (defScope st).names.lookup y.1 = some .local ∨ ((defScope st).names.lookup y.1 = some .cell ∧ ((cellsFrom (s.heap.objs.size + 1) (defScope st).names []).lookup y.1).isSome = true) := fun y hy =>
    (S.par y.1 (List.of_mem_zip (a := y.1) (b := y.2) hy).1).elim .inl fun q => .inr ⟨q, PySem.W.cellsFrom_some _ _ _ (.inl q)⟩
  refine codeAny_call_function room.depth (inK _ _ lk) rfl S.co S.gen rfl (PySem.W.codeRec_of inK hcd) (bi _ _ _ _ ?_)
  refine wpAny_newFunctionEnv_cells S.kind kinds fun env he s1 inn => ?_
  cases he
  refine ⟨(en.mod.nolimit.keeps keep).keeps inn.toInCall.keep, codeAny_func ?_⟩
  obtain ⟨t, ht, q⟩ := body cdv A outer s H vs Q E rfl (room.deeper _) gu hs
  have start_ := inv_start (CX := CX0) (P := P) (mg := mg) (base := base) (K := K) (w := w) (E := E) S room.hd en (len _ _ _ _ hs) va inn
  refine wpAny_mono (ht.nox.run [] s1 (start N vs) H _ start_ q) (fun fl s' h => ?_) fun e s' h => h
  cases fl with
  | ret u =>
    obtain ⟨v, σ', H', J, rv, q'⟩ := h
    exact ⟨v, H', J.os, J.bare, J.base, J.hok, rv, q'⟩
  | next =>
    obtain ⟨σ', H', J, q'⟩ := h
    exact ⟨.non, H', J.os, J.bare, J.base, J.hok, rfl, q'⟩
  | brk => exact h.elim fun _ h => h.elim fun _ h => h.2.elim
  | cont => exact h.elim fun _ h => h.elim fun _ h => h.2.elim
theorem fun_kbn1 {x qual : Str} {st : Stmt} {f : Addr} {fd : FuncData} {ps ks : List Str} (F : Fun K x qual st f fd)
    (h : ∀ (kV doc pm : Value) (an : Option Addr) (cdv ct u : Value) (ws : List Value), ws.length = ks.length → bindArgs (PySem.W.fnOf x qual (defArgs st) (defBody st) (defScope st) .none kV doc pm an cdv ct) ⟨[u], ks.zip ws⟩ = pure (ps.zip (u :: ws))) : KBn K fd ps 1 ks (fun us ws => us ++ ws) (fun vs zs => vs ++ zs) := by
  obtain ⟨oc, od, kV, doc, pm, an, cdv, ct, osl, rfl, lk, hcd⟩ := F.ex
  refine ⟨fun s us ws X l1 l2 => ?_, fun r1 r2 => r1.append r2⟩
  match us, l1 with
  | [u], _ => exact .of_eq (h kV doc pm an cdv ct u ws l2)
theorem quest_kbn {f : Addr} {fd : FuncData} (F : Fun K "__init__" "Question.__init__" sQuestion_Init f fd) : KBn K fd ["self", "head", "text", "tables", "changed"] 1 ["head", "text", "tables", "changed"] (fun us ws => us ++ ws) (fun vs zs => vs ++ zs) :=
  fun_kbn1 F fun _ _ _ _ _ _ _ ws hl => match ws, hl with | [_, _, _, _], _ => rfl
theorem extN_t {H H' : Hp} {a : Addr} {xs : List V} (e : ExtN H H') (h : SqT K H a xs) : SqT K H' a xs := by
  rcases h with (h | ⟨o, h⟩) | h
  · exact .inl (.inl (e _ _ h fun ps z => by cases z))
  · exact .inl (.inr ⟨o, e _ _ h fun ps z => by cases z⟩)
  · exact .inr h
theorem extN_tabs {H H' : Hp} {a : Addr} {ts : List (Addr × Str × Int)} (e : ExtN H H') (h : TabsAt K H a ts) : TabsAt K H' a ts := ⟨extN_t e h.1, fun t ht => extN_t e (h.2 t ht)⟩
end
end WL

set_option Elab.async false
set_option linter.all false
set_option maxRecDepth 100000
set_option maxHeartbeats 400000
namespace WL
open PySem PySem.Spec PyProof.Rows L2 Evl LamX
abbrev hs3 : List Str := ["x", "y"]
abbrev ts3 (a b c : Addr) : List (Addr × Str × Int) := [(a, "row", 2), (b, "flag", 0), (c, "in", 1)]
section
variable {σ : L2.St} {H : Hp} {ta tb : TE}
theorem ev_addS {x y : Str} (ha : Ev ta σ H (.str x)) (hb : Ev tb σ H (.str y)) (hz : x.length + y.length ≤ 20000) : Ev (tOp (fun x y H Q => ∃ i j, x = .str i ∧ y = .str j ∧ i.length + j.length ≤ sizeLine ∧ Q (.str (i ++ j)) H) ta tb) σ H (.str (x ++ y)) := fun H1 e Q q =>
  ha H1 e _ fun H2 e2 => hb H2 (e.trans e2) _ fun H3 e3 => ⟨x, y, rfl, rfl, by have := sizeLine_eq; omega, q H3 (e2.trans e3)⟩
theorem ev_mulS {x : Str} {n : Int} (ha : Ev ta σ H (.str x)) (hb : Ev tb σ H (.int n)) (ok : PySem.MulOk x n) : Ev (tOp rMulS ta tb) σ H (.str (Txt.mul x n)) := fun H1 e Q q =>
  ha H1 e _ fun H2 e2 => hb H2 (e.trans e2) _ fun H3 e3 => ⟨x, n, rfl, rfl, ok, q H3 (e2.trans e3)⟩
end
theorem mul_not14 : PySem.MulOk "not " 14 := by unfold PySem.MulOk; decide +kernel
theorem mul_and13 : PySem.MulOk "and " 13 := by unfold PySem.MulOk; decide +kernel
theorem mul_no13 : PySem.MulOk " no" 13 := by unfold PySem.MulOk; decide +kernel

def texts0 : List (Str × Nat × Nat) := [("", 0, 1), ("row x", 0, 3), ("row x z", 0, 3), ("and yes", 0, 3), ("yes no", 0, 2), ("some row yes", 0, 2), ("less x p", 0, 3), ("less p q", 1, 3)]
def texts1 : List (Str × Nat × Nat) := [("reach x y u u yes", 0, 5), ("reach x y u", 0, 5), ("reach u y u v yes", 0, 2), ("some p yes", 0, 2), ("some every yes", 0, 2), ("some abcdefg yes", 0, 2)]
def texts2 : List (Str × Nat × Nat) := [("some u row u v", 0, 5), ("and some u yes same u u", 0, 6), ("not", 0, 2), ("flag x", 0, 2), (((Txt.mul "not " 14 : Str) ++ "yes" : Str), 0, 15), ("yes ", 0, 2), (" yes", 0, 1), ("Yes", 0, 1)]
def okT (ts : List (Addr × Str × Int)) (e : Str × Nat × Nat) : Bool := (match rdWhole ts (hs3 ++ changedS.take e.2.1) (Txt.split e.1 " ") with | .inl m => m == e.2.2 | .inr _ => false) && (decide (e.2.1 ≤ 3) && (decide (e.1.length ≤ 20000) && ((Txt.split e.1 " ").all (fun x => decide (x.length ≤ 20000)) && decide (e.2.2 < 1000))))
theorem texts_ok (a b c : Addr) : ((texts0 ++ texts1 ++ texts2).all (okT (ts3 a b c))) = true := by kernel_rfl
theorem okT_of {ts : List (Addr × Str × Int)} {e : Str × Nat × Nat} (h : okT ts e = true) : rdWhole ts (hs3 ++ changedS.take e.2.1) (Txt.split e.1 " ") = .inl e.2.2 ∧ e.2.1 ≤ 3 ∧ e.1.length ≤ 20000 ∧ (∀ x ∈ Txt.split e.1 " ", x.length ≤ 20000) ∧ e.2.2 < 1000 := by
  unfold okT at h
  rw [Bool.and_eq_true, Bool.and_eq_true, Bool.and_eq_true, Bool.and_eq_true] at h
  obtain ⟨h1, h2, h3, h4, h5⟩ := h
  refine ⟨?_, of_decide_eq_true h2, of_decide_eq_true h3, fun x hx => of_decide_eq_true (List.all_eq_true.mp h4 x hx), of_decide_eq_true h5⟩
  split at h1
  · rename_i m hm
    rw [hm, beq_iff_eq.mp h1]
  · cases h1
theorem right3 (a b c : Addr) {text : Str} {ch : Nat} (h1 : ch ≤ 3) (h2 : text.length ≤ 20000) (h3 : ∀ x ∈ Txt.split text " ", x.length ≤ 20000) : RightX hs3 text (ts3 a b c) ch where
  head := by decide +kernel
  hlen := by decide +kernel
  hmany := by decide
  tabs := by kernel_rfl
  tlen := fun x hx => by
    rcases List.mem_cons.mp hx with rfl | hx
    · exact (show ("row" : Str).length ≤ 20000 by decide)
    · rcases List.mem_cons.mp hx with rfl | hx
      · exact (show ("flag" : Str).length ≤ 20000 by decide)
      · rw [List.mem_singleton.mp hx]; exact (show ("in" : Str).length ≤ 20000 by decide)
  tmany := by show 3 ≤ 800; decide
  apart := fun x hx => by
    rcases List.mem_cons.mp hx with rfl | hx
    · exact (show ("row" : Str) ∉ hs3 by decide +kernel)
    · rcases List.mem_cons.mp hx with rfl | hx
      · exact (show ("flag" : Str) ∉ hs3 by decide +kernel)
      · rw [List.mem_singleton.mp hx]; exact (show ("in" : Str) ∉ hs3 by decide +kernel)
  ch3 := h1
  size := by omega
  wlen := h3
  full := by decide +kernel
  small := fun x hx => by
    rcases List.mem_cons.mp hx with rfl | hx
    · exact ⟨2, rfl, by decide⟩
    · rcases List.mem_cons.mp hx with rfl | hx
      · exact ⟨0, rfl, by decide⟩
      · rw [List.mem_singleton.mp hx]; exact ⟨1, rfl, by decide⟩
  no := by kernel_rfl
abbrev row3 (e : Str × Nat × Nat) : PyData := .tuple [.str e.1, .int (e.2.1 : Int), .int (e.2.2 : Int)]
section
variable {P : Program} {w : World} {K : PySem.W.Frag} {mg : Str → Option Value} {base : Heap}
abbrev nTr : List Str := ["head", "tables", "some", "text", "changed", "number"]
theorem scLawAreTextsRefused : FnScope nTr ["head", "tables"] (defScope sLawAreTextsRefused) := ⟨rfl, rfl, rfl, by decide +kernel, rfl, by decide +kernel, by decide +kernel⟩




end
end WL

set_option Elab.async false
set_option linter.all false
set_option maxRecDepth 100000
set_option maxHeartbeats 1000000
namespace WL
open PySem PySem.Spec PyProof.Rows L2 Evl LamX
def SeenO (d : PyData) : Prop := ShowO d ∧ (flatD d = true ∨ d = .dict [])
section
variable {K : PySem.W.Frag} {C CH CT CC CB CN CS ah at_ : Addr} {Cs : List Addr} {σ : L2.St} {H : Hp} {Q : VK} {v : V} {d : PyData} {fl : Addr} {i : Nat}
theorem ex_made {H G : Hp} {p dx : Addr} (hp : H p = none) (hdx : H dx = none) (hne : dx ≠ p) (b : But p (upd (upd H dx (.own p)) p (.ins C dx [])) G) : Ex H (upd (upd H dx (.own p)) p (.ins C dx [])) ∧ Ex H G := by
  have em : Ex H (upd (upd H dx (.own p)) p (.ins C dx [])) := (Ex.new hdx).trans (Ex.new (by rw [upd_ne (Ne.symm hne)]; exact hp))
  exact ⟨em, fun b' o hb => b b' o (em b' o hb) fun y => by rw [y, hp] at hb; cases hb⟩
theorem ref_make {D : Addr} {j : Nat} {wd : Str} {ta : TA} {u1 u2 u3 u4 w : V} (ha : EvA ta σ H [u1, u2, u3, u4]) (ED : ErrX K CS Cs j D) (hj : errWords[j]? = some wd) (od : Odd H v d) (ow : Odd H w d) (sn : SeenO d) (k : ∀ G', Ex H G' → Q (.bl true) G')
    (sp : ∀ (p dx : Addr) (H1 : Hp) (QQ : VK) (E : XK), Ex H H1 → H1 p = some (.ins C dx []) → ErrB p D w H1 E → spQuestInitO K C CH CT CC CB [.ref p, u1, u2, u3, u4] H1 QQ E) :
    spRefused K CS Cs (fun E H' Q' => tMake C (spQuestInitO K C CH CT CC CB) [] E ta σ H' Q') [.ref fl, .str wd, v] H Q E0 := by
  refine ⟨.ref fl, .non, v, wd, rfl, fun E' Q' kE => ?_⟩
  show tMake C (spQuestInitO K C CH CT CC CB) [] E' ta σ H Q'
  unfold tMake
  refine ha H (Ex.refl H) _ fun H1 e1 => ?_
  intro x dx hx hdx hne
  have em := (ex_made (C := C) hx hdx hne (But.refl x _)).1
  refine sp x dx _ _ _ (e1.trans em) upd_same fun d' G bG hd' => ?_
  have eG := e1.trans (ex_made hx hdx hne bG).2
  exact kE D d' j w d G ED hj hd' (ow.up eG) (od.up eG) sn.1 sn.2 fun G' e' => k G' (eG.trans e')
theorem ref_head {ta : TA} {u2 u3 u4 : V} (ha : EvA ta σ H [v, u2, u3, u4]) (ED : ErrX K CS Cs 0 CH) (od : Odd H v d) (no : isHeadD d = false) (sn : SeenO d) (k : ∀ G', Ex H G' → Q (.bl true) G') :
    spRefused K CS Cs (fun E H' Q' => tMake C (spQuestInitO K C CH CT CC CB) [] E ta σ H' Q') [.ref fl, .str "head", v] H Q E0 :=
  ref_make ha ED rfl od od sn k fun p dx H1 QQ E e hp kb => ⟨p, dx, v, u2, u3, u4, d, rfl, hp, od.up e, .inl ⟨no, kb⟩⟩
theorem ref_tables {ta : TA} {u1 u2 u4 : V} {dh : PyData} (ha : EvA ta σ H [u1, u2, v, u4]) (ED : ErrX K CS Cs 1 CT) (oh : Odd H u1 dh) (yes : isHeadD dh = true) (od : Odd H v d) (no : isTablesD d = false) (sn : SeenO d) (k : ∀ G', Ex H G' → Q (.bl true) G') :
    spRefused K CS Cs (fun E H' Q' => tMake C (spQuestInitO K C CH CT CC CB) [] E ta σ H' Q') [.ref fl, .str "tables", v] H Q E0 :=
  ref_make ha ED rfl od od sn k fun p dx H1 QQ E e hp kb => ⟨p, dx, u1, u2, v, u4, dh, rfl, hp, oh.up e, .inr ⟨yes, d, od.up e, .inl ⟨no, kb⟩⟩⟩
structure Both (K : PySem.W.Frag) (H : Hp) (ah at_ : Addr) (hs : List Str) (ts : List (Addr × Str × Int)) (dh dt : PyData) : Prop where
  oh : Odd H (.ref ah) dh
  yh : isHeadD dh = true
  ot : Odd H (.ref at_) dt
  yt : isTablesD dt = true
  sh : SqT K H ah (hs.map V.str)
  st : TabsAt K H at_ ts
  many : ts.length ≤ 800
theorem Both.up {H' : Hp} {hs : List Str} {ts : List (Addr × Str × Int)} {dh dt : PyData} (e : Ex H H') (b : Both K H ah at_ hs ts dh dt) : Both K H' ah at_ hs ts dh dt := ⟨b.oh.up e, b.yh, b.ot.up e, b.yt, ex_t e b.sh, b.st.up e, b.many⟩
theorem ref_tables2 {ta : TA} {u2 u4 : V} {hs : List Str} {ts : List (Addr × Str × Int)} {dh : PyData} (ha : EvA ta σ H [.ref ah, u2, .ref at_, u4]) (ED : ErrX K CS Cs 1 CT) (B : Both K H ah at_ hs ts dh d) (inn : (ts.map fun t => inV (.str t.2.1) (hs.map V.str)).any id = true) (sn : SeenO d) (k : ∀ G', Ex H G' → Q (.bl true) G') :
    spRefused K CS Cs (fun E H' Q' => tMake C (spQuestInitO K C CH CT CC CB) [] E ta σ H' Q') [.ref fl, .str "tables", .ref at_] H Q E0 :=
  ref_make ha ED rfl B.ot B.ot sn k fun p dx H1 QQ E e hp kb => by
    have B1 := B.up e
    exact ⟨p, dx, .ref ah, u2, .ref at_, u4, dh, rfl, hp, B1.oh, .inr ⟨B1.yh, d, B1.ot, .inr ⟨B1.yt, ah, at_, hs, ts, rfl, B1.sh, rfl, B1.st, B1.many, .inl ⟨inn, kb⟩⟩⟩⟩
theorem ref_changed {ta : TA} {u2 : V} {hs : List Str} {ts : List (Addr × Str × Int)} {dh dt : PyData} (ha : EvA ta σ H [.ref ah, u2, .ref at_, v]) (ED : ErrX K CS Cs 2 CC) (B : Both K H ah at_ hs ts dh dt) (out : (ts.map fun t => inV (.str t.2.1) (hs.map V.str)).any id = false) (od : Odd H v d) (no : isIntD d 0 3 = false) (sn : SeenO d) (k : ∀ G', Ex H G' → Q (.bl true) G') :
    spRefused K CS Cs (fun E H' Q' => tMake C (spQuestInitO K C CH CT CC CB) [] E ta σ H' Q') [.ref fl, .str "changed", v] H Q E0 :=
  ref_make ha ED rfl od od sn k fun p dx H1 QQ E e hp kb => by
    have B1 := B.up e
    exact ⟨p, dx, .ref ah, u2, .ref at_, v, dh, rfl, hp, B1.oh, .inr ⟨B1.yh, dt, B1.ot, .inr ⟨B1.yt, ah, at_, hs, ts, rfl, B1.sh, rfl, B1.st, B1.many, .inr ⟨out, d, od.up e, .inl ⟨no, kb⟩⟩⟩⟩⟩
theorem ref_text {ta : TA} {u2 : V} {hs : List Str} {ts : List (Addr × Str × Int)} {dh dt : PyData} (ha : EvA ta σ H [.ref ah, u2, .ref at_, .int 0]) (ED : ErrX K CS Cs 3 CB) (B : Both K H ah at_ hs ts dh dt) (out : (ts.map fun t => inV (.str t.2.1) (hs.map V.str)).any id = false) (od : Odd H u2 d) (no : isS d = false) (k : ∀ G', Ex H G' → Q (.bl true) G') :
    spRefused K CS Cs (fun E H' Q' => tMake C (spQuestInitO K C CH CT CC CB) [] E ta σ H' Q') [.ref fl, .str "question", .int 0] H Q E0 :=
  ref_make (v := .int 0) (w := .int 0) (d := .int 0) ha ED rfl (.int 0) (.int 0) ⟨by show (0 : Int).natAbs.log2 < 1920; decide, .inl rfl⟩ k fun p dx H1 QQ E e hp kb => by
    have B1 := B.up e
    exact ⟨p, dx, .ref ah, u2, .ref at_, .int 0, dh, rfl, hp, B1.oh, .inr ⟨B1.yh, dt, B1.ot, .inr ⟨B1.yt, ah, at_, hs, ts, rfl, B1.sh, rfl, B1.st, B1.many, .inr ⟨out, .int 0, .int 0, .inr ⟨by decide, d, od.up e, no, kb⟩⟩⟩⟩⟩
theorem ref_none {ta : TA} (ha : EvA ta σ H [v]) (ED : ErrX K CS Cs 4 CN) (od : Odd H v d) (sn : SeenO d) (k : ∀ G', Ex H G' → Q (.bl true) G') :
    spRefused K CS Cs (fun E H' Q' => tCall (spCheckO CN) [] E ta σ H' Q') [.ref fl, .str "none", v] H Q E0 := by
  refine ⟨.ref fl, .non, v, "none", rfl, fun E' Q' kE => ?_⟩
  show tCall (spCheckO CN) [] E' ta σ H Q'
  refine ha H (Ex.refl H) _ fun H1 e1 => ?_
  refine ⟨v, d, rfl, od.up e1, fun d' G eG hd' => ?_⟩
  have e2 := e1.trans eG
  exact kE CN d' 4 v d G ED rfl hd' (od.up e2) (od.up e2) sn.1 sn.2 fun G' e' => k G' (e2.trans e')
end
end WL

set_option Elab.async false
set_option linter.all false
set_option maxRecDepth 100000
set_option maxHeartbeats 1000000
namespace WL
open PySem PySem.Spec PyProof.Rows L2 Evl LamX
def headL : List PyData := [.none, .list [.str "x"], .str "x", .tuple [.str "x", .str "x"], .tuple [.str "x", .str "y", .str "z", .str "u"], .tuple [.str "p"], .tuple [.str "some"], .tuple [.str "X"], .tuple [.int 1], .tuple [.str "abcdefg"]]
def tablesL : List PyData := [.none, .list [.tuple [.str "row", .int 2]], .tuple [.tuple [.str "row", .int 4]], .tuple [.tuple [.str "row", .int (-1)]], .tuple [.tuple [.str "row", .bool true]], .tuple [.tuple [.str "row", .int 2], .tuple [.str "row", .int 1]], .tuple [.tuple [.str "x", .int 1]], .tuple [.tuple [.str "p", .int 1]], .tuple [.tuple [.str "row"]], .tuple [.list [.str "row", .int 2]], .tuple [.tuple [.str "no", .int 1]], .str "row"]
def changedL : List PyData := [.none, .int (-1), .int 4, .bool true, .str "1", .tuple [.int 1], .list [.int 2]]
def textL : List PyData := [.none, .int 5, .list [.str "yes"], .tuple [.str "yes"], .bool true, .dict []]
def noneL : List PyData := [.none, .str "yes", .int 5, .tuple [], .list [.str "yes"]]
def seenB : PyData → Bool
  | .none => true
  | .bool _ => true
  | .int i => decide (i.natAbs.log2 < 1920)
  | .str x => decide ((reprText x).length ≤ 1000)
  | .dict [] => true
  | .dict _ => false
  | .list ds => (PyData.list ds).showable && (!(PyData.list ds).hasDict && (decide ((PyData.list ds).depth ≤ 60) && (decide ((PyData.list ds).shown.length ≤ 1000) && flatD (.list ds))))
  | .tuple ds => (PyData.tuple ds).showable && (!(PyData.tuple ds).hasDict && (decide ((PyData.tuple ds).depth ≤ 60) && (decide ((PyData.tuple ds).shown.length ≤ 1000) && flatD (.tuple ds))))
theorem seenB_of : ∀ {d : PyData}, seenB d = true → SeenO d
  | .none, _ => ⟨trivial, .inl rfl⟩
  | .bool _, _ => ⟨trivial, .inl rfl⟩
  | .int i, h => ⟨show i.natAbs.log2 < 1920 from of_decide_eq_true h, .inl rfl⟩
  | .str x, h => ⟨by have := of_decide_eq_true h; have := sizeLine_eq; show (reprText x).length ≤ sizeLine; omega, .inl rfl⟩
  | .dict [], _ => ⟨trivial, .inr rfl⟩
  | .dict (_ :: _), h => by cases h
  | .list ds, h => by
    unfold seenB at h
    rw [Bool.and_eq_true, Bool.and_eq_true, Bool.and_eq_true, Bool.and_eq_true] at h
    obtain ⟨h1, h2, h3, h4, h5⟩ := h
    refine ⟨⟨h1, by simpa using h2, of_decide_eq_true h3, ?_⟩, .inl h5⟩
    have := of_decide_eq_true h4
    have := sizeLine_eq
    omega
  | .tuple ds, h => by
    unfold seenB at h
    rw [Bool.and_eq_true, Bool.and_eq_true, Bool.and_eq_true, Bool.and_eq_true] at h
    obtain ⟨h1, h2, h3, h4, h5⟩ := h
    refine ⟨⟨h1, by simpa using h2, of_decide_eq_true h3, ?_⟩, .inl h5⟩
    have := of_decide_eq_true h4
    have := sizeLine_eq
    omega
theorem seen_all : (headL ++ tablesL ++ changedL ++ textL ++ noneL ++ oddL).all seenB = true := by decide +kernel
theorem head_no : (headL ++ oddL).all (fun d => !isHeadD d) = true := by decide +kernel
theorem tables_no : (tablesL.filter isTablesD) = [.tuple [.tuple [.str "x", .int 1]]] := by kernel_rfl
theorem changed_no : changedL.all (fun d => !isIntD d 0 3) = true := by decide +kernel
theorem text_no : textL.all (fun d => !isS d) = true := by decide +kernel
theorem head_ne : (headL ++ oddL).all (fun d => !PyData.eqv d (.tuple [])) = true := by decide +kernel
theorem head_shaped : (headL ++ oddL).all (fun d => (SeqAt.shaped d && flatD d) || (match d with | .dict [] => true | _ => false)) = true := by decide +kernel
theorem all_pot : potD.potDs (headL ++ noneL) = true := by decide +kernel
end WL

set_option Elab.async false
set_option linter.all false
set_option maxRecDepth 100000
set_option maxHeartbeats 1000000
namespace WL
open PySem PySem.Spec PyProof.Rows L2 Evl LamX
abbrev lamTr : Str := (envOfC "_law_are_texts_refused" (defScope sLawAreTextsRefused) 0 0 .none).qual ++ "<lambda>"
section
variable {P : Program} {w : World} {K : PySem.W.Frag} {mg : Str → Option Value} {base : Heap}
theorem q_ext {l : Addr} {xs : List V} {te : TE} {u : TS} {D : Ends} {σ : L2.St} {H : Hp} {i : Nat} {ds es : List PyData} (s : σ[i]? = some (some (.ref l))) (hl : H l = some (.lst xs)) (hx : OddAll H xs ds) (st : stillD.stillDs ds = true) (h : EvD te σ H (.list es)) (se : stillD.stillDs es = true) (hz : ds.length + es.length ≤ 1000)
    (k : ∀ H1 ys, But l H H1 → H1 l = some (.lst ys) → OddAll H1 ys (ds ++ es) → u D σ H1) : tSeq (tDrop (tBM K "list" rExtend (tVar i) (tCons te tNil))) u D σ H :=
  ⟨.ref l, s, .inl ⟨rfl, xs, sq_of hl⟩, h H (Ex.refl H) _ fun v H2 e2 o => by
    obtain ⟨b, zs, rfl, hb, hz', r⟩ := o.list_inv
    exact ⟨l, b, xs, zs, rfl, rfl, e2 _ _ hl, hb, by have := hx.len; have := r.len; have := sizeLine_eq; omega, k _ (xs ++ zs) ((But.ex e2).upd) upd_same (((hx.up e2).still (But.upd (But.refl l H2)) (e2 _ _ hl) _ _ st).app (r.still (But.upd (But.refl l H2)) (e2 _ _ hl) _ _ se))⟩⟩
theorem q_setDL {ta : TA} {u : TS} {D : Ends} {σ : L2.St} {H : Hp} {ds : List PyData} {i : Nat} (h : EvDs ta σ H ds) (hz : ds.length ≤ 1000) (k : ∀ p H1 xs, H p = none → Ex H H1 → H1 p = some (.lst xs) → OddAll H1 xs ds → u D (σ.set i (some (.ref p))) H1) : tSeq (tAsg (tLst ta) (gName i)) u D σ H :=
  h H (Ex.refl H) _ fun vs H2 e2 os => ⟨by have := os.len; have := sizeLine_eq; omega, fun p hp => k p _ vs (fresh_back e2 hp) (e2.trans (Ex.new hp)) upd_same (os.up (Ex.new hp))⟩
theorem ex_but {l : Addr} {H H1 H2 : Hp} (e : Ex H H1) (b : But l H1 H2) (n : H l = none) : Ex H H2 := fun c o hc => b c o (e c o hc) (ne_of_none hc n)
theorem g_trip {i j m : Nat} {T : Addr} {x y z : V} {σ : L2.St} {H : Hp} {R : L2.St → Hp → Prop} (hT : SqT K H T [x, y, z]) (h : R (((σ.set i (some x)).set j (some y)).set m (some z)) H) : gTup K 3 (gCons (gName i) (gCons (gName j) (gCons (gName m) gNil))) (.ref T) σ H R :=
  ⟨T, [x, y, z], rfl, hT, rfl, x, [y, z], rfl, y, [z], rfl, z, [], rfl, rfl, h⟩
theorem row_of {H : Hp} {L : List (Str × Nat × Nat)} : ∀ {vs : List V}, OddAll H vs (L.map row3) → ∀ x ∈ vs, ∃ e ∈ L, ∃ t, x = .ref t ∧ H t = some (.tup [.str e.1, .int (e.2.1 : Int), .int (e.2.2 : Int)]) := by
  induction L with
  | nil => intro vs h x hx; cases h; cases hx
  | cons e L ih =>
    intro vs h x hx
    cases h with
    | cons h r =>
      rcases List.mem_cons.mp hx with rfl | hx
      · obtain ⟨t, xs, rfl, ht, _, q⟩ := h.tuple_inv
        cases q with
        | cons q1 q =>
          cases q with
          | cons q2 q =>
            cases q with
            | cons q3 q =>
              cases q
              cases q1
              cases q2
              cases q3
              exact ⟨e, List.mem_cons_self, t, rfl, ht⟩
      · obtain ⟨e', he, z⟩ := ih r x hx
        exact ⟨e', List.mem_cons_of_mem _ he, z⟩
theorem log_k {m : Nat} (h : m < 1000) : (m : Int).natAbs.log2 < 1920 := PySem.Flt.log2_lt_of (by decide) (Nat.lt_of_lt_of_le (by rw [Int.natAbs_natCast]; exact h) (show 1000 ≤ 2 ^ 1920 by decide +kernel))
theorem still_rows (L : List (Str × Nat × Nat)) : stillD.stillDs (L.map row3) = true := by
  induction L with
  | nil => rfl
  | cons e L ih => show (true && stillD.stillDs (L.map row3)) = true; rw [ih]; rfl
def spTexts (K : PySem.W.Frag) (T : List (Addr × Str)) : Sp := fun vs H Q _ => ∃ (ah at_ a b c : Addr), vs = [.ref ah, .ref at_] ∧ SqT K H ah (hs3.map V.str) ∧ TabsAt K H at_ (ts3 a b c) ∧ Tabs T H ∧ ∀ H', ExtN H H' → Tabs T H' → Q (.bl true) H'
theorem ok_texts {f gr gi C CP CB CS Tb c : Addr} {fd gdr gdi : FuncData} {Cs : List Addr} {T : List (Addr × Str)} (F : Fun K "_law_are_texts_refused" "_law_are_texts_refused" sLawAreTextsRefused f fd) (TLw : TL mg) (hcode : fd.code = .ref c) (TB : TabB base mg c Tb) (hT : (Tb, lamTr) ∈ T) (hu : ∀ p ∈ T, p.1 = Tb → p.2 = lamTr) (TQ' : TQ K mg C) (EB : ErrX K CS Cs 3 CB)
    (GR : FnTh P w K mg base 26 23 gr gdr ["call", "word", "value"] (spRefused K CS Cs)) (mR : mg "_law_is_refused" = some (.ref gr)) (kR : PySem.W.keepIn K (.ref gr) = true) (bR : Binds K gdr ["call", "word", "value"] [])
    (GI : FnOk P w K mg base (L2.CX P w) 22 gi gdi ["self", "head", "text", "tables", "changed"] (spQuestInitX K C CP CB)) (MQ : Mk K C gi) (bI : Binds K gdi ["self", "head", "text", "tables", "changed"] []) : FnG P w K mg base 27 f fd ["head", "tables"] (spTexts K T) := by
  refine okC F scLawAreTextsRefused (fun vs H Q E h => ?_) (fun cdv A outer s H vs Q E hcd hr gu h => ?_)
  · obtain ⟨ah, at_, a, b, c, rfl, _⟩ := h
    rfl
  rw [hcode] at hcd
  subst hcd
  obtain ⟨ah, at_, a, b, c0, rfl, h1, h2, hTabs, kk⟩ := h
  refine ⟨_, pss_cons (ps_set (i := 2) scLawAreTextsRefused.nd rfl (Or.inl rfl) (pe_lst (pa_cons (pe_tup (pa_cons pe_str (pa_cons pe_int (pa_cons pe_int pa_nil)))) (pa_cons (pe_tup (pa_cons pe_str (pa_cons pe_int (pa_cons pe_int pa_nil)))) (pa_cons (pe_tup (pa_cons pe_str (pa_cons pe_int (pa_cons pe_int pa_nil)))) (pa_cons (pe_tup (pa_cons pe_str (pa_cons pe_int (pa_cons pe_int pa_nil)))) (pa_cons (pe_tup (pa_cons pe_str (pa_cons pe_int (pa_cons pe_int pa_nil)))) (pa_cons (pe_tup (pa_cons pe_str (pa_cons pe_int (pa_cons pe_int pa_nil)))) (pa_cons (pe_tup (pa_cons pe_str (pa_cons pe_int (pa_cons pe_int pa_nil)))) (pa_cons (pe_tup (pa_cons pe_str (pa_cons pe_int (pa_cons pe_int pa_nil)))) pa_nil))))))))))
    (pss_cons (ps_expr (pe_bm PySem.F.plainAttrs_list PySem.F.slot_list_extend PySem.F.type_list_extend mt_extend (pv 2) (pa_cons (pe_lst (pa_cons (pe_tup (pa_cons pe_str (pa_cons pe_int (pa_cons pe_int pa_nil)))) (pa_cons (pe_tup (pa_cons pe_str (pa_cons pe_int (pa_cons pe_int pa_nil)))) (pa_cons (pe_tup (pa_cons pe_str (pa_cons pe_int (pa_cons pe_int pa_nil)))) (pa_cons (pe_tup (pa_cons pe_str (pa_cons pe_int (pa_cons pe_int pa_nil)))) (pa_cons (pe_tup (pa_cons pe_str (pa_cons pe_int (pa_cons pe_int pa_nil)))) (pa_cons (pe_tup (pa_cons pe_str (pa_cons pe_int (pa_cons pe_int pa_nil)))) pa_nil))))))) pa_nil)))
    (pss_cons (ps_expr (pe_bm PySem.F.plainAttrs_list PySem.F.slot_list_extend PySem.F.type_list_extend mt_extend (pv 2) (pa_cons (pe_lst (pa_cons (pe_tup (pa_cons pe_str (pa_cons pe_int (pa_cons pe_int pa_nil)))) (pa_cons (pe_tup (pa_cons pe_str (pa_cons pe_int (pa_cons pe_int pa_nil)))) (pa_cons (pe_tup (pa_cons pe_str (pa_cons pe_int (pa_cons pe_int pa_nil)))) (pa_cons (pe_tup (pa_cons pe_str (pa_cons pe_int (pa_cons pe_int pa_nil)))) (pa_cons (pe_tup (pa_cons (pe_op op_add_str (pe_op op_mulS pe_str pe_int) pe_str) (pa_cons pe_int (pa_cons pe_int pa_nil)))) (pa_cons (pe_tup (pa_cons pe_str (pa_cons pe_int (pa_cons pe_int pa_nil)))) (pa_cons (pe_tup (pa_cons pe_str (pa_cons pe_int (pa_cons pe_int pa_nil)))) (pa_cons (pe_tup (pa_cons pe_str (pa_cons pe_int (pa_cons pe_int pa_nil)))) pa_nil))))))))) pa_nil)))
    (pss_cons (ps_for PassesOwn.never rfl (pi_list (pv 2)) (pg_tup rfl (pgs_cons (pg_name (i := 3) scLawAreTextsRefused.nd rfl (Or.inr rfl)) (pgs_cons (pg_name (i := 4) scLawAreTextsRefused.nd rfl (Or.inr rfl)) (pgs_cons (pg_name (i := 5) scLawAreTextsRefused.nd rfl (Or.inl rfl)) pgs_nil))))
      (pss_one (ps_if (pt_not (pt_val (pe_lamTh (T := T) (t := fun E => tMake C (spQuestInitX K C CP CB) [] E (tCons (tVar 0) (tCons (tVar 3) (tCons (tVar 1) (tCons (tVar 4) tNil))))) GR rfl rfl hr gu (by rfl) mR kR bR TB rfl rfl hT hu (lamS_by (by rfl)) rfl (fun _ _ _ _ _ => rfl)
        (fun A outer s H E f c' hr2 => pe_make MQ GI hr2 (by rfl) TQ'.mgC bI .nil (passes_call (takes_of rfl rfl rfl rfl) (fun _ _ _ _ h => h)) (pa_cons (pv 0) (pa_cons (pv 3) (pa_cons (pv 1) (pa_cons (pv 4) pa_nil)))))
        (pa_cons pe_str (pa_cons (pv 5) pa_nil))))) (pss_one (ps_ret pe_bl)) pss_nil)))
    (pss_one (ps_ret pe_bl))))), ?_⟩
  have two : ∀ e ∈ (texts0 ++ texts1) ++ texts2, okT (ts3 a b c0) e = true := List.all_eq_true.mp (texts_ok a b c0)
  refine q_setDL (ds := texts0.map row3) (eds_cons (ed_tup (eds_cons (ed_str (by decide)) (eds_cons ed_int (eds_cons ed_int eds_nil))) (show 3 ≤ 1000 by decide)) (eds_cons (ed_tup (eds_cons (ed_str (by decide)) (eds_cons ed_int (eds_cons ed_int eds_nil))) (show 3 ≤ 1000 by decide)) (eds_cons (ed_tup (eds_cons (ed_str (by decide)) (eds_cons ed_int (eds_cons ed_int eds_nil))) (show 3 ≤ 1000 by decide)) (eds_cons (ed_tup (eds_cons (ed_str (by decide)) (eds_cons ed_int (eds_cons ed_int eds_nil))) (show 3 ≤ 1000 by decide)) (eds_cons (ed_tup (eds_cons (ed_str (by decide)) (eds_cons ed_int (eds_cons ed_int eds_nil))) (show 3 ≤ 1000 by decide)) (eds_cons (ed_tup (eds_cons (ed_str (by decide)) (eds_cons ed_int (eds_cons ed_int eds_nil))) (show 3 ≤ 1000 by decide)) (eds_cons (ed_tup (eds_cons (ed_str (by decide)) (eds_cons ed_int (eds_cons ed_int eds_nil))) (show 3 ≤ 1000 by decide)) (eds_cons (ed_tup (eds_cons (ed_str (by decide)) (eds_cons ed_int (eds_cons ed_int eds_nil))) (show 3 ≤ 1000 by decide)) eds_nil)))))))) (show 8 ≤ 1000 by decide) fun l H1 xs hl0 e1 hl1 o1 => ?_
  refine q_ext (ds := texts0.map row3) (es := texts1.map row3) rfl hl1 o1 (still_rows _) (ed_lst (eds_cons (ed_tup (eds_cons (ed_str (by decide)) (eds_cons ed_int (eds_cons ed_int eds_nil))) (show 3 ≤ 1000 by decide)) (eds_cons (ed_tup (eds_cons (ed_str (by decide)) (eds_cons ed_int (eds_cons ed_int eds_nil))) (show 3 ≤ 1000 by decide)) (eds_cons (ed_tup (eds_cons (ed_str (by decide)) (eds_cons ed_int (eds_cons ed_int eds_nil))) (show 3 ≤ 1000 by decide)) (eds_cons (ed_tup (eds_cons (ed_str (by decide)) (eds_cons ed_int (eds_cons ed_int eds_nil))) (show 3 ≤ 1000 by decide)) (eds_cons (ed_tup (eds_cons (ed_str (by decide)) (eds_cons ed_int (eds_cons ed_int eds_nil))) (show 3 ≤ 1000 by decide)) (eds_cons (ed_tup (eds_cons (ed_str (by decide)) (eds_cons ed_int (eds_cons ed_int eds_nil))) (show 3 ≤ 1000 by decide)) eds_nil)))))) (show 6 ≤ 1000 by decide)) (still_rows _) (show 8 + 6 ≤ 1000 by decide) fun H2 ys2 b2 hl2 o2 => ?_
  rw [← List.map_append] at o2
  refine q_ext (ds := (texts0 ++ texts1).map row3) (es := texts2.map row3) rfl hl2 o2 (still_rows _) (ed_lst (eds_cons (ed_tup (eds_cons (ed_str (by decide)) (eds_cons ed_int (eds_cons ed_int eds_nil))) (show 3 ≤ 1000 by decide)) (eds_cons (ed_tup (eds_cons (ed_str (by decide)) (eds_cons ed_int (eds_cons ed_int eds_nil))) (show 3 ≤ 1000 by decide)) (eds_cons (ed_tup (eds_cons (ed_str (by decide)) (eds_cons ed_int (eds_cons ed_int eds_nil))) (show 3 ≤ 1000 by decide)) (eds_cons (ed_tup (eds_cons (ed_str (by decide)) (eds_cons ed_int (eds_cons ed_int eds_nil))) (show 3 ≤ 1000 by decide)) (eds_cons (ed_tup (eds_cons (ed_ev (ev_addS (ev_mulS ev_c ev_c mul_not14) ev_c (by decide +kernel)) fun _ _ => .str _ (by decide +kernel)) (eds_cons ed_int (eds_cons ed_int eds_nil))) (show 3 ≤ 1000 by decide)) (eds_cons (ed_tup (eds_cons (ed_str (by decide)) (eds_cons ed_int (eds_cons ed_int eds_nil))) (show 3 ≤ 1000 by decide)) (eds_cons (ed_tup (eds_cons (ed_str (by decide)) (eds_cons ed_int (eds_cons ed_int eds_nil))) (show 3 ≤ 1000 by decide)) (eds_cons (ed_tup (eds_cons (ed_str (by decide)) (eds_cons ed_int (eds_cons ed_int eds_nil))) (show 3 ≤ 1000 by decide)) eds_nil)))))))) (show 8 ≤ 1000 by decide)) (still_rows _) (show 14 + 8 ≤ 1000 by decide) fun H3 ys b3 hl3 o3 => ?_
  rw [← List.map_append] at o3
  have eH : Ex H H3 := ex_but (ex_but e1 b2 hl0) b3 hl0
  have rows := row_of o3
  have h1' := ex_t eH h1
  have h2' := h2.up eH
  have T3 : Tabs T H3 := hTabs.ext eH
  clear o3 o2 o1
  refine for_listW (K := K) (a := l) (xs := ys) (fun σ' H' => (∃ v3 v4 v5, σ' = [some (V.ref ah), some (V.ref at_), some (V.ref l), v3, v4, v5]) ∧ ExtN H3 H' ∧ Tabs T H') (fun R r => wi_list (ev_var rfl) (sq_of hl3) H3 (Ex.refl H3) R r) (fun H4 e4 => ⟨⟨_, _, _, rfl⟩, ExtN.of e4, T3.ext e4⟩) (fun σ' H' iv => sq_of (iv.2.1 _ _ hl3 fun ps z => by cases z)) (fun x hx σ' H' iv => ?_) (fun σ' H' iv => ?_)
  · obtain ⟨⟨v3, v4, v5, rfl⟩, eN, T4⟩ := iv
    obtain ⟨⟨text, ch, m⟩, he, t, rfl, ht⟩ := rows x hx
    obtain ⟨k1, k2, k3, k4, k5⟩ := okT_of (two _ he)
    refine g_trip (st_of (eN _ _ ht fun ps z => by cases z)) ?_
    refine ⟨T4, fun H5 eN5 T5 c' hc' => ⟨_, rfl, hc', fun fl => ⟨.ref fl, .str "question", .int (m : Int), "question", rfl, fun E' Q' kE => ?_⟩⟩⟩
    refine ⟨_, rfl, _, rfl, _, rfl, _, rfl, fun x dx hx hdx hne => ?_⟩
    have em : Ex H5 (upd (upd H5 dx (.own x)) x (.ins C dx [])) := (Ex.new hdx).trans (Ex.new (by rw [upd_ne (Ne.symm hne)]; exact hx))
    have eN3 : ExtN H3 H5 := eN.trans eN5
    refine ⟨x, dx, ah, at_, text, hs3, ts3 a b c0, ch, rfl, upd_same, ex_t em (extN_t eN3 h1'), (extN_tabs eN3 h2').up em, right3 a b c0 k2 k3 k4, fun t ht => (by rw [k1] at ht; cases ht), fun m' hm' d' G b4 hd' => ?_⟩
    rw [k1] at hm'
    cases hm'
    have e34 : Ex H5 G := fun b o hb => b4 b o (em b o hb) fun y => by rw [y, hx] at hb; cases hb
    refine kE CB d' 3 (.int (m : Int)) (.int (m : Int)) G EB rfl hd' (.int _) (.int _) (log_k k5) (.inl rfl) fun G' eG => ?_
    exact ⟨true, rfl, ⟨_, _, _, rfl⟩, eN3.trans (ExtN.of (e34.trans eG)), T5.ext (e34.trans eG)⟩
  · obtain ⟨⟨v3, v4, v5, rfl⟩, eN, T4⟩ := iv
    show tRet (tC (V.bl true)) { nx := fun x H' => Q V.non H', rt := Q } [some (V.ref ah), some (V.ref at_), some (V.ref l), v3, v4, v5] H'
    exact s_ret (v := .bl true) ev_c fun H5 e5 => kk H5 ((ExtN.of eH).trans (eN.trans (ExtN.of e5))) (T4.ext e5)
end
end WL

set_option Elab.async false
set_option linter.all false
set_option maxRecDepth 100000
set_option maxHeartbeats 1000000
namespace WL
open PySem PySem.Spec PyProof.Rows L2 Evl LamX
section
variable {K : PySem.W.Frag} {σ : L2.St} {H : Hp} {te : TE}
theorem log_small {i : Int} (h : i.natAbs < 10 ^ 12) : i.natAbs.log2 < 1920 := PySem.Flt.log2_lt_of (by decide) (Nat.lt_of_lt_of_le h (by decide +kernel))
theorem repr3 {i j : Int} {b : Bool} (hi : i.natAbs < 10 ^ 12) (hj : j.natAbs < 10 ^ 12) : (PyData.tuple [.int i, .bool b, .int j]).showable = true ∧ (PyData.tuple [.int i, .bool b, .int j]).hasDict = false ∧ (PyData.tuple [.int i, .bool b, .int j]).depth ≤ 60 ∧ (PyData.tuple [.int i, .bool b, .int j]).shown.length ≤ sizeLine := by
  refine ⟨?_, rfl, (by show (1 : Nat) ≤ 60; decide), ?_⟩
  · show (decide (i.natAbs.log2 < 1920) && (true && (decide (j.natAbs.log2 < 1920) && true))) = true
    rw [decide_eq_true (log_small hi), decide_eq_true (log_small hj)]
    rfl
  · have q := PyData.shown_le_bulk 13 (by decide) (PyData.tuple [.int i, .bool b, .int j]) (by
      show (decide ((PyData.int i).shown.length ≤ 13) && (true && (decide ((PyData.int j).shown.length ≤ 13) && true))) = true
      rw [decide_eq_true (PyData.shown_int_le hi), decide_eq_true (PyData.shown_int_le hj)]
      rfl)
    exact Nat.le_trans q (by show (13 + 2) * 3 + 13 ≤ sizeLine; decide)
theorem dp3 {a : Addr} {i j : Int} {b : Bool} (h : SqT K H a [.int i, .bl b, .int j]) : Dp K H (.ref a) (.tuple [.int i, .bool b, .int j]) := .tup h (.cons (.int i) (.cons (.bl b) (.cons (.int j) .nil)))
theorem ev_repr3 {i j : Int} {b : Bool} (h : EvU te σ H [.int i, .bl b, .int j]) (hi : i.natAbs < 10 ^ 12) (hj : j.natAbs < 10 ^ 12) : Ev (tCB (rReprD K) (tCons te tNil)) σ H (.str (PyData.tuple [.int i, .bool b, .int j]).shown) := fun H1 e Q q =>
  h H1 e _ fun p H2 hp e2 h2 => by
    obtain ⟨r1, r2, r3, r4⟩ := repr3 (b := b) hi hj
    exact ⟨p, _, rfl, dp3 (st_of h2), r1, r2, r3, r4, q H2 e2⟩
theorem pass_no {X : Cx} {P : Program} {w : World} : Passes (L2.CX P w) X E0 := fun _ _ _ _ _ _ _ c => by
  obtain ⟨_, _, _, _, _, _, _, _, _, _, _, _, z⟩ := c
  exact z.elim
end
def told0 : List (Str × Nat × Nat × Bool × Nat) := [("yes", 0, 1, true, 2), ("same x y", 0, 1, true, 2), ("row x y", 0, 1, true, 2), ("flag", 0, 1, true, 2), ("not flag", 0, 2, true, 2)]
def told1 : List (Str × Nat × Nat × Bool × Nat) := [("some u and row x u row u y", 0, 3, true, 3), ("every x some y row x y", 0, 3, true, 2), ("some u some v some w same u w", 0, 4, true, 2)]
def told2 : List (Str × Nat × Nat × Bool × Nat) := [("reach x y u v row u v", 0, 2, false, 2), ("reach x y x y row x y", 0, 2, false, 2), ("not reach p q u v or row u v row v u", 2, 4, false, 2)]
def told3 : List (Str × Nat × Nat × Bool × Nat) := [("some u some v some w and row u v row w x", 0, 5, true, 4), ("some w reach x w u v and row u v row v w", 0, 4, false, 3)]
def told4 : List (Str × Nat × Nat × Bool × Nat) := [("less p r", 3, 1, true, 2), ("some x reach x y y x no", 0, 3, false, 2), ((((Txt.mul "and " 13 : Str) ++ "yes" : Str) ++ (Txt.mul " no" 13 : Str) : Str), 0, 14, true, 2)]
def okD (ts : List (Addr × Str × Int)) (e : Str × Nat × Nat × Bool × Nat) : Bool := (match rdWhole ts (hs3 ++ changedS.take e.2.1) (Txt.split e.1 " ") with | .inl _ => false | .inr t => t.depth == e.2.2.1 && (!inV (.str "reach") (t.words.map V.str)) == e.2.2.2.1 && max 2 t.most == e.2.2.2.2) && (decide (e.2.1 ≤ 3) && (decide (e.1.length ≤ 20000) && ((Txt.split e.1 " ").all (fun x => decide (x.length ≤ 20000)) && (decide (e.2.2.1 < 1000) && decide (e.2.2.2.2 < 1000)))))
theorem told_ok (a b c : Addr) : (((((told0 ++ told1) ++ told2) ++ told3) ++ told4).all (okD (ts3 a b c))) = true := by kernel_rfl
theorem okD_of {ts : List (Addr × Str × Int)} {e : Str × Nat × Nat × Bool × Nat} (h : okD ts e = true) : (∃ t, rdWhole ts (hs3 ++ changedS.take e.2.1) (Txt.split e.1 " ") = .inr t ∧ t.depth = e.2.2.1 ∧ (!inV (.str "reach") (t.words.map V.str)) = e.2.2.2.1 ∧ max 2 t.most = e.2.2.2.2) ∧ e.2.1 ≤ 3 ∧ e.1.length ≤ 20000 ∧ (∀ x ∈ Txt.split e.1 " ", x.length ≤ 20000) ∧ e.2.2.1 < 1000 ∧ e.2.2.2.2 < 1000 := by
  unfold okD at h
  rw [Bool.and_eq_true, Bool.and_eq_true, Bool.and_eq_true, Bool.and_eq_true, Bool.and_eq_true] at h
  obtain ⟨h1, h2, h3, h4, h5, h6⟩ := h
  refine ⟨?_, of_decide_eq_true h2, of_decide_eq_true h3, fun x hx => of_decide_eq_true (List.all_eq_true.mp h4 x hx), of_decide_eq_true h5, of_decide_eq_true h6⟩
  split at h1
  · cases h1
  · rename_i t ht
    rw [Bool.and_eq_true, Bool.and_eq_true] at h1
    exact ⟨t, ht, beq_iff_eq.mp h1.1.1, beq_iff_eq.mp h1.1.2, beq_iff_eq.mp h1.2⟩
abbrev row5 (e : Str × Nat × Nat × Bool × Nat) : PyData := .tuple [.str e.1, .int (e.2.1 : Int), .int (e.2.2.1 : Int), .bool e.2.2.2.1, .int (e.2.2.2.2 : Int)]
theorem row5_of {H : Hp} {L : List (Str × Nat × Nat × Bool × Nat)} : ∀ {vs : List V}, OddAll H vs (L.map row5) → ∀ x ∈ vs, ∃ e ∈ L, ∃ t, x = .ref t ∧ H t = some (.tup [.str e.1, .int (e.2.1 : Int), .int (e.2.2.1 : Int), .bl e.2.2.2.1, .int (e.2.2.2.2 : Int)]) := by
  induction L with
  | nil => intro vs h x hx; cases h; cases hx
  | cons e L ih =>
    intro vs h x hx
    cases h with
    | cons h r =>
      rcases List.mem_cons.mp hx with rfl | hx
      · obtain ⟨t, xs, rfl, ht, _, q⟩ := h.tuple_inv
        cases q with
        | cons q1 q =>
          cases q with
          | cons q2 q =>
            cases q with
            | cons q3 q =>
              cases q with
              | cons q4 q =>
                cases q with
                | cons q5 q =>
                  cases q
                  cases q1
                  cases q2
                  cases q3
                  cases q4
                  cases q5
                  exact ⟨e, List.mem_cons_self, t, rfl, ht⟩
      · obtain ⟨e', he, z⟩ := ih r x hx
        exact ⟨e', List.mem_cons_of_mem _ he, z⟩
theorem still_rows5 (L : List (Str × Nat × Nat × Bool × Nat)) : stillD.stillDs (L.map row5) = true := by
  induction L with
  | nil => rfl
  | cons e L ih => show (true && stillD.stillDs (L.map row5)) = true; rw [ih]; rfl
theorem g_five {i j m n o : Nat} {T : Addr} {x y z u v : V} {K : PySem.W.Frag} {σ : L2.St} {H : Hp} {R : L2.St → Hp → Prop} (hT : SqT K H T [x, y, z, u, v]) (h : R (((((σ.set i (some x)).set j (some y)).set m (some z)).set n (some u)).set o (some v)) H) : gTup K 5 (gCons (gName i) (gCons (gName j) (gCons (gName m) (gCons (gName n) (gCons (gName o) gNil))))) (.ref T) σ H R :=
  ⟨T, [x, y, z, u, v], rfl, hT, rfl, x, [y, z, u, v], rfl, y, [z, u, v], rfl, z, [u, v], rfl, u, [v], rfl, v, [], rfl, rfl, h⟩
section
variable {P : Program} {w : World} {K : PySem.W.Frag} {mg : Str → Option Value} {base : Heap}
abbrev nTo : List Str := ["head", "tables", "some", "text", "changed", "deep", "is_loopless", "wide", "act"]
theorem scLawAreTold : FnScope nTo ["head", "tables"] (defScope sLawAreTold) := ⟨rfl, rfl, rfl, by decide +kernel, rfl, by decide +kernel, by decide +kernel⟩
def spTold : Sp := fun vs H Q _ => ∃ (K : PySem.W.Frag) (ah at_ a b c : Addr), vs = [.ref ah, .ref at_] ∧ True
def spAreTold (K : PySem.W.Frag) : Sp := fun vs H Q _ => ∃ (ah at_ a b c : Addr), vs = [.ref ah, .ref at_] ∧ SqT K H ah (hs3.map V.str) ∧ TabsAt K H at_ (ts3 a b c) ∧ RetV (.bl true) H Q
theorem ok_areTold {f gw gi C CP CB : Addr} {fd gdw gdi : FuncData} (F : Fun K "_law_are_told" "_law_are_told" sLawAreTold f fd) (TLw : TL mg) (TQ' : TQ K mg C) (GW : FVal P w K mg base "width" gw gdw 2 ["question"] (spWidth K C CP))
    (GI : FnOk P w K mg base (L2.CX P w) 22 gi gdi ["self", "head", "text", "tables", "changed"] (spQuestInitX K C CP CB)) (MQ : Mk K C gi) (bI : Binds K gdi ["self", "head", "text", "tables", "changed"] []) : FnG P w K mg base 24 f fd ["head", "tables"] (spAreTold K) := by
  refine okG F scLawAreTold (fun vs H Q E h => ?_) (fun cdv A outer s H vs Q E hr gu h => ?_)
  · obtain ⟨ah, at_, a, b, c, rfl, _⟩ := h
    rfl
  obtain ⟨ah, at_, a, b, c0, rfl, h1, h2, kk⟩ := h
  have hr2 : Room 2 _ := hr.mono (by decide)
  refine ⟨_, pss_cons (ps_set (i := 2) scLawAreTold.nd rfl (Or.inl rfl) (pe_lst (pa_cons (pe_tup (pa_cons pe_str (pa_cons pe_int (pa_cons pe_int (pa_cons pe_bl (pa_cons pe_int pa_nil)))))) (pa_cons (pe_tup (pa_cons pe_str (pa_cons pe_int (pa_cons pe_int (pa_cons pe_bl (pa_cons pe_int pa_nil)))))) (pa_cons (pe_tup (pa_cons pe_str (pa_cons pe_int (pa_cons pe_int (pa_cons pe_bl (pa_cons pe_int pa_nil)))))) (pa_cons (pe_tup (pa_cons pe_str (pa_cons pe_int (pa_cons pe_int (pa_cons pe_bl (pa_cons pe_int pa_nil)))))) (pa_cons (pe_tup (pa_cons pe_str (pa_cons pe_int (pa_cons pe_int (pa_cons pe_bl (pa_cons pe_int pa_nil)))))) pa_nil)))))))
    (pss_cons (ps_expr (pe_bm PySem.F.plainAttrs_list PySem.F.slot_list_extend PySem.F.type_list_extend mt_extend (pv 2) (pa_cons (pe_lst (pa_cons (pe_tup (pa_cons pe_str (pa_cons pe_int (pa_cons pe_int (pa_cons pe_bl (pa_cons pe_int pa_nil)))))) (pa_cons (pe_tup (pa_cons pe_str (pa_cons pe_int (pa_cons pe_int (pa_cons pe_bl (pa_cons pe_int pa_nil)))))) (pa_cons (pe_tup (pa_cons pe_str (pa_cons pe_int (pa_cons pe_int (pa_cons pe_bl (pa_cons pe_int pa_nil)))))) pa_nil)))) pa_nil))) (pss_cons (ps_expr (pe_bm PySem.F.plainAttrs_list PySem.F.slot_list_extend PySem.F.type_list_extend mt_extend (pv 2) (pa_cons (pe_lst (pa_cons (pe_tup (pa_cons pe_str (pa_cons pe_int (pa_cons pe_int (pa_cons pe_bl (pa_cons pe_int pa_nil)))))) (pa_cons (pe_tup (pa_cons pe_str (pa_cons pe_int (pa_cons pe_int (pa_cons pe_bl (pa_cons pe_int pa_nil)))))) (pa_cons (pe_tup (pa_cons pe_str (pa_cons pe_int (pa_cons pe_int (pa_cons pe_bl (pa_cons pe_int pa_nil)))))) pa_nil)))) pa_nil))) (pss_cons (ps_expr (pe_bm PySem.F.plainAttrs_list PySem.F.slot_list_extend PySem.F.type_list_extend mt_extend (pv 2) (pa_cons (pe_lst (pa_cons (pe_tup (pa_cons pe_str (pa_cons pe_int (pa_cons pe_int (pa_cons pe_bl (pa_cons pe_int pa_nil)))))) (pa_cons (pe_tup (pa_cons pe_str (pa_cons pe_int (pa_cons pe_int (pa_cons pe_bl (pa_cons pe_int pa_nil)))))) pa_nil))) pa_nil))) (pss_cons (ps_expr (pe_bm PySem.F.plainAttrs_list PySem.F.slot_list_extend PySem.F.type_list_extend mt_extend (pv 2) (pa_cons (pe_lst (pa_cons (pe_tup (pa_cons pe_str (pa_cons pe_int (pa_cons pe_int (pa_cons pe_bl (pa_cons pe_int pa_nil)))))) (pa_cons (pe_tup (pa_cons pe_str (pa_cons pe_int (pa_cons pe_int (pa_cons pe_bl (pa_cons pe_int pa_nil)))))) (pa_cons (pe_tup (pa_cons (pe_op op_add_str (pe_op op_add_str (pe_op op_mulS pe_str pe_int) pe_str) (pe_op op_mulS pe_str pe_int)) (pa_cons pe_int (pa_cons pe_int (pa_cons pe_bl (pa_cons pe_int pa_nil)))))) pa_nil)))) pa_nil))) 
    (pss_cons (ps_for PassesOwn.never rfl (pi_list (pv 2)) (pg_tup rfl (pgs_cons (pg_name (i := 3) scLawAreTold.nd rfl (Or.inl rfl)) (pgs_cons (pg_name (i := 4) scLawAreTold.nd rfl (Or.inl rfl)) (pgs_cons (pg_name (i := 5) scLawAreTold.nd rfl (Or.inl rfl)) (pgs_cons (pg_name (i := 6) scLawAreTold.nd rfl (Or.inl rfl)) (pgs_cons (pg_name (i := 7) scLawAreTold.nd rfl (Or.inl rfl)) pgs_nil))))))
      (pss_cons (ps_set (i := 8) scLawAreTold.nd rfl (Or.inl rfl) (pe_make MQ GI hr (by rfl) TQ'.mgC bI .nil (E := E0) pass_no (pa_cons (pv 0) (pa_cons (pv 3) (pa_cons (pv 1) (pa_cons (pv 4) pa_nil))))))
      (pss_one (ps_if (pt_cmpR op_ne (pe_callB (call_reprD gu hr.units) (by rfl) TLw.repr (by decide +kernel) (pa_cons (pe_tup (pa_cons (pe_fld (pv 8) rfl) (pa_cons (pe_fld (pv 8) rfl) (pa_cons (pe_call GW.ok hr2 (by rfl) GW.mg GW.kp GW.b .nil pass0 (pa_cons (pv 8) pa_nil)) pa_nil)))) pa_nil))
        (pe_callB (call_reprD gu hr.units) (by rfl) TLw.repr (by decide +kernel) (pa_cons (pe_tup (pa_cons (pv 5) (pa_cons (pv 6) (pa_cons (pv 7) pa_nil)))) pa_nil)) (nomark _)) (pss_one (ps_ret pe_bl)) pss_nil))))
    (pss_one (ps_ret pe_bl))))))), ?_⟩
  have two := List.all_eq_true.mp (told_ok a b c0)
  refine q_setDL (ds := told0.map row5) (eds_cons (ed_tup (eds_cons (ed_str (by decide)) (eds_cons ed_int (eds_cons ed_int (eds_cons ed_bl (eds_cons ed_int eds_nil))))) (show 5 ≤ 1000 by decide)) (eds_cons (ed_tup (eds_cons (ed_str (by decide)) (eds_cons ed_int (eds_cons ed_int (eds_cons ed_bl (eds_cons ed_int eds_nil))))) (show 5 ≤ 1000 by decide)) (eds_cons (ed_tup (eds_cons (ed_str (by decide)) (eds_cons ed_int (eds_cons ed_int (eds_cons ed_bl (eds_cons ed_int eds_nil))))) (show 5 ≤ 1000 by decide)) (eds_cons (ed_tup (eds_cons (ed_str (by decide)) (eds_cons ed_int (eds_cons ed_int (eds_cons ed_bl (eds_cons ed_int eds_nil))))) (show 5 ≤ 1000 by decide)) (eds_cons (ed_tup (eds_cons (ed_str (by decide)) (eds_cons ed_int (eds_cons ed_int (eds_cons ed_bl (eds_cons ed_int eds_nil))))) (show 5 ≤ 1000 by decide)) eds_nil))))) (show 5 ≤ 1000 by decide) fun l H1 xs hl0 e1 hl1 o1 => ?_
  refine q_ext (ds := told0.map row5) (es := told1.map row5) rfl hl1 o1 (still_rows5 _) (ed_lst (eds_cons (ed_tup (eds_cons (ed_str (by decide)) (eds_cons ed_int (eds_cons ed_int (eds_cons ed_bl (eds_cons ed_int eds_nil))))) (show 5 ≤ 1000 by decide)) (eds_cons (ed_tup (eds_cons (ed_str (by decide)) (eds_cons ed_int (eds_cons ed_int (eds_cons ed_bl (eds_cons ed_int eds_nil))))) (show 5 ≤ 1000 by decide)) (eds_cons (ed_tup (eds_cons (ed_str (by decide)) (eds_cons ed_int (eds_cons ed_int (eds_cons ed_bl (eds_cons ed_int eds_nil))))) (show 5 ≤ 1000 by decide)) eds_nil))) (show 3 ≤ 1000 by decide)) (still_rows5 _) (show 5 + 3 ≤ 1000 by decide) fun H2 ys2 b2 hl2 o2 => ?_
  rw [← List.map_append] at o2
  refine q_ext (ds := (told0 ++ told1).map row5) (es := told2.map row5) rfl hl2 o2 (still_rows5 _) (ed_lst (eds_cons (ed_tup (eds_cons (ed_str (by decide)) (eds_cons ed_int (eds_cons ed_int (eds_cons ed_bl (eds_cons ed_int eds_nil))))) (show 5 ≤ 1000 by decide)) (eds_cons (ed_tup (eds_cons (ed_str (by decide)) (eds_cons ed_int (eds_cons ed_int (eds_cons ed_bl (eds_cons ed_int eds_nil))))) (show 5 ≤ 1000 by decide)) (eds_cons (ed_tup (eds_cons (ed_str (by decide)) (eds_cons ed_int (eds_cons ed_int (eds_cons ed_bl (eds_cons ed_int eds_nil))))) (show 5 ≤ 1000 by decide)) eds_nil))) (show 3 ≤ 1000 by decide)) (still_rows5 _) (show 8 + 3 ≤ 1000 by decide) fun H3 ys3 b3 hl3 o3 => ?_
  rw [← List.map_append] at o3
  refine q_ext (ds := ((told0 ++ told1) ++ told2).map row5) (es := told3.map row5) rfl hl3 o3 (still_rows5 _) (ed_lst (eds_cons (ed_tup (eds_cons (ed_str (by decide)) (eds_cons ed_int (eds_cons ed_int (eds_cons ed_bl (eds_cons ed_int eds_nil))))) (show 5 ≤ 1000 by decide)) (eds_cons (ed_tup (eds_cons (ed_str (by decide)) (eds_cons ed_int (eds_cons ed_int (eds_cons ed_bl (eds_cons ed_int eds_nil))))) (show 5 ≤ 1000 by decide)) eds_nil)) (show 2 ≤ 1000 by decide)) (still_rows5 _) (show 11 + 2 ≤ 1000 by decide) fun H4 ys4 b4 hl4 o4 => ?_
  rw [← List.map_append] at o4
  refine q_ext (ds := (((told0 ++ told1) ++ told2) ++ told3).map row5) (es := told4.map row5) rfl hl4 o4 (still_rows5 _) (ed_lst (eds_cons (ed_tup (eds_cons (ed_str (by decide)) (eds_cons ed_int (eds_cons ed_int (eds_cons ed_bl (eds_cons ed_int eds_nil))))) (show 5 ≤ 1000 by decide)) (eds_cons (ed_tup (eds_cons (ed_str (by decide)) (eds_cons ed_int (eds_cons ed_int (eds_cons ed_bl (eds_cons ed_int eds_nil))))) (show 5 ≤ 1000 by decide)) (eds_cons (ed_tup (eds_cons (ed_ev (ev_addS (ev_addS (ev_mulS ev_c ev_c mul_and13) ev_c (by decide +kernel)) (ev_mulS ev_c ev_c mul_no13) (by decide +kernel)) fun _ _ => .str _ (by decide +kernel)) (eds_cons ed_int (eds_cons ed_int (eds_cons ed_bl (eds_cons ed_int eds_nil))))) (show 5 ≤ 1000 by decide)) eds_nil))) (show 3 ≤ 1000 by decide)) (still_rows5 _) (show 13 + 3 ≤ 1000 by decide) fun H5 ys b5 hl5 o5 => ?_
  rw [← List.map_append] at o5
  have eH : Ex H H5 := ex_but (ex_but (ex_but (ex_but e1 b2 hl0) b3 hl0) b4 hl0) b5 hl0
  have rows := row5_of o5
  have h1' := ex_t eH h1
  have h2' := h2.up eH
  clear o5 o4 o3 o2 o1
  refine for_listW (K := K) (a := l) (xs := ys) (fun σ' H' => (∃ v3 v4 v5 v6 v7 v8, σ' = [some (V.ref ah), some (V.ref at_), some (V.ref l), v3, v4, v5, v6, v7, v8]) ∧ Ex H5 H') (fun R r => wi_list (ev_var rfl) (sq_of hl5) H5 (Ex.refl H5) R r) (fun H6 e6 => ⟨⟨_, _, _, _, _, _, rfl⟩, e6⟩) (fun σ' H' iv => sq_of (iv.2 _ _ hl5)) (fun x hx σ' H' iv => ?_) (fun σ' H' iv => ?_)
  · obtain ⟨⟨v3, v4, v5, v6, v7, v8, rfl⟩, eN⟩ := iv
    obtain ⟨⟨text, ch, dp, lp, wd⟩, he, t, rfl, ht⟩ := rows x hx
    obtain ⟨⟨k, k1, k2, k3, k4⟩, k5, k6, k7, k8, k9⟩ := okD_of (two _ he)
    replace k8 : dp < 1000 := k8
    replace k9 : wd < 1000 := k9
    refine g_five (st_of (eN _ _ ht)) ?_
    refine ⟨_, rfl, _, rfl, _, rfl, _, rfl, fun x dx hx hdx hne => ?_⟩
    have em : Ex H' (upd (upd H' dx (.own x)) x (.ins C dx [])) := (Ex.new hdx).trans (Ex.new (by rw [upd_ne (Ne.symm hne)]; exact hx))
    refine ⟨x, dx, ah, at_, text, hs3, ts3 a b c0, ch, rfl, upd_same, ex_t em (ex_t eN h1'), (h2'.up eN).up em, right3 a b c0 k5 k6 k7, fun t' ht' H6 b6 qa => ⟨rfl, ?_⟩, fun m' hm' => (by rw [k1] at hm'; cases hm')⟩
    rw [k1] at ht'
    cases ht'
    have e36 : Ex H' H6 := fun b o hb => b6 b o (em b o hb) fun y => by rw [y, hx] at hb; cases hb
    obtain ⟨dy, aw, ah2, at2, g1, _, g3, g4⟩ := id qa
    have st : Ev (tCall (spWidth K C CP) [] E0 (tCons (tVar 8) tNil)) [some (V.ref ah), some (V.ref at_), some (V.ref l), some (V.str text), some (V.int (ch : Int)), some (V.int (dp : Int)), some (V.bl lp), some (V.int (wd : Int)), some (V.ref x)] H6 (.int (wd : Int)) :=
      ev_call (ea_cons (ev_var rfl) ea_nil) fun H7 e7 Q q E => ⟨x, hs3, text, ts3 a b c0, ch, k, rfl, qa.up e7, by rw [show max hs3.length k.most = wd from k4]; exact q⟩
    have ev1 : Ev (tCB (rReprD K) (tCons (tTup (tCons (tFld K (tVar 8) "deep") (tCons (tFld K (tVar 8) "is_loopless") (tCons (tCall (spWidth K C CP) [] E0 (tCons (tVar 8) tNil)) tNil)))) tNil)) [some (V.ref ah), some (V.ref at_), some (V.ref l), some (V.str text), some (V.int (ch : Int)), some (V.int (dp : Int)), some (V.bl lp), some (V.int (wd : Int)), some (V.ref x)] H6 (.str (PyData.tuple [.int (dp : Int), .bool lp, .int (wd : Int)]).shown) :=
      ev_repr3 (eu_tup (ea_cons (by have z := ev_fld (K := K) (ta := tVar 8) (f := "deep") (σ := [some (V.ref ah), some (V.ref at_), some (V.ref l), some (V.str text), some (V.int (ch : Int)), some (V.int (dp : Int)), some (V.bl lp), some (V.int (wd : Int)), some (V.ref x)]) (ev_var rfl) g1 TQ'.cl TQ'.nDeep qfs_deep
                                    rw [k2] at z; exact z) (ea_cons (by have z := ev_fld (K := K) (ta := tVar 8) (f := "is_loopless") (σ := [some (V.ref ah), some (V.ref at_), some (V.ref l), some (V.str text), some (V.int (ch : Int)), some (V.int (dp : Int)), some (V.bl lp), some (V.int (wd : Int)), some (V.ref x)]) (ev_var rfl) g1 TQ'.cl TQ'.nLoopless qfs_loopless
                                                                        rw [k3] at z; exact z) (ea_cons st ea_nil))) (by show 3 ≤ 100000; decide)) (by rw [Int.natAbs_natCast]; omega) (by rw [Int.natAbs_natCast]; omega)
    have ev2 : Ev (tCB (rReprD K) (tCons (tTup (tCons (tVar 5) (tCons (tVar 6) (tCons (tVar 7) tNil)))) tNil)) [some (V.ref ah), some (V.ref at_), some (V.ref l), some (V.str text), some (V.int (ch : Int)), some (V.int (dp : Int)), some (V.bl lp), some (V.int (wd : Int)), some (V.ref x)] H6 (.str (PyData.tuple [.int (dp : Int), .bool lp, .int (wd : Int)]).shown) :=
      ev_repr3 (eu_tup (ea_cons (ev_var rfl) (ea_cons (ev_var rfl) (ea_cons (ev_var rfl) ea_nil))) (by show 3 ≤ 100000; decide)) (by rw [Int.natAbs_natCast]; omega) (by rw [Int.natAbs_natCast]; omega)
    refine s_when (b := false) (et_test (ev_is (ev_op ev1 ev2 (rv_ne rfl)) (by rw [decide_eq_true rfl]; rfl))) (fun hb => by cases hb) (fun _ H7 e7 => ?_)
    exact ⟨⟨_, _, _, _, _, _, rfl⟩, (eN.trans e36).trans e7⟩
  · obtain ⟨⟨v3, v4, v5, v6, v7, v8, rfl⟩, eN⟩ := iv
    show tRet (tC (V.bl true)) { nx := fun x H' => Q V.non H', rt := Q } [some (V.ref ah), some (V.ref at_), some (V.ref l), v3, v4, v5, v6, v7, v8] H'
    exact s_ret (v := .bl true) ev_c fun H6 e6 => kk H6 ((eH.trans eN).trans e6)

end
end WL

set_option Elab.async false
set_option linter.all false
set_option maxRecDepth 100000
set_option maxHeartbeats 1000000
namespace WL
open PySem PySem.Spec PyProof.Rows L2 Evl LamX
abbrev lamBo : Str := (envOfC "_law_are_bounds_right" (defScope sLawAreBoundsRight) 0 0 .none).qual ++ "<lambda>"
def pairAt (ws : List Str) (i : Nat) : Str := "and " ++ ws.getD (2 * i) "" ++ " " ++ ws.getD (2 * i + 1) ""
def pairsL (ws : List Str) : List Str := (List.range (ws.length / 2)).map (pairAt ws)
def stepL (ws : List Str) : List Str := pairsL ws ++ ws.drop (2 * (ws.length / 2))
def lotL : Nat → List Str
  | 0 => List.replicate 25 "row x y"
  | k + 1 => stepL (lotL k)
def fiveOk (k : Nat) : Bool := decide (1 < (lotL k).length) && decide ((lotL k).length ≤ 25) && ((lotL k).all fun x => decide (x.length ≤ 2000))
theorem five_ok : (List.range 5).all fiveOk = true := by kernel_rfl
def txt25 : Str := "and and and and and row x y row x y and row x y row x y and and row x y row x y and row x y row x y and and and row x y row x y and row x y row x y and and row x y row x y and row x y row x y and and and and row x y row x y and row x y row x y and and row x y row x y and row x y row x y row x y"
theorem lot5 : lotL 5 = [txt25] := by kernel_rfl
abbrev nBo : List Str := ["head", "tables", "found", "pairs", "text", "at"]
theorem scLawAreBoundsRight : FnScope nBo ["head", "tables"] (defScope sLawAreBoundsRight) := ⟨rfl, rfl, rfl, by decide +kernel, rfl, by decide +kernel, by decide +kernel⟩
abbrev rAddS : R2 := fun x y H Q => ∃ i j, x = .str i ∧ y = .str j ∧ i.length + j.length ≤ sizeLine ∧ Q (.str (i ++ j)) H
abbrev tTwo : TE := tOp (rI CMul fun i j => .int (i * j)) (tC (.int 2)) (tVar 5)
abbrev tPair (K : PySem.W.Frag) : TE := tOp rAddS (tOp rAddS (tOp rAddS (tC (.str "and ")) (tOp (rIxL K) (tVar 2) tTwo)) (tC (.str " "))) (tOp (rIxL K) (tVar 2) (tOp (rI0 fun i j => .int (i + j)) tTwo (tC (.int 1))))
abbrev tHalf (K : PySem.W.Frag) : TA := tCons (tOp (rI CDiv fun i j => .int (i / j)) (tCB (rLenS K) (tCons (tVar 2) tNil)) (tC (.int 2))) tNil
theorem el_pairs {K : PySem.W.Frag} {H : Hp} {x0 x1 x4 : Option V} {x3 : Option V} {fa : Addr} {ws : List Str} (hf : H fa = some (.lst (ws.map V.str))) (hn : ws.length ≤ 25) (hw : ∀ x ∈ ws, x.length ≤ 2000) :
    EvL (tLc (iRng1 (tHalf K)) (gName 5) tYes (tPair K) [5]) [x0, x1, some (V.ref fa), x3, x4, none] H ((pairsL ws).map V.str) := by
  have hl : (ws.map V.str).length = ws.length := List.length_map _
  have he0 : EvA (tHalf K) [x0, x1, some (V.ref fa), x3, x4, none] H [.int (((ws.map V.str).length : Nat) / 2 : Int)] := ea_cons (ev_op (ev_lenQ (eq_l (ev_var rfl) (sq_of hf))) ev_c (rv_I (C := CDiv) ⟨by decide, by decide⟩)) ea_nil
  have gets : ∀ j, j < ws.length → (ws.map V.str)[j]? = some (.str (ws.getD j "")) ∧ (ws.getD j "").length ≤ 2000 := fun j hj => by
    have e : ws[j]? = some ws[j] := List.getElem?_eq_getElem hj
    refine ⟨by rw [List.getElem?_map, e, List.getD_eq_getElem?_getD, e]; rfl, ?_⟩
    rw [List.getD_eq_getElem?_getD, e]
    exact hw _ (List.getElem_mem hj)
  have q := el_lcR1 (σ := [x0, x1, some (V.ref fa), x3, x4, none]) (H := H) (ta := tHalf K) (j := 5) (vs := [5]) (t := tYes) (te := tPair K) (fun _ => true) (fun i => .str (pairAt ws i)) he0 (by rw [hl]; omega) (fun _ => rfl) (fun i H1 _ _ _ _ Q q => q _ (Ex.refl _)) (fun i H1 e hi _ => ?_)
  · have z : given (((ws.map V.str).length : Nat) / 2 : Int).toNat (fun _ => true) (fun i => V.str (pairAt ws i)) = (pairsL ws).map V.str := by
      unfold given pairsL
      rw [hl, List.map_map, List.filter_eq_self.mpr (fun _ _ => rfl), show (((ws.length : Nat) : Int) / 2).toNat = ws.length / 2 by omega]
      rfl
    rw [z] at q
    exact q
  · rw [hl] at hi
    have i2 : 2 * i < ws.length := by omega
    have i3 : 2 * i + 1 < ws.length := by omega
    obtain ⟨a1, a2⟩ := gets _ i2
    obtain ⟨b1, b2⟩ := gets _ i3
    have two : Ev tTwo [x0, x1, some (V.ref fa), x3, x4, some (.int (i : Int))] H1 (.int (2 * (i : Int))) := ev_op ev_c (ev_var rfl) (rv_I (C := CMul) (.inl ⟨by decide, by decide⟩))
    have one : Ev (tOp (rI0 fun i j => .int (i + j)) tTwo (tC (.int 1))) [x0, x1, some (V.ref fa), x3, x4, some (.int (i : Int))] H1 (.int (2 * (i : Int) + 1)) := ev_op two ev_c rv_I0
    have at1 : atI (ws.map V.str) (2 * (i : Int)) = some (.str (ws.getD (2 * i) "")) := by
      rw [show (2 * (i : Int)) = ((2 * i : Nat) : Int) by omega]
      exact atI_nat a1
    have at2 : atI (ws.map V.str) (2 * (i : Int) + 1) = some (.str (ws.getD (2 * i + 1) "")) := by
      rw [show (2 * (i : Int) + 1) = ((2 * i + 1 : Nat) : Int) by omega]
      exact atI_nat b1
    have l1 : ("and " : Str).length = 4 := by decide
    have l2 : (" " : Str).length = 1 := by decide
    refine ev_addS (ev_addS (ev_addS ev_c (ev_op (ev_var rfl) two (rv_ixL (ex_l e (sq_of hf)) at1)) (by omega)) ev_c (by rw [Str.length_append]; omega)) (ev_op (ev_var rfl) one (rv_ixL (ex_l e (sq_of hf)) at2)) (by rw [Str.length_append, Str.length_append]; omega)
theorem el_step {K : PySem.W.Frag} {H : Hp} {x0 x1 x4 x5 : Option V} {fa pa : Addr} {xs ys : List V} (hf : H fa = some (.lst xs)) (hp : H pa = some (.lst ys)) (hz : xs.length + ys.length ≤ 1000) :
    EvL (tOp rCat (tVar 3) (tSl (rSlL K) (tVar 2) (tPart (tOp (rI CMul fun i j => .int (i * j)) (tC (.int 2)) (tCB (rLenS K) (tCons (tVar 3) tNil)))) tNoPart)) [x0, x1, some (V.ref fa), some (V.ref pa), x4, x5] H (ys ++ cutV xs (some (2 * (ys.length : Int))) none) := fun H1 e Q q => by
  refine ⟨_, rfl, ?_⟩
  refine ⟨_, rfl, ?_⟩
  have two : EvO (tPart (tOp (rI CMul fun i j => .int (i * j)) (tC (.int 2)) (tCB (rLenS K) (tCons (tVar 3) tNil)))) [x0, x1, some (V.ref fa), some (V.ref pa), x4, x5] H1 (some (2 * (ys.length : Int))) := eo_some (ev_op ev_c (ev_lenQ (eq_l (ev_var rfl) (sq_of (e _ _ hp)))) (rv_I (C := CMul) (.inl ⟨by decide, by decide⟩)))
  refine two H1 (Ex.refl H1) _ fun H2 e2 => ?_
  refine ⟨fa, xs, rfl, sq_of ((e.trans e2) _ _ hf), fun p hp' => ?_⟩
  have e3 := Ex.new (o := .lst (cutV xs (some (2 * (ys.length : Int))) none)) hp'
  refine ⟨pa, p, ys, _, rfl, rfl, ((e.trans e2).trans e3) _ _ hp, upd_same, ?_, fun r hr => q r _ ?_ ?_ upd_same⟩
  · have := cutV_length xs (some (2 * (ys.length : Int))) none
    have := sizeLine_eq
    omega
  · exact fresh_back (e2.trans e3) hr
  · exact (e2.trans e3).trans (Ex.new hr)
theorem cut_ok : ∀ k, k < 5 → cutV ((lotL k).map V.str) (some (2 * (((pairsL (lotL k)).map V.str).length : Int))) none = ((lotL k).drop (2 * ((lotL k).length / 2))).map V.str := by
  intro k hk
  have c : k = 0 ∨ k = 1 ∨ k = 2 ∨ k = 3 ∨ k = 4 := by omega
  rcases c with rfl | rfl | rfl | rfl | rfl <;> kernel_rfl
theorem txtA : ("not " ++ txt25 : Str) = "not and and and and and row x y row x y and row x y row x y and and row x y row x y and row x y row x y and and and row x y row x y and row x y row x y and and row x y row x y and row x y row x y and and and and row x y row x y and row x y row x y and and row x y row x y and row x y row x y row x y" := by kernel_rfl
theorem txtB : ("not not " ++ txt25 : Str) = "not not and and and and and row x y row x y and row x y row x y and and row x y row x y and row x y row x y and and and row x y row x y and row x y row x y and and row x y row x y and row x y row x y and and and and row x y row x y and row x y row x y and and row x y row x y and row x y row x y row x y" := by kernel_rfl
def depB (ts : List (Addr × Str × Int)) (x : Str) : Option Nat := match rdWhole ts (hs3 ++ changedS.take 0) (Txt.split x " ") with | .inr t => some t.depth | .inl _ => none
def wordsB (x : Str) : Bool := decide (x.length ≤ 20000) && (Txt.split x " ").all fun y => decide (y.length ≤ 20000)
theorem dep1 (a b c : Addr) : depB (ts3 a b c) ("not " ++ txt25) = some 7 := by
  rw [txtA]
  kernel_rfl
theorem dep2 (a b c : Addr) : depB (ts3 a b c) txt25 = some 6 := by kernel_rfl
theorem dep3 (a b c : Addr) : depB (ts3 a b c) "some abcde6 same abcde6 x" = some 2 := by kernel_rfl
theorem dep4 (a b c : Addr) : rdWhole (ts3 a b c) (hs3 ++ changedS.take 0) (Txt.split ("not not " ++ txt25) " ") = .inl 101 := by
  rw [txtB]
  kernel_rfl
theorem words1 : wordsB ("not " ++ txt25) = true := by
  rw [txtA]
  kernel_rfl
theorem words2 : wordsB txt25 = true := by kernel_rfl
theorem words3 : wordsB "some abcde6 same abcde6 x" = true := by kernel_rfl
theorem words4 : wordsB ("not not " ++ txt25) = true := by
  rw [txtB]
  kernel_rfl
theorem len25 : ("not not " : Str).length + txt25.length ≤ 20000 ∧ ("not " : Str).length + txt25.length ≤ 20000 := by decide +kernel
theorem wordsB_of {x : Str} (h : wordsB x = true) : x.length ≤ 20000 ∧ ∀ y ∈ Txt.split x " ", y.length ≤ 20000 := by
  unfold wordsB at h
  rw [Bool.and_eq_true] at h
  exact ⟨of_decide_eq_true h.1, fun y hy => of_decide_eq_true (List.all_eq_true.mp h.2 y hy)⟩
theorem depB_of {ts : List (Addr × Str × Int)} {x : Str} {n : Nat} (h : depB ts x = some n) : ∃ t, rdWhole ts (hs3 ++ changedS.take 0) (Txt.split x " ") = .inr t ∧ t.depth = n := by
  unfold depB at h
  split at h
  · rename_i t ht
    exact ⟨t, ht, Option.some.inj h⟩
  · cases h
end WL

set_option Elab.async false
set_option linter.all false
set_option maxRecDepth 100000
set_option maxHeartbeats 1000000
namespace WL
open PySem PySem.Spec PyProof.Rows L2 Evl LamX
theorem ev_deep {K : PySem.W.Frag} {mg : Str → Option Value} {C CP CB ah at_ a b c : Addr} {σ : L2.St} {H : Hp} {tx : TE} {x : Str} {n : Nat} (T : TQ K mg C) (s0 : σ[0]? = some (some (.ref ah))) (s1 : σ[1]? = some (some (.ref at_))) (hx : Ev tx σ H (.str x)) (h1 : SqT K H ah (hs3.map V.str)) (h2 : TabsAt K H at_ (ts3 a b c)) (hd : depB (ts3 a b c) x = some n) (hw : wordsB x = true) :
    Ev (tFld K (tMake C (spQuestInitX K C CP CB) [] E0 (tCons (tVar 0) (tCons tx (tCons (tVar 1) (tCons (tC (.int 0)) tNil))))) "deep") σ H (.int (n : Int)) := fun H1 e Q q => by
  obtain ⟨t, ht, hn⟩ := depB_of hd
  obtain ⟨w1, w2⟩ := wordsB_of hw
  have args : EvA (tCons (tVar 0) (tCons tx (tCons (tVar 1) (tCons (tC (.int 0)) tNil)))) σ H [.ref ah, .str x, .ref at_, .int 0] := ea_cons (ev_var s0) (ea_cons hx (ea_cons (ev_var s1) (ea_cons ev_c ea_nil)))
  unfold tFld tMake
  refine args H1 e _ fun H2 e2 => ?_
  intro p dx hp hdx hne
  have em : Ex H2 (upd (upd H2 dx (.own p)) p (.ins C dx [])) := (Ex.new hdx).trans (Ex.new (by rw [upd_ne (Ne.symm hne)]; exact hp))
  have e12 := e.trans e2
  refine ⟨p, dx, ah, at_, x, hs3, ts3 a b c, 0, rfl, upd_same, ex_t em (ex_t e12 h1), (h2.up e12).up em, right3 a b c (by decide) w1 w2, fun t' ht' H3 b3 qa => ⟨rfl, ?_⟩, fun m hm => (by rw [ht] at hm; cases hm)⟩
  rw [ht] at ht'
  cases ht'
  have e23 : Ex H2 H3 := fun b o hb => b3 b o (em b o hb) fun y => by rw [y, hp] at hb; cases hb
  obtain ⟨dy, aw, ah2, at2, g1, _, g3, g4⟩ := qa
  refine ⟨_, C, dy, _, _, rfl, g1, T.cl, T.nDeep, qfs_deep, ?_⟩
  rw [hn]
  exact q H3 (e2.trans e23)
end WL

set_option Elab.async false
set_option linter.all false
set_option maxRecDepth 100000
set_option maxHeartbeats 1000000
namespace WL
open PySem PySem.Spec PyProof.Rows L2 Evl LamX
section
variable {P : Program} {w : World} {K : PySem.W.Frag} {mg : Str → Option Value} {base : Heap}
theorem ok_bounds {f gr gi C CP CB CS Tb c : Addr} {fd gdr gdi : FuncData} {Cs : List Addr} {T : List (Addr × Str)} (F : Fun K "_law_are_bounds_right" "_law_are_bounds_right" sLawAreBoundsRight f fd) (TLw : TL mg) (mrange : mg "range" = none) (hcode : fd.code = .ref c) (TB : TabB base mg c Tb) (hT : (Tb, lamBo) ∈ T) (hu : ∀ p ∈ T, p.1 = Tb → p.2 = lamBo) (TQ' : TQ K mg C) (EB : ErrX K CS Cs 3 CB)
    (GR : FnTh P w K mg base 26 23 gr gdr ["call", "word", "value"] (spRefused K CS Cs)) (mR : mg "_law_is_refused" = some (.ref gr)) (kR : PySem.W.keepIn K (.ref gr) = true) (bR : Binds K gdr ["call", "word", "value"] [])
    (GI : FnOk P w K mg base (L2.CX P w) 22 gi gdi ["self", "head", "text", "tables", "changed"] (spQuestInitX K C CP CB)) (MQ : Mk K C gi) (bI : Binds K gdi ["self", "head", "text", "tables", "changed"] []) : FnG P w K mg base 27 f fd ["head", "tables"] (spTexts K T) := by
  refine okC F scLawAreBoundsRight (fun vs H Q E h => ?_) (fun cdv A outer s H vs Q E hcd hr gu h => ?_)
  · obtain ⟨ah, at_, a, b, c, rfl, _⟩ := h
    rfl
  rw [hcode] at hcd
  subst hcd
  obtain ⟨ah, at_, a, b, c0, rfl, h1, h2, hTabs, kk⟩ := h
  have hr23 : Room 23 _ := hr.mono (by decide)
  refine ⟨_, pss_cons (ps_set (i := 2) scLawAreBoundsRight.nd rfl (Or.inr rfl) (pe_op op_rep (pe_lst (pa_cons pe_str pa_nil)) pe_int))
    (pss_cons (ps_while PassesOwn.never (pt_cmpR op_gt (pe_callB call_len_seq (by rfl) TLw.len PySem.boot_len (pa_cons (pv 2) pa_nil)) pe_int (nomark _))
      (pss_cons (ps_setLc (i := 3) (y := "pairs") (own := [("at", 5)]) (g := gName 5) (tt := tYes) (te := tPair K) (by rfl) scLawAreBoundsRight.nd rfl rfl (sw_true rfl rfl rfl (by decide +kernel)) (pi_range1 (by rfl) mrange (pa_cons (pe_op op_fdiv (pe_callB call_len_seq (by rfl) TLw.len PySem.boot_len (pa_cons (pv 2) pa_nil)) pe_int) pa_nil)) (blkOk_by (N := nBo) (sc := defScope sLawAreBoundsRight) (by decide +kernel))
        (fun _ _ _ _ _ => pg_name (i := 5) scLawAreBoundsRight.nd rfl (Or.inl rfl)) (fun _ _ _ _ _ => pts_nil)
        (fun _ _ _ _ _ => pe_op op_add_str (pe_op op_add_str (pe_op op_add_str pe_str (pe_ix ix_list (pv 2) (pe_op op_mul pe_int (pv 5)) (fun _ _ => rfl))) pe_str) (pe_ix ix_list (pv 2) (pe_op op_add (pe_op op_mul pe_int (pv 5)) pe_int) (fun _ _ => rfl))))
      (pss_one (ps_set (i := 2) scLawAreBoundsRight.nd rfl (Or.inr rfl) (pe_op op_cat (pv 3) (pe_slice sl_list (pv 2) (po_some (pe_op op_mul pe_int (pe_callB call_len_seq (by rfl) TLw.len PySem.boot_len (pa_cons (pv 3) pa_nil)))) po_none))))))
    (pss_cons (ps_set (i := 4) scLawAreBoundsRight.nd rfl (Or.inr rfl) (pe_ix ix_list (pv 2) pe_int (fun _ _ => rfl)))
    (pss_cons (ps_if (pt_cmpR op_ne (pe_fld (pe_make MQ GI hr23 (by rfl) TQ'.mgC bI .nil (E := E0) pass_no (pa_cons (pv 0) (pa_cons (pe_op op_add_str pe_str (pv 4)) (pa_cons (pv 1) (pa_cons pe_int pa_nil))))) rfl)
        (pe_op op_add (pe_fld (pe_make MQ GI hr23 (by rfl) TQ'.mgC bI .nil (E := E0) pass_no (pa_cons (pv 0) (pa_cons (pv 4) (pa_cons (pv 1) (pa_cons pe_int pa_nil))))) rfl) pe_int) (nomark _)) (pss_one (ps_ret pe_bl)) pss_nil)
    (pss_cons (ps_if (pt_not (pt_val (pe_lamTh (T := T) (t := fun E => tMake C (spQuestInitX K C CP CB) [] E (tCons (tVar 0) (tCons (tOp (fun x y H Q => ∃ i j, x = .str i ∧ y = .str j ∧ i.length + j.length ≤ sizeLine ∧ Q (.str (i ++ j)) H) (tC (.str "not not ")) (tVar 4)) (tCons (tVar 1) (tCons (tC (.int 0)) tNil))))) GR rfl rfl hr gu (by rfl) mR kR bR TB rfl rfl hT hu (lamS_by (by rfl)) rfl (fun _ _ _ _ _ => rfl)
        (fun A outer s H E f c' hr2 => pe_make MQ GI hr2 (by rfl) TQ'.mgC bI .nil (passes_call (takes_of rfl rfl rfl rfl) (fun _ _ _ _ h => h)) (pa_cons (pv 0) (pa_cons (pe_op op_add_str pe_str (pv 4)) (pa_cons (pv 1) (pa_cons pe_int pa_nil)))))
        (pa_cons pe_str (pa_cons pe_int pa_nil))))) (pss_one (ps_ret pe_bl)) pss_nil)
    (pss_one (ps_ret (pe_cmpR op_eq (pe_fld (pe_make MQ GI hr23 (by rfl) TQ'.mgC bI .nil (E := E0) pass_no (pa_cons (pv 0) (pa_cons pe_str (pa_cons (pv 1) (pa_cons pe_int pa_nil))))) rfl) pe_int (nomark _)))))))), ?_⟩
  have st0 : EvL (tOp rRep (tLst (tCons (tC (.str "row x y")) tNil)) (tC (.int 25))) (L2.start nBo [V.ref ah, V.ref at_]) H ((lotL 0).map V.str) := fun H1 e Q q => by
    refine ⟨by show 1 ≤ sizeLine; rw [sizeLine_eq]; decide, fun p hp => ?_⟩
    refine ⟨p, 25, [.str "row x y"], rfl, rfl, upd_same, by decide, by decide, by rw [sizeLine_eq]; decide, fun r hr => ?_⟩
    refine q r _ (fresh_back (Ex.new hp) hr) ((Ex.new hp).trans (Ex.new hr)) ?_
    rw [upd_same]
    rfl
  refine q_setL st0 fun p0 H1 hp0 e1 g1 => ?_
  refine q_while (fun m σ' H' => ∃ (k : Nat) (fa : Addr) (x3 : Option V), k ≤ 5 ∧ m = 5 - k ∧ σ' = [some (V.ref ah), some (V.ref at_), some (V.ref fa), x3, none, none] ∧ Ex H H' ∧ H' fa = some (.lst ((lotL k).map V.str))) 5 ⟨0, p0, none, by decide, rfl, rfl, e1, g1⟩ (fun m σ' H' w => ?_)
  obtain ⟨k, fa, x3, hk, rfl, rfl, eH, gf⟩ := w
  rcases Nat.lt_or_ge k 5 with hk5 | hk5
  · have fo : fiveOk k = true := List.all_eq_true.mp five_ok k (List.mem_range.mpr hk5)
    unfold fiveOk at fo
    rw [Bool.and_eq_true, Bool.and_eq_true] at fo
    obtain ⟨⟨f1, f2⟩, f3⟩ := fo
    replace f1 := of_decide_eq_true f1
    replace f2 := of_decide_eq_true f2
    have hl : ((lotL k).map V.str).length = (lotL k).length := List.length_map _
    refine ⟨true, et_test (ev_is (ev_op (ev_lenQ (K := K) (eq_l (ev_var rfl) (sq_of gf))) ev_c rv_I0) (by rw [hl]; exact congrArg V.bl (decide_eq_true (by omega)))), fun _ H2 e2 => ?_, fun z => by cases z⟩
    refine ⟨fun σ3 H3 => ∃ (fb : Addr) (x3 : Option V), σ3 = [some (V.ref ah), some (V.ref at_), some (V.ref fb), x3, none, none] ∧ Ex H H3 ∧ H3 fb = some (.lst ((lotL (k + 1)).map V.str)), fun σ3 H3 n => ?_, ?_⟩
    · obtain ⟨fb, y3, rfl, e3, g3⟩ := n
      exact ⟨5 - (k + 1), by omega, k + 1, fb, y3, by omega, rfl, rfl, e3, g3⟩
    · refine q_setL (el_pairs (e2 _ _ gf) f2 (fun x hx => of_decide_eq_true (List.all_eq_true.mp f3 x hx))) fun pa H3 hpa e3 g3 => ?_
      have pl : ((pairsL (lotL k)).map V.str).length ≤ 25 := by
        rw [List.length_map]
        show ((List.range ((lotL k).length / 2)).map _).length ≤ 25
        rw [List.length_map, List.length_range]
        omega
      have stp := el_step (K := K) (x0 := some (V.ref ah)) (x1 := some (V.ref at_)) (x4 := none) (x5 := none) ((e2.trans e3) _ _ gf) g3 (by rw [hl]; omega)
      rw [cut_ok k hk5, ← List.map_append] at stp
      refine stp H3 (Ex.refl H3) _ fun fb H4 hfb e4 g4 => ?_
      exact ⟨fb, _, rfl, ((eH.trans e2).trans e3).trans e4, g4⟩
  · obtain rfl : k = 5 := by omega
    rw [lot5] at gf
    refine ⟨false, et_test (ev_is (ev_op (ev_lenQ (K := K) (eq_l (ev_var rfl) (sq_of gf))) ev_c rv_I0) rfl), (fun z => by cases z), fun _ H2 e2 => ?_⟩
    have e02 := eH.trans e2
    refine q_asg (ev_op (ev_var rfl) ev_c (rv_ixL (sq_of (e2 _ _ gf)) (atI_nat (j := 0) rfl))) fun H3 e3 => ?_
    have e03 := e02.trans e3
    have h1' := ex_t e03 h1
    have h2' := h2.up e03
    refine q_when (b := false) (et_test (ev_is (ev_op (ev_deep (σ := [some (V.ref ah), some (V.ref at_), some (V.ref fa), x3, some (V.str txt25), none]) (x := "not " ++ txt25) TQ' rfl rfl (ev_addS ev_c (ev_var rfl) len25.2) h1' h2' (dep1 a b c0) words1) (ev_op (ev_deep (σ := [some (V.ref ah), some (V.ref at_), some (V.ref fa), x3, some (V.str txt25), none]) (x := txt25) TQ' rfl rfl (ev_var rfl) h1' h2' (dep2 a b c0) words2) ev_c rv_I0) (rv_ne rfl)) (by rw [decide_eq_true (by rfl)]; rfl))) (fun hb => by cases hb) (fun _ H4 e4 => ?_)
    have e04 := e03.trans e4
    refine ⟨hTabs.ext e04, fun H5 eN5 T5 c' hc' => ⟨hc', fun fl => ⟨.ref fl, .str "question", .int 101, "question", rfl, fun E' Q' kE => ?_⟩⟩⟩
    have eN : ExtN H H5 := (ExtN.of e04).trans eN5
    have args : EvA (tCons (tVar 0) (tCons (tOp (fun x y H Q => ∃ i j, x = .str i ∧ y = .str j ∧ i.length + j.length ≤ sizeLine ∧ Q (.str (i ++ j)) H) (tC (.str "not not ")) (tVar 4)) (tCons (tVar 1) (tCons (tC (.int 0)) tNil)))) [some (V.ref ah), some (V.ref at_), some (V.ref fa), x3, some (V.str txt25), none] H5 [.ref ah, .str ("not not " ++ txt25), .ref at_, .int 0] := ea_cons (ev_var rfl) (ea_cons (ev_addS ev_c (ev_var rfl) len25.1) (ea_cons (ev_var rfl) (ea_cons ev_c ea_nil)))
    obtain ⟨w1, w2⟩ := wordsB_of words4
    refine args H5 (Ex.refl H5) _ fun H6 e6 x dx hx hdx hne => ?_
    have em : Ex H6 (upd (upd H6 dx (.own x)) x (.ins C dx [])) := (Ex.new hdx).trans (Ex.new (by rw [upd_ne (Ne.symm hne)]; exact hx))
    have eN6 : ExtN H H6 := eN.trans (ExtN.of e6)
    refine ⟨x, dx, ah, at_, "not not " ++ txt25, hs3, ts3 a b c0, 0, rfl, upd_same, ex_t em (extN_t eN6 h1), (extN_tabs eN6 h2).up em, right3 a b c0 (by decide) w1 w2, fun t ht => (by rw [dep4] at ht; cases ht), fun m' hm' d' G b4 hd' => ?_⟩
    rw [dep4] at hm'
    cases hm'
    have e34 : Ex H6 G := fun b o hb => b4 b o (em b o hb) fun y => by rw [y, hx] at hb; cases hb
    refine kE CB d' 3 (.int 101) (.int 101) G EB rfl hd' (.int _) (.int _) (log_k (m := 101) (by decide)) (.inl rfl) fun G' eG => ?_
    have e5G : Ex H5 G' := (e6.trans e34).trans eG
    have eNG : ExtN H G' := eN.trans (ExtN.of e5G)
    suffices fin : tRet (tOp rEq (tFld K (tMake C (spQuestInitX K C CP CB) [] E0 (tCons (tVar 0) (tCons (tC (.str "some abcde6 same abcde6 x")) (tCons (tVar 1) (tCons (tC (.int 0)) tNil))))) "deep") (tC (.int 2))) { nx := fun x H' => Q V.non H', rt := Q } [some (V.ref ah), some (V.ref at_), some (V.ref fa), x3, some (V.str txt25), none] G' from ⟨true, rfl, fin⟩
    exact s_ret (v := .bl true) (ev_is (ev_op (ev_deep (σ := [some (V.ref ah), some (V.ref at_), some (V.ref fa), x3, some (V.str txt25), none]) (x := "some abcde6 same abcde6 x") TQ' rfl rfl ev_c (extN_t eNG h1) (extN_tabs eNG h2) (dep3 a b c0) words3) ev_c (rv_eq rfl)) rfl) fun H7 e7 => kk H7 (eNG.trans (ExtN.of e7)) (T5.ext (e5G.trans e7))

end
end WL

set_option Elab.async false
set_option linter.all false
set_option maxRecDepth 100000
set_option maxHeartbeats 1000000
namespace WL
open PySem PySem.Spec PyProof.Rows L2 Evl LamX
section
variable {X : Cx} {CX : CXT} {k : Nat} {f : Addr} {fd : FuncData} {ps ks : List Str} {sp : Sp} {E : XK} {x : Str} {p pos : Pos} {kws : List Keyword} {tk : TA} {g : List Value → List Value → List Value} {gV : List V → List V → List V}
theorem pe_callK0 (F : FnOk X.prog X.w X.K X.mg X.base CX k f fd ps sp) (hr : Room k X.A) (hg : Gl X x) (hm : X.mg x = some (.ref f)) (hk : PySem.W.keepIn X.K (.ref f) = true) (hb : KBn X.K fd ps 0 ks g gV) (hx : Passes CX X E) (hkw : PK X kws tk)
    (hall : (backToKw pos (keywordEach kws X.env)).all (·.1.isSome) = true := by rfl) (hks : (backToKw pos (keywordEach kws X.env)).filterMap (·.1) = ks := by rfl) (hdb : (x == ("__debug__" : Str)) = false := by decide)
    (hpl : ((backTo pos (starEach [] X.env)).any (·.1) || (backToKw pos (keywordEach kws X.env)).any (·.1.isNone)) = false := by rfl) :
    PE X (.Call (.Name x p) [] kws pos) (tCallN 0 ks.length sp gV E tNil tk) := by
  refine ⟨fun pins s σ H Q I h => ?_⟩
  refine wpAny_Call_Name_kw (ld_glob I hg hm ?_ hdb)
  refine PySem.W.callWith_KW0 (h₀ := X.base) I.ok.mod.kin hk hall ?_ hpl
  refine thn (hkw.run pos pins s σ H _ I h) fun ws s2 ⟨zs, H2, I2, rz, l1, l2, q2⟩ => ⟨I2.kIn, ?_⟩
  rw [hks]
  exact run_fnN (us := []) (vs := []) F hr hb hx I2 .nil rz rfl l2 q2
end
theorem fun_kbn0 {K : PySem.W.Frag} {x qual : Str} {st : Stmt} {f : Addr} {fd : FuncData} {ps ks : List Str} (F : Fun K x qual st f fd)
    (h : ∀ (kV doc pm : Value) (an : Option Addr) (cdv ct : Value) (ws : List Value), ws.length = ks.length → bindArgs (PySem.W.fnOf x qual (defArgs st) (defBody st) (defScope st) .none kV doc pm an cdv ct) ⟨[], ks.zip ws⟩ = pure (ps.zip ws)) : KBn K fd ps 0 ks (fun _ ws => ws) (fun _ zs => zs) := by
  obtain ⟨oc, od, kV, doc, pm, an, cdv, ct, osl, rfl, lk, hcd⟩ := F.ex
  refine ⟨fun s us ws X l1 l2 => ?_, fun r1 r2 => r2⟩
  obtain rfl : us = [] := List.length_eq_zero_iff.mp l1
  exact .of_eq (h kV doc pm an cdv ct ws l2)
theorem width_kbn {K : PySem.W.Frag} {f : Addr} {fd : FuncData} (F : Fun K "width" "width" sWidth f fd) : KBn K fd ["question"] 0 ["question"] (fun _ ws => ws) (fun _ zs => zs) :=
  fun_kbn0 F fun _ _ _ _ _ _ ws hl => match ws, hl with | [_], _ => rfl
theorem vals_rev : ∀ {vs : List V} {us : List Value}, Vals vs us → Vals vs.reverse us.reverse
  | [], [], _ => .nil
  | v :: vs, u :: us, h => by
    cases h with
    | cons h r =>
      rw [List.reverse_cons, List.reverse_cons]
      exact (vals_rev r).append (.cons h .nil)
theorem quest_kbnR {K : PySem.W.Frag} {f : Addr} {fd : FuncData} (F : Fun K "__init__" "Question.__init__" sQuestion_Init f fd) : KBn K fd ["self", "head", "text", "tables", "changed"] 1 ["changed", "tables", "text", "head"] (fun us ws => us ++ ws.reverse) (fun vs zs => vs ++ zs.reverse) := by
  obtain ⟨oc, od, kV, doc, pm, an, cdv, ct, osl, rfl, lk, hcd⟩ := F.ex
  refine ⟨fun s us ws X l1 l2 => ?_, fun r1 r2 => r1.append (vals_rev r2)⟩
  match us, l1, ws, l2 with
  | [u], _, [a, b, c, d], _ => exact .of_eq rfl
end WL

set_option Elab.async false
set_option linter.all false
set_option maxRecDepth 100000
set_option maxHeartbeats 1000000
namespace WL
open PySem PySem.Spec PyProof.Rows L2 Evl LamX
def dh3 : PyData := .tuple [.str "x", .str "y"]
def dt3 : PyData := .tuple [.tuple [.str "row", .int 2], .tuple [.str "flag", .int 0], .tuple [.str "in", .int 1]]
theorem dh3_yes : isHeadD dh3 = true := by decide +kernel
theorem dt3_yes : isTablesD dt3 = true := by decide +kernel
section
variable {K : PySem.W.Frag} {H H' : Hp}
theorem pair_inv {v : V} {d e : PyData} (o : Odd H v (.tuple [d, e])) : ∃ a x y, v = .ref a ∧ H a = some (.tup [x, y]) ∧ Odd H x d ∧ Odd H y e := by
  obtain ⟨a, xs, rfl, ha, _, r⟩ := o.tuple_inv
  cases r with
  | cons h1 r =>
    cases r with
    | cons h2 r =>
      cases r
      exact ⟨a, _, _, rfl, ha, h1, h2⟩
theorem row_inv {v : V} {x : Str} {i : Int} (o : Odd H v (.tuple [.str x, .int i])) : ∃ a, v = .ref a ∧ H a = some (.tup [.str x, .int i]) := by
  obtain ⟨a, u, w, rfl, ha, h1, h2⟩ := pair_inv o
  cases h1
  cases h2
  exact ⟨a, rfl, ha⟩
theorem both_of {v w : V} (oh : Odd H v dh3) (ot : Odd H w dt3) : ∃ ah at_ a b c, v = .ref ah ∧ w = .ref at_ ∧ Both K H ah at_ hs3 (ts3 a b c) dh3 dt3 := by
  obtain ⟨ah, x, y, rfl, ha, h1, h2⟩ := pair_inv (id oh)
  obtain ⟨at_, ys, rfl, ht, _, r⟩ := (id ot : Odd H w (.tuple _)).tuple_inv
  cases h1
  cases h2
  cases r with
  | cons k1 r =>
    cases r with
    | cons k2 r =>
      cases r with
      | cons k3 r =>
        cases r
        obtain ⟨a, rfl, ga⟩ := row_inv k1
        obtain ⟨b, rfl, gb⟩ := row_inv k2
        obtain ⟨c, rfl, gc⟩ := row_inv k3
        refine ⟨ah, at_, a, b, c, rfl, rfl, oh, dh3_yes, ot, dt3_yes, st_of ha, ⟨st_of ht, fun t m => ?_⟩, by show 3 ≤ 800; decide⟩
        rcases List.mem_cons.mp m with rfl | m
        · exact st_of ga
        · rcases List.mem_cons.mp m with rfl | m
          · exact st_of gb
          · rw [List.mem_singleton.mp m]
            exact st_of gc
variable {ah at_ l : Addr} {hs : List Str} {ts : List (Addr × Str × Int)} {dh dt : PyData} {zs : List V}
theorem Both.onN (e : ExtN H H') (b : Both K H ah at_ hs ts dh dt) : Both K H' ah at_ hs ts dh dt := ⟨b.oh.onN e, b.yh, b.ot.onN e, b.yt, extN_t e b.sh, extN_tabs e b.st, b.many⟩
theorem sqT_lst {a : Addr} {xs : List V} (hl : H l = some (.lst zs)) (b : But l H H') (h : SqT K H a xs) : SqT K H' a xs := by
  rcases h with (h | ⟨o, h⟩) | h
  · exact .inl (.inl (b a _ h fun z => by rw [z, hl] at h; cases h))
  · exact .inl (.inr ⟨o, b a _ h fun z => by rw [z, hl] at h; cases h⟩)
  · exact .inr h
theorem Both.pot (hl : H l = some (.lst zs)) (h3 : zs.length = 3) (b : But l H H') (ph : potD dh = true) (pt : potD dt = true) (B : Both K H ah at_ hs ts dh dt) : Both K H' ah at_ hs ts dh dt :=
  ⟨Odd.pot b hl h3 _ _ B.oh ph, B.yh, Odd.pot b hl h3 _ _ B.ot pt, B.yt, sqT_lst hl b B.sh, ⟨sqT_lst hl b B.st.1, fun t ht => sqT_lst hl b (B.st.2 t ht)⟩, B.many⟩
theorem tabs_lst {T : List (Addr × Str)} (hl : H l = some (.lst zs)) (b : But l H H') (t : Tabs T H) : Tabs T H' := fun p hp => by
  obtain ⟨ps, h1, h2, h3⟩ := t p hp
  refine ⟨ps, b _ _ h1 (fun z => by rw [z, hl] at h1; cases h1), h2, fun pos cv hc => ?_⟩
  obtain ⟨c, e, hcc⟩ := h3 pos cv hc
  exact ⟨c, e, b _ _ hcc fun z => by rw [z, hl] at hcc; cases hcc⟩
variable {σ : L2.St} {te : TE} {ta : TA} {g : TG} {tb : TS} {D : Ends} {d : PyData} {ds es : List PyData}
theorem for_opened {a : Addr} {H2 : Hp} (k : tFor (iTup K (tC (.ref a))) g tb D σ H2) : ∃ a', V.ref a = .ref a' ∧ (∃ xs, SqT K H2 a' xs) ∧ (fun (J : It) (H1 : Hp) => ∃ W : Nat → Nat → L2.St → Hp → Prop, (∃ m, W 0 m σ H1) ∧ ∀ i m σ H, W i m σ H →
  (J.stop i H ∧ D.nx σ H) ∨ (J.go i H ∧ ∃ N : L2.St → Hp → Prop, (∀ σ' H', N σ' H' → ∃ m', m' < m ∧ W (i + 1) m' σ' H') ∧ ∀ x H', J.yld i H x H' → g x σ H' fun σ2 H2 => tb { D with nx := N, ct := N, bk := D.nx } σ2 H2)) (Itt K a') H2 := k
theorem for_made (h : EvDs ta σ H ds) (hz : ds.length ≤ 1000) (k : ∀ a xs H2, Ex H H2 → H2 a = some (.tup xs) → OddAll H2 xs ds → tFor (iTup K (tC (.ref a))) g tb D σ H2) : tFor (iTup K (tTup ta)) g tb D σ H := by
  unfold tFor iTup
  refine ed_tup h hz H (Ex.refl H) _ fun v H2 e2 o => ?_
  obtain ⟨a, xs, rfl, ha, _, r⟩ := o.tuple_inv
  exact for_opened (k a xs H2 e2 ha r)
def EvO (ta : TA) (σ : L2.St) (l : Addr) (m : Nat) (ds es : List PyData) : Prop := ∀ H1, PotAt H1 l m → ∀ Q : List V → Hp → Prop, (∀ vs H2 e, e ∈ es → But l H1 H2 → PotAt H2 l (m + 1) → OddAll H2 vs (ds ++ [e]) → Q vs H2) → ta σ H1 Q
theorem eo_last {m : Nat} (s0 : σ[0]? = some (some (.ref l))) (hm : m ≤ 1000000) : EvO (tCons (tCall spOdd [] E0 (tCons (tVar 0) tNil)) tNil) σ l m [] oddL := fun H1 hp Q q =>
  call_gen (ea_cons (ev_var s0) ea_nil) fun H2 e2 => ⟨l, m, rfl, hm, hp.up e2, fun d hd x H3 od b3 p3 => q [x] H3 d hd ((But.ex e2).trans b3) p3 (.cons od .nil)⟩
theorem eo_cons {m : Nat} (h : ∀ H, EvD te σ H d) (hd : potD d = true) (r : EvO ta σ l m ds es) : EvO (tCons te ta) σ l m (d :: ds) es := fun H1 hp Q q =>
  h H1 H1 (Ex.refl H1) _ fun v H2 e2 o => r H2 (hp.up e2) _ fun vs H3 e he b3 p3 os => by
    obtain ⟨own, b, c, hl, _⟩ := hp.up e2
    exact q (v :: vs) H3 e he ((But.ex e2).trans b3) p3 (.cons (Odd.pot b3 hl rfl d v o hd) os)
theorem for_madeO {m : Nat} (h : EvO ta σ l m ds es) (hz : ds.length ≤ 999) (hp : PotAt H l m) (k : ∀ a xs H2 e, e ∈ es → But l H H2 → PotAt H2 l (m + 1) → H2 a = some (.tup xs) → OddAll H2 xs (ds ++ [e]) → tFor (iTup K (tC (.ref a))) g tb D σ H2) : tFor (iTup K (tTup ta)) g tb D σ H := by
  unfold tFor iTup tTup
  refine h H hp _ fun vs H2 e he b2 p2 os => ⟨by have := os.len; rw [List.length_append] at this; have z : [e].length = 1 := rfl; have := sizeLine_eq; omega, fun p hpn => ?_⟩
  exact for_opened (k p vs (upd H2 p (.tup vs)) e he (b2.trans (But.ex (Ex.new hpn))) (p2.up (Ex.new hpn)) upd_same (os.up (Ex.new hpn)))
theorem loop_ref {T : List (Addr × Str)} {a : Addr} {xs : List V} {x0 x1 x2 x3 : Option V} (ha : H a = some (.tup xs)) (hx : OddAll H xs ds) (hT : Tabs T H)
    (hb : ∀ d ∈ ds, ∀ x H', ExtN H H' → Tabs T H' → Odd H' x d → ∀ DD : Ends, (∀ H2, ExtN H' H2 → Tabs T H2 → DD.nx [x0, x1, x2, some x] H2) → tb DD [x0, x1, x2, some x] H')
    (hd : ∀ x3 H', ExtN H H' → Tabs T H' → D.nx [x0, x1, x2, x3] H') : tFor (iTup K (tC (.ref a))) (gName 3) tb D [x0, x1, x2, x3] H := by
  refine for_tupW (K := K) (a := a) (xs := xs) (fun σ' H' => (∃ y, σ' = [x0, x1, x2, y]) ∧ ExtN H H' ∧ Tabs T H') (fun R r => wi_tup ev_c (st_of ha) H (Ex.refl H) R r) (fun H2 e2 => ⟨⟨_, rfl⟩, ExtN.of e2, hT.ext e2⟩) (fun σ' H' iv => st_of (iv.2.1 _ _ ha fun ps z => by cases z)) (fun x hxm σ' H' iv => ?_) (fun σ' H' iv => ?_)
  · obtain ⟨⟨y, rfl⟩, eN, T4⟩ := iv
    obtain ⟨d, hdm, od⟩ := hx.mem x hxm
    exact hb d hdm x H' eN T4 (od.onN eN) _ fun H2 e2 T2 => ⟨⟨_, rfl⟩, eN.trans e2, T2⟩
  · obtain ⟨⟨y, rfl⟩, eN, T4⟩ := iv
    exact hd y H' eN T4
end
end WL

set_option Elab.async false
set_option linter.all false
set_option maxRecDepth 100000
set_option maxHeartbeats 1000000
namespace WL
open PySem PySem.Spec PyProof.Rows L2 Evl LamX
abbrev nRi : List Str := ["pot", "head", "tables", "value"]
theorem scRight3 : FnScope nRi ["pot"] (defScope sLawRight) := ⟨rfl, rfl, rfl, by decide +kernel, rfl, by decide +kernel, by decide +kernel⟩
abbrev lamRi : Str := (envOfC "_law_right" (defScope sLawRight) 0 0 .none).qual ++ "<lambda>"
section
variable {P : Program} {w : World} {K : PySem.W.Frag} {mg : Str → Option Value} {base : Heap}
theorem walk_right {f gr gi go gt gx gb gw gwo C CP CB CS CH CT CC CN Tb c : Addr} {gdr gdi gdo gdt gdx gdb gdw gdwo : FuncData} {Cs : List Addr} {T : List (Addr × Str)} {A : Around} {outer : List Env} {s : Shared} {H : Hp} (TLw : TL mg) (TB : TabB base mg c Tb) (hT : (Tb, lamRi) ∈ T) (hu : ∀ p ∈ T, p.1 = Tb → p.2 = lamRi) (TQ' : TQ K mg C)
    (GO : FVal P w K mg base "_law_odd" go gdo 3 ["pot"] spOdd)
    (GT : FnG P w K mg base 24 gt gdt ["head", "tables"] (spAreTold K)) (mT : mg "_law_are_told" = some (.ref gt)) (kT : PySem.W.keepIn K (.ref gt) = true) (bT : Binds K gdt ["head", "tables"] [])
    (GX : FnG P w K mg base 27 gx gdx ["head", "tables"] (spTexts K T)) (mX : mg "_law_are_texts_refused" = some (.ref gx)) (kX : PySem.W.keepIn K (.ref gx) = true) (bX : Binds K gdx ["head", "tables"] [])
    (GB : FnG P w K mg base 27 gb gdb ["head", "tables"] (spTexts K T)) (mB : mg "_law_are_bounds_right" = some (.ref gb)) (kB : PySem.W.keepIn K (.ref gb) = true) (bB : Binds K gdb ["head", "tables"] [])
    (GR : FnTh P w K mg base 26 23 gr gdr ["call", "word", "value"] (spRefused K CS Cs)) (mR : mg "_law_is_refused" = some (.ref gr)) (kR : PySem.W.keepIn K (.ref gr) = true) (bR : Binds K gdr ["call", "word", "value"] [])
    (GIO : FnOk P w K mg base (L2.CX P w) 22 gi gdi ["self", "head", "text", "tables", "changed"] (spQuestInitO K C CH CT CC CB)) (MQ : Mk K C gi) (bI : Binds K gdi ["self", "head", "text", "tables", "changed"] [])
    (GWO : FnOk P w K mg base (L2.CX P w) 4 gwo gdwo ["question"] (spCheckO CN)) (mW : mg "width" = some (.ref gwo)) (kW : PySem.W.keepIn K (.ref gwo) = true) (bW : Binds K gdwo ["question"] [])
    (GW2 : FnOk P w K mg base CX0 2 gwo gdwo ["question"] (spWidth K C CP)) (FW : Fun K "width" "width" sWidth gwo gdwo) (FI : Fun K "__init__" "Question.__init__" sQuestion_Init gi gdi) (GI : FnOk P w K mg base (L2.CX P w) 22 gi gdi ["self", "head", "text", "tables", "changed"] (spQuestInitX K C CP CB))
    (hr : Room 27 (A.deeper (envOfC "_law_right" (defScope sLawRight) s.heap.objs.size f (.ref c)))) (gu : A.guards = some []) :
    ∃ t, PSs (cxOf CX0 P w K mg base nRi "_law_right" (defScope sLawRight) f (.ref c) A outer s H E0).nox (defBody sLawRight) t := by
  have hr2 : Room 2 _ := hr.mono (by decide)
  have hr23 : Room 23 _ := hr.mono (by decide)
  have hr3 : Room 3 _ := hr.mono (by decide)
  have hr24 : Room 24 _ := hr.mono (by decide)
  have hr26 : Room 26 _ := hr.mono (by decide)
  exact ⟨_, pss_cons (ps_asg (pe_tup (pa_cons (pe_tup (pa_cons pe_str (pa_cons pe_str pa_nil))) (pa_cons (pe_tup (pa_cons (pe_tup (pa_cons pe_str (pa_cons pe_int pa_nil))) (pa_cons (pe_tup (pa_cons pe_str (pa_cons pe_int pa_nil))) (pa_cons (pe_tup (pa_cons pe_str (pa_cons pe_int pa_nil))) pa_nil)))) pa_nil))) (pg_tup rfl (pgs_cons (pg_name (i := 1) scRight3.nd rfl (Or.inr rfl)) (pgs_cons (pg_name (i := 2) scRight3.nd rfl (Or.inr rfl)) pgs_nil))))
    (pss_cons (ps_if (PW.pt (pw_or (pt_not (pt_val (pe_callG GT hr24 gu (by rfl) mT kT bT (pa_cons (pv 1) (pa_cons (pv 2) pa_nil))))) (pw_or (pt_not (pt_val (pe_callG GX hr gu (by rfl) mX kX bX (pa_cons (pv 1) (pa_cons (pv 2) pa_nil))))) (pw_or1 (pt_not (pt_val (pe_callG GB hr gu (by rfl) mB kB bB (pa_cons (pv 1) (pa_cons (pv 2) pa_nil)))))))))
      (pss_one (ps_ret pe_bl)) pss_nil)
    (pss_cons (ps_for PassesOwn.never rfl (pi_tup (pe_tup (pa_cons pe_non (pa_cons (pe_lst (pa_cons pe_str pa_nil)) (pa_cons pe_str (pa_cons (pe_tup (pa_cons pe_str (pa_cons pe_str pa_nil))) (pa_cons (pe_tup (pa_cons pe_str (pa_cons pe_str (pa_cons pe_str (pa_cons pe_str pa_nil))))) (pa_cons (pe_tup (pa_cons pe_str pa_nil)) (pa_cons (pe_tup (pa_cons pe_str pa_nil)) (pa_cons (pe_tup (pa_cons pe_str pa_nil)) (pa_cons (pe_tup (pa_cons pe_int pa_nil)) (pa_cons (pe_tup (pa_cons pe_str pa_nil)) (pa_cons (pe_call GO.ok hr3 (by rfl) GO.mg GO.kp GO.b .nil pass0 (pa_cons (pv 0) pa_nil)) pa_nil))))))))))))) (pg_name (i := 3) scRight3.nd rfl (Or.inr rfl))
      (pss_one (ps_if (PW.pt (pw_and (pt_cmpR (op_neNil hr.units) (pv 3) (pe_tup pa_nil) (nomark _)) (pw_and1 (pt_not (pt_val (pe_lamTh (T := T) (t := fun E => tMake C (spQuestInitO K C CH CT CC CB) [] E (tCons (tVar 3) (tCons (tC .non) (tCons (tC .non) (tCons (tC .non) tNil))))) GR rfl rfl hr26 gu (by rfl) mR kR bR TB rfl rfl hT hu (lamS_by (by rfl)) rfl (fun _ _ _ _ _ => rfl) (fun A outer s H E f c' hr2 => pe_make MQ GIO hr2 (by rfl) TQ'.mgC bI .nil (passes_call (takes_of rfl rfl rfl rfl) (fun _ _ _ _ h => h)) (pa_cons (pv 3) (pa_cons pe_non (pa_cons pe_non (pa_cons pe_non pa_nil))))) (pa_cons pe_str (pa_cons (pv 3) pa_nil)))))))) (pss_one (ps_ret pe_bl)) pss_nil)))
    (pss_cons (ps_for PassesOwn.never rfl (pi_tup (pe_tup (pa_cons pe_non (pa_cons (pe_lst (pa_cons (pe_tup (pa_cons pe_str (pa_cons pe_int pa_nil))) pa_nil)) (pa_cons (pe_tup (pa_cons (pe_tup (pa_cons pe_str (pa_cons pe_int pa_nil))) pa_nil)) (pa_cons (pe_tup (pa_cons (pe_tup (pa_cons pe_str (pa_cons (pe_un un_neg pe_int) pa_nil))) pa_nil)) (pa_cons (pe_tup (pa_cons (pe_tup (pa_cons pe_str (pa_cons pe_bl pa_nil))) pa_nil)) (pa_cons (pe_tup (pa_cons (pe_tup (pa_cons pe_str (pa_cons pe_int pa_nil))) (pa_cons (pe_tup (pa_cons pe_str (pa_cons pe_int pa_nil))) pa_nil))) (pa_cons (pe_tup (pa_cons (pe_tup (pa_cons pe_str (pa_cons pe_int pa_nil))) pa_nil)) (pa_cons (pe_tup (pa_cons (pe_tup (pa_cons pe_str (pa_cons pe_int pa_nil))) pa_nil)) (pa_cons (pe_tup (pa_cons (pe_tup (pa_cons pe_str pa_nil)) pa_nil)) (pa_cons (pe_tup (pa_cons (pe_lst (pa_cons pe_str (pa_cons pe_int pa_nil))) pa_nil)) (pa_cons (pe_tup (pa_cons (pe_tup (pa_cons pe_str (pa_cons pe_int pa_nil))) pa_nil)) (pa_cons pe_str pa_nil)))))))))))))) (pg_name (i := 3) scRight3.nd rfl (Or.inr rfl))
      (pss_one (ps_if (pt_not (pt_val (pe_lamTh (T := T) (t := fun E => tMake C (spQuestInitO K C CH CT CC CB) [] E (tCons (tVar 1) (tCons (tC .non) (tCons (tVar 3) (tCons (tC .non) tNil))))) GR rfl rfl hr26 gu (by rfl) mR kR bR TB rfl rfl hT hu (lamS_by (by rfl)) rfl (fun _ _ _ _ _ => rfl) (fun A outer s H E f c' hr2 => pe_make MQ GIO hr2 (by rfl) TQ'.mgC bI .nil (passes_call (takes_of rfl rfl rfl rfl) (fun _ _ _ _ h => h)) (pa_cons (pv 1) (pa_cons pe_non (pa_cons (pv 3) (pa_cons pe_non pa_nil))))) (pa_cons pe_str (pa_cons (pv 3) pa_nil))))) (pss_one (ps_ret pe_bl)) pss_nil)))
    (pss_cons (ps_for PassesOwn.never rfl (pi_tup (pe_tup (pa_cons pe_non (pa_cons (pe_un un_neg pe_int) (pa_cons pe_int (pa_cons pe_bl (pa_cons pe_str (pa_cons (pe_tup (pa_cons pe_int pa_nil)) (pa_cons (pe_lst (pa_cons pe_int pa_nil)) pa_nil))))))))) (pg_name (i := 3) scRight3.nd rfl (Or.inr rfl))
      (pss_one (ps_if (pt_not (pt_val (pe_lamTh (T := T) (t := fun E => tMake C (spQuestInitO K C CH CT CC CB) [] E (tCons (tVar 1) (tCons (tC .non) (tCons (tVar 2) (tCons (tVar 3) tNil))))) GR rfl rfl hr26 gu (by rfl) mR kR bR TB rfl rfl hT hu (lamS_by (by rfl)) rfl (fun _ _ _ _ _ => rfl) (fun A outer s H E f c' hr2 => pe_make MQ GIO hr2 (by rfl) TQ'.mgC bI .nil (passes_call (takes_of rfl rfl rfl rfl) (fun _ _ _ _ h => h)) (pa_cons (pv 1) (pa_cons pe_non (pa_cons (pv 2) (pa_cons (pv 3) pa_nil))))) (pa_cons pe_str (pa_cons (pv 3) pa_nil))))) (pss_one (ps_ret pe_bl)) pss_nil)))
    (pss_cons (ps_for PassesOwn.never rfl (pi_tup (pe_tup (pa_cons pe_non (pa_cons pe_int (pa_cons (pe_lst (pa_cons pe_str pa_nil)) (pa_cons (pe_tup (pa_cons pe_str pa_nil)) (pa_cons pe_bl (pa_cons pe_dnewK pa_nil)))))))) (pg_name (i := 3) scRight3.nd rfl (Or.inr rfl))
      (pss_one (ps_if (pt_not (pt_val (pe_lamTh (T := T) (t := fun E => tMake C (spQuestInitO K C CH CT CC CB) [] E (tCons (tVar 1) (tCons (tVar 3) (tCons (tVar 2) (tCons (tC (.int 0)) tNil))))) GR rfl rfl hr26 gu (by rfl) mR kR bR TB rfl rfl hT hu (lamS_by (by rfl)) rfl (fun _ _ _ _ _ => rfl) (fun A outer s H E f c' hr2 => pe_make MQ GIO hr2 (by rfl) TQ'.mgC bI .nil (passes_call (takes_of rfl rfl rfl rfl) (fun _ _ _ _ h => h)) (pa_cons (pv 1) (pa_cons (pv 3) (pa_cons (pv 2) (pa_cons pe_int pa_nil))))) (pa_cons pe_str (pa_cons pe_int pa_nil))))) (pss_one (ps_ret pe_bl)) pss_nil)))
    (pss_cons (ps_for PassesOwn.never rfl (pi_tup (pe_tup (pa_cons pe_non (pa_cons pe_str (pa_cons pe_int (pa_cons (pe_tup pa_nil) (pa_cons (pe_lst (pa_cons pe_str pa_nil)) (pa_cons (pe_call GO.ok hr3 (by rfl) GO.mg GO.kp GO.b .nil pass0 (pa_cons (pv 0) pa_nil)) pa_nil)))))))) (pg_name (i := 3) scRight3.nd rfl (Or.inr rfl))
      (pss_one (ps_if (pt_not (pt_val (pe_lamTh (T := T) (t := fun E => tCall (spCheckO CN) [] E (tCons (tVar 3) tNil)) GR rfl rfl hr26 gu (by rfl) mR kR bR TB rfl rfl hT hu (lamS_by (by rfl)) rfl (fun _ _ _ _ _ => rfl) (fun A outer s H E f c' hr2 => pe_call GWO (hr2.mono (by decide)) (by rfl) mW kW bW .nil (passes_call (takes_of rfl rfl rfl rfl) (fun _ _ _ _ h => h)) (pa_cons (pv 3) pa_nil)) (pa_cons pe_str (pa_cons (pv 3) pa_nil))))) (pss_one (ps_ret pe_bl)) pss_nil)))
    (pss_one (ps_ret (pe_cmpR op_eq (pe_callK0 GW2 hr2 (by rfl) mW kW (width_kbn FW) pass0 (pk_cons (pe_makeK0 MQ GI hr23 (by rfl) TQ'.mgC (quest_kbnR FI) (E := E0) pass_no (pk_cons pe_int (pk_cons (pv 2) (pk_cons pe_str (pk_cons (pv 1) pk_nil))))) pk_nil)) pe_int (nomark _))))))))))⟩
end
end WL

set_option Elab.async false
set_option linter.all false
set_option maxRecDepth 100000
set_option maxHeartbeats 1000000
namespace WL
open PySem PySem.Spec PyProof.Rows L2 Evl LamX
section
variable {P : Program} {w : World} {K : PySem.W.Frag} {mg : Str → Option Value} {base : Heap}
variable {C CP CB CS CH CT CC CN ah at_ a b c l : Addr} {Cs : List Addr} {T : List (Addr × Str)} {H : Hp} {nm : Str} {DD : Ends} {x : V} {d : PyData} {m : Nat}
abbrev bodyR (K : PySem.W.Frag) (CS : Addr) (Cs : List Addr) (T : List (Addr × Str)) (nm : Str) (t : XK → TE) (ta : TA) : TS := tIfS (tNot (tB (tLamTh T nm (spRefused K CS Cs) t ta))) (tRet (tC (.bl false))) tNext
abbrev s4 (l ah at_ : Addr) (x : V) : L2.St := [some (.ref l), some (.ref ah), some (.ref at_), some x]
theorem turn_ref {t : XK → TE} {word : Str} {tx : TE} {y : V} (hx : ∀ H1, Ev tx (s4 l ah at_ x) H1 y) (hT : Tabs T H) (h : ∀ H1 fl, ExtN H H1 → Tabs T H1 → ∀ Q : VK, (∀ G', Ex H1 G' → Q (.bl true) G') → spRefused K CS Cs (fun E H' Q' => t E (s4 l ah at_ x) H' Q') [.ref fl, .str word, y] H1 Q E0)
    (k : ∀ H2, ExtN H H2 → Tabs T H2 → DD.nx (s4 l ah at_ x) H2) : bodyR K CS Cs T nm t (tCons (tC (.str word)) (tCons tx tNil)) DD (s4 l ah at_ x) H := by
  refine ⟨hT, fun H1 e1 T1 c' hc => ?_⟩
  refine hx H1 H1 (Ex.refl H1) _ fun H2 e2 => ?_
  refine ⟨e2 _ _ hc, fun fl => h H2 fl (e1.trans (ExtN.of e2)) (T1.ext e2) _ fun G' eG => ⟨true, rfl, ?_⟩⟩
  exact k G' ((e1.trans (ExtN.of e2)).trans (ExtN.of eG)) ((T1.ext e2).ext eG)
theorem mem_last {ds es : List PyData} {d e : PyData} (he : e ∈ es) (hd : d ∈ ds ++ [e]) : d ∈ ds ++ es := by
  rcases List.mem_append.mp hd with h | h
  · exact List.mem_append_left _ h
  · rw [List.mem_singleton.mp h]
    exact List.mem_append_right _ he
theorem seen_of (h : d ∈ headL ++ tablesL ++ changedL ++ textL ++ noneL ++ oddL) : SeenO d := seenB_of (List.all_eq_true.mp seen_all d h)
theorem turn_head (hd : d ∈ headL ++ oddL) (od : Odd H x d) (ED : ErrX K CS Cs 0 CH) (hT : Tabs T H) (k : ∀ H2, ExtN H H2 → Tabs T H2 → DD.nx (s4 l ah at_ x) H2) :
    tIfS (tAnd (tTest (tOp rNeNil (tVar 3) (tTup tNil))) (tNot (tB (tLamTh T nm (spRefused K CS Cs) (fun E => tMake C (spQuestInitO K C CH CT CC CB) [] E (tCons (tVar 3) (tCons (tC .non) (tCons (tC .non) (tCons (tC .non) tNil))))) (tCons (tC (.str "head")) (tCons (tVar 3) tNil)))))) (tRet (tC (.bl false))) tNext DD (s4 l ah at_ x) H := by
  have h1 : isHeadD d = false := by simpa using List.all_eq_true.mp head_no d hd
  have h2 : PyData.eqv d (.tuple []) = false := by simpa using List.all_eq_true.mp head_ne d hd
  have h3 := List.all_eq_true.mp head_shaped d hd
  have sn : SeenO d := seen_of (by
    rcases List.mem_append.mp hd with h | h
    · simp only [List.mem_append]; exact .inl (.inl (.inl (.inl (.inl h))))
    · exact List.mem_append_right _ h)
  refine ⟨x, rfl, by show 0 ≤ sizeLine; omega, fun p hp => ⟨d, p, od.up (Ex.new hp), rfl, upd_same, ?_, h2, true, rfl, ?_⟩⟩
  · rw [Bool.or_eq_true, Bool.and_eq_true] at h3
    rcases h3 with h3 | h3
    · exact .inl h3
    · refine .inr ?_
      split at h3
      · rfl
      · cases h3
  · have e := Ex.new (o := HO.tup []) hp
    refine turn_ref (t := fun E => tMake C (spQuestInitO K C CH CT CC CB) [] E (tCons (tVar 3) (tCons (tC .non) (tCons (tC .non) (tCons (tC .non) tNil))))) (word := "head") (tx := tVar 3) (y := x) (nm := nm) (T := T) (fun H1 => ev_var rfl) (hT.ext e) (fun H1 fl e1 T1 Q q => ref_head (ea_cons (ev_var rfl) (ea_cons ev_c (ea_cons ev_c (ea_cons ev_c ea_nil)))) ED ((od.up e).onN e1) h1 sn q) fun H2 e2 T2 => k H2 ((ExtN.of e).trans e2) T2
theorem turn_tables (hd : d ∈ tablesL) (od : Odd H x d) (B : Both K H ah at_ hs3 (ts3 a b c) dh3 dt3) (ED : ErrX K CS Cs 1 CT) (hT : Tabs T H) (k : ∀ H2, ExtN H H2 → Tabs T H2 → DD.nx (s4 l ah at_ x) H2) :
    bodyR K CS Cs T nm (fun E => tMake C (spQuestInitO K C CH CT CC CB) [] E (tCons (tVar 1) (tCons (tC .non) (tCons (tVar 3) (tCons (tC .non) tNil))))) (tCons (tC (.str "tables")) (tCons (tVar 3) tNil)) DD (s4 l ah at_ x) H := by
  have sn : SeenO d := seen_of (by simp only [List.mem_append]; exact .inl (.inl (.inl (.inl (.inr hd)))))
  refine turn_ref (t := fun E => tMake C (spQuestInitO K C CH CT CC CB) [] E (tCons (tVar 1) (tCons (tC .non) (tCons (tVar 3) (tCons (tC .non) tNil))))) (y := x) (fun H1 => ev_var rfl) hT (fun H1 fl e1 T1 Q q => ?_) k
  have B1 := B.onN e1
  have od1 := od.onN e1
  have ha : ∀ y, x = y → EvA (tCons (tVar 1) (tCons (tC .non) (tCons (tVar 3) (tCons (tC .non) tNil)))) (s4 l ah at_ x) H1 [.ref ah, .non, y, .non] := fun y e => e ▸ ea_cons (ev_var rfl) (ea_cons ev_c (ea_cons (ev_var rfl) (ea_cons ev_c ea_nil)))
  cases ht : isTablesD d with
  | false => exact ref_tables (ha _ rfl) ED B1.oh B1.yh od1 ht sn q
  | true =>
    have z : d ∈ tablesL.filter isTablesD := List.mem_filter.mpr ⟨hd, ht⟩
    rw [tables_no] at z
    obtain rfl := List.mem_singleton.mp z
    obtain ⟨t2, xs, rfl, g2, _, r⟩ := (id od1 : Odd H1 x (.tuple _)).tuple_inv
    cases r with
    | cons r1 r =>
      cases r
      obtain ⟨r3, rfl, g3⟩ := row_inv r1
      exact ref_tables2 (hs := hs3) (ts := [(r3, "x", 1)]) (ha _ rfl) ED ⟨B1.oh, B1.yh, od1, ht, B1.sh, ⟨st_of g2, fun t m => by rw [List.mem_singleton.mp m]; exact st_of g3⟩, by show 1 ≤ 800; decide⟩ (by kernel_rfl) sn q
theorem out3 (a b c : Addr) : ((ts3 a b c).map fun t => inV (.str t.2.1) (hs3.map V.str)).any id = false := by kernel_rfl
theorem turn_changed (hd : d ∈ changedL) (od : Odd H x d) (B : Both K H ah at_ hs3 (ts3 a b c) dh3 dt3) (ED : ErrX K CS Cs 2 CC) (hT : Tabs T H) (k : ∀ H2, ExtN H H2 → Tabs T H2 → DD.nx (s4 l ah at_ x) H2) :
    bodyR K CS Cs T nm (fun E => tMake C (spQuestInitO K C CH CT CC CB) [] E (tCons (tVar 1) (tCons (tC .non) (tCons (tVar 2) (tCons (tVar 3) tNil))))) (tCons (tC (.str "changed")) (tCons (tVar 3) tNil)) DD (s4 l ah at_ x) H := by
  have sn : SeenO d := seen_of (by simp only [List.mem_append]; exact .inl (.inl (.inl (.inr hd))))
  have no : isIntD d 0 3 = false := by simpa using List.all_eq_true.mp changed_no d hd
  refine turn_ref (t := fun E => tMake C (spQuestInitO K C CH CT CC CB) [] E (tCons (tVar 1) (tCons (tC .non) (tCons (tVar 2) (tCons (tVar 3) tNil))))) (y := x) (fun H1 => ev_var rfl) hT (fun H1 fl e1 T1 Q q => ?_) k
  exact ref_changed (ea_cons (ev_var rfl) (ea_cons ev_c (ea_cons (ev_var rfl) (ea_cons (ev_var rfl) ea_nil)))) ED (B.onN e1) (out3 a b c) (od.onN e1) no sn q
theorem turn_text (hd : d ∈ textL) (od : Odd H x d) (B : Both K H ah at_ hs3 (ts3 a b c) dh3 dt3) (ED : ErrX K CS Cs 3 CB) (hT : Tabs T H) (k : ∀ H2, ExtN H H2 → Tabs T H2 → DD.nx (s4 l ah at_ x) H2) :
    bodyR K CS Cs T nm (fun E => tMake C (spQuestInitO K C CH CT CC CB) [] E (tCons (tVar 1) (tCons (tVar 3) (tCons (tVar 2) (tCons (tC (.int 0)) tNil))))) (tCons (tC (.str "question")) (tCons (tC (.int 0)) tNil)) DD (s4 l ah at_ x) H := by
  have no : isS d = false := by simpa using List.all_eq_true.mp text_no d hd
  refine turn_ref (t := fun E => tMake C (spQuestInitO K C CH CT CC CB) [] E (tCons (tVar 1) (tCons (tVar 3) (tCons (tVar 2) (tCons (tC (.int 0)) tNil))))) (y := .int 0) (fun H1 => ev_c) hT (fun H1 fl e1 T1 Q q => ?_) k
  exact ref_text (ea_cons (ev_var rfl) (ea_cons (ev_var rfl) (ea_cons (ev_var rfl) (ea_cons ev_c ea_nil)))) ED (B.onN e1) (out3 a b c) (od.onN e1) no q
theorem turn_none (hd : d ∈ noneL ++ oddL) (od : Odd H x d) (ED : ErrX K CS Cs 4 CN) (hT : Tabs T H) (k : ∀ H2, ExtN H H2 → Tabs T H2 → DD.nx (s4 l ah at_ x) H2) :
    bodyR K CS Cs T nm (fun E => tCall (spCheckO CN) [] E (tCons (tVar 3) tNil)) (tCons (tC (.str "none")) (tCons (tVar 3) tNil)) DD (s4 l ah at_ x) H := by
  have sn : SeenO d := seen_of (by
    rcases List.mem_append.mp hd with h | h
    · simp only [List.mem_append]; exact .inl (.inr h)
    · exact List.mem_append_right _ h)
  refine turn_ref (t := fun E => tCall (spCheckO CN) [] E (tCons (tVar 3) tNil)) (y := x) (fun H1 => ev_var rfl) hT (fun H1 fl e1 T1 Q q => ?_) k
  exact ref_none (ea_cons (ev_var rfl) ea_nil) ED (od.onN e1) sn q
end
end WL

set_option Elab.async false
set_option linter.all false
set_option maxRecDepth 100000
set_option maxHeartbeats 2000000
namespace WL
open PySem PySem.Spec PyProof.Rows L2 Evl LamX
theorem less_ok (a b c : Addr) : okD (ts3 a b c) ("less p x", 1, 1, true, 2) = true := by kernel_rfl
def spRight3 (T : List (Addr × Str)) : Sp := fun vs H Q _ => ∃ l, vs = [.ref l] ∧ PotAt H l 0 ∧ Tabs T H ∧ ∀ H', Q (.bl true) H'
section
variable {K : PySem.W.Frag} {C CP CB CS CH CT CC CN ah at_ a b c l : Addr} {Cs : List Addr} {T : List (Addr × Str)} {H : Hp} {nm : Str} {D : Ends} {x : V} {d : PyData} {m : Nat} {x3 : Option V}
abbrev tHead (K : PySem.W.Frag) (CS C CB CH CT CC : Addr) (Cs : List Addr) (T : List (Addr × Str)) (nm : Str) : TS := tIfS (tAnd (tTest (tOp rNeNil (tVar 3) (tTup tNil))) (tNot (tB (tLamTh T nm (spRefused K CS Cs) (fun E => tMake C (spQuestInitO K C CH CT CC CB) [] E (tCons (tVar 3) (tCons (tC .non) (tCons (tC .non) (tCons (tC .non) tNil))))) (tCons (tC (.str "head")) (tCons (tVar 3) tNil)))))) (tRet (tC (.bl false))) tNext
abbrev tOddC : TE := tCall spOdd [] E0 (tCons (tVar 0) tNil)
abbrev dHead : TA := tCons (tC .non) (tCons (tLst (tCons (tC (.str "x")) tNil)) (tCons (tC (.str "x")) (tCons (tTup (tCons (tC (.str "x")) (tCons (tC (.str "x")) tNil))) (tCons (tTup (tCons (tC (.str "x")) (tCons (tC (.str "y")) (tCons (tC (.str "z")) (tCons (tC (.str "u")) tNil))))) (tCons (tTup (tCons (tC (.str "p")) tNil)) (tCons (tTup (tCons (tC (.str "some")) tNil)) (tCons (tTup (tCons (tC (.str "X")) tNil)) (tCons (tTup (tCons (tC (.int 1)) tNil)) (tCons (tTup (tCons (tC (.str "abcdefg")) tNil)) (tCons tOddC tNil))))))))))
theorem loop_head {ts : List (Addr × Str × Int)} (hp : PotAt H l m) (hm : m ≤ 1000000) (hT : Tabs T H) (B : Both K H ah at_ hs3 ts dh3 dt3) (ED : ErrX K CS Cs 0 CH)
    (k : ∀ x3 H', PotAt H' l (m + 1) → Tabs T H' → Both K H' ah at_ hs3 ts dh3 dt3 → D.nx [some (.ref l), some (.ref ah), some (.ref at_), x3] H') :
    tFor (iTup K (tTup dHead)) (gName 3) (tHead K CS C CB CH CT CC Cs T nm) D [some (.ref l), some (.ref ah), some (.ref at_), x3] H := by
  refine for_madeO (ds := headL) (es := oddL) (m := m) (eo_cons (fun _ => ed_non) rfl (eo_cons (fun _ => ed_lst (eds_cons (ed_str (by decide)) eds_nil) (by decide)) rfl (eo_cons (fun _ => ed_str (by decide)) rfl (eo_cons (fun _ => ed_tup (eds_cons (ed_str (by decide)) (eds_cons (ed_str (by decide)) eds_nil)) (by decide)) rfl (eo_cons (fun _ => ed_tup (eds_cons (ed_str (by decide)) (eds_cons (ed_str (by decide)) (eds_cons (ed_str (by decide)) (eds_cons (ed_str (by decide)) eds_nil)))) (by decide)) rfl
    (eo_cons (fun _ => ed_tup (eds_cons (ed_str (by decide)) eds_nil) (by decide)) rfl (eo_cons (fun _ => ed_tup (eds_cons (ed_str (by decide)) eds_nil) (by decide)) rfl (eo_cons (fun _ => ed_tup (eds_cons (ed_str (by decide)) eds_nil) (by decide)) rfl (eo_cons (fun _ => ed_tup (eds_cons ed_int eds_nil) (by decide)) rfl (eo_cons (fun _ => ed_tup (eds_cons (ed_str (by decide)) eds_nil) (by decide)) rfl (eo_last rfl hm))))))))))) (by decide) hp fun t xs H2 e he b2 p2 gt r => ?_
  obtain ⟨own, u, v, hl, _⟩ := id hp
  refine loop_ref (T := T) gt r (tabs_lst hl b2 hT) (fun d hd x H' eN T' od DD kD => turn_head (mem_last he hd) od ED T' kD) fun x3 H' eN T' => ?_
  obtain ⟨o2, u2, v2, hl2, z2⟩ := p2
  exact k x3 H' ⟨o2, u2, v2, eN _ _ hl2 (fun ps z => by cases z), z2⟩ T' ((B.pot hl rfl b2 rfl rfl).onN eN)
abbrev dNone : TA := tCons (tC .non) (tCons (tC (.str "yes")) (tCons (tC (.int 5)) (tCons (tTup tNil) (tCons (tLst (tCons (tC (.str "yes")) tNil)) (tCons tOddC tNil)))))
theorem loop_none {ts : List (Addr × Str × Int)} (hp : PotAt H l m) (hm : m ≤ 1000000) (hT : Tabs T H) (B : Both K H ah at_ hs3 ts dh3 dt3) (ED : ErrX K CS Cs 4 CN)
    (k : ∀ x3 H', PotAt H' l (m + 1) → Tabs T H' → Both K H' ah at_ hs3 ts dh3 dt3 → D.nx [some (.ref l), some (.ref ah), some (.ref at_), x3] H') :
    tFor (iTup K (tTup dNone)) (gName 3) (bodyR K CS Cs T nm (fun E => tCall (spCheckO CN) [] E (tCons (tVar 3) tNil)) (tCons (tC (.str "none")) (tCons (tVar 3) tNil))) D [some (.ref l), some (.ref ah), some (.ref at_), x3] H := by
  refine for_madeO (ds := noneL) (es := oddL) (m := m) (eo_cons (fun _ => ed_non) rfl (eo_cons (fun _ => ed_str (by decide)) rfl (eo_cons (fun _ => ed_int) rfl (eo_cons (fun _ => ed_tup eds_nil (by decide)) rfl (eo_cons (fun _ => ed_lst (eds_cons (ed_str (by decide)) eds_nil) (by decide)) rfl (eo_last rfl hm)))))) (by decide) hp fun t xs H2 e he b2 p2 gt r => ?_
  obtain ⟨own, u, v, hl, _⟩ := id hp
  refine loop_ref (T := T) gt r (tabs_lst hl b2 hT) (fun d hd x H' eN T' od DD kD => turn_none (mem_last he hd) od ED T' kD) fun x3 H' eN T' => ?_
  obtain ⟨o2, u2, v2, hl2, z2⟩ := p2
  exact k x3 H' ⟨o2, u2, v2, eN _ _ hl2 (fun ps z => by cases z), z2⟩ T' ((B.pot hl rfl b2 rfl rfl).onN eN)
theorem pot_onN {H' : Hp} (e : ExtN H H') (p : PotAt H l m) : PotAt H' l m := by
  obtain ⟨o2, u2, v2, hl2, z2⟩ := p
  exact ⟨o2, u2, v2, e _ _ hl2 (fun ps z => by cases z), z2⟩
structure St3 (K : PySem.W.Frag) (T : List (Addr × Str)) (l ah at_ a b c : Addr) (m : Nat) (H : Hp) : Prop where
  pot : PotAt H l m
  tabs : Tabs T H
  both : Both K H ah at_ hs3 (ts3 a b c) dh3 dt3
theorem q_asgD {te : TE} {g : TG} {u : TS} {σ : L2.St} (h : EvD te σ H d) (k : ∀ v H1, Ex H H1 → Odd H1 v d → g v σ H1 fun σ2 H2 => u D σ2 H2) : tSeq (tAsg te g) u D σ H := h H (Ex.refl H) _ k
theorem q_orN {te : TE} {t2 : L2.TT} {r u : TS} {σ : L2.St} (P : Hp → Prop) (h : ∀ Q : VK, (∀ H1, P H1 → Q (.bl true) H1) → te σ H Q) (k : ∀ H1, P H1 → tSeq (tIfS t2 r tNext) u D σ H1) : tSeq (tIfS (tOr (tNot (tB te)) t2) r tNext) u D σ H := h _ fun H1 p => ⟨true, rfl, k H1 p⟩
theorem q_orN1 {te : TE} {r u : TS} {σ : L2.St} (P : Hp → Prop) (h : ∀ Q : VK, (∀ H1, P H1 → Q (.bl true) H1) → te σ H Q) (k : ∀ H1, P H1 → u D σ H1) : tSeq (tIfS (tNot (tB te)) r tNext) u D σ H := h _ fun H1 p => ⟨true, rfl, k H1 p⟩
theorem loop_made {ta : TA} {t : TS} {ds : List PyData} (h : ∀ H, EvDs ta [some (.ref l), some (.ref ah), some (.ref at_), x3] H ds) (hz : ds.length ≤ 1000) (S : St3 K T l ah at_ a b c m H)
    (hb : ∀ d ∈ ds, ∀ x H', Tabs T H' → Both K H' ah at_ hs3 (ts3 a b c) dh3 dt3 → Odd H' x d → ∀ DD : Ends, (∀ H2, ExtN H' H2 → Tabs T H2 → DD.nx (s4 l ah at_ x) H2) → t DD (s4 l ah at_ x) H')
    (k : ∀ x3 H', St3 K T l ah at_ a b c m H' → D.nx [some (.ref l), some (.ref ah), some (.ref at_), x3] H') : tFor (iTup K (tTup ta)) (gName 3) t D [some (.ref l), some (.ref ah), some (.ref at_), x3] H := by
  refine for_made (h H) hz fun p xs H2 e2 gp r => ?_
  refine loop_ref (T := T) gp r (S.tabs.ext e2) (fun d hd x H' eN T' od DD kD => hb d hd x H' T' ((S.both.up e2).onN eN) od DD kD) fun x3 H' eN T' => ?_
  exact k x3 H' ⟨pot_onN eN (S.pot.up e2), T', (S.both.up e2).onN eN⟩
end
end WL

set_option Elab.async false
set_option linter.all false
set_option maxRecDepth 100000
set_option maxHeartbeats 4000000
namespace WL
open PySem PySem.Spec PyProof.Rows L2 Evl LamX
section
variable {P : Program} {w : World} {K : PySem.W.Frag} {mg : Str → Option Value} {base : Heap}
theorem ok_right {gr gi go gt gx gb gwo C CP CB CS CH CT CC CN Tb c : Addr} {gdr gdi gdo gdt gdx gdb gdwo : FuncData} {Cs : List Addr} {T : List (Addr × Str)} {f : Addr} {fd : FuncData} (F : Fun K "_law_right" "_law_right" sLawRight f fd) (hcode : fd.code = .ref c) (TLw : TL mg) (TB : TabB base mg c Tb) (hT : (Tb, lamRi) ∈ T) (hu : ∀ p ∈ T, p.1 = Tb → p.2 = lamRi) (TQ' : TQ K mg C)
    (GO : FVal P w K mg base "_law_odd" go gdo 3 ["pot"] spOdd)
    (GT : FnG P w K mg base 24 gt gdt ["head", "tables"] (spAreTold K)) (mT : mg "_law_are_told" = some (.ref gt)) (kT : PySem.W.keepIn K (.ref gt) = true) (bT : Binds K gdt ["head", "tables"] [])
    (GX : FnG P w K mg base 27 gx gdx ["head", "tables"] (spTexts K T)) (mX : mg "_law_are_texts_refused" = some (.ref gx)) (kX : PySem.W.keepIn K (.ref gx) = true) (bX : Binds K gdx ["head", "tables"] [])
    (GB : FnG P w K mg base 27 gb gdb ["head", "tables"] (spTexts K T)) (mB : mg "_law_are_bounds_right" = some (.ref gb)) (kB : PySem.W.keepIn K (.ref gb) = true) (bB : Binds K gdb ["head", "tables"] [])
    (GR : FnTh P w K mg base 26 23 gr gdr ["call", "word", "value"] (spRefused K CS Cs)) (mR : mg "_law_is_refused" = some (.ref gr)) (kR : PySem.W.keepIn K (.ref gr) = true) (bR : Binds K gdr ["call", "word", "value"] [])
    (GIO : FnOk P w K mg base (L2.CX P w) 22 gi gdi ["self", "head", "text", "tables", "changed"] (spQuestInitO K C CH CT CC CB)) (MQ : Mk K C gi) (bI : Binds K gdi ["self", "head", "text", "tables", "changed"] [])
    (GWO : FnOk P w K mg base (L2.CX P w) 4 gwo gdwo ["question"] (spCheckO CN)) (mW : mg "width" = some (.ref gwo)) (kW : PySem.W.keepIn K (.ref gwo) = true) (bW : Binds K gdwo ["question"] [])
    (GW2 : FnOk P w K mg base CX0 2 gwo gdwo ["question"] (spWidth K C CP)) (FW : Fun K "width" "width" sWidth gwo gdwo) (FI : Fun K "__init__" "Question.__init__" sQuestion_Init gi gdi) (GI : FnOk P w K mg base (L2.CX P w) 22 gi gdi ["self", "head", "text", "tables", "changed"] (spQuestInitX K C CP CB)) (E0' : ErrX K CS Cs 0 CH) (E1 : ErrX K CS Cs 1 CT) (E2 : ErrX K CS Cs 2 CC) (E3 : ErrX K CS Cs 3 CB) (E4 : ErrX K CS Cs 4 CN) : FnG P w K mg base 28 f fd ["pot"] (spRight3 T) := by
  refine okC F scRight3 (fun vs H Q E h => ?_) (fun cdv A outer s H vs Q E hcd hr gu h => ?_)
  · obtain ⟨l, rfl, _⟩ := h
    rfl
  rw [hcode] at hcd
  subst hcd
  obtain ⟨l, rfl, hpot, hTabs, kk⟩ := h
  have hr2 : Room 2 _ := hr.mono (by decide)
  have hr23 : Room 23 _ := hr.mono (by decide)
  have hr3 : Room 3 _ := hr.mono (by decide)
  have hr24 : Room 24 _ := hr.mono (by decide)
  have hr26 : Room 26 _ := hr.mono (by decide)
  refine ⟨_, pss_cons (ps_asg (pe_tup (pa_cons (pe_tup (pa_cons pe_str (pa_cons pe_str pa_nil))) (pa_cons (pe_tup (pa_cons (pe_tup (pa_cons pe_str (pa_cons pe_int pa_nil))) (pa_cons (pe_tup (pa_cons pe_str (pa_cons pe_int pa_nil))) (pa_cons (pe_tup (pa_cons pe_str (pa_cons pe_int pa_nil))) pa_nil)))) pa_nil))) (pg_tup rfl (pgs_cons (pg_name (i := 1) scRight3.nd rfl (Or.inr rfl)) (pgs_cons (pg_name (i := 2) scRight3.nd rfl (Or.inr rfl)) pgs_nil))))
    (pss_cons (ps_if (PW.pt (pw_or (pt_not (pt_val (pe_callG GT hr24 gu (by rfl) mT kT bT (pa_cons (pv 1) (pa_cons (pv 2) pa_nil))))) (pw_or (pt_not (pt_val (pe_callG GX hr gu (by rfl) mX kX bX (pa_cons (pv 1) (pa_cons (pv 2) pa_nil))))) (pw_or1 (pt_not (pt_val (pe_callG GB hr gu (by rfl) mB kB bB (pa_cons (pv 1) (pa_cons (pv 2) pa_nil)))))))))
      (pss_one (ps_ret pe_bl)) pss_nil)
    (pss_cons (ps_for PassesOwn.never rfl (pi_tup (pe_tup (pa_cons pe_non (pa_cons (pe_lst (pa_cons pe_str pa_nil)) (pa_cons pe_str (pa_cons (pe_tup (pa_cons pe_str (pa_cons pe_str pa_nil))) (pa_cons (pe_tup (pa_cons pe_str (pa_cons pe_str (pa_cons pe_str (pa_cons pe_str pa_nil))))) (pa_cons (pe_tup (pa_cons pe_str pa_nil)) (pa_cons (pe_tup (pa_cons pe_str pa_nil)) (pa_cons (pe_tup (pa_cons pe_str pa_nil)) (pa_cons (pe_tup (pa_cons pe_int pa_nil)) (pa_cons (pe_tup (pa_cons pe_str pa_nil)) (pa_cons (pe_call GO.ok hr3 (by rfl) GO.mg GO.kp GO.b .nil pass0 (pa_cons (pv 0) pa_nil)) pa_nil))))))))))))) (pg_name (i := 3) scRight3.nd rfl (Or.inr rfl))
      (pss_one (ps_if (PW.pt (pw_and (pt_cmpR (op_neNil hr.units) (pv 3) (pe_tup pa_nil) (nomark _)) (pw_and1 (pt_not (pt_val (pe_lamTh (T := T) (t := fun E => tMake C (spQuestInitO K C CH CT CC CB) [] E (tCons (tVar 3) (tCons (tC .non) (tCons (tC .non) (tCons (tC .non) tNil))))) GR rfl rfl hr26 gu (by rfl) mR kR bR TB rfl rfl hT hu (lamS_by (by rfl)) rfl (fun _ _ _ _ _ => rfl) (fun A outer s H E f c' hr2 => pe_make MQ GIO hr2 (by rfl) TQ'.mgC bI .nil (passes_call (takes_of rfl rfl rfl rfl) (fun _ _ _ _ h => h)) (pa_cons (pv 3) (pa_cons pe_non (pa_cons pe_non (pa_cons pe_non pa_nil))))) (pa_cons pe_str (pa_cons (pv 3) pa_nil)))))))) (pss_one (ps_ret pe_bl)) pss_nil)))
    (pss_cons (ps_for PassesOwn.never rfl (pi_tup (pe_tup (pa_cons pe_non (pa_cons (pe_lst (pa_cons (pe_tup (pa_cons pe_str (pa_cons pe_int pa_nil))) pa_nil)) (pa_cons (pe_tup (pa_cons (pe_tup (pa_cons pe_str (pa_cons pe_int pa_nil))) pa_nil)) (pa_cons (pe_tup (pa_cons (pe_tup (pa_cons pe_str (pa_cons (pe_un un_neg pe_int) pa_nil))) pa_nil)) (pa_cons (pe_tup (pa_cons (pe_tup (pa_cons pe_str (pa_cons pe_bl pa_nil))) pa_nil)) (pa_cons (pe_tup (pa_cons (pe_tup (pa_cons pe_str (pa_cons pe_int pa_nil))) (pa_cons (pe_tup (pa_cons pe_str (pa_cons pe_int pa_nil))) pa_nil))) (pa_cons (pe_tup (pa_cons (pe_tup (pa_cons pe_str (pa_cons pe_int pa_nil))) pa_nil)) (pa_cons (pe_tup (pa_cons (pe_tup (pa_cons pe_str (pa_cons pe_int pa_nil))) pa_nil)) (pa_cons (pe_tup (pa_cons (pe_tup (pa_cons pe_str pa_nil)) pa_nil)) (pa_cons (pe_tup (pa_cons (pe_lst (pa_cons pe_str (pa_cons pe_int pa_nil))) pa_nil)) (pa_cons (pe_tup (pa_cons (pe_tup (pa_cons pe_str (pa_cons pe_int pa_nil))) pa_nil)) (pa_cons pe_str pa_nil)))))))))))))) (pg_name (i := 3) scRight3.nd rfl (Or.inr rfl))
      (pss_one (ps_if (pt_not (pt_val (pe_lamTh (T := T) (t := fun E => tMake C (spQuestInitO K C CH CT CC CB) [] E (tCons (tVar 1) (tCons (tC .non) (tCons (tVar 3) (tCons (tC .non) tNil))))) GR rfl rfl hr26 gu (by rfl) mR kR bR TB rfl rfl hT hu (lamS_by (by rfl)) rfl (fun _ _ _ _ _ => rfl) (fun A outer s H E f c' hr2 => pe_make MQ GIO hr2 (by rfl) TQ'.mgC bI .nil (passes_call (takes_of rfl rfl rfl rfl) (fun _ _ _ _ h => h)) (pa_cons (pv 1) (pa_cons pe_non (pa_cons (pv 3) (pa_cons pe_non pa_nil))))) (pa_cons pe_str (pa_cons (pv 3) pa_nil))))) (pss_one (ps_ret pe_bl)) pss_nil)))
    (pss_cons (ps_for PassesOwn.never rfl (pi_tup (pe_tup (pa_cons pe_non (pa_cons (pe_un un_neg pe_int) (pa_cons pe_int (pa_cons pe_bl (pa_cons pe_str (pa_cons (pe_tup (pa_cons pe_int pa_nil)) (pa_cons (pe_lst (pa_cons pe_int pa_nil)) pa_nil))))))))) (pg_name (i := 3) scRight3.nd rfl (Or.inr rfl))
      (pss_one (ps_if (pt_not (pt_val (pe_lamTh (T := T) (t := fun E => tMake C (spQuestInitO K C CH CT CC CB) [] E (tCons (tVar 1) (tCons (tC .non) (tCons (tVar 2) (tCons (tVar 3) tNil))))) GR rfl rfl hr26 gu (by rfl) mR kR bR TB rfl rfl hT hu (lamS_by (by rfl)) rfl (fun _ _ _ _ _ => rfl) (fun A outer s H E f c' hr2 => pe_make MQ GIO hr2 (by rfl) TQ'.mgC bI .nil (passes_call (takes_of rfl rfl rfl rfl) (fun _ _ _ _ h => h)) (pa_cons (pv 1) (pa_cons pe_non (pa_cons (pv 2) (pa_cons (pv 3) pa_nil))))) (pa_cons pe_str (pa_cons (pv 3) pa_nil))))) (pss_one (ps_ret pe_bl)) pss_nil)))
    (pss_cons (ps_for PassesOwn.never rfl (pi_tup (pe_tup (pa_cons pe_non (pa_cons pe_int (pa_cons (pe_lst (pa_cons pe_str pa_nil)) (pa_cons (pe_tup (pa_cons pe_str pa_nil)) (pa_cons pe_bl (pa_cons pe_dnewK pa_nil)))))))) (pg_name (i := 3) scRight3.nd rfl (Or.inr rfl))
      (pss_one (ps_if (pt_not (pt_val (pe_lamTh (T := T) (t := fun E => tMake C (spQuestInitO K C CH CT CC CB) [] E (tCons (tVar 1) (tCons (tVar 3) (tCons (tVar 2) (tCons (tC (.int 0)) tNil))))) GR rfl rfl hr26 gu (by rfl) mR kR bR TB rfl rfl hT hu (lamS_by (by rfl)) rfl (fun _ _ _ _ _ => rfl) (fun A outer s H E f c' hr2 => pe_make MQ GIO hr2 (by rfl) TQ'.mgC bI .nil (passes_call (takes_of rfl rfl rfl rfl) (fun _ _ _ _ h => h)) (pa_cons (pv 1) (pa_cons (pv 3) (pa_cons (pv 2) (pa_cons pe_int pa_nil))))) (pa_cons pe_str (pa_cons pe_int pa_nil))))) (pss_one (ps_ret pe_bl)) pss_nil)))
    (pss_cons (ps_for PassesOwn.never rfl (pi_tup (pe_tup (pa_cons pe_non (pa_cons pe_str (pa_cons pe_int (pa_cons (pe_tup pa_nil) (pa_cons (pe_lst (pa_cons pe_str pa_nil)) (pa_cons (pe_call GO.ok hr3 (by rfl) GO.mg GO.kp GO.b .nil pass0 (pa_cons (pv 0) pa_nil)) pa_nil)))))))) (pg_name (i := 3) scRight3.nd rfl (Or.inr rfl))
      (pss_one (ps_if (pt_not (pt_val (pe_lamTh (T := T) (t := fun E => tCall (spCheckO CN) [] E (tCons (tVar 3) tNil)) GR rfl rfl hr26 gu (by rfl) mR kR bR TB rfl rfl hT hu (lamS_by (by rfl)) rfl (fun _ _ _ _ _ => rfl) (fun A outer s H E f c' hr2 => pe_call GWO (hr2.mono (by decide)) (by rfl) mW kW bW .nil (passes_call (takes_of rfl rfl rfl rfl) (fun _ _ _ _ h => h)) (pa_cons (pv 3) pa_nil)) (pa_cons pe_str (pa_cons (pv 3) pa_nil))))) (pss_one (ps_ret pe_bl)) pss_nil)))
    (pss_one (ps_ret (pe_cmpR op_eq (pe_callK0 GW2 hr2 (by rfl) mW kW (width_kbn FW) pass0 (pk_cons (pe_makeK0 MQ GI hr23 (by rfl) TQ'.mgC (quest_kbnR FI) (E := E0) pass_no (pk_cons pe_int (pk_cons (pv 2) (pk_cons pe_str (pk_cons (pv 1) pk_nil))))) pk_nil)) pe_int (nomark _)))))))))), ?_⟩
  have word : EvD (tTup (tCons (tTup (tCons (tC (.str "x")) (tCons (tC (.str "y")) tNil))) (tCons (tTup (tCons (tTup (tCons (tC (.str "row")) (tCons (tC (.int 2)) tNil))) (tCons (tTup (tCons (tC (.str "flag")) (tCons (tC (.int 0)) tNil))) (tCons (tTup (tCons (tC (.str "in")) (tCons (tC (.int 1)) tNil))) tNil)))) tNil))) (L2.start nRi [V.ref l]) H (.tuple [dh3, dt3]) :=
    ed_tup (eds_cons (ed_tup (eds_cons (ed_str (by decide)) (eds_cons (ed_str (by decide)) eds_nil)) (by decide)) (eds_cons (ed_tup (eds_cons (ed_tup (eds_cons (ed_str (by decide)) (eds_cons ed_int eds_nil)) (by decide)) (eds_cons (ed_tup (eds_cons (ed_str (by decide)) (eds_cons ed_int eds_nil)) (by decide)) (eds_cons (ed_tup (eds_cons (ed_str (by decide)) (eds_cons ed_int eds_nil)) (by decide)) eds_nil))) (by decide)) eds_nil)) (by decide)
  refine q_asgD word fun v H1 e1 o1 => ?_
  obtain ⟨p, x, y, rfl, gp, ox, oy⟩ := pair_inv o1
  obtain ⟨ah, at_, a, b, c0, rfl, rfl, B⟩ := both_of (K := K) ox oy
  refine g_pair (st_of gp) ?_
  refine q_orN (σ := [some (V.ref l), some (V.ref ah), some (V.ref at_), none]) (Ex H1) (fun Q q => call_gen (ea_cons (ev_var rfl) (ea_cons (ev_var rfl) ea_nil)) fun H2 e2 => ⟨ah, at_, a, b, c0, rfl, ex_t e2 B.sh, B.st.up e2, fun H3 e3 => q H3 (e2.trans e3)⟩) fun H3 e3 => ?_
  refine q_orN (σ := [some (V.ref l), some (V.ref ah), some (V.ref at_), none]) (fun H5 => ExtN H3 H5 ∧ Tabs T H5) (fun Q q => call_gen (ea_cons (ev_var rfl) (ea_cons (ev_var rfl) ea_nil)) fun H4 e4 => ⟨ah, at_, a, b, c0, rfl, ex_t (e3.trans e4) B.sh, B.st.up (e3.trans e4), hTabs.ext ((e1.trans e3).trans e4), fun H5 e5 T5 => q H5 ⟨(ExtN.of e4).trans e5, T5⟩⟩) fun H5 h5 => ?_
  obtain ⟨e5, T5⟩ := h5
  have B5 : Both K H5 ah at_ hs3 (ts3 a b c0) dh3 dt3 := (B.up e3).onN e5
  have p5 := pot_onN e5 (hpot.up (e1.trans e3))
  refine q_orN1 (σ := [some (V.ref l), some (V.ref ah), some (V.ref at_), none]) (fun H7 => ExtN H5 H7 ∧ Tabs T H7) (fun Q q => call_gen (ea_cons (ev_var rfl) (ea_cons (ev_var rfl) ea_nil)) fun H6 e6 => ⟨ah, at_, a, b, c0, rfl, ex_t e6 B5.sh, B5.st.up e6, T5.ext e6, fun H7 e7 T7 => q H7 ⟨(ExtN.of e6).trans e7, T7⟩⟩) fun H7 h7 => ?_
  obtain ⟨e7, T7⟩ := h7
  have B7 : Both K H7 ah at_ hs3 (ts3 a b c0) dh3 dt3 := B5.onN e7
  have p7 := pot_onN e7 p5
  clear o1 ox oy gp B B5 p5 hpot hTabs T5
  refine loop_head (T := T) p7 (by decide) T7 B7 E0' fun x3 H8 p8 T8 B8 => ?_
  refine loop_made (l := l) (ah := ah) (at_ := at_) (a := a) (b := b) (c := c0) (m := 1) (T := T) (ds := tablesL) (fun _ => (eds_cons ed_non (eds_cons (ed_lst (eds_cons (ed_tup (eds_cons (ed_str (by decide)) (eds_cons ed_int eds_nil)) (by decide)) eds_nil) (by decide)) (eds_cons (ed_tup (eds_cons (ed_tup (eds_cons (ed_str (by decide)) (eds_cons ed_int eds_nil)) (by decide)) eds_nil) (by decide)) (eds_cons (ed_tup (eds_cons (ed_tup (eds_cons (ed_str (by decide)) (eds_cons ed_neg1 eds_nil)) (by decide)) eds_nil) (by decide)) (eds_cons (ed_tup (eds_cons (ed_tup (eds_cons (ed_str (by decide)) (eds_cons ed_bl eds_nil)) (by decide)) eds_nil) (by decide)) (eds_cons (ed_tup (eds_cons (ed_tup (eds_cons (ed_str (by decide)) (eds_cons ed_int eds_nil)) (by decide)) (eds_cons (ed_tup (eds_cons (ed_str (by decide)) (eds_cons ed_int eds_nil)) (by decide)) eds_nil)) (by decide)) (eds_cons (ed_tup (eds_cons (ed_tup (eds_cons (ed_str (by decide)) (eds_cons ed_int eds_nil)) (by decide)) eds_nil) (by decide)) (eds_cons (ed_tup (eds_cons (ed_tup (eds_cons (ed_str (by decide)) (eds_cons ed_int eds_nil)) (by decide)) eds_nil) (by decide)) (eds_cons (ed_tup (eds_cons (ed_tup (eds_cons (ed_str (by decide)) eds_nil) (by decide)) eds_nil) (by decide)) (eds_cons (ed_tup (eds_cons (ed_lst (eds_cons (ed_str (by decide)) (eds_cons ed_int eds_nil)) (by decide)) eds_nil) (by decide)) (eds_cons (ed_tup (eds_cons (ed_tup (eds_cons (ed_str (by decide)) (eds_cons ed_int eds_nil)) (by decide)) eds_nil) (by decide)) (eds_cons (ed_str (by decide)) eds_nil))))))))))))) (by decide) ⟨p8, T8, B8⟩ (fun d hd x H' T' B' od DD kD => turn_tables hd od B' E1 T' kD) fun x3 H9 S9 => ?_
  refine loop_made (ds := changedL) (fun _ => (eds_cons ed_non (eds_cons ed_neg1 (eds_cons ed_int (eds_cons ed_bl (eds_cons (ed_str (by decide)) (eds_cons (ed_tup (eds_cons ed_int eds_nil) (by decide)) (eds_cons (ed_lst (eds_cons ed_int eds_nil) (by decide)) eds_nil)))))))) (by decide) S9 (fun d hd x H' T' B' od DD kD => turn_changed hd od B' E2 T' kD) fun x3 H10 S10 => ?_
  refine loop_made (ds := textL) (fun _ => (eds_cons ed_non (eds_cons ed_int (eds_cons (ed_lst (eds_cons (ed_str (by decide)) eds_nil) (by decide)) (eds_cons (ed_tup (eds_cons (ed_str (by decide)) eds_nil) (by decide)) (eds_cons ed_bl (eds_cons ed_dict eds_nil))))))) (by decide) S10 (fun d hd x H' T' B' od DD kD => turn_text hd od B' E3 T' kD) fun x3 H11 S11 => ?_
  refine loop_none (T := T) S11.pot (by decide) S11.tabs S11.both E4 fun x3 H12 p12 T12 B12 => ?_
  obtain ⟨⟨t, k1, k2, k3, k4⟩, k5, k6, k7, k8, k9⟩ := okD_of (less_ok a b c0)
  suffices fin : tRet (tOp rEq (tCallN 0 1 (spWidth K C CP) (fun x zs => zs) E0 tNil (tCons (tMakeK C 0 4 (spQuestInitX K C CP CB) (fun vs zs => vs ++ zs.reverse) E0 tNil (tCons (tC (V.int 1)) (tCons (tVar 2) (tCons (tC (V.str "less p x")) (tCons (tVar 1) tNil))))) tNil)) (tC (V.int 2))) { nx := fun x H' => Q V.non H', rt := Q } [some (V.ref l), some (V.ref ah), some (V.ref at_), x3] H12 from fin
  refine s_ret (v := .bl true) (D := { nx := fun x H' => Q V.non H', rt := Q }) (ev_is (ev_op (x := .int 2) (y := .int 2) (fun H13 e13' Q' q' => ?_) ev_c (rv_eq rfl)) rfl) fun H14 e14 => kk H14
  refine ⟨_, rfl, _, rfl, rfl, rfl, fun x dx hx hdx hne => ?_⟩
  have em : Ex H13 (upd (upd H13 dx (.own x)) x (.ins C dx [])) := (Ex.new hdx).trans (Ex.new (by rw [upd_ne (Ne.symm hne)]; exact hx))
  have B13 := B12.up e13'
  refine ⟨x, dx, ah, at_, "less p x", hs3, ts3 a b c0, 1, rfl, upd_same, ex_t em B13.sh, B13.st.up em, right3 a b c0 k5 k6 k7, fun t' ht' H15 b15 qa => ⟨rfl, ?_⟩, fun m' hm' => (by rw [k1] at hm'; cases hm')⟩
  rw [k1] at ht'
  cases ht'
  have e15 : Ex H13 H15 := fun b o hb => b15 b o (em b o hb) fun y => by rw [y, hx] at hb; cases hb
  refine ⟨rfl, rfl, x, hs3, "less p x", ts3 a b c0, 1, t, rfl, qa, fun H16 e16 => ?_⟩
  rw [show max hs3.length t.most = 2 from k4]
  exact q' H16 (e15.trans e16)
end
end WL

set_option Elab.async false
set_option linter.all false
set_option maxRecDepth 100000
set_option maxHeartbeats 2000000
namespace WL
open PySem PySem.Spec PyProof.Rows L2 Evl LamX
theorem call_c9 {sp : Sp} {E : XK} {ta : TE} {tr : TA} {σ : L2.St} {H : Hp} {Q : VK} (h : tCons ta tr σ H fun vs H1 => sp (vs ++ []) H1 Q E) : tCall sp [] E (tCons ta tr) σ H Q := h
theorem cons_raw9 {ta : TE} {tr : TA} {σ : L2.St} {H : Hp} {Q : List V → Hp → Prop} (h : ta σ H fun x H1 => tr σ H1 fun vs H2 => Q (x :: vs) H2) : tCons ta tr σ H Q := h
section
variable {P : Program} {w : World} {K : PySem.W.Frag} {mg : Str → Option Value} {base : Heap}
theorem scLaw3 : FnScope ["script"] ["script"] (defScope sLaw) := ⟨rfl, rfl, rfl, by decide +kernel, rfl, by decide +kernel, by decide +kernel⟩
def spLaw3 (K : PySem.W.Frag) (T : List (Addr × Str)) : Sp := fun vs H Q _ => ∃ (a : Addr) (ns : List Int), vs = [.ref a] ∧ SqL K H a (ns.map V.int) ∧ ns.length ≤ 63 ∧ Tabs T H ∧ ∀ H', Q (.bl true) H'
theorem ok_law3 {f g1 g2 : Addr} {fd gd1 gd2 : FuncData} {T : List (Addr × Str)} (F : Fun K "law" "law" sLaw f fd) (G1 : FnG P w K mg base 28 g1 gd1 ["pot"] (spRight3 T)) (m1 : mg "_law_right" = some (.ref g1)) (k1 : PySem.W.keepIn K (.ref g1) = true) (b1 : Binds K gd1 ["pot"] []) (G2 : FVal P w K mg base "_law_pot" g2 gd2 1 ["script", "place"] (spPot K)) :
    FnG P w K mg base 29 f fd ["script"] (spLaw3 K T) := by
  refine okG F scLaw3 (fun vs H Q E h => ?_) (fun cdv A outer s H vs Q E hr gu h => ?_)
  · obtain ⟨a, ns, rfl, _⟩ := h
    rfl
  obtain ⟨a, ns, rfl, hs, hl, hT, k⟩ := h
  have hr1 : Room 1 _ := hr.mono (by decide)
  refine ⟨_, pss_one (ps_ret (pe_callG G1 hr gu (by rfl) m1 k1 b1 (pa_cons (pe_call G2.ok hr1 (by rfl) G2.mg G2.kp G2.b .nil pass0 (pa_cons (pv 0) (pa_cons pe_int pa_nil))) pa_nil))), ?_⟩
  show tCall (spRight3 T) [] E0 (tCons (tCall (spPot K) [] E0 (tCons (tVar 0) (tCons (tC (.int 0)) tNil))) tNil) _ H _
  refine call_c9 (cons_raw9 (call_gen (ea_cons (ev_var rfl) (ea_cons ev_c ea_nil)) fun H1 e1 => ⟨a, ns, 0, rfl, ex_l e1 hs, by omega, fun l H2 hl2 e2 p2 => ?_⟩))
  exact ⟨l, rfl, p2, hT.ext (e1.trans e2), k⟩
end
end WL

set_option Elab.async false
set_option linter.all false
set_option maxRecDepth 100000
set_option maxHeartbeats 0
namespace WL
open PySem PySem.Spec PyProof.Rows L2 Evl LamX
theorem allL1 {P : List Value → Prop} (h : ∀ a0, P [a0]) : ∀ us : List Value, us.length = 1 → P us
  | [a0], _ => h a0
theorem allL2 {P : List Value → Prop} (h : ∀ a0 a1, P [a0, a1]) : ∀ us : List Value, us.length = 2 → P us
  | [a0, a1], _ => h a0 a1
theorem allL3 {P : List Value → Prop} (h : ∀ a0 a1 a2, P [a0, a1, a2]) : ∀ us : List Value, us.length = 3 → P us
  | [a0, a1, a2], _ => h a0 a1 a2
theorem allL4 {P : List Value → Prop} (h : ∀ a0 a1 a2 a3, P [a0, a1, a2, a3]) : ∀ us : List Value, us.length = 4 → P us
  | [a0, a1, a2, a3], _ => h a0 a1 a2 a3
theorem allL5 {P : List Value → Prop} (h : ∀ a0 a1 a2 a3 a4, P [a0, a1, a2, a3, a4]) : ∀ us : List Value, us.length = 5 → P us
  | [a0, a1, a2, a3, a4], _ => h a0 a1 a2 a3 a4
def TupObj (o : Obj) (xs : List V) : Prop := o.cls = .type "tuple" ∧ ∃ its n, o.data = .seq its n ∧ its.size ≤ sizeLine ∧ Vals xs its.toList
theorem TupObj.at {K : PySem.W.Frag} {a : Addr} {o : Obj} {xs : List V} (h : TupObj o xs) (l : K.lookup a = some o) (H : Hp) : SqT K H a xs := by
  obtain ⟨h1, its, n, h2, h3, h4⟩ := h
  exact .inr ⟨o, its, n, l, h1, h2, h3, h4⟩
def cut (K : PySem.W.Frag) (Ts : List Addr) : PySem.W.Frag := K.filter fun q => !(Ts.contains q.1)
theorem cut_at {Ts : List Addr} {a : Addr} (n : Ts.contains a = false) : ∀ {K : PySem.W.Frag} {o : Obj}, K.lookup a = some o → (cut K Ts).lookup a = some o
  | [], o, h => by cases h
  | (b, u) :: r, o, h => by
    unfold cut
    rw [List.lookup_cons] at h
    cases z : Ts.contains b with
    | true =>
      rw [List.filter_cons_of_neg (by simp only [z]; decide)]
      have ne : (a == b) = false := by
        cases q : (a == b) with
        | false => rfl
        | true =>
          rw [beq_iff_eq.mp q, z] at n
          cases n
      rw [ne] at h
      exact cut_at n h
    | false =>
      rw [List.filter_cons_of_pos (by simp only [z]; decide), List.lookup_cons]
      cases q : (a == b) with
      | true => rw [q] at h; exact h
      | false => rw [q] at h; exact cut_at n h
theorem cut_none {Ts : List Addr} {T : Addr} (m : Ts.contains T = true) : ∀ {K : PySem.W.Frag}, (cut K Ts).lookup T = none
  | [] => rfl
  | (b, u) :: r => by
    unfold cut
    cases z : Ts.contains b with
    | true =>
      rw [List.filter_cons_of_neg (by simp only [z]; decide)]
      exact cut_none m
    | false =>
      have ne : (T == b) = false := by
        cases q : (T == b) with
        | false => rfl
        | true =>
          rw [beq_iff_eq.mp q, z] at m
          cases m
      rw [List.filter_cons_of_pos (by simp only [z]; decide), List.lookup_cons, ne]
      exact cut_none m
theorem cut_back {Ts : List Addr} {a : Addr} (n : Ts.contains a = false) : ∀ {K : PySem.W.Frag} {o : Obj}, (cut K Ts).lookup a = some o → K.lookup a = some o
  | [], o, h => by cases h
  | (b, u) :: r, o, h => by
    unfold cut at h
    rw [List.lookup_cons]
    cases z : Ts.contains b with
    | true =>
      rw [List.filter_cons_of_neg (by simp only [z]; decide)] at h
      have ne : (a == b) = false := by
        cases q : (a == b) with
        | false => rfl
        | true =>
          rw [beq_iff_eq.mp q, z] at n
          cases n
      rw [ne]
      exact cut_back n h
    | false =>
      rw [List.filter_cons_of_pos (by simp only [z]; decide), List.lookup_cons] at h
      cases q : (a == b) with
      | true => rw [q] at h; exact h
      | false => rw [q] at h; exact cut_back n h
theorem cut_in {K : PySem.W.Frag} {Ts : List Addr} {h : Heap} (X : K.In h) : (cut K Ts).In h := fun a o e => by
  cases z : Ts.contains a with
  | true =>
    rw [cut_none z] at e
    cases e
  | false => exact X a o (cut_back z e)
theorem tabs_u {a b c : Addr} {x y z : Str} (h1 : a ≠ b) (h2 : a ≠ c) (h3 : b ≠ c) : (∀ p ∈ [(a, x), (b, y), (c, z)], p.1 = a → p.2 = x) ∧ (∀ p ∈ [(a, x), (b, y), (c, z)], p.1 = b → p.2 = y) ∧ (∀ p ∈ [(a, x), (b, y), (c, z)], p.1 = c → p.2 = z) := by
  refine ⟨fun p hp e => ?_, fun p hp e => ?_, fun p hp e => ?_⟩ <;>
  · simp only [List.mem_cons, List.not_mem_nil, or_false] at hp
    rcases hp with rfl | rfl | rfl <;> first | rfl | exact absurd e h1 | exact absurd e h2 | exact absurd e h3 | exact absurd e.symm h1 | exact absurd e.symm h2 | exact absurd e.symm h3
theorem five_is {K : PySem.W.Frag} {C c0 c1 c2 c3 c4 : Addr} {i : Nat} (hi : i < 5) (h0 : PySem.W.kitOne K (.ref C) (.ref c0) = some (decide (0 = i))) (h1 : PySem.W.kitOne K (.ref C) (.ref c1) = some (decide (1 = i))) (h2 : PySem.W.kitOne K (.ref C) (.ref c2) = some (decide (2 = i))) (h3 : PySem.W.kitOne K (.ref C) (.ref c3) = some (decide (3 = i))) (h4 : PySem.W.kitOne K (.ref C) (.ref c4) = some (decide (4 = i))) :
    [c0, c1, c2, c3, c4].length = 5 ∧ i < 5 ∧ ∀ j D, [c0, c1, c2, c3, c4][j]? = some D → PySem.W.kitOne K (.ref C) (.ref D) = some (decide (j = i)) := ⟨rfl, hi, fun j D h => match j, h with
  | 0, h => by cases h; exact h0
  | 1, h => by cases h; exact h1
  | 2, h => by cases h; exact h2
  | 3, h => by cases h; exact h3
  | 4, h => by cases h; exact h4
  | n + 5, h => by cases h⟩
theorem all_mk {l : PySem.W.OpenLaw} {w : World} {K : PySem.W.Frag} {h : Heap} {mg : Str → Option Value} {fa TbRi TbTr TbBo : Addr} (apart1 : TbRi ≠ TbTr) (apart2 : TbRi ≠ TbBo) (apart3 : TbTr ≠ TbBo) (X : K.In h) (G : h.Ns mainGlobals mg) (hfa : mg "law" = some (.ref fa))
    {f_is_integer : Addr}
    {od_is_integer an_is_integer : Option Addr} {sl_is_integer : Array (Option Value)} {oc_is_integer kV_is_integer dc_is_integer pm_is_integer cd_is_integer ct_is_integer : Value}
    {f_is_name : Addr}
    {od_is_name an_is_name : Option Addr} {sl_is_name : Array (Option Value)} {oc_is_name kV_is_name dc_is_name pm_is_name cd_is_name ct_is_name : Value}
    {f_are_unlike_names : Addr}
    {od_are_unlike_names an_are_unlike_names : Option Addr} {sl_are_unlike_names : Array (Option Value)} {oc_are_unlike_names kV_are_unlike_names dc_are_unlike_names pm_are_unlike_names cd_are_unlike_names ct_are_unlike_names : Value}
    {f_is_head : Addr}
    {od_is_head an_is_head : Option Addr} {sl_is_head : Array (Option Value)} {oc_is_head kV_is_head dc_is_head pm_is_head cd_is_head ct_is_head : Value}
    {f_is_table : Addr}
    {od_is_table an_is_table : Option Addr} {sl_is_table : Array (Option Value)} {oc_is_table kV_is_table dc_is_table pm_is_table cd_is_table ct_is_table : Value}
    {f_is_tables : Addr}
    {od_is_tables an_is_tables : Option Addr} {sl_is_tables : Array (Option Value)} {oc_is_tables kV_is_tables dc_is_tables pm_is_tables cd_is_tables ct_is_tables : Value}
    {f_free_names : Addr}
    {od_free_names an_free_names : Option Addr} {sl_free_names : Array (Option Value)} {oc_free_names kV_free_names dc_free_names pm_free_names cd_free_names ct_free_names : Value}
    {f_whole_part : Addr}
    {od_whole_part an_whole_part : Option Addr} {sl_whole_part : Array (Option Value)} {oc_whole_part kV_whole_part dc_whole_part pm_whole_part cd_whole_part ct_whole_part : Value}
    {f_check_question : Addr}
    {od_check_question an_check_question : Option Addr} {sl_check_question : Array (Option Value)} {oc_check_question kV_check_question dc_check_question pm_check_question cd_check_question ct_check_question : Value}
    {f_width : Addr}
    {od_width an_width : Option Addr} {sl_width : Array (Option Value)} {oc_width kV_width dc_width pm_width cd_width ct_width : Value}
    {f__law_pot : Addr}
    {od__law_pot an__law_pot : Option Addr} {sl__law_pot : Array (Option Value)} {oc__law_pot kV__law_pot dc__law_pot pm__law_pot cd__law_pot ct__law_pot : Value}
    {f__law_take : Addr}
    {od__law_take an__law_take : Option Addr} {sl__law_take : Array (Option Value)} {oc__law_take kV__law_take dc__law_take pm__law_take cd__law_take ct__law_take : Value}
    {f__law_of : Addr}
    {od__law_of an__law_of : Option Addr} {sl__law_of : Array (Option Value)} {oc__law_of kV__law_of dc__law_of pm__law_of cd__law_of ct__law_of : Value}
    {f__law_odd : Addr}
    {od__law_odd an__law_odd : Option Addr} {sl__law_odd : Array (Option Value)} {oc__law_odd kV__law_odd dc__law_odd pm__law_odd cd__law_odd ct__law_odd : Value}
    {f__law_caught : Addr}
    {od__law_caught an__law_caught : Option Addr} {sl__law_caught : Array (Option Value)} {oc__law_caught kV__law_caught dc__law_caught pm__law_caught cd__law_caught ct__law_caught : Value}
    {f__law_word : Addr}
    {od__law_word an__law_word : Option Addr} {sl__law_word : Array (Option Value)} {oc__law_word kV__law_word dc__law_word pm__law_word cd__law_word ct__law_word : Value}
    {f__law_is_refused : Addr}
    {od__law_is_refused an__law_is_refused : Option Addr} {sl__law_is_refused : Array (Option Value)} {oc__law_is_refused kV__law_is_refused dc__law_is_refused pm__law_is_refused cd__law_is_refused ct__law_is_refused : Value}
    {f__law_are_told : Addr}
    {od__law_are_told an__law_are_told : Option Addr} {sl__law_are_told : Array (Option Value)} {oc__law_are_told kV__law_are_told dc__law_are_told pm__law_are_told cd__law_are_told ct__law_are_told : Value}
    {f__law_are_texts_refused : Addr}
    {od__law_are_texts_refused an__law_are_texts_refused : Option Addr} {sl__law_are_texts_refused : Array (Option Value)} {oc__law_are_texts_refused kV__law_are_texts_refused dc__law_are_texts_refused pm__law_are_texts_refused cd__law_are_texts_refused ct__law_are_texts_refused : Value}
    {f__law_are_bounds_right : Addr}
    {od__law_are_bounds_right an__law_are_bounds_right : Option Addr} {sl__law_are_bounds_right : Array (Option Value)} {oc__law_are_bounds_right kV__law_are_bounds_right dc__law_are_bounds_right pm__law_are_bounds_right cd__law_are_bounds_right ct__law_are_bounds_right : Value}
    {f__law_right : Addr}
    {od__law_right an__law_right : Option Addr} {sl__law_right : Array (Option Value)} {oc__law_right kV__law_right dc__law_right pm__law_right cd__law_right ct__law_right : Value}
    {f_law : Addr}
    {od_law an_law : Option Addr} {sl_law : Array (Option Value)} {oc_law kV_law dc_law pm_law cd_law ct_law : Value}
    {CP : Addr}
    {CR : Addr}
    {CQ : Addr}
    {f_CP__init__ : Addr}
    {od_CP__init__ an_CP__init__ : Option Addr} {sl_CP__init__ : Array (Option Value)} {oc_CP__init__ kV_CP__init__ dc_CP__init__ pm_CP__init__ cd_CP__init__ ct_CP__init__ : Value}
    {f_CR__init__ : Addr}
    {od_CR__init__ an_CR__init__ : Option Addr} {sl_CR__init__ : Array (Option Value)} {oc_CR__init__ kV_CR__init__ dc_CR__init__ pm_CR__init__ cd_CR__init__ ct_CR__init__ : Value}
    {f_CRnext_word : Addr}
    {od_CRnext_word an_CRnext_word : Option Addr} {sl_CRnext_word : Array (Option Value)} {oc_CRnext_word kV_CRnext_word dc_CRnext_word pm_CRnext_word cd_CRnext_word ct_CRnext_word : Value}
    {f_CRtake : Addr}
    {od_CRtake an_CRtake : Option Addr} {sl_CRtake : Array (Option Value)} {oc_CRtake kV_CRtake dc_CRtake pm_CRtake cd_CRtake ct_CRtake : Value}
    {f_CRread_place : Addr}
    {od_CRread_place an_CRread_place : Option Addr} {sl_CRread_place : Array (Option Value)} {oc_CRread_place kV_CRread_place dc_CRread_place pm_CRread_place cd_CRread_place ct_CRread_place : Value}
    {f_CRread_bound : Addr}
    {od_CRread_bound an_CRread_bound : Option Addr} {sl_CRread_bound : Array (Option Value)} {oc_CRread_bound kV_CRread_bound dc_CRread_bound pm_CRread_bound cd_CRread_bound ct_CRread_bound : Value}
    {f_CRread_part : Addr}
    {od_CRread_part an_CRread_part : Option Addr} {sl_CRread_part : Array (Option Value)} {oc_CRread_part kV_CRread_part dc_CRread_part pm_CRread_part cd_CRread_part ct_CRread_part : Value}
    {f_CRread_end : Addr}
    {od_CRread_end an_CRread_end : Option Addr} {sl_CRread_end : Array (Option Value)} {oc_CRread_end kV_CRread_end dc_CRread_end pm_CRread_end cd_CRread_end ct_CRread_end : Value}
    {f_CQ__init__ : Addr}
    {od_CQ__init__ an_CQ__init__ : Option Addr} {sl_CQ__init__ : Array (Option Value)} {oc_CQ__init__ kV_CQ__init__ dc_CQ__init__ pm_CQ__init__ cd_CQ__init__ ct_CQ__init__ : Value}
    {CS f_Err : Addr}
    {CH : Addr}
    {CT : Addr}
    {CC : Addr}
    {CB : Addr}
    {CN : Addr}
    {oCH : Obj}
    {oCT : Obj}
    {oCC : Obj}
    {oCB : Obj}
    {oCN : Obj}
    {od_Err an_Err : Option Addr} {sl_Err : Array (Option Value)} {oc_Err kV_Err dc_Err pm_Err cd_Err ct_Err : Value}
    {t_LETTERS t_FIGURES t_MOST_SIGNS t_MOST_IN_ROW t_MOST_WORDS t_MOST_DEEP : Tok}
    {N_NO_NAMES : Addr} {o_NO_NAMES : Obj}
    {N_CHANGED_NAMES : Addr} {o_CHANGED_NAMES : Obj}
    {S : Addr} {oS : Obj} {nS : Nat} {ts0 ts1 ts2 ts3 ts4 ts5 ts6 ts7 ts8 ts9 : Tok} {rs0 rs1 rs2 rs3 rs4 rs5 rs6 rs7 rs8 rs9 : Addr}
    {oT0 : Obj} {tT0 uT0 vT0 : Tok} {nT0 : Nat} {dT0 : Option Addr} {slT0 : Array (Option Value)}
    {oT1 : Obj} {tT1 uT1 vT1 : Tok} {nT1 : Nat} {dT1 : Option Addr} {slT1 : Array (Option Value)}
    {oT2 : Obj} {tT2 uT2 vT2 : Tok} {nT2 : Nat} {dT2 : Option Addr} {slT2 : Array (Option Value)}
    {oT3 : Obj} {tT3 uT3 vT3 : Tok} {nT3 : Nat} {dT3 : Option Addr} {slT3 : Array (Option Value)}
    {oT4 : Obj} {tT4 uT4 vT4 : Tok} {nT4 : Nat} {dT4 : Option Addr} {slT4 : Array (Option Value)}
    {oT5 : Obj} {tT5 uT5 vT5 : Tok} {nT5 : Nat} {dT5 : Option Addr} {slT5 : Array (Option Value)}
    {oT6 : Obj} {tT6 uT6 vT6 : Tok} {nT6 : Nat} {dT6 : Option Addr} {slT6 : Array (Option Value)}
    {oT7 : Obj} {tT7 uT7 vT7 : Tok} {nT7 : Nat} {dT7 : Option Addr} {slT7 : Array (Option Value)}
    {oT8 : Obj} {tT8 uT8 vT8 : Tok} {nT8 : Nat} {dT8 : Option Addr} {slT8 : Array (Option Value)}
    {oT9 : Obj} {tT9 uT9 vT9 : Tok} {nT9 : Nat} {dT9 : Option Addr} {slT9 : Array (Option Value)}
    {cRi : Addr}
    {cTr : Addr}
    {cBo : Addr}
    (a_is_integer : PySem.W.nsIn K mainGlobals "is_integer" = some (some (.ref f_is_integer)))
    (l_is_integer : K.lookup f_is_integer = some ⟨oc_is_integer, od_is_integer, .func (PySem.W.fnOf "is_integer" "is_integer" (defArgs sIsInteger) (defBody sIsInteger) (defScope sIsInteger) .none kV_is_integer dc_is_integer pm_is_integer an_is_integer cd_is_integer ct_is_integer), sl_is_integer⟩)
    (c_is_integer : PySem.W.codeIn K cd_is_integer "is_integer" = true)
    (k_is_integer : PySem.W.keepIn K (.ref f_is_integer) = true)
    (a_is_name : PySem.W.nsIn K mainGlobals "is_name" = some (some (.ref f_is_name)))
    (l_is_name : K.lookup f_is_name = some ⟨oc_is_name, od_is_name, .func (PySem.W.fnOf "is_name" "is_name" (defArgs sIsName) (defBody sIsName) (defScope sIsName) .none kV_is_name dc_is_name pm_is_name an_is_name cd_is_name ct_is_name), sl_is_name⟩)
    (c_is_name : PySem.W.codeIn K cd_is_name "is_name" = true)
    (k_is_name : PySem.W.keepIn K (.ref f_is_name) = true)
    (a_are_unlike_names : PySem.W.nsIn K mainGlobals "are_unlike_names" = some (some (.ref f_are_unlike_names)))
    (l_are_unlike_names : K.lookup f_are_unlike_names = some ⟨oc_are_unlike_names, od_are_unlike_names, .func (PySem.W.fnOf "are_unlike_names" "are_unlike_names" (defArgs sAreUnlikeNames) (defBody sAreUnlikeNames) (defScope sAreUnlikeNames) .none kV_are_unlike_names dc_are_unlike_names pm_are_unlike_names an_are_unlike_names cd_are_unlike_names ct_are_unlike_names), sl_are_unlike_names⟩)
    (c_are_unlike_names : PySem.W.codeIn K cd_are_unlike_names "are_unlike_names" = true)
    (k_are_unlike_names : PySem.W.keepIn K (.ref f_are_unlike_names) = true)
    (a_is_head : PySem.W.nsIn K mainGlobals "is_head" = some (some (.ref f_is_head)))
    (l_is_head : K.lookup f_is_head = some ⟨oc_is_head, od_is_head, .func (PySem.W.fnOf "is_head" "is_head" (defArgs sIsHead) (defBody sIsHead) (defScope sIsHead) .none kV_is_head dc_is_head pm_is_head an_is_head cd_is_head ct_is_head), sl_is_head⟩)
    (c_is_head : PySem.W.codeIn K cd_is_head "is_head" = true)
    (k_is_head : PySem.W.keepIn K (.ref f_is_head) = true)
    (a_is_table : PySem.W.nsIn K mainGlobals "is_table" = some (some (.ref f_is_table)))
    (l_is_table : K.lookup f_is_table = some ⟨oc_is_table, od_is_table, .func (PySem.W.fnOf "is_table" "is_table" (defArgs sIsTable) (defBody sIsTable) (defScope sIsTable) .none kV_is_table dc_is_table pm_is_table an_is_table cd_is_table ct_is_table), sl_is_table⟩)
    (c_is_table : PySem.W.codeIn K cd_is_table "is_table" = true)
    (k_is_table : PySem.W.keepIn K (.ref f_is_table) = true)
    (a_is_tables : PySem.W.nsIn K mainGlobals "is_tables" = some (some (.ref f_is_tables)))
    (l_is_tables : K.lookup f_is_tables = some ⟨oc_is_tables, od_is_tables, .func (PySem.W.fnOf "is_tables" "is_tables" (defArgs sIsTables) (defBody sIsTables) (defScope sIsTables) .none kV_is_tables dc_is_tables pm_is_tables an_is_tables cd_is_tables ct_is_tables), sl_is_tables⟩)
    (c_is_tables : PySem.W.codeIn K cd_is_tables "is_tables" = true)
    (k_is_tables : PySem.W.keepIn K (.ref f_is_tables) = true)
    (a_free_names : PySem.W.nsIn K mainGlobals "free_names" = some (some (.ref f_free_names)))
    (l_free_names : K.lookup f_free_names = some ⟨oc_free_names, od_free_names, .func (PySem.W.fnOf "free_names" "free_names" (defArgs sFreeNames) (defBody sFreeNames) (defScope sFreeNames) .none kV_free_names dc_free_names pm_free_names an_free_names cd_free_names ct_free_names), sl_free_names⟩)
    (c_free_names : PySem.W.codeIn K cd_free_names "free_names" = true)
    (k_free_names : PySem.W.keepIn K (.ref f_free_names) = true)
    (a_whole_part : PySem.W.nsIn K mainGlobals "whole_part" = some (some (.ref f_whole_part)))
    (l_whole_part : K.lookup f_whole_part = some ⟨oc_whole_part, od_whole_part, .func (PySem.W.fnOf "whole_part" "whole_part" (defArgs sWholePart) (defBody sWholePart) (defScope sWholePart) .none kV_whole_part dc_whole_part pm_whole_part an_whole_part cd_whole_part ct_whole_part), sl_whole_part⟩)
    (c_whole_part : PySem.W.codeIn K cd_whole_part "whole_part" = true)
    (k_whole_part : PySem.W.keepIn K (.ref f_whole_part) = true)
    (a_check_question : PySem.W.nsIn K mainGlobals "check_question" = some (some (.ref f_check_question)))
    (l_check_question : K.lookup f_check_question = some ⟨oc_check_question, od_check_question, .func (PySem.W.fnOf "check_question" "check_question" (defArgs sCheckQuestion) (defBody sCheckQuestion) (defScope sCheckQuestion) .none kV_check_question dc_check_question pm_check_question an_check_question cd_check_question ct_check_question), sl_check_question⟩)
    (c_check_question : PySem.W.codeIn K cd_check_question "check_question" = true)
    (k_check_question : PySem.W.keepIn K (.ref f_check_question) = true)
    (a_width : PySem.W.nsIn K mainGlobals "width" = some (some (.ref f_width)))
    (l_width : K.lookup f_width = some ⟨oc_width, od_width, .func (PySem.W.fnOf "width" "width" (defArgs sWidth) (defBody sWidth) (defScope sWidth) .none kV_width dc_width pm_width an_width cd_width ct_width), sl_width⟩)
    (c_width : PySem.W.codeIn K cd_width "width" = true)
    (k_width : PySem.W.keepIn K (.ref f_width) = true)
    (a__law_pot : PySem.W.nsIn K mainGlobals "_law_pot" = some (some (.ref f__law_pot)))
    (l__law_pot : K.lookup f__law_pot = some ⟨oc__law_pot, od__law_pot, .func (PySem.W.fnOf "_law_pot" "_law_pot" (defArgs sLawPot) (defBody sLawPot) (defScope sLawPot) .none kV__law_pot dc__law_pot pm__law_pot an__law_pot cd__law_pot ct__law_pot), sl__law_pot⟩)
    (c__law_pot : PySem.W.codeIn K cd__law_pot "_law_pot" = true)
    (k__law_pot : PySem.W.keepIn K (.ref f__law_pot) = true)
    (a__law_take : PySem.W.nsIn K mainGlobals "_law_take" = some (some (.ref f__law_take)))
    (l__law_take : K.lookup f__law_take = some ⟨oc__law_take, od__law_take, .func (PySem.W.fnOf "_law_take" "_law_take" (defArgs sLawTake) (defBody sLawTake) (defScope sLawTake) .none kV__law_take dc__law_take pm__law_take an__law_take cd__law_take ct__law_take), sl__law_take⟩)
    (c__law_take : PySem.W.codeIn K cd__law_take "_law_take" = true)
    (k__law_take : PySem.W.keepIn K (.ref f__law_take) = true)
    (a__law_of : PySem.W.nsIn K mainGlobals "_law_of" = some (some (.ref f__law_of)))
    (l__law_of : K.lookup f__law_of = some ⟨oc__law_of, od__law_of, .func (PySem.W.fnOf "_law_of" "_law_of" (defArgs sLawOf) (defBody sLawOf) (defScope sLawOf) .none kV__law_of dc__law_of pm__law_of an__law_of cd__law_of ct__law_of), sl__law_of⟩)
    (c__law_of : PySem.W.codeIn K cd__law_of "_law_of" = true)
    (k__law_of : PySem.W.keepIn K (.ref f__law_of) = true)
    (a__law_odd : PySem.W.nsIn K mainGlobals "_law_odd" = some (some (.ref f__law_odd)))
    (l__law_odd : K.lookup f__law_odd = some ⟨oc__law_odd, od__law_odd, .func (PySem.W.fnOf "_law_odd" "_law_odd" (defArgs sLawOdd) (defBody sLawOdd) (defScope sLawOdd) .none kV__law_odd dc__law_odd pm__law_odd an__law_odd cd__law_odd ct__law_odd), sl__law_odd⟩)
    (c__law_odd : PySem.W.codeIn K cd__law_odd "_law_odd" = true)
    (k__law_odd : PySem.W.keepIn K (.ref f__law_odd) = true)
    (a__law_caught : PySem.W.nsIn K mainGlobals "_law_caught" = some (some (.ref f__law_caught)))
    (l__law_caught : K.lookup f__law_caught = some ⟨oc__law_caught, od__law_caught, .func (PySem.W.fnOf "_law_caught" "_law_caught" (defArgs sLawCaught) (defBody sLawCaught) (defScope sLawCaught) .none kV__law_caught dc__law_caught pm__law_caught an__law_caught cd__law_caught ct__law_caught), sl__law_caught⟩)
    (c__law_caught : PySem.W.codeIn K cd__law_caught "_law_caught" = true)
    (k__law_caught : PySem.W.keepIn K (.ref f__law_caught) = true)
    (a__law_word : PySem.W.nsIn K mainGlobals "_law_word" = some (some (.ref f__law_word)))
    (l__law_word : K.lookup f__law_word = some ⟨oc__law_word, od__law_word, .func (PySem.W.fnOf "_law_word" "_law_word" (defArgs sLawWord) (defBody sLawWord) (defScope sLawWord) .none kV__law_word dc__law_word pm__law_word an__law_word cd__law_word ct__law_word), sl__law_word⟩)
    (c__law_word : PySem.W.codeIn K cd__law_word "_law_word" = true)
    (k__law_word : PySem.W.keepIn K (.ref f__law_word) = true)
    (a__law_is_refused : PySem.W.nsIn K mainGlobals "_law_is_refused" = some (some (.ref f__law_is_refused)))
    (l__law_is_refused : K.lookup f__law_is_refused = some ⟨oc__law_is_refused, od__law_is_refused, .func (PySem.W.fnOf "_law_is_refused" "_law_is_refused" (defArgs sLawIsRefused) (defBody sLawIsRefused) (defScope sLawIsRefused) .none kV__law_is_refused dc__law_is_refused pm__law_is_refused an__law_is_refused cd__law_is_refused ct__law_is_refused), sl__law_is_refused⟩)
    (c__law_is_refused : PySem.W.codeIn K cd__law_is_refused "_law_is_refused" = true)
    (k__law_is_refused : PySem.W.keepIn K (.ref f__law_is_refused) = true)
    (a__law_are_told : PySem.W.nsIn K mainGlobals "_law_are_told" = some (some (.ref f__law_are_told)))
    (l__law_are_told : K.lookup f__law_are_told = some ⟨oc__law_are_told, od__law_are_told, .func (PySem.W.fnOf "_law_are_told" "_law_are_told" (defArgs sLawAreTold) (defBody sLawAreTold) (defScope sLawAreTold) .none kV__law_are_told dc__law_are_told pm__law_are_told an__law_are_told cd__law_are_told ct__law_are_told), sl__law_are_told⟩)
    (c__law_are_told : PySem.W.codeIn K cd__law_are_told "_law_are_told" = true)
    (k__law_are_told : PySem.W.keepIn K (.ref f__law_are_told) = true)
    (a__law_are_texts_refused : PySem.W.nsIn K mainGlobals "_law_are_texts_refused" = some (some (.ref f__law_are_texts_refused)))
    (l__law_are_texts_refused : K.lookup f__law_are_texts_refused = some ⟨oc__law_are_texts_refused, od__law_are_texts_refused, .func (PySem.W.fnOf "_law_are_texts_refused" "_law_are_texts_refused" (defArgs sLawAreTextsRefused) (defBody sLawAreTextsRefused) (defScope sLawAreTextsRefused) .none kV__law_are_texts_refused dc__law_are_texts_refused pm__law_are_texts_refused an__law_are_texts_refused cd__law_are_texts_refused ct__law_are_texts_refused), sl__law_are_texts_refused⟩)
    (c__law_are_texts_refused : PySem.W.codeIn K cd__law_are_texts_refused "_law_are_texts_refused" = true)
    (k__law_are_texts_refused : PySem.W.keepIn K (.ref f__law_are_texts_refused) = true)
    (a__law_are_bounds_right : PySem.W.nsIn K mainGlobals "_law_are_bounds_right" = some (some (.ref f__law_are_bounds_right)))
    (l__law_are_bounds_right : K.lookup f__law_are_bounds_right = some ⟨oc__law_are_bounds_right, od__law_are_bounds_right, .func (PySem.W.fnOf "_law_are_bounds_right" "_law_are_bounds_right" (defArgs sLawAreBoundsRight) (defBody sLawAreBoundsRight) (defScope sLawAreBoundsRight) .none kV__law_are_bounds_right dc__law_are_bounds_right pm__law_are_bounds_right an__law_are_bounds_right cd__law_are_bounds_right ct__law_are_bounds_right), sl__law_are_bounds_right⟩)
    (c__law_are_bounds_right : PySem.W.codeIn K cd__law_are_bounds_right "_law_are_bounds_right" = true)
    (k__law_are_bounds_right : PySem.W.keepIn K (.ref f__law_are_bounds_right) = true)
    (a__law_right : PySem.W.nsIn K mainGlobals "_law_right" = some (some (.ref f__law_right)))
    (l__law_right : K.lookup f__law_right = some ⟨oc__law_right, od__law_right, .func (PySem.W.fnOf "_law_right" "_law_right" (defArgs sLawRight) (defBody sLawRight) (defScope sLawRight) .none kV__law_right dc__law_right pm__law_right an__law_right cd__law_right ct__law_right), sl__law_right⟩)
    (c__law_right : PySem.W.codeIn K cd__law_right "_law_right" = true)
    (k__law_right : PySem.W.keepIn K (.ref f__law_right) = true)
    (a_law : PySem.W.nsIn K mainGlobals "law" = some (some (.ref f_law)))
    (l_law : K.lookup f_law = some ⟨oc_law, od_law, .func (PySem.W.fnOf "law" "law" (defArgs sLaw) (defBody sLaw) (defScope sLaw) .none kV_law dc_law pm_law an_law cd_law ct_law), sl_law⟩)
    (c_law : PySem.W.codeIn K cd_law "law" = true)
    (k_law : PySem.W.keepIn K (.ref f_law) = true)
    (a_CP : PySem.W.nsIn K mainGlobals "Part" = some (some (.ref CP)))
    (pg_CP : PySem.W.plainGet K CP Str.empty = true)
    (hd_CP : PySem.W.hasDictIn K CP = true)
    (po_CP : PySem.W.plainOver K CP = true)
    (sa_CP : PySem.W.findIn K (.ref CP) "__setattr__" = some (some (.builtin "object.__setattr__")))
    (mk_CP : PySem.W.makesIn K CP = true)
    (kc_CP : PySem.W.keepIn K (.ref CP) = true)
    (n_CP_word : PySem.W.findIn K (.ref CP) "word" = some none)
    (n_CP_places : PySem.W.findIn K (.ref CP) "places" = some none)
    (n_CP_bound : PySem.W.findIn K (.ref CP) "bound" = some none)
    (n_CP_inner : PySem.W.findIn K (.ref CP) "inner" = some none)
    (n_CP_free : PySem.W.findIn K (.ref CP) "free" = some none)
    (n_CP_depth : PySem.W.findIn K (.ref CP) "depth" = some none)
    (n_CP_most_names : PySem.W.findIn K (.ref CP) "most_names" = some none)
    (a_CR : PySem.W.nsIn K mainGlobals "Reader" = some (some (.ref CR)))
    (pg_CR : PySem.W.plainGet K CR Str.empty = true)
    (hd_CR : PySem.W.hasDictIn K CR = true)
    (po_CR : PySem.W.plainOver K CR = true)
    (sa_CR : PySem.W.findIn K (.ref CR) "__setattr__" = some (some (.builtin "object.__setattr__")))
    (mk_CR : PySem.W.makesIn K CR = true)
    (kc_CR : PySem.W.keepIn K (.ref CR) = true)
    (n_CR_words : PySem.W.findIn K (.ref CR) "words" = some none)
    (n_CR_many_read : PySem.W.findIn K (.ref CR) "many_read" = some none)
    (n_CR_shapes : PySem.W.findIn K (.ref CR) "shapes" = some none)
    (a_CQ : PySem.W.nsIn K mainGlobals "Question" = some (some (.ref CQ)))
    (pg_CQ : PySem.W.plainGet K CQ Str.empty = true)
    (hd_CQ : PySem.W.hasDictIn K CQ = true)
    (po_CQ : PySem.W.plainOver K CQ = true)
    (sa_CQ : PySem.W.findIn K (.ref CQ) "__setattr__" = some (some (.builtin "object.__setattr__")))
    (mk_CQ : PySem.W.makesIn K CQ = true)
    (kc_CQ : PySem.W.keepIn K (.ref CQ) = true)
    (n_CQ_whole : PySem.W.findIn K (.ref CQ) "whole" = some none)
    (n_CQ_head : PySem.W.findIn K (.ref CQ) "head" = some none)
    (n_CQ_text : PySem.W.findIn K (.ref CQ) "text" = some none)
    (n_CQ_tables : PySem.W.findIn K (.ref CQ) "tables" = some none)
    (n_CQ_changed : PySem.W.findIn K (.ref CQ) "changed" = some none)
    (n_CQ_is_loopless : PySem.W.findIn K (.ref CQ) "is_loopless" = some none)
    (n_CQ_deep : PySem.W.findIn K (.ref CQ) "deep" = some none)
    (a_CP__init__ : PySem.W.findIn K (.ref CP) "__init__" = some (some (.ref f_CP__init__)))
    (i_CP__init__ : PySem.W.isFn K (.ref f_CP__init__) = true)
    (l_CP__init__ : K.lookup f_CP__init__ = some ⟨oc_CP__init__, od_CP__init__, .func (PySem.W.fnOf "__init__" "Part.__init__" (defArgs sPart_Init) (defBody sPart_Init) (defScope sPart_Init) .none kV_CP__init__ dc_CP__init__ pm_CP__init__ an_CP__init__ cd_CP__init__ ct_CP__init__), sl_CP__init__⟩)
    (c_CP__init__ : PySem.W.codeIn K cd_CP__init__ "Part.__init__" = true)
    (k_CP__init__ : PySem.W.keepIn K (.ref f_CP__init__) = true)
    (a_CR__init__ : PySem.W.findIn K (.ref CR) "__init__" = some (some (.ref f_CR__init__)))
    (i_CR__init__ : PySem.W.isFn K (.ref f_CR__init__) = true)
    (l_CR__init__ : K.lookup f_CR__init__ = some ⟨oc_CR__init__, od_CR__init__, .func (PySem.W.fnOf "__init__" "Reader.__init__" (defArgs sReader_Init) (defBody sReader_Init) (defScope sReader_Init) .none kV_CR__init__ dc_CR__init__ pm_CR__init__ an_CR__init__ cd_CR__init__ ct_CR__init__), sl_CR__init__⟩)
    (c_CR__init__ : PySem.W.codeIn K cd_CR__init__ "Reader.__init__" = true)
    (k_CR__init__ : PySem.W.keepIn K (.ref f_CR__init__) = true)
    (a_CRnext_word : PySem.W.findIn K (.ref CR) "next_word" = some (some (.ref f_CRnext_word)))
    (i_CRnext_word : PySem.W.isFn K (.ref f_CRnext_word) = true)
    (l_CRnext_word : K.lookup f_CRnext_word = some ⟨oc_CRnext_word, od_CRnext_word, .func (PySem.W.fnOf "next_word" "Reader.next_word" (defArgs sReader_NextWord) (defBody sReader_NextWord) (defScope sReader_NextWord) .none kV_CRnext_word dc_CRnext_word pm_CRnext_word an_CRnext_word cd_CRnext_word ct_CRnext_word), sl_CRnext_word⟩)
    (c_CRnext_word : PySem.W.codeIn K cd_CRnext_word "Reader.next_word" = true)
    (k_CRnext_word : PySem.W.keepIn K (.ref f_CRnext_word) = true)
    (a_CRtake : PySem.W.findIn K (.ref CR) "take" = some (some (.ref f_CRtake)))
    (i_CRtake : PySem.W.isFn K (.ref f_CRtake) = true)
    (l_CRtake : K.lookup f_CRtake = some ⟨oc_CRtake, od_CRtake, .func (PySem.W.fnOf "take" "Reader.take" (defArgs sReader_Take) (defBody sReader_Take) (defScope sReader_Take) .none kV_CRtake dc_CRtake pm_CRtake an_CRtake cd_CRtake ct_CRtake), sl_CRtake⟩)
    (c_CRtake : PySem.W.codeIn K cd_CRtake "Reader.take" = true)
    (k_CRtake : PySem.W.keepIn K (.ref f_CRtake) = true)
    (a_CRread_place : PySem.W.findIn K (.ref CR) "read_place" = some (some (.ref f_CRread_place)))
    (i_CRread_place : PySem.W.isFn K (.ref f_CRread_place) = true)
    (l_CRread_place : K.lookup f_CRread_place = some ⟨oc_CRread_place, od_CRread_place, .func (PySem.W.fnOf "read_place" "Reader.read_place" (defArgs sReader_ReadPlace) (defBody sReader_ReadPlace) (defScope sReader_ReadPlace) .none kV_CRread_place dc_CRread_place pm_CRread_place an_CRread_place cd_CRread_place ct_CRread_place), sl_CRread_place⟩)
    (c_CRread_place : PySem.W.codeIn K cd_CRread_place "Reader.read_place" = true)
    (k_CRread_place : PySem.W.keepIn K (.ref f_CRread_place) = true)
    (a_CRread_bound : PySem.W.findIn K (.ref CR) "read_bound" = some (some (.ref f_CRread_bound)))
    (i_CRread_bound : PySem.W.isFn K (.ref f_CRread_bound) = true)
    (l_CRread_bound : K.lookup f_CRread_bound = some ⟨oc_CRread_bound, od_CRread_bound, .func (PySem.W.fnOf "read_bound" "Reader.read_bound" (defArgs sReader_ReadBound) (defBody sReader_ReadBound) (defScope sReader_ReadBound) .none kV_CRread_bound dc_CRread_bound pm_CRread_bound an_CRread_bound cd_CRread_bound ct_CRread_bound), sl_CRread_bound⟩)
    (c_CRread_bound : PySem.W.codeIn K cd_CRread_bound "Reader.read_bound" = true)
    (k_CRread_bound : PySem.W.keepIn K (.ref f_CRread_bound) = true)
    (a_CRread_part : PySem.W.findIn K (.ref CR) "read_part" = some (some (.ref f_CRread_part)))
    (i_CRread_part : PySem.W.isFn K (.ref f_CRread_part) = true)
    (l_CRread_part : K.lookup f_CRread_part = some ⟨oc_CRread_part, od_CRread_part, .func (PySem.W.fnOf "read_part" "Reader.read_part" (defArgs sReader_ReadPart) (defBody sReader_ReadPart) (defScope sReader_ReadPart) .none kV_CRread_part dc_CRread_part pm_CRread_part an_CRread_part cd_CRread_part ct_CRread_part), sl_CRread_part⟩)
    (c_CRread_part : PySem.W.codeIn K cd_CRread_part "Reader.read_part" = true)
    (k_CRread_part : PySem.W.keepIn K (.ref f_CRread_part) = true)
    (a_CRread_end : PySem.W.findIn K (.ref CR) "read_end" = some (some (.ref f_CRread_end)))
    (i_CRread_end : PySem.W.isFn K (.ref f_CRread_end) = true)
    (l_CRread_end : K.lookup f_CRread_end = some ⟨oc_CRread_end, od_CRread_end, .func (PySem.W.fnOf "read_end" "Reader.read_end" (defArgs sReader_ReadEnd) (defBody sReader_ReadEnd) (defScope sReader_ReadEnd) .none kV_CRread_end dc_CRread_end pm_CRread_end an_CRread_end cd_CRread_end ct_CRread_end), sl_CRread_end⟩)
    (c_CRread_end : PySem.W.codeIn K cd_CRread_end "Reader.read_end" = true)
    (k_CRread_end : PySem.W.keepIn K (.ref f_CRread_end) = true)
    (a_CQ__init__ : PySem.W.findIn K (.ref CQ) "__init__" = some (some (.ref f_CQ__init__)))
    (i_CQ__init__ : PySem.W.isFn K (.ref f_CQ__init__) = true)
    (l_CQ__init__ : K.lookup f_CQ__init__ = some ⟨oc_CQ__init__, od_CQ__init__, .func (PySem.W.fnOf "__init__" "Question.__init__" (defArgs sQuestion_Init) (defBody sQuestion_Init) (defScope sQuestion_Init) .none kV_CQ__init__ dc_CQ__init__ pm_CQ__init__ an_CQ__init__ cd_CQ__init__ ct_CQ__init__), sl_CQ__init__⟩)
    (c_CQ__init__ : PySem.W.codeIn K cd_CQ__init__ "Question.__init__" = true)
    (k_CQ__init__ : PySem.W.keepIn K (.ref f_CQ__init__) = true)
    (ic_ha : PySem.W.findIn K (.ref CQ) "__class__" = some (some (.builtin "object.__class__")))
    (ic_hn : PySem.W.specialIn K (.builtin "object.__class__") "__get__" = some (some (.builtin "getset_descriptor.__get__")))
    (ic_ht : PySem.W.takesIn K (.builtin "object.__class__") = some true)
    (ic_hm : PySem.W.mroIn K CQ (.type "object") = some true)
    (qk_NoneType : PySem.W.kitOne K (.type "NoneType") (.ref CQ) = some false)
    (qk_bool : PySem.W.kitOne K (.type "bool") (.ref CQ) = some false)
    (qk_int : PySem.W.kitOne K (.type "int") (.ref CQ) = some false)
    (qk_str : PySem.W.kitOne K (.type "str") (.ref CQ) = some false)
    (qk_list : PySem.W.kitOne K (.type "list") (.ref CQ) = some false)
    (qk_tuple : PySem.W.kitOne K (.type "tuple") (.ref CQ) = some false)
    (qk_dict : PySem.W.kitOne K (.type "dict") (.ref CQ) = some false)
    (a_CS : PySem.W.nsIn K mainGlobals "LoopError" = some (some (.ref CS)))
    (a_CH : PySem.W.nsIn K mainGlobals "BadHead" = some (some (.ref CH)))
    (a_CT : PySem.W.nsIn K mainGlobals "BadTables" = some (some (.ref CT)))
    (a_CC : PySem.W.nsIn K mainGlobals "BadChanged" = some (some (.ref CC)))
    (a_CB : PySem.W.nsIn K mainGlobals "BadQuestion" = some (some (.ref CB)))
    (a_CN : PySem.W.nsIn K mainGlobals "NoQuestion" = some (some (.ref CN)))
    (eCH_in : PySem.W.findIn K (.ref CH) "__init__" = some (some (.ref f_Err)))
    (l_CH : K.lookup CH = some oCH)
    (eCH_cls : ∃ nm q N bs bm sn sub ab col dd k0 k1 k2 k3 k5, oCH = excClassObj nm q CH N bs bm true sn sub ab col dd k0 k1 k2 k3 k5 "ValueError.__new__" ∧ PySem.HandSPX.refsVE bm = true)
    (eCH_sa : PySem.W.findIn K (.ref CH) "__setattr__" = some (some (.builtin "object.__setattr__")))
    (eCH_ex : PySem.W.subIn K (.ref CH) (.type "BaseException") = some true)
    (eCH_tt : PySem.W.typeIn K (.ref CH) = some (.type "type"))
    (eCH_k : PySem.W.keepIn K (.ref CH) = true)
    (eCH_nv : PySem.W.findIn K (.ref CH) "value" = some none)
    (eCH_sub : PySem.W.exmOne K (.ref CH) (.ref CS) = some true)
    (eCH_ga : PySem.W.findIn K (.ref CH) "__getattribute__" = some (some (.builtin "BaseException.__getattribute__")))
    (eCH_gg : PySem.W.findIn K (.ref CH) "__getattr__" = some none)
    (eCH_hd : PySem.W.hasDictIn K CH = true)
    (eCH_ca : PySem.W.findIn K (.ref CH) "__class__" = some (some (.builtin "object.__class__")))
    (eCH_mo : PySem.W.mroIn K CH (.type "object") = some true)
    (kk_0_0 : PySem.W.kitOne K (.ref CH) (.ref CH) = some true)
    (kk_0_1 : PySem.W.kitOne K (.ref CH) (.ref CT) = some false)
    (kk_0_2 : PySem.W.kitOne K (.ref CH) (.ref CC) = some false)
    (kk_0_3 : PySem.W.kitOne K (.ref CH) (.ref CB) = some false)
    (kk_0_4 : PySem.W.kitOne K (.ref CH) (.ref CN) = some false)
    (eCT_in : PySem.W.findIn K (.ref CT) "__init__" = some (some (.ref f_Err)))
    (l_CT : K.lookup CT = some oCT)
    (eCT_cls : ∃ nm q N bs bm sn sub ab col dd k0 k1 k2 k3 k5, oCT = excClassObj nm q CT N bs bm true sn sub ab col dd k0 k1 k2 k3 k5 "ValueError.__new__" ∧ PySem.HandSPX.refsVE bm = true)
    (eCT_sa : PySem.W.findIn K (.ref CT) "__setattr__" = some (some (.builtin "object.__setattr__")))
    (eCT_ex : PySem.W.subIn K (.ref CT) (.type "BaseException") = some true)
    (eCT_tt : PySem.W.typeIn K (.ref CT) = some (.type "type"))
    (eCT_k : PySem.W.keepIn K (.ref CT) = true)
    (eCT_nv : PySem.W.findIn K (.ref CT) "value" = some none)
    (eCT_sub : PySem.W.exmOne K (.ref CT) (.ref CS) = some true)
    (eCT_ga : PySem.W.findIn K (.ref CT) "__getattribute__" = some (some (.builtin "BaseException.__getattribute__")))
    (eCT_gg : PySem.W.findIn K (.ref CT) "__getattr__" = some none)
    (eCT_hd : PySem.W.hasDictIn K CT = true)
    (eCT_ca : PySem.W.findIn K (.ref CT) "__class__" = some (some (.builtin "object.__class__")))
    (eCT_mo : PySem.W.mroIn K CT (.type "object") = some true)
    (kk_1_0 : PySem.W.kitOne K (.ref CT) (.ref CH) = some false)
    (kk_1_1 : PySem.W.kitOne K (.ref CT) (.ref CT) = some true)
    (kk_1_2 : PySem.W.kitOne K (.ref CT) (.ref CC) = some false)
    (kk_1_3 : PySem.W.kitOne K (.ref CT) (.ref CB) = some false)
    (kk_1_4 : PySem.W.kitOne K (.ref CT) (.ref CN) = some false)
    (eCC_in : PySem.W.findIn K (.ref CC) "__init__" = some (some (.ref f_Err)))
    (l_CC : K.lookup CC = some oCC)
    (eCC_cls : ∃ nm q N bs bm sn sub ab col dd k0 k1 k2 k3 k5, oCC = excClassObj nm q CC N bs bm true sn sub ab col dd k0 k1 k2 k3 k5 "ValueError.__new__" ∧ PySem.HandSPX.refsVE bm = true)
    (eCC_sa : PySem.W.findIn K (.ref CC) "__setattr__" = some (some (.builtin "object.__setattr__")))
    (eCC_ex : PySem.W.subIn K (.ref CC) (.type "BaseException") = some true)
    (eCC_tt : PySem.W.typeIn K (.ref CC) = some (.type "type"))
    (eCC_k : PySem.W.keepIn K (.ref CC) = true)
    (eCC_nv : PySem.W.findIn K (.ref CC) "value" = some none)
    (eCC_sub : PySem.W.exmOne K (.ref CC) (.ref CS) = some true)
    (eCC_ga : PySem.W.findIn K (.ref CC) "__getattribute__" = some (some (.builtin "BaseException.__getattribute__")))
    (eCC_gg : PySem.W.findIn K (.ref CC) "__getattr__" = some none)
    (eCC_hd : PySem.W.hasDictIn K CC = true)
    (eCC_ca : PySem.W.findIn K (.ref CC) "__class__" = some (some (.builtin "object.__class__")))
    (eCC_mo : PySem.W.mroIn K CC (.type "object") = some true)
    (kk_2_0 : PySem.W.kitOne K (.ref CC) (.ref CH) = some false)
    (kk_2_1 : PySem.W.kitOne K (.ref CC) (.ref CT) = some false)
    (kk_2_2 : PySem.W.kitOne K (.ref CC) (.ref CC) = some true)
    (kk_2_3 : PySem.W.kitOne K (.ref CC) (.ref CB) = some false)
    (kk_2_4 : PySem.W.kitOne K (.ref CC) (.ref CN) = some false)
    (eCB_in : PySem.W.findIn K (.ref CB) "__init__" = some (some (.ref f_Err)))
    (l_CB : K.lookup CB = some oCB)
    (eCB_cls : ∃ nm q N bs bm sn sub ab col dd k0 k1 k2 k3 k5, oCB = excClassObj nm q CB N bs bm true sn sub ab col dd k0 k1 k2 k3 k5 "ValueError.__new__" ∧ PySem.HandSPX.refsVE bm = true)
    (eCB_sa : PySem.W.findIn K (.ref CB) "__setattr__" = some (some (.builtin "object.__setattr__")))
    (eCB_ex : PySem.W.subIn K (.ref CB) (.type "BaseException") = some true)
    (eCB_tt : PySem.W.typeIn K (.ref CB) = some (.type "type"))
    (eCB_k : PySem.W.keepIn K (.ref CB) = true)
    (eCB_nv : PySem.W.findIn K (.ref CB) "value" = some none)
    (eCB_sub : PySem.W.exmOne K (.ref CB) (.ref CS) = some true)
    (eCB_ga : PySem.W.findIn K (.ref CB) "__getattribute__" = some (some (.builtin "BaseException.__getattribute__")))
    (eCB_gg : PySem.W.findIn K (.ref CB) "__getattr__" = some none)
    (eCB_hd : PySem.W.hasDictIn K CB = true)
    (eCB_ca : PySem.W.findIn K (.ref CB) "__class__" = some (some (.builtin "object.__class__")))
    (eCB_mo : PySem.W.mroIn K CB (.type "object") = some true)
    (kk_3_0 : PySem.W.kitOne K (.ref CB) (.ref CH) = some false)
    (kk_3_1 : PySem.W.kitOne K (.ref CB) (.ref CT) = some false)
    (kk_3_2 : PySem.W.kitOne K (.ref CB) (.ref CC) = some false)
    (kk_3_3 : PySem.W.kitOne K (.ref CB) (.ref CB) = some true)
    (kk_3_4 : PySem.W.kitOne K (.ref CB) (.ref CN) = some false)
    (eCN_in : PySem.W.findIn K (.ref CN) "__init__" = some (some (.ref f_Err)))
    (l_CN : K.lookup CN = some oCN)
    (eCN_cls : ∃ nm q N bs bm sn sub ab col dd k0 k1 k2 k3 k5, oCN = excClassObj nm q CN N bs bm true sn sub ab col dd k0 k1 k2 k3 k5 "ValueError.__new__" ∧ PySem.HandSPX.refsVE bm = true)
    (eCN_sa : PySem.W.findIn K (.ref CN) "__setattr__" = some (some (.builtin "object.__setattr__")))
    (eCN_ex : PySem.W.subIn K (.ref CN) (.type "BaseException") = some true)
    (eCN_tt : PySem.W.typeIn K (.ref CN) = some (.type "type"))
    (eCN_k : PySem.W.keepIn K (.ref CN) = true)
    (eCN_nv : PySem.W.findIn K (.ref CN) "value" = some none)
    (eCN_sub : PySem.W.exmOne K (.ref CN) (.ref CS) = some true)
    (eCN_ga : PySem.W.findIn K (.ref CN) "__getattribute__" = some (some (.builtin "BaseException.__getattribute__")))
    (eCN_gg : PySem.W.findIn K (.ref CN) "__getattr__" = some none)
    (eCN_hd : PySem.W.hasDictIn K CN = true)
    (eCN_ca : PySem.W.findIn K (.ref CN) "__class__" = some (some (.builtin "object.__class__")))
    (eCN_mo : PySem.W.mroIn K CN (.type "object") = some true)
    (kk_4_0 : PySem.W.kitOne K (.ref CN) (.ref CH) = some false)
    (kk_4_1 : PySem.W.kitOne K (.ref CN) (.ref CT) = some false)
    (kk_4_2 : PySem.W.kitOne K (.ref CN) (.ref CC) = some false)
    (kk_4_3 : PySem.W.kitOne K (.ref CN) (.ref CB) = some false)
    (kk_4_4 : PySem.W.kitOne K (.ref CN) (.ref CN) = some true)
    (ef_ty : PySem.W.typeIn K (.ref f_Err) = some (.type "function"))
    (l_Err : K.lookup f_Err = some ⟨oc_Err, od_Err, .func (PySem.W.fnOf "__init__" "LoopError.__init__" (defArgs sLoopError_Init) (defBody sLoopError_Init) (defScope sLoopError_Init) .none kV_Err dc_Err pm_Err an_Err cd_Err ct_Err), sl_Err⟩)
    (c_Err : PySem.W.codeIn K cd_Err "LoopError.__init__" = true)
    (k_Err : PySem.W.keepIn K (.ref f_Err) = true)
    (a_LETTERS : PySem.W.nsIn K mainGlobals "LETTERS" = some (some (.str lettersS t_LETTERS)))
    (a_FIGURES : PySem.W.nsIn K mainGlobals "FIGURES" = some (some (.str figuresS t_FIGURES)))
    (a_MOST_SIGNS : PySem.W.nsIn K mainGlobals "MOST_SIGNS" = some (some (.int 6 t_MOST_SIGNS)))
    (a_MOST_IN_ROW : PySem.W.nsIn K mainGlobals "MOST_IN_ROW" = some (some (.int 3 t_MOST_IN_ROW)))
    (a_MOST_WORDS : PySem.W.nsIn K mainGlobals "MOST_WORDS" = some (some (.int 100 t_MOST_WORDS)))
    (a_MOST_DEEP : PySem.W.nsIn K mainGlobals "MOST_DEEP" = some (some (.int 14 t_MOST_DEEP)))
    (a_NO_NAMES : PySem.W.nsIn K mainGlobals "NO_NAMES" = some (some (.ref N_NO_NAMES)))
    (l_NO_NAMES : K.lookup N_NO_NAMES = some o_NO_NAMES)
    (q_NO_NAMES : TupObj o_NO_NAMES (noNames.map V.str))
    (a_CHANGED_NAMES : PySem.W.nsIn K mainGlobals "CHANGED_NAMES" = some (some (.ref N_CHANGED_NAMES)))
    (l_CHANGED_NAMES : K.lookup N_CHANGED_NAMES = some o_CHANGED_NAMES)
    (q_CHANGED_NAMES : TupObj o_CHANGED_NAMES (changedS.map V.str))
    (a_SHAPES : PySem.W.nsIn K mainGlobals "SHAPES" = some (some (.ref S)))
    (l_SHAPES : K.lookup S = some oS)
    (q_SHAPES : oS = { cls := .type "dict", data := .dict (ents w baseShapes [(ts0, rs0), (ts1, rs1), (ts2, rs2), (ts3, rs3), (ts4, rs4), (ts5, rs5), (ts6, rs6), (ts7, rs7), (ts8, rs8), (ts9, rs9)]).toArray nS })
    (e_SHAPES : (S == sysModules) = false)
    (l_T0 : K.lookup rs0 = some oT0)
    (q_T0 : oT0 = ⟨.type "tuple", dT0, .seq #[.int 0 tT0, .int 0 uT0, .int 0 vT0] nT0, slT0⟩)
    (l_T1 : K.lookup rs1 = some oT1)
    (q_T1 : oT1 = ⟨.type "tuple", dT1, .seq #[.int 0 tT1, .int 0 uT1, .int 0 vT1] nT1, slT1⟩)
    (l_T2 : K.lookup rs2 = some oT2)
    (q_T2 : oT2 = ⟨.type "tuple", dT2, .seq #[.int 2 tT2, .int 0 uT2, .int 0 vT2] nT2, slT2⟩)
    (l_T3 : K.lookup rs3 = some oT3)
    (q_T3 : oT3 = ⟨.type "tuple", dT3, .seq #[.int 2 tT3, .int 0 uT3, .int 0 vT3] nT3, slT3⟩)
    (l_T4 : K.lookup rs4 = some oT4)
    (q_T4 : oT4 = ⟨.type "tuple", dT4, .seq #[.int 0 tT4, .int 0 uT4, .int 1 vT4] nT4, slT4⟩)
    (l_T5 : K.lookup rs5 = some oT5)
    (q_T5 : oT5 = ⟨.type "tuple", dT5, .seq #[.int 0 tT5, .int 0 uT5, .int 2 vT5] nT5, slT5⟩)
    (l_T6 : K.lookup rs6 = some oT6)
    (q_T6 : oT6 = ⟨.type "tuple", dT6, .seq #[.int 0 tT6, .int 0 uT6, .int 2 vT6] nT6, slT6⟩)
    (l_T7 : K.lookup rs7 = some oT7)
    (q_T7 : oT7 = ⟨.type "tuple", dT7, .seq #[.int 0 tT7, .int 1 uT7, .int 1 vT7] nT7, slT7⟩)
    (l_T8 : K.lookup rs8 = some oT8)
    (q_T8 : oT8 = ⟨.type "tuple", dT8, .seq #[.int 0 tT8, .int 1 uT8, .int 1 vT8] nT8, slT8⟩)
    (l_T9 : K.lookup rs9 = some oT9)
    (q_T9 : oT9 = ⟨.type "tuple", dT9, .seq #[.int 2 tT9, .int 2 uT9, .int 1 vT9] nT9, slT9⟩)
    (ne_R : CR ≠ CP)
    (ne_Q : CQ ≠ CP)
    (z_isinstance : PySem.W.nsIn K mainGlobals "isinstance" = some none)
    (z_len : PySem.W.nsIn K mainGlobals "len" = some none)
    (z_all : PySem.W.nsIn K mainGlobals "all" = some none)
    (z_any : PySem.W.nsIn K mainGlobals "any" = some none)
    (z_int : PySem.W.nsIn K mainGlobals "int" = some none)
    (z_str : PySem.W.nsIn K mainGlobals "str" = some none)
    (z_bool : PySem.W.nsIn K mainGlobals "bool" = some none)
    (z_tuple : PySem.W.nsIn K mainGlobals "tuple" = some none)
    (z_set : PySem.W.nsIn K mainGlobals "set" = some none)
    (z_sorted : PySem.W.nsIn K mainGlobals "sorted" = some none)
    (z_max : PySem.W.nsIn K mainGlobals "max" = some none)
    (z_dict : PySem.W.nsIn K mainGlobals "dict" = some none)
    (z_min : PySem.W.nsIn K mainGlobals "min" = some none)
    (z_range : PySem.W.nsIn K mainGlobals "range" = some none)
    (z_sum : PySem.W.nsIn K mainGlobals "sum" = some none)
    (z_abs : PySem.W.nsIn K mainGlobals "abs" = some none)
    (z_list : PySem.W.nsIn K mainGlobals "list" = some none)
    (z_repr : PySem.W.nsIn K mainGlobals "repr" = some none)
    (q_cdRi : cd__law_right = .ref cRi)
    (q_cdTr : cd__law_are_texts_refused = .ref cTr)
    (q_cdBo : cd__law_are_bounds_right = .ref cBo)
    : ∃ fd : FuncData, (∀ (s : Shared) (v : Value), BindsTo s fd ⟨[v], []⟩ [("script", v)]) ∧ ∀ base : Heap, K.In base → base.Ns mainGlobals mg → TabB base mg cRi TbRi → TabB base mg cTr TbTr → TabB base mg cBo TbBo → FnG l.prog w K mg base 29 fa fd ["script"] (spLaw3 K [(TbRi, lamRi), (TbTr, lamTr), (TbBo, lamBo)]) := by
  have e := hfa.symm.trans (PySem.W.mg_of X G a_law)
  cases e
  have m_isinstance : mg "isinstance" = none := PySem.W.mg_none_of X G z_isinstance
  have m_len : mg "len" = none := PySem.W.mg_none_of X G z_len
  have m_all : mg "all" = none := PySem.W.mg_none_of X G z_all
  have m_any : mg "any" = none := PySem.W.mg_none_of X G z_any
  have m_int : mg "int" = none := PySem.W.mg_none_of X G z_int
  have m_str : mg "str" = none := PySem.W.mg_none_of X G z_str
  have m_bool : mg "bool" = none := PySem.W.mg_none_of X G z_bool
  have m_tuple : mg "tuple" = none := PySem.W.mg_none_of X G z_tuple
  have m_set : mg "set" = none := PySem.W.mg_none_of X G z_set
  have m_sorted : mg "sorted" = none := PySem.W.mg_none_of X G z_sorted
  have m_max : mg "max" = none := PySem.W.mg_none_of X G z_max
  have m_dict : mg "dict" = none := PySem.W.mg_none_of X G z_dict
  have m_min : mg "min" = none := PySem.W.mg_none_of X G z_min
  have m_range : mg "range" = none := PySem.W.mg_none_of X G z_range
  have m_sum : mg "sum" = none := PySem.W.mg_none_of X G z_sum
  have m_abs : mg "abs" = none := PySem.W.mg_none_of X G z_abs
  have m_list : mg "list" = none := PySem.W.mg_none_of X G z_list
  have m_repr : mg "repr" = none := PySem.W.mg_none_of X G z_repr
  have m_is_integer : mg "is_integer" = some (.ref f_is_integer) := PySem.W.mg_of X G a_is_integer
  have m_is_name : mg "is_name" = some (.ref f_is_name) := PySem.W.mg_of X G a_is_name
  have m_are_unlike_names : mg "are_unlike_names" = some (.ref f_are_unlike_names) := PySem.W.mg_of X G a_are_unlike_names
  have m_is_head : mg "is_head" = some (.ref f_is_head) := PySem.W.mg_of X G a_is_head
  have m_is_table : mg "is_table" = some (.ref f_is_table) := PySem.W.mg_of X G a_is_table
  have m_is_tables : mg "is_tables" = some (.ref f_is_tables) := PySem.W.mg_of X G a_is_tables
  have m_free_names : mg "free_names" = some (.ref f_free_names) := PySem.W.mg_of X G a_free_names
  have m_whole_part : mg "whole_part" = some (.ref f_whole_part) := PySem.W.mg_of X G a_whole_part
  have m_check_question : mg "check_question" = some (.ref f_check_question) := PySem.W.mg_of X G a_check_question
  have m_width : mg "width" = some (.ref f_width) := PySem.W.mg_of X G a_width
  have m__law_pot : mg "_law_pot" = some (.ref f__law_pot) := PySem.W.mg_of X G a__law_pot
  have m__law_take : mg "_law_take" = some (.ref f__law_take) := PySem.W.mg_of X G a__law_take
  have m__law_of : mg "_law_of" = some (.ref f__law_of) := PySem.W.mg_of X G a__law_of
  have m__law_odd : mg "_law_odd" = some (.ref f__law_odd) := PySem.W.mg_of X G a__law_odd
  have m__law_caught : mg "_law_caught" = some (.ref f__law_caught) := PySem.W.mg_of X G a__law_caught
  have m__law_word : mg "_law_word" = some (.ref f__law_word) := PySem.W.mg_of X G a__law_word
  have m__law_is_refused : mg "_law_is_refused" = some (.ref f__law_is_refused) := PySem.W.mg_of X G a__law_is_refused
  have m__law_are_told : mg "_law_are_told" = some (.ref f__law_are_told) := PySem.W.mg_of X G a__law_are_told
  have m__law_are_texts_refused : mg "_law_are_texts_refused" = some (.ref f__law_are_texts_refused) := PySem.W.mg_of X G a__law_are_texts_refused
  have m__law_are_bounds_right : mg "_law_are_bounds_right" = some (.ref f__law_are_bounds_right) := PySem.W.mg_of X G a__law_are_bounds_right
  have m__law_right : mg "_law_right" = some (.ref f__law_right) := PySem.W.mg_of X G a__law_right
  have cl_CP : Cls K CP := ⟨pg_CP, hd_CP, po_CP, sa_CP⟩
  have cl_CR : Cls K CR := ⟨pg_CR, hd_CR, po_CR, sa_CR⟩
  have cl_CQ : Cls K CQ := ⟨pg_CQ, hd_CQ, po_CQ, sa_CQ⟩
  have TVv : TV K mg := ⟨⟨_, PySem.W.mg_of X G a_LETTERS⟩, ⟨_, PySem.W.mg_of X G a_FIGURES⟩, ⟨_, PySem.W.mg_of X G a_MOST_SIGNS⟩, ⟨_, PySem.W.mg_of X G a_MOST_IN_ROW⟩, ⟨_, PySem.W.mg_of X G a_NO_NAMES, q_NO_NAMES.at l_NO_NAMES⟩, ⟨_, PySem.W.mg_of X G a_CHANGED_NAMES, q_CHANGED_NAMES.at l_CHANGED_NAMES⟩,
    m_isinstance, m_len, m_all, m_any, m_int, m_str, m_bool, m_tuple, m_set⟩
  have TP : TPt K mg CP := ⟨TVv, cl_CP, n_CP_word, n_CP_places, n_CP_bound, n_CP_inner, n_CP_free, n_CP_depth, n_CP_most_names, PySem.W.mg_of X G a_CP, m_sorted, m_max⟩
  have TR : TRd w K mg CR := ⟨TVv, ⟨S, [(ts0, rs0), (ts1, rs1), (ts2, rs2), (ts3, rs3), (ts4, rs4), (ts5, rs5), (ts6, rs6), (ts7, rs7), (ts8, rs8), (ts9, rs9)], nS, PySem.W.mg_of X G a_SHAPES, e_SHAPES, l_SHAPES.trans (congrArg some q_SHAPES), .cons ⟨_, _, _, _, _, _, l_T0.trans (congrArg some q_T0)⟩ (.cons ⟨_, _, _, _, _, _, l_T1.trans (congrArg some q_T1)⟩ (.cons ⟨_, _, _, _, _, _, l_T2.trans (congrArg some q_T2)⟩ (.cons ⟨_, _, _, _, _, _, l_T3.trans (congrArg some q_T3)⟩ (.cons ⟨_, _, _, _, _, _, l_T4.trans (congrArg some q_T4)⟩ (.cons ⟨_, _, _, _, _, _, l_T5.trans (congrArg some q_T5)⟩ (.cons ⟨_, _, _, _, _, _, l_T6.trans (congrArg some q_T6)⟩ (.cons ⟨_, _, _, _, _, _, l_T7.trans (congrArg some q_T7)⟩ (.cons ⟨_, _, _, _, _, _, l_T8.trans (congrArg some q_T8)⟩ (.cons ⟨_, _, _, _, _, _, l_T9.trans (congrArg some q_T9)⟩ (AllT3.nil))))))))))⟩, cl_CR, n_CR_words, n_CR_many_read, n_CR_shapes, PySem.W.mg_of X G a_CR, m_dict, m_min, ⟨_, PySem.W.mg_of X G a_MOST_WORDS⟩, ⟨_, PySem.W.mg_of X G a_MOST_DEEP⟩, m_range⟩
  have TQ' : TQ K mg CQ := ⟨TVv, cl_CQ, n_CQ_whole, n_CQ_head, n_CQ_text, n_CQ_tables, n_CQ_changed, n_CQ_is_loopless, n_CQ_deep, PySem.W.mg_of X G a_CQ⟩
  have IC : IsC K CQ := ⟨cl_CQ, ic_ha, ic_hn, ic_ht, ic_hm⟩
  have TLl : TL mg := ⟨m_int, m_abs, m_len, m_sum, m_all, m_range, m_list, m_max, m_min, m_str, m_isinstance, m_repr, m_tuple⟩
  have F_is_integer := fun_mk (st := sIsInteger) l_is_integer c_is_integer k_is_integer
  have b_is_integer := F_is_integer.binds (ps := ["value", "low", "high"]) fun _ _ _ _ _ _ us hl => allL3 (P := fun us => bindArgs _ { pos := us } = pure (List.zip _ us)) (fun _ _ _ => rfl) us hl
  have F_is_name := fun_mk (st := sIsName) l_is_name c_is_name k_is_name
  have b_is_name := F_is_name.binds (ps := ["value"]) fun _ _ _ _ _ _ us hl => allL1 (P := fun us => bindArgs _ { pos := us } = pure (List.zip _ us)) (fun _ => rfl) us hl
  have F_are_unlike_names := fun_mk (st := sAreUnlikeNames) l_are_unlike_names c_are_unlike_names k_are_unlike_names
  have b_are_unlike_names := F_are_unlike_names.binds (ps := ["values"]) fun _ _ _ _ _ _ us hl => allL1 (P := fun us => bindArgs _ { pos := us } = pure (List.zip _ us)) (fun _ => rfl) us hl
  have F_is_head := fun_mk (st := sIsHead) l_is_head c_is_head k_is_head
  have b_is_head := F_is_head.binds (ps := ["value"]) fun _ _ _ _ _ _ us hl => allL1 (P := fun us => bindArgs _ { pos := us } = pure (List.zip _ us)) (fun _ => rfl) us hl
  have F_is_table := fun_mk (st := sIsTable) l_is_table c_is_table k_is_table
  have b_is_table := F_is_table.binds (ps := ["value"]) fun _ _ _ _ _ _ us hl => allL1 (P := fun us => bindArgs _ { pos := us } = pure (List.zip _ us)) (fun _ => rfl) us hl
  have F_is_tables := fun_mk (st := sIsTables) l_is_tables c_is_tables k_is_tables
  have b_is_tables := F_is_tables.binds (ps := ["value"]) fun _ _ _ _ _ _ us hl => allL1 (P := fun us => bindArgs _ { pos := us } = pure (List.zip _ us)) (fun _ => rfl) us hl
  have F_free_names := fun_mk (st := sFreeNames) l_free_names c_free_names k_free_names
  have b_free_names := F_free_names.binds (ps := ["places", "bound", "inner"]) fun _ _ _ _ _ _ us hl => allL3 (P := fun us => bindArgs _ { pos := us } = pure (List.zip _ us)) (fun _ _ _ => rfl) us hl
  have F_whole_part := fun_mk (st := sWholePart) l_whole_part c_whole_part k_whole_part
  have b_whole_part := F_whole_part.binds (ps := ["head", "text", "tables", "changed"]) fun _ _ _ _ _ _ us hl => allL4 (P := fun us => bindArgs _ { pos := us } = pure (List.zip _ us)) (fun _ _ _ _ => rfl) us hl
  have F_check_question := fun_mk (st := sCheckQuestion) l_check_question c_check_question k_check_question
  have b_check_question := F_check_question.binds (ps := ["question"]) fun _ _ _ _ _ _ us hl => allL1 (P := fun us => bindArgs _ { pos := us } = pure (List.zip _ us)) (fun _ => rfl) us hl
  have F_width := fun_mk (st := sWidth) l_width c_width k_width
  have b_width := F_width.binds (ps := ["question"]) fun _ _ _ _ _ _ us hl => allL1 (P := fun us => bindArgs _ { pos := us } = pure (List.zip _ us)) (fun _ => rfl) us hl
  have F__law_pot := fun_mk (st := sLawPot) l__law_pot c__law_pot k__law_pot
  have b__law_pot := F__law_pot.binds (ps := ["script", "place"]) fun _ _ _ _ _ _ us hl => allL2 (P := fun us => bindArgs _ { pos := us } = pure (List.zip _ us)) (fun _ _ => rfl) us hl
  have F__law_take := fun_mk (st := sLawTake) l__law_take c__law_take k__law_take
  have b__law_take := F__law_take.binds (ps := ["pot", "upto"]) fun _ _ _ _ _ _ us hl => allL2 (P := fun us => bindArgs _ { pos := us } = pure (List.zip _ us)) (fun _ _ => rfl) us hl
  have F__law_of := fun_mk (st := sLawOf) l__law_of c__law_of k__law_of
  have b__law_of := F__law_of.binds (ps := ["pot", "some"]) fun _ _ _ _ _ _ us hl => allL2 (P := fun us => bindArgs _ { pos := us } = pure (List.zip _ us)) (fun _ _ => rfl) us hl
  have F__law_odd := fun_mk (st := sLawOdd) l__law_odd c__law_odd k__law_odd
  have b__law_odd := F__law_odd.binds (ps := ["pot"]) fun _ _ _ _ _ _ us hl => allL1 (P := fun us => bindArgs _ { pos := us } = pure (List.zip _ us)) (fun _ => rfl) us hl
  have F__law_caught := fun_mk (st := sLawCaught) l__law_caught c__law_caught k__law_caught
  have b__law_caught := F__law_caught.binds (ps := ["call"]) fun _ _ _ _ _ _ us hl => allL1 (P := fun us => bindArgs _ { pos := us } = pure (List.zip _ us)) (fun _ => rfl) us hl
  have F__law_word := fun_mk (st := sLawWord) l__law_word c__law_word k__law_word
  have b__law_word := F__law_word.binds (ps := ["error"]) fun _ _ _ _ _ _ us hl => allL1 (P := fun us => bindArgs _ { pos := us } = pure (List.zip _ us)) (fun _ => rfl) us hl
  have F__law_is_refused := fun_mk (st := sLawIsRefused) l__law_is_refused c__law_is_refused k__law_is_refused
  have b__law_is_refused := F__law_is_refused.binds (ps := ["call", "word", "value"]) fun _ _ _ _ _ _ us hl => allL3 (P := fun us => bindArgs _ { pos := us } = pure (List.zip _ us)) (fun _ _ _ => rfl) us hl
  have F__law_are_told := fun_mk (st := sLawAreTold) l__law_are_told c__law_are_told k__law_are_told
  have b__law_are_told := F__law_are_told.binds (ps := ["head", "tables"]) fun _ _ _ _ _ _ us hl => allL2 (P := fun us => bindArgs _ { pos := us } = pure (List.zip _ us)) (fun _ _ => rfl) us hl
  have F__law_are_texts_refused := fun_mk (st := sLawAreTextsRefused) l__law_are_texts_refused c__law_are_texts_refused k__law_are_texts_refused
  have b__law_are_texts_refused := F__law_are_texts_refused.binds (ps := ["head", "tables"]) fun _ _ _ _ _ _ us hl => allL2 (P := fun us => bindArgs _ { pos := us } = pure (List.zip _ us)) (fun _ _ => rfl) us hl
  have F__law_are_bounds_right := fun_mk (st := sLawAreBoundsRight) l__law_are_bounds_right c__law_are_bounds_right k__law_are_bounds_right
  have b__law_are_bounds_right := F__law_are_bounds_right.binds (ps := ["head", "tables"]) fun _ _ _ _ _ _ us hl => allL2 (P := fun us => bindArgs _ { pos := us } = pure (List.zip _ us)) (fun _ _ => rfl) us hl
  have F__law_right := fun_mk (st := sLawRight) l__law_right c__law_right k__law_right
  have b__law_right := F__law_right.binds (ps := ["pot"]) fun _ _ _ _ _ _ us hl => allL1 (P := fun us => bindArgs _ { pos := us } = pure (List.zip _ us)) (fun _ => rfl) us hl
  have F_law := fun_mk (st := sLaw) l_law c_law k_law
  have b_law := F_law.binds (ps := ["script"]) fun _ _ _ _ _ _ us hl => allL1 (P := fun us => bindArgs _ { pos := us } = pure (List.zip _ us)) (fun _ => rfl) us hl
  have F_CP__init__ := fun_mk (st := sPart_Init) l_CP__init__ c_CP__init__ k_CP__init__
  have b_CP__init__ := F_CP__init__.binds (ps := ["self", "word", "places", "bound", "inner"]) fun _ _ _ _ _ _ us hl => allL5 (P := fun us => bindArgs _ { pos := us } = pure (List.zip _ us)) (fun _ _ _ _ _ => rfl) us hl
  have F_CR__init__ := fun_mk (st := sReader_Init) l_CR__init__ c_CR__init__ k_CR__init__
  have b_CR__init__ := F_CR__init__.binds (ps := ["self", "text", "tables"]) fun _ _ _ _ _ _ us hl => allL3 (P := fun us => bindArgs _ { pos := us } = pure (List.zip _ us)) (fun _ _ _ => rfl) us hl
  have F_CRnext_word := fun_mk (st := sReader_NextWord) l_CRnext_word c_CRnext_word k_CRnext_word
  have b_CRnext_word := F_CRnext_word.binds (ps := ["self"]) fun _ _ _ _ _ _ us hl => allL1 (P := fun us => bindArgs _ { pos := us } = pure (List.zip _ us)) (fun _ => rfl) us hl
  have F_CRtake := fun_mk (st := sReader_Take) l_CRtake c_CRtake k_CRtake
  have b_CRtake := F_CRtake.binds (ps := ["self", "fits"]) fun _ _ _ _ _ _ us hl => allL2 (P := fun us => bindArgs _ { pos := us } = pure (List.zip _ us)) (fun _ _ => rfl) us hl
  have F_CRread_place := fun_mk (st := sReader_ReadPlace) l_CRread_place c_CRread_place k_CRread_place
  have b_CRread_place := F_CRread_place.binds (ps := ["self", "alive"]) fun _ _ _ _ _ _ us hl => allL2 (P := fun us => bindArgs _ { pos := us } = pure (List.zip _ us)) (fun _ _ => rfl) us hl
  have F_CRread_bound := fun_mk (st := sReader_ReadBound) l_CRread_bound c_CRread_bound k_CRread_bound
  have b_CRread_bound := F_CRread_bound.binds (ps := ["self", "many"]) fun _ _ _ _ _ _ us hl => allL2 (P := fun us => bindArgs _ { pos := us } = pure (List.zip _ us)) (fun _ _ => rfl) us hl
  have F_CRread_part := fun_mk (st := sReader_ReadPart) l_CRread_part c_CRread_part k_CRread_part
  have b_CRread_part := F_CRread_part.binds (ps := ["self", "alive", "within"]) fun _ _ _ _ _ _ us hl => allL3 (P := fun us => bindArgs _ { pos := us } = pure (List.zip _ us)) (fun _ _ _ => rfl) us hl
  have F_CRread_end := fun_mk (st := sReader_ReadEnd) l_CRread_end c_CRread_end k_CRread_end
  have b_CRread_end := F_CRread_end.binds (ps := ["self"]) fun _ _ _ _ _ _ us hl => allL1 (P := fun us => bindArgs _ { pos := us } = pure (List.zip _ us)) (fun _ => rfl) us hl
  have F_CQ__init__ := fun_mk (st := sQuestion_Init) l_CQ__init__ c_CQ__init__ k_CQ__init__
  have b_CQ__init__ := F_CQ__init__.binds (ps := ["self", "head", "text", "tables", "changed"]) fun _ _ _ _ _ _ us hl => allL5 (P := fun us => bindArgs _ { pos := us } = pure (List.zip _ us)) (fun _ _ _ _ _ => rfl) us hl
  have F_Err := fun_mk (st := sLoopError_Init) l_Err c_Err k_Err
  have b_Err := F_Err.binds (ps := ["self", "value"]) fun _ _ _ _ _ _ us hl => allL2 (P := fun us => bindArgs _ { pos := us } = pure (List.zip _ us)) (fun _ _ => rfl) us hl
  refine ⟨PySem.W.fnOf "law" "law" (defArgs sLaw) (defBody sLaw) (defScope sLaw) .none kV_law dc_law pm_law an_law cd_law ct_law, fun s v => .of_eq rfl, fun base _ _ TBri TBtr TBbo => ?_⟩
  have G_is_integer : FVal l.prog w K mg base "is_integer" f_is_integer _ 1 ["value", "low", "high"] spIsInteger := ⟨ok_isInteger F_is_integer TVv, m_is_integer, k_is_integer, b_is_integer⟩
  have G_is_name : FVal l.prog w K mg base "is_name" f_is_name _ 1 ["value"] spIsName := ⟨ok_isName F_is_name TVv, m_is_name, k_is_name, b_is_name⟩
  have G_are_unlike_names : FVal l.prog w K mg base "are_unlike_names" f_are_unlike_names _ 2 ["values"] (spUnlike K) := ⟨ok_unlike F_are_unlike_names TVv G_is_name, m_are_unlike_names, k_are_unlike_names, b_are_unlike_names⟩
  have G_is_head : FVal l.prog w K mg base "is_head" f_is_head _ 3 ["value"] (spIsHead K) := ⟨ok_isHead F_is_head TVv G_are_unlike_names, m_is_head, k_is_head, b_is_head⟩
  have G_is_table : FVal l.prog w K mg base "is_table" f_is_table _ 2 ["value"] (spIsTable K) := ⟨ok_isTable F_is_table TVv G_is_integer, m_is_table, k_is_table, b_is_table⟩
  have G_is_tables : FVal l.prog w K mg base "is_tables" f_is_tables _ 3 ["value"] (spIsTables K) := ⟨ok_isTables F_is_tables TVv G_is_table G_are_unlike_names, m_is_tables, k_is_tables, b_is_tables⟩
  have G_free_names : FVal l.prog w K mg base "free_names" f_free_names _ 1 ["places", "bound", "inner"] (spFreeNames K CP) := ⟨ok_freeNames F_free_names TP, m_free_names, k_free_names, b_free_names⟩
  have GPI := ok_partInit (P := l.prog) (w := w) (base := base) F_CP__init__ TP G_free_names
  have MP : Mk K CP f_CP__init__ := ⟨mk_CP, a_CP__init__, i_CP__init__, kc_CP⟩
  have MR : Mk K CR f_CR__init__ := ⟨mk_CR, a_CR__init__, i_CR__init__, kc_CR⟩
  have MQ : Mk K CQ f_CQ__init__ := ⟨mk_CQ, a_CQ__init__, i_CQ__init__, kc_CQ⟩
  have GRI := ok_readerInit (P := l.prog) (w := w) (base := base) F_CR__init__ TR
  have oxCH : OexC K CH := ⟨by obtain ⟨nm, q, N, bs, bm, sn, sub, ab, col, dd, k0, k1, k2, k3, k5, e1, e2⟩ := eCH_cls; exact ⟨nm, q, N, bs, bm, sn, sub, ab, col, dd, k0, k1, k2, k3, k5, l_CH.trans (congrArg some e1), e2⟩, eCH_sa, eCH_ex, eCH_tt, eCH_k⟩
  have oxCT : OexC K CT := ⟨by obtain ⟨nm, q, N, bs, bm, sn, sub, ab, col, dd, k0, k1, k2, k3, k5, e1, e2⟩ := eCT_cls; exact ⟨nm, q, N, bs, bm, sn, sub, ab, col, dd, k0, k1, k2, k3, k5, l_CT.trans (congrArg some e1), e2⟩, eCT_sa, eCT_ex, eCT_tt, eCT_k⟩
  have oxCC : OexC K CC := ⟨by obtain ⟨nm, q, N, bs, bm, sn, sub, ab, col, dd, k0, k1, k2, k3, k5, e1, e2⟩ := eCC_cls; exact ⟨nm, q, N, bs, bm, sn, sub, ab, col, dd, k0, k1, k2, k3, k5, l_CC.trans (congrArg some e1), e2⟩, eCC_sa, eCC_ex, eCC_tt, eCC_k⟩
  have oxCB : OexC K CB := ⟨by obtain ⟨nm, q, N, bs, bm, sn, sub, ab, col, dd, k0, k1, k2, k3, k5, e1, e2⟩ := eCB_cls; exact ⟨nm, q, N, bs, bm, sn, sub, ab, col, dd, k0, k1, k2, k3, k5, l_CB.trans (congrArg some e1), e2⟩, eCB_sa, eCB_ex, eCB_tt, eCB_k⟩
  have oxCN : OexC K CN := ⟨by obtain ⟨nm, q, N, bs, bm, sn, sub, ab, col, dd, k0, k1, k2, k3, k5, e1, e2⟩ := eCN_cls; exact ⟨nm, q, N, bs, bm, sn, sub, ab, col, dd, k0, k1, k2, k3, k5, l_CN.trans (congrArg some e1), e2⟩, eCN_sa, eCN_ex, eCN_tt, eCN_k⟩
  have GEI := ok_errInit (mg := mg) (P := l.prog) (w := w) (base := base) F_Err
  have TB : TBQ l.prog w K mg base CB := ⟨PySem.W.mg_of X G a_CB, _, _, ⟨oxCB, eCB_nv, eCB_in, ef_ty⟩, GEI, b_Err⟩
  have TECH : TEr l.prog w K mg base "BadHead" CH := ⟨PySem.W.mg_of X G a_CH, _, _, ⟨oxCH, eCH_nv, eCH_in, ef_ty⟩, GEI, b_Err⟩
  have TECT : TEr l.prog w K mg base "BadTables" CT := ⟨PySem.W.mg_of X G a_CT, _, _, ⟨oxCT, eCT_nv, eCT_in, ef_ty⟩, GEI, b_Err⟩
  have TECC : TEr l.prog w K mg base "BadChanged" CC := ⟨PySem.W.mg_of X G a_CC, _, _, ⟨oxCC, eCC_nv, eCC_in, ef_ty⟩, GEI, b_Err⟩
  have TECB : TEr l.prog w K mg base "BadQuestion" CB := ⟨PySem.W.mg_of X G a_CB, _, _, ⟨oxCB, eCB_nv, eCB_in, ef_ty⟩, GEI, b_Err⟩
  have TECN : TEr l.prog w K mg base "NoQuestion" CN := ⟨PySem.W.mg_of X G a_CN, _, _, ⟨oxCN, eCN_nv, eCN_in, ef_ty⟩, GEI, b_Err⟩
  have EX0 : ErrX K CS [CH, CT, CC, CB, CN] 0 CH := ⟨eCH_sub, ⟨eCH_ga, eCH_gg, eCH_ex, eCH_hd, eCH_ca, ic_hn, ic_ht, eCH_mo⟩, ⟨eCH_ga, eCH_gg, eCH_ex, eCH_hd⟩, eCH_nv, five_is (by decide) kk_0_0 kk_0_1 kk_0_2 kk_0_3 kk_0_4⟩
  have EX1 : ErrX K CS [CH, CT, CC, CB, CN] 1 CT := ⟨eCT_sub, ⟨eCT_ga, eCT_gg, eCT_ex, eCT_hd, eCT_ca, ic_hn, ic_ht, eCT_mo⟩, ⟨eCT_ga, eCT_gg, eCT_ex, eCT_hd⟩, eCT_nv, five_is (by decide) kk_1_0 kk_1_1 kk_1_2 kk_1_3 kk_1_4⟩
  have EX2 : ErrX K CS [CH, CT, CC, CB, CN] 2 CC := ⟨eCC_sub, ⟨eCC_ga, eCC_gg, eCC_ex, eCC_hd, eCC_ca, ic_hn, ic_ht, eCC_mo⟩, ⟨eCC_ga, eCC_gg, eCC_ex, eCC_hd⟩, eCC_nv, five_is (by decide) kk_2_0 kk_2_1 kk_2_2 kk_2_3 kk_2_4⟩
  have EX3 : ErrX K CS [CH, CT, CC, CB, CN] 3 CB := ⟨eCB_sub, ⟨eCB_ga, eCB_gg, eCB_ex, eCB_hd, eCB_ca, ic_hn, ic_ht, eCB_mo⟩, ⟨eCB_ga, eCB_gg, eCB_ex, eCB_hd⟩, eCB_nv, five_is (by decide) kk_3_0 kk_3_1 kk_3_2 kk_3_3 kk_3_4⟩
  have EX4 : ErrX K CS [CH, CT, CC, CB, CN] 4 CN := ⟨eCN_sub, ⟨eCN_ga, eCN_gg, eCN_ex, eCN_hd, eCN_ca, ic_hn, ic_ht, eCN_mo⟩, ⟨eCN_ga, eCN_gg, eCN_ex, eCN_hd⟩, eCN_nv, five_is (by decide) kk_4_0 kk_4_1 kk_4_2 kk_4_3 kk_4_4⟩
  have G_CRnext_word : FMeth l.prog w K mg base CR "next_word" f_CRnext_word _ 1 ["self"] (spNextWord K CR) := ⟨ok_nextWord F_CRnext_word TR, ⟨a_CRnext_word, i_CRnext_word, k_CRnext_word⟩, b_CRnext_word⟩
  have GT := ok_takeX (P := l.prog) (w := w) (base := base) F_CRtake TR TB
  have GRP := ok_readPlaceX (P := l.prog) (w := w) (base := base) F_CRread_place TR G_CRnext_word ⟨a_CRtake, i_CRtake, k_CRtake⟩ GT b_CRtake
  have GRB := ok_readBoundX (P := l.prog) (w := w) (base := base) F_CRread_bound TR G_CRnext_word ⟨a_CRtake, i_CRtake, k_CRtake⟩ GT b_CRtake G_is_name
  have GRPt := readPartX_all F_CRread_part TR TP ne_R G_CRnext_word ⟨a_CRtake, i_CRtake, k_CRtake⟩ GT b_CRtake ⟨a_CRread_place, i_CRread_place, k_CRread_place⟩ GRP b_CRread_place ⟨a_CRread_bound, i_CRread_bound, k_CRread_bound⟩ GRB b_CRread_bound GPI MP b_CP__init__ ⟨a_CRread_part, i_CRread_part, k_CRread_part⟩ b_CRread_part 14
  have GRE := ok_readEndX (P := l.prog) (w := w) (base := base) F_CRread_end TR TB
  have GW := ok_wholeX F_whole_part TR TB GRI MR b_CR__init__ ⟨a_CRread_part, i_CRread_part, k_CRread_part⟩ GRPt b_CRread_part ⟨a_CRread_end, i_CRread_end, k_CRread_end⟩ GRE b_CRread_end
  have GQI := ok_questInitX F_CQ__init__ TQ' TP ne_Q G_is_head G_is_tables G_is_integer GW m_whole_part k_whole_part b_whole_part
  have O_int : FVal l.prog w K mg base "is_integer" f_is_integer _ 1 ["value", "low", "high"] spIntO := ⟨ok_intO F_is_integer TVv, m_is_integer, k_is_integer, b_is_integer⟩
  have O_name : FVal l.prog w K mg base "is_name" f_is_name _ 1 ["value"] spNameO := ⟨ok_nameO F_is_name TVv, m_is_name, k_is_name, b_is_name⟩
  have O_unl : FVal l.prog w K mg base "are_unlike_names" f_are_unlike_names _ 2 ["values"] spUnlikeO := ⟨ok_unlikeO F_are_unlike_names TVv O_name G_is_name, m_are_unlike_names, k_are_unlike_names, b_are_unlike_names⟩
  have O_head : FVal l.prog w K mg base "is_head" f_is_head _ 3 ["value"] spHeadO := ⟨ok_headO F_is_head TVv O_unl, m_is_head, k_is_head, b_is_head⟩
  have O_tab : FVal l.prog w K mg base "is_table" f_is_table _ 2 ["value"] spTableO := ⟨ok_tableO F_is_table TVv O_int, m_is_table, k_is_table, b_is_table⟩
  have O_tabs : FVal l.prog w K mg base "is_tables" f_is_tables _ 3 ["value"] spTablesO := ⟨ok_tablesO F_is_tables TVv O_tab O_unl, m_is_tables, k_is_tables, b_is_tables⟩
  have O_whole := ok_wholeO (P := l.prog) (w := w) (base := base) F_whole_part TR TB GRI MR b_CR__init__ ⟨a_CRread_part, i_CRread_part, k_CRread_part⟩ GRPt b_CRread_part ⟨a_CRread_end, i_CRread_end, k_CRread_end⟩ GRE b_CRread_end
  have GIO := ok_questInitO F_CQ__init__ TQ' TP ne_Q TECH TECT TECC O_head O_tabs O_int O_whole m_whole_part k_whole_part b_whole_part
  have TWw : TW K mg CQ CP := ⟨TQ', TP, IC⟩
  have NI : NoInst K CQ := fun d => match d with
    | .none => qk_NoneType
    | .bool _ => qk_bool
    | .int _ => qk_int
    | .str _ => qk_str
    | .list _ => qk_list
    | .tuple _ => qk_tuple
    | .dict _ => qk_dict
  have O_chk := ok_checkO (P := l.prog) (w := w) (base := base) F_check_question TWw TECN NI
  have GWO := ok_widthO F_width TWw O_chk m_check_question k_check_question b_check_question
  have G_chk : FVal l.prog w K mg base "check_question" f_check_question _ 1 ["question"] (spCheckQ CQ) := ⟨ok_checkQ F_check_question TWw, m_check_question, k_check_question, b_check_question⟩
  have G_wid : FVal l.prog w K mg base "width" f_width _ 2 ["question"] (spWidth K CQ CP) := ⟨ok_width F_width TWw G_chk, m_width, k_width, b_width⟩
  have G__law_pot : FVal l.prog w K mg base "_law_pot" f__law_pot _ 1 ["script", "place"] (spPot K) := ⟨ok_pot F__law_pot TLl, m__law_pot, k__law_pot, b__law_pot⟩
  have G__law_take : FVal l.prog w K mg base "_law_take" f__law_take _ 1 ["pot", "upto"] spLTake := ⟨ok_ltake F__law_take TLl, m__law_take, k__law_take, b__law_take⟩
  have G__law_of : FVal l.prog w K mg base "_law_of" f__law_of _ 2 ["pot", "some"] (spOf K) := ⟨ok_of F__law_of TLl G__law_take, m__law_of, k__law_of, b__law_of⟩
  have G__law_odd : FVal l.prog w K mg base "_law_odd" f__law_odd _ 3 ["pot"] spOdd := ⟨ok_odd F__law_odd TLl G__law_of, m__law_odd, k__law_odd, b__law_odd⟩
  have G__law_word : FVal l.prog w K mg base "_law_word" f__law_word _ 1 ["error"] (spWord K CS [CH, CT, CC, CB, CN]) := ⟨ok_word F__law_word TLl (PySem.W.mg_of X G a_CH) (PySem.W.mg_of X G a_CT) (PySem.W.mg_of X G a_CC) (PySem.W.mg_of X G a_CB) (PySem.W.mg_of X G a_CN), m__law_word, k__law_word, b__law_word⟩
  have GRf := ok_refused F__law_is_refused TLl (ok_caughtTh (kt := 23) (P := l.prog) (w := w) (base := base) F__law_caught (PySem.W.mg_of X G a_CS)) m__law_caught k__law_caught b__law_caught G__law_word
  have hu := tabs_u (x := lamRi) (y := lamTr) (z := lamBo) apart1 apart2 apart3
  have GTo := ok_areTold F__law_are_told TLl TQ' G_wid GQI MQ b_CQ__init__
  have GTx := ok_texts (T := [(TbRi, lamRi), (TbTr, lamTr), (TbBo, lamBo)]) F__law_are_texts_refused TLl q_cdTr TBtr (by simp) hu.2.1 TQ' EX3 GRf m__law_is_refused k__law_is_refused b__law_is_refused GQI MQ b_CQ__init__
  have GBo := ok_bounds (T := [(TbRi, lamRi), (TbTr, lamTr), (TbBo, lamBo)]) F__law_are_bounds_right TLl m_range q_cdBo TBbo (by simp) hu.2.2 TQ' EX3 GRf m__law_is_refused k__law_is_refused b__law_is_refused GQI MQ b_CQ__init__
  have GR := ok_right (T := [(TbRi, lamRi), (TbTr, lamTr), (TbBo, lamBo)]) F__law_right q_cdRi TLl TBri (by simp) hu.1 TQ' G__law_odd GTo m__law_are_told k__law_are_told b__law_are_told GTx m__law_are_texts_refused k__law_are_texts_refused b__law_are_texts_refused GBo m__law_are_bounds_right k__law_are_bounds_right b__law_are_bounds_right GRf m__law_is_refused k__law_is_refused b__law_is_refused GIO MQ b_CQ__init__ GWO m_width k_width b_width G_wid.ok F_width F_CQ__init__ GQI EX0 EX1 EX2 EX3 EX4
  exact ok_law3 F_law GR m__law_right k__law_right b__law_right G__law_pot
theorem all_mk2 {l : PySem.W.OpenLaw} {w : World} {K : PySem.W.Frag} {h : Heap} {mg : Str → Option Value} {fa : Addr} (X : K.In h) (G : h.Ns mainGlobals mg) (hfa : mg "law" = some (.ref fa))
    {f_is_integer : Addr}
    {od_is_integer an_is_integer : Option Addr} {sl_is_integer : Array (Option Value)} {oc_is_integer kV_is_integer dc_is_integer pm_is_integer cd_is_integer ct_is_integer : Value}
    {f_is_name : Addr}
    {od_is_name an_is_name : Option Addr} {sl_is_name : Array (Option Value)} {oc_is_name kV_is_name dc_is_name pm_is_name cd_is_name ct_is_name : Value}
    {f_are_unlike_names : Addr}
    {od_are_unlike_names an_are_unlike_names : Option Addr} {sl_are_unlike_names : Array (Option Value)} {oc_are_unlike_names kV_are_unlike_names dc_are_unlike_names pm_are_unlike_names cd_are_unlike_names ct_are_unlike_names : Value}
    {f_is_head : Addr}
    {od_is_head an_is_head : Option Addr} {sl_is_head : Array (Option Value)} {oc_is_head kV_is_head dc_is_head pm_is_head cd_is_head ct_is_head : Value}
    {f_is_table : Addr}
    {od_is_table an_is_table : Option Addr} {sl_is_table : Array (Option Value)} {oc_is_table kV_is_table dc_is_table pm_is_table cd_is_table ct_is_table : Value}
    {f_is_tables : Addr}
    {od_is_tables an_is_tables : Option Addr} {sl_is_tables : Array (Option Value)} {oc_is_tables kV_is_tables dc_is_tables pm_is_tables cd_is_tables ct_is_tables : Value}
    {f_free_names : Addr}
    {od_free_names an_free_names : Option Addr} {sl_free_names : Array (Option Value)} {oc_free_names kV_free_names dc_free_names pm_free_names cd_free_names ct_free_names : Value}
    {f_whole_part : Addr}
    {od_whole_part an_whole_part : Option Addr} {sl_whole_part : Array (Option Value)} {oc_whole_part kV_whole_part dc_whole_part pm_whole_part cd_whole_part ct_whole_part : Value}
    {f_check_question : Addr}
    {od_check_question an_check_question : Option Addr} {sl_check_question : Array (Option Value)} {oc_check_question kV_check_question dc_check_question pm_check_question cd_check_question ct_check_question : Value}
    {f_width : Addr}
    {od_width an_width : Option Addr} {sl_width : Array (Option Value)} {oc_width kV_width dc_width pm_width cd_width ct_width : Value}
    {f__law_pot : Addr}
    {od__law_pot an__law_pot : Option Addr} {sl__law_pot : Array (Option Value)} {oc__law_pot kV__law_pot dc__law_pot pm__law_pot cd__law_pot ct__law_pot : Value}
    {f__law_take : Addr}
    {od__law_take an__law_take : Option Addr} {sl__law_take : Array (Option Value)} {oc__law_take kV__law_take dc__law_take pm__law_take cd__law_take ct__law_take : Value}
    {f__law_of : Addr}
    {od__law_of an__law_of : Option Addr} {sl__law_of : Array (Option Value)} {oc__law_of kV__law_of dc__law_of pm__law_of cd__law_of ct__law_of : Value}
    {f__law_odd : Addr}
    {od__law_odd an__law_odd : Option Addr} {sl__law_odd : Array (Option Value)} {oc__law_odd kV__law_odd dc__law_odd pm__law_odd cd__law_odd ct__law_odd : Value}
    {f__law_caught : Addr}
    {od__law_caught an__law_caught : Option Addr} {sl__law_caught : Array (Option Value)} {oc__law_caught kV__law_caught dc__law_caught pm__law_caught cd__law_caught ct__law_caught : Value}
    {f__law_word : Addr}
    {od__law_word an__law_word : Option Addr} {sl__law_word : Array (Option Value)} {oc__law_word kV__law_word dc__law_word pm__law_word cd__law_word ct__law_word : Value}
    {f__law_is_refused : Addr}
    {od__law_is_refused an__law_is_refused : Option Addr} {sl__law_is_refused : Array (Option Value)} {oc__law_is_refused kV__law_is_refused dc__law_is_refused pm__law_is_refused cd__law_is_refused ct__law_is_refused : Value}
    {f__law_are_told : Addr}
    {od__law_are_told an__law_are_told : Option Addr} {sl__law_are_told : Array (Option Value)} {oc__law_are_told kV__law_are_told dc__law_are_told pm__law_are_told cd__law_are_told ct__law_are_told : Value}
    {f__law_are_texts_refused : Addr}
    {od__law_are_texts_refused an__law_are_texts_refused : Option Addr} {sl__law_are_texts_refused : Array (Option Value)} {oc__law_are_texts_refused kV__law_are_texts_refused dc__law_are_texts_refused pm__law_are_texts_refused cd__law_are_texts_refused ct__law_are_texts_refused : Value}
    {f__law_are_bounds_right : Addr}
    {od__law_are_bounds_right an__law_are_bounds_right : Option Addr} {sl__law_are_bounds_right : Array (Option Value)} {oc__law_are_bounds_right kV__law_are_bounds_right dc__law_are_bounds_right pm__law_are_bounds_right cd__law_are_bounds_right ct__law_are_bounds_right : Value}
    {f__law_right : Addr}
    {od__law_right an__law_right : Option Addr} {sl__law_right : Array (Option Value)} {oc__law_right kV__law_right dc__law_right pm__law_right cd__law_right ct__law_right : Value}
    {f_law : Addr}
    {od_law an_law : Option Addr} {sl_law : Array (Option Value)} {oc_law kV_law dc_law pm_law cd_law ct_law : Value}
    {CP : Addr}
    {CR : Addr}
    {CQ : Addr}
    {f_CP__init__ : Addr}
    {od_CP__init__ an_CP__init__ : Option Addr} {sl_CP__init__ : Array (Option Value)} {oc_CP__init__ kV_CP__init__ dc_CP__init__ pm_CP__init__ cd_CP__init__ ct_CP__init__ : Value}
    {f_CR__init__ : Addr}
    {od_CR__init__ an_CR__init__ : Option Addr} {sl_CR__init__ : Array (Option Value)} {oc_CR__init__ kV_CR__init__ dc_CR__init__ pm_CR__init__ cd_CR__init__ ct_CR__init__ : Value}
    {f_CRnext_word : Addr}
    {od_CRnext_word an_CRnext_word : Option Addr} {sl_CRnext_word : Array (Option Value)} {oc_CRnext_word kV_CRnext_word dc_CRnext_word pm_CRnext_word cd_CRnext_word ct_CRnext_word : Value}
    {f_CRtake : Addr}
    {od_CRtake an_CRtake : Option Addr} {sl_CRtake : Array (Option Value)} {oc_CRtake kV_CRtake dc_CRtake pm_CRtake cd_CRtake ct_CRtake : Value}
    {f_CRread_place : Addr}
    {od_CRread_place an_CRread_place : Option Addr} {sl_CRread_place : Array (Option Value)} {oc_CRread_place kV_CRread_place dc_CRread_place pm_CRread_place cd_CRread_place ct_CRread_place : Value}
    {f_CRread_bound : Addr}
    {od_CRread_bound an_CRread_bound : Option Addr} {sl_CRread_bound : Array (Option Value)} {oc_CRread_bound kV_CRread_bound dc_CRread_bound pm_CRread_bound cd_CRread_bound ct_CRread_bound : Value}
    {f_CRread_part : Addr}
    {od_CRread_part an_CRread_part : Option Addr} {sl_CRread_part : Array (Option Value)} {oc_CRread_part kV_CRread_part dc_CRread_part pm_CRread_part cd_CRread_part ct_CRread_part : Value}
    {f_CRread_end : Addr}
    {od_CRread_end an_CRread_end : Option Addr} {sl_CRread_end : Array (Option Value)} {oc_CRread_end kV_CRread_end dc_CRread_end pm_CRread_end cd_CRread_end ct_CRread_end : Value}
    {f_CQ__init__ : Addr}
    {od_CQ__init__ an_CQ__init__ : Option Addr} {sl_CQ__init__ : Array (Option Value)} {oc_CQ__init__ kV_CQ__init__ dc_CQ__init__ pm_CQ__init__ cd_CQ__init__ ct_CQ__init__ : Value}
    {CS f_Err : Addr}
    {CH : Addr}
    {CT : Addr}
    {CC : Addr}
    {CB : Addr}
    {CN : Addr}
    {oCH : Obj}
    {oCT : Obj}
    {oCC : Obj}
    {oCB : Obj}
    {oCN : Obj}
    {od_Err an_Err : Option Addr} {sl_Err : Array (Option Value)} {oc_Err kV_Err dc_Err pm_Err cd_Err ct_Err : Value}
    {t_LETTERS t_FIGURES t_MOST_SIGNS t_MOST_IN_ROW t_MOST_WORDS t_MOST_DEEP : Tok}
    {N_NO_NAMES : Addr} {o_NO_NAMES : Obj}
    {N_CHANGED_NAMES : Addr} {o_CHANGED_NAMES : Obj}
    {S : Addr} {oS : Obj} {nS : Nat} {ts0 ts1 ts2 ts3 ts4 ts5 ts6 ts7 ts8 ts9 : Tok} {rs0 rs1 rs2 rs3 rs4 rs5 rs6 rs7 rs8 rs9 : Addr}
    {oT0 : Obj} {tT0 uT0 vT0 : Tok} {nT0 : Nat} {dT0 : Option Addr} {slT0 : Array (Option Value)}
    {oT1 : Obj} {tT1 uT1 vT1 : Tok} {nT1 : Nat} {dT1 : Option Addr} {slT1 : Array (Option Value)}
    {oT2 : Obj} {tT2 uT2 vT2 : Tok} {nT2 : Nat} {dT2 : Option Addr} {slT2 : Array (Option Value)}
    {oT3 : Obj} {tT3 uT3 vT3 : Tok} {nT3 : Nat} {dT3 : Option Addr} {slT3 : Array (Option Value)}
    {oT4 : Obj} {tT4 uT4 vT4 : Tok} {nT4 : Nat} {dT4 : Option Addr} {slT4 : Array (Option Value)}
    {oT5 : Obj} {tT5 uT5 vT5 : Tok} {nT5 : Nat} {dT5 : Option Addr} {slT5 : Array (Option Value)}
    {oT6 : Obj} {tT6 uT6 vT6 : Tok} {nT6 : Nat} {dT6 : Option Addr} {slT6 : Array (Option Value)}
    {oT7 : Obj} {tT7 uT7 vT7 : Tok} {nT7 : Nat} {dT7 : Option Addr} {slT7 : Array (Option Value)}
    {oT8 : Obj} {tT8 uT8 vT8 : Tok} {nT8 : Nat} {dT8 : Option Addr} {slT8 : Array (Option Value)}
    {oT9 : Obj} {tT9 uT9 vT9 : Tok} {nT9 : Nat} {dT9 : Option Addr} {slT9 : Array (Option Value)}
    {cRi : Addr}
    {cTr : Addr}
    {cBo : Addr}
    {oJRi : Obj} {usJRi : Array Value} {TbRi : Addr}
    {oJTr : Obj} {usJTr : Array Value} {TbTr : Addr}
    {oJBo : Obj} {usJBo : Array Value} {TbBo : Addr}
    (a_is_integer : PySem.W.nsIn K mainGlobals "is_integer" = some (some (.ref f_is_integer)))
    (l_is_integer : K.lookup f_is_integer = some ⟨oc_is_integer, od_is_integer, .func (PySem.W.fnOf "is_integer" "is_integer" (defArgs sIsInteger) (defBody sIsInteger) (defScope sIsInteger) .none kV_is_integer dc_is_integer pm_is_integer an_is_integer cd_is_integer ct_is_integer), sl_is_integer⟩)
    (a_is_name : PySem.W.nsIn K mainGlobals "is_name" = some (some (.ref f_is_name)))
    (l_is_name : K.lookup f_is_name = some ⟨oc_is_name, od_is_name, .func (PySem.W.fnOf "is_name" "is_name" (defArgs sIsName) (defBody sIsName) (defScope sIsName) .none kV_is_name dc_is_name pm_is_name an_is_name cd_is_name ct_is_name), sl_is_name⟩)
    (a_are_unlike_names : PySem.W.nsIn K mainGlobals "are_unlike_names" = some (some (.ref f_are_unlike_names)))
    (l_are_unlike_names : K.lookup f_are_unlike_names = some ⟨oc_are_unlike_names, od_are_unlike_names, .func (PySem.W.fnOf "are_unlike_names" "are_unlike_names" (defArgs sAreUnlikeNames) (defBody sAreUnlikeNames) (defScope sAreUnlikeNames) .none kV_are_unlike_names dc_are_unlike_names pm_are_unlike_names an_are_unlike_names cd_are_unlike_names ct_are_unlike_names), sl_are_unlike_names⟩)
    (a_is_head : PySem.W.nsIn K mainGlobals "is_head" = some (some (.ref f_is_head)))
    (l_is_head : K.lookup f_is_head = some ⟨oc_is_head, od_is_head, .func (PySem.W.fnOf "is_head" "is_head" (defArgs sIsHead) (defBody sIsHead) (defScope sIsHead) .none kV_is_head dc_is_head pm_is_head an_is_head cd_is_head ct_is_head), sl_is_head⟩)
    (a_is_table : PySem.W.nsIn K mainGlobals "is_table" = some (some (.ref f_is_table)))
    (l_is_table : K.lookup f_is_table = some ⟨oc_is_table, od_is_table, .func (PySem.W.fnOf "is_table" "is_table" (defArgs sIsTable) (defBody sIsTable) (defScope sIsTable) .none kV_is_table dc_is_table pm_is_table an_is_table cd_is_table ct_is_table), sl_is_table⟩)
    (a_is_tables : PySem.W.nsIn K mainGlobals "is_tables" = some (some (.ref f_is_tables)))
    (l_is_tables : K.lookup f_is_tables = some ⟨oc_is_tables, od_is_tables, .func (PySem.W.fnOf "is_tables" "is_tables" (defArgs sIsTables) (defBody sIsTables) (defScope sIsTables) .none kV_is_tables dc_is_tables pm_is_tables an_is_tables cd_is_tables ct_is_tables), sl_is_tables⟩)
    (a_free_names : PySem.W.nsIn K mainGlobals "free_names" = some (some (.ref f_free_names)))
    (l_free_names : K.lookup f_free_names = some ⟨oc_free_names, od_free_names, .func (PySem.W.fnOf "free_names" "free_names" (defArgs sFreeNames) (defBody sFreeNames) (defScope sFreeNames) .none kV_free_names dc_free_names pm_free_names an_free_names cd_free_names ct_free_names), sl_free_names⟩)
    (a_whole_part : PySem.W.nsIn K mainGlobals "whole_part" = some (some (.ref f_whole_part)))
    (l_whole_part : K.lookup f_whole_part = some ⟨oc_whole_part, od_whole_part, .func (PySem.W.fnOf "whole_part" "whole_part" (defArgs sWholePart) (defBody sWholePart) (defScope sWholePart) .none kV_whole_part dc_whole_part pm_whole_part an_whole_part cd_whole_part ct_whole_part), sl_whole_part⟩)
    (a_check_question : PySem.W.nsIn K mainGlobals "check_question" = some (some (.ref f_check_question)))
    (l_check_question : K.lookup f_check_question = some ⟨oc_check_question, od_check_question, .func (PySem.W.fnOf "check_question" "check_question" (defArgs sCheckQuestion) (defBody sCheckQuestion) (defScope sCheckQuestion) .none kV_check_question dc_check_question pm_check_question an_check_question cd_check_question ct_check_question), sl_check_question⟩)
    (a_width : PySem.W.nsIn K mainGlobals "width" = some (some (.ref f_width)))
    (l_width : K.lookup f_width = some ⟨oc_width, od_width, .func (PySem.W.fnOf "width" "width" (defArgs sWidth) (defBody sWidth) (defScope sWidth) .none kV_width dc_width pm_width an_width cd_width ct_width), sl_width⟩)
    (a__law_pot : PySem.W.nsIn K mainGlobals "_law_pot" = some (some (.ref f__law_pot)))
    (l__law_pot : K.lookup f__law_pot = some ⟨oc__law_pot, od__law_pot, .func (PySem.W.fnOf "_law_pot" "_law_pot" (defArgs sLawPot) (defBody sLawPot) (defScope sLawPot) .none kV__law_pot dc__law_pot pm__law_pot an__law_pot cd__law_pot ct__law_pot), sl__law_pot⟩)
    (a__law_take : PySem.W.nsIn K mainGlobals "_law_take" = some (some (.ref f__law_take)))
    (l__law_take : K.lookup f__law_take = some ⟨oc__law_take, od__law_take, .func (PySem.W.fnOf "_law_take" "_law_take" (defArgs sLawTake) (defBody sLawTake) (defScope sLawTake) .none kV__law_take dc__law_take pm__law_take an__law_take cd__law_take ct__law_take), sl__law_take⟩)
    (a__law_of : PySem.W.nsIn K mainGlobals "_law_of" = some (some (.ref f__law_of)))
    (l__law_of : K.lookup f__law_of = some ⟨oc__law_of, od__law_of, .func (PySem.W.fnOf "_law_of" "_law_of" (defArgs sLawOf) (defBody sLawOf) (defScope sLawOf) .none kV__law_of dc__law_of pm__law_of an__law_of cd__law_of ct__law_of), sl__law_of⟩)
    (a__law_odd : PySem.W.nsIn K mainGlobals "_law_odd" = some (some (.ref f__law_odd)))
    (l__law_odd : K.lookup f__law_odd = some ⟨oc__law_odd, od__law_odd, .func (PySem.W.fnOf "_law_odd" "_law_odd" (defArgs sLawOdd) (defBody sLawOdd) (defScope sLawOdd) .none kV__law_odd dc__law_odd pm__law_odd an__law_odd cd__law_odd ct__law_odd), sl__law_odd⟩)
    (a__law_caught : PySem.W.nsIn K mainGlobals "_law_caught" = some (some (.ref f__law_caught)))
    (l__law_caught : K.lookup f__law_caught = some ⟨oc__law_caught, od__law_caught, .func (PySem.W.fnOf "_law_caught" "_law_caught" (defArgs sLawCaught) (defBody sLawCaught) (defScope sLawCaught) .none kV__law_caught dc__law_caught pm__law_caught an__law_caught cd__law_caught ct__law_caught), sl__law_caught⟩)
    (a__law_word : PySem.W.nsIn K mainGlobals "_law_word" = some (some (.ref f__law_word)))
    (l__law_word : K.lookup f__law_word = some ⟨oc__law_word, od__law_word, .func (PySem.W.fnOf "_law_word" "_law_word" (defArgs sLawWord) (defBody sLawWord) (defScope sLawWord) .none kV__law_word dc__law_word pm__law_word an__law_word cd__law_word ct__law_word), sl__law_word⟩)
    (a__law_is_refused : PySem.W.nsIn K mainGlobals "_law_is_refused" = some (some (.ref f__law_is_refused)))
    (l__law_is_refused : K.lookup f__law_is_refused = some ⟨oc__law_is_refused, od__law_is_refused, .func (PySem.W.fnOf "_law_is_refused" "_law_is_refused" (defArgs sLawIsRefused) (defBody sLawIsRefused) (defScope sLawIsRefused) .none kV__law_is_refused dc__law_is_refused pm__law_is_refused an__law_is_refused cd__law_is_refused ct__law_is_refused), sl__law_is_refused⟩)
    (a__law_are_told : PySem.W.nsIn K mainGlobals "_law_are_told" = some (some (.ref f__law_are_told)))
    (l__law_are_told : K.lookup f__law_are_told = some ⟨oc__law_are_told, od__law_are_told, .func (PySem.W.fnOf "_law_are_told" "_law_are_told" (defArgs sLawAreTold) (defBody sLawAreTold) (defScope sLawAreTold) .none kV__law_are_told dc__law_are_told pm__law_are_told an__law_are_told cd__law_are_told ct__law_are_told), sl__law_are_told⟩)
    (a__law_are_texts_refused : PySem.W.nsIn K mainGlobals "_law_are_texts_refused" = some (some (.ref f__law_are_texts_refused)))
    (l__law_are_texts_refused : K.lookup f__law_are_texts_refused = some ⟨oc__law_are_texts_refused, od__law_are_texts_refused, .func (PySem.W.fnOf "_law_are_texts_refused" "_law_are_texts_refused" (defArgs sLawAreTextsRefused) (defBody sLawAreTextsRefused) (defScope sLawAreTextsRefused) .none kV__law_are_texts_refused dc__law_are_texts_refused pm__law_are_texts_refused an__law_are_texts_refused cd__law_are_texts_refused ct__law_are_texts_refused), sl__law_are_texts_refused⟩)
    (a__law_are_bounds_right : PySem.W.nsIn K mainGlobals "_law_are_bounds_right" = some (some (.ref f__law_are_bounds_right)))
    (l__law_are_bounds_right : K.lookup f__law_are_bounds_right = some ⟨oc__law_are_bounds_right, od__law_are_bounds_right, .func (PySem.W.fnOf "_law_are_bounds_right" "_law_are_bounds_right" (defArgs sLawAreBoundsRight) (defBody sLawAreBoundsRight) (defScope sLawAreBoundsRight) .none kV__law_are_bounds_right dc__law_are_bounds_right pm__law_are_bounds_right an__law_are_bounds_right cd__law_are_bounds_right ct__law_are_bounds_right), sl__law_are_bounds_right⟩)
    (a__law_right : PySem.W.nsIn K mainGlobals "_law_right" = some (some (.ref f__law_right)))
    (l__law_right : K.lookup f__law_right = some ⟨oc__law_right, od__law_right, .func (PySem.W.fnOf "_law_right" "_law_right" (defArgs sLawRight) (defBody sLawRight) (defScope sLawRight) .none kV__law_right dc__law_right pm__law_right an__law_right cd__law_right ct__law_right), sl__law_right⟩)
    (a_law : PySem.W.nsIn K mainGlobals "law" = some (some (.ref f_law)))
    (l_law : K.lookup f_law = some ⟨oc_law, od_law, .func (PySem.W.fnOf "law" "law" (defArgs sLaw) (defBody sLaw) (defScope sLaw) .none kV_law dc_law pm_law an_law cd_law ct_law), sl_law⟩)
    (a_CP : PySem.W.nsIn K mainGlobals "Part" = some (some (.ref CP)))
    (a_CR : PySem.W.nsIn K mainGlobals "Reader" = some (some (.ref CR)))
    (a_CQ : PySem.W.nsIn K mainGlobals "Question" = some (some (.ref CQ)))
    (a_CP__init__ : PySem.W.findIn K (.ref CP) "__init__" = some (some (.ref f_CP__init__)))
    (l_CP__init__ : K.lookup f_CP__init__ = some ⟨oc_CP__init__, od_CP__init__, .func (PySem.W.fnOf "__init__" "Part.__init__" (defArgs sPart_Init) (defBody sPart_Init) (defScope sPart_Init) .none kV_CP__init__ dc_CP__init__ pm_CP__init__ an_CP__init__ cd_CP__init__ ct_CP__init__), sl_CP__init__⟩)
    (a_CR__init__ : PySem.W.findIn K (.ref CR) "__init__" = some (some (.ref f_CR__init__)))
    (l_CR__init__ : K.lookup f_CR__init__ = some ⟨oc_CR__init__, od_CR__init__, .func (PySem.W.fnOf "__init__" "Reader.__init__" (defArgs sReader_Init) (defBody sReader_Init) (defScope sReader_Init) .none kV_CR__init__ dc_CR__init__ pm_CR__init__ an_CR__init__ cd_CR__init__ ct_CR__init__), sl_CR__init__⟩)
    (a_CRnext_word : PySem.W.findIn K (.ref CR) "next_word" = some (some (.ref f_CRnext_word)))
    (l_CRnext_word : K.lookup f_CRnext_word = some ⟨oc_CRnext_word, od_CRnext_word, .func (PySem.W.fnOf "next_word" "Reader.next_word" (defArgs sReader_NextWord) (defBody sReader_NextWord) (defScope sReader_NextWord) .none kV_CRnext_word dc_CRnext_word pm_CRnext_word an_CRnext_word cd_CRnext_word ct_CRnext_word), sl_CRnext_word⟩)
    (a_CRtake : PySem.W.findIn K (.ref CR) "take" = some (some (.ref f_CRtake)))
    (l_CRtake : K.lookup f_CRtake = some ⟨oc_CRtake, od_CRtake, .func (PySem.W.fnOf "take" "Reader.take" (defArgs sReader_Take) (defBody sReader_Take) (defScope sReader_Take) .none kV_CRtake dc_CRtake pm_CRtake an_CRtake cd_CRtake ct_CRtake), sl_CRtake⟩)
    (a_CRread_place : PySem.W.findIn K (.ref CR) "read_place" = some (some (.ref f_CRread_place)))
    (l_CRread_place : K.lookup f_CRread_place = some ⟨oc_CRread_place, od_CRread_place, .func (PySem.W.fnOf "read_place" "Reader.read_place" (defArgs sReader_ReadPlace) (defBody sReader_ReadPlace) (defScope sReader_ReadPlace) .none kV_CRread_place dc_CRread_place pm_CRread_place an_CRread_place cd_CRread_place ct_CRread_place), sl_CRread_place⟩)
    (a_CRread_bound : PySem.W.findIn K (.ref CR) "read_bound" = some (some (.ref f_CRread_bound)))
    (l_CRread_bound : K.lookup f_CRread_bound = some ⟨oc_CRread_bound, od_CRread_bound, .func (PySem.W.fnOf "read_bound" "Reader.read_bound" (defArgs sReader_ReadBound) (defBody sReader_ReadBound) (defScope sReader_ReadBound) .none kV_CRread_bound dc_CRread_bound pm_CRread_bound an_CRread_bound cd_CRread_bound ct_CRread_bound), sl_CRread_bound⟩)
    (a_CRread_part : PySem.W.findIn K (.ref CR) "read_part" = some (some (.ref f_CRread_part)))
    (l_CRread_part : K.lookup f_CRread_part = some ⟨oc_CRread_part, od_CRread_part, .func (PySem.W.fnOf "read_part" "Reader.read_part" (defArgs sReader_ReadPart) (defBody sReader_ReadPart) (defScope sReader_ReadPart) .none kV_CRread_part dc_CRread_part pm_CRread_part an_CRread_part cd_CRread_part ct_CRread_part), sl_CRread_part⟩)
    (a_CRread_end : PySem.W.findIn K (.ref CR) "read_end" = some (some (.ref f_CRread_end)))
    (l_CRread_end : K.lookup f_CRread_end = some ⟨oc_CRread_end, od_CRread_end, .func (PySem.W.fnOf "read_end" "Reader.read_end" (defArgs sReader_ReadEnd) (defBody sReader_ReadEnd) (defScope sReader_ReadEnd) .none kV_CRread_end dc_CRread_end pm_CRread_end an_CRread_end cd_CRread_end ct_CRread_end), sl_CRread_end⟩)
    (a_CQ__init__ : PySem.W.findIn K (.ref CQ) "__init__" = some (some (.ref f_CQ__init__)))
    (l_CQ__init__ : K.lookup f_CQ__init__ = some ⟨oc_CQ__init__, od_CQ__init__, .func (PySem.W.fnOf "__init__" "Question.__init__" (defArgs sQuestion_Init) (defBody sQuestion_Init) (defScope sQuestion_Init) .none kV_CQ__init__ dc_CQ__init__ pm_CQ__init__ an_CQ__init__ cd_CQ__init__ ct_CQ__init__), sl_CQ__init__⟩)
    (a_CS : PySem.W.nsIn K mainGlobals "LoopError" = some (some (.ref CS)))
    (a_CH : PySem.W.nsIn K mainGlobals "BadHead" = some (some (.ref CH)))
    (a_CT : PySem.W.nsIn K mainGlobals "BadTables" = some (some (.ref CT)))
    (a_CC : PySem.W.nsIn K mainGlobals "BadChanged" = some (some (.ref CC)))
    (a_CB : PySem.W.nsIn K mainGlobals "BadQuestion" = some (some (.ref CB)))
    (a_CN : PySem.W.nsIn K mainGlobals "NoQuestion" = some (some (.ref CN)))
    (eCH_in : PySem.W.findIn K (.ref CH) "__init__" = some (some (.ref f_Err)))
    (l_CH : K.lookup CH = some oCH)
    (eCH_cls : ∃ nm q N bs bm sn sub ab col dd k0 k1 k2 k3 k5, oCH = excClassObj nm q CH N bs bm true sn sub ab col dd k0 k1 k2 k3 k5 "ValueError.__new__" ∧ PySem.HandSPX.refsVE bm = true)
    (l_CT : K.lookup CT = some oCT)
    (eCT_cls : ∃ nm q N bs bm sn sub ab col dd k0 k1 k2 k3 k5, oCT = excClassObj nm q CT N bs bm true sn sub ab col dd k0 k1 k2 k3 k5 "ValueError.__new__" ∧ PySem.HandSPX.refsVE bm = true)
    (l_CC : K.lookup CC = some oCC)
    (eCC_cls : ∃ nm q N bs bm sn sub ab col dd k0 k1 k2 k3 k5, oCC = excClassObj nm q CC N bs bm true sn sub ab col dd k0 k1 k2 k3 k5 "ValueError.__new__" ∧ PySem.HandSPX.refsVE bm = true)
    (l_CB : K.lookup CB = some oCB)
    (eCB_cls : ∃ nm q N bs bm sn sub ab col dd k0 k1 k2 k3 k5, oCB = excClassObj nm q CB N bs bm true sn sub ab col dd k0 k1 k2 k3 k5 "ValueError.__new__" ∧ PySem.HandSPX.refsVE bm = true)
    (l_CN : K.lookup CN = some oCN)
    (eCN_cls : ∃ nm q N bs bm sn sub ab col dd k0 k1 k2 k3 k5, oCN = excClassObj nm q CN N bs bm true sn sub ab col dd k0 k1 k2 k3 k5 "ValueError.__new__" ∧ PySem.HandSPX.refsVE bm = true)
    (l_Err : K.lookup f_Err = some ⟨oc_Err, od_Err, .func (PySem.W.fnOf "__init__" "LoopError.__init__" (defArgs sLoopError_Init) (defBody sLoopError_Init) (defScope sLoopError_Init) .none kV_Err dc_Err pm_Err an_Err cd_Err ct_Err), sl_Err⟩)
    (a_LETTERS : PySem.W.nsIn K mainGlobals "LETTERS" = some (some (.str lettersS t_LETTERS)))
    (a_FIGURES : PySem.W.nsIn K mainGlobals "FIGURES" = some (some (.str figuresS t_FIGURES)))
    (a_MOST_SIGNS : PySem.W.nsIn K mainGlobals "MOST_SIGNS" = some (some (.int 6 t_MOST_SIGNS)))
    (a_MOST_IN_ROW : PySem.W.nsIn K mainGlobals "MOST_IN_ROW" = some (some (.int 3 t_MOST_IN_ROW)))
    (a_MOST_WORDS : PySem.W.nsIn K mainGlobals "MOST_WORDS" = some (some (.int 100 t_MOST_WORDS)))
    (a_MOST_DEEP : PySem.W.nsIn K mainGlobals "MOST_DEEP" = some (some (.int 14 t_MOST_DEEP)))
    (a_NO_NAMES : PySem.W.nsIn K mainGlobals "NO_NAMES" = some (some (.ref N_NO_NAMES)))
    (l_NO_NAMES : K.lookup N_NO_NAMES = some o_NO_NAMES)
    (q_NO_NAMES : TupObj o_NO_NAMES (noNames.map V.str))
    (a_CHANGED_NAMES : PySem.W.nsIn K mainGlobals "CHANGED_NAMES" = some (some (.ref N_CHANGED_NAMES)))
    (l_CHANGED_NAMES : K.lookup N_CHANGED_NAMES = some o_CHANGED_NAMES)
    (q_CHANGED_NAMES : TupObj o_CHANGED_NAMES (changedS.map V.str))
    (a_SHAPES : PySem.W.nsIn K mainGlobals "SHAPES" = some (some (.ref S)))
    (l_SHAPES : K.lookup S = some oS)
    (q_SHAPES : oS = { cls := .type "dict", data := .dict (ents w baseShapes [(ts0, rs0), (ts1, rs1), (ts2, rs2), (ts3, rs3), (ts4, rs4), (ts5, rs5), (ts6, rs6), (ts7, rs7), (ts8, rs8), (ts9, rs9)]).toArray nS })
    (e_SHAPES : (S == sysModules) = false)
    (l_T0 : K.lookup rs0 = some oT0)
    (q_T0 : oT0 = ⟨.type "tuple", dT0, .seq #[.int 0 tT0, .int 0 uT0, .int 0 vT0] nT0, slT0⟩)
    (l_T1 : K.lookup rs1 = some oT1)
    (q_T1 : oT1 = ⟨.type "tuple", dT1, .seq #[.int 0 tT1, .int 0 uT1, .int 0 vT1] nT1, slT1⟩)
    (l_T2 : K.lookup rs2 = some oT2)
    (q_T2 : oT2 = ⟨.type "tuple", dT2, .seq #[.int 2 tT2, .int 0 uT2, .int 0 vT2] nT2, slT2⟩)
    (l_T3 : K.lookup rs3 = some oT3)
    (q_T3 : oT3 = ⟨.type "tuple", dT3, .seq #[.int 2 tT3, .int 0 uT3, .int 0 vT3] nT3, slT3⟩)
    (l_T4 : K.lookup rs4 = some oT4)
    (q_T4 : oT4 = ⟨.type "tuple", dT4, .seq #[.int 0 tT4, .int 0 uT4, .int 1 vT4] nT4, slT4⟩)
    (l_T5 : K.lookup rs5 = some oT5)
    (q_T5 : oT5 = ⟨.type "tuple", dT5, .seq #[.int 0 tT5, .int 0 uT5, .int 2 vT5] nT5, slT5⟩)
    (l_T6 : K.lookup rs6 = some oT6)
    (q_T6 : oT6 = ⟨.type "tuple", dT6, .seq #[.int 0 tT6, .int 0 uT6, .int 2 vT6] nT6, slT6⟩)
    (l_T7 : K.lookup rs7 = some oT7)
    (q_T7 : oT7 = ⟨.type "tuple", dT7, .seq #[.int 0 tT7, .int 1 uT7, .int 1 vT7] nT7, slT7⟩)
    (l_T8 : K.lookup rs8 = some oT8)
    (q_T8 : oT8 = ⟨.type "tuple", dT8, .seq #[.int 0 tT8, .int 1 uT8, .int 1 vT8] nT8, slT8⟩)
    (l_T9 : K.lookup rs9 = some oT9)
    (q_T9 : oT9 = ⟨.type "tuple", dT9, .seq #[.int 2 tT9, .int 2 uT9, .int 1 vT9] nT9, slT9⟩)
    (ne_R : CR ≠ CP)
    (ne_Q : CQ ≠ CP)
    (q_cdRi : cd__law_right = .ref cRi)
    (q_cdTr : cd__law_are_texts_refused = .ref cTr)
    (q_cdBo : cd__law_are_bounds_right = .ref cBo)
    (l_JRi : K.lookup cRi = some oJRi)
    (d_JRi : oJRi.data = .fields usJRi)
    (t_JRi : usJRi[11]? = some (.ref TbRi))
    (h_JRi : PySem.W.codeHdIn K cRi TbRi = true)
    (l_TbRi : K.lookup TbRi = some noTab)
    (l_JTr : K.lookup cTr = some oJTr)
    (d_JTr : oJTr.data = .fields usJTr)
    (t_JTr : usJTr[11]? = some (.ref TbTr))
    (h_JTr : PySem.W.codeHdIn K cTr TbTr = true)
    (l_TbTr : K.lookup TbTr = some noTab)
    (l_JBo : K.lookup cBo = some oJBo)
    (d_JBo : oJBo.data = .fields usJBo)
    (t_JBo : usJBo[11]? = some (.ref TbBo))
    (h_JBo : PySem.W.codeHdIn K cBo TbBo = true)
    (l_TbBo : K.lookup TbBo = some noTab)
    (apart1 : TbRi ≠ TbTr)
    (apart2 : TbRi ≠ TbBo)
    (apart3 : TbTr ≠ TbBo)
    (dl_is_integer : [TbRi, TbTr, TbBo].contains f_is_integer = false)
    (dl_is_name : [TbRi, TbTr, TbBo].contains f_is_name = false)
    (dl_are_unlike_names : [TbRi, TbTr, TbBo].contains f_are_unlike_names = false)
    (dl_is_head : [TbRi, TbTr, TbBo].contains f_is_head = false)
    (dl_is_table : [TbRi, TbTr, TbBo].contains f_is_table = false)
    (dl_is_tables : [TbRi, TbTr, TbBo].contains f_is_tables = false)
    (dl_free_names : [TbRi, TbTr, TbBo].contains f_free_names = false)
    (dl_whole_part : [TbRi, TbTr, TbBo].contains f_whole_part = false)
    (dl_check_question : [TbRi, TbTr, TbBo].contains f_check_question = false)
    (dl_width : [TbRi, TbTr, TbBo].contains f_width = false)
    (dl__law_pot : [TbRi, TbTr, TbBo].contains f__law_pot = false)
    (dl__law_take : [TbRi, TbTr, TbBo].contains f__law_take = false)
    (dl__law_of : [TbRi, TbTr, TbBo].contains f__law_of = false)
    (dl__law_odd : [TbRi, TbTr, TbBo].contains f__law_odd = false)
    (dl__law_caught : [TbRi, TbTr, TbBo].contains f__law_caught = false)
    (dl__law_word : [TbRi, TbTr, TbBo].contains f__law_word = false)
    (dl__law_is_refused : [TbRi, TbTr, TbBo].contains f__law_is_refused = false)
    (dl__law_are_told : [TbRi, TbTr, TbBo].contains f__law_are_told = false)
    (dl__law_are_texts_refused : [TbRi, TbTr, TbBo].contains f__law_are_texts_refused = false)
    (dl__law_are_bounds_right : [TbRi, TbTr, TbBo].contains f__law_are_bounds_right = false)
    (dl__law_right : [TbRi, TbTr, TbBo].contains f__law_right = false)
    (dl_law : [TbRi, TbTr, TbBo].contains f_law = false)
    (dl_CP__init__ : [TbRi, TbTr, TbBo].contains f_CP__init__ = false)
    (dl_CR__init__ : [TbRi, TbTr, TbBo].contains f_CR__init__ = false)
    (dl_CRnext_word : [TbRi, TbTr, TbBo].contains f_CRnext_word = false)
    (dl_CRtake : [TbRi, TbTr, TbBo].contains f_CRtake = false)
    (dl_CRread_place : [TbRi, TbTr, TbBo].contains f_CRread_place = false)
    (dl_CRread_bound : [TbRi, TbTr, TbBo].contains f_CRread_bound = false)
    (dl_CRread_part : [TbRi, TbTr, TbBo].contains f_CRread_part = false)
    (dl_CRread_end : [TbRi, TbTr, TbBo].contains f_CRread_end = false)
    (dl_CQ__init__ : [TbRi, TbTr, TbBo].contains f_CQ__init__ = false)
    (dl_CH : [TbRi, TbTr, TbBo].contains CH = false)
    (dl_CT : [TbRi, TbTr, TbBo].contains CT = false)
    (dl_CC : [TbRi, TbTr, TbBo].contains CC = false)
    (dl_CB : [TbRi, TbTr, TbBo].contains CB = false)
    (dl_CN : [TbRi, TbTr, TbBo].contains CN = false)
    (dl_Err : [TbRi, TbTr, TbBo].contains f_Err = false)
    (dl_NO_NAMES : [TbRi, TbTr, TbBo].contains N_NO_NAMES = false)
    (dl_CHANGED_NAMES : [TbRi, TbTr, TbBo].contains N_CHANGED_NAMES = false)
    (dl_SHAPES : [TbRi, TbTr, TbBo].contains S = false)
    (dl_T0 : [TbRi, TbTr, TbBo].contains rs0 = false)
    (dl_T1 : [TbRi, TbTr, TbBo].contains rs1 = false)
    (dl_T2 : [TbRi, TbTr, TbBo].contains rs2 = false)
    (dl_T3 : [TbRi, TbTr, TbBo].contains rs3 = false)
    (dl_T4 : [TbRi, TbTr, TbBo].contains rs4 = false)
    (dl_T5 : [TbRi, TbTr, TbBo].contains rs5 = false)
    (dl_T6 : [TbRi, TbTr, TbBo].contains rs6 = false)
    (dl_T7 : [TbRi, TbTr, TbBo].contains rs7 = false)
    (dl_T8 : [TbRi, TbTr, TbBo].contains rs8 = false)
    (dl_T9 : [TbRi, TbTr, TbBo].contains rs9 = false)
    (a_is_integer' : PySem.W.nsIn (cut K [TbRi, TbTr, TbBo]) mainGlobals "is_integer" = some (some (.ref f_is_integer)))
    (c_is_integer' : PySem.W.codeIn (cut K [TbRi, TbTr, TbBo]) cd_is_integer "is_integer" = true)
    (k_is_integer' : PySem.W.keepIn (cut K [TbRi, TbTr, TbBo]) (.ref f_is_integer) = true)
    (a_is_name' : PySem.W.nsIn (cut K [TbRi, TbTr, TbBo]) mainGlobals "is_name" = some (some (.ref f_is_name)))
    (c_is_name' : PySem.W.codeIn (cut K [TbRi, TbTr, TbBo]) cd_is_name "is_name" = true)
    (k_is_name' : PySem.W.keepIn (cut K [TbRi, TbTr, TbBo]) (.ref f_is_name) = true)
    (a_are_unlike_names' : PySem.W.nsIn (cut K [TbRi, TbTr, TbBo]) mainGlobals "are_unlike_names" = some (some (.ref f_are_unlike_names)))
    (c_are_unlike_names' : PySem.W.codeIn (cut K [TbRi, TbTr, TbBo]) cd_are_unlike_names "are_unlike_names" = true)
    (k_are_unlike_names' : PySem.W.keepIn (cut K [TbRi, TbTr, TbBo]) (.ref f_are_unlike_names) = true)
    (a_is_head' : PySem.W.nsIn (cut K [TbRi, TbTr, TbBo]) mainGlobals "is_head" = some (some (.ref f_is_head)))
    (c_is_head' : PySem.W.codeIn (cut K [TbRi, TbTr, TbBo]) cd_is_head "is_head" = true)
    (k_is_head' : PySem.W.keepIn (cut K [TbRi, TbTr, TbBo]) (.ref f_is_head) = true)
    (a_is_table' : PySem.W.nsIn (cut K [TbRi, TbTr, TbBo]) mainGlobals "is_table" = some (some (.ref f_is_table)))
    (c_is_table' : PySem.W.codeIn (cut K [TbRi, TbTr, TbBo]) cd_is_table "is_table" = true)
    (k_is_table' : PySem.W.keepIn (cut K [TbRi, TbTr, TbBo]) (.ref f_is_table) = true)
    (a_is_tables' : PySem.W.nsIn (cut K [TbRi, TbTr, TbBo]) mainGlobals "is_tables" = some (some (.ref f_is_tables)))
    (c_is_tables' : PySem.W.codeIn (cut K [TbRi, TbTr, TbBo]) cd_is_tables "is_tables" = true)
    (k_is_tables' : PySem.W.keepIn (cut K [TbRi, TbTr, TbBo]) (.ref f_is_tables) = true)
    (a_free_names' : PySem.W.nsIn (cut K [TbRi, TbTr, TbBo]) mainGlobals "free_names" = some (some (.ref f_free_names)))
    (c_free_names' : PySem.W.codeIn (cut K [TbRi, TbTr, TbBo]) cd_free_names "free_names" = true)
    (k_free_names' : PySem.W.keepIn (cut K [TbRi, TbTr, TbBo]) (.ref f_free_names) = true)
    (a_whole_part' : PySem.W.nsIn (cut K [TbRi, TbTr, TbBo]) mainGlobals "whole_part" = some (some (.ref f_whole_part)))
    (c_whole_part' : PySem.W.codeIn (cut K [TbRi, TbTr, TbBo]) cd_whole_part "whole_part" = true)
    (k_whole_part' : PySem.W.keepIn (cut K [TbRi, TbTr, TbBo]) (.ref f_whole_part) = true)
    (a_check_question' : PySem.W.nsIn (cut K [TbRi, TbTr, TbBo]) mainGlobals "check_question" = some (some (.ref f_check_question)))
    (c_check_question' : PySem.W.codeIn (cut K [TbRi, TbTr, TbBo]) cd_check_question "check_question" = true)
    (k_check_question' : PySem.W.keepIn (cut K [TbRi, TbTr, TbBo]) (.ref f_check_question) = true)
    (a_width' : PySem.W.nsIn (cut K [TbRi, TbTr, TbBo]) mainGlobals "width" = some (some (.ref f_width)))
    (c_width' : PySem.W.codeIn (cut K [TbRi, TbTr, TbBo]) cd_width "width" = true)
    (k_width' : PySem.W.keepIn (cut K [TbRi, TbTr, TbBo]) (.ref f_width) = true)
    (a__law_pot' : PySem.W.nsIn (cut K [TbRi, TbTr, TbBo]) mainGlobals "_law_pot" = some (some (.ref f__law_pot)))
    (c__law_pot' : PySem.W.codeIn (cut K [TbRi, TbTr, TbBo]) cd__law_pot "_law_pot" = true)
    (k__law_pot' : PySem.W.keepIn (cut K [TbRi, TbTr, TbBo]) (.ref f__law_pot) = true)
    (a__law_take' : PySem.W.nsIn (cut K [TbRi, TbTr, TbBo]) mainGlobals "_law_take" = some (some (.ref f__law_take)))
    (c__law_take' : PySem.W.codeIn (cut K [TbRi, TbTr, TbBo]) cd__law_take "_law_take" = true)
    (k__law_take' : PySem.W.keepIn (cut K [TbRi, TbTr, TbBo]) (.ref f__law_take) = true)
    (a__law_of' : PySem.W.nsIn (cut K [TbRi, TbTr, TbBo]) mainGlobals "_law_of" = some (some (.ref f__law_of)))
    (c__law_of' : PySem.W.codeIn (cut K [TbRi, TbTr, TbBo]) cd__law_of "_law_of" = true)
    (k__law_of' : PySem.W.keepIn (cut K [TbRi, TbTr, TbBo]) (.ref f__law_of) = true)
    (a__law_odd' : PySem.W.nsIn (cut K [TbRi, TbTr, TbBo]) mainGlobals "_law_odd" = some (some (.ref f__law_odd)))
    (c__law_odd' : PySem.W.codeIn (cut K [TbRi, TbTr, TbBo]) cd__law_odd "_law_odd" = true)
    (k__law_odd' : PySem.W.keepIn (cut K [TbRi, TbTr, TbBo]) (.ref f__law_odd) = true)
    (a__law_caught' : PySem.W.nsIn (cut K [TbRi, TbTr, TbBo]) mainGlobals "_law_caught" = some (some (.ref f__law_caught)))
    (c__law_caught' : PySem.W.codeIn (cut K [TbRi, TbTr, TbBo]) cd__law_caught "_law_caught" = true)
    (k__law_caught' : PySem.W.keepIn (cut K [TbRi, TbTr, TbBo]) (.ref f__law_caught) = true)
    (a__law_word' : PySem.W.nsIn (cut K [TbRi, TbTr, TbBo]) mainGlobals "_law_word" = some (some (.ref f__law_word)))
    (c__law_word' : PySem.W.codeIn (cut K [TbRi, TbTr, TbBo]) cd__law_word "_law_word" = true)
    (k__law_word' : PySem.W.keepIn (cut K [TbRi, TbTr, TbBo]) (.ref f__law_word) = true)
    (a__law_is_refused' : PySem.W.nsIn (cut K [TbRi, TbTr, TbBo]) mainGlobals "_law_is_refused" = some (some (.ref f__law_is_refused)))
    (c__law_is_refused' : PySem.W.codeIn (cut K [TbRi, TbTr, TbBo]) cd__law_is_refused "_law_is_refused" = true)
    (k__law_is_refused' : PySem.W.keepIn (cut K [TbRi, TbTr, TbBo]) (.ref f__law_is_refused) = true)
    (a__law_are_told' : PySem.W.nsIn (cut K [TbRi, TbTr, TbBo]) mainGlobals "_law_are_told" = some (some (.ref f__law_are_told)))
    (c__law_are_told' : PySem.W.codeIn (cut K [TbRi, TbTr, TbBo]) cd__law_are_told "_law_are_told" = true)
    (k__law_are_told' : PySem.W.keepIn (cut K [TbRi, TbTr, TbBo]) (.ref f__law_are_told) = true)
    (a__law_are_texts_refused' : PySem.W.nsIn (cut K [TbRi, TbTr, TbBo]) mainGlobals "_law_are_texts_refused" = some (some (.ref f__law_are_texts_refused)))
    (c__law_are_texts_refused' : PySem.W.codeIn (cut K [TbRi, TbTr, TbBo]) cd__law_are_texts_refused "_law_are_texts_refused" = true)
    (k__law_are_texts_refused' : PySem.W.keepIn (cut K [TbRi, TbTr, TbBo]) (.ref f__law_are_texts_refused) = true)
    (a__law_are_bounds_right' : PySem.W.nsIn (cut K [TbRi, TbTr, TbBo]) mainGlobals "_law_are_bounds_right" = some (some (.ref f__law_are_bounds_right)))
    (c__law_are_bounds_right' : PySem.W.codeIn (cut K [TbRi, TbTr, TbBo]) cd__law_are_bounds_right "_law_are_bounds_right" = true)
    (k__law_are_bounds_right' : PySem.W.keepIn (cut K [TbRi, TbTr, TbBo]) (.ref f__law_are_bounds_right) = true)
    (a__law_right' : PySem.W.nsIn (cut K [TbRi, TbTr, TbBo]) mainGlobals "_law_right" = some (some (.ref f__law_right)))
    (c__law_right' : PySem.W.codeIn (cut K [TbRi, TbTr, TbBo]) cd__law_right "_law_right" = true)
    (k__law_right' : PySem.W.keepIn (cut K [TbRi, TbTr, TbBo]) (.ref f__law_right) = true)
    (a_law' : PySem.W.nsIn (cut K [TbRi, TbTr, TbBo]) mainGlobals "law" = some (some (.ref f_law)))
    (c_law' : PySem.W.codeIn (cut K [TbRi, TbTr, TbBo]) cd_law "law" = true)
    (k_law' : PySem.W.keepIn (cut K [TbRi, TbTr, TbBo]) (.ref f_law) = true)
    (a_CP' : PySem.W.nsIn (cut K [TbRi, TbTr, TbBo]) mainGlobals "Part" = some (some (.ref CP)))
    (pg_CP' : PySem.W.plainGet (cut K [TbRi, TbTr, TbBo]) CP Str.empty = true)
    (hd_CP' : PySem.W.hasDictIn (cut K [TbRi, TbTr, TbBo]) CP = true)
    (po_CP' : PySem.W.plainOver (cut K [TbRi, TbTr, TbBo]) CP = true)
    (sa_CP' : PySem.W.findIn (cut K [TbRi, TbTr, TbBo]) (.ref CP) "__setattr__" = some (some (.builtin "object.__setattr__")))
    (mk_CP' : PySem.W.makesIn (cut K [TbRi, TbTr, TbBo]) CP = true)
    (kc_CP' : PySem.W.keepIn (cut K [TbRi, TbTr, TbBo]) (.ref CP) = true)
    (n_CP_word' : PySem.W.findIn (cut K [TbRi, TbTr, TbBo]) (.ref CP) "word" = some none)
    (n_CP_places' : PySem.W.findIn (cut K [TbRi, TbTr, TbBo]) (.ref CP) "places" = some none)
    (n_CP_bound' : PySem.W.findIn (cut K [TbRi, TbTr, TbBo]) (.ref CP) "bound" = some none)
    (n_CP_inner' : PySem.W.findIn (cut K [TbRi, TbTr, TbBo]) (.ref CP) "inner" = some none)
    (n_CP_free' : PySem.W.findIn (cut K [TbRi, TbTr, TbBo]) (.ref CP) "free" = some none)
    (n_CP_depth' : PySem.W.findIn (cut K [TbRi, TbTr, TbBo]) (.ref CP) "depth" = some none)
    (n_CP_most_names' : PySem.W.findIn (cut K [TbRi, TbTr, TbBo]) (.ref CP) "most_names" = some none)
    (a_CR' : PySem.W.nsIn (cut K [TbRi, TbTr, TbBo]) mainGlobals "Reader" = some (some (.ref CR)))
    (pg_CR' : PySem.W.plainGet (cut K [TbRi, TbTr, TbBo]) CR Str.empty = true)
    (hd_CR' : PySem.W.hasDictIn (cut K [TbRi, TbTr, TbBo]) CR = true)
    (po_CR' : PySem.W.plainOver (cut K [TbRi, TbTr, TbBo]) CR = true)
    (sa_CR' : PySem.W.findIn (cut K [TbRi, TbTr, TbBo]) (.ref CR) "__setattr__" = some (some (.builtin "object.__setattr__")))
    (mk_CR' : PySem.W.makesIn (cut K [TbRi, TbTr, TbBo]) CR = true)
    (kc_CR' : PySem.W.keepIn (cut K [TbRi, TbTr, TbBo]) (.ref CR) = true)
    (n_CR_words' : PySem.W.findIn (cut K [TbRi, TbTr, TbBo]) (.ref CR) "words" = some none)
    (n_CR_many_read' : PySem.W.findIn (cut K [TbRi, TbTr, TbBo]) (.ref CR) "many_read" = some none)
    (n_CR_shapes' : PySem.W.findIn (cut K [TbRi, TbTr, TbBo]) (.ref CR) "shapes" = some none)
    (a_CQ' : PySem.W.nsIn (cut K [TbRi, TbTr, TbBo]) mainGlobals "Question" = some (some (.ref CQ)))
    (pg_CQ' : PySem.W.plainGet (cut K [TbRi, TbTr, TbBo]) CQ Str.empty = true)
    (hd_CQ' : PySem.W.hasDictIn (cut K [TbRi, TbTr, TbBo]) CQ = true)
    (po_CQ' : PySem.W.plainOver (cut K [TbRi, TbTr, TbBo]) CQ = true)
    (sa_CQ' : PySem.W.findIn (cut K [TbRi, TbTr, TbBo]) (.ref CQ) "__setattr__" = some (some (.builtin "object.__setattr__")))
    (mk_CQ' : PySem.W.makesIn (cut K [TbRi, TbTr, TbBo]) CQ = true)
    (kc_CQ' : PySem.W.keepIn (cut K [TbRi, TbTr, TbBo]) (.ref CQ) = true)
    (n_CQ_whole' : PySem.W.findIn (cut K [TbRi, TbTr, TbBo]) (.ref CQ) "whole" = some none)
    (n_CQ_head' : PySem.W.findIn (cut K [TbRi, TbTr, TbBo]) (.ref CQ) "head" = some none)
    (n_CQ_text' : PySem.W.findIn (cut K [TbRi, TbTr, TbBo]) (.ref CQ) "text" = some none)
    (n_CQ_tables' : PySem.W.findIn (cut K [TbRi, TbTr, TbBo]) (.ref CQ) "tables" = some none)
    (n_CQ_changed' : PySem.W.findIn (cut K [TbRi, TbTr, TbBo]) (.ref CQ) "changed" = some none)
    (n_CQ_is_loopless' : PySem.W.findIn (cut K [TbRi, TbTr, TbBo]) (.ref CQ) "is_loopless" = some none)
    (n_CQ_deep' : PySem.W.findIn (cut K [TbRi, TbTr, TbBo]) (.ref CQ) "deep" = some none)
    (a_CP__init__' : PySem.W.findIn (cut K [TbRi, TbTr, TbBo]) (.ref CP) "__init__" = some (some (.ref f_CP__init__)))
    (i_CP__init__' : PySem.W.isFn (cut K [TbRi, TbTr, TbBo]) (.ref f_CP__init__) = true)
    (c_CP__init__' : PySem.W.codeIn (cut K [TbRi, TbTr, TbBo]) cd_CP__init__ "Part.__init__" = true)
    (k_CP__init__' : PySem.W.keepIn (cut K [TbRi, TbTr, TbBo]) (.ref f_CP__init__) = true)
    (a_CR__init__' : PySem.W.findIn (cut K [TbRi, TbTr, TbBo]) (.ref CR) "__init__" = some (some (.ref f_CR__init__)))
    (i_CR__init__' : PySem.W.isFn (cut K [TbRi, TbTr, TbBo]) (.ref f_CR__init__) = true)
    (c_CR__init__' : PySem.W.codeIn (cut K [TbRi, TbTr, TbBo]) cd_CR__init__ "Reader.__init__" = true)
    (k_CR__init__' : PySem.W.keepIn (cut K [TbRi, TbTr, TbBo]) (.ref f_CR__init__) = true)
    (a_CRnext_word' : PySem.W.findIn (cut K [TbRi, TbTr, TbBo]) (.ref CR) "next_word" = some (some (.ref f_CRnext_word)))
    (i_CRnext_word' : PySem.W.isFn (cut K [TbRi, TbTr, TbBo]) (.ref f_CRnext_word) = true)
    (c_CRnext_word' : PySem.W.codeIn (cut K [TbRi, TbTr, TbBo]) cd_CRnext_word "Reader.next_word" = true)
    (k_CRnext_word' : PySem.W.keepIn (cut K [TbRi, TbTr, TbBo]) (.ref f_CRnext_word) = true)
    (a_CRtake' : PySem.W.findIn (cut K [TbRi, TbTr, TbBo]) (.ref CR) "take" = some (some (.ref f_CRtake)))
    (i_CRtake' : PySem.W.isFn (cut K [TbRi, TbTr, TbBo]) (.ref f_CRtake) = true)
    (c_CRtake' : PySem.W.codeIn (cut K [TbRi, TbTr, TbBo]) cd_CRtake "Reader.take" = true)
    (k_CRtake' : PySem.W.keepIn (cut K [TbRi, TbTr, TbBo]) (.ref f_CRtake) = true)
    (a_CRread_place' : PySem.W.findIn (cut K [TbRi, TbTr, TbBo]) (.ref CR) "read_place" = some (some (.ref f_CRread_place)))
    (i_CRread_place' : PySem.W.isFn (cut K [TbRi, TbTr, TbBo]) (.ref f_CRread_place) = true)
    (c_CRread_place' : PySem.W.codeIn (cut K [TbRi, TbTr, TbBo]) cd_CRread_place "Reader.read_place" = true)
    (k_CRread_place' : PySem.W.keepIn (cut K [TbRi, TbTr, TbBo]) (.ref f_CRread_place) = true)
    (a_CRread_bound' : PySem.W.findIn (cut K [TbRi, TbTr, TbBo]) (.ref CR) "read_bound" = some (some (.ref f_CRread_bound)))
    (i_CRread_bound' : PySem.W.isFn (cut K [TbRi, TbTr, TbBo]) (.ref f_CRread_bound) = true)
    (c_CRread_bound' : PySem.W.codeIn (cut K [TbRi, TbTr, TbBo]) cd_CRread_bound "Reader.read_bound" = true)
    (k_CRread_bound' : PySem.W.keepIn (cut K [TbRi, TbTr, TbBo]) (.ref f_CRread_bound) = true)
    (a_CRread_part' : PySem.W.findIn (cut K [TbRi, TbTr, TbBo]) (.ref CR) "read_part" = some (some (.ref f_CRread_part)))
    (i_CRread_part' : PySem.W.isFn (cut K [TbRi, TbTr, TbBo]) (.ref f_CRread_part) = true)
    (c_CRread_part' : PySem.W.codeIn (cut K [TbRi, TbTr, TbBo]) cd_CRread_part "Reader.read_part" = true)
    (k_CRread_part' : PySem.W.keepIn (cut K [TbRi, TbTr, TbBo]) (.ref f_CRread_part) = true)
    (a_CRread_end' : PySem.W.findIn (cut K [TbRi, TbTr, TbBo]) (.ref CR) "read_end" = some (some (.ref f_CRread_end)))
    (i_CRread_end' : PySem.W.isFn (cut K [TbRi, TbTr, TbBo]) (.ref f_CRread_end) = true)
    (c_CRread_end' : PySem.W.codeIn (cut K [TbRi, TbTr, TbBo]) cd_CRread_end "Reader.read_end" = true)
    (k_CRread_end' : PySem.W.keepIn (cut K [TbRi, TbTr, TbBo]) (.ref f_CRread_end) = true)
    (a_CQ__init__' : PySem.W.findIn (cut K [TbRi, TbTr, TbBo]) (.ref CQ) "__init__" = some (some (.ref f_CQ__init__)))
    (i_CQ__init__' : PySem.W.isFn (cut K [TbRi, TbTr, TbBo]) (.ref f_CQ__init__) = true)
    (c_CQ__init__' : PySem.W.codeIn (cut K [TbRi, TbTr, TbBo]) cd_CQ__init__ "Question.__init__" = true)
    (k_CQ__init__' : PySem.W.keepIn (cut K [TbRi, TbTr, TbBo]) (.ref f_CQ__init__) = true)
    (ic_ha' : PySem.W.findIn (cut K [TbRi, TbTr, TbBo]) (.ref CQ) "__class__" = some (some (.builtin "object.__class__")))
    (ic_hn' : PySem.W.specialIn (cut K [TbRi, TbTr, TbBo]) (.builtin "object.__class__") "__get__" = some (some (.builtin "getset_descriptor.__get__")))
    (ic_ht' : PySem.W.takesIn (cut K [TbRi, TbTr, TbBo]) (.builtin "object.__class__") = some true)
    (ic_hm' : PySem.W.mroIn (cut K [TbRi, TbTr, TbBo]) CQ (.type "object") = some true)
    (qk_NoneType' : PySem.W.kitOne (cut K [TbRi, TbTr, TbBo]) (.type "NoneType") (.ref CQ) = some false)
    (qk_bool' : PySem.W.kitOne (cut K [TbRi, TbTr, TbBo]) (.type "bool") (.ref CQ) = some false)
    (qk_int' : PySem.W.kitOne (cut K [TbRi, TbTr, TbBo]) (.type "int") (.ref CQ) = some false)
    (qk_str' : PySem.W.kitOne (cut K [TbRi, TbTr, TbBo]) (.type "str") (.ref CQ) = some false)
    (qk_list' : PySem.W.kitOne (cut K [TbRi, TbTr, TbBo]) (.type "list") (.ref CQ) = some false)
    (qk_tuple' : PySem.W.kitOne (cut K [TbRi, TbTr, TbBo]) (.type "tuple") (.ref CQ) = some false)
    (qk_dict' : PySem.W.kitOne (cut K [TbRi, TbTr, TbBo]) (.type "dict") (.ref CQ) = some false)
    (a_CS' : PySem.W.nsIn (cut K [TbRi, TbTr, TbBo]) mainGlobals "LoopError" = some (some (.ref CS)))
    (a_CH' : PySem.W.nsIn (cut K [TbRi, TbTr, TbBo]) mainGlobals "BadHead" = some (some (.ref CH)))
    (a_CT' : PySem.W.nsIn (cut K [TbRi, TbTr, TbBo]) mainGlobals "BadTables" = some (some (.ref CT)))
    (a_CC' : PySem.W.nsIn (cut K [TbRi, TbTr, TbBo]) mainGlobals "BadChanged" = some (some (.ref CC)))
    (a_CB' : PySem.W.nsIn (cut K [TbRi, TbTr, TbBo]) mainGlobals "BadQuestion" = some (some (.ref CB)))
    (a_CN' : PySem.W.nsIn (cut K [TbRi, TbTr, TbBo]) mainGlobals "NoQuestion" = some (some (.ref CN)))
    (eCH_in' : PySem.W.findIn (cut K [TbRi, TbTr, TbBo]) (.ref CH) "__init__" = some (some (.ref f_Err)))
    (eCH_sa' : PySem.W.findIn (cut K [TbRi, TbTr, TbBo]) (.ref CH) "__setattr__" = some (some (.builtin "object.__setattr__")))
    (eCH_ex' : PySem.W.subIn (cut K [TbRi, TbTr, TbBo]) (.ref CH) (.type "BaseException") = some true)
    (eCH_tt' : PySem.W.typeIn (cut K [TbRi, TbTr, TbBo]) (.ref CH) = some (.type "type"))
    (eCH_k' : PySem.W.keepIn (cut K [TbRi, TbTr, TbBo]) (.ref CH) = true)
    (eCH_nv' : PySem.W.findIn (cut K [TbRi, TbTr, TbBo]) (.ref CH) "value" = some none)
    (eCH_sub' : PySem.W.exmOne (cut K [TbRi, TbTr, TbBo]) (.ref CH) (.ref CS) = some true)
    (eCH_ga' : PySem.W.findIn (cut K [TbRi, TbTr, TbBo]) (.ref CH) "__getattribute__" = some (some (.builtin "BaseException.__getattribute__")))
    (eCH_gg' : PySem.W.findIn (cut K [TbRi, TbTr, TbBo]) (.ref CH) "__getattr__" = some none)
    (eCH_hd' : PySem.W.hasDictIn (cut K [TbRi, TbTr, TbBo]) CH = true)
    (eCH_ca' : PySem.W.findIn (cut K [TbRi, TbTr, TbBo]) (.ref CH) "__class__" = some (some (.builtin "object.__class__")))
    (eCH_mo' : PySem.W.mroIn (cut K [TbRi, TbTr, TbBo]) CH (.type "object") = some true)
    (kk_0_0' : PySem.W.kitOne (cut K [TbRi, TbTr, TbBo]) (.ref CH) (.ref CH) = some true)
    (kk_0_1' : PySem.W.kitOne (cut K [TbRi, TbTr, TbBo]) (.ref CH) (.ref CT) = some false)
    (kk_0_2' : PySem.W.kitOne (cut K [TbRi, TbTr, TbBo]) (.ref CH) (.ref CC) = some false)
    (kk_0_3' : PySem.W.kitOne (cut K [TbRi, TbTr, TbBo]) (.ref CH) (.ref CB) = some false)
    (kk_0_4' : PySem.W.kitOne (cut K [TbRi, TbTr, TbBo]) (.ref CH) (.ref CN) = some false)
    (eCT_in' : PySem.W.findIn (cut K [TbRi, TbTr, TbBo]) (.ref CT) "__init__" = some (some (.ref f_Err)))
    (eCT_sa' : PySem.W.findIn (cut K [TbRi, TbTr, TbBo]) (.ref CT) "__setattr__" = some (some (.builtin "object.__setattr__")))
    (eCT_ex' : PySem.W.subIn (cut K [TbRi, TbTr, TbBo]) (.ref CT) (.type "BaseException") = some true)
    (eCT_tt' : PySem.W.typeIn (cut K [TbRi, TbTr, TbBo]) (.ref CT) = some (.type "type"))
    (eCT_k' : PySem.W.keepIn (cut K [TbRi, TbTr, TbBo]) (.ref CT) = true)
    (eCT_nv' : PySem.W.findIn (cut K [TbRi, TbTr, TbBo]) (.ref CT) "value" = some none)
    (eCT_sub' : PySem.W.exmOne (cut K [TbRi, TbTr, TbBo]) (.ref CT) (.ref CS) = some true)
    (eCT_ga' : PySem.W.findIn (cut K [TbRi, TbTr, TbBo]) (.ref CT) "__getattribute__" = some (some (.builtin "BaseException.__getattribute__")))
    (eCT_gg' : PySem.W.findIn (cut K [TbRi, TbTr, TbBo]) (.ref CT) "__getattr__" = some none)
    (eCT_hd' : PySem.W.hasDictIn (cut K [TbRi, TbTr, TbBo]) CT = true)
    (eCT_ca' : PySem.W.findIn (cut K [TbRi, TbTr, TbBo]) (.ref CT) "__class__" = some (some (.builtin "object.__class__")))
    (eCT_mo' : PySem.W.mroIn (cut K [TbRi, TbTr, TbBo]) CT (.type "object") = some true)
    (kk_1_0' : PySem.W.kitOne (cut K [TbRi, TbTr, TbBo]) (.ref CT) (.ref CH) = some false)
    (kk_1_1' : PySem.W.kitOne (cut K [TbRi, TbTr, TbBo]) (.ref CT) (.ref CT) = some true)
    (kk_1_2' : PySem.W.kitOne (cut K [TbRi, TbTr, TbBo]) (.ref CT) (.ref CC) = some false)
    (kk_1_3' : PySem.W.kitOne (cut K [TbRi, TbTr, TbBo]) (.ref CT) (.ref CB) = some false)
    (kk_1_4' : PySem.W.kitOne (cut K [TbRi, TbTr, TbBo]) (.ref CT) (.ref CN) = some false)
    (eCC_in' : PySem.W.findIn (cut K [TbRi, TbTr, TbBo]) (.ref CC) "__init__" = some (some (.ref f_Err)))
    (eCC_sa' : PySem.W.findIn (cut K [TbRi, TbTr, TbBo]) (.ref CC) "__setattr__" = some (some (.builtin "object.__setattr__")))
    (eCC_ex' : PySem.W.subIn (cut K [TbRi, TbTr, TbBo]) (.ref CC) (.type "BaseException") = some true)
    (eCC_tt' : PySem.W.typeIn (cut K [TbRi, TbTr, TbBo]) (.ref CC) = some (.type "type"))
    (eCC_k' : PySem.W.keepIn (cut K [TbRi, TbTr, TbBo]) (.ref CC) = true)
    (eCC_nv' : PySem.W.findIn (cut K [TbRi, TbTr, TbBo]) (.ref CC) "value" = some none)
    (eCC_sub' : PySem.W.exmOne (cut K [TbRi, TbTr, TbBo]) (.ref CC) (.ref CS) = some true)
    (eCC_ga' : PySem.W.findIn (cut K [TbRi, TbTr, TbBo]) (.ref CC) "__getattribute__" = some (some (.builtin "BaseException.__getattribute__")))
    (eCC_gg' : PySem.W.findIn (cut K [TbRi, TbTr, TbBo]) (.ref CC) "__getattr__" = some none)
    (eCC_hd' : PySem.W.hasDictIn (cut K [TbRi, TbTr, TbBo]) CC = true)
    (eCC_ca' : PySem.W.findIn (cut K [TbRi, TbTr, TbBo]) (.ref CC) "__class__" = some (some (.builtin "object.__class__")))
    (eCC_mo' : PySem.W.mroIn (cut K [TbRi, TbTr, TbBo]) CC (.type "object") = some true)
    (kk_2_0' : PySem.W.kitOne (cut K [TbRi, TbTr, TbBo]) (.ref CC) (.ref CH) = some false)
    (kk_2_1' : PySem.W.kitOne (cut K [TbRi, TbTr, TbBo]) (.ref CC) (.ref CT) = some false)
    (kk_2_2' : PySem.W.kitOne (cut K [TbRi, TbTr, TbBo]) (.ref CC) (.ref CC) = some true)
    (kk_2_3' : PySem.W.kitOne (cut K [TbRi, TbTr, TbBo]) (.ref CC) (.ref CB) = some false)
    (kk_2_4' : PySem.W.kitOne (cut K [TbRi, TbTr, TbBo]) (.ref CC) (.ref CN) = some false)
    (eCB_in' : PySem.W.findIn (cut K [TbRi, TbTr, TbBo]) (.ref CB) "__init__" = some (some (.ref f_Err)))
    (eCB_sa' : PySem.W.findIn (cut K [TbRi, TbTr, TbBo]) (.ref CB) "__setattr__" = some (some (.builtin "object.__setattr__")))
    (eCB_ex' : PySem.W.subIn (cut K [TbRi, TbTr, TbBo]) (.ref CB) (.type "BaseException") = some true)
    (eCB_tt' : PySem.W.typeIn (cut K [TbRi, TbTr, TbBo]) (.ref CB) = some (.type "type"))
    (eCB_k' : PySem.W.keepIn (cut K [TbRi, TbTr, TbBo]) (.ref CB) = true)
    (eCB_nv' : PySem.W.findIn (cut K [TbRi, TbTr, TbBo]) (.ref CB) "value" = some none)
    (eCB_sub' : PySem.W.exmOne (cut K [TbRi, TbTr, TbBo]) (.ref CB) (.ref CS) = some true)
    (eCB_ga' : PySem.W.findIn (cut K [TbRi, TbTr, TbBo]) (.ref CB) "__getattribute__" = some (some (.builtin "BaseException.__getattribute__")))
    (eCB_gg' : PySem.W.findIn (cut K [TbRi, TbTr, TbBo]) (.ref CB) "__getattr__" = some none)
    (eCB_hd' : PySem.W.hasDictIn (cut K [TbRi, TbTr, TbBo]) CB = true)
    (eCB_ca' : PySem.W.findIn (cut K [TbRi, TbTr, TbBo]) (.ref CB) "__class__" = some (some (.builtin "object.__class__")))
    (eCB_mo' : PySem.W.mroIn (cut K [TbRi, TbTr, TbBo]) CB (.type "object") = some true)
    (kk_3_0' : PySem.W.kitOne (cut K [TbRi, TbTr, TbBo]) (.ref CB) (.ref CH) = some false)
    (kk_3_1' : PySem.W.kitOne (cut K [TbRi, TbTr, TbBo]) (.ref CB) (.ref CT) = some false)
    (kk_3_2' : PySem.W.kitOne (cut K [TbRi, TbTr, TbBo]) (.ref CB) (.ref CC) = some false)
    (kk_3_3' : PySem.W.kitOne (cut K [TbRi, TbTr, TbBo]) (.ref CB) (.ref CB) = some true)
    (kk_3_4' : PySem.W.kitOne (cut K [TbRi, TbTr, TbBo]) (.ref CB) (.ref CN) = some false)
    (eCN_in' : PySem.W.findIn (cut K [TbRi, TbTr, TbBo]) (.ref CN) "__init__" = some (some (.ref f_Err)))
    (eCN_sa' : PySem.W.findIn (cut K [TbRi, TbTr, TbBo]) (.ref CN) "__setattr__" = some (some (.builtin "object.__setattr__")))
    (eCN_ex' : PySem.W.subIn (cut K [TbRi, TbTr, TbBo]) (.ref CN) (.type "BaseException") = some true)
    (eCN_tt' : PySem.W.typeIn (cut K [TbRi, TbTr, TbBo]) (.ref CN) = some (.type "type"))
    (eCN_k' : PySem.W.keepIn (cut K [TbRi, TbTr, TbBo]) (.ref CN) = true)
    (eCN_nv' : PySem.W.findIn (cut K [TbRi, TbTr, TbBo]) (.ref CN) "value" = some none)
    (eCN_sub' : PySem.W.exmOne (cut K [TbRi, TbTr, TbBo]) (.ref CN) (.ref CS) = some true)
    (eCN_ga' : PySem.W.findIn (cut K [TbRi, TbTr, TbBo]) (.ref CN) "__getattribute__" = some (some (.builtin "BaseException.__getattribute__")))
    (eCN_gg' : PySem.W.findIn (cut K [TbRi, TbTr, TbBo]) (.ref CN) "__getattr__" = some none)
    (eCN_hd' : PySem.W.hasDictIn (cut K [TbRi, TbTr, TbBo]) CN = true)
    (eCN_ca' : PySem.W.findIn (cut K [TbRi, TbTr, TbBo]) (.ref CN) "__class__" = some (some (.builtin "object.__class__")))
    (eCN_mo' : PySem.W.mroIn (cut K [TbRi, TbTr, TbBo]) CN (.type "object") = some true)
    (kk_4_0' : PySem.W.kitOne (cut K [TbRi, TbTr, TbBo]) (.ref CN) (.ref CH) = some false)
    (kk_4_1' : PySem.W.kitOne (cut K [TbRi, TbTr, TbBo]) (.ref CN) (.ref CT) = some false)
    (kk_4_2' : PySem.W.kitOne (cut K [TbRi, TbTr, TbBo]) (.ref CN) (.ref CC) = some false)
    (kk_4_3' : PySem.W.kitOne (cut K [TbRi, TbTr, TbBo]) (.ref CN) (.ref CB) = some false)
    (kk_4_4' : PySem.W.kitOne (cut K [TbRi, TbTr, TbBo]) (.ref CN) (.ref CN) = some true)
    (ef_ty' : PySem.W.typeIn (cut K [TbRi, TbTr, TbBo]) (.ref f_Err) = some (.type "function"))
    (c_Err' : PySem.W.codeIn (cut K [TbRi, TbTr, TbBo]) cd_Err "LoopError.__init__" = true)
    (k_Err' : PySem.W.keepIn (cut K [TbRi, TbTr, TbBo]) (.ref f_Err) = true)
    (a_LETTERS' : PySem.W.nsIn (cut K [TbRi, TbTr, TbBo]) mainGlobals "LETTERS" = some (some (.str lettersS t_LETTERS)))
    (a_FIGURES' : PySem.W.nsIn (cut K [TbRi, TbTr, TbBo]) mainGlobals "FIGURES" = some (some (.str figuresS t_FIGURES)))
    (a_MOST_SIGNS' : PySem.W.nsIn (cut K [TbRi, TbTr, TbBo]) mainGlobals "MOST_SIGNS" = some (some (.int 6 t_MOST_SIGNS)))
    (a_MOST_IN_ROW' : PySem.W.nsIn (cut K [TbRi, TbTr, TbBo]) mainGlobals "MOST_IN_ROW" = some (some (.int 3 t_MOST_IN_ROW)))
    (a_MOST_WORDS' : PySem.W.nsIn (cut K [TbRi, TbTr, TbBo]) mainGlobals "MOST_WORDS" = some (some (.int 100 t_MOST_WORDS)))
    (a_MOST_DEEP' : PySem.W.nsIn (cut K [TbRi, TbTr, TbBo]) mainGlobals "MOST_DEEP" = some (some (.int 14 t_MOST_DEEP)))
    (a_NO_NAMES' : PySem.W.nsIn (cut K [TbRi, TbTr, TbBo]) mainGlobals "NO_NAMES" = some (some (.ref N_NO_NAMES)))
    (a_CHANGED_NAMES' : PySem.W.nsIn (cut K [TbRi, TbTr, TbBo]) mainGlobals "CHANGED_NAMES" = some (some (.ref N_CHANGED_NAMES)))
    (a_SHAPES' : PySem.W.nsIn (cut K [TbRi, TbTr, TbBo]) mainGlobals "SHAPES" = some (some (.ref S)))
    (z_isinstance' : PySem.W.nsIn (cut K [TbRi, TbTr, TbBo]) mainGlobals "isinstance" = some none)
    (z_len' : PySem.W.nsIn (cut K [TbRi, TbTr, TbBo]) mainGlobals "len" = some none)
    (z_all' : PySem.W.nsIn (cut K [TbRi, TbTr, TbBo]) mainGlobals "all" = some none)
    (z_any' : PySem.W.nsIn (cut K [TbRi, TbTr, TbBo]) mainGlobals "any" = some none)
    (z_int' : PySem.W.nsIn (cut K [TbRi, TbTr, TbBo]) mainGlobals "int" = some none)
    (z_str' : PySem.W.nsIn (cut K [TbRi, TbTr, TbBo]) mainGlobals "str" = some none)
    (z_bool' : PySem.W.nsIn (cut K [TbRi, TbTr, TbBo]) mainGlobals "bool" = some none)
    (z_tuple' : PySem.W.nsIn (cut K [TbRi, TbTr, TbBo]) mainGlobals "tuple" = some none)
    (z_set' : PySem.W.nsIn (cut K [TbRi, TbTr, TbBo]) mainGlobals "set" = some none)
    (z_sorted' : PySem.W.nsIn (cut K [TbRi, TbTr, TbBo]) mainGlobals "sorted" = some none)
    (z_max' : PySem.W.nsIn (cut K [TbRi, TbTr, TbBo]) mainGlobals "max" = some none)
    (z_dict' : PySem.W.nsIn (cut K [TbRi, TbTr, TbBo]) mainGlobals "dict" = some none)
    (z_min' : PySem.W.nsIn (cut K [TbRi, TbTr, TbBo]) mainGlobals "min" = some none)
    (z_range' : PySem.W.nsIn (cut K [TbRi, TbTr, TbBo]) mainGlobals "range" = some none)
    (z_sum' : PySem.W.nsIn (cut K [TbRi, TbTr, TbBo]) mainGlobals "sum" = some none)
    (z_abs' : PySem.W.nsIn (cut K [TbRi, TbTr, TbBo]) mainGlobals "abs" = some none)
    (z_list' : PySem.W.nsIn (cut K [TbRi, TbTr, TbBo]) mainGlobals "list" = some none)
    (z_repr' : PySem.W.nsIn (cut K [TbRi, TbTr, TbBo]) mainGlobals "repr" = some none)
    : ∃ (fd : FuncData) (K1 : PySem.W.Frag) (cs : List (Addr × Addr × Str)) (sp : Sp), K1.In h ∧ (∀ p ∈ cs, h.get? p.2.1 = some noTab) ∧ (∀ p ∈ cs, K1.lookup p.2.1 = none) ∧ (∀ p ∈ cs, PySem.W.CodeHd h p.1 p.2.1) ∧ (∀ (s : Shared) (u : Value), BindsTo s fd ⟨[u], []⟩ [("script", u)]) ∧
        (∀ base : Heap, K1.In base → base.Ns mainGlobals mg → (∀ p ∈ cs, TabB base mg p.1 p.2.1) → FnG l.prog w K1 mg base 29 fa fd ["script"] sp) ∧
        ∀ (H : Hp) (a : Addr) (ns : List Int), ns.length ≤ 63 → SqL K1 H a (ns.map V.int) → Tabs (cs.map (·.2)) H → sp [.ref a] H (fun v _ => v = .bl true) fun _ _ _ => False := by
  obtain ⟨fd, bi, F⟩ := all_mk (l := l) (w := w) (TbRi := TbRi) (TbTr := TbTr) (TbBo := TbBo) apart1 apart2 apart3 (cut_in (Ts := [TbRi, TbTr, TbBo]) X) G hfa
    a_is_integer'
    (cut_at dl_is_integer l_is_integer)
    c_is_integer'
    k_is_integer'
    a_is_name'
    (cut_at dl_is_name l_is_name)
    c_is_name'
    k_is_name'
    a_are_unlike_names'
    (cut_at dl_are_unlike_names l_are_unlike_names)
    c_are_unlike_names'
    k_are_unlike_names'
    a_is_head'
    (cut_at dl_is_head l_is_head)
    c_is_head'
    k_is_head'
    a_is_table'
    (cut_at dl_is_table l_is_table)
    c_is_table'
    k_is_table'
    a_is_tables'
    (cut_at dl_is_tables l_is_tables)
    c_is_tables'
    k_is_tables'
    a_free_names'
    (cut_at dl_free_names l_free_names)
    c_free_names'
    k_free_names'
    a_whole_part'
    (cut_at dl_whole_part l_whole_part)
    c_whole_part'
    k_whole_part'
    a_check_question'
    (cut_at dl_check_question l_check_question)
    c_check_question'
    k_check_question'
    a_width'
    (cut_at dl_width l_width)
    c_width'
    k_width'
    a__law_pot'
    (cut_at dl__law_pot l__law_pot)
    c__law_pot'
    k__law_pot'
    a__law_take'
    (cut_at dl__law_take l__law_take)
    c__law_take'
    k__law_take'
    a__law_of'
    (cut_at dl__law_of l__law_of)
    c__law_of'
    k__law_of'
    a__law_odd'
    (cut_at dl__law_odd l__law_odd)
    c__law_odd'
    k__law_odd'
    a__law_caught'
    (cut_at dl__law_caught l__law_caught)
    c__law_caught'
    k__law_caught'
    a__law_word'
    (cut_at dl__law_word l__law_word)
    c__law_word'
    k__law_word'
    a__law_is_refused'
    (cut_at dl__law_is_refused l__law_is_refused)
    c__law_is_refused'
    k__law_is_refused'
    a__law_are_told'
    (cut_at dl__law_are_told l__law_are_told)
    c__law_are_told'
    k__law_are_told'
    a__law_are_texts_refused'
    (cut_at dl__law_are_texts_refused l__law_are_texts_refused)
    c__law_are_texts_refused'
    k__law_are_texts_refused'
    a__law_are_bounds_right'
    (cut_at dl__law_are_bounds_right l__law_are_bounds_right)
    c__law_are_bounds_right'
    k__law_are_bounds_right'
    a__law_right'
    (cut_at dl__law_right l__law_right)
    c__law_right'
    k__law_right'
    a_law'
    (cut_at dl_law l_law)
    c_law'
    k_law'
    a_CP'
    pg_CP'
    hd_CP'
    po_CP'
    sa_CP'
    mk_CP'
    kc_CP'
    n_CP_word'
    n_CP_places'
    n_CP_bound'
    n_CP_inner'
    n_CP_free'
    n_CP_depth'
    n_CP_most_names'
    a_CR'
    pg_CR'
    hd_CR'
    po_CR'
    sa_CR'
    mk_CR'
    kc_CR'
    n_CR_words'
    n_CR_many_read'
    n_CR_shapes'
    a_CQ'
    pg_CQ'
    hd_CQ'
    po_CQ'
    sa_CQ'
    mk_CQ'
    kc_CQ'
    n_CQ_whole'
    n_CQ_head'
    n_CQ_text'
    n_CQ_tables'
    n_CQ_changed'
    n_CQ_is_loopless'
    n_CQ_deep'
    a_CP__init__'
    i_CP__init__'
    (cut_at dl_CP__init__ l_CP__init__)
    c_CP__init__'
    k_CP__init__'
    a_CR__init__'
    i_CR__init__'
    (cut_at dl_CR__init__ l_CR__init__)
    c_CR__init__'
    k_CR__init__'
    a_CRnext_word'
    i_CRnext_word'
    (cut_at dl_CRnext_word l_CRnext_word)
    c_CRnext_word'
    k_CRnext_word'
    a_CRtake'
    i_CRtake'
    (cut_at dl_CRtake l_CRtake)
    c_CRtake'
    k_CRtake'
    a_CRread_place'
    i_CRread_place'
    (cut_at dl_CRread_place l_CRread_place)
    c_CRread_place'
    k_CRread_place'
    a_CRread_bound'
    i_CRread_bound'
    (cut_at dl_CRread_bound l_CRread_bound)
    c_CRread_bound'
    k_CRread_bound'
    a_CRread_part'
    i_CRread_part'
    (cut_at dl_CRread_part l_CRread_part)
    c_CRread_part'
    k_CRread_part'
    a_CRread_end'
    i_CRread_end'
    (cut_at dl_CRread_end l_CRread_end)
    c_CRread_end'
    k_CRread_end'
    a_CQ__init__'
    i_CQ__init__'
    (cut_at dl_CQ__init__ l_CQ__init__)
    c_CQ__init__'
    k_CQ__init__'
    ic_ha'
    ic_hn'
    ic_ht'
    ic_hm'
    qk_NoneType'
    qk_bool'
    qk_int'
    qk_str'
    qk_list'
    qk_tuple'
    qk_dict'
    a_CS'
    a_CH'
    a_CT'
    a_CC'
    a_CB'
    a_CN'
    eCH_in'
    (cut_at dl_CH l_CH)
    eCH_cls
    eCH_sa'
    eCH_ex'
    eCH_tt'
    eCH_k'
    eCH_nv'
    eCH_sub'
    eCH_ga'
    eCH_gg'
    eCH_hd'
    eCH_ca'
    eCH_mo'
    kk_0_0'
    kk_0_1'
    kk_0_2'
    kk_0_3'
    kk_0_4'
    eCT_in'
    (cut_at dl_CT l_CT)
    eCT_cls
    eCT_sa'
    eCT_ex'
    eCT_tt'
    eCT_k'
    eCT_nv'
    eCT_sub'
    eCT_ga'
    eCT_gg'
    eCT_hd'
    eCT_ca'
    eCT_mo'
    kk_1_0'
    kk_1_1'
    kk_1_2'
    kk_1_3'
    kk_1_4'
    eCC_in'
    (cut_at dl_CC l_CC)
    eCC_cls
    eCC_sa'
    eCC_ex'
    eCC_tt'
    eCC_k'
    eCC_nv'
    eCC_sub'
    eCC_ga'
    eCC_gg'
    eCC_hd'
    eCC_ca'
    eCC_mo'
    kk_2_0'
    kk_2_1'
    kk_2_2'
    kk_2_3'
    kk_2_4'
    eCB_in'
    (cut_at dl_CB l_CB)
    eCB_cls
    eCB_sa'
    eCB_ex'
    eCB_tt'
    eCB_k'
    eCB_nv'
    eCB_sub'
    eCB_ga'
    eCB_gg'
    eCB_hd'
    eCB_ca'
    eCB_mo'
    kk_3_0'
    kk_3_1'
    kk_3_2'
    kk_3_3'
    kk_3_4'
    eCN_in'
    (cut_at dl_CN l_CN)
    eCN_cls
    eCN_sa'
    eCN_ex'
    eCN_tt'
    eCN_k'
    eCN_nv'
    eCN_sub'
    eCN_ga'
    eCN_gg'
    eCN_hd'
    eCN_ca'
    eCN_mo'
    kk_4_0'
    kk_4_1'
    kk_4_2'
    kk_4_3'
    kk_4_4'
    ef_ty'
    (cut_at dl_Err l_Err)
    c_Err'
    k_Err'
    a_LETTERS'
    a_FIGURES'
    a_MOST_SIGNS'
    a_MOST_IN_ROW'
    a_MOST_WORDS'
    a_MOST_DEEP'
    a_NO_NAMES'
    (cut_at dl_NO_NAMES l_NO_NAMES)
    q_NO_NAMES
    a_CHANGED_NAMES'
    (cut_at dl_CHANGED_NAMES l_CHANGED_NAMES)
    q_CHANGED_NAMES
    a_SHAPES'
    (cut_at dl_SHAPES l_SHAPES)
    q_SHAPES
    e_SHAPES
    (cut_at dl_T0 l_T0)
    q_T0
    (cut_at dl_T1 l_T1)
    q_T1
    (cut_at dl_T2 l_T2)
    q_T2
    (cut_at dl_T3 l_T3)
    q_T3
    (cut_at dl_T4 l_T4)
    q_T4
    (cut_at dl_T5 l_T5)
    q_T5
    (cut_at dl_T6 l_T6)
    q_T6
    (cut_at dl_T7 l_T7)
    q_T7
    (cut_at dl_T8 l_T8)
    q_T8
    (cut_at dl_T9 l_T9)
    q_T9
    ne_R
    ne_Q
    z_isinstance'
    z_len'
    z_all'
    z_any'
    z_int'
    z_str'
    z_bool'
    z_tuple'
    z_set'
    z_sorted'
    z_max'
    z_dict'
    z_min'
    z_range'
    z_sum'
    z_abs'
    z_list'
    z_repr'
    q_cdRi
    q_cdTr
    q_cdBo
  refine ⟨fd, cut K [TbRi, TbTr, TbBo], [(cRi, TbRi, lamRi), (cTr, TbTr, lamTr), (cBo, TbBo, lamBo)], spLaw3 (cut K [TbRi, TbTr, TbBo]) [(TbRi, lamRi), (TbTr, lamTr), (TbBo, lamBo)], cut_in X, fun p hp => ?_, fun p hp => ?_, fun p hp => ?_, bi, fun base h1 h2 h3 => F base h1 h2 (h3 (cRi, TbRi, lamRi) (by simp)) (h3 (cTr, TbTr, lamTr) (by simp)) (h3 (cBo, TbBo, lamBo) (by simp)), fun H a ns hl hS hT => ⟨a, ns, rfl, hS, hl, hT, fun _ => rfl⟩⟩
  · simp only [List.mem_cons, List.not_mem_nil, or_false] at hp
    rcases hp with rfl | rfl | rfl
    · exact X _ _ l_TbRi
    · exact X _ _ l_TbTr
    · exact X _ _ l_TbBo
  · simp only [List.mem_cons, List.not_mem_nil, or_false] at hp
    rcases hp with rfl | rfl | rfl <;> exact cut_none (by simp)
  · simp only [List.mem_cons, List.not_mem_nil, or_false] at hp
    rcases hp with rfl | rfl | rfl
    · exact PySem.W.codeHd_of_K X h_JRi
    · exact PySem.W.codeHd_of_K X h_JTr
    · exact PySem.W.codeHd_of_K X h_JBo
theorem walk {l : PySem.W.OpenLaw} {q : Program} {loose : List Str} {XP : (Str → Option Value) → Heap → Prop} {YP : World → Heap → Prop} {d : DefRec} {K : Params → PySem.W.Frag} (hn : l.most = some 63) (hdf : d.params.defaults = [])
    (hY : ∀ (w : World) (h : Heap), YP w h → (K w.params).In h)
    (F : ∀ (w : World) (mg : Str → Option Value) (fa : Addr) (h : Heap), (K w.params).In h → h.Ns mainGlobals mg → mg d.name = some (.ref fa) →
      ∃ (fd : FuncData) (K1 : PySem.W.Frag) (cs : List (Addr × Addr × Str)) (sp : Sp), K1.In h ∧ (∀ p ∈ cs, h.get? p.2.1 = some noTab) ∧ (∀ p ∈ cs, K1.lookup p.2.1 = none) ∧ (∀ p ∈ cs, PySem.W.CodeHd h p.1 p.2.1) ∧ (∀ (s : Shared) (u : Value), BindsTo s fd ⟨[u], []⟩ [("script", u)]) ∧
        (∀ base : Heap, K1.In base → base.Ns mainGlobals mg → (∀ p ∈ cs, TabB base mg p.1 p.2.1) → FnG l.prog w K1 mg base 29 fa fd ["script"] sp) ∧
        ∀ (H : Hp) (a : Addr) (ns : List Int), ns.length ≤ 63 → SqL K1 H a (ns.map V.int) → Tabs (cs.map (·.2)) H → sp [.ref a] H (fun v _ => v = .bl true) fun _ _ _ => False) :
    PySem.W.WalkO q loose XP YP l.row.toRowW d [] (fun f vs => PySem.call f vs) :=
  walk_ofGT (n := 63) (k := 29) (x := "script") hn (by decide) hdf ⟨rfl, by decide, by decide⟩ hY F
end WL

set_option Elab.async false
namespace WL
open PySem PySem.Spec PyProof.Rows
theorem walkX_of {q : Program} {loose : List Str} {XP : (Str → Option Value) → Heap → Prop} {r : PySem.W.RowW} {d : DefRec} {kwd : List (Str × Expr)} {run : Value → List Value → Sem Value} {K : Params → PySem.W.Frag} {as : List Addr} {n t : Nat}
    (e : ∀ P, as = (K P).map (·.1)) (c : PySem.W.WalkO q loose XP (fun w h => (K w.params).In h) r d kwd run) : PySem.W.WalkX q loose XP (PySem.W.X.obsZ as) (PySem.W.X.valZ K n t) r d kwd run :=
  fun w s₀ s₁ mg mb G Y a o pm cd doc dV kV ho hd hcd hD hmg hg args vals as' L hpre hlay hrd hwl hlo => c w s₀ s₁ mg mb G (PySem.W.InK.keeps w s₀.heap s₁.heap (PySem.W.X.z_facts e Y).2.1 L.keeps) a o pm cd doc dV kV ho hd hcd hD hmg hg args vals as' hpre hlay hrd hwl hlo
end WL
open PySem PySem.W PyProof.Rows L2 in
set_option maxRecDepth 100000 in
set_option maxHeartbeats 0 in
theorem PySem.Challenge.cw_withoutloops_k03_questions_by_hand_and_r_holds : PySem.Challenge.rw_withoutloops_k03_questions_by_hand_and_r.Holds := by
  w_on
  o_law
  z_head
  (case hw => w_witness2)
  k_fill
  refine WL.walkX_of ?E (WL.walk (l := PySem.Challenge.rw_withoutloops_k03_questions_by_hand_and_r) rfl rfl (fun w h Y => Y) ?F)
  case E => exact fun P => rfl
  case F =>
    intro w mg fa h KX G hmg
    refine' WL.all_mk2 KX G hmg ?a_is_integer ?l_is_integer ?a_is_name ?l_is_name ?a_are_unlike_names ?l_are_unlike_names ?a_is_head ?l_is_head ?a_is_table ?l_is_table ?a_is_tables ?l_is_tables ?a_free_names ?l_free_names ?a_whole_part ?l_whole_part ?a_check_question ?l_check_question ?a_width ?l_width ?a__law_pot ?l__law_pot ?a__law_take ?l__law_take ?a__law_of ?l__law_of ?a__law_odd ?l__law_odd ?a__law_caught ?l__law_caught ?a__law_word ?l__law_word ?a__law_is_refused ?l__law_is_refused ?a__law_are_told ?l__law_are_told ?a__law_are_texts_refused ?l__law_are_texts_refused ?a__law_are_bounds_right ?l__law_are_bounds_right ?a__law_right ?l__law_right ?a_law ?l_law ?a_CP ?a_CR ?a_CQ ?a_CP__init__ ?l_CP__init__ ?a_CR__init__ ?l_CR__init__ ?a_CRnext_word ?l_CRnext_word ?a_CRtake ?l_CRtake ?a_CRread_place ?l_CRread_place ?a_CRread_bound ?l_CRread_bound ?a_CRread_part ?l_CRread_part ?a_CRread_end ?l_CRread_end ?a_CQ__init__ ?l_CQ__init__ ?a_CS ?a_CH ?a_CT ?a_CC ?a_CB ?a_CN ?eCH_in ?l_CH ?eCH_cls ?l_CT ?eCT_cls ?l_CC ?eCC_cls ?l_CB ?eCB_cls ?l_CN ?eCN_cls ?l_Err ?a_LETTERS ?a_FIGURES ?a_MOST_SIGNS ?a_MOST_IN_ROW ?a_MOST_WORDS ?a_MOST_DEEP ?a_NO_NAMES ?l_NO_NAMES ?q_NO_NAMES ?a_CHANGED_NAMES ?l_CHANGED_NAMES ?q_CHANGED_NAMES ?a_SHAPES ?l_SHAPES ?q_SHAPES ?e_SHAPES ?l_T0 ?q_T0 ?l_T1 ?q_T1 ?l_T2 ?q_T2 ?l_T3 ?q_T3 ?l_T4 ?q_T4 ?l_T5 ?q_T5 ?l_T6 ?q_T6 ?l_T7 ?q_T7 ?l_T8 ?q_T8 ?l_T9 ?q_T9 ?ne_R ?ne_Q ?q_cdRi ?q_cdTr ?q_cdBo ?l_JRi ?d_JRi ?t_JRi ?h_JRi ?l_TbRi ?l_JTr ?d_JTr ?t_JTr ?h_JTr ?l_TbTr ?l_JBo ?d_JBo ?t_JBo ?h_JBo ?l_TbBo ?apart1 ?apart2 ?apart3 ?dl_is_integer ?dl_is_name ?dl_are_unlike_names ?dl_is_head ?dl_is_table ?dl_is_tables ?dl_free_names ?dl_whole_part ?dl_check_question ?dl_width ?dl__law_pot ?dl__law_take ?dl__law_of ?dl__law_odd ?dl__law_caught ?dl__law_word ?dl__law_is_refused ?dl__law_are_told ?dl__law_are_texts_refused ?dl__law_are_bounds_right ?dl__law_right ?dl_law ?dl_CP__init__ ?dl_CR__init__ ?dl_CRnext_word ?dl_CRtake ?dl_CRread_place ?dl_CRread_bound ?dl_CRread_part ?dl_CRread_end ?dl_CQ__init__ ?dl_CH ?dl_CT ?dl_CC ?dl_CB ?dl_CN ?dl_Err ?dl_NO_NAMES ?dl_CHANGED_NAMES ?dl_SHAPES ?dl_T0 ?dl_T1 ?dl_T2 ?dl_T3 ?dl_T4 ?dl_T5 ?dl_T6 ?dl_T7 ?dl_T8 ?dl_T9 ?a_is_integer_p ?c_is_integer_p ?k_is_integer_p ?a_is_name_p ?c_is_name_p ?k_is_name_p ?a_are_unlike_names_p ?c_are_unlike_names_p ?k_are_unlike_names_p ?a_is_head_p ?c_is_head_p ?k_is_head_p ?a_is_table_p ?c_is_table_p ?k_is_table_p ?a_is_tables_p ?c_is_tables_p ?k_is_tables_p ?a_free_names_p ?c_free_names_p ?k_free_names_p ?a_whole_part_p ?c_whole_part_p ?k_whole_part_p ?a_check_question_p ?c_check_question_p ?k_check_question_p ?a_width_p ?c_width_p ?k_width_p ?a__law_pot_p ?c__law_pot_p ?k__law_pot_p ?a__law_take_p ?c__law_take_p ?k__law_take_p ?a__law_of_p ?c__law_of_p ?k__law_of_p ?a__law_odd_p ?c__law_odd_p ?k__law_odd_p ?a__law_caught_p ?c__law_caught_p ?k__law_caught_p ?a__law_word_p ?c__law_word_p ?k__law_word_p ?a__law_is_refused_p ?c__law_is_refused_p ?k__law_is_refused_p ?a__law_are_told_p ?c__law_are_told_p ?k__law_are_told_p ?a__law_are_texts_refused_p ?c__law_are_texts_refused_p ?k__law_are_texts_refused_p ?a__law_are_bounds_right_p ?c__law_are_bounds_right_p ?k__law_are_bounds_right_p ?a__law_right_p ?c__law_right_p ?k__law_right_p ?a_law_p ?c_law_p ?k_law_p ?a_CP_p ?pg_CP_p ?hd_CP_p ?po_CP_p ?sa_CP_p ?mk_CP_p ?kc_CP_p ?n_CP_word_p ?n_CP_places_p ?n_CP_bound_p ?n_CP_inner_p ?n_CP_free_p ?n_CP_depth_p ?n_CP_most_names_p ?a_CR_p ?pg_CR_p ?hd_CR_p ?po_CR_p ?sa_CR_p ?mk_CR_p ?kc_CR_p ?n_CR_words_p ?n_CR_many_read_p ?n_CR_shapes_p ?a_CQ_p ?pg_CQ_p ?hd_CQ_p ?po_CQ_p ?sa_CQ_p ?mk_CQ_p ?kc_CQ_p ?n_CQ_whole_p ?n_CQ_head_p ?n_CQ_text_p ?n_CQ_tables_p ?n_CQ_changed_p ?n_CQ_is_loopless_p ?n_CQ_deep_p ?a_CP__init___p ?i_CP__init___p ?c_CP__init___p ?k_CP__init___p ?a_CR__init___p ?i_CR__init___p ?c_CR__init___p ?k_CR__init___p ?a_CRnext_word_p ?i_CRnext_word_p ?c_CRnext_word_p ?k_CRnext_word_p ?a_CRtake_p ?i_CRtake_p ?c_CRtake_p ?k_CRtake_p ?a_CRread_place_p ?i_CRread_place_p ?c_CRread_place_p ?k_CRread_place_p ?a_CRread_bound_p ?i_CRread_bound_p ?c_CRread_bound_p ?k_CRread_bound_p ?a_CRread_part_p ?i_CRread_part_p ?c_CRread_part_p ?k_CRread_part_p ?a_CRread_end_p ?i_CRread_end_p ?c_CRread_end_p ?k_CRread_end_p ?a_CQ__init___p ?i_CQ__init___p ?c_CQ__init___p ?k_CQ__init___p ?ic_ha_p ?ic_hn_p ?ic_ht_p ?ic_hm_p ?qk_NoneType_p ?qk_bool_p ?qk_int_p ?qk_str_p ?qk_list_p ?qk_tuple_p ?qk_dict_p ?a_CS_p ?a_CH_p ?a_CT_p ?a_CC_p ?a_CB_p ?a_CN_p ?eCH_in_p ?eCH_sa_p ?eCH_ex_p ?eCH_tt_p ?eCH_k_p ?eCH_nv_p ?eCH_sub_p ?eCH_ga_p ?eCH_gg_p ?eCH_hd_p ?eCH_ca_p ?eCH_mo_p ?kk_0_0_p ?kk_0_1_p ?kk_0_2_p ?kk_0_3_p ?kk_0_4_p ?eCT_in_p ?eCT_sa_p ?eCT_ex_p ?eCT_tt_p ?eCT_k_p ?eCT_nv_p ?eCT_sub_p ?eCT_ga_p ?eCT_gg_p ?eCT_hd_p ?eCT_ca_p ?eCT_mo_p ?kk_1_0_p ?kk_1_1_p ?kk_1_2_p ?kk_1_3_p ?kk_1_4_p ?eCC_in_p ?eCC_sa_p ?eCC_ex_p ?eCC_tt_p ?eCC_k_p ?eCC_nv_p ?eCC_sub_p ?eCC_ga_p ?eCC_gg_p ?eCC_hd_p ?eCC_ca_p ?eCC_mo_p ?kk_2_0_p ?kk_2_1_p ?kk_2_2_p ?kk_2_3_p ?kk_2_4_p ?eCB_in_p ?eCB_sa_p ?eCB_ex_p ?eCB_tt_p ?eCB_k_p ?eCB_nv_p ?eCB_sub_p ?eCB_ga_p ?eCB_gg_p ?eCB_hd_p ?eCB_ca_p ?eCB_mo_p ?kk_3_0_p ?kk_3_1_p ?kk_3_2_p ?kk_3_3_p ?kk_3_4_p ?eCN_in_p ?eCN_sa_p ?eCN_ex_p ?eCN_tt_p ?eCN_k_p ?eCN_nv_p ?eCN_sub_p ?eCN_ga_p ?eCN_gg_p ?eCN_hd_p ?eCN_ca_p ?eCN_mo_p ?kk_4_0_p ?kk_4_1_p ?kk_4_2_p ?kk_4_3_p ?kk_4_4_p ?ef_ty_p ?c_Err_p ?k_Err_p ?a_LETTERS_p ?a_FIGURES_p ?a_MOST_SIGNS_p ?a_MOST_IN_ROW_p ?a_MOST_WORDS_p ?a_MOST_DEEP_p ?a_NO_NAMES_p ?a_CHANGED_NAMES_p ?a_SHAPES_p ?z_isinstance_p ?z_len_p ?z_all_p ?z_any_p ?z_int_p ?z_str_p ?z_bool_p ?z_tuple_p ?z_set_p ?z_sorted_p ?z_max_p ?z_dict_p ?z_min_p ?z_range_p ?z_sum_p ?z_abs_p ?z_list_p ?z_repr_p
    (case a_is_integer => k_is)
    (case l_is_integer => k_is)
    (case a_is_name => k_is)
    (case l_is_name => k_is)
    (case a_are_unlike_names => k_is)
    (case l_are_unlike_names => k_is)
    (case a_is_head => k_is)
    (case l_is_head => k_is)
    (case a_is_table => k_is)
    (case l_is_table => k_is)
    (case a_is_tables => k_is)
    (case l_is_tables => k_is)
    (case a_free_names => k_is)
    (case l_free_names => k_is)
    (case a_whole_part => k_is)
    (case l_whole_part => k_is)
    (case a_check_question => k_is)
    (case l_check_question => k_is)
    (case a_width => k_is)
    (case l_width => k_is)
    (case a__law_pot => k_is)
    (case l__law_pot => k_is)
    (case a__law_take => k_is)
    (case l__law_take => k_is)
    (case a__law_of => k_is)
    (case l__law_of => k_is)
    (case a__law_odd => k_is)
    (case l__law_odd => k_is)
    (case a__law_caught => k_is)
    (case l__law_caught => k_is)
    (case a__law_word => k_is)
    (case l__law_word => k_is)
    (case a__law_is_refused => k_is)
    (case l__law_is_refused => k_is)
    (case a__law_are_told => k_is)
    (case l__law_are_told => k_is)
    (case a__law_are_texts_refused => k_is)
    (case l__law_are_texts_refused => k_is)
    (case a__law_are_bounds_right => k_is)
    (case l__law_are_bounds_right => k_is)
    (case a__law_right => k_is)
    (case l__law_right => k_is)
    (case a_law => k_is)
    (case l_law => k_is)
    (case a_CP => k_is)
    (case a_CR => k_is)
    (case a_CQ => k_is)
    (case a_CP__init__ => k_is)
    (case l_CP__init__ => k_is)
    (case a_CR__init__ => k_is)
    (case l_CR__init__ => k_is)
    (case a_CRnext_word => k_is)
    (case l_CRnext_word => k_is)
    (case a_CRtake => k_is)
    (case l_CRtake => k_is)
    (case a_CRread_place => k_is)
    (case l_CRread_place => k_is)
    (case a_CRread_bound => k_is)
    (case l_CRread_bound => k_is)
    (case a_CRread_part => k_is)
    (case l_CRread_part => k_is)
    (case a_CRread_end => k_is)
    (case l_CRread_end => k_is)
    (case a_CQ__init__ => k_is)
    (case l_CQ__init__ => k_is)
    (case a_CS => k_is)
    (case a_CH => k_is)
    (case a_CT => k_is)
    (case a_CC => k_is)
    (case a_CB => k_is)
    (case a_CN => k_is)
    (case eCH_in => k_is)
    (case l_CH => k_is)
    (case eCH_cls => exact ⟨_, _, _, _, _, _, _, _, _, _, _, _, _, _, _, rfl, rfl⟩)
    (case l_CT => k_is)
    (case eCT_cls => exact ⟨_, _, _, _, _, _, _, _, _, _, _, _, _, _, _, rfl, rfl⟩)
    (case l_CC => k_is)
    (case eCC_cls => exact ⟨_, _, _, _, _, _, _, _, _, _, _, _, _, _, _, rfl, rfl⟩)
    (case l_CB => k_is)
    (case eCB_cls => exact ⟨_, _, _, _, _, _, _, _, _, _, _, _, _, _, _, rfl, rfl⟩)
    (case l_CN => k_is)
    (case eCN_cls => exact ⟨_, _, _, _, _, _, _, _, _, _, _, _, _, _, _, rfl, rfl⟩)
    (case l_Err => k_is)
    (case a_LETTERS => k_is)
    (case a_FIGURES => k_is)
    (case a_MOST_SIGNS => k_is)
    (case a_MOST_IN_ROW => k_is)
    (case a_MOST_WORDS => k_is)
    (case a_MOST_DEEP => k_is)
    (case a_NO_NAMES => k_is)
    (case l_NO_NAMES => k_is)
    (case q_NO_NAMES => refine ⟨rfl, _, _, rfl, by show _ ≤ sizeLine; decide, ?_⟩; repeat (first | exact .nil | refine .cons ⟨_, rfl⟩ ?_))
    (case a_CHANGED_NAMES => k_is)
    (case l_CHANGED_NAMES => k_is)
    (case q_CHANGED_NAMES => refine ⟨rfl, _, _, rfl, by show _ ≤ sizeLine; decide, ?_⟩; repeat (first | exact .nil | refine .cons ⟨_, rfl⟩ ?_))
    (case a_SHAPES => k_is)
    (case l_SHAPES => k_is)
    (case q_SHAPES => exact rfl)
    (case e_SHAPES => decide)
    (case l_T0 => k_is)
    (case q_T0 => exact rfl)
    (case l_T1 => k_is)
    (case q_T1 => exact rfl)
    (case l_T2 => k_is)
    (case q_T2 => exact rfl)
    (case l_T3 => k_is)
    (case q_T3 => exact rfl)
    (case l_T4 => k_is)
    (case q_T4 => exact rfl)
    (case l_T5 => k_is)
    (case q_T5 => exact rfl)
    (case l_T6 => k_is)
    (case q_T6 => exact rfl)
    (case l_T7 => k_is)
    (case q_T7 => exact rfl)
    (case l_T8 => k_is)
    (case q_T8 => exact rfl)
    (case l_T9 => k_is)
    (case q_T9 => exact rfl)
    (case ne_R => decide)
    (case ne_Q => decide)
    (case q_cdRi => exact rfl)
    (case q_cdTr => exact rfl)
    (case q_cdBo => exact rfl)
    (case l_JRi => k_is)
    (case d_JRi => exact rfl)
    (case t_JRi => exact rfl)
    (case h_JRi => kernel_rfl)
    (case l_TbRi => k_is)
    (case l_JTr => k_is)
    (case d_JTr => exact rfl)
    (case t_JTr => exact rfl)
    (case h_JTr => kernel_rfl)
    (case l_TbTr => k_is)
    (case l_JBo => k_is)
    (case d_JBo => exact rfl)
    (case t_JBo => exact rfl)
    (case h_JBo => kernel_rfl)
    (case l_TbBo => k_is)
    (case apart1 => decide)
    (case apart2 => decide)
    (case apart3 => decide)
    (case dl_is_integer => kernel_rfl)
    (case dl_is_name => kernel_rfl)
    (case dl_are_unlike_names => kernel_rfl)
    (case dl_is_head => kernel_rfl)
    (case dl_is_table => kernel_rfl)
    (case dl_is_tables => kernel_rfl)
    (case dl_free_names => kernel_rfl)
    (case dl_whole_part => kernel_rfl)
    (case dl_check_question => kernel_rfl)
    (case dl_width => kernel_rfl)
    (case dl__law_pot => kernel_rfl)
    (case dl__law_take => kernel_rfl)
    (case dl__law_of => kernel_rfl)
    (case dl__law_odd => kernel_rfl)
    (case dl__law_caught => kernel_rfl)
    (case dl__law_word => kernel_rfl)
    (case dl__law_is_refused => kernel_rfl)
    (case dl__law_are_told => kernel_rfl)
    (case dl__law_are_texts_refused => kernel_rfl)
    (case dl__law_are_bounds_right => kernel_rfl)
    (case dl__law_right => kernel_rfl)
    (case dl_law => kernel_rfl)
    (case dl_CP__init__ => kernel_rfl)
    (case dl_CR__init__ => kernel_rfl)
    (case dl_CRnext_word => kernel_rfl)
    (case dl_CRtake => kernel_rfl)
    (case dl_CRread_place => kernel_rfl)
    (case dl_CRread_bound => kernel_rfl)
    (case dl_CRread_part => kernel_rfl)
    (case dl_CRread_end => kernel_rfl)
    (case dl_CQ__init__ => kernel_rfl)
    (case dl_CH => kernel_rfl)
    (case dl_CT => kernel_rfl)
    (case dl_CC => kernel_rfl)
    (case dl_CB => kernel_rfl)
    (case dl_CN => kernel_rfl)
    (case dl_Err => kernel_rfl)
    (case dl_NO_NAMES => kernel_rfl)
    (case dl_CHANGED_NAMES => kernel_rfl)
    (case dl_SHAPES => kernel_rfl)
    (case dl_T0 => kernel_rfl)
    (case dl_T1 => kernel_rfl)
    (case dl_T2 => kernel_rfl)
    (case dl_T3 => kernel_rfl)
    (case dl_T4 => kernel_rfl)
    (case dl_T5 => kernel_rfl)
    (case dl_T6 => kernel_rfl)
    (case dl_T7 => kernel_rfl)
    (case dl_T8 => kernel_rfl)
    (case dl_T9 => kernel_rfl)
    (case a_is_integer_p => kernel_rfl)
    (case c_is_integer_p => kernel_rfl)
    (case k_is_integer_p => kernel_rfl)
    (case a_is_name_p => kernel_rfl)
    (case c_is_name_p => kernel_rfl)
    (case k_is_name_p => kernel_rfl)
    (case a_are_unlike_names_p => kernel_rfl)
    (case c_are_unlike_names_p => kernel_rfl)
    (case k_are_unlike_names_p => kernel_rfl)
    (case a_is_head_p => kernel_rfl)
    (case c_is_head_p => kernel_rfl)
    (case k_is_head_p => kernel_rfl)
    (case a_is_table_p => kernel_rfl)
    (case c_is_table_p => kernel_rfl)
    (case k_is_table_p => kernel_rfl)
    (case a_is_tables_p => kernel_rfl)
    (case c_is_tables_p => kernel_rfl)
    (case k_is_tables_p => kernel_rfl)
    (case a_free_names_p => kernel_rfl)
    (case c_free_names_p => kernel_rfl)
    (case k_free_names_p => kernel_rfl)
    (case a_whole_part_p => kernel_rfl)
    (case c_whole_part_p => kernel_rfl)
    (case k_whole_part_p => kernel_rfl)
    (case a_check_question_p => kernel_rfl)
    (case c_check_question_p => kernel_rfl)
    (case k_check_question_p => kernel_rfl)
    (case a_width_p => kernel_rfl)
    (case c_width_p => kernel_rfl)
    (case k_width_p => kernel_rfl)
    (case a__law_pot_p => kernel_rfl)
    (case c__law_pot_p => kernel_rfl)
    (case k__law_pot_p => kernel_rfl)
    (case a__law_take_p => kernel_rfl)
    (case c__law_take_p => kernel_rfl)
    (case k__law_take_p => kernel_rfl)
    (case a__law_of_p => kernel_rfl)
    (case c__law_of_p => kernel_rfl)
    (case k__law_of_p => kernel_rfl)
    (case a__law_odd_p => kernel_rfl)
    (case c__law_odd_p => kernel_rfl)
    (case k__law_odd_p => kernel_rfl)
    (case a__law_caught_p => kernel_rfl)
    (case c__law_caught_p => kernel_rfl)
    (case k__law_caught_p => kernel_rfl)
    (case a__law_word_p => kernel_rfl)
    (case c__law_word_p => kernel_rfl)
    (case k__law_word_p => kernel_rfl)
    (case a__law_is_refused_p => kernel_rfl)
    (case c__law_is_refused_p => kernel_rfl)
    (case k__law_is_refused_p => kernel_rfl)
    (case a__law_are_told_p => kernel_rfl)
    (case c__law_are_told_p => kernel_rfl)
    (case k__law_are_told_p => kernel_rfl)
    (case a__law_are_texts_refused_p => kernel_rfl)
    (case c__law_are_texts_refused_p => kernel_rfl)
    (case k__law_are_texts_refused_p => kernel_rfl)
    (case a__law_are_bounds_right_p => kernel_rfl)
    (case c__law_are_bounds_right_p => kernel_rfl)
    (case k__law_are_bounds_right_p => kernel_rfl)
    (case a__law_right_p => kernel_rfl)
    (case c__law_right_p => kernel_rfl)
    (case k__law_right_p => kernel_rfl)
    (case a_law_p => kernel_rfl)
    (case c_law_p => kernel_rfl)
    (case k_law_p => kernel_rfl)
    (case a_CP_p => kernel_rfl)
    (case pg_CP_p => kernel_rfl)
    (case hd_CP_p => kernel_rfl)
    (case po_CP_p => kernel_rfl)
    (case sa_CP_p => kernel_rfl)
    (case mk_CP_p => kernel_rfl)
    (case kc_CP_p => kernel_rfl)
    (case n_CP_word_p => kernel_rfl)
    (case n_CP_places_p => kernel_rfl)
    (case n_CP_bound_p => kernel_rfl)
    (case n_CP_inner_p => kernel_rfl)
    (case n_CP_free_p => kernel_rfl)
    (case n_CP_depth_p => kernel_rfl)
    (case n_CP_most_names_p => kernel_rfl)
    (case a_CR_p => kernel_rfl)
    (case pg_CR_p => kernel_rfl)
    (case hd_CR_p => kernel_rfl)
    (case po_CR_p => kernel_rfl)
    (case sa_CR_p => kernel_rfl)
    (case mk_CR_p => kernel_rfl)
    (case kc_CR_p => kernel_rfl)
    (case n_CR_words_p => kernel_rfl)
    (case n_CR_many_read_p => kernel_rfl)
    (case n_CR_shapes_p => kernel_rfl)
    (case a_CQ_p => kernel_rfl)
    (case pg_CQ_p => kernel_rfl)
    (case hd_CQ_p => kernel_rfl)
    (case po_CQ_p => kernel_rfl)
    (case sa_CQ_p => kernel_rfl)
    (case mk_CQ_p => kernel_rfl)
    (case kc_CQ_p => kernel_rfl)
    (case n_CQ_whole_p => kernel_rfl)
    (case n_CQ_head_p => kernel_rfl)
    (case n_CQ_text_p => kernel_rfl)
    (case n_CQ_tables_p => kernel_rfl)
    (case n_CQ_changed_p => kernel_rfl)
    (case n_CQ_is_loopless_p => kernel_rfl)
    (case n_CQ_deep_p => kernel_rfl)
    (case a_CP__init___p => kernel_rfl)
    (case i_CP__init___p => kernel_rfl)
    (case c_CP__init___p => kernel_rfl)
    (case k_CP__init___p => kernel_rfl)
    (case a_CR__init___p => kernel_rfl)
    (case i_CR__init___p => kernel_rfl)
    (case c_CR__init___p => kernel_rfl)
    (case k_CR__init___p => kernel_rfl)
    (case a_CRnext_word_p => kernel_rfl)
    (case i_CRnext_word_p => kernel_rfl)
    (case c_CRnext_word_p => kernel_rfl)
    (case k_CRnext_word_p => kernel_rfl)
    (case a_CRtake_p => kernel_rfl)
    (case i_CRtake_p => kernel_rfl)
    (case c_CRtake_p => kernel_rfl)
    (case k_CRtake_p => kernel_rfl)
    (case a_CRread_place_p => kernel_rfl)
    (case i_CRread_place_p => kernel_rfl)
    (case c_CRread_place_p => kernel_rfl)
    (case k_CRread_place_p => kernel_rfl)
    (case a_CRread_bound_p => kernel_rfl)
    (case i_CRread_bound_p => kernel_rfl)
    (case c_CRread_bound_p => kernel_rfl)
    (case k_CRread_bound_p => kernel_rfl)
    (case a_CRread_part_p => kernel_rfl)
    (case i_CRread_part_p => kernel_rfl)
    (case c_CRread_part_p => kernel_rfl)
    (case k_CRread_part_p => kernel_rfl)
    (case a_CRread_end_p => kernel_rfl)
    (case i_CRread_end_p => kernel_rfl)
    (case c_CRread_end_p => kernel_rfl)
    (case k_CRread_end_p => kernel_rfl)
    (case a_CQ__init___p => kernel_rfl)
    (case i_CQ__init___p => kernel_rfl)
    (case c_CQ__init___p => kernel_rfl)
    (case k_CQ__init___p => kernel_rfl)
    (case ic_ha_p => kernel_rfl)
    (case ic_hn_p => kernel_rfl)
    (case ic_ht_p => kernel_rfl)
    (case ic_hm_p => kernel_rfl)
    (case qk_NoneType_p => kernel_rfl)
    (case qk_bool_p => kernel_rfl)
    (case qk_int_p => kernel_rfl)
    (case qk_str_p => kernel_rfl)
    (case qk_list_p => kernel_rfl)
    (case qk_tuple_p => kernel_rfl)
    (case qk_dict_p => kernel_rfl)
    (case a_CS_p => kernel_rfl)
    (case a_CH_p => kernel_rfl)
    (case a_CT_p => kernel_rfl)
    (case a_CC_p => kernel_rfl)
    (case a_CB_p => kernel_rfl)
    (case a_CN_p => kernel_rfl)
    (case eCH_in_p => kernel_rfl)
    (case eCH_sa_p => kernel_rfl)
    (case eCH_ex_p => kernel_rfl)
    (case eCH_tt_p => kernel_rfl)
    (case eCH_k_p => kernel_rfl)
    (case eCH_nv_p => kernel_rfl)
    (case eCH_sub_p => kernel_rfl)
    (case eCH_ga_p => kernel_rfl)
    (case eCH_gg_p => kernel_rfl)
    (case eCH_hd_p => kernel_rfl)
    (case eCH_ca_p => kernel_rfl)
    (case eCH_mo_p => kernel_rfl)
    (case kk_0_0_p => kernel_rfl)
    (case kk_0_1_p => kernel_rfl)
    (case kk_0_2_p => kernel_rfl)
    (case kk_0_3_p => kernel_rfl)
    (case kk_0_4_p => kernel_rfl)
    (case eCT_in_p => kernel_rfl)
    (case eCT_sa_p => kernel_rfl)
    (case eCT_ex_p => kernel_rfl)
    (case eCT_tt_p => kernel_rfl)
    (case eCT_k_p => kernel_rfl)
    (case eCT_nv_p => kernel_rfl)
    (case eCT_sub_p => kernel_rfl)
    (case eCT_ga_p => kernel_rfl)
    (case eCT_gg_p => kernel_rfl)
    (case eCT_hd_p => kernel_rfl)
    (case eCT_ca_p => kernel_rfl)
    (case eCT_mo_p => kernel_rfl)
    (case kk_1_0_p => kernel_rfl)
    (case kk_1_1_p => kernel_rfl)
    (case kk_1_2_p => kernel_rfl)
    (case kk_1_3_p => kernel_rfl)
    (case kk_1_4_p => kernel_rfl)
    (case eCC_in_p => kernel_rfl)
    (case eCC_sa_p => kernel_rfl)
    (case eCC_ex_p => kernel_rfl)
    (case eCC_tt_p => kernel_rfl)
    (case eCC_k_p => kernel_rfl)
    (case eCC_nv_p => kernel_rfl)
    (case eCC_sub_p => kernel_rfl)
    (case eCC_ga_p => kernel_rfl)
    (case eCC_gg_p => kernel_rfl)
    (case eCC_hd_p => kernel_rfl)
    (case eCC_ca_p => kernel_rfl)
    (case eCC_mo_p => kernel_rfl)
    (case kk_2_0_p => kernel_rfl)
    (case kk_2_1_p => kernel_rfl)
    (case kk_2_2_p => kernel_rfl)
    (case kk_2_3_p => kernel_rfl)
    (case kk_2_4_p => kernel_rfl)
    (case eCB_in_p => kernel_rfl)
    (case eCB_sa_p => kernel_rfl)
    (case eCB_ex_p => kernel_rfl)
    (case eCB_tt_p => kernel_rfl)
    (case eCB_k_p => kernel_rfl)
    (case eCB_nv_p => kernel_rfl)
    (case eCB_sub_p => kernel_rfl)
    (case eCB_ga_p => kernel_rfl)
    (case eCB_gg_p => kernel_rfl)
    (case eCB_hd_p => kernel_rfl)
    (case eCB_ca_p => kernel_rfl)
    (case eCB_mo_p => kernel_rfl)
    (case kk_3_0_p => kernel_rfl)
    (case kk_3_1_p => kernel_rfl)
    (case kk_3_2_p => kernel_rfl)
    (case kk_3_3_p => kernel_rfl)
    (case kk_3_4_p => kernel_rfl)
    (case eCN_in_p => kernel_rfl)
    (case eCN_sa_p => kernel_rfl)
    (case eCN_ex_p => kernel_rfl)
    (case eCN_tt_p => kernel_rfl)
    (case eCN_k_p => kernel_rfl)
    (case eCN_nv_p => kernel_rfl)
    (case eCN_sub_p => kernel_rfl)
    (case eCN_ga_p => kernel_rfl)
    (case eCN_gg_p => kernel_rfl)
    (case eCN_hd_p => kernel_rfl)
    (case eCN_ca_p => kernel_rfl)
    (case eCN_mo_p => kernel_rfl)
    (case kk_4_0_p => kernel_rfl)
    (case kk_4_1_p => kernel_rfl)
    (case kk_4_2_p => kernel_rfl)
    (case kk_4_3_p => kernel_rfl)
    (case kk_4_4_p => kernel_rfl)
    (case ef_ty_p => kernel_rfl)
    (case c_Err_p => kernel_rfl)
    (case k_Err_p => kernel_rfl)
    (case a_LETTERS_p => kernel_rfl)
    (case a_FIGURES_p => kernel_rfl)
    (case a_MOST_SIGNS_p => kernel_rfl)
    (case a_MOST_IN_ROW_p => kernel_rfl)
    (case a_MOST_WORDS_p => kernel_rfl)
    (case a_MOST_DEEP_p => kernel_rfl)
    (case a_NO_NAMES_p => kernel_rfl)
    (case a_CHANGED_NAMES_p => kernel_rfl)
    (case a_SHAPES_p => kernel_rfl)
    (case z_isinstance_p => kernel_rfl)
    (case z_len_p => kernel_rfl)
    (case z_all_p => kernel_rfl)
    (case z_any_p => kernel_rfl)
    (case z_int_p => kernel_rfl)
    (case z_str_p => kernel_rfl)
    (case z_bool_p => kernel_rfl)
    (case z_tuple_p => kernel_rfl)
    (case z_set_p => kernel_rfl)
    (case z_sorted_p => kernel_rfl)
    (case z_max_p => kernel_rfl)
    (case z_dict_p => kernel_rfl)
    (case z_min_p => kernel_rfl)
    (case z_range_p => kernel_rfl)
    (case z_sum_p => kernel_rfl)
    (case z_abs_p => kernel_rfl)
    (case z_list_p => kernel_rfl)
    (case z_repr_p => kernel_rfl)

