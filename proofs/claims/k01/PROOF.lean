import PyProof.Rows.All
import Wide.All
import OpenK.AllK
import Wide.FinOn
import HandS.ForMost
import HandS.ForExc
import HandS.ForDict
import HandS.Text
import HandS.Conv
import HandS.SortRule
import HandS.NamedTupSort
import KE.KSortTupAny
import HandS.SortInts
import HandS.Sort
import KE.KSortKeySt
import HandS.SortKw
import HandS.Nested
import HandS.Lambda
import HandS.SetFor
import HandS.Strs
import HandS.Gcd
import HandS.TupAny
import HandS.TupMul
import HandS.Wide
import HandS.WideBits
import HandS.Deep
import HandS.Flow
import HandS.IsInst
import HandS.HeadHook1
import HandS.Style
import HandS.Defaults
import HandS.Ends
import HandS.HeadEnd
import HandS.HeadHook2
import HandS.HeadHook4
import HandS.HeadWalk
import KE.BitLaws
import KE.IntBitsLaws
import KE.KEqSeq
import KE.KStateDown
import Lean
import HandS.Words
import HandS.WordsExc
import HandS.Head0
import HandS.Head1
import HandS.Head2
import KE.KBits
import KE.OsArith
import PySem.Challenge.RW_ringtables_k01_whole_forms_and_opposites
section
set_option Elab.async false
set_option linter.all false
set_option autoImplicit false
set_option maxRecDepth 100000
set_option maxHeartbeats 4000000
/-! sorted of tuples of ints of any lengths -/
namespace SrtTI
open PySem PySem.Spec PyProof.Rows PySem.W
open HT (lexLt)
open Srt

theorem lex_asym : ∀ (a b : List Int), lexLt a b = true → lexLt b a = false
  | [], [], h => by cases h
  | [], _ :: _, _ => rfl
  | _ :: _, [], h => by cases h
  | x :: xs, y :: ys, h => by
    rw [HT.lexLt_cons] at h ⊢
    by_cases e : x = y
    · rw [if_pos e] at h
      rw [if_pos e.symm]
      exact lex_asym xs ys h
    · rw [if_neg e] at h
      rw [if_neg fun z => e z.symm]
      have := of_decide_eq_true h
      exact decide_eq_false (by omega)
/-- what is not below goes on -/
theorem lex_tr : ∀ (a b c : List Int), lexLt b a = false → lexLt c b = false → lexLt c a = false
  | [], b, [], _, _ => rfl
  | [], [], _ :: _, _, _ => rfl
  | [], _ :: _, c :: cs, _, _ => rfl
  | a :: as, [], [], h, _ => by cases h
  | a :: as, b :: bs, [], _, h => by cases h
  | a :: as, [], c :: cs, h, _ => by cases h
  | a :: as, b :: bs, c :: cs, h1, h2 => by
    rw [HT.lexLt_cons] at h1 h2 ⊢
    by_cases e1 : b = a
    · subst e1
      rw [if_pos rfl] at h1
      by_cases e2 : c = b
      · subst e2
        rw [if_pos rfl] at h2 ⊢
        exact lex_tr as bs cs h1 h2
      · rw [if_neg e2] at h2 ⊢
        exact h2
    · rw [if_neg e1] at h1
      have h1 := of_decide_eq_false h1
      by_cases e2 : c = b
      · subst e2
        rw [if_neg e1]
        exact decide_eq_false h1
      · rw [if_neg e2] at h2
        have h2 := of_decide_eq_false h2
        have : ¬ c = a := by omega
        rw [if_neg this]
        exact decide_eq_false (by omega)
theorem swo_lexI {α : Type} (k : α → List Int) : SrtO.Swo fun v u => lexLt (k v) (k u) := ⟨fun x y h => lex_asym _ _ h, fun x y z h1 h2 => lex_tr _ _ _ h1 h2⟩
/-- a tuple of these ints -/
def IsTI (h : Heap) (v : Value) (ns : List Int) : Prop := ∃ (a : Addr) (its : Array Value), v = .ref a ∧ h.IsTuple a its ∧ IntsAre its.toList ns
theorem IsTI.keeps {h h' : Heap} {v : Value} {ns : List Int} (x : IsTI h v ns) (k : ∀ b o, h.get? b = some o → o.cls = .type "tuple" → h'.get? b = some o) : IsTI h' v ns := by
  obtain ⟨a, its, e, ⟨o, ho, hc, n, hd⟩, i⟩ := x
  exact ⟨a, its, e, ⟨o, k _ _ ho hc, hc, n, hd⟩, i⟩
section
variable {prog : Program} {w : World} {A : Around} {E : Value → Shared → Prop} {s : Shared}
theorem IsTI.type {M : Model} {h : Heap} {v : Value} {ns : List Int} (x : IsTI h v ns) : Looks M h (typeOf v) (.type "tuple") := by
  obtain ⟨a, its, rfl, ⟨o, ho, hc, n, hd⟩, i⟩ := x
  rw [← hc]
  exact (Looks.ld ho).andThen .now
theorem sub_tup (M : Model) (h : Heap) : Looks M h (isSubtype (.type "tuple") (.type "tuple")) true := Looks.of_pure AutoSeq1.sub_tuple_tuple
theorem IsTI.inst {M : Model} {h : Heap} {v : Value} {ns : List Int} (x : IsTI h v ns) : Looks M h (isInstance v (.type "tuple")) true := x.type.andThen (sub_tup M h)
theorem IsTI.special {M : Model} {h : Heap} {v : Value} {ns : List Int} (x : IsTI h v ns) : Looks M h (specialOf v "__lt__") (some (.builtin "tuple.__lt__")) := x.type.andThen (Looks.of_pure PySem.F.slot_tuple_lt.lookup)
theorem call_ltT {v u : Value} {ns ms : List Int} {Q : Value → Shared → Prop} (hv : IsTI s.heap v ns) (hw : IsTI s.heap u ms) (h : Q (.bool (lexLt ns ms)) s) : wpAny (model prog w) A (call (.builtin "tuple.__lt__") [v, u]) Q E s := by
  obtain ⟨a, its, rfl, ⟨⟨cls, dd, data, sl⟩, ho, hc, n, hd⟩, ia⟩ := hv
  obtain ⟨b, its2, rfl, ⟨⟨cls2, dd2, data2, sl2⟩, ho2, hc2, n2, hd2⟩, ib⟩ := hw
  simp only at hc hd hc2 hd2
  subst hc hd hc2 hd2
  refine wpAny_call (codeAny_call_builtin PySem.F.slot_tuple_lt.plain PySem.F.entry_tuple_lt (PySem.F.slot_tuple_lt.check _ _ _ _ _ _ _ _ ⟨_, ho, rfl⟩ (PySem.F.args_tuple_lt_2 _ _) ?_))
  refine wpAny_mono (HT.tuple_lt_ints a b its its2 n n2 dd dd2 sl sl2 ns ms ia ib prog w _ (wants Q E) s ⟨ho, ho2, h⟩) (fun fin s' q => ?_) fun _ _ z => z
  cases fin with
  | done f => exact q
  | again c => exact q
theorem lt_one {v u : Value} {ns ms : List Int} {Q : Bool → Shared → Prop} (hu : A.units < cLine) (hv : IsTI s.heap v ns) (hw : IsTI s.heap u ms) (h : Q (lexLt ns ms) s) : wpAny (model prog w) A (keyLt' oneType' v u) Q E s := by
  rw [keyLt'_oneType, oneLt'_eq]
  simp only [if_true]
  refine wpAny_bind (wpAny_cRoomFor hu ?_)
  have hb : bindSpecial (.builtin "tuple.__lt__") v = pure (.builtin "tuple.__lt__", [v]) := PySem.F.slot_tuple_lt.bind v
  refine wpAny_bind (NtL.csib (E := E) hv.special hb (call_ltT hv hw ?_))
  exact wpAny_truthy_bool h
theorem mapM_first : ∀ (vs : List Value) {Q : List (Option Value) → Shared → Prop}, (∀ v, v ∈ vs → ∃ ns, IsTI s.heap v ns) →
    (∀ fs : List (Option Value), fs.length = vs.length → (∀ (i : Nat) (v : Value) (ns : List Int), vs[i]? = some v → IsTI s.heap v ns → ∃ t, fs[i]? = some (ns[0]?.map fun k => Value.int k t)) → Q fs s) → wpAny (model prog w) A (vs.mapM firstOfTuple') Q E s
  | [], Q, _, h => by
    rw [List.mapM_nil]
    exact wpAny_pure (h [] rfl fun i v ns q _ => by simp at q)
  | v :: vs, Q, hv, h => by
    obtain ⟨ns, x⟩ := hv v List.mem_cons_self
    have x0 := x
    obtain ⟨a, its, rfl, ⟨⟨cls, dd, data, sl⟩, ho, hc, n, hd⟩, ia⟩ := x
    simp only at hc hd
    subst hc hd
    rw [List.mapM_cons]
    refine wpAny_bind ?_
    rw [kas_first_eq]
    refine wpAny_bind (x0.type.here ?_)
    rw [if_neg (by first | decide | simp)]
    refine wpAny_bind (listItems_at ho rfl (wpAny_pure ?_))
    refine wpAny_bind (mapM_first vs (Q := fun bs s' => wpAny (model prog w) A (pure (its[0]? :: bs)) Q E s') (fun u hu => hv u (List.mem_cons_of_mem _ hu)) fun fs hl hf => wpAny_pure (h _ (by rw [List.length_cons, hl, List.length_cons]) fun i u ms q y => ?_))
    cases i with
    | zero =>
      rw [List.getElem?_cons_zero] at q
      cases q
      obtain ⟨a', its', e, ⟨o', ho', hc', n', hd'⟩, ib⟩ := y
      cases e
      rw [ho] at ho'
      cases ho'
      cases hd'
      rw [List.getElem?_cons_zero]
      cases ms with
      | nil =>
        refine ⟨default, ?_⟩
        have hl : its.toList = [] := by cases hh : its.toList with
          | nil => rfl
          | cons z zs => rw [hh] at ib; cases ib
        have hz : its = #[] := by
          apply Array.toList_inj.mp
          simpa using hl
        rw [hz]
        rfl
      | cons k ms =>
        cases hh : its.toList with
        | nil => rw [hh] at ib; cases ib
        | cons z zs =>
          rw [hh] at ib
          cases ib with
          | cons _ t _ =>
            refine ⟨t, ?_⟩
            have : its[0]? = some (Value.int k t) := by
              rw [← Array.getElem?_toList, hh]
              rfl
            rw [this]
            rfl
    | succ i =>
      rw [List.getElem?_cons_succ] at q ⊢
      exact hf i u ms q y
theorem one_kind {vs : List Value} {Q : Bool → Shared → Prop} (h2 : 2 ≤ vs.length) (hT : ∀ v, v ∈ vs → ∃ ns, IsTI s.heap v ns) (h : Q true s) : wpAny (model prog w) A (oneTypeOnly' vs.toArray) (fun r s' => Q r.isSome s') E s := by
  obtain ⟨v₁, v₂, rest, rfl⟩ : ∃ v₁ v₂ rest, vs = v₁ :: v₂ :: rest := by
    match vs, h2 with
    | [], h2 => simp at h2
    | [_], h2 => simp at h2
    | v₁ :: v₂ :: rest, _ => exact ⟨v₁, v₂, rest, rfl⟩
  rw [oneTypeOnly'_eq, List.mapM_toArray, map_eq_pure_bind]
  refine wpAny_bind (wpAny_bind (kas_mapM (r := Value.type "tuple") _ (fun v hv Q' hq => by
    obtain ⟨ns, x⟩ := hT v hv
    exact x.type.here hq) (wpAny_pure ?_)))
  have hall : ((List.map (fun _ => Value.type "tuple") (v₁ :: v₂ :: rest)).toArray.all fun x => x == Value.type "tuple") = true := by
    simp only [List.all_toArray, List.all_map, List.all_eq_true]
    intro _ _
    rfl
  have h0 : (List.map (fun _ => Value.type "tuple") (v₁ :: v₂ :: rest)).toArray[0]? = some (Value.type "tuple") := by simp
  rw [h0]
  simp only [hall, if_true]
  exact wpAny_pure h
/-- the first one is empty -/
theorem kind_empty {v : Value} {vs : List Value} {Q : SortKind → Shared → Prop} (h2 : 2 ≤ (v :: vs).length) (hT : ∀ u, u ∈ v :: vs → ∃ ns, IsTI s.heap u ns) (h0 : IsTI s.heap v []) (h : Q oneType' s) : wpAny (model prog w) A (keyKind' (v :: vs).toArray) Q E s := by
  rw [kat_kind_eq, List.mapM_toArray, map_eq_pure_bind]
  refine wpAny_bind (wpAny_bind (mapM_first _ hT fun fs hl hf => wpAny_pure ?_))
  obtain ⟨t, e⟩ := hf 0 v [] rfl h0
  cases fs with
  | nil => cases hl
  | cons f fs =>
    rw [List.getElem?_cons_zero] at e
    cases e
    rw [if_neg (by simp), if_neg (by simp)]
    refine wpAny_bind (wpAny_mono (one_kind (Q := fun b s' => b = true ∧ s' = s) h2 hT ⟨rfl, rfl⟩) (fun r s' q => ?_) fun _ _ z => z)
    obtain ⟨q1, q2⟩ := q
    subst q2
    rw [q1]
    exact wpAny_pure h
/-- none is empty -/
theorem kind_full {vs : List Value} {Q : SortKind → Shared → Prop} (h1 : 1 ≤ vs.length) (hT : ∀ u, u ∈ vs → ∃ k ns, IsTI s.heap u (k :: ns)) (h : Q (tuples' true) s) : wpAny (model prog w) A (keyKind' vs.toArray) Q E s := by
  have hF : ∃ fs, TupsOf s.heap (fun _ => false) vs fs ∧ fs.length = vs.length := by
    clear h h1
    induction vs with
    | nil => exact ⟨[], .nil, rfl⟩
    | cons v vs ih =>
      obtain ⟨fs, t, hl⟩ := ih fun u hu => hT u (List.mem_cons_of_mem _ hu)
      obtain ⟨k, ns, a, its, rfl, ⟨o, ho, hc, n, hd⟩, ia⟩ := hT v List.mem_cons_self
      cases hh : its.toList with
      | nil => rw [hh] at ia; cases ia
      | cons z zs =>
        rw [hh] at ia
        cases ia with
        | cons _ t' _ =>
          refine ⟨Value.int k t' :: fs, .cons ⟨a, o, its, n, rfl, ho, hc, hd, ?_, fun _ => ⟨k, t', rfl⟩, fun q => by cases q⟩ t, by rw [List.length_cons, hl, List.length_cons]⟩
          rw [← Array.getElem?_toList, hh]
          rfl
  obtain ⟨fs, t, hl⟩ := hF
  exact tup_kind (by omega) t h
theorem lex_many {b fin : Bool} {Q : Bool → Shared → Prop} : ∀ (xs ys : List Value) (ns ms : List Int) (i : Nat), IntsAre xs ns → IntsAre ys ms → fin = decide (xs.length < ys.length) → Q (lexLt ns ms) s → KatLex prog w A b fin Q (xs.zip ys) i s
  | [], [], _, _, i, .nil, .nil, hf, h => kat_nil (by rw [hf]; exact h)
  | [], _ :: ys, _, _, i, .nil, .cons c u r, hf, h => by
    rw [List.zip_nil_left]
    refine kat_nil ?_
    rw [hf, decide_eq_true (by rw [List.length_nil, List.length_cons]; omega)]
    exact h
  | _ :: xs, [], _, _, i, .cons c u r, .nil, hf, h => by
    rw [List.zip_nil_right]
    refine kat_nil ?_
    rw [hf, decide_eq_false (by rw [List.length_nil, List.length_cons]; omega)]
    exact h
  | _ :: xs, _ :: ys, _, _, i, .cons n t ha, .cons m u hb, hf, h => by
    rw [List.zip_cons_cons]
    rw [HT.lexLt_cons] at h
    refine kat_cons (wpAny_eqBool_int ?_)
    refine kat_go (fun e => kat_yes ?_) (fun e => kat_no ?_)
    · have hnm : n = m := by simpa using e
      rw [if_pos hnm] at h
      exact lex_many xs ys _ _ (i + 1) ha hb (by rw [hf]; simp only [List.length_cons, Nat.add_lt_add_iff_right]) h
    · have hnm : ¬ n = m := by simpa using e
      rw [if_neg hnm] at h
      exact oneLt_any_int h
theorem lt_many {b : Bool} {v u : Value} {ns ms : List Int} {Q : Bool → Shared → Prop} (hv : IsTI s.heap v ns) (hw : IsTI s.heap u ms) (h : Q (lexLt ns ms) s) : wpAny (model prog w) A (keyLt' (tuples' b) v u) Q E s := by
  obtain ⟨a, its, rfl, ⟨o, ho, hc, n, hd⟩, ia⟩ := hv
  obtain ⟨a2, its2, rfl, ⟨o2, ho2, hc2, n2, hd2⟩, ib⟩ := hw
  exact kat_lt ho hd ho2 hd2 (lex_many its.toList its2.toList ns ms 0 ia ib (by rw [Array.length_toList, Array.length_toList]) h)
/-- either none is empty, or the first one is -/
def Fine (k : Value → List Int) : List Value → Prop
  | [] => True
  | v :: vs => k v = [] ∨ ∀ u, u ∈ v :: vs → k u ≠ []
theorem ti_sortable {a : Addr} {vs : List Value} {k : Value → List Int} (h2 : 2 ≤ vs.length) (hu : A.units < cLine) (hp : ∀ v, v ∈ vs → IsTI s.heap v (k v)) (hf : Fine k vs) (ha : ∀ o, s.heap.get? a = some o → o.cls ≠ .type "tuple") : SrtO.SortableO prog w A s a vs fun v u => lexLt (k v) (k u) := by
  intro h' keep
  have hp' : ∀ v, v ∈ vs → IsTI h' v (k v) := fun v hm => (hp v hm).keeps fun b o e c => keep b o (fun z => by subst z; exact ha o e c) e
  match vs, h2, hf, hp' with
  | v :: vs, h2, hf, hp' =>
    rcases hf with hf | hf
    · refine ⟨oneType', fun Q E hq => ?_, fun p q hm hm' => ?_⟩
      · exact kind_empty (s := { s with heap := h' }) h2 (fun u hu => ⟨_, hp' u hu⟩) (by have := hp' v List.mem_cons_self; rw [hf] at this; exact this) hq
      · exact lt_one (s := { s with heap := h' }) (Q := fun r s' => s' = { s with heap := h' } ∧ r = lexLt (k p.1) (k q.1)) (E := fun _ _ => False) hu (hp' _ hm) (hp' _ hm') ⟨rfl, rfl⟩
    · refine ⟨tuples' true, fun Q E hq => ?_, fun p q hm hm' => ?_⟩
      · refine kind_full (s := { s with heap := h' }) (by rw [List.length_cons]; omega) (fun u hu => ?_) hq
        have := hp' u hu
        cases e : k u with
        | nil => exact absurd e (hf u hu)
        | cons z zs => rw [e] at this; exact ⟨z, zs, this⟩
      · exact lt_many (s := { s with heap := h' }) (Q := fun r s' => s' = { s with heap := h' } ∧ r = lexLt (k p.1) (k q.1)) (E := fun _ _ => False) (hp' _ hm) (hp' _ hm') ⟨rfl, rfl⟩
  | [], h2, _, _ => exact absurd h2 (by simp)
/-- sorted(l) of tuples of ints of any lengths -/
theorem sorted_ti {l : Addr} {vs : List Value} {k : Value → List Int} {Q : Value → Shared → Prop} (hu : A.units + 8 < cLine) (hl : s.heap.IsList l vs.toArray) (hz : vs.length ≤ sizeLine) (hp : ∀ v, v ∈ vs → IsTI s.heap v (k v)) (hf : Fine k vs)
    (h : ∀ (h' : Heap) (d : Addr) (out : List Value), SrtO.Srtd (fun v u => lexLt (k v) (k u)) out → SrtO.Stb (fun v u => lexLt (k v) (k u)) out vs → (∀ b o, s.heap.get? b = some o → h'.get? b = some o) → s.heap.objs.size ≤ d → (∃ n, h'.get? d = some (seqObj "list" out.toArray n)) → Q (.ref d) { s with heap := h' }) :
    wpAny (model prog w) A (call (.builtin "sorted") [.ref l]) Q E s := by
  refine SrtO.sorted_ord (swo_lexI k) hl hz (fun h2 h₁ a ha kk => ?_) fun out hs hb => ?_
  · refine ti_sortable (s := { s with heap := h₁ }) h2 ?_ (fun v hm => (hp v hm).keeps fun b o e _ => (kk b o e).2) hf fun o e => ?_
    · show A.in1.in1.units < cLine
      have : A.in1.in1.units ≤ A.units + 8 := by
        simp [Around.in1]
        try omega
      omega
    · have e' : some o = some (seqObj "list" vs.toArray 0) := e.symm.trans ha
      cases e'
      intro c
      exact absurd (Value.type.inj c) (by decide)
  · exact h _ _ out hs hb (fun b o e => sortedAll_old e) (Nat.le_succ _) (sortedAll_at s.heap vs out.toArray)
end
end SrtTI
end
section
set_option Elab.async false
set_option linter.all false
set_option autoImplicit false
set_option maxRecDepth 100000
set_option maxHeartbeats 4000000
/-! sorted(xs), tuples of ints of any lengths: as a rule -/
namespace SrtTI
open PySem PySem.Spec PyProof.Rows L2 HT
def TIs (K : PySem.W.Frag) (H : Hp) : List V → List (List Int) → Prop
  | [], [] => True
  | y :: ys, ns :: nss => (∃ t, y = V.ref t ∧ SqT K H t (ns.map V.int)) ∧ TIs K H ys nss
  | _, _ => False
def FineN : List (List Int) → Prop
  | [] => True
  | ns :: nss => ns = [] ∨ ∀ u, u ∈ ns :: nss → u ≠ []
def TOut (nss : List (List Int)) (ys out : List V) : Prop :=
  ∃ ps : List (List Int × V), ps.Perm (nss.zip ys) ∧ out = ps.map Prod.snd ∧ ps.Pairwise (fun (p q : List Int × V) => HT.lexLt q.1 p.1 = false)
def rSortedT (K : PySem.W.Frag) : List V → Hp → VK → Prop := fun vs H Q => ∃ (a : Addr) (ys : List V) (nss : List (List Int)), vs = [V.ref a] ∧ SqL K H a ys ∧ TIs K H ys nss ∧ FineN nss ∧
  ∀ (out : List V) (p : Addr), TOut nss ys out → H p = none → Q (.ref p) (upd H p (.lst out))
theorem mapInt_inj : ∀ {a b : List Int}, a.map V.int = b.map V.int → a = b
  | [], [], _ => rfl
  | [], _ :: _, h => by cases h
  | _ :: _, [], h => by cases h
  | x :: xs, y :: ys, h => by
    rw [List.map_cons, List.map_cons] at h
    have h1 := (List.cons.inj h).1
    have h2 := (List.cons.inj h).2
    cases h1
    rw [mapInt_inj h2]
section
variable {X : Cx} {pins : List (Addr × Obj)} {σ : L2.St} {H : Hp} {s : Shared}
open Classical in
noncomputable def keyN (K : PySem.W.Frag) (H : Hp) (y : V) : List Int := if h : ∃ (ns : List Int) (t : Addr), y = V.ref t ∧ SqT K H t (ns.map V.int) then Classical.choose h else []
theorem keyN_eq (I : Inv X pins σ H s) {y : V} {ns : List Int} {t : Addr} (e : y = V.ref t) (h : SqT X.K H t (ns.map V.int)) : keyN X.K H y = ns := by
  have hh : ∃ (ns : List Int) (t : Addr), y = V.ref t ∧ SqT X.K H t (ns.map V.int) := ⟨ns, t, e, h⟩
  unfold keyN
  rw [dif_pos hh]
  obtain ⟨t', e', h'⟩ := Classical.choose_spec hh
  subst e
  cases e'
  exact mapInt_inj (I.tuple_inj h' h)
theorem tis_keys (I : Inv X pins σ H s) : ∀ {ys : List V} {nss : List (List Int)}, TIs X.K H ys nss → ys.map (keyN X.K H) = nss ∧ nss.zip ys = ys.map (fun y => (keyN X.K H y, y))
  | [], [], _ => ⟨rfl, rfl⟩
  | [], _ :: _, h => h.elim
  | _ :: _, [], h => h.elim
  | y :: ys, ns :: nss, ⟨⟨t, e, h1⟩, h2⟩ => by
    obtain ⟨q1, q2⟩ := tis_keys I h2
    have q0 := keyN_eq I e h1
    constructor
    · rw [List.map_cons, q0, q1]
    · rw [List.zip_cons_cons, q2, List.map_cons, q0]
theorem tis_mem : ∀ {K : PySem.W.Frag} {ys : List V} {nss : List (List Int)}, TIs K H ys nss → ∀ y, y ∈ ys → ∃ (ns : List Int) (t : Addr), y = V.ref t ∧ SqT K H t (ns.map V.int)
  | _, [], [], _, y, hy => by cases hy
  | _, [], _ :: _, h, _, _ => h.elim
  | _, _ :: _, [], h, _, _ => h.elim
  | _, z :: ys, ns :: nss, ⟨⟨t, e, h1⟩, h2⟩, y, hy => by
    rcases List.mem_cons.mp hy with rfl | hy
    · exact ⟨ns, t, e, h1⟩
    · exact tis_mem h2 y hy
theorem fine_of {k : V → List Int} : ∀ {ys : List V} {nss : List (List Int)} {its : List Value}, ys.map k = nss → ys = its.map backV → FineN nss → Fine (fun v => k (backV v)) its
  | [], _, [], _, _, _ => trivial
  | [], _, _ :: _, _, h, _ => by cases h
  | _ :: _, _, [], _, h, _ => by cases h
  | y :: ys, nss, v :: its, h1, h2, h3 => by
    subst h1
    rw [List.map_cons] at h2
    have e1 := (List.cons.inj h2).1
    have e2 := (List.cons.inj h2).2
    rw [List.map_cons] at h3
    rcases h3 with h3 | h3
    · left
      show k (backV v) = []
      rw [← e1]
      exact h3
    · right
      intro u hu
      have hm : k (backV u) ∈ k y :: ys.map k := by
        rcases List.mem_cons.mp hu with rfl | hu
        · rw [e1]
          exact List.mem_cons_self
        · refine List.mem_cons_of_mem _ (List.mem_map_of_mem ?_)
          rw [e2]
          exact List.mem_map_of_mem hu
      exact h3 _ hm
theorem cr_sortedT (hu : X.A.units + 8 < cLine) : CallR X (.builtin "sorted") (rSortedT X.K) := by
  intro pins s σ H vs us Q I r h
  obtain ⟨a, ys, nss, rfl, hs, hT, hF, q⟩ := h
  obtain ⟨its, rv, hl, hz⟩ := I.list hs
  rw [Vals.ref1 r]
  have hx := tis_mem hT
  obtain ⟨e1, e2⟩ := refs_back rv fun x m => by
    obtain ⟨_, t, e, _⟩ := hx x m
    exact ⟨t, e⟩
  obtain ⟨q1, q2⟩ := tis_keys I hT
  have hp : ∀ v, v ∈ its → IsTI s.heap v (keyN X.K H (backV v)) := fun v hv => by
    obtain ⟨t, rfl⟩ := e2 v hv
    have hm : V.ref t ∈ ys := by rw [e1]; exact List.mem_map.mpr ⟨_, hv, rfl⟩
    obtain ⟨ns, t', e, ht⟩ := hx _ hm
    cases e
    have e3 : keyN X.K H (backV (.ref t)) = ns := keyN_eq I rfl ht
    rw [e3]
    obtain ⟨zs, r2, p2, _⟩ := I.tuple ht
    exact ⟨t, zs.toArray, rfl, p2, by rw [List.toList_toArray]; exact r2.ints⟩
  refine sorted_ti (k := fun v => keyN X.K H (backV v)) hu hl.isList (by rw [← rv.length]; exact hz) hp (fine_of q1 e1 hF) fun h' d out h1 h2 keep hd he => ?_
  have h3 : ∀ u, u ∈ out → ∃ a, u = Value.ref a := fun u hu => e2 u (h2.perm.mem_iff.mp hu)
  have hb : (out.map backV).Perm ys := by
    rw [e1]
    exact h2.perm.map backV
  have hlen : (out.map backV).length ≤ sizeLine := by
    rw [hb.length_eq]
    exact hz
  obtain ⟨n, he'⟩ := he
  refine ⟨.ref _, upd H d (.lst (out.map backV)), I.laid (t' := s.toks) (fun b o e => keep b o e) hd ⟨hlen, out, n, vals_back h3, he'⟩, rfl, q _ _ ⟨(out.map backV).map fun y => (keyN X.K H y, y), ?_, ?_, ?_⟩ (I.hok.fresh hd)⟩
  · rw [q2]
    exact hb.map _
  · rw [List.map_map]
    exact (List.map_id _).symm
  · rw [List.pairwise_map, List.pairwise_map]
    exact h1
end
end SrtTI
end
section
set_option Elab.async false
set_option linter.all false
set_option autoImplicit false
set_option maxRecDepth 100000
set_option maxHeartbeats 4000000
/-! sorted(xs, key = f), f a function that is called -/
namespace SrtK
open PySem PySem.Spec PyProof.Rows L2

section
variable {prog : Program} {w : World} {A : Around} {E : Value → Shared → Prop} {s : Shared} {a kS : Addr} {vs : List Value} {kz : List Int} {keys : Array Value} {e1 : Nat} {P : PySem.Fin → Shared → Prop}
/-- the sort itself, behind the keys -/
theorem end_key (hk : IntsAre keys.toList kz) (hlen : kz.length = vs.length) (hZ : vs.length ≤ sizeLine)
    (h : ∀ st, (arrOf st).Perm (keys.zip vs.toArray) → SortedTo (arrOf st) (arrOf st).size → failedOf st = none → Stable intKind (arrOf st) (keys.zip vs.toArray) → wpAny (model prog w) A (ksk_tail a false e1 (.ref kS) st) P E s) :
    wpAny (model prog w) A (ksk_end a false vs.toArray e1 (.ref kS) keys) P E s := by
  have hsz : keys.size = vs.length := by
    have h1 := hk.length
    rw [Array.length_toList] at h1
    omega
  have hzs : (keys.zip vs.toArray).size = vs.length := by rw [Array.size_zip, hsz, List.size_toArray, Nat.min_self]
  unfold ksk_end
  try dsimp only
  simp only [Bool.false_eq_true, if_false]
  by_cases h2 : vs.toArray.size < 2
  · rw [if_pos h2, if_pos h2]
    refine wpAny_bind (wpAny_pure ?_)
    rw [StateT.run_pure]
    refine wpAny_bind (wpAny_pure ?_)
    try dsimp only
    refine h (SortSt.mk' general' (keys.zip vs.toArray) #[] 7 none) (Array.Perm.refl _) ?_ rfl (Stable.refl _)
    intro i j hij hj
    have hj2 : j < (keys.zip vs.toArray).size := hj
    rw [hzs] at hj2
    rw [List.size_toArray] at h2
    have : i = j := by omega
    subst this
    exact Int.le_refl _
  · rw [if_neg h2, if_neg h2]
    rw [List.size_toArray] at h2
    rw [ksk_kind hk (by rw [hsz]; omega)]
    refine wpAny_bind (wpAny_pure ?_)
    have hZ2 := hZ
    rw [sizeLine_eq] at hZ2
    refine wpAny_bind (wpAny_mono (wpS_sortRunsSt (κ := intKind) (a₀ := keys.zip vs.toArray)
      (st := SortSt.mk' oneType' (keys.zip vs.toArray) #[] 7 none)
      (Q := fun _ st' => (arrOf st').Perm (keys.zip vs.toArray) ∧ failedOf st' = none ∧ SortedTo (arrOf st') (arrOf st').size ∧
        Stable intKind (arrOf st') (keys.zip vs.toArray))
      intKind_oneLt (ksk_keysOfInt (ksk_intKeys hk)) ⟨Array.Perm.refl _, rfl, rfl⟩ rfl (Stable.refl _) (by rw [hzs]; omega)
      fun st' a1 a2 a3 a4 => ⟨a1, a2, by rw [a1.size_eq]; exact sortedTo_of_int a3, a4⟩) ?_ fun _ _ e => e)
    rintro ⟨⟨⟩, st'⟩ s' ⟨rfl, hp, hf, hs, hst⟩
    try dsimp only
    exact h st' hp hs hf hst
end
/-- what comes of it -/
def KOut (kz : List Int) (xs ys : List V) : Prop :=
  ∃ ps : List (Int × V), ps.Perm (kz.zip xs) ∧ ys = ps.map Prod.snd ∧ ps.Pairwise (fun p q => p.1 ≤ q.1) ∧ ∀ c, ps.filter (fun p => p.1 == c) = (kz.zip xs).filter (fun p => p.1 == c)
/-- ints and references -/
def bkV : Value → V
  | .ref a => .ref a
  | .int i _ => .int i
  | _ => .non
def Pln (x : V) : Prop := (∃ a, x = V.ref a) ∨ ∃ i, x = V.int i
theorem bk_one {x : V} {u : Value} (p : Pln x) (r : RelV x u) : bkV u = x := by
  rcases p with ⟨a, rfl⟩ | ⟨i, rfl⟩
  · cases r
    rfl
  · obtain ⟨t, rfl⟩ := r
    rfl
theorem bk_all : ∀ {xs : List V} {us : List Value}, Vals xs us → (∀ x, x ∈ xs → Pln x) → us.map bkV = xs ∧ ∀ u, u ∈ us → RelV (bkV u) u
  | _, _, .nil, _ => ⟨rfl, fun u hu => absurd hu (by simp)⟩
  | x :: xs, u :: us, .cons r t, h => by
    obtain ⟨e1, e2⟩ := bk_all t fun y hy => h y (List.mem_cons_of_mem _ hy)
    have e := bk_one (h x List.mem_cons_self) r
    refine ⟨by rw [List.map_cons, e1, e], fun v hv => ?_⟩
    rcases List.mem_cons.mp hv with rfl | hv
    · rw [e]; exact r
    · exact e2 v hv
theorem vals_bk : ∀ {us : List Value}, (∀ u, u ∈ us → RelV (bkV u) u) → Vals (us.map bkV) us
  | [], _ => .nil
  | u :: us, h => .cons (h u List.mem_cons_self) (vals_bk fun v hv => h v (List.mem_cons_of_mem _ hv))
theorem out_bk {kz : List Int} {xs : List V} {us out : List Value} (r : Vals xs us) (hx : ∀ x, x ∈ xs → Pln x) (h : KskOutSt false kz us out) : Vals (out.map bkV) out ∧ KOut kz xs (out.map bkV) ∧ out.length = (kz.zip us).length := by
  obtain ⟨ps, hp, e, hs, hf⟩ := h
  obtain ⟨e1, e2⟩ := bk_all r hx
  have hm : ∀ u, u ∈ out → u ∈ us := fun u hu => by
    rw [e] at hu
    obtain ⟨p, hpm, rfl⟩ := List.mem_map.mp hu
    have := hp.mem_iff.mp hpm
    exact (List.of_mem_zip (show (p.1, p.2) ∈ kz.zip us from this)).2
  have ez : (kz.zip us).map (fun p : Int × Value => (p.1, bkV p.2)) = kz.zip xs := by
    rw [← e1, List.zip_map_right]
    rfl
  refine ⟨vals_bk fun u hu => e2 u (hm u hu), ⟨ps.map fun p => (p.1, bkV p.2), ?_, ?_, ?_, fun c => ?_⟩, ?_⟩
  · rw [← ez]
    exact hp.map _
  · rw [e, List.map_map, List.map_map]
    rfl
  · rw [List.pairwise_map]
    exact hs.imp fun {p q} h => by simpa using h
  · have ff : ∀ l : List (Int × Value), (l.map fun p => (p.1, bkV p.2)).filter (fun p => p.1 == c) = (l.filter fun p => p.1 == c).map fun p => (p.1, bkV p.2) := fun l => by
      rw [List.filter_map]
      rfl
    rw [← ez, ff, ff, hf c]
  · rw [e, List.length_map, hp.length_eq]
/-- an untracked new object is tracked from now on -/
theorem adopt {X : Cx} {pins : List (Addr × Obj)} {σ : L2.St} {H : Hp} {s : Shared} {a : Addr} {o : HO} (I : Inv X pins σ H s) (hn : H a = none) (h1 : X.s_0.heap.objs.size ≤ a) (hL : a ≠ X.env.locals) (hC : ∀ x c, X.env.cells.lookup x = some c → c ≠ a) (hp : ∀ p, p ∈ X.pn ++ pins → p.1 ≠ a)
    (new : ObjOk X.prog X.w (upd H a o) s.heap a o) : Inv X pins σ (upd H a o) s := by
  refine I.step (h' := s.heap) (g' := s.gens) (d' := s.drawn) (t' := s.toks) (ch := [a]) (fun b hb => ?_) (fun b u _ _ _ e _ => e) (fun b u _ _ _ e _ => ⟨u.slots, e⟩) (fun b u hc e n => ?_) (fun b u _ e => ⟨u, e⟩) (fun b xs e => ?_) (fun b ob u e => ?_) (fun b ps e => ⟨#[], ?_⟩) (fun m hm => hm) (fun b u e => ?_) I.bare
  · have e : b = a := by simpa using hb
    subst e
    exact ⟨.inr h1, hL, hC, hp⟩
  · have : b ≠ a := fun z => hc (by simp [z])
    rw [upd_ne this]
    exact n
  · rw [upd_ne (ne_of_none e hn)]
    exact e
  · rw [upd_ne (ne_of_none e hn)]
    exact e
  · rw [upd_ne (ne_of_none e hn), e]
    simp
  · by_cases hb : b = a
    · subst hb
      rw [upd_same] at e
      cases e
      exact new
    · rw [upd_ne hb] at e
      exact (I.hok b u e).stay (fun c v _ q => q) (fun c q => by rw [upd_ne (ne_of_none q hn)]; exact q) fun c xs q => by rw [upd_ne (ne_of_none q hn)]; exact q
theorem upd_comm {H : Hp} {a b : Addr} {x y : HO} (h : a ≠ b) : upd (upd H a x) b y = upd (upd H b y) a x := by
  funext c
  by_cases h1 : c = a
  · subst h1
    rw [upd_ne h, upd_same, upd_same]
  · by_cases h2 : c = b
    · subst h2
      rw [upd_same, upd_ne h1, upd_same]
    · rw [upd_ne h2, upd_ne h1, upd_ne h1, upd_ne h2]
theorem upd_upd {H : Hp} {a : Addr} {x y : HO} : upd (upd H a x) a y = upd H a y := by
  funext c
  by_cases h1 : c = a
  · subst h1
    rw [upd_same, upd_same]
  · rw [upd_ne h1, upd_ne h1, upd_ne h1]
section
variable {X : Cx} {pins : List (Addr × Obj)} {σ : L2.St} {H : Hp} {a kS : Addr} {vs : List Value} {xs : List V} {kz : List Int} {e1 : Nat} {f : Value}
/-- what stands while the keys are made: a word about the abstract heap, which lists of ours do not touch -/
structure Jn (H2 : Hp) (J : Hp → Prop) : Prop where
  start : J H2
  new : ∀ (H : Hp) (b : Addr) (ys : List V), J H → H2 b = none → H b = none → J (upd H b (.lst ys))
  set : ∀ (H : Hp) (b : Addr) (xs ys : List V), J H → H2 b = none → H b = some (.lst xs) → J (upd H b (.lst ys))
/-- a call of the key function: an int; what is ours stays -/
def Turn (X : Cx) (A : Around) (f : Value) (H2 : Hp) (J : Hp → Prop) (xs : List V) (kz : List Int) : Prop :=
  ∀ (i : Nat) (x : V) (k : Int), xs[i]? = some x → kz[i]? = some k → ∀ (pins : List (Addr × Obj)) (σ : L2.St) (H' : Hp) (s' : Shared) (u : Value), J H' → Inv X pins σ H' s' → RelV x u →
    wpAny (model X.prog X.w) A (call f [u]) (fun v s'' => (∃ t, v = Value.int k t) ∧ ∃ H'', J H'' ∧ (∀ b o, H2 b = none → H' b = some o → H'' b = some o) ∧ Inv X pins σ H'' s'') (fun _ _ => False) s'
theorem lst_set {H : Hp} {s : Shared} {p : Addr} {xs ys : List V} {its : List Value} {n : Nat} (I : Inv X pins σ H s) (h : H p = some (.lst xs)) (ho : s.heap.get? p = some { cls := .type "list", data := .seq its.toArray n }) (g : Array Value → Array Value)
    (r : Vals ys (g its.toArray).toList) (hz : ys.length ≤ sizeLine) (tk : Nat) : Inv X pins σ (upd H p (.lst ys)) { s with heap := s.heap.update p (Obj.mapSeq g), toks := tk } := by
  obtain ⟨c, hc⟩ : ∃ c, (s.heap.update p (Obj.mapSeq g)).get? p = some (seqObj "list" (g its.toArray) c) := ⟨_, get?_update_seq ho g⟩
  refine I.write (x := p) (e := p) (by rw [h]; trivial) (.inl rfl) (fun b u hb q => (Heap.get?_update_other _ _ (Ne.symm hb)).trans q) ⟨_, hc⟩ ⟨hz, (g its.toArray).toList, c, r, ?_⟩
  rw [hc, Array.toArray_toList]
/-- the pinned list is written, and tracked -/
theorem pin_set {H : Hp} {s : Shared} {p : Addr} {ys : List V} {e : Nat} (I : Inv X ((p, seqObj "list" #[] e) :: pins) σ H s) (h1 : X.s_0.heap.objs.size ≤ p) (hC : ∀ x c, X.env.cells.lookup x = some c → c ≠ p) (hp : ∀ q, q ∈ X.pn ++ pins → q.1 ≠ p) (arr : Array Value)
    (r : Vals ys arr.toList) (hz : ys.length ≤ sizeLine) (tk : Nat) : Inv X pins σ (upd H p (.lst ys)) { s with heap := s.heap.update p (Obj.mapSeq fun _ => arr), toks := tk } := by
  obtain ⟨ho, hn, hL, _, _⟩ := I.pin (p, seqObj "list" #[] e) (List.mem_append_right _ List.mem_cons_self)
  have I0 : Inv X pins σ H s := ⟨I.ok, I.os, I.bare, I.base, I.loc, I.cell, I.free, I.freeC, fun q hq => I.pin q (by
    rcases List.mem_append.mp hq with z | z
    · exact List.mem_append_left _ z
    · exact List.mem_append_right _ (List.mem_cons_of_mem _ z)), I.hok, I.len⟩
  obtain ⟨c, hc⟩ : ∃ c, (s.heap.update p (Obj.mapSeq fun _ => arr)).get? p = some (seqObj "list" arr c) := ⟨_, get?_update_seq ho fun _ => arr⟩
  have I1 := I0.turned (h' := s.heap.update p (Obj.mapSeq fun _ => arr)) (t' := tk) (it := p) (fun b u hb q => (Heap.get?_update_other _ _ (Ne.symm hb)).trans q) hn hL (.inr h1) hC hp
  refine adopt I1 hn h1 hL hC hp ⟨hz, arr.toList, c, r, ?_⟩
  show (s.heap.update p (Obj.mapSeq fun _ => arr)).get? p = _
  rw [hc, Array.toArray_toList]
theorem rest_key {A : Around} {s : Shared} {P : PySem.Fin → Shared → Prop} {E : Value → Shared → Prop} {H2 : Hp} {J : Hp → Prop} (jn : Jn H2 J) {Hk : Hp} (I : Inv X ((a, seqObj "list" #[] e1) :: pins) σ Hk s) (hJ : J Hk) (hk : H2 kS = none) (hkk : Hk kS = some (.lst []))
    (h1 : X.s_0.heap.objs.size ≤ a) (hC : ∀ x c, X.env.cells.lookup x = some c → c ≠ a) (hp : ∀ q, q ∈ X.pn ++ pins → q.1 ≠ a)
    (rv : Vals xs vs) (hx : ∀ x, x ∈ xs → Pln x) (hlen : kz.length = vs.length) (hZ : vs.length ≤ sizeLine)
    (turn : Turn X A f H2 J xs kz)
    (h : ∀ (H3 : Hp) (ys : List V) (s' : Shared), J H3 → H3 a = none → KOut kz xs ys → Inv X pins σ (upd H3 a (.lst ys)) s' → P (.done (.ret .none)) s') :
    wpAny (model X.prog X.w) A (ksk_rest a f false vs.toArray e1 (.ref kS)) P E s := by
  have hZ2 := hZ
  rw [sizeLine_eq] at hZ2
  unfold ksk_rest
  refine wpAny_bind (wpAny_rule ?_)
  first
    | rw [List.forIn_toArray]
    | (rw [← Array.forIn_toList]; simp only [List.toList_toArray])
    | rw [← Array.forIn_toList]
  refine wpAny_bind (ksk_fold (fun i s' => ∃ H', J H' ∧ H' kS = some (.lst ((kz.take i).map V.int)) ∧ Inv X ((a, seqObj "list" #[] e1) :: pins) σ H' s') vs 0 s ⟨Hk, hJ, by simpa using hkk, I⟩ ?step ?done)
  case step =>
    rintro j u s' hu ⟨H', hJ', hk', I'⟩
    simp only [Nat.zero_add] at hk' ⊢
    have hj : j < vs.length := (List.getElem?_eq_some_iff.mp hu).1
    obtain ⟨k, hkj⟩ : ∃ k, kz[j]? = some k := ⟨_, List.getElem?_eq_getElem (by omega)⟩
    obtain ⟨x, hxj, rx⟩ : ∃ x, xs[j]? = some x ∧ RelV x u := by
      have hl := rv.length
      have hlt : j < xs.length := by omega
      obtain ⟨u', hu', ru⟩ := rv.get (List.getElem?_eq_getElem hlt)
      rw [hu] at hu'
      cases hu'
      exact ⟨xs[j], List.getElem?_eq_getElem hlt, ru⟩
    refine wpAny_bind (wpAny_attempt (wpAny_mono (turn j x k hxj hkj _ σ H' s' u hJ' I' rx) (fun v s'' he => ?_) fun _ _ hF => hF.elim))
    obtain ⟨⟨t, rfl⟩, H'', hJ2, hex, I2⟩ := he
    have hk2 := hex kS _ hk hk'
    try dsimp only
    obtain ⟨its, n, rvk, hob, hz⟩ := I2.lst hk2
    have ek : kz.take (j + 1) = kz.take j ++ [k] := by rw [List.take_add_one, hkj]; simp
    have hlk : its.length ≤ vs.length := by
      rw [← rvk.length, List.length_map, List.length_take]
      omega
    refine wpAny_bind (listUpdate_at hob rfl ?_ (by rw [List.size_toArray]; omega) (Nat.le_trans (Nat.le_of_eq (Array.size_push ..)) (by rw [List.size_toArray, sizeLine_eq]; omega)))
    have I3 := lst_set (ys := (kz.take (j + 1)).map V.int) I2 hk2 hob (·.push (.int k t)) (by
      rw [ek, List.map_append]
      have e : (its.toArray.push (Value.int k t)).toList = its ++ [Value.int k t] := by simp
      show Vals _ (its.toArray.push (Value.int k t)).toList
      rw [e]
      exact rvk.append (.cons ⟨t, rfl⟩ .nil)) (by rw [List.length_map, List.length_take, sizeLine_eq]; omega) s''.toks
    exact wpAny_pure ⟨rfl, _, jn.set _ kS _ _ hJ2 hk hk2, upd_same, I3⟩
  case done =>
    rintro s' ⟨H', hJ', hk', I'⟩
    have e3 : kz.take (0 + vs.length) = kz := List.take_of_length_le (by omega)
    rw [e3] at hk'
    obtain ⟨its, n, rvk, hob, hz⟩ := I'.lst hk'
    try dsimp only
    refine wpAny_bind (listItems_at hob rfl ?_)
    have hik : IntsAre its.toArray.toList kz := by
      simpa using rvk.ints
    refine end_key hik hlen hZ fun st hp' hs hf hst => ?_
    have hsz : its.toArray.size = vs.length := by
      rw [List.size_toArray, ← rvk.length, List.length_map, hlen]
    have hsz2 : (arrOf st).size = vs.length := by rw [hp'.size_eq, Array.size_zip, hsz, List.size_toArray, Nat.min_self]
    have hst' : Stable intKind (arrOf st) (if false = true then (its.toArray.zip vs.toArray).reverse else its.toArray.zip vs.toArray) := hst
    have ko := ksk_outSt (b := false) hik hp' hs hst'
    simp only [Bool.false_eq_true, if_false] at ko
    obtain ⟨v1, v2, v3⟩ := out_bk rv hx ko
    unfold ksk_tail
    try dsimp only
    refine wpAny_bind (listUpdate_at hob rfl ?_ (by rw [hsz, sizeLine_eq]; omega) (Nat.zero_le _))
    have I4 := lst_set (ys := ([] : List V)) I' hk' hob (fun _ => (#[] : Array Value)) .nil (Nat.zero_le _) s'.toks
    have hJ4 := jn.set _ kS _ ([] : List V) hJ' hk hk'
    obtain ⟨hoa, hna, _, _, _⟩ := I4.pin (a, seqObj "list" #[] e1) (List.mem_append_right _ List.mem_cons_self)
    refine wpAny_bind (wpAny_letGo ?_)
    refine wpAny_bind (seqEpoch_at hoa rfl ?_)
    refine wpAny_bind (listUpdate_at hoa rfl ?_ (Nat.zero_le _) (by
      simp only [Bool.false_eq_true, if_false, Array.size_map]
      rw [hsz2, sizeLine_eq]
      omega))
    rw [hf]
    simp only [bne_self_eq_false, Bool.false_eq_true, if_false]
    have hlen2 : (((arrOf st).map (·.2)).toList.map bkV).length ≤ sizeLine := by
      rw [List.length_map, Array.length_toList, Array.size_map, hsz2]
      exact hZ
    exact wpAny_pure (h _ _ _ hJ4 hna v2 (pin_set I4 h1 hC hp ((arrOf st).map (·.2)) v1 hlen2 s'.toks))
theorem sort_key {A : Around} {s : Shared} {n : Nat} {P : PySem.Fin → Shared → Prop} {E : Value → Shared → Prop} {h0 : Heap} {J : Hp → Prop} (jn : Jn H J) (I : Inv X pins σ H s) (hk : ∀ b u, s.heap.get? b = some u → h0.get? b = some u) (hsz : s.heap.objs.size ≤ a) (ho : h0.get? a = some (seqObj "list" vs.toArray n))
    (rv : Vals xs vs) (hx : ∀ x, x ∈ xs → Pln x) (hlen : kz.length = vs.length) (hZ : vs.length ≤ sizeLine) (turn : Turn X A f H J xs kz)
    (h : ∀ (H3 : Hp) (ys : List V) (s' : Shared), J H3 → H3 a = none → KOut kz xs ys → Inv X pins σ (upd H3 a (.lst ys)) s' → P (.done (.ret .none)) s') :
    wpAny (model X.prog X.w) A (ksk_tree a f false) P E { s with heap := h0 } := by
  have ha : a < h0.objs.size := Heap.lt_size ho
  have hna : H a = none := I.hok.fresh hsz
  have hZ2 := hZ
  rw [sizeLine_eq] at hZ2
  obtain ⟨e1, ho1⟩ : ∃ e1, (h0.update a (Obj.mapSeq fun _ => (#[] : Array Value))).get? a = some (seqObj "list" #[] e1) := ⟨_, get?_update_seq ho fun _ => #[]⟩
  have keep : ∀ b u, s.heap.get? b = some u → (h0.update a (Obj.mapSeq fun _ => (#[] : Array Value))).get? b = some u := fun b u q => by
    rw [Heap.get?_update_ne _ _ _ _ (Nat.ne_of_lt (Nat.lt_of_lt_of_le (Heap.lt_size q) hsz))]
    exact hk b u q
  obtain ⟨h2, eh2⟩ : ∃ h2, h2 = h0.update a (Obj.mapSeq fun _ => (#[] : Array Value)) := ⟨_, rfl⟩
  have hs2 : h2.objs.size = h0.objs.size := by rw [eh2, Heap.size_update]
  unfold ksk_tree
  refine wpAny_bind (listItems_at ho rfl ?_)
  refine wpAny_bind (listUpdate_at ho rfl ?_ (by rw [List.size_toArray, sizeLine_eq]; omega) (Nat.zero_le _))
  refine wpAny_bind (seqEpoch_at ho1 rfl ?_)
  rw [← eh2]
  refine wpAny_bind (wpAny_newTuple ?_ (by show vs.length ≤ _; rw [sizeLine_eq]; omega))
  refine wpAny_bind (wpAny_newList ?_ (Nat.zero_le _))
  refine wpAny_holding ?_
  obtain ⟨h3, eh3⟩ : ∃ h3, h3 = h2.push { cls := .type "tuple", data := .seq vs.toArray } := ⟨_, rfl⟩
  have kp3 : ∀ b u, s.heap.get? b = some u → h3.get? b = some u := fun b u q => by
    rw [eh3]
    refine Heap.get?_push_of_some _ ?_
    rw [eh2]
    exact keep b u q
  have I2 : Inv X pins σ H { s with heap := h3, toks := s.toks } := I.kept (t' := s.toks) (h' := h3) kp3
  have hs3 : h3.objs.size = h0.objs.size + 1 := by rw [eh3, size_push', hs2]
  have nk : H h3.objs.size = none := I2.hok.fresh (Nat.le_refl _)
  have I3 : Inv X pins σ (upd H h3.objs.size (.lst [])) { s with heap := h3.push (seqObj "list" #[] 0), toks := s.toks } := I2.laid (t' := s.toks) (fun b u q => Heap.get?_push_of_some _ q) (Nat.le_refl _) ⟨Nat.zero_le _, [], 0, .nil, Heap.get?_push_size _ rfl⟩
  have hka : h3.objs.size ≠ a := Nat.ne_of_gt (by rw [hs3]; exact Nat.lt_succ_of_lt ha)
  have hoa : (h3.push (seqObj "list" #[] 0)).get? a = some (seqObj "list" #[] e1) := by
    refine Heap.get?_push_of_some _ ?_
    rw [eh3]
    refine Heap.get?_push_of_some _ ?_
    rw [eh2]
    exact ho1
  have old : ∀ b u, s.heap.get? b = some u → b ≠ a := fun b u q => Nat.ne_of_lt (Nat.lt_of_lt_of_le (Heap.lt_size q) hsz)
  have hLa : a ≠ X.env.locals := by
    obtain ⟨m, ⟨o, es, ep, ho', r⟩, _⟩ := I.loc
    exact fun z => old _ _ ho' z.symm
  have hCa : ∀ x c, X.env.cells.lookup x = some c → c ≠ a := fun x c e => by
    obtain ⟨v, o, ho', hd⟩ := I.cell x c e
    exact old _ _ ho'
  have hpa : ∀ q, q ∈ X.pn ++ pins → q.1 ≠ a := fun q hq => old _ _ (I.pin q hq).1
  have hs0 : X.s_0.heap.objs.size ≤ a := by
    obtain ⟨m, ⟨o, es, ep, ho', r⟩, _⟩ := I.loc
    exact Nat.le_trans I.ok.above (Nat.le_of_lt (Nat.lt_of_lt_of_le (Heap.lt_size ho') hsz))
  have hfs : a ∉ X.fs := I.nofs hsz
  have I4 : Inv X ((a, seqObj "list" #[] e1) :: pins) σ (upd H h3.objs.size (.lst [])) { s with heap := h3.push (seqObj "list" #[] 0), toks := s.toks } :=
    ⟨I3.ok, I3.os, I3.bare, I3.base, I3.loc, I3.cell, I3.free, I3.freeC, fun q hq => by
      rcases List.mem_append.mp hq with z | z
      · exact I3.pin q (List.mem_append_left _ z)
      · rcases List.mem_cons.mp z with rfl | z
        · exact ⟨hoa, by rw [upd_ne hka.symm]; exact hna, hLa, hfs, fun v z => by cases z⟩
        · exact I3.pin q (List.mem_append_right _ z), I3.hok, I3.len⟩
  show wpAny (model X.prog X.w) A (ksk_rest a f false vs.toArray e1 (.ref (h2.push { cls := .type "tuple", data := .seq vs.toArray }).objs.size)) P E { s with heap := (h2.push { cls := .type "tuple", data := .seq vs.toArray }).push (seqObj "list" #[] 0) }
  rw [← eh3]
  exact rest_key (kS := h3.objs.size) (e1 := e1) (s := { s with heap := h3.push (seqObj "list" #[] 0) }) jn I4 (jn.new _ _ _ jn.start nk nk) nk upd_same hs0 hCa hpa rv hx hlen hZ turn h
/-- sorted(xs, key = f) -/
theorem sorted_key {l : Addr} {kw : List (PySem.Str × Value)} {s : Shared} {Q : VK} {J : Hp → Prop} (jn : Jn H J) (I : Inv X pins σ H s) (hs : SqL X.K H l xs) (hx : ∀ x, x ∈ xs → Pln x) (hlen : kz.length = xs.length)
    (ha1 : argsOk "sorted" ⟨[.ref l], kw⟩) (ha2 : ∀ x, argsOk "list.sort" ⟨[.ref x], kw⟩) (ht : ∀ x, Builtin.«list.sort» ⟨[.ref x], kw⟩ = ksk_tree x f false) (turn : Turn X X.A.in1.in1 f H J xs kz)
    (q : ∀ (H3 : Hp) (p : Addr) (ys : List V), J H3 → H3 p = none → KOut kz xs ys → Q (.ref p) (upd H3 p (.lst ys))) :
    wpAny (model X.prog X.w) X.A (call (.builtin "sorted") [.ref l] kw) (EP X pins σ Q) X.xe s := by
  obtain ⟨its, rv, hl, hz⟩ := I.list hs
  have hZ : its.length ≤ sizeLine := by rw [← rv.length]; exact hz
  refine call_function_entry_kw kind_sorted plain_sorted entry_sorted ha1 ?_
  unfold Builtin.«sorted»
  refine wpAny_bind (m := checkCount "sorted" 1 1 _) (wpAny_pure ?_)
  refine wpAny_bind (collect_list hl.isList ?_ (by rw [sizeLine_eq] at hZ ⊢; omega))
  refine wpAny_bind (wpAny_newList ?_ (by rw [sizeLine_eq] at hZ ⊢; omega))
  have hsz : ((s.heap.push (seqObj "list" #[] 0)).update s.heap.objs.size (Obj.mapSeq (· ++ its.toArray))).objs.size = s.heap.objs.size + 1 := by
    rw [Heap.size_update, size_push']
  have hoL : (((s.heap.push (seqObj "list" #[] 0)).update s.heap.objs.size (Obj.mapSeq (· ++ its.toArray))).push (seqObj "list" its.toArray 0)).get? (s.heap.objs.size + 1) = some (seqObj "list" its.toArray 0) := by
    rw [← hsz]; exact Heap.get?_push_size _ rfl
  have keep : ∀ b o, s.heap.get? b = some o → (((s.heap.push (seqObj "list" #[] 0)).update s.heap.objs.size (Obj.mapSeq (· ++ its.toArray))).push (seqObj "list" its.toArray 0)).get? b = some o := fun b o q => by
    have hlt : b < s.heap.objs.size := Heap.lt_size q
    rw [Heap.get?_push_ne _ _ _ (by rw [hsz]; exact Nat.ne_of_lt (Nat.lt_succ_of_lt hlt)), Heap.get?_update_ne _ _ _ _ (Nat.ne_of_lt hlt), Heap.get?_push_ne _ _ _ (Nat.ne_of_lt hlt)]
    exact q
  show wpAny _ _ _ _ _ { s with heap := ((s.heap.push (seqObj "list" #[] 0)).update s.heap.objs.size (Obj.mapSeq (· ++ its.toArray))).push (seqObj "list" its.toArray 0) }
  rw [hsz]
  generalize (((s.heap.push (seqObj "list" #[] 0)).update s.heap.objs.size (Obj.mapSeq (· ++ its.toArray))).push (seqObj "list" its.toArray 0)) = h0 at hoL keep
  refine wpAny_bind (wpAny_holding (wpAny_call_entry_kw slot_list_sort ⟨_, hoL, rfl⟩ entry_list_sort ?body (ha2 _)))
  case body =>
    have ht' := ht (s.heap.objs.size + 1)
    show wpAny (model X.prog X.w) X.A.in1.in1 (Builtin.«list.sort» ⟨[.ref (s.heap.objs.size + 1)], kw⟩) _ _ _
    rw [ht']
    refine sort_key (s := s) (h0 := h0) jn I keep (Nat.le_succ _) hoL rv hx (by rw [hlen, rv.length]) hZ turn fun H3 ys s' j3 n3 k J => ⟨_, rfl, ?_⟩
    exact wpAny_pure ⟨_, rfl, .ref _, _, J, rfl, q H3 _ ys j3 n3 k⟩
end
end SrtK
end
section
set_option Elab.async false
set_option linter.all false
set_option autoImplicit false
set_option maxRecDepth 100000
set_option maxHeartbeats 4000000
/-! a lambda with parameters: made, called -/
namespace LamK
open PySem PySem.Spec PyProof.Rows L2 LamX NdefX

/-- what a lambda is: its names by an NF without a body, its expression -/
structure LF where
  nf : NF
  body : Expr
abbrev LF.fd (F : LF) (pm ctv : Value) : FuncData := PySem.W.kla_fn F.nf.name F.nf.qual F.nf.params F.body F.nf.scope F.nf.cl pm (.ref F.nf.c) ctv
/-- at f: the function object of the lambda -/
def FnL (f : Addr) (F : LF) : HO := .ext fun h => ∃ (od : Option Addr) (sl : Array (Option Value)) (pm ctv : Value), h.get? f = some (⟨.type "function", od, .func (F.fd pm ctv), sl⟩ : Obj)
theorem fnL_at {P : Program} {w : World} {H : Hp} {h : Heap} {f : Addr} {F : LF} (hok : HOk P w H h) (e : H f = some (FnL f F)) : ∃ (od : Option Addr) (sl : Array (Option Value)) (pm ctv : Value), h.get? f = some (⟨.type "function", od, .func (F.fd pm ctv), sl⟩ : Obj) := by
  obtain ⟨q, _⟩ := hok f _ e
  exact q
section
variable {P : Program} {w : World} {K : PySem.W.Frag} {mg : Str → Option Value} {base : Heap} {CX : CXT} {N ps fr : List Str} {F : LF} {f : Addr} {k j : Nat}
/-- the call of the lambda at f -/
structure LOk (P : Program) (w : World) (K : PySem.W.Frag) (mg : Str → Option Value) (base : Heap) (CX : CXT) (k : Nat) (f : Addr) (F : LF) (ps fr : List Str) (sp : List (Option V) → Sp) : Prop where
  run : ∀ (A : Around) (outer : List Env) (s : Shared) (H : Hp) (us : List Value) (vs : List V) (ws : List (Option V)) (Q : VK) (E : XK), Room k A → Env0 P w K mg base A outer s H → H f = some (FnL f F) → H F.nf.c = some (CodeO F.nf.c F.nf.qual) →
    CellsAt F.nf.cl fr ws s.heap H → Vals vs us → vs.length = ps.length → sp ws vs H Q E → codeAny (model P w) A (.call (.ref f) ⟨us, []⟩) (CR CX outer P w H s Q E) s
theorem lok_of {sp : List (Option V) → Sp} (S : NScope N ps fr F.nf.scope) (hb : ∀ (pm ctv : Value) (us : List Value), us.length = ps.length → bindArgs (F.fd pm ctv) ⟨us, []⟩ = pure (ps.zip us))
    (hbody : ∀ (A : Around) (outer : List Env) (s : Shared) (H : Hp) (vs : List V) (ws : List (Option V)) (Q : VK) (E : XK), Room k (A.deeper (envF F.nf f s.heap.objs.size)) → ws.length = fr.length → vs.length = ps.length → sp ws vs H Q E →
      ∃ t, PE (ncx CX P w K mg base N F.nf f A outer s H E) F.body t ∧ t (startF N vs ws) H Q) :
    LOk P w K mg base CX (k + 1) f F ps fr sp := by
  refine ⟨fun A outer s H us vs ws Q E hr e0 hf hc C r hl hsp => ?_⟩
  have lim : s.heap.NoLimit := e0.mod.nolimit.keeps fun b o e => (e0.bs b o e).1
  obtain ⟨od, sl, pm, ctv, ho⟩ := fnL_at e0.hok hf
  refine PySem.W.kla_callFunE hr.depth ho rfl S.co S.gen rfl (codeO_at e0.hok hc) ?_
  rw [hb pm ctv us (by rw [← r.length]; exact hl)]
  refine wpAny_pure (wpAny_newFunctionEnv S.nocell (fun ⟨n, _⟩ hy => S.par n (List.of_mem_zip hy).1) (fun h₁ hns hsb => ⟨lim.fresh _ hsb, ?_⟩) S.kind)
  show codeAny _ _ (.expr F.body (envF F.nf f s.heap.objs.size)) _ _
  have kp : ∀ b o, s.heap.get? b = some o → h₁.get? b = some o := fun b o e => hsb.extBut b o (Nat.ne_of_lt (Heap.lt_size e)) (Heap.get?_push_of_some _ e)
  obtain ⟨t, ht, hq⟩ := hbody A outer s H vs ws Q E (hr.deeper _) C.len hl hsp
  have I : Inv (ncx CX P w K mg base N F.nf f A outer s H E) [] (startF N vs ws) H { s with heap := h₁, toks := s.toks + (ps.zip us).length } := inv_startN S hr.hd e0 hl r C hns kp
  refine PySem.W.kla_codeExpr (wpAny_mono (ht.run [] _ (startF N vs ws) H Q I hq) (fun v s' hs => ?_) fun e s' hs => hs)
  obtain ⟨w', H', J, rv, q⟩ := hs
  exact ⟨w', H', J.os, J.bare, J.base, J.hok, rv, q⟩
end
section
variable {X : Cx} {pins : List (Addr × Obj)} {σ : L2.St} {H : Hp} {s : Shared}
theorem inv_lam {F : LF} {o : Obj} {t' : Nat} {pm ctv : Value} (I : Inv X pins σ H s) (ho : o = { cls := .type "function", data := .func (F.fd pm ctv) }) :
    Inv X pins σ (upd H s.heap.objs.size (FnL s.heap.objs.size F)) { s with heap := s.heap.push o, toks := t' } := by
  subst ho
  refine I.laid (a := s.heap.objs.size) (fun b u e => Heap.get?_push_of_some _ e) (Nat.le_refl _) ?_
  have e : (s.heap.push ({ cls := .type "function", data := .func (F.fd pm ctv) } : Obj)).get? s.heap.objs.size = some ({ cls := .type "function", data := .func (F.fd pm ctv) } : Obj) := Heap.get?_push_size _ rfl
  exact ⟨⟨_, _, pm, ctv, e⟩, ⟨_, e⟩, fun h1 h2 ⟨od, sl, p, t, z⟩ st => ⟨od, sl, p, t, st _ z⟩⟩
/-- all that is tracked stays, but for the table at P -/
def ExtP (P : Addr) (H H' : Hp) : Prop := ∀ b o, H b = some o → b ≠ P → H' b = some o
/-- the lambda of a def's text -/
abbrev lf (X : Cx) (params : Arguments) (body : Expr) (scope : Scope) (c' : Addr) : LF := ⟨⟨"<lambda>", X.env.qual ++ "<lambda>", params, [], scope, cloFrom X.env.cells scope.names [], c'⟩, body⟩
theorem lam_make3 {c P : Addr} {params : Arguments} {body : Expr} {scope : Scope} {pos : Pos} {E : Value → Shared → Prop} {Q : Value → Shared → Prop} (I : Inv X pins σ H s) (TB : TabB X.base X.mg c P) (hcode : X.env.code = .ref c)
    (hT : TabS H P (X.env.qual ++ "<lambda>")) (hdef : defaultsOf params X.env = ([], [])) (hfree : ∀ y ∈ scope.names, y.2 = .free → ∃ c, X.env.cells.lookup y.1 = some c)
    (h : ∀ (f c' : Addr) (H1 : Hp) (s' : Shared), Inv X pins σ H1 s' → ExtP P H H1 → (∀ b, H1 b = Option.none → H b = Option.none) → TabS H1 P (X.env.qual ++ "<lambda>") → H f = none → H1 f = some (FnL f (lf X params body scope c')) → H1 c' = some (CodeO c' (X.env.qual ++ "<lambda>")) → Q (.ref f) s') :
    wpAny (model X.prog X.w) X.A (eval (.Lambda params body scope pos) X.env) Q E s := by
  obtain ⟨ps, hP, ht, ha⟩ := hT
  refine PySem.W.kla_eval hdef ?_
  have bP : s.heap.BuiltinsAt X.mg P := TB.bm.keeps I.bk
  have hP' : s.heap.get? P = some { cls := .none, data := .fields ps } := I.hok P _ hP
  cases hc : codeAmong pos ps.toList with
  | none =>
    refine PySem.W.kla_makeFunction (mg := X.mg) (c := c) (P := P) (ps := ps) (closure_ok hfree) I.ok.glob (I.mod.glob.keeps I.bk) hcode (TB.code.keeps I.bk) hP' ht hc TB.gP bP fun c' ctv h' tk hx hge hlt hrec htb => ?_
    obtain ⟨c2, oc, vs, t, e2, hoc, hd, hv⟩ := hrec
    cases e2
    have nC : H c' = none := I.hok.fresh hge
    have I1 := inv_table (t' := tk) (more := #[rawInt pos.line, rawInt pos.col, .ref c']) (h' := h') I hP (fun b o hb e => hx b o hb e) htb hge ⟨oc, vs, t, hoc, hd, hv⟩
    have hE : ExtP P H (upd (upd H P (.tbl (ps ++ #[rawInt pos.line, rawInt pos.col, .ref c']))) c' (CodeO c' (X.env.qual ++ "<lambda>"))) := fun b o e n => by
      rw [upd_ne (ne_of_none e nC), upd_ne n]
      exact e
    have eL : (ps ++ #[rawInt pos.line, rawInt pos.col, .ref c']).toList = ps.toList ++ [rawInt pos.line, rawInt pos.col, .ref c'] := by simp
    have T1 : TabS (upd (upd H P (.tbl (ps ++ #[rawInt pos.line, rawInt pos.col, .ref c']))) c' (CodeO c' (X.env.qual ++ "<lambda>"))) P (X.env.qual ++ "<lambda>") := by
      refine ⟨_, by rw [upd_ne (ne_of_none hP nC), upd_same], by rw [eL]; exact PySem.TriplesOk_snoc _ _ _ _ ht, fun p' cv hcv => ?_⟩
      rw [eL] at hcv
      rcases among_app _ ht hcv with z | z
      · obtain ⟨c0, e1, e2⟩ := ha p' cv z
        exact ⟨c0, e1, hE _ _ e2 fun y => by rw [y, hP] at e2; exact codeO_ne ps (Option.some.inj e2).symm⟩
      · exact ⟨c', z, upd_same⟩
    have nF := I1.hok.fresh (Nat.le_refl _)
    have I2 := inv_lam (F := lf X params body scope c') (t' := tk) (pm := (X.mg "__name__").getD .none) (ctv := ctv) I1 rfl
    refine h h'.objs.size c' _ _ I2 (fun b o e n => ?_) (fun b e => upd_none (upd_none (upd_none e))) (T1.ext fun b o e => ?_) (I.hok.fresh (Nat.le_trans hge (Nat.le_of_lt hlt))) upd_same ?_
    · have e1 := hE b o e n
      exact (upd_ne (ne_of_none e1 nF)).trans e1
    · exact (upd_ne (ne_of_none e nF)).trans e
    · exact (upd_ne (Nat.ne_of_lt hlt)).trans upd_same
  | some cv =>
    obtain ⟨c', e, hco⟩ := ha pos cv hc
    subst e
    refine PySem.W.kla_makeFunctionHit (mg := X.mg) (c := c) (P := P) (ps := ps) (closure_ok hfree) I.ok.glob (I.mod.glob.keeps I.bk) hcode (TB.code.keeps I.bk) hP' ht hc bP fun ctv h' tk hx hsz => ?_
    have I1 : Inv X pins σ H { s with heap := h', toks := tk } := I.kept hx
    have nF : H h'.objs.size = none := I1.hok.fresh (Nat.le_refl _)
    have I2 := inv_lam (F := lf X params body scope c') (t' := tk) (pm := (X.mg "__name__").getD .none) (ctv := ctv) I1 rfl
    refine h h'.objs.size c' _ _ I2 (fun b o e n => ?_) (fun b e => upd_none e) ((show TabS H P _ from ⟨ps, hP, ht, ha⟩).ext fun b o e => ?_) nF upd_same ?_
    · exact (upd_ne (ne_of_none e nF)).trans e
    · exact (upd_ne (ne_of_none e nF)).trans e
    · exact (upd_ne (ne_of_none hco nF)).trans hco
/-- the reading of a lambda without captured names -/
def tLam1 (P : Addr) (q : PySem.Str) (F : Addr → LF) : TE := fun σ H Q => TabS H P q ∧ ∀ (f c' : Addr) (H1 : Hp), ExtP P H H1 → (∀ b, H1 b = Option.none → H b = Option.none) → TabS H1 P q → H f = none → H1 f = some (FnL f (F c')) → H1 c' = some (CodeO c' q) → Q (.ref f) H1
theorem pe_lam1 {c P : Addr} {params : Arguments} {body : Expr} {scope : Scope} {pos : Pos} (TB : TabB X.base X.mg c P) (hcode : X.env.code = .ref c)
    (hdef : defaultsOf params X.env = ([], [])) (hfree : ∀ y ∈ scope.names, y.2 ≠ .free) : PE X (.Lambda params body scope pos) (tLam1 P (X.env.qual ++ "<lambda>") (lf X params body scope)) := by
  refine ⟨fun pins s σ H Q I h => ?_⟩
  obtain ⟨hT, q⟩ := h
  refine lam_make3 I TB hcode hT hdef (fun y hy e => absurd e (hfree y hy)) fun f c' H1 s' J e1 e2 T1 n e3 e4 => ?_
  exact ⟨.ref f, H1, J, rfl, q f c' H1 e1 e2 T1 n e3 e4⟩
theorem clo_nil {cells : List (PySem.Str × Addr)} : ∀ {names : List (PySem.Str × NameKind)} {acc : List (PySem.Str × Addr)}, (∀ y ∈ names, y.2 ≠ .free) → cloFrom cells names acc = acc := by
  intro names
  induction names with
  | nil => intro acc _; rfl
  | cons y r ih =>
    intro acc h
    obtain ⟨n, kd⟩ := y
    have hk : kd ≠ .free := h (n, kd) List.mem_cons_self
    have e : (kd == NameKind.free) = false := by
      cases kd <;> first | rfl | exact absurd rfl hk
    show (if (kd == NameKind.free) = true then _ else cloFrom cells r acc) = acc
    rw [e, if_neg (by decide)]
    exact ih fun z hz => h z (List.mem_cons_of_mem _ hz)
/-- the key function does its turn -/
theorem turn_of {F : LF} {f : Addr} {H2 : Hp} {J : Hp → Prop} {N ps : List PySem.Str} {k : Nat} {xs : List V} {kz : List Int} {tk : TE} (S : NScope N ps [] F.nf.scope) (hps : ps.length = 1) (hN : N.length = 1) (hcl : F.nf.cl = [])
    (hb : ∀ (pm ctv : Value) (us : List Value), us.length = ps.length → bindArgs (F.fd pm ctv) ⟨us, []⟩ = pure (ps.zip us)) (hr : Room (k + 3) X.A) (hf : ∀ H', J H' → H' f = some (FnL f F)) (hc : ∀ H', J H' → H' F.nf.c = some (CodeO F.nf.c F.nf.qual))
    (hbody : ∀ (A : Around) (outer : List Env) (s : Shared) (H : Hp) (E : XK), Room k (A.deeper (envF F.nf f s.heap.objs.size)) → PE (ncx CX0 X.prog X.w X.K X.mg X.base N F.nf f A outer s H E) F.body tk)
    (ht : ∀ (i : Nat) (x : V) (k : Int), xs[i]? = some x → kz[i]? = some k → ∀ H', J H' → tk [some x] H' (fun v H'' => v = .int k ∧ J H'' ∧ ∀ b o, H2 b = none → H' b = some o → H'' b = some o)) :
    SrtK.Turn X X.A.in1.in1 (.ref f) H2 J xs kz := by
  intro i x kk hx hk pins σ H' s' u hJ I ru
  have L := lok_of (P := X.prog) (w := X.w) (K := X.K) (mg := X.mg) (base := X.base) (CX := CX0) (N := N) (f := f) (k := k) (sp := fun _ vs H Q E => tk (startF N vs []) H Q) S hb (fun A outer s H vs ws Q E hroom hw hv hsp => ⟨tk, hbody A outer s H E hroom, by
    have : ws = [] := List.eq_nil_of_length_eq_zero hw
    rw [this]
    exact hsp⟩)
  have e0 := I.env0
  have hroom : Room (k + 1) X.A.in1.in1 := hr.in1.in1
  have run := L.run X.A.in1.in1 X.stack s' H' [u] [x] [] (fun v H'' => v = .int kk ∧ J H'' ∧ ∀ b o, H2 b = none → H' b = some o → H'' b = some o) (fun _ _ _ => False) hroom ⟨e0.frames, e0.mod, e0.bs, e0.bsz, e0.funs, e0.frf, e0.hok, e0.bare⟩ (hf H' hJ) (hc H' hJ)
    ⟨rfl, fun y c e => (by rw [hcl] at e; cases e), fun y z c e => (by rw [hcl] at e; cases e), fun i y e => (by simp at e)⟩ (.cons ru .nil) (by rw [hps]; rfl) (by
      have es : startF N [x] [] = [some x] := by
        unfold startF
        rw [hN]
        rfl
      show tk (startF N [x] []) H' _
      rw [es]
      exact ht i x kk hx hk H' hJ)
  refine wpAny_call (codeAny_mono run fun r s'' hq => ?_)
  cases r with
  | error e => exact False.elim hq
  | ok fl =>
    cases fl with
    | ret u' =>
      obtain ⟨v, H3, I3, rv, hv, hj, hex⟩ := I.after hq
      subst hv
      obtain ⟨t, rfl⟩ := rv
      exact ⟨⟨t, rfl⟩, H3, hj, hex, I3⟩
    | next => exact False.elim hq
    | brk => exact False.elim hq
    | cont => exact False.elim hq
end
end LamK
end
section
set_option Elab.async false
set_option linter.all false
set_option autoImplicit false
set_option maxRecDepth 100000
set_option maxHeartbeats 4000000
/-! sorted(xs, key = lambda x: ..) -/
namespace LamK
open PySem PySem.Spec PyProof.Rows L2 LamX NdefX SrtK
def tMon (t : TE) : TE := fun σ H Q => ∃ R : VK, t σ H R ∧ ∀ x H', R x H' → Q x H'
theorem pe_mon {X : Cx} {e : Expr} {t : TE} (h : PE X e t) : PE X e (tMon t) := ⟨fun pins s σ H Q I ⟨R, q, i⟩ => thn (h.run pins s σ H R I q) fun v s1 ⟨x, H1, I1, r1, q1⟩ => ⟨x, H1, I1, r1, i x H1 q1⟩⟩
theorem pe_weak {X : Cx} {e : Expr} {t t' : TE} (h : PE X e t) (i : ∀ σ H Q, t' σ H Q → t σ H Q) : PE X e t' := ⟨fun pins s σ H Q I q => h.run pins s σ H Q I (i σ H Q q)⟩
/-- what the sort asks behind the lambda's making -/
def SklQ (tk : TE) (xs : List V) (kz : List Int) (Q : VK) (H2 : Hp) : Prop := ∃ J : Hp → Prop, Jn H2 J ∧ (∀ H', J H' → ∀ b φ, H2 b = some (.ext φ) → H' b = some (.ext φ)) ∧
  (∀ (i : Nat) (x : V) (k : Int), xs[i]? = some x → kz[i]? = some k → ∀ H', J H' → tk [some x] H' (fun v H'' => v = .int k ∧ J H'' ∧ ∀ b o, H2 b = none → H' b = some o → H'' b = some o)) ∧
  ∀ (H3 : Hp) (p : Addr) (ys : List V), J H3 → H3 p = none → KOut kz xs ys → Q (.ref p) (upd H3 p (.lst ys))
def tSkl (K : PySem.W.Frag) (P : Addr) (q : PySem.Str) (te tk : TE) : TE := fun σ H Q => te σ H fun x H1 => ∃ (l : Addr) (xs : List V) (kz : List Int), x = .ref l ∧ SqL K H1 l xs ∧ l ≠ P ∧ (∀ x, x ∈ xs → Pln x) ∧ kz.length = xs.length ∧ TabS H1 P q ∧
  ∀ H2, ExtP P H1 H2 → (∀ b, H2 b = Option.none → H1 b = Option.none) → TabS H2 P q → SklQ tk xs kz Q H2
section
variable {X : Cx} {k : Nat} {N ps : List PySem.Str} {params : Arguments} {body : Expr} {scope : Scope} {tk te : TE} {c P : Addr} {e : Expr} {p1 lpos kpos pos : Pos}
def rSkl (X : Cx) (params : Arguments) (body : Expr) (scope : Scope) (tk : TE) : List V → List V → Hp → VK → Prop := fun vs zs H Q => ∃ (l : Addr) (xs : List V) (kz : List Int) (f c' : Addr), vs = [V.ref l] ∧ zs = [V.ref f] ∧ SqL X.K H l xs ∧ (∀ x, x ∈ xs → Pln x) ∧ kz.length = xs.length ∧
  H f = some (FnL f (lf X params body scope c')) ∧ H c' = some (CodeO c' (X.env.qual ++ "<lambda>")) ∧ SklQ tk xs kz Q H
theorem cr_skl (S : NScope N ps [] scope) (hps : ps.length = 1) (hN : N.length = 1) (hfree : ∀ y ∈ scope.names, y.2 ≠ .free)
    (hb : ∀ (c' : Addr) (pm ctv : Value) (us : List Value), us.length = ps.length → bindArgs ((lf X params body scope c').fd pm ctv) ⟨us, []⟩ = pure (ps.zip us)) (hr : Room (k + 3) X.A)
    (hbody : ∀ (f c' : Addr) (A : Around) (outer : List Env) (s : Shared) (H : Hp) (E : XK), Room k (A.deeper (envF (lf X params body scope c').nf f s.heap.objs.size)) → PE (ncx CX0 X.prog X.w X.K X.mg X.base N (lf X params body scope c').nf f A outer s H E) body tk) :
    CallRK X (.builtin "sorted") [PySem.Str.ofString "key"] (rSkl X params body scope tk) := by
  intro pins s σ H vs zs us ws Q I r rz h
  obtain ⟨l, xs, kz, f, c', rfl, rfl, hs, hx, hl, hf, hc, J, jn, hext, ht, q⟩ := h
  obtain rfl := Vals.ref1 r
  obtain rfl := Vals.ref1 rz
  have turn : Turn X X.A.in1.in1 (.ref f) H J xs kz := turn_of (F := lf X params body scope c') S hps hN (clo_nil hfree) (hb c') hr (fun H' j => hext H' j f _ hf) (fun H' j => hext H' j _ _ hc) (hbody f c') ht
  exact sorted_key jn I hs hx hl (PyProof.Rows.ksk_s1 _ _) (fun _ => PyProof.Rows.ksk_l1 _ _) (fun x => PyProof.Rows.ksk_t1 f x) turn q
theorem sqL_extP {K : PySem.W.Frag} {H H' : Hp} {l P : Addr} {xs : List V} (e : ExtP P H H') (hl : l ≠ P) (h : SqL K H l xs) : SqL K H' l xs := by
  rcases h with (h | ⟨o, h⟩) | h
  · exact .inl (.inl (e _ _ h hl))
  · exact .inl (.inr ⟨o, e _ _ h hl⟩)
  · exact .inr h
theorem pe_skl (TB : TabB X.base X.mg c P) (hcode : X.env.code = .ref c) (hdef : defaultsOf params X.env = ([], [])) (S : NScope N ps [] scope) (hps : ps.length = 1) (hN : N.length = 1) (hfree : ∀ y ∈ scope.names, y.2 ≠ .free)
    (hb : ∀ (c' : Addr) (pm ctv : Value) (us : List Value), us.length = ps.length → bindArgs ((lf X params body scope c').fd pm ctv) ⟨us, []⟩ = pure (ps.zip us)) (hr : Room (k + 3) X.A)
    (hbody : ∀ (f c' : Addr) (A : Around) (outer : List Env) (s : Shared) (H : Hp) (E : XK), Room k (A.deeper (envF (lf X params body scope c').nf f s.heap.objs.size)) → PE (ncx CX0 X.prog X.w X.K X.mg X.base N (lf X params body scope c').nf f A outer s H E) body tk)
    (hg : Gl X "sorted") (hm : X.mg "sorted" = none) (he : PE X e te) (hs : starEach [e] X.env = (false, eval e X.env) :: starEach [] X.env) :
    PE X (.Call (.Name "sorted" p1) [e] [⟨some (PySem.Str.ofString "key"), .Lambda params body scope lpos, kpos⟩] pos) (tSkl X.K P (X.env.qual ++ "<lambda>") te tk) := by
  have h1 := pe_callBK (p := p1) (pos := pos) (cr_skl S hps hN hfree hb hr hbody) hg hm (by decide +kernel) (pa_cons (pe_mon he) pa_nil hs) (pk_cons (nm := some (PySem.Str.ofString "key")) (kpos := kpos) (pe_mon (pe_lam1 (body := body) (pos := lpos) TB hcode hdef hfree)) pk_nil) (by decide) (by decide) (by rw [hs]; rfl) (by rw [hs]; rfl) (by rfl) (by rfl) (by rfl)
  refine pe_weak h1 fun σ H Q q => ?_
  refine ⟨_, q, fun x H1 hx => ?_⟩
  obtain ⟨l, xs, kz, rfl, hsq, hlP, hpl, hlen, hT, hQ⟩ := hx
  refine ⟨fun v H2 => ∃ f c', v = V.ref f ∧ ExtP P H1 H2 ∧ (∀ b, H2 b = Option.none → H1 b = Option.none) ∧ TabS H2 P (X.env.qual ++ "<lambda>") ∧ H2 f = some (FnL f (lf X params body scope c')) ∧ H2 c' = some (CodeO c' (X.env.qual ++ "<lambda>")), ⟨hT, fun f c' H2 e1 e2 T2 nf e3 e4 => ⟨f, c', rfl, e1, e2, T2, e3, e4⟩⟩, fun v H2 hv => ?_⟩
  obtain ⟨f, c', rfl, e1, e2, T2, e3, e4⟩ := hv
  exact ⟨l, xs, kz, f, c', rfl, rfl, sqL_extP e1 hlP hsq, hpl, hlen, e3, e4, hQ H2 e1 e2 T2⟩
end
end LamK
end
section
set_option Elab.async false
set_option linter.all false
set_option autoImplicit false
/-! set(xs) of a list of ints -/
namespace L2
open PySem PySem.Spec PyProof.Rows
section
variable {P : Program} {w : World} {A : Around} {E : Value → Shared → Prop} {s : Shared}
abbrev fsO (w : World) : Obj := { cls := .type "set", dict := none, data := .set #[] 0 (.fresh 0 0 (!w.params.followText "set-order")) }
set_option maxRecDepth 100000 in
set_option maxHeartbeats 3200000 in
theorem set_of_list {a : Addr} {zs : Array Value} (ns : List Int) {Q : Value → Shared → Prop} (hA : A.handled = none) (ha : s.heap.IsList a zs) (hz : IntsAre zs.toList ns) (hB : ns.length + 1 < scanBound)
    (hQ : ∀ (g : Heap) (tk c : Nat), SetR w g s.heap.objs.size (fun j => decide (j ∈ ns)) c → c ≤ ns.length → (∀ b o, s.heap.get? b = some o → g.get? b = some o) → Q (.ref s.heap.objs.size) { s with heap := g, toks := tk }) :
    wpAny (model P w) A (call (.type "set") [.ref a]) Q E s := by
  have zsn : zs.size = ns.length := by
    rw [← Array.length_toList]
    exact IntsAre.length hz
  obtain ⟨mc, mt, hro⟩ := F.called_set.mro; have hmk := F.called_set.made; have hsb := F.called_set.sub
  refine wpAny_call (codeAny_of_tree (?_ : wpAny _ _ (callAny (.type "set") _) _ _ _))
  refine wpAny_pure ⟨Code.quiet_builtin _ (by decide +kernel), codeAny_builtin F.entry_type_call ?_⟩
  rw [Around.under_plain (weight_type_call_type "set" [.ref a] []) rfl]
  have n1 := F.called_set.notType; have n2 := F.called_set.canCreate; have n3 := F.typeCall_set_1 (.ref a)
  repeat (any_goals (first | assumption | wp_step))
  refine codeAny_mono (code_set_led1 (.ref a) (E := E) (Q₁ := fun x t => x = .ref s.heap.objs.size ∧ t = { s with heap := s.heap.push (fsO w) }) ⟨rfl, rfl⟩) fun r t hr => ?_
  cases r with
  | error e => exact hr
  | ok fl =>
    cases fl with
    | next => exact hr
    | brk => exact hr
    | cont => exact hr
    | ret obj =>
      obtain ⟨rfl, rfl⟩ := hr
      have gS : (s.heap.push (fsO w)).get? s.heap.objs.size = some (fsO w) := Heap.get?_push_size _ rfl
      have tS : Shared.TypeIs { s with heap := s.heap.push (fsO w) } (.ref s.heap.objs.size) "set" := ⟨_, gS, rfl⟩
      have i1 := F.called_set.init.lookup; have i2 := F.called_set.init.bind (.ref s.heap.objs.size)
      repeat (any_goals (first | assumption | wp_step))
      refine codeAny_mono (codeAny_call_builtin (R := wants (fun r t2 => r = .none ∧ ∃ g tk c, t2 = { s with heap := g, toks := tk } ∧ SetR w g s.heap.objs.size (fun j => decide (j ∈ ns)) c ∧ c ≤ ns.length ∧ (∀ b o, s.heap.get? b = some o → g.get? b = some o)) E)
        F.called_set.init.plain F.entry_set_init (check_set_init_1 tS ?_)) fun r2 t2 hr2 => ?_
      · obtain ⟨⟨oc, od, odt, osl⟩, ho, hoc, nl, hod⟩ := ha
        simp only at hoc hod
        subst hoc; subst hod
        have ho' : (s.heap.push (fsO w)).get? a = some { cls := .type "list", dict := od, data := .seq zs nl, slots := osl } := Heap.get?_push_of_some _ ho
        have b1 := F.sub_list_set; have b2 := F.sub_list_frozenset
        have b3 : (Value.type "list" == Value.type "dict") = false := by decide
        have ha1 : (s.heap.push (fsO w)).IsList a zs := ⟨_, ho', rfl, nl, rfl⟩
        unfold Builtin.«set.__init__» noKeywords Builtin.Frozenset.updateFrom
        generalize hPI : pyIter = PI
        wp_walk
        subst hPI
        refine wpAny_pyIter_list ha1 (wpAny_bind (wpAny_runValue ?_))
        have lt : a < s.heap.objs.size := Heap.lt_size ho
        have hA3 : A.in1.in1.in1.handled = none := by simp [hA]
        have sz : (s.heap.push (fsO w)).objs.size = s.heap.objs.size + 1 := Heap.size_push ..
        have neI : a ≠ (s.heap.push (fsO w)).objs.size := by
          rw [sz]
          exact Nat.ne_of_lt (Nat.lt_succ_of_lt lt)
        have nin : s.heap.objs.size ∉ [(s.heap.push (fsO w)).objs.size, a] := by
          rw [sz]
          simp only [List.mem_cons, List.not_mem_nil, or_false, not_or]
          exact ⟨Nat.ne_of_lt (Nat.lt_succ_self _), Nat.ne_of_gt lt⟩
        have val : ∀ (i : Nat) (v : Value), zs[i]? = some v → ∃ k t, ns[i]? = some k ∧ v = .int k t := fun i v hv => by
          have hi : i < ns.length := by
            rw [← zsn]
            exact (Array.getElem?_eq_some_iff.mp hv).1
          obtain ⟨t, e⟩ := PyProof.Rows.IntsAre.int_at hz i v (by rw [Array.getElem?_toList]; exact hv)
          refine ⟨ns[i], t, List.getElem?_eq_getElem hi, ?_⟩
          rw [e, List.getD_eq_getElem?_getD, List.getElem?_eq_getElem hi] <;> rfl
        refine set_update_ints ((Walks.list hA3 _ a neI zs).toS) s.heap.objs.size nin ns zsn hB val (zs.size - 0) 0 _ (by omega) (Nat.zero_le _) ⟨⟨_, Heap.get?_push_size _ rfl, rfl, rfl⟩, (ha1.push _)⟩ ?c0 ?c1
        case c0 => exact ⟨0, Nat.le_refl 0, setR_new_at (Heap.get?_push_of_some _ gS)⟩
        case c1 =>
          intro t' c' hm hc' hS'
          obtain ⟨g', g2, d', tk', os'⟩ := t'
          have eg : g2 = s.gens := hm.gens
          have ed : d' = s.drawn := hm.drawn
          have eo : os' = s.os := hm.os
          subst eg; subst ed; subst eo
          show wpAny _ _ _ _ _ _
          refine wpAny_pure ?_
          show wpAny _ _ (ret Value.none) _ _ _
          rw [zsn] at hc'
          refine wpAny_pure ⟨rfl, g', tk', c', rfl, hS', hc', fun b o e => ?_⟩
          have q0 : b < s.heap.objs.size := Heap.lt_size e
          have q2 : b ≠ (s.heap.push (fsO w)).objs.size := by
            rw [sz]
            exact Nat.ne_of_lt (Nat.lt_succ_of_lt q0)
          exact hm.heap b o (by simp only [List.mem_cons, List.not_mem_nil, or_false, not_or]; exact ⟨Nat.ne_of_lt q0, q2⟩) (Heap.get?_push_of_some _ (Heap.get?_push_of_some _ e))
      · cases r2 with
        | error e => exact hr2
        | ok f2 =>
          cases f2 with
          | ret r =>
            obtain ⟨rfl, g, tk, c', rfl, q1, q2, q3⟩ := hr2
            repeat (any_goals (first | assumption | wp_step))
            exact hQ _ _ _ q1 q2 q3
          | next => exact hr2.elim
          | brk => exact hr2.elim
          | cont => exact hr2.elim
end
end L2
end
section
set_option Elab.async false
set_option linter.all false
/-! the values, the store, the text of a def, what it evaluates to -/
namespace Z
open PySem L2

/-- a value: ref i is the i-th thing of the store -/
inductive D where
  | non | bl (b : Bool) | int (i : Int) | str (s : Str) | tup (ds : List D) | ref (i : Nat)
deriving Inhabited

/-- a thing of the store: a list, a list that is only read, a dict -/
inductive SO where
  | lst (xs : List D) | fro (xs : List D) | dct (kvs : List (Key × D)) | fdc (kvs : List (Key × D))
  | tbl (f : Str)
deriving Inhabited
abbrev Sto := List SO
abbrev Ev := List (Option D)

mutual
/-- all references are below n -/
def D.cl (n : Nat) : D → Bool
  | .tup ds => clL n ds
  | .ref i => decide (i < n)
  | _ => true
def clL (n : Nat) : List D → Bool
  | [] => true
  | d :: ds => d.cl n && clL n ds
end
def SO.cl (n : Nat) : SO → Bool
  | .lst xs => clL n xs
  | .fro xs => clL n xs
  | .dct kvs => clL n (kvs.map (·.2))
  | .fdc kvs => clL n (kvs.map (·.2))
  | .tbl _ => true

/-- what is left of what an expression made: nothing, or the one thing that it hands back -/
def gc (n : Nat) : Option (D × Sto) → Option (D × Sto)
  | none => none
  | some (v, S) => if v.cl n then some (v, S.take n) else match v with
    | .ref k => (match S[k]? with
      | some o => if o.cl n then some (.ref n, S.take n ++ [o]) else some (v, S)
      | none => some (v, S))
    | _ => some (v, S)

/-! ### the text -/
inductive Bl where
  | len | abs | int | bool | max2 | min2 | sum | all | any | tuple | list | sorted | sortedT
deriving DecidableEq
inductive Ik where
  | int | bool | tuple | list | str
deriving DecidableEq
inductive Mt where
  | append | pop | popAt | bits
deriving DecidableEq
inductive Tg where
  | nm (i : Nat) | tp (is : List Nat)
deriving DecidableEq

mutual
inductive Ex where
  | var (i : Nat)
  | non | bl (b : Bool) | int (i : Int) | str (s : Str)
  | con (i : Int)
  | bin (op : Operator) (a b : Ex) | un (op : UnaryOp) (a : Ex)
  | cmp (op : CmpOp) (a b : Ex) | chn (o1 o2 : CmpOp) (a b c : Ex)
  | and (a b : Ex) | or (a b : Ex) | not (a : Ex) | ite (c a b : Ex)
  | tup (es : Es) | lst (es : Es)
  | ix (a b : Ex) | sl (a : Ex) (lo hi : Ox) | rev (a : Ex)
  | call (f : Str) (es : Es)
  | blt (b : Bl) (es : Es)
  | met (m : Mt) (o : Ex) (es : Es)
  | isi (a : Ex) (k : Ik)
  | rg1 (t : Bool) (a : Ex) | rg2 (t : Bool) (a b : Ex) | srs (a : Ex)
  | skl (j : Nat) (nm : Str) (a k : Ex)
  | dic | dix (a b : Ex) | dgt (o k v : Ex)
  | lck (own : List Nat) (i o : Nat) (c : Ox) (e : Ex)
  | lc (own : List Nat) (g : Tg) (it : It) (c : Ox) (e : Ex)
inductive Es where
  | nil | cons (e : Ex) (es : Es)
inductive Ox where
  | no | yes (e : Ex)
inductive It where
  | ex (e : Ex) | rng1 (a : Ex) | rng2 (a b : Ex)
end
mutual
inductive Sm where
  | set (i : Nat) (e : Ex)
  | par (i j : Nat) (a b : Ex)
  | unp (is : List Nat) (e : Ex)
  | six (o i e : Ex) | dst (o i e : Ex)
  | aug (i : Nat) (op : Operator) (e : Ex)
  | expr (e : Ex)
  | ifs (c : Ex) (a b : Ss)
  | for (g : Tg) (it : It) (b : Ss)
  | while (c : Ex) (b : Ss)
  | ret (e : Ex) | retN | brk | cnt | pass | fail
inductive Ss where
  | nil | cons (s : Sm) (ss : Ss)
end
/-- a def: how many parameters, how many names, its body -/
structure Df where
  np : Nat
  nn : Nat
  body : Ss
abbrev Txt := List (Str × Df)

/-! ### operations -/
abbrev lim : Nat := 100000
mutual
/-- the data of a value, f reading what it refers to -/
def pyD (f : Nat → Option PyData) : D → Option PyData
  | .non => some .none
  | .bl b => some (.bool b)
  | .int i => some (.int i)
  | .str s => some (.str s)
  | .tup ds => (pyL f ds).map .tuple
  | .ref i => f i
def pyL (f : Nat → Option PyData) : List D → Option (List PyData)
  | [] => some []
  | d :: ds => match pyD f d, pyL f ds with
    | some x, some xs => some (x :: xs)
    | _, _ => none
end
def SO.seq? : SO → Option (List D)
  | .lst xs => some xs
  | .fro xs => some xs
  | _ => none
/-- the items of a list or a tuple -/
def itemsOf (S : Sto) : D → Option (List D)
  | .tup ds => some ds
  | .ref i => (S[i]?).bind SO.seq?
  | _ => none
def rdS (S : Sto) : Nat → Nat → Option PyData
  | 0, _ => none
  | n + 1, i => ((S[i]?).bind SO.seq?).bind fun xs => (pyL (rdS S n) xs).map .list
def py (S : Sto) (d : D) : Option PyData := pyD (rdS S 8) d
/-- == of data -/
def eqD (S : Sto) (x y : D) : Option Bool := match py S x, py S y with
  | some a, some b => if SeqAt.shaped a && SeqAt.shaped b then some (PyData.eqv a b) else none
  | _, _ => none
def flatD : D → Bool
  | .non => true
  | .bl _ => true
  | .int _ => true
  | .str _ => true
  | _ => false
def eqF : D → D → Bool
  | .non, .non => true
  | .bl a, .bl b => a == b
  | .bl a, .int b => (if a then 1 else 0) == b
  | .int a, .bl b => a == (if b then 1 else 0)
  | .int a, .int b => a == b
  | .str a, .str b => a == b
  | _, _ => false
/-- x in a list or tuple: of flat things, else of data -/
def inD (S : Sto) (x y : D) : Option Bool := (itemsOf S y).bind fun xs =>
  if flatD x && xs.all flatD then some (xs.any fun z => eqF z x) else match y with
  | .ref _ => (match py S x, py S y with
    | some a, some (.list bs) => if SeqAt.shaped a && SeqAt.shaped (.list bs) then some (bs.any fun z => PyData.eqv z a) else none
    | _, _ => none)
  | .tup _ => (match py S x, py S y with
    | some a, some (.tuple bs) => if SeqAt.shaped a && SeqAt.shaped (.tuple bs) then some (bs.any fun z => PyData.eqv z a) else none
    | _, _ => none)
  | _ => none
def new (S : Sto) (o : SO) : Option (D × Sto) := some (.ref S.length, S ++ [o])
def binF (op : Operator) (x y : D) (S : Sto) : Option (D × Sto) := match x, y with
  | .int i, .int j => (match op with
    | .Add => some (.int (i + j), S)
    | .Sub => some (.int (i - j), S)
    | .Mult => if i.natAbs.log2 + j.natAbs.log2 < 1000000 then some (.int (i * j), S) else none
    | .FloorDiv => if 0 < j ∧ j.natAbs.log2 < 9000 then some (.int (i / j), S) else none
    | .Mod => if 0 < j then some (.int (i % j), S) else none
    | .Pow => if 0 ≤ j ∧ j ≤ 1000000 ∧ i.natAbs < 2 ^ 64 then some (.int (i ^ j.toNat), S) else none
    | .LShift => if 0 ≤ j ∧ j ≤ 1000000 ∧ i.natAbs < 2 ^ 64 then some (.int (i * 2 ^ j.toNat), S) else none
    | .RShift => if 0 ≤ j then some (.int (i / 2 ^ j.toNat), S) else none
    | .BitAnd => some (.int (Builtin.bitAnd i j), S)
    | .BitOr => some (.int (Builtin.bitOr i j), S)
    | .BitXor => some (.int (Builtin.bitXor i j), S)
    | _ => none)
  | .tup a, .tup b => (match op with
    | .Add => if a.length + b.length ≤ lim then some (.tup (a ++ b), S) else none
    | _ => none)
  | .tup a, .int k => (match op with
    | .Mult => if a ≠ [] ∧ 2 ≤ k ∧ k ≤ 1000 ∧ a.length ≤ 1000 ∧ a.length * k.toNat ≤ lim then some (.tup (List.replicate k.toNat a).flatten, S) else none
    | _ => none)
  | .ref i, .ref j => (match op, S[i]?, S[j]? with
    | .Add, some (.lst a), some (.lst b) => if a.length + b.length ≤ lim then new S (.lst (a ++ b)) else none
    | _, _, _ => none)
  | _, _ => none
def unF (op : UnaryOp) (x : D) : Option D := match x with
  | .int i => (match op with
    | .USub => some (.int (-i))
    | .Invert => some (.int (Builtin.bitNot i))
    | _ => none)
  | _ => none
def isNon : D → Bool
  | .non => true
  | _ => false
def cmpF (op : CmpOp) (x y : D) (S : Sto) : Option Bool := match op with
  | .Eq => eqD S x y
  | .NotEq => (eqD S x y).map (!·)
  | .In => inD S x y
  | .NotIn => (inD S x y).map (!·)
  | .Is => (match y with
    | .non => some (isNon x)
    | _ => none)
  | .IsNot => (match y with
    | .non => some (!isNon x)
    | _ => none)
  | .Lt => (match x, y with
    | .int i, .int j => some (decide (i < j))
    | _, _ => none)
  | .LtE => (match x, y with
    | .int i, .int j => some (decide (i ≤ j))
    | _, _ => none)
  | .Gt => (match x, y with
    | .int i, .int j => some (decide (j < i))
    | _, _ => none)
  | .GtE => (match x, y with
    | .int i, .int j => some (decide (j ≤ i))
    | _, _ => none)
/-- truth -/
def truF (S : Sto) : D → Option Bool
  | .non => some false
  | .bl b => some b
  | .int i => some (i != 0)
  | .str s => if s.length ≤ lim then some (s.length != 0) else none
  | .tup ds => some (!ds.isEmpty)
  | .ref i => (S[i]?).bind fun o => o.seq?.map fun xs => !xs.isEmpty
def intsOf : List D → Option (List Int)
  | [] => some []
  | .int i :: r => (intsOf r).map (i :: ·)
  | _ :: _ => none
def boolsOf : List D → Option (List Bool)
  | [] => some []
  | .bl b :: r => (boolsOf r).map (b :: ·)
  | _ :: _ => none
def insI (x : Int) : List Int → List Int
  | [] => [x]
  | y :: r => if x ≤ y then x :: y :: r else y :: insI x r
def sortI : List Int → List Int
  | [] => []
  | x :: r => insI x (sortI r)
def lstOf (S : Sto) (d : D) : Option (List D) := match d with
  | .ref i => (S[i]?).bind SO.seq?
  | _ => none
/-- tuples of ints, in the order of tuples -/
def nssOf : List D → Option (List (List Int))
  | [] => some []
  | .tup ds :: r => (match intsOf ds, nssOf r with
    | some ns, some nss => some (ns :: nss)
    | _, _ => none)
  | _ :: _ => none
def fineL : List (List Int) → Bool
  | [] => true
  | ns :: r => ns.isEmpty || (ns :: r).all fun ms => !ms.isEmpty
def insL (x : List Int) : List (List Int) → List (List Int)
  | [] => [x]
  | y :: r => if HT.lexLt y x = true then y :: insL x r else x :: y :: r
def sortL : List (List Int) → List (List Int)
  | [] => []
  | x :: r => insL x (sortL r)
/-- by keys, equal ones in their order -/
def insK (k : Int) (x : D) : List (Int × D) → List (Int × D)
  | [] => [(k, x)]
  | y :: r => if y.1 < k then y :: insK k x r else (k, x) :: y :: r
def sortK : List (Int × D) → List (Int × D)
  | [] => []
  | x :: r => insK x.1 x.2 (sortK r)
def plainD : D → Bool
  | .int _ => true
  | .tup _ => true
  | .ref _ => true
  | _ => false
def bltF (b : Bl) (vs : List D) (S : Sto) : Option (D × Sto) := match b, vs with
  | .len, [x] => (itemsOf S x).map fun xs => (.int xs.length, S)
  | .abs, [.int i] => some (.int (if i < 0 then -i else i), S)
  | .int, [.int i] => some (.int i, S)
  | .int, [.bl k] => some (.int (if k then 1 else 0), S)
  | .bool, [.int i] => some (.bl (i != 0), S)
  | .bool, [.bl k] => some (.bl k, S)
  | .max2, [.int i, .int j] => some (.int (if j > i then j else i), S)
  | .min2, [.int i, .int j] => some (.int (if j < i then j else i), S)
  | .sum, [x] => ((lstOf S x).bind intsOf).map fun ns => (.int ns.sum, S)
  | .all, [x] => ((lstOf S x).bind boolsOf).map fun bs => (.bl (bs.all id), S)
  | .any, [x] => ((lstOf S x).bind boolsOf).map fun bs => (.bl (bs.any id), S)
  | .tuple, [x] => (itemsOf S x).map fun xs => (.tup xs, S)
  | .list, [x] => (itemsOf S x).bind fun xs => new S (.lst xs)
  | .sortedT, [x] => ((lstOf S x).bind nssOf).bind fun nss => if fineL nss = true then new S (.lst ((sortL nss).map fun ns => .tup (ns.map .int))) else none
  | .sorted, [x] => ((lstOf S x).bind intsOf).bind fun ns => new S (.lst ((sortI ns).map .int))
  | _, _ => none
def isiF (S : Sto) (x : D) (k : Ik) : Option Bool := match x with
  | .non => some false
  | .bl _ => some (k == .bool || k == .int)
  | .int _ => some (k == .int)
  | .str _ => some (k == .str)
  | .tup _ => some (k == .tuple)
  | .ref i => (match S[i]? with
    | some (.lst _) => some (k == .list)
    | some (.fro _) => some (k == .list)
    | some (.dct _) => some false
    | some (.fdc _) => some false
    | some (.tbl _) => none
    | none => none)
def keyD : D → Option Key
  | .int i => some (.inl i)
  | .str s => some (.inr s)
  | _ => none
def kD : Key → D
  | .inl i => .int i
  | .inr s => .str s
def dLook (kvs : List (Key × D)) (k : Key) : Option D := (kvs.find? fun p => decide (p.1 = k)).map (·.2)
def dPut (kvs : List (Key × D)) (k : Key) (v : D) : List (Key × D) :=
  if (kvs.any fun kv => decide (kv.1 = k)) = true then kvs.map (fun kv => if kv.1 = k then (kv.1, v) else kv) else kvs ++ [(k, v)]
def ixF (x y : D) (S : Sto) : Option D := match y with
  | .int i => (itemsOf S x).bind fun xs => atI xs i
  | _ => none
def SO.dic? : SO → Option (List (Key × D))
  | .dct kvs => some kvs
  | .fdc kvs => some kvs
  | _ => none
def dicOf (S : Sto) (d : D) : Option (List (Key × D)) := match d with
  | .ref i => (S[i]?).bind SO.dic?
  | _ => none
def dixF (x y : D) (S : Sto) : Option D := (dicOf S x).bind fun kvs => (keyD y).bind fun k => dLook kvs k
def dgtF (x y z : D) (S : Sto) : Option D := (dicOf S x).bind fun kvs => (keyD y).map fun k => (dLook kvs k).getD z
def cutL {α : Type} (xs : List α) (lo hi : Option Int) : List α := (xs.drop (HT.sIx xs.length 0 lo)).take (HT.sIx xs.length xs.length hi - HT.sIx xs.length 0 lo)
def optI : Option D → Option (Option Int)
  | none => some none
  | some (.int i) => if -(2 ^ 62) ≤ i ∧ i ≤ 2 ^ 62 then some (some i) else none
  | _ => none
def slF (x : D) (lo hi : Option D) (S : Sto) : Option (D × Sto) := match optI lo, optI hi, x with
  | some l, some h, .tup ds => some (.tup (cutL ds l h), S)
  | some l, some h, .ref i => ((S[i]?).bind SO.seq?).bind fun xs => new S (.lst (cutL xs l h))
  | _, _, _ => none
def revF (x : D) (S : Sto) : Option (D × Sto) := match x with
  | .tup ds => some (.tup ds.reverse, S)
  | .ref i => ((S[i]?).bind SO.seq?).bind fun xs => new S (.lst xs.reverse)
  | _ => none
def wr (base i : Nat) (d : D) : Bool := decide (base ≤ i) || d.cl 0
def rgOk (i : Int) : Bool := decide (-(2 ^ 62) ≤ i) && decide (i < 2 ^ 62)
def metP (m : Mt) (x : D) (S : Sto) : Bool := match m with
  | .bits => true
  | _ => match x with
    | .ref i => (match S[i]? with
      | some (.lst _) => true
      | _ => false)
    | _ => false
def metF (base : Nat) (m : Mt) (x : D) (vs : List D) (S : Sto) : Option (D × Sto) := match m, x, vs with
  | .append, .ref i, [y] => (match S[i]? with
    | some (.lst xs) => if wr base i y && decide (xs.length < lim) then some (.non, S.set i (.lst (xs ++ [y]))) else none
    | _ => none)
  | .pop, .ref i, [] => (match S[i]? with
    | some (.lst xs) => (match xs[xs.length - 1]? with
      | some y => some (y, S.set i (.lst xs.dropLast))
      | none => none)
    | _ => none)
  | .popAt, .ref i, [.int j] => (match S[i]? with
    | some (.lst xs) => (match ixN xs.length j with
      | some k => (match xs[k]? with
        | some y => if rgOk j then some (y, S.set i (.lst (xs.eraseIdx k))) else none
        | none => none)
      | none => none)
    | _ => none)
  | .bits, .int i, [] => some (.int (Builtin.Int.intBits i : Nat), S)
  | _, _, _ => none
def sixF (base : Nat) (o i v : D) (S : Sto) : Option Sto := match o, i with
  | .ref a, .int k => (match S[a]? with
    | some (.lst xs) => (match ixN xs.length k with
      | some j => if wr base a v then some (S.set a (.lst (xs.set j v))) else none
      | none => none)
    | _ => none)
  | _, _ => none
def dstF (base : Nat) (o i v : D) (S : Sto) : Option Sto := match o, keyD i with
  | .ref a, some k => (match S[a]? with
    | some (.dct kvs) => if wr base a v && decide (kvs.length < lim) then some (S.set a (.dct (dPut kvs k v))) else none
    | _ => none)
  | _, _ => none

/-! ### evaluation -/
abbrev Phi := Str → List D → Sto → Option (D × Sto)
def getV (env : Ev) (i : Nat) : Option D := (env[i]?).join
def wipeE (env : Ev) : List Nat → Ev
  | [] => env
  | i :: is => (wipeE env is).set i none
def setAll (env : Ev) : List Nat → List D → Option Ev
  | [], [] => some env
  | i :: is, d :: ds => setAll (env.set i (some d)) is ds
  | _, _ => none
def tgF (g : Tg) (env : Ev) (d : D) : Option Ev := match g with
  | .nm i => some (env.set i (some d))
  | .tp is => (match d with
    | .tup ds => setAll env is ds
    | _ => none)
def tgIn (own : List Nat) : Tg → Bool
  | .nm i => own.contains i
  | .tp is => is.all own.contains
def rgI (lo : Int) : Nat → List D
  | 0 => []
  | n + 1 => .int lo :: rgI (lo + 1) n
/-- list(range(i, j)), tuple(range(i, j)) -/
def rgF (t : Bool) (i j : Int) (S : Sto) : Option (D × Sto) := if rgOk i && rgOk j && decide ((j - i).toNat ≤ lim) then (if t = true then some (.tup (rgI i (j - i).toNat), S) else new S (.lst (rgI i (j - i).toNat))) else none
def insU (x : Int) : List Int → List Int
  | [] => [x]
  | y :: r => if x < y then x :: y :: r else if x = y then y :: r else y :: insU x r
def srtU : List Int → List Int
  | [] => []
  | x :: r => insU x (srtU r)
/-- sorted(set(t)) -/
def srsF (x : D) (S : Sto) : Option (D × Sto) := match x with
  | .tup ds => (intsOf ds).bind fun ns => if ns.length < 64 then new S (.lst ((srtU ns).map .int)) else none
  | .ref i => (((S[i]?).bind SO.seq?).bind intsOf).bind fun ns => if ns.length < 64 then new S (.lst ((srtU ns).map .int)) else none
  | _ => none
mutual
def D.beq : D → D → Bool
  | .non, .non => true
  | .bl a, .bl b => a == b
  | .int a, .int b => a == b
  | .str a, .str b => a == b
  | .tup a, .tup b => beqL a b
  | .ref a, .ref b => a == b
  | _, _ => false
def beqL : List D → List D → Bool
  | [], [] => true
  | x :: xs, y :: ys => x.beq y && beqL xs ys
  | _, _ => false
end
/-- does the list that is walked still hold these items? -/
def still (S : Sto) : Option Nat → List D → Bool
  | none, _ => true
  | some i, xs => match (S[i]?).bind SO.seq? with
    | some ys => beqL ys xs
    | none => false
/-- what is walked: the items, and the list that must stay as it is -/
def itV (S : Sto) (d : D) : Option (List D × Option Nat) := match d with
  | .tup ds => some (ds, none)
  | .ref i => ((S[i]?).bind SO.seq?).map fun xs => (xs, some i)
  | _ => none
/-- is the dict still locked, with these keys? -/
def isFd (S : Sto) (a : Nat) (ks : List D) : Bool := match S[a]? with
  | some (.fdc kvs) => beqL (kvs.map fun p => kD p.1) ks
  | _ => false
/-- it is unlocked, and the new list is laid -/
def unFd (a : Nat) (ys : List D) (S : Sto) : Option (D × Sto) := match S[a]? with
  | some (.fdc kvs) => new (S.set a (.dct kvs)) (.lst ys)
  | _ => none
/-- are two stores one? -/
def SO.beq : SO → SO → Bool
  | .lst a, .lst b => beqL a b
  | .fro a, .fro b => beqL a b
  | .dct a, .dct b => decide (a.map (·.1) = b.map (·.1)) && beqL (a.map (·.2)) (b.map (·.2))
  | .fdc a, .fdc b => decide (a.map (·.1) = b.map (·.1)) && beqL (a.map (·.2)) (b.map (·.2))
  | .tbl f, .tbl g => decide (f = g)
  | _, _ => false
def stoEq : Sto → Sto → Bool
  | [], [] => true
  | a :: r, b :: q => a.beq b && stoEq r q
  | _, _ => false
/-- the keys of some items, when their making changes nothing -/
def keysF (f : D → Option (D × Sto)) (S : Sto) : List D → Option (List Int)
  | [] => some []
  | d :: ds => (match f d, keysF f S ds with
    | some (.int k, S2), some ks => if stoEq S2 S then some (k :: ks) else none
    | _, _ => none)
/-- a comprehension's turns -/
def lcF (step : D → Sto → Option (Option D × Sto)) (ok : Sto → Bool) : List D → List D → Sto → Option (List D × Sto)
  | [], acc, S => if ok S then some (acc, S) else none
  | d :: ds, acc, S => if ok S && decide (acc.length < lim) then (match step d S with
    | some (some y, S1) => lcF step ok ds (acc ++ [y]) S1
    | some (none, S1) => lcF step ok ds acc S1
    | none => none) else none
inductive Fl where
  | nx | ret (d : D) | bk | ct
abbrev Rs := Option (Fl × Ev × Sto)
/-- a for's turns -/
def forF (step : D → Ev → Sto → Rs) (ok : Sto → Bool) : List D → Ev → Sto → Rs
  | [], env, S => if ok S then some (.nx, env, S) else none
  | d :: ds, env, S => if ok S then (match step d env S with
    | some (.nx, env1, S1) => forF step ok ds env1 S1
    | some (.ct, env1, S1) => forF step ok ds env1 S1
    | some (.bk, env1, S1) => some (.nx, env1, S1)
    | some (.ret v, env1, S1) => some (.ret v, env1, S1)
    | none => none) else none
def whF (test : Ev → Sto → Option (Bool × Sto)) (step : Ev → Sto → Rs) : Nat → Ev → Sto → Rs
  | 0, _, _ => none
  | n + 1, env, S => match test env S with
    | some (false, S1) => some (.nx, env, S1)
    | some (true, S1) => (match step env S1 with
      | some (.nx, env1, S2) => whF test step n env1 S2
      | some (.ct, env1, S2) => whF test step n env1 S2
      | some (.bk, env1, S2) => some (.nx, env1, S2)
      | some (.ret v, env1, S2) => some (.ret v, env1, S2)
      | none => none)
    | none => none
abbrev fuel : Nat := 1000000
mutual
def evE (φ : Phi) (base : Nat) (env : Ev) : Ex → Sto → Option (D × Sto)
  | .var i, S => (getV env i).map fun d => (d, S)
  | .non, S => some (.non, S)
  | .bl b, S => some (.bl b, S)
  | .int i, S => some (.int i, S)
  | .con i, S => some (.int i, S)
  | .str s, S => some (.str s, S)
  | .bin op a b, S => gc S.length (match evE φ S.length env a S with
    | some (x, S1) => (match evE φ S.length env b S1 with
      | some (y, S2) => binF op x y S2
      | none => none)
    | none => none)
  | .un op a, S => (match evE φ S.length env a S with
    | some (x, S1) => gc S.length ((unF op x).map fun z => (z, S1))
    | none => none)
  | .cmp op a b, S => gc S.length (match evE φ S.length env a S with
    | some (x, S1) => (match evE φ S.length env b S1 with
      | some (y, S2) => (cmpF op x y S2).map fun z => (.bl z, S2)
      | none => none)
    | none => none)
  | .chn o1 o2 a b c, S => gc S.length (match evE φ S.length env a S with
    | some (x, S1) => (match evE φ S.length env b S1 with
      | some (y, S2) => (match cmpF o1 x y S2 with
        | some true => (match evE φ S.length env c S2 with
          | some (z, S3) => (cmpF o2 y z S3).map fun r => (.bl r, S3)
          | none => none)
        | some false => some (.bl false, S2)
        | none => none)
      | none => none)
    | none => none)
  | .and a b, S => (match evE φ base env a S with
    | some (x, S1) => (match truF S1 x with
      | some true => evE φ base env b S1
      | some false => some (x, S1)
      | none => none)
    | none => none)
  | .or a b, S => (match evE φ base env a S with
    | some (x, S1) => (match truF S1 x with
      | some true => some (x, S1)
      | some false => evE φ base env b S1
      | none => none)
    | none => none)
  | .not a, S => (match evE φ base env a S with
    | some (x, S1) => (truF S1 x).map fun k => (.bl (!k), S1)
    | none => none)
  | .ite c a b, S => (match evE φ base env c S with
    | some (x, S1) => (match truF S1 x with
      | some true => evE φ base env a S1
      | some false => evE φ base env b S1
      | none => none)
    | none => none)
  | .tup es, S => gc S.length (match evS φ S.length env es S with
    | some (vs, S1) => if vs.length ≤ lim then some (.tup vs, S1) else none
    | none => none)
  | .lst es, S => gc S.length (match evS φ S.length env es S with
    | some (vs, S1) => if vs.length ≤ lim then new S1 (.lst vs) else none
    | none => none)
  | .ix a b, S => gc S.length (match evE φ S.length env a S with
    | some (x, S1) => (match evE φ S.length env b S1 with
      | some (y, S2) => (ixF x y S2).map fun z => (z, S2)
      | none => none)
    | none => none)
  | .sl a lo hi, S => gc S.length (match evE φ S.length env a S with
    | some (x, S1) => (match evO φ S.length env lo S1 with
      | some (l, S2) => (match evO φ S.length env hi S2 with
        | some (h, S3) => slF x l h S3
        | none => none)
      | none => none)
    | none => none)
  | .rev a, S => gc S.length (match evE φ S.length env a S with
    | some (x, S1) => revF x S1
    | none => none)
  | .rg1 t a, S => gc S.length (match evE φ S.length env a S with
    | some (.int j, S1) => rgF t 0 j S1
    | _ => none)
  | .rg2 t a b, S => gc S.length (match evE φ S.length env a S with
    | some (.int i, S1) => (match evE φ S.length env b S1 with
      | some (.int j, S2) => rgF t i j S2
      | _ => none)
    | _ => none)
  | .srs a, S => gc S.length (match evE φ S.length env a S with
    | some (x, S1) => srsF x S1
    | none => none)
  | .skl j nm a k, S => gc S.length (match evE φ S.length env a S with
    | some (.ref i, S1) => (match (S1[i]?).bind SO.seq?, S1[j]? with
      | some xs, some (.tbl f) => if f = nm ∧ xs.all plainD = true ∧ i ≠ j then (match keysF (fun d => evE φ S1.length [some d] k S1) S1 xs with
        | some ks => new S1 (.lst ((sortK (ks.zip xs)).map (·.2)))
        | none => none) else none
      | _, _ => none)
    | _ => none)
  | .call f es, S => gc S.length (match evS φ S.length env es S with
    | some (vs, S1) => φ f vs S1
    | none => none)
  | .blt b es, S => gc S.length (match evS φ S.length env es S with
    | some (vs, S1) => bltF b vs S1
    | none => none)
  | .met m o es, S => (match evE φ base env o S with
    | some (x, S1) => if metP m x S1 then (match evS φ base env es S1 with
      | some (vs, S2) => metF base m x vs S2
      | none => none) else none
    | none => none)
  | .isi a k, S => gc S.length (match evE φ S.length env a S with
    | some (x, S1) => (isiF S1 x k).map fun z => (.bl z, S1)
    | none => none)
  | .dic, S => new S (.dct [])
  | .dix a b, S => gc S.length (match evE φ S.length env a S with
    | some (x, S1) => (match evE φ S.length env b S1 with
      | some (y, S2) => (dixF x y S2).map fun z => (z, S2)
      | none => none)
    | none => none)
  | .dgt o k v, S => gc S.length (match evE φ S.length env o S with
    | some (x, S1) => if (dicOf S1 x).isSome then (match evE φ S.length env k S1 with
      | some (y, S2) => (match evE φ S.length env v S2 with
        | some (z, S3) => (dgtF x y z S3).map fun r => (r, S3)
        | none => none)
      | none => none) else none
    | none => none)
  | .lck own i o c e, S => if own.contains i then (match getV env o with
    | some (.ref a) => (match S[a]? with
      | some (.dct kvs) => gc S.length (match lcF (fun d S2 => (match evO φ S.length ((wipeE env own).set i (some d)) c S2 with
          | some (t, S3) => (match t with
            | none => (match evE φ S.length ((wipeE env own).set i (some d)) e S3 with
              | some (y, S4) => some (some y, S4)
              | none => none)
            | some t => (match truF S3 t with
              | some true => (match evE φ S.length ((wipeE env own).set i (some d)) e S3 with
                | some (y, S4) => some (some y, S4)
                | none => none)
              | some false => some (none, S3)
              | none => none))
          | none => none)) (fun S2 => isFd S2 a (kvs.map fun p => kD p.1)) (kvs.map fun p => kD p.1) [] (S.set a (.fdc kvs)) with
        | some (ys, S2) => unFd a ys S2
        | none => none)
      | _ => none)
    | _ => none) else none
  | .lc own g it c e, S => if tgIn own g then gc S.length (match evI φ S.length env it S with
    | some (xs, h, S1) => (match lcF (fun d S2 => (match tgF g (wipeE env own) d with
        | some env2 => (match evO φ S.length env2 c S2 with
          | some (t, S3) => (match t with
            | none => (match evE φ S.length env2 e S3 with
              | some (y, S4) => some (some y, S4)
              | none => none)
            | some t => (match truF S3 t with
              | some true => (match evE φ S.length env2 e S3 with
                | some (y, S4) => some (some y, S4)
                | none => none)
              | some false => some (none, S3)
              | none => none))
          | none => none)
        | none => none)) (fun S2 => still S2 h xs) xs [] S1 with
      | some (ys, S2) => new S2 (.lst ys)
      | none => none)
    | none => none) else none
termination_by structural x => x
def evS (φ : Phi) (base : Nat) (env : Ev) : Es → Sto → Option (List D × Sto)
  | .nil, S => some ([], S)
  | .cons e es, S => (match evE φ base env e S with
    | some (x, S1) => (match evS φ base env es S1 with
      | some (xs, S2) => some (x :: xs, S2)
      | none => none)
    | none => none)
termination_by structural x => x
def evO (φ : Phi) (base : Nat) (env : Ev) : Ox → Sto → Option (Option D × Sto)
  | .no, S => some (none, S)
  | .yes e, S => (match evE φ base env e S with
    | some (x, S1) => some (some x, S1)
    | none => none)
termination_by structural x => x
def evI (φ : Phi) (base : Nat) (env : Ev) : It → Sto → Option (List D × Option Nat × Sto)
  | .ex e, S => (match evE φ base env e S with
    | some (x, S1) => (itV S1 x).map fun p => (p.1, p.2, S1)
    | none => none)
  | .rng1 a, S => (match evE φ base env a S with
    | some (.int j, S1) => if rgOk j then some (rgI 0 j.toNat, none, S1) else none
    | _ => none)
  | .rng2 a b, S => (match evE φ base env a S with
    | some (.int i, S1) => (match evE φ base env b S1 with
      | some (.int j, S2) => if rgOk i && rgOk j then some (rgI i (j - i).toNat, none, S2) else none
      | _ => none)
    | _ => none)
termination_by structural x => x
end
/-- a test: an expression's truth -/
def evT (φ : Phi) (base : Nat) (env : Ev) (e : Ex) (S : Sto) : Option (Bool × Sto) := match evE φ base env e S with
  | some (x, S1) => (truF S1 x).map fun k => (k, S1)
  | none => none
def augOk : Operator → Bool
  | .Add => true
  | .Sub => true
  | .BitAnd => true
  | .BitOr => true
  | .BitXor => true
  | _ => false
mutual
def ex1 (φ : Phi) (base : Nat) : Sm → Ev → Sto → Rs
  | .set i e, env, S => (match evE φ base env e S with
    | some (x, S1) => some (.nx, env.set i (some x), S1)
    | none => none)
  | .par i j a b, env, S => (match evE φ base env a S with
    | some (x, S1) => (match evE φ base env b S1 with
      | some (y, S2) => some (.nx, (env.set i (some x)).set j (some y), S2)
      | none => none)
    | none => none)
  | .unp is e, env, S => (match evE φ base env e S with
    | some (.tup ds, S1) => (setAll env is ds).map fun env1 => (.nx, env1, S1)
    | _ => none)
  | .six o i e, env, S => (match evE φ base env e S with
    | some (x, S1) => (match evE φ base env o S1 with
      | some (y, S2) => (match evE φ base env i S2 with
        | some (z, S3) => (sixF base y z x S3).map fun S4 => (.nx, env, S4)
        | none => none)
      | none => none)
    | none => none)
  | .aug i op e, env, S => (match getV env i with
    | some x => (match evE φ base env e S with
      | some (y, S1) => (match x, y with
        | .int p, .int q => if augOk op then (match binF op (.int p) (.int q) S1 with
          | some (z, S2) => some (.nx, env.set i (some z), S2)
          | none => none) else none
        | _, _ => none)
      | none => none)
    | none => none)
  | .dst o i e, env, S => (match evE φ base env e S with
    | some (x, S1) => (match evE φ base env o S1 with
      | some (y, S2) => (match evE φ base env i S2 with
        | some (z, S3) => (dstF base y z x S3).map fun S4 => (.nx, env, S4)
        | none => none)
      | none => none)
    | none => none)
  | .expr e, env, S => (match evE φ base env e S with
    | some (_, S1) => some (.nx, env, S1)
    | none => none)
  | .ifs c a b, env, S => (match evT φ base env c S with
    | some (true, S1) => exs φ base a env S1
    | some (false, S1) => exs φ base b env S1
    | none => none)
  | .for g it b, env, S => (match evI φ base env it S with
    | some (xs, h, S1) => forF (fun d env1 S2 => match tgF g env1 d with
      | some env2 => exs φ base b env2 S2
      | none => none) (fun S2 => still S2 h xs) xs env S1
    | none => none)
  | .while c b, env, S => whF (fun env1 S1 => evT φ base env1 c S1) (fun env1 S1 => exs φ base b env1 S1) fuel env S
  | .ret e, env, S => (match evE φ base env e S with
    | some (x, S1) => some (.ret x, env, S1)
    | none => none)
  | .retN, env, S => some (.ret .non, env, S)
  | .brk, env, S => some (.bk, env, S)
  | .cnt, env, S => some (.ct, env, S)
  | .pass, env, S => some (.nx, env, S)
  | .fail, _, _ => none
termination_by structural x => x
def exs (φ : Phi) (base : Nat) : Ss → Ev → Sto → Rs
  | .nil, env, S => some (.nx, env, S)
  | .cons s ss, env, S => (match ex1 φ base s env S with
    | some (.nx, env1, S1) => exs φ base ss env1 S1
    | some (.ret v, env1, S1) => some (.ret v, env1, S1)
    | some (.bk, env1, S1) => some (.bk, env1, S1)
    | some (.ct, env1, S1) => some (.ct, env1, S1)
    | none => none)
termination_by structural x => x
end
/-- a def's call -/
def runD (φ : Phi) (c : Df) (vs : List D) (S : Sto) : Option (D × Sto) :=
  if vs.length = c.np then gc S.length (match exs φ S.length c.body (vs.map some ++ List.replicate (c.nn - vs.length) none) S with
    | some (.ret d, _, S1) => some (d, S1)
    | some (.nx, _, S1) => some (.non, S1)
    | _ => none) else none
def run (T : Txt) : Nat → Phi
  | 0 => fun _ _ _ => none
  | n + 1 => fun f vs S => match T.lookup f with
    | some c => runD (run T n) c vs S
    | none => none
end Z
end
section
set_option Elab.async false
set_option linter.all false
set_option autoImplicit false
/-! how a store lies in the abstract heap; how it grows -/
namespace Z
open PySem L2

def fdOf (K : PySem.W.Frag) (x : Str) : Option FuncData := match K.lookup (He.ga K x) with
  | some ⟨_, _, .func fd, _⟩ => some fd
  | _ => none
def codeOf (K : PySem.W.Frag) (x : Str) : Addr := match fdOf K x with
  | some fd => (match fd.code with
    | .ref c => c
    | _ => 0)
  | none => 0
/-- where the table of a def's code objects stands -/
def tabOf (K : PySem.W.Frag) (x : Str) : Addr := match K.lookup (codeOf K x) with
  | some ⟨_, _, .fields vs, _⟩ => (match (vs[11]? : Option Value) with
    | some (.ref P) => P
    | _ => 0)
  | _ => 0
def lamQ (x : Str) : Str := x ++ ".<locals>." ++ "<lambda>"
mutual
def Rep (K : PySem.W.Frag) (β : Nat → Addr) (H : Hp) : D → V → Prop
  | .non, v => v = .non
  | .bl b, v => v = .bl b
  | .int i, v => v = .int i
  | .str s, v => v = .str s
  | .tup ds, v => ∃ a vs, v = .ref a ∧ SqT K H a vs ∧ Reps K β H ds vs
  | .ref i, v => v = .ref (β i)
def Reps (K : PySem.W.Frag) (β : Nat → Addr) (H : Hp) : List D → List V → Prop
  | [], vs => vs = []
  | d :: ds, vs => ∃ x r, vs = x :: r ∧ Rep K β H d x ∧ Reps K β H ds r
end

def Cell (K : PySem.W.Frag) (β : Nat → Addr) (H : Hp) (a : Addr) : SO → Prop
  | .lst xs => ∃ vs, H a = some (.lst vs) ∧ Reps K β H xs vs
  | .fro xs => ∃ vs, (H a = some (.lst vs) ∨ ∃ o, H a = some (.frz o (.lst vs))) ∧ Reps K β H xs vs
  | .dct kvs => ∃ kws, H a = some (.dK kws) ∧ kws.map (·.1) = kvs.map (·.1) ∧ Reps K β H (kvs.map (·.2)) (kws.map (·.2))
  | .tbl f => a = tabOf K f ∧ LamX.TabS H a (lamQ f)
  | .fdc kvs => ∃ o kws, H a = some (.frz o (.dK kws)) ∧ kws.map (·.1) = kvs.map (·.1) ∧ Reps K β H (kvs.map (·.2)) (kws.map (·.2))
structure Sim (K : PySem.W.Frag) (β : Nat → Addr) (S : Sto) (H : Hp) : Prop where
  cell : ∀ i o, S[i]? = some o → Cell K β H (β i) o
  cl : ∀ (i : Nat) (o : SO), S[i]? = some o → o.cl S.length = true
  inj : ∀ i j, i < S.length → j < S.length → β i = β j → i = j
/-- tuples and what is locked stay -/
structure TupK (H H' : Hp) : Prop where
  tup : ∀ a vs, H a = some (.tup vs) → H' a = some (.tup vs)
  frz : ∀ a o u, H a = some (.frz o u) → H' a = some (.frz o u)
  ext : ∀ a φ, H a = some (.ext φ) → H' a = some (.ext φ)
/-- .. tuples alone -/
structure TupR (H H' : Hp) : Prop where
  tup : ∀ a vs, H a = some (.tup vs) → H' a = some (.tup vs)
  frt : ∀ a o vs, H a = some (.frz o (.tup vs)) → H' a = some (.frz o (.tup vs))
  ext : ∀ a φ, H a = some (.ext φ) → H' a = some (.ext φ)
structure Gr (base : Nat) (β : Nat → Addr) (S : Sto) (H : Hp) (β' : Nat → Addr) (S' : Sto) (H' : Hp) : Prop where
  len : S.length ≤ S'.length
  same : ∀ i, i < S.length → β' i = β i
  fr : ∀ a o, H a = some o → (∀ i, i < S.length → β i ≠ a) → H' a = some o
  trk : ∀ a o, H a = some o → ∃ o', H' a = some o'
  new : ∀ i, S.length ≤ i → i < S'.length → H (β' i) = none
  tm : ∀ i, i < base → ∀ (n : Nat) (o o' : SO), S[i]? = some o → S'[i]? = some o' → o.cl n = true → o'.cl n = true
  tk : TupK H H'
structure EnvR (K : PySem.W.Frag) (β : Nat → Addr) (H : Hp) (n : Nat) (env : Ev) (σ : L2.St) : Prop where
  len : env.length = σ.length
  get : ∀ (i : Nat) (d : D), env[i]? = some (some d) → d.cl n = true ∧ ∃ v, σ[i]? = some (some v) ∧ Rep K β H d v

section
variable {K : PySem.W.Frag} {β β' β1 β2 : Nat → Addr} {H H' H1 H2 : Hp} {S S' S1 S2 : Sto} {base n m : Nat}

theorem TupK.refl : TupK H H := ⟨fun _ _ h => h, fun _ _ _ h => h, fun _ _ h => h⟩
theorem TupK.trans (a : TupK H H1) (b : TupK H1 H2) : TupK H H2 := ⟨fun _ _ h => b.tup _ _ (a.tup _ _ h), fun _ _ _ h => b.frz _ _ _ (a.frz _ _ _ h), fun _ _ h => b.ext _ _ (a.ext _ _ h)⟩
theorem TupK.new {p : Addr} {o : HO} (h : H p = none) : TupK H (upd H p o) := ⟨fun a vs e => (by rw [upd_ne (ne_of_none e h)]; exact e), fun a ob u e => (by rw [upd_ne (ne_of_none e h)]; exact e), fun a φ e => (by rw [upd_ne (ne_of_none e h)]; exact e)⟩
theorem TupK.set {p : Addr} {o u : HO} (h : H p = some u) (h1 : ∀ vs, u ≠ .tup vs) (h2 : ∀ ob w, u ≠ .frz ob w) (h3 : ∀ φ, u ≠ .ext φ) : TupK H (upd H p o) :=
  ⟨fun a vs e => (by rw [upd_ne (ne_of e h (fun z => h1 vs z.symm))]; exact e), fun a ob w e => (by rw [upd_ne (ne_of e h (fun z => h2 ob w z.symm))]; exact e), fun a φ e => (by rw [upd_ne (ne_of e h (fun z => h3 φ z.symm))]; exact e)⟩
theorem TupK.r (t : TupK H H') : TupR H H' := ⟨t.tup, fun a o vs h => t.frz a o _ h, t.ext⟩
theorem TupR.refl : TupR H H := ⟨fun _ _ h => h, fun _ _ _ h => h, fun _ _ h => h⟩
theorem TupR.sqT {a : Addr} {vs : List V} (t : TupR H H') (h : SqT K H a vs) : SqT K H' a vs := by
  rcases h with (h | ⟨o, h⟩) | h
  · exact .inl (.inl (t.tup _ _ h))
  · exact .inl (.inr ⟨o, t.frt _ _ _ h⟩)
  · exact .inr h

mutual
theorem D.cl_mono (h : n ≤ m) : ∀ d : D, d.cl n = true → d.cl m = true
  | .non, _ => rfl
  | .bl _, _ => rfl
  | .int _, _ => rfl
  | .str _, _ => rfl
  | .ref i, e => decide_eq_true (Nat.lt_of_lt_of_le (of_decide_eq_true e) h)
  | .tup ds, e => clL_mono h ds e
theorem clL_mono (h : n ≤ m) : ∀ ds : List D, clL n ds = true → clL m ds = true
  | [], _ => rfl
  | d :: ds, e => by
    have e' : (d.cl n && clL n ds) = true := e
    rw [Bool.and_eq_true] at e'
    show (d.cl m && clL m ds) = true
    rw [D.cl_mono h d e'.1, clL_mono h ds e'.2]
    rfl
end
theorem SO.cl_mono (h : n ≤ m) {o : SO} (e : o.cl n = true) : o.cl m = true := by
  cases o with
  | lst xs => exact clL_mono h xs e
  | fro xs => exact clL_mono h xs e
  | dct kvs => exact clL_mono h _ e
  | fdc kvs => exact clL_mono h _ e
  | tbl f => rfl
theorem clL_mem : ∀ {ds : List D}, clL n ds = true → ∀ d ∈ ds, d.cl n = true
  | _ :: _, e, d, hd => by
    rw [clL, Bool.and_eq_true] at e
    rcases List.mem_cons.mp hd with rfl | hd
    · exact e.1
    · exact clL_mem e.2 d hd
theorem clL_of : ∀ {ds : List D}, (∀ d ∈ ds, d.cl n = true) → clL n ds = true
  | [], _ => rfl
  | d :: ds, h => by
    rw [clL, h d List.mem_cons_self, clL_of fun e he => h e (List.mem_cons_of_mem _ he)]
    rfl
theorem clL_iff {ds : List D} : clL n ds = true ↔ ∀ d ∈ ds, d.cl n = true := ⟨fun h => clL_mem h, clL_of⟩

mutual
theorem Rep.tk (t : TupR H H') (h : ∀ i, i < n → β' i = β i) : ∀ (d : D) (v : V), d.cl n = true → Rep K β H d v → Rep K β' H' d v
  | .non, _, _, r => r
  | .bl _, _, _, r => r
  | .int _, _, _, r => r
  | .str _, _, _, r => r
  | .ref i, v, c, r => by
    have r' : v = .ref (β i) := r
    show v = .ref (β' i)
    rw [h i (of_decide_eq_true c)]
    exact r'
  | .tup ds, v, c, r => by
    obtain ⟨a, vs, e, s, rs⟩ := (show ∃ a vs, v = .ref a ∧ SqT K H a vs ∧ Reps K β H ds vs from r)
    exact ⟨a, vs, e, t.sqT s, Reps.tk t h ds vs c rs⟩
theorem Reps.tk (t : TupR H H') (h : ∀ i, i < n → β' i = β i) : ∀ (ds : List D) (vs : List V), clL n ds = true → Reps K β H ds vs → Reps K β' H' ds vs
  | [], _, _, r => r
  | d :: ds, vs, c, r => by
    obtain ⟨x, q, e, r1, r2⟩ := (show ∃ x q, vs = x :: q ∧ Rep K β H d x ∧ Reps K β H ds q from r)
    have c' : (d.cl n && clL n ds) = true := c
    rw [Bool.and_eq_true] at c'
    exact ⟨x, q, e, Rep.tk t h d x c'.1 r1, Reps.tk t h ds q c'.2 r2⟩
end
theorem Reps.length : ∀ {ds : List D} {vs : List V}, Reps K β H ds vs → ds.length = vs.length
  | [], vs, r => by cases (show vs = [] from r); rfl
  | d :: ds, vs, r => by
    obtain ⟨x, q, rfl, _, r2⟩ := (show ∃ x q, vs = x :: q ∧ Rep K β H d x ∧ Reps K β H ds q from r)
    rw [List.length_cons, List.length_cons, Reps.length r2]
theorem Reps.get : ∀ {ds : List D} {vs : List V} {i : Nat} {d : D}, Reps K β H ds vs → ds[i]? = some d → ∃ v, vs[i]? = some v ∧ Rep K β H d v
  | [], _, _, _, _, e => by simp at e
  | d0 :: ds, vs, i, d, r, e => by
    obtain ⟨x, q, rfl, r1, r2⟩ := (show ∃ x q, vs = x :: q ∧ Rep K β H d0 x ∧ Reps K β H ds q from r)
    cases i with
    | zero =>
      simp only [List.getElem?_cons_zero, Option.some.injEq] at e
      subst e
      exact ⟨x, rfl, r1⟩
    | succ i =>
      simp only [List.getElem?_cons_succ] at e
      obtain ⟨v, h1, h2⟩ := Reps.get r2 e
      exact ⟨v, by simpa using h1, h2⟩
theorem Reps.append : ∀ {ds es : List D} {vs ws : List V}, Reps K β H ds vs → Reps K β H es ws → Reps K β H (ds ++ es) (vs ++ ws)
  | [], es, vs, ws, r, q => by cases (show vs = [] from r); exact q
  | d :: ds, es, vs, ws, r, q => by
    obtain ⟨x, q1, rfl, r1, r2⟩ := (show ∃ x q, vs = x :: q ∧ Rep K β H d x ∧ Reps K β H ds q from r)
    exact ⟨x, q1 ++ ws, rfl, r1, Reps.append r2 q⟩
theorem Reps.one {d : D} {v : V} (r : Rep K β H d v) : Reps K β H [d] [v] := ⟨v, [], rfl, r, rfl⟩
theorem Reps.take : ∀ (k : Nat) {ds : List D} {vs : List V}, Reps K β H ds vs → Reps K β H (ds.take k) (vs.take k)
  | 0, _, _, _ => rfl
  | k + 1, [], vs, r => by cases (show vs = [] from r); rfl
  | k + 1, d :: ds, vs, r => by
    obtain ⟨x, q, rfl, r1, r2⟩ := (show ∃ x q, vs = x :: q ∧ Rep K β H d x ∧ Reps K β H ds q from r)
    exact ⟨x, q.take k, rfl, r1, Reps.take k r2⟩
theorem Reps.drop : ∀ (k : Nat) {ds : List D} {vs : List V}, Reps K β H ds vs → Reps K β H (ds.drop k) (vs.drop k)
  | 0, _, _, r => r
  | k + 1, [], vs, r => by cases (show vs = [] from r); rfl
  | k + 1, d :: ds, vs, r => by
    obtain ⟨x, q, rfl, r1, r2⟩ := (show ∃ x q, vs = x :: q ∧ Rep K β H d x ∧ Reps K β H ds q from r)
    exact Reps.drop k r2
theorem Reps.rev : ∀ {ds : List D} {vs : List V}, Reps K β H ds vs → Reps K β H ds.reverse vs.reverse
  | [], vs, r => by cases (show vs = [] from r); rfl
  | d :: ds, vs, r => by
    obtain ⟨x, q, rfl, r1, r2⟩ := (show ∃ x q, vs = x :: q ∧ Rep K β H d x ∧ Reps K β H ds q from r)
    rw [List.reverse_cons, List.reverse_cons]
    exact (Reps.rev r2).append (Reps.one r1)
theorem Reps.flat {ds : List D} {vs : List V} (r : Reps K β H ds vs) : ∀ k : Nat, Reps K β H (List.replicate k ds).flatten (List.replicate k vs).flatten
  | 0 => rfl
  | k + 1 => by
    rw [List.replicate_succ, List.replicate_succ, List.flatten_cons, List.flatten_cons]
    exact r.append (Reps.flat r k)
theorem Reps.set : ∀ {ds : List D} {vs : List V} (i : Nat) {d : D} {v : V}, Reps K β H ds vs → Rep K β H d v → Reps K β H (ds.set i d) (vs.set i v)
  | [], vs, i, _, _, r, _ => by cases (show vs = [] from r); rfl
  | d0 :: ds, vs, 0, d, v, r, q => by
    obtain ⟨x, w, rfl, r1, r2⟩ := (show ∃ x q, vs = x :: q ∧ Rep K β H d0 x ∧ Reps K β H ds q from r)
    exact ⟨v, w, rfl, q, r2⟩
  | d0 :: ds, vs, i + 1, d, v, r, q => by
    obtain ⟨x, w, rfl, r1, r2⟩ := (show ∃ x q, vs = x :: q ∧ Rep K β H d0 x ∧ Reps K β H ds q from r)
    exact ⟨x, w.set i v, rfl, r1, Reps.set i r2 q⟩
theorem Reps.erase : ∀ {ds : List D} {vs : List V} (i : Nat), Reps K β H ds vs → Reps K β H (ds.eraseIdx i) (vs.eraseIdx i)
  | [], vs, i, r => by cases (show vs = [] from r); rfl
  | d0 :: ds, vs, 0, r => by
    obtain ⟨x, w, rfl, r1, r2⟩ := (show ∃ x q, vs = x :: q ∧ Rep K β H d0 x ∧ Reps K β H ds q from r)
    exact r2
  | d0 :: ds, vs, i + 1, r => by
    obtain ⟨x, w, rfl, r1, r2⟩ := (show ∃ x q, vs = x :: q ∧ Rep K β H d0 x ∧ Reps K β H ds q from r)
    exact ⟨x, w.eraseIdx i, rfl, r1, Reps.erase i r2⟩

/-! ### growing -/
theorem Gr.refl : Gr base β S H β S H := ⟨Nat.le_refl _, fun _ _ => rfl, fun _ _ e _ => e, fun _ o e => ⟨o, e⟩, fun i a b => absurd b (by omega), fun i _ n o o' a b c => by
  rw [a] at b
  cases b
  exact c, TupK.refl⟩
theorem Gr.trans (a : Gr base β S H β1 S1 H1) (b : Gr base β1 S1 H1 β2 S2 H2) : Gr base β S H β2 S2 H2 where
  len := Nat.le_trans a.len b.len
  same := fun i h => (b.same i (Nat.lt_of_lt_of_le h a.len)).trans (a.same i h)
  fr := fun x o e h => b.fr x o (a.fr x o e h) fun i hi => by
    by_cases hs : i < S.length
    · rw [a.same i hs]
      exact h i hs
    · intro z
      have := a.new i (by omega) hi
      rw [z, e] at this
      cases this
  trk := fun x o e => let ⟨o1, e1⟩ := a.trk x o e; b.trk x o1 e1
  new := fun i h1 h2 => by
    by_cases hs : i < S1.length
    · rw [b.same i hs]
      exact a.new i h1 hs
    · have q := b.new i (by omega) h2
      cases e : H (β2 i) with
      | none => rfl
      | some o =>
        obtain ⟨o', e'⟩ := a.trk _ o e
        rw [e'] at q
        cases q
  tm := fun i hi n o o' e1 e2 c => by
    have h1 : i < S1.length := Nat.lt_of_lt_of_le (List.getElem?_eq_some_iff.mp e1).1 a.len
    exact b.tm i hi n _ o' (List.getElem?_eq_getElem h1) e2 (a.tm i hi n o _ e1 (List.getElem?_eq_getElem h1) c)
  tk := a.tk.trans b.tk
/-- a tighter word is a looser one; from the whole store on there is nothing tighter -/
theorem Gr.loose (a : Gr m β S H β1 S1 H1) (h : base ≤ m ∨ S.length ≤ m) : Gr base β S H β1 S1 H1 :=
  ⟨a.len, a.same, a.fr, a.trk, a.new, fun i hi n o o' e1 e2 c => a.tm i (by
    have := (List.getElem?_eq_some_iff.mp e1).1
    omega) n o o' e1 e2 c, a.tk⟩
theorem Gr.rep {d : D} {v : V} (g : Gr base β S H β' S' H') (r : Rep K β H d v) (c : d.cl S.length = true) : Rep K β' H' d v := Rep.tk g.tk.r g.same d v c r
theorem Gr.reps {ds : List D} {vs : List V} (g : Gr base β S H β' S' H') (r : Reps K β H ds vs) (c : clL S.length ds = true) : Reps K β' H' ds vs := Reps.tk g.tk.r g.same ds vs c r
theorem Gr.cl {d : D} (g : Gr base β S H β' S' H') (c : d.cl S.length = true) : d.cl S'.length = true := D.cl_mono g.len d c
theorem Gr.cls {ds : List D} (g : Gr base β S H β' S' H') (c : clL S.length ds = true) : clL S'.length ds = true := clL_mono g.len ds c
theorem EnvR.gr {env : Ev} {σ : L2.St} (e : EnvR K β H S.length env σ) (g : Gr base β S H β' S' H') : EnvR K β' H' S'.length env σ := ⟨e.len, fun i d h => by
  obtain ⟨c, v, e1, r⟩ := e.get i d h
  exact ⟨g.cl c, v, e1, g.rep r c⟩⟩
theorem EnvR.set {env : Ev} {σ : L2.St} {d : D} {v : V} (e : EnvR K β H n env σ) (i : Nat) (c : d.cl n = true) (r : Rep K β H d v) : EnvR K β H n (env.set i (some d)) (σ.set i (some v)) := ⟨by
  rw [List.length_set, List.length_set]
  exact e.len, fun j x h => by
  by_cases hj : i = j
  · subst hj
    have hl : i < env.length := by
      have := (List.getElem?_eq_some_iff.mp h).1
      rw [List.length_set] at this
      exact this
    rw [List.getElem?_set_self hl] at h
    cases h
    exact ⟨c, v, List.getElem?_set_self (by rw [← e.len]; exact hl), r⟩
  · rw [List.getElem?_set_ne hj] at h
    obtain ⟨c1, w, e1, r1⟩ := e.get j x h
    exact ⟨c1, w, by rw [List.getElem?_set_ne hj]; exact e1, r1⟩⟩
theorem EnvR.wipe {env : Ev} {σ : L2.St} (e : EnvR K β H n env σ) : ∀ is : List Nat, EnvR K β H n (wipeE env is) (L2.wipe σ is)
  | [] => e
  | i :: is => by
    have ih := EnvR.wipe e is
    refine ⟨?_, fun j x h => ?_⟩
    · show ((wipeE env is).set i none).length = ((L2.wipe σ is).set i none).length
      rw [List.length_set, List.length_set]
      exact ih.len
    · have h' : ((wipeE env is).set i none)[j]? = some (some x) := h
      by_cases hj : i = j
      · subst hj
        by_cases hl : i < (wipeE env is).length
        · rw [List.getElem?_set_self hl] at h'
          cases h'
        · rw [List.getElem?_eq_none (by rw [List.length_set]; omega)] at h'
          cases h'
      · rw [List.getElem?_set_ne hj] at h'
        obtain ⟨c1, w, e1, r1⟩ := ih.get j x h'
        refine ⟨c1, w, ?_, r1⟩
        show ((L2.wipe σ is).set i none)[j]? = _
        rw [List.getElem?_set_ne hj]
        exact e1

theorem Cell.there {a : Addr} {o : SO} (c : Cell K β H a o) : ∃ u, H a = some u ∧ (∀ vs, u ≠ .tup vs) ∧ ∀ ob vs, u ≠ .frz ob (.tup vs) := by
  cases o with
  | tbl f => obtain ⟨_, ps, e, _⟩ := c; exact ⟨_, e, (fun _ z => by cases z), (fun _ _ z => by cases z)⟩
  | lst xs => obtain ⟨vs, e, _⟩ := c; exact ⟨_, e, (fun _ z => by cases z), (fun _ _ z => by cases z)⟩
  | fro xs =>
    obtain ⟨vs, e | ⟨o, e⟩, _⟩ := c
    · exact ⟨_, e, (fun _ z => by cases z), (fun _ _ z => by cases z)⟩
    · exact ⟨_, e, (fun _ z => by cases z), (fun _ _ z => by cases z)⟩
  | dct xs => obtain ⟨vs, e, _⟩ := c; exact ⟨_, e, (fun _ z => by cases z), (fun _ _ z => by cases z)⟩
  | fdc xs => obtain ⟨o, vs, e, _⟩ := c; exact ⟨_, e, (fun _ z => by cases z), (fun _ _ z => by cases z)⟩
/-- a cell whose own object stays -/
theorem Cell.tk {a a' : Addr} {o : SO} (c : Cell K β H a o) (t : TupR H H') (h : ∀ i, i < n → β' i = β i) (ho : o.cl n = true) (ea : a' = a) (e : H' a = H a) : Cell K β' H' a' o := by
  subst ea
  cases o with
  | tbl f =>
    obtain ⟨e0, ps, e1, e2, e3⟩ := c
    exact ⟨e0, ps, e.trans e1, e2, fun pos cv hc => let ⟨c0, q1, q2⟩ := e3 pos cv hc; ⟨c0, q1, t.ext _ _ q2⟩⟩
  | lst xs => obtain ⟨vs, e1, r⟩ := c; exact ⟨vs, e.trans e1, Reps.tk t h _ _ ho r⟩
  | fro xs =>
    obtain ⟨vs, e1, r⟩ := c
    refine ⟨vs, ?_, Reps.tk t h _ _ ho r⟩
    rcases e1 with e1 | ⟨ob, e1⟩
    · exact .inl (e.trans e1)
    · exact .inr ⟨ob, e.trans e1⟩
  | dct xs => obtain ⟨vs, e1, k, r⟩ := c; exact ⟨vs, e.trans e1, k, Reps.tk t h _ _ ho r⟩
  | fdc xs => obtain ⟨ob, vs, e1, k, r⟩ := c; exact ⟨ob, vs, e.trans e1, k, Reps.tk t h _ _ ho r⟩
theorem get_app {S : Sto} {o : SO} {i : Nat} {u : SO} (h : (S ++ [o])[i]? = some u) : (i < S.length ∧ S[i]? = some u) ∨ (i = S.length ∧ u = o) := by
  by_cases hi : i < S.length
  · rw [List.getElem?_append_left hi] at h
    exact .inl ⟨hi, h⟩
  · rw [List.getElem?_append_right (by omega)] at h
    by_cases h0 : i - S.length = 0
    · rw [h0] at h
      exact .inr ⟨by omega, (Option.some.inj h).symm⟩
    · rw [List.getElem?_eq_none (by simp; omega)] at h
      cases h
def ext (β : Nat → Addr) (n : Nat) (p : Addr) : Nat → Addr := fun i => if i = n then p else β i
theorem ext_lt {i : Nat} {p : Addr} (h : i < n) : ext β n p i = β i := if_neg (by omega)
theorem ext_eq {p : Addr} : ext β n p n = p := if_pos rfl
/-- a new thing -/
theorem Sim.add {p : Addr} {o : SO} {u : HO} (s : Sim K β S H) (hp : H p = none) (ho : o.cl S.length = true) (c : Cell K β (upd H p u) p o) : Sim K (ext β S.length p) (S ++ [o]) (upd H p u) ∧ Gr base β S H (ext β S.length p) (S ++ [o]) (upd H p u) := by
  have t : TupK H (upd H p u) := TupK.new hp
  have ne : ∀ i o, S[i]? = some o → β i ≠ p := fun i o e z => by
    obtain ⟨w, e1, _⟩ := (s.cell i o e).there
    rw [z, hp] at e1
    cases e1
  have same : ∀ i, i < S.length → ext β S.length p i = β i := fun i h => ext_lt h
  refine ⟨⟨fun i o' e => ?_, fun i o' e => ?_, fun i j hi hj e => ?_⟩, ⟨by simp, same, fun a o' e _ => by rw [upd_ne (ne_of_none e hp)]; exact e, fun a o' e => ?_, fun i h1 h2 => ?_, fun i hi n o1 o2 e1 e2 c1 => ?_, t⟩⟩
  · rcases get_app e with ⟨hi, e⟩ | ⟨rfl, rfl⟩
    · exact (s.cell i o' e).tk t.r same (s.cl i o' e) (same i hi) (upd_ne (ne i o' e))
    · exact c.tk TupR.refl same ho ext_eq rfl
  · rw [List.length_append]
    rcases get_app e with ⟨hi, e⟩ | ⟨rfl, rfl⟩
    · exact SO.cl_mono (Nat.le_add_right _ _) (s.cl i o' e)
    · exact SO.cl_mono (Nat.le_add_right _ _) ho
  · rw [List.length_append, List.length_singleton] at hi hj
    by_cases h1 : i < S.length
    · by_cases h2 : j < S.length
      · rw [same i h1, same j h2] at e
        exact s.inj i j h1 h2 e
      · have : j = S.length := by omega
        subst this
        rw [same i h1, ext_eq] at e
        exact absurd e (ne i _ (List.getElem?_eq_getElem h1))
    · have : i = S.length := by omega
      subst this
      by_cases h2 : j < S.length
      · rw [same j h2, ext_eq] at e
        exact absurd e.symm (ne j _ (List.getElem?_eq_getElem h2))
      · omega
  · by_cases ha : a = p
    · subst ha
      exact ⟨u, upd_same⟩
    · exact ⟨o', by rw [upd_ne ha]; exact e⟩
  · rw [List.length_append, List.length_singleton] at h2
    have : i = S.length := by omega
    subst this
    rw [ext_eq]
    exact hp
  · have h1 := (List.getElem?_eq_some_iff.mp e1).1
    rw [List.getElem?_append_left h1, e1] at e2
    cases e2
    exact c1
/-- a new tuple -/
theorem Sim.tup {p : Addr} {vs : List V} (s : Sim K β S H) (hp : H p = none) : Sim K β S (upd H p (.tup vs)) ∧ Gr base β S H β S (upd H p (.tup vs)) := by
  have t : TupK H (upd H p (.tup vs)) := TupK.new hp
  have ne : ∀ i o, S[i]? = some o → β i ≠ p := fun i o e z => by
    obtain ⟨w, e1, _⟩ := (s.cell i o e).there
    rw [z, hp] at e1
    cases e1
  refine ⟨⟨fun i o' e => (s.cell i o' e).tk t.r (fun _ _ => rfl) (s.cl i o' e) rfl (upd_ne (ne i o' e)), s.cl, s.inj⟩, ⟨Nat.le_refl _, fun _ _ => rfl, fun a o' e _ => by rw [upd_ne (ne_of_none e hp)]; exact e, fun a o' e => ?_, fun i h1 h2 => absurd h2 (by omega), fun i hi n o1 o2 e1 e2 c1 => ?_, t⟩⟩
  · by_cases ha : a = p
    · subst ha
      exact ⟨_, upd_same⟩
    · exact ⟨o', by rw [upd_ne ha]; exact e⟩
  · rw [e1] at e2
    cases e2
    exact c1
/-- a thing is written -/
theorem Sim.put {i : Nat} {o o' : SO} {u u' : HO} (s : Sim K β S H) (e : S[i]? = some o) (hu : H (β i) = some u) (h1 : ∀ vs, u ≠ .tup vs) (h2 : ∀ ob w, u ≠ .frz ob w) (h3 : ∀ φ, u ≠ .ext φ) (ho : o'.cl S.length = true)
    (c : Cell K β (upd H (β i) u') (β i) o') (hb : i < base → ∀ n, o.cl n = true → o'.cl n = true) : Sim K β (S.set i o') (upd H (β i) u') ∧ Gr base β S H β (S.set i o') (upd H (β i) u') := by
  have t : TupK H (upd H (β i) u') := TupK.set hu h1 h2 h3
  have hi := (List.getElem?_eq_some_iff.mp e).1
  refine ⟨⟨fun j oj ej => ?_, fun j oj ej => ?_, fun j k hj hk q => s.inj j k (by simpa using hj) (by simpa using hk) q⟩, ⟨by simp, fun _ _ => rfl, fun a oa ea na => by rw [upd_ne (fun z => na i hi z.symm)]; exact ea, fun a oa ea => ?_, fun j h1 h2 => absurd h2 (by rw [List.length_set]; omega), fun j hj n o1 o2 e1 e2 c1 => ?_, t⟩⟩
  · by_cases hj : i = j
    · subst hj
      rw [List.getElem?_set_self hi] at ej
      cases ej
      exact c
    · rw [List.getElem?_set_ne hj] at ej
      refine (s.cell j oj ej).tk t.r (fun _ _ => rfl) (s.cl j oj ej) rfl (upd_ne fun z => hj ?_)
      exact (s.inj j i (List.getElem?_eq_some_iff.mp ej).1 hi z).symm
  · rw [List.length_set]
    by_cases hj : i = j
    · subst hj
      rw [List.getElem?_set_self hi] at ej
      cases ej
      exact ho
    · rw [List.getElem?_set_ne hj] at ej
      exact s.cl j oj ej
  · by_cases ha : a = β i
    · subst ha
      exact ⟨_, upd_same⟩
    · exact ⟨oa, by rw [upd_ne ha]; exact ea⟩
  · by_cases hij : i = j
    · subst hij
      rw [List.getElem?_set_self hi] at e2
      cases e2
      rw [e] at e1
      cases e1
      exact hb hj n c1
    · rw [List.getElem?_set_ne hij, e1] at e2
      cases e2
      exact c1
/-- what an expression made is thrown away but for what it hands back -/
theorem gc_ok {v d : D} {x : V} (hg : gc S.length (some (v, S1)) = some (d, S')) (g : Gr S.length β S H β1 S1 H1) (s : Sim K β S H) (s1 : Sim K β1 S1 H1) (r : Rep K β1 H1 v x) (c : v.cl S1.length = true) :
    ∃ β', Gr base β S H β' S' H1 ∧ Sim K β' S' H1 ∧ Rep K β' H1 d x ∧ d.cl S'.length = true := by
  have low : ∀ i o, i < S.length → S1[i]? = some o → o.cl S.length = true := fun i o hi e =>
    g.tm i hi S.length _ o (List.getElem?_eq_getElem hi) e (s.cl i _ (List.getElem?_eq_getElem hi))
  have lt : (S1.take S.length).length = S.length := by
    rw [List.length_take]
    have := g.len
    omega
  have getT : ∀ i o, (S1.take S.length)[i]? = some o → i < S.length ∧ S1[i]? = some o := fun i o e => by
    have hi := (List.getElem?_eq_some_iff.mp e).1
    rw [lt] at hi
    rw [List.getElem?_take, if_pos hi] at e
    exact ⟨hi, e⟩
  have sT : Sim K β1 (S1.take S.length) H1 := ⟨fun i o e => s1.cell i o (getT i o e).2, fun i o e => by rw [lt]; exact low i o (getT i o e).1 (getT i o e).2, fun i j hi hj e => s1.inj i j (by rw [lt] at hi; have := g.len; omega) (by rw [lt] at hj; have := g.len; omega) e⟩
  have whole : Gr base β S H β1 S1 H1 := g.loose (.inr (Nat.le_refl _))
  have gT : Gr base β S H β1 (S1.take S.length) H1 := ⟨by rw [lt]; exact Nat.le_refl _, g.same, g.fr, g.trk, fun i h1 h2 => by rw [lt] at h2; omega, fun i hi n o o' e1 e2 c1 => whole.tm i hi n o o' e1 (getT i o' e2).2 c1, g.tk⟩
  unfold gc at hg
  simp only at hg
  by_cases hc : v.cl S.length = true
  · rw [if_pos hc] at hg
    cases hg
    exact ⟨β1, gT, sT, r, by rw [lt]; exact hc⟩
  · rw [if_neg hc] at hg
    have keep : some (v, S1) = some (d, S') → ∃ β', Gr base β S H β' S' H1 ∧ Sim K β' S' H1 ∧ Rep K β' H1 d x ∧ d.cl S'.length = true := fun q => by
      cases q
      exact ⟨β1, whole, s1, r, c⟩
    cases v with
    | ref k =>
      simp only at hg
      cases e : S1[k]? with
      | none => rw [e] at hg; exact keep hg
      | some o =>
        rw [e] at hg
        simp only at hg
        by_cases ho : o.cl S.length = true
        · rw [if_pos ho] at hg
          cases hg
          have hk : S.length ≤ k := by
            have : ¬ k < S.length := fun z => hc (decide_eq_true z)
            omega
          have hk1 := (List.getElem?_eq_some_iff.mp e).1
          have same : ∀ i, i < S.length → ext β1 S.length (β1 k) i = β1 i := fun i h => ext_lt h
          refine ⟨ext β1 S.length (β1 k), ⟨?_, fun i h => (same i h).trans (g.same i h), g.fr, g.trk, fun i h1 h2 => ?_, fun i hi n o1 o2 e1 e2 c1 => ?_, g.tk⟩, ⟨fun i o' e' => ?_, fun i o' e' => ?_, fun i j hi hj q => ?_⟩, ?_, ?_⟩
          · rw [List.length_append, lt]
            exact Nat.le_add_right _ _
          · rw [List.length_append, lt, List.length_singleton] at h2
            have : i = S.length := by omega
            subst this
            rw [ext_eq]
            exact g.new k hk hk1
          · have h1 := (List.getElem?_eq_some_iff.mp e1).1
            rw [List.getElem?_append_left (by rw [lt]; exact h1)] at e2
            exact gT.tm i hi n o1 o2 e1 e2 c1
          · rcases get_app e' with ⟨hi, e'⟩ | ⟨rfl, rfl⟩
            · rw [lt] at hi
              exact (sT.cell i o' e').tk (n := S.length) TupR.refl same (low i o' hi (getT i o' e').2) (same i hi) rfl
            · rw [lt]
              exact (s1.cell k o' e).tk (n := S.length) TupR.refl same ho ext_eq rfl
          · rw [List.length_append, lt]
            rcases get_app e' with ⟨hi, e'⟩ | ⟨rfl, rfl⟩
            · rw [lt] at hi
              exact SO.cl_mono (Nat.le_add_right _ _) (low i o' hi (getT i o' e').2)
            · exact SO.cl_mono (Nat.le_add_right _ _) ho
          · rw [List.length_append, lt, List.length_singleton] at hi hj
            have gl := g.len
            by_cases h1 : i < S.length
            · by_cases h2 : j < S.length
              · rw [same i h1, same j h2] at q
                exact s1.inj i j (by omega) (by omega) q
              · have : j = S.length := by omega
                subst this
                rw [same i h1, ext_eq] at q
                have := s1.inj i k (by omega) hk1 q
                omega
            · have : i = S.length := by omega
              subst this
              by_cases h2 : j < S.length
              · rw [same j h2, ext_eq] at q
                have := s1.inj k j hk1 (by omega) q
                omega
              · omega
          · show x = .ref (ext β1 S.length (β1 k) S.length)
            rw [ext_eq]
            exact r
          · rw [List.length_append, lt]
            exact decide_eq_true (by simp)
        · rw [if_neg ho] at hg
          exact keep hg
    | non => exact keep hg
    | bl b => exact keep hg
    | int i => exact keep hg
    | str z => exact keep hg
    | tup ds => exact keep hg
end
end Z
end
section
set_option Elab.async false
set_option linter.all false
set_option autoImplicit false
/-! operations: what they ask is met -/
namespace Z
open PySem L2

/-- what is wanted behind an expression -/
def Kt (K : PySem.W.Frag) (base : Nat) (β : Nat → Addr) (S : Sto) (H : Hp) (S' : Sto) (d : D) (Q : VK) : Prop :=
  ∀ (β' : Nat → Addr) (v : V) (H' : Hp), Gr base β S H β' S' H' → Sim K β' S' H' → Rep K β' H' d v → d.cl S'.length = true → Q v H'

section
variable {K : PySem.W.Frag} {β β1 β2 : Nat → Addr} {H H1 H2 : Hp} {S S' S1 S2 : Sto} {base n m : Nat} {Q : VK} {d : D} {v : V}

theorem Kt.here (k : Kt K base β S H S d Q) (s : Sim K β S H) (r : Rep K β H d v) (c : d.cl S.length = true) : Q v H := k β v H Gr.refl s r c
theorem Kt.list {xs : List D} {vs : List V} (k : Kt K base β S H (S ++ [.lst xs]) (.ref S.length) Q) (s : Sim K β S H) (r : Reps K β H xs vs) (c : clL S.length xs = true) : ∀ p, H p = none → Q (.ref p) (upd H p (.lst vs)) := fun p hp => by
  have t : TupK H (upd H p (.lst vs)) := TupK.new hp
  obtain ⟨s', g⟩ := s.add (base := base) (u := .lst vs) (o := .lst xs) hp c ⟨vs, upd_same, Reps.tk t.r (n := S.length) (fun _ _ => rfl) xs vs c r⟩
  refine k _ _ _ g s' ?_ (decide_eq_true (by simp))
  show V.ref p = .ref (ext β S.length p S.length)
  rw [ext_eq]
theorem Kt.tuple {ds : List D} {vs : List V} (k : Kt K base β S H S (.tup ds) Q) (s : Sim K β S H) (r : Reps K β H ds vs) (c : clL S.length ds = true) : ∀ p, H p = none → Q (.ref p) (upd H p (.tup vs)) := fun p hp => by
  have t : TupK H (upd H p (.tup vs)) := TupK.new hp
  obtain ⟨s', g⟩ := s.tup (base := base) (vs := vs) hp
  exact k _ _ _ g s' ⟨p, vs, rfl, SqT.of upd_same, Reps.tk t.r (n := S.length) (fun _ _ => rfl) ds vs c r⟩ c
theorem Kt.fin {w : D} (k : Kt K base β S H S' d Q) (hg : Z.gc S.length (some (w, S2)) = some (d, S')) (s : Sim K β S H) (g : Gr S.length β S H β1 S1 H1) : Kt K S.length β1 S1 H1 S2 w Q := fun β2 u H2 g2 s2 r c => by
  obtain ⟨β', g', s', r', c'⟩ := gc_ok (base := base) hg (g.trans g2) s s2 r c
  exact k β' u H2 g' s' r' c'

theorem Sim.lst {i : Nat} {xs : List D} (s : Sim K β S H) (e : S[i]? = some (.lst xs)) : ∃ vs, H (β i) = some (.lst vs) ∧ Reps K β H xs vs ∧ clL S.length xs = true := by
  obtain ⟨vs, h, r⟩ := s.cell i _ e
  exact ⟨vs, h, r, s.cl i _ e⟩
theorem Sim.seq {i : Nat} {xs : List D} (s : Sim K β S H) (e : (S[i]?).bind SO.seq? = some xs) : ∃ vs, SqL K H (β i) vs ∧ Reps K β H xs vs ∧ clL S.length xs = true := by
  cases q : S[i]? with
  | none => rw [q] at e; cases e
  | some o =>
    rw [q] at e
    have e' : o.seq? = some xs := e
    cases o with
    | lst ys =>
      cases e'
      obtain ⟨vs, h, r⟩ := s.cell i _ q
      exact ⟨vs, .inl (.inl h), r, s.cl i _ q⟩
    | fro ys =>
      cases e'
      obtain ⟨vs, h, r⟩ := s.cell i _ q
      exact ⟨vs, .inl h, r, s.cl i _ q⟩
    | dct kvs => cases e'
    | fdc kvs => cases e'
    | tbl f => cases e'
theorem itemsOf_ok {xs : List D} (s : Sim K β S H) (e : itemsOf S d = some xs) (r : Rep K β H d v) (c : d.cl S.length = true) :
    ∃ a vs, v = .ref a ∧ (SqL K H a vs ∨ SqT K H a vs) ∧ Reps K β H xs vs ∧ clL S.length xs = true ∧ ((∃ i, d = .ref i ∧ SqL K H a vs) ∨ (d = .tup xs ∧ SqT K H a vs)) := by
  cases d with
  | tup ds =>
    cases e
    obtain ⟨a, vs, rfl, q, rs⟩ := r
    exact ⟨a, vs, rfl, .inr q, rs, c, .inr ⟨rfl, q⟩⟩
  | ref i =>
    obtain ⟨vs, q, rs, cs⟩ := s.seq (show (S[i]?).bind SO.seq? = some xs from e)
    exact ⟨β i, vs, r, .inl q, rs, cs, .inl ⟨i, rfl, q⟩⟩
  | _ => cases e

/-! ### flat values -/
theorem eqF_eqV : ∀ {x y : D} {u w : V}, flatD x = true → flatD y = true → Rep K β H x u → Rep K β H y w → eqV u w = eqF x y := by
  intro x y u w fx fy rx ry
  cases x with
  | non =>
    cases (show u = .non from rx)
    cases y with
    | non => cases (show w = .non from ry); rfl
    | bl b => cases (show w = .bl b from ry); rfl
    | int b => cases (show w = .int b from ry); rfl
    | str b => cases (show w = .str b from ry); rfl
    | tup b => cases fy
    | ref b => cases fy
  | bl a =>
    cases (show u = .bl a from rx)
    cases y with
    | non => cases (show w = .non from ry); rfl
    | bl b => cases (show w = .bl b from ry); rfl
    | int b => cases (show w = .int b from ry); rfl
    | str b => cases (show w = .str b from ry); rfl
    | tup b => cases fy
    | ref b => cases fy
  | int a =>
    cases (show u = .int a from rx)
    cases y with
    | non => cases (show w = .non from ry); rfl
    | bl b => cases (show w = .bl b from ry); rfl
    | int b => cases (show w = .int b from ry); rfl
    | str b => cases (show w = .str b from ry); rfl
    | tup b => cases fy
    | ref b => cases fy
  | str a =>
    cases (show u = .str a from rx)
    cases y with
    | non => cases (show w = .non from ry); rfl
    | bl b => cases (show w = .bl b from ry); rfl
    | int b => cases (show w = .int b from ry); rfl
    | str b => cases (show w = .str b from ry); rfl
    | tup b => cases fy
    | ref b => cases fy
  | tup a => cases fx
  | ref a => cases fx
theorem flat_flat {x : D} {u : V} (r : Rep K β H x u) (f : flatD x = true) : flatV u = true := by
  cases x with
  | non => cases (show u = .non from r); rfl
  | bl b => cases (show u = .bl b from r); rfl
  | int b => cases (show u = .int b from r); rfl
  | str b => cases (show u = .str b from r); rfl
  | tup b => cases f
  | ref b => cases f
theorem flats_flats : ∀ {xs : List D} {us : List V}, Reps K β H xs us → xs.all flatD = true → us.all flatV = true
  | [], us, r, _ => by cases (show us = [] from r); rfl
  | x :: xs, us, r, f => by
    obtain ⟨y, q, rfl, r1, r2⟩ := (show ∃ y q, us = y :: q ∧ Rep K β H x y ∧ Reps K β H xs q from r)
    rw [List.all_cons, Bool.and_eq_true] at f
    rw [List.all_cons, flat_flat r1 f.1, flats_flats r2 f.2]
    rfl
theorem any_flat {x : D} {u : V} (rx : Rep K β H x u) (fx : flatD x = true) : ∀ {xs : List D} {us : List V}, Reps K β H xs us → xs.all flatD = true → inV u us = xs.any fun z => eqF z x
  | [], us, r, _ => by cases (show us = [] from r); rfl
  | z :: xs, us, r, f => by
    obtain ⟨y, q, rfl, r1, r2⟩ := (show ∃ y q, us = y :: q ∧ Rep K β H z y ∧ Reps K β H xs q from r)
    rw [List.all_cons, Bool.and_eq_true] at f
    have ih := any_flat rx fx r2 f.2
    show (eqV y u || inV u q) = (eqF z x || xs.any fun z => eqF z x)
    rw [ih, eqF_eqV f.1 fx r1 rx]

/-! ### data -/
def RdOk (K : PySem.W.Frag) (β : Nat → Addr) (H : Hp) (f : Nat → Option PyData) : Prop := ∀ i p, f i = some p → Dp K H (.ref (β i)) p
mutual
theorem pyD_ok {f : Nat → Option PyData} (h : RdOk K β H f) : ∀ (d : D) (v : V) (p : PyData), pyD f d = some p → Rep K β H d v → Dp K H v p
  | .non, v, p, e, r => by cases e; cases (show v = .non from r); exact .non
  | .bl b, v, p, e, r => by cases e; cases (show v = .bl b from r); exact .bl b
  | .int b, v, p, e, r => by cases e; cases (show v = .int b from r); exact .int b
  | .str b, v, p, e, r => by cases e; cases (show v = .str b from r); exact .str b
  | .ref i, v, p, e, r => by cases (show v = .ref (β i) from r); exact h i p e
  | .tup ds, v, p, e, r => by
    obtain ⟨a, vs, rfl, q, rs⟩ := (show ∃ a vs, v = .ref a ∧ SqT K H a vs ∧ Reps K β H ds vs from r)
    have e' : (pyL f ds).map PyData.tuple = some p := e
    cases q2 : pyL f ds with
    | none => rw [q2] at e'; cases e'
    | some ps =>
      rw [q2] at e'
      cases e'
      exact .tup q (pyL_ok h ds vs ps q2 rs)
theorem pyL_ok {f : Nat → Option PyData} (h : RdOk K β H f) : ∀ (ds : List D) (vs : List V) (ps : List PyData), pyL f ds = some ps → Reps K β H ds vs → DpAll K H vs ps
  | [], vs, ps, e, r => by cases e; cases (show vs = [] from r); exact .nil
  | d :: ds, vs, ps, e, r => by
    obtain ⟨x, q, rfl, r1, r2⟩ := (show ∃ x q, vs = x :: q ∧ Rep K β H d x ∧ Reps K β H ds q from r)
    rw [pyL] at e
    cases q1 : pyD f d with
    | none => rw [q1] at e; cases e
    | some p =>
      cases q2 : pyL f ds with
      | none => rw [q1, q2] at e; cases e
      | some ps' =>
        rw [q1, q2] at e
        cases e
        exact .cons (pyD_ok h d x p q1 r1) (pyL_ok h ds q ps' q2 r2)
end
theorem rdS_ok (s : Sim K β S H) : ∀ n : Nat, RdOk K β H (rdS S n)
  | 0 => fun _ _ e => by cases e
  | n + 1 => fun i p e => by
    have e' : (((S[i]?).bind SO.seq?).bind fun xs => (pyL (rdS S n) xs).map PyData.list) = some p := e
    cases q : (S[i]?).bind SO.seq? with
    | none => rw [q] at e'; cases e'
    | some xs =>
      rw [q] at e'
      have e2 : (pyL (rdS S n) xs).map PyData.list = some p := e'
      obtain ⟨vs, h, r, _⟩ := s.seq q
      cases q2 : pyL (rdS S n) xs with
      | none => rw [q2] at e2; cases e2
      | some ps =>
        rw [q2] at e2
        cases e2
        exact .lst h (pyL_ok (rdS_ok s n) xs vs ps q2 r)
theorem py_ok (s : Sim K β S H) {p : PyData} (e : py S d = some p) (r : Rep K β H d v) : Dp K H v p := pyD_ok (rdS_ok s 8) d v p e r
theorem eqD_ok {x y : D} {u w : V} {b : Bool} (s : Sim K β S H) (e : eqD S x y = some b) (rx : Rep K β H x u) (ry : Rep K β H y w) :
    ∃ p q, Dp K H u p ∧ Dp K H w q ∧ SeqAt.shaped p = true ∧ SeqAt.shaped q = true ∧ PyData.eqv p q = b := by
  unfold eqD at e
  cases q1 : py S x with
  | none => rw [q1] at e; cases e
  | some p =>
    cases q2 : py S y with
    | none => rw [q1, q2] at e; cases e
    | some q =>
      rw [q1, q2] at e
      simp only at e
      by_cases h : (SeqAt.shaped p && SeqAt.shaped q) = true
      · rw [if_pos h] at e
        rw [Bool.and_eq_true] at h
        cases e
        exact ⟨p, q, py_ok s q1 rx, py_ok s q2 ry, h.1, h.2, rfl⟩
      · rw [if_neg h] at e
        cases e
end
end Z
end
section
set_option Elab.async false
set_option linter.all false
set_option autoImplicit false
/-! operators, built-ins: the rules meet the store's words -/
namespace Z
open PySem L2

theorem lim_line {n : Nat} (h : n ≤ lim) : n ≤ sizeLine := Nat.le_trans h (by rw [sizeLine_eq]; decide)
theorem lim_line' {n : Nat} (h : n < lim) : n < sizeLine := Nat.lt_of_lt_of_le h (by rw [sizeLine_eq]; decide)

section
variable {X : Cx} {β : Nat → Addr} {H : Hp} {S S' : Sto} {base : Nat} {Q : VK} {d x y : D} {u w : V}

theorem OpR.no {f : Value → Value → Sem Value} : OpR X f (fun _ _ _ _ => False) := fun _ _ _ _ _ _ _ _ _ _ _ _ h => h.elim
theorem UnR.no {f : Value → Sem Value} : UnR X f (fun _ _ _ => False) := fun _ _ _ _ _ _ _ _ _ h => h.elim

/-- a two-place operator meets binF -/
def BinOk (X : Cx) (op : Operator) (r : R2) : Prop := ∀ {β : Nat → Addr} {H : Hp} {S S' : Sto} {base : Nat} {Q : VK} {d x y : D} {u w : V}, Sim X.K β S H → binF op x y S = some (d, S') →
  Rep X.K β H x u → Rep X.K β H y w → x.cl S.length = true → y.cl S.length = true → Kt X.K base β S H S' d Q → r u w H Q

theorem bin_int {op : Operator} {r : R2} (h : ∀ {i j : Int} {S S' : Sto} {d : D}, binF op (.int i) (.int j) S = some (d, S') → S' = S ∧ ∃ k : Int, d = .int k ∧ ∀ (H : Hp) (Q : VK), Q (.int k) H → r (.int i) (.int j) H Q)
    (o : ∀ {x y : D} {S : Sto} {z : D × Sto}, binF op x y S = some z → ∃ i j, x = .int i ∧ y = .int j) : BinOk X op r := by
  intro β H S S' base Q d x y u w s e rx ry cx cy k
  obtain ⟨i, j, rfl, rfl⟩ := o e
  obtain ⟨rfl, m, rfl, q⟩ := h e
  cases (show u = .int i from rx)
  cases (show w = .int j from ry)
  exact q H Q (k.here s (v := .int m) rfl rfl)
theorem bin_shape {op : Operator} {x y : D} {S : Sto} {z : D × Sto} (e : binF op x y S = some z) : (∃ i j, x = .int i ∧ y = .int j) ∨ (∃ a b, x = .tup a ∧ y = .tup b) ∨ (∃ a k, x = .tup a ∧ y = .int k) ∨ ∃ i j, x = .ref i ∧ y = .ref j := by
  cases x <;> cases y <;> first
    | exact .inl ⟨_, _, rfl, rfl⟩
    | exact .inr (.inl ⟨_, _, rfl, rfl⟩)
    | exact .inr (.inr (.inl ⟨_, _, rfl, rfl⟩))
    | exact .inr (.inr (.inr ⟨_, _, rfl, rfl⟩))
    | cases e
theorem bin_only {op : Operator} {x y : D} {S : Sto} {z : D × Sto} (h1 : op ≠ .Add) (h2 : op ≠ .Mult) (e : binF op x y S = some z) : ∃ i j, x = .int i ∧ y = .int j := by
  rcases bin_shape e with h | ⟨a, b, rfl, rfl⟩ | ⟨a, k, rfl, rfl⟩ | ⟨i, j, rfl, rfl⟩
  · exact h
  · cases op <;> first | exact absurd rfl h1 | exact absurd rfl h2 | cases e
  · cases op <;> first | exact absurd rfl h1 | exact absurd rfl h2 | cases e
  · cases op <;> first | exact absurd rfl h1 | exact absurd rfl h2 | (unfold binF at e; simp at e)

def rBin (K : PySem.W.Frag) : Operator → R2
  | .Add => fun x y H Q => (rI0 (fun i j => .int (i + j)) x y H Q ∨ rCatA K x y H Q) ∨ rCat x y H Q
  | .Sub => rI0 fun i j => .int (i - j)
  | .Mult => fun x y H Q => rI CMulW (fun i j => .int (i * j)) x y H Q ∨ rRepT K x y H Q
  | .FloorDiv => rI CDivW fun i j => .int (i / j)
  | .Mod => rI (fun _ j => 0 < j) fun i j => .int (i % j)
  | .Pow => rI CPow fun i j => .int (i ^ j.toNat)
  | .LShift => rI CPow fun i j => .int (i * 2 ^ j.toNat)
  | .RShift => rI (fun _ j => 0 ≤ j) fun i j => .int (i / 2 ^ j.toNat)
  | .BitAnd => rI0 fun i j => .int (Builtin.bitAnd i j)
  | .BitOr => rI0 fun i j => .int (Builtin.bitOr i j)
  | .BitXor => rI0 fun i j => .int (Builtin.bitXor i j)
  | _ => fun _ _ _ _ => False
theorem op_bin (op : Operator) : OpR X (binaryOp op) (rBin X.K op) := by
  cases op
  case Add => exact (OpR.or (OpR.or op_add op_catA) op_cat)
  case Sub => exact op_sub
  case Mult => exact OpR.or op_mulW op_repT
  case FloorDiv => exact op_fdivW
  case Mod => exact op_mod
  case Pow => exact op_pow
  case LShift => exact op_shl
  case RShift => exact op_shr
  case BitAnd => exact op_and
  case BitOr => exact op_or
  case BitXor => exact op_xor
  all_goals exact OpR.no
theorem ite_some {α : Type} {c : Prop} [Decidable c] {a b : α} (h : (if c then some a else none) = some b) : c ∧ a = b := by
  by_cases hc : c
  · rw [if_pos hc] at h
    exact ⟨hc, Option.some.inj h⟩
  · rw [if_neg hc] at h
    cases h
theorem bin_ok (op : Operator) : BinOk X op (rBin X.K op) := by
  cases op
  case Sub => exact bin_int (fun e => by cases e; exact ⟨rfl, _, rfl, fun _ _ q => ⟨_, _, rfl, rfl, q⟩⟩) (bin_only (by decide) (by decide))
  case FloorDiv => exact bin_int (fun e => by obtain ⟨c, e⟩ := ite_some e; cases e; exact ⟨rfl, _, rfl, fun _ _ q => ⟨_, _, rfl, rfl, c, q⟩⟩) (bin_only (by decide) (by decide))
  case Mod => exact bin_int (fun e => by obtain ⟨c, e⟩ := ite_some e; cases e; exact ⟨rfl, _, rfl, fun _ _ q => ⟨_, _, rfl, rfl, c, q⟩⟩) (bin_only (by decide) (by decide))
  case Pow => exact bin_int (fun e => by obtain ⟨c, e⟩ := ite_some e; cases e; exact ⟨rfl, _, rfl, fun _ _ q => ⟨_, _, rfl, rfl, c, q⟩⟩) (bin_only (by decide) (by decide))
  case LShift => exact bin_int (fun e => by obtain ⟨c, e⟩ := ite_some e; cases e; exact ⟨rfl, _, rfl, fun _ _ q => ⟨_, _, rfl, rfl, c, q⟩⟩) (bin_only (by decide) (by decide))
  case RShift => exact bin_int (fun e => by obtain ⟨c, e⟩ := ite_some e; cases e; exact ⟨rfl, _, rfl, fun _ _ q => ⟨_, _, rfl, rfl, c, q⟩⟩) (bin_only (by decide) (by decide))
  case BitAnd => exact bin_int (fun e => by cases e; exact ⟨rfl, _, rfl, fun _ _ q => ⟨_, _, rfl, rfl, q⟩⟩) (bin_only (by decide) (by decide))
  case BitOr => exact bin_int (fun e => by cases e; exact ⟨rfl, _, rfl, fun _ _ q => ⟨_, _, rfl, rfl, q⟩⟩) (bin_only (by decide) (by decide))
  case BitXor => exact bin_int (fun e => by cases e; exact ⟨rfl, _, rfl, fun _ _ q => ⟨_, _, rfl, rfl, q⟩⟩) (bin_only (by decide) (by decide))
  case Add =>
    intro β H S S' base Q d x y u w s e rx ry cx cy k
    rcases bin_shape e with ⟨i, j, rfl, rfl⟩ | ⟨a, b, rfl, rfl⟩ | ⟨a, m, rfl, rfl⟩ | ⟨i, j, rfl, rfl⟩
    · cases e
      cases (show u = .int i from rx)
      cases (show w = .int j from ry)
      exact .inl (.inl ⟨i, j, rfl, rfl, k.here s (v := .int (i + j)) rfl rfl⟩)
    · obtain ⟨c, e⟩ := ite_some e
      cases e
      obtain ⟨p, vs, rfl, h1, r1⟩ := (show ∃ p vs, u = .ref p ∧ SqT X.K H p vs ∧ Reps X.K β H a vs from rx)
      obtain ⟨q, ws, rfl, h2, r2⟩ := (show ∃ p vs, w = .ref p ∧ SqT X.K H p vs ∧ Reps X.K β H b vs from ry)
      have cab : clL S.length (a ++ b) = true := clL_of fun z hz => by
        rcases List.mem_append.mp hz with hz | hz
        · exact clL_mem cx z hz
        · exact clL_mem cy z hz
      refine .inl (.inr ⟨p, q, vs, ws, rfl, rfl, h1, h2, ?_, fun e => ?_, fun _ e => ?_, fun _ _ => ?_⟩)
      · rw [← r1.length, ← r2.length]
        exact lim_line c
      · subst e
        have : a = [] := List.length_eq_zero_iff.mp r1.length
        subst this
        exact k.here s (v := .ref q) ⟨q, ws, rfl, h2, r2⟩ cab
      · subst e
        have : b = [] := List.length_eq_zero_iff.mp r2.length
        subst this
        rw [List.append_nil] at k cab
        exact k.here s (v := .ref p) ⟨p, vs, rfl, h1, r1⟩ cab
      · exact k.tuple s (r1.append r2) cab
    · cases e
    · have e' : (match S[i]?, S[j]? with
        | some (.lst a), some (.lst b) => if a.length + b.length ≤ lim then new S (.lst (a ++ b)) else none
        | _, _ => none) = some (d, S') := by
        unfold binF at e
        simp only at e
        split at e
        · rename_i a b e1 e2
          rw [e1, e2]
          exact e
        · cases e
      cases q1 : S[i]? with
      | none => rw [q1] at e'; cases e'
      | some o1 =>
        cases o1 with
        | lst a =>
          cases q2 : S[j]? with
          | none => rw [q1, q2] at e'; cases e'
          | some o2 =>
            cases o2 with
            | lst b =>
              rw [q1, q2] at e'
              obtain ⟨c, e2⟩ := ite_some e'
              cases e2
              obtain ⟨vs, h1, r1, c1⟩ := s.lst q1
              obtain ⟨ws, h2, r2, c2⟩ := s.lst q2
              cases (show u = .ref (β i) from rx)
              cases (show w = .ref (β j) from ry)
              refine .inr ⟨β i, β j, vs, ws, rfl, rfl, h1, h2, ?_, ?_⟩
              · rw [← r1.length, ← r2.length]
                exact lim_line c
              · exact k.list s (r1.append r2) (clL_of fun z hz => by
                  rcases List.mem_append.mp hz with hz | hz
                  · exact clL_mem c1 z hz
                  · exact clL_mem c2 z hz)
            | fro b => rw [q1, q2] at e'; cases e'
            | dct b => rw [q1, q2] at e'; cases e'
            | fdc b => rw [q1, q2] at e'; cases e'
            | tbl f => rw [q1, q2] at e'; cases e'
        | fro a => rw [q1] at e'; cases e'
        | dct a => rw [q1] at e'; cases e'
        | fdc a => rw [q1] at e'; cases e'
        | tbl f => rw [q1] at e'; cases e'
  case Mult =>
    intro β H S S' base Q d x y u w s e rx ry cx cy k
    rcases bin_shape e with ⟨i, j, rfl, rfl⟩ | ⟨a, b, rfl, rfl⟩ | ⟨a, m, rfl, rfl⟩ | ⟨i, j, rfl, rfl⟩
    · obtain ⟨c, e⟩ := ite_some e
      cases e
      cases (show u = .int i from rx)
      cases (show w = .int j from ry)
      exact .inl ⟨i, j, rfl, rfl, c, k.here s (v := .int (i * j)) rfl rfl⟩
    · cases e
    · obtain ⟨⟨c1, c2, c3, c4, c5⟩, e⟩ := ite_some e
      cases e
      obtain ⟨p, vs, rfl, h1, r1⟩ := (show ∃ p vs, u = .ref p ∧ SqT X.K H p vs ∧ Reps X.K β H a vs from rx)
      cases (show w = .int m from ry)
      refine .inr ⟨p, m, vs, rfl, rfl, h1, fun z => c1 ?_, c2, c3, by rw [← r1.length]; exact c4, ?_⟩
      · subst z
        exact List.length_eq_zero_iff.mp r1.length
      · exact k.tuple s (r1.flat _) (clL_of fun z hz => by
          obtain ⟨l, hl, hz⟩ := List.mem_flatten.mp hz
          rw [(List.mem_replicate.mp hl).2] at hz
          exact clL_mem cx z hz)
    · unfold binF at e
      simp at e
  all_goals
    intro β H S S' base Q d x y u w s e rx ry cx cy k
    exfalso
    rcases bin_shape e with ⟨i, j, rfl, rfl⟩ | ⟨a, b, rfl, rfl⟩ | ⟨a, m, rfl, rfl⟩ | ⟨i, j, rfl, rfl⟩ <;> (unfold binF at e; simp at e)

/-! ### one-place -/
def rUnF : UnaryOp → V → Hp → VK → Prop
  | .USub => rU fun i => .int (-i)
  | .Invert => rU fun i => .int (Builtin.bitNot i)
  | _ => fun _ _ _ => False
theorem un_op (op : UnaryOp) : UnR X (unaryOp op) (rUnF op) := by
  cases op
  case USub => exact un_neg
  case Invert => exact un_inv
  all_goals exact UnR.no
theorem un_ok {op : UnaryOp} {z : D} (s : Sim X.K β S H) (e : unF op x = some z) (rx : Rep X.K β H x u) (k : Kt X.K base β S H S z Q) : rUnF op u H Q := by
  cases x with
  | int i =>
    cases (show u = .int i from rx)
    cases op with
    | USub => cases e; exact ⟨i, rfl, k.here s (v := .int (-i)) rfl rfl⟩
    | Invert => cases e; exact ⟨i, rfl, k.here s (v := .int (Builtin.bitNot i)) rfl rfl⟩
    | _ => cases e
  | _ => cases e

/-! ### comparisons -/
def rInDT (K : PySem.W.Frag) : R2 := fun x y H Q => ∃ d ds, Dp K H x d ∧ Dp K H y (.tuple ds) ∧ SeqAt.shaped d = true ∧ SeqAt.shaped (.tuple ds) = true ∧ Q (.bl (ds.any fun z => PyData.eqv z d)) H
def rNotInDT (K : PySem.W.Frag) : R2 := fun x y H Q => ∃ d ds, Dp K H x d ∧ Dp K H y (.tuple ds) ∧ SeqAt.shaped d = true ∧ SeqAt.shaped (.tuple ds) = true ∧ Q (.bl (!ds.any fun z => PyData.eqv z d)) H
theorem op_inDT (hu : X.A.units + 65 < cLine) : OpR X (compareOp .In) (rInDT X.K) := by
  intro pins s σ H x y v u Q I rx ry h
  obtain ⟨d, ds, hd, he, sd, se, q⟩ := h
  obtain ⟨as, r1⟩ := Dp.reads I d x v hd rx
  obtain ⟨bs, r2⟩ := Dp.reads I (.tuple ds) y u he ry
  exact SeqAt.in_tuple_reads r2 r1 (SeqAt.canLay_of_shaped se) (SeqAt.canLay_of_shaped sd) (PyProof.Rows.room_in_shaped sd hu) ⟨.bl _, H, I, rfl, q⟩
theorem op_notInDT (hu : X.A.units + 65 < cLine) : OpR X (compareOp .NotIn) (rNotInDT X.K) := by
  intro pins s σ H x y v u Q I rx ry h
  obtain ⟨d, ds, hd, he, sd, se, q⟩ := h
  obtain ⟨as, r1⟩ := Dp.reads I d x v hd rx
  obtain ⟨bs, r2⟩ := Dp.reads I (.tuple ds) y u he ry
  exact SeqAt.notIn_tuple_reads r2 r1 (SeqAt.canLay_of_shaped se) (SeqAt.canLay_of_shaped sd) (PyProof.Rows.room_in_shaped sd hu) ⟨.bl _, H, I, rfl, q⟩
def rCmpF (K : PySem.W.Frag) : CmpOp → R2
  | .Eq => rEqD K
  | .NotEq => rNeD K
  | .In => fun x y H Q => rIn K false x y H Q ∨ (rInD K x y H Q ∨ rInDT K x y H Q)
  | .NotIn => fun x y H Q => rIn K true x y H Q ∨ (rNotInD K x y H Q ∨ rNotInDT K x y H Q)
  | .Is => fun x y H Q => y = .non ∧ Q (.bl (decide (x = .non))) H
  | .IsNot => fun x y H Q => y = .non ∧ Q (.bl (!decide (x = .non))) H
  | .Lt => rI0 fun i j => .bl (decide (i < j))
  | .LtE => rI0 fun i j => .bl (decide (i ≤ j))
  | .Gt => rI0 fun i j => .bl (decide (j < i))
  | .GtE => rI0 fun i j => .bl (decide (j ≤ i))
theorem op_cmp (hu : X.A.units + 65 < cLine) (op : CmpOp) : OpR X (compareOp op) (rCmpF X.K op) := by
  have hu2 : X.A.units + 64 < cLine := by omega
  cases op
  case Eq => exact op_eqD hu2
  case NotEq => exact op_neD hu2
  case In => exact OpR.or op_in_seq (OpR.or (op_inD hu) (op_inDT hu))
  case NotIn => exact OpR.or op_notIn_seq (OpR.or (op_notInD hu) (op_notInDT hu))
  case Is => exact op_isN
  case IsNot => exact op_notN
  case Lt => exact op_lt
  case LtE => exact op_le
  case Gt => exact op_gt
  case GtE => exact op_ge
theorem rep_non (rx : Rep X.K β H x u) : decide (u = .non) = isNon x := by
  cases x with
  | non => cases (show u = .non from rx); rfl
  | bl b => cases (show u = .bl b from rx); rfl
  | int b => cases (show u = .int b from rx); rfl
  | str b => cases (show u = .str b from rx); rfl
  | tup b => obtain ⟨a, vs, rfl, _⟩ := rx; rfl
  | ref b => cases (show u = .ref (β b) from rx); rfl
theorem int_shape {α : Type} {x y : D} {f : Int → Int → α} {z : α} (e : (match x, y with
    | .int i, .int j => some (f i j)
    | _, _ => none) = some z) : ∃ i j, x = .int i ∧ y = .int j ∧ f i j = z := by
  cases x <;> cases y <;> first
    | exact ⟨_, _, rfl, rfl, Option.some.inj e⟩
    | cases e
theorem inD_ok {b : Bool} (s : Sim X.K β S H) (e : inD S x y = some b) (rx : Rep X.K β H x u) (ry : Rep X.K β H y w) (cy : y.cl S.length = true) :
    (∃ p vs, w = .ref p ∧ (SqL X.K H p vs ∨ SqT X.K H p vs) ∧ flatV u = true ∧ vs.all flatV = true ∧ inV u vs = b) ∨
    (∃ d ds, Dp X.K H u d ∧ Dp X.K H w (.list ds) ∧ SeqAt.shaped d = true ∧ SeqAt.shaped (.list ds) = true ∧ (ds.any fun z => PyData.eqv z d) = b) ∨
    (∃ d ds, Dp X.K H u d ∧ Dp X.K H w (.tuple ds) ∧ SeqAt.shaped d = true ∧ SeqAt.shaped (.tuple ds) = true ∧ (ds.any fun z => PyData.eqv z d) = b) := by
  unfold inD at e
  cases q : itemsOf S y with
  | none => rw [q] at e; cases e
  | some xs =>
    rw [q] at e
    simp only [Option.bind_some] at e
    obtain ⟨p, vs, rfl, hq, rs, cs, _⟩ := itemsOf_ok s q ry cy
    by_cases hf : (flatD x && xs.all flatD) = true
    · rw [if_pos hf] at e
      rw [Bool.and_eq_true] at hf
      exact .inl ⟨p, vs, rfl, hq, flat_flat rx hf.1, flats_flats rs hf.2, (any_flat rx hf.1 rs hf.2).trans (Option.some.inj e)⟩
    · rw [if_neg hf] at e
      cases y with
      | ref i =>
        simp only at e
        split at e
        · rename_i a bs e1 e2
          obtain ⟨c, e⟩ := ite_some e
          rw [Bool.and_eq_true] at c
          exact .inr (.inl ⟨a, bs, py_ok s e1 rx, py_ok s e2 ry, c.1, c.2, e⟩)
        · cases e
      | tup zs =>
        simp only at e
        split at e
        · rename_i a bs e1 e2
          obtain ⟨c, e⟩ := ite_some e
          rw [Bool.and_eq_true] at c
          exact .inr (.inr ⟨a, bs, py_ok s e1 rx, py_ok s e2 ry, c.1, c.2, e⟩)
        · cases e
      | _ => cases e
theorem cmp_ok {op : CmpOp} {b : Bool} (s : Sim X.K β S H) (e : cmpF op x y S = some b) (rx : Rep X.K β H x u) (ry : Rep X.K β H y w) (cy : y.cl S.length = true) (k : Kt X.K base β S H S (.bl b) Q) : rCmpF X.K op u w H Q := by
  have fin : Q (.bl b) H := k.here s (v := .bl b) rfl rfl
  cases op with
  | Eq =>
    obtain ⟨p, q, h1, h2, h3, h4, h5⟩ := eqD_ok s e rx ry
    exact ⟨p, q, h1, h2, h3, h4, by rw [h5]; exact fin⟩
  | NotEq =>
    have e' : (eqD S x y).map (!·) = some b := e
    cases q : eqD S x y with
    | none => rw [q] at e'; cases e'
    | some c =>
      rw [q] at e'
      cases e'
      obtain ⟨p, q, h1, h2, h3, h4, h5⟩ := eqD_ok s q rx ry
      exact ⟨p, q, h1, h2, h3, h4, by rw [h5]; exact fin⟩
  | In =>
    rcases inD_ok s e rx ry cy with ⟨p, vs, rfl, h1, h2, h3, h4⟩ | ⟨p, q, h1, h2, h3, h4, h5⟩ | ⟨p, q, h1, h2, h3, h4, h5⟩
    · exact .inl ⟨p, vs, rfl, h1, h2, h3, by rw [h4]; exact fin⟩
    · exact .inr (.inl ⟨p, q, h1, h2, h3, h4, by rw [h5]; exact fin⟩)
    · exact .inr (.inr ⟨p, q, h1, h2, h3, h4, by rw [h5]; exact fin⟩)
  | NotIn =>
    have e' : (inD S x y).map (!·) = some b := e
    cases q : inD S x y with
    | none => rw [q] at e'; cases e'
    | some c =>
      rw [q] at e'
      cases e'
      rcases inD_ok s q rx ry cy with ⟨p, vs, rfl, h1, h2, h3, h4⟩ | ⟨p, q, h1, h2, h3, h4, h5⟩ | ⟨p, q, h1, h2, h3, h4, h5⟩
      · exact .inl ⟨p, vs, rfl, h1, h2, h3, by rw [h4]; exact fin⟩
      · exact .inr (.inl ⟨p, q, h1, h2, h3, h4, by rw [h5]; exact fin⟩)
      · exact .inr (.inr ⟨p, q, h1, h2, h3, h4, by rw [h5]; exact fin⟩)
  | Is =>
    cases y with
    | non =>
      refine ⟨ry, ?_⟩
      rw [rep_non rx, Option.some.inj (show some (isNon x) = some b from e)]
      exact fin
    | _ => cases e
  | IsNot =>
    cases y with
    | non =>
      refine ⟨ry, ?_⟩
      rw [rep_non rx, Option.some.inj (show some (!isNon x) = some b from e)]
      exact fin
    | _ => cases e
  | Lt =>
    obtain ⟨i, j, rfl, rfl, rfl⟩ := int_shape e
    exact ⟨i, j, rx, ry, fin⟩
  | LtE =>
    obtain ⟨i, j, rfl, rfl, rfl⟩ := int_shape e
    exact ⟨i, j, rx, ry, fin⟩
  | Gt =>
    obtain ⟨i, j, rfl, rfl, rfl⟩ := int_shape e
    exact ⟨i, j, rx, ry, fin⟩
  | GtE =>
    obtain ⟨i, j, rfl, rfl, rfl⟩ := int_shape e
    exact ⟨i, j, rx, ry, fin⟩
end
end Z
end
section
set_option Elab.async false
set_option linter.all false
set_option autoImplicit false
/-! built-ins, isinstance, places, slices, methods, truth -/
namespace Z
open PySem L2

theorem CallR.or {X : Cx} {f : Value} {r r' : List V → Hp → VK → Prop} (h : CallR X f r) (h' : CallR X f r') : CallR X f (fun xs H Q => r xs H Q ∨ r' xs H Q) := by
  intro pins s σ H xs us Q I rs q
  rcases q with q | q
  · exact h pins s σ H xs us Q I rs q
  · exact h' pins s σ H xs us Q I rs q

def Bl.v : Bl → Value
  | .len => .builtin "len"
  | .abs => .builtin "abs"
  | .int => .type "int"
  | .bool => .type "bool"
  | .max2 => .builtin "max"
  | .min2 => .builtin "min"
  | .sum => .builtin "sum"
  | .all => .builtin "all"
  | .any => .builtin "any"
  | .tuple => .type "tuple"
  | .list => .type "list"
  | .sorted => .builtin "sorted"
  | .sortedT => .builtin "sorted"
def rBlt (K : PySem.W.Frag) : Bl → List V → Hp → VK → Prop
  | .len => fun xs H Q => ∃ p ys, xs = [.ref p] ∧ (SqL K H p ys ∨ SqT K H p ys) ∧ Q (.int ys.length) H
  | .abs => fun xs H Q => ∃ i, xs = [.int i] ∧ Q (.int (if i < 0 then -i else i)) H
  | .int => fun xs H Q => (∃ i, xs = [.int i] ∧ Q (.int i) H) ∨ ∃ k, xs = [.bl k] ∧ Q (.int (if k then 1 else 0)) H
  | .bool => fun xs H Q => (∃ i, xs = [.int i] ∧ Q (.bl (i != 0)) H) ∨ ∃ k, xs = [.bl k] ∧ Q (.bl k) H
  | .max2 => fun xs H Q => ∃ i j, xs = [.int i, .int j] ∧ Q (.int (if j > i then j else i)) H
  | .min2 => fun xs H Q => ∃ i j, xs = [.int i, .int j] ∧ Q (.int (if j < i then j else i)) H
  | .sum => rSum K
  | .all => rAll K
  | .any => rAny K
  | .tuple => fun xs H Q => ∃ p ys, xs = [.ref p] ∧ ((SqL K H p ys ∧ ∀ l, H l = none → Q (.ref l) (upd H l (.tup ys))) ∨ (SqT K H p ys ∧ Q (.ref p) H))
  | .list => fun xs H Q => ∃ p ys, xs = [.ref p] ∧ (SqL K H p ys ∨ SqT K H p ys) ∧ ∀ l, H l = none → Q (.ref l) (upd H l (.lst ys))
  | .sorted => rSortedI K
  | .sortedT => SrtTI.rSortedT K
section
variable {X : Cx} {β : Nat → Addr} {H : Hp} {S S' : Sto} {base : Nat} {Q : VK} {d x y : D} {u w : V}
theorem call_blt (hc : X.calm = true) (hu : X.A.units + 8 < cLine) (b : Bl) : CallR X b.v (rBlt X.K b) := by
  cases b
  case len => exact call_len_seq
  case abs => exact call_abs
  case int => exact call_int1
  case bool => exact call_bool1
  case max2 => exact call_max2 hc
  case min2 => exact call_min2 hc
  case sum => exact cr_sum hc
  case all => exact cr_all hc
  case any => exact cr_any hc
  case tuple => exact call_tuple_of
  case list => exact call_list_of
  case sorted => exact cr_sortedI
  case sortedT => exact SrtTI.cr_sortedT hu

/-! ### sorting -/
theorem insI_perm (x : Int) : ∀ l : List Int, (insI x l).Perm (x :: l)
  | [] => .refl _
  | y :: r => by
    unfold insI
    split
    · exact .refl _
    · exact ((insI_perm x r).cons y).trans (.swap x y r)
theorem sortI_perm : ∀ l : List Int, (sortI l).Perm l
  | [] => .refl _
  | x :: r => (insI_perm x _).trans ((sortI_perm r).cons x)
theorem insI_sorted (x : Int) : ∀ l : List Int, l.Pairwise (· ≤ ·) → (insI x l).Pairwise (· ≤ ·)
  | [], _ => by
    unfold insI
    exact List.pairwise_singleton _ _
  | y :: r, h => by
    unfold insI
    rw [List.pairwise_cons] at h
    split
    · rename_i q
      refine List.pairwise_cons.mpr ⟨fun z hz => ?_, List.pairwise_cons.mpr h⟩
      rcases List.mem_cons.mp hz with rfl | hz
      · exact q
      · exact Int.le_trans q (h.1 z hz)
    · rename_i q
      refine List.pairwise_cons.mpr ⟨fun z hz => ?_, insI_sorted x r h.2⟩
      rcases List.mem_cons.mp ((insI_perm x r).mem_iff.mp hz) with rfl | hz
      · omega
      · exact h.1 z hz
theorem sortI_sorted : ∀ l : List Int, (sortI l).Pairwise (· ≤ ·)
  | [] => .nil
  | x :: r => insI_sorted x _ (sortI_sorted r)
theorem sortI_eq {l m : List Int} (h : m.Perm l) (q : m.Pairwise (· ≤ ·)) : m = sortI l := PySem.W.ksm_same (h.trans (sortI_perm l).symm) q (sortI_sorted l)

theorem insL_perm (x : List Int) : ∀ l : List (List Int), (insL x l).Perm (x :: l)
  | [] => .refl _
  | y :: r => by
    unfold insL
    split
    · exact ((insL_perm x r).cons y).trans (.swap x y r)
    · exact .refl _
theorem sortL_perm : ∀ l : List (List Int), (sortL l).Perm l
  | [] => .refl _
  | x :: r => (insL_perm x _).trans ((sortL_perm r).cons x)
theorem insL_sorted (x : List Int) : ∀ l : List (List Int), l.Pairwise (fun a b => HT.lexLt b a = false) → (insL x l).Pairwise (fun a b => HT.lexLt b a = false)
  | [], _ => by
    unfold insL
    exact List.pairwise_singleton _ _
  | y :: r, h => by
    unfold insL
    rw [List.pairwise_cons] at h
    split
    · rename_i q
      refine List.pairwise_cons.mpr ⟨fun z hz => ?_, insL_sorted x r h.2⟩
      rcases List.mem_cons.mp ((insL_perm x r).mem_iff.mp hz) with rfl | hz
      · exact SrtTI.lex_asym _ _ q
      · exact h.1 z hz
    · rename_i q
      have q' : HT.lexLt y x = false := by simpa using q
      refine List.pairwise_cons.mpr ⟨fun z hz => ?_, List.pairwise_cons.mpr h⟩
      rcases List.mem_cons.mp hz with rfl | hz
      · exact q'
      · exact SrtTI.lex_tr _ _ _ q' (h.1 z hz)
theorem sortL_sorted : ∀ l : List (List Int), (sortL l).Pairwise (fun a b => HT.lexLt b a = false)
  | [] => .nil
  | x :: r => insL_sorted x _ (sortL_sorted r)
theorem lex_eq : ∀ (a b : List Int), HT.lexLt a b = false → HT.lexLt b a = false → a = b
  | [], [], _, _ => rfl
  | [], _ :: _, h, _ => by cases h
  | _ :: _, [], _, h => by cases h
  | x :: xs, y :: ys, h1, h2 => by
    rw [HT.lexLt_cons] at h1 h2
    by_cases e : x = y
    · subst e
      rw [if_pos rfl] at h1 h2
      rw [lex_eq xs ys h1 h2]
    · rw [if_neg e] at h1
      rw [if_neg fun z => e z.symm] at h2
      have h1 := of_decide_eq_false h1
      have h2 := of_decide_eq_false h2
      omega
theorem sortL_eq : ∀ {l m : List (List Int)}, l.Perm m → l.Pairwise (fun a b => HT.lexLt b a = false) → m.Pairwise (fun a b => HT.lexLt b a = false) → l = m
  | [], m, h, _, _ => (List.nil_perm.mp h).symm
  | a :: l, [], h, _, _ => absurd h.length_eq (by simp)
  | a :: l, b :: m, h, h1, h2 => by
    rw [List.pairwise_cons] at h1 h2
    have e : a = b := by
      have ha : a ∈ b :: m := h.mem_iff.mp List.mem_cons_self
      have hb : b ∈ a :: l := h.mem_iff.mpr List.mem_cons_self
      rcases List.mem_cons.mp ha with e | ha
      · exact e
      · rcases List.mem_cons.mp hb with e | hb
        · exact e.symm
        · exact lex_eq a b (h2.1 a ha) (h1.1 b hb)
    subst e
    rw [sortL_eq (List.Perm.cons_inv h) h1.2 h2.2]

/-! ### ints, bools -/
theorem intsOf_map : ∀ {xs : List D} {ns : List Int}, intsOf xs = some ns → xs = ns.map D.int
  | [], ns, e => by cases e; rfl
  | .int i :: r, ns, e => by
    have e' : (intsOf r).map (i :: ·) = some ns := e
    cases q : intsOf r with
    | none => rw [q] at e'; cases e'
    | some ms =>
      rw [q] at e'
      cases e'
      rw [List.map_cons, ← intsOf_map q]
  | .non :: r, ns, e => by cases e
  | .bl b :: r, ns, e => by cases e
  | .str b :: r, ns, e => by cases e
  | .tup b :: r, ns, e => by cases e
  | .ref b :: r, ns, e => by cases e
theorem boolsOf_map : ∀ {xs : List D} {ns : List Bool}, boolsOf xs = some ns → xs = ns.map D.bl
  | [], ns, e => by cases e; rfl
  | .bl i :: r, ns, e => by
    have e' : (boolsOf r).map (i :: ·) = some ns := e
    cases q : boolsOf r with
    | none => rw [q] at e'; cases e'
    | some ms =>
      rw [q] at e'
      cases e'
      rw [List.map_cons, ← boolsOf_map q]
  | .non :: r, ns, e => by cases e
  | .int b :: r, ns, e => by cases e
  | .str b :: r, ns, e => by cases e
  | .tup b :: r, ns, e => by cases e
  | .ref b :: r, ns, e => by cases e
theorem reps_ints {K : PySem.W.Frag} : ∀ {ns : List Int} {vs : List V}, Reps K β H (ns.map D.int) vs → vs = ns.map V.int
  | [], vs, r => r
  | n :: ns, vs, r => by
    obtain ⟨x, q, rfl, r1, r2⟩ := (show ∃ x q, vs = x :: q ∧ Rep K β H (.int n) x ∧ Reps K β H (ns.map D.int) q from r)
    rw [List.map_cons, ← reps_ints r2]
    rw [show x = .int n from r1]
theorem reps_bools {K : PySem.W.Frag} : ∀ {ns : List Bool} {vs : List V}, Reps K β H (ns.map D.bl) vs → vs = ns.map V.bl
  | [], vs, r => r
  | n :: ns, vs, r => by
    obtain ⟨x, q, rfl, r1, r2⟩ := (show ∃ x q, vs = x :: q ∧ Rep K β H (.bl n) x ∧ Reps K β H (ns.map D.bl) q from r)
    rw [List.map_cons, ← reps_bools r2]
    rw [show x = .bl n from r1]
theorem reps_of_ints {K : PySem.W.Frag} : ∀ (ns : List Int), Reps K β H (ns.map D.int) (ns.map V.int)
  | [] => rfl
  | n :: ns => ⟨_, _, rfl, rfl, reps_of_ints ns⟩
theorem cl_ints {n : Nat} : ∀ (ns : List Int), clL n (ns.map D.int) = true
  | [] => rfl
  | _ :: ns => by
    rw [List.map_cons, clL, cl_ints ns]
    rfl
theorem lstOf_ok {K : PySem.W.Frag} {xs : List D} (s : Sim K β S H) (e : lstOf S x = some xs) (r : Rep K β H x u) : ∃ a vs, u = .ref a ∧ SqL K H a vs ∧ Reps K β H xs vs ∧ clL S.length xs = true := by
  cases x with
  | ref i =>
    obtain ⟨vs, h, rs, c⟩ := s.seq (show (S[i]?).bind SO.seq? = some xs from e)
    exact ⟨β i, vs, r, h, rs, c⟩
  | _ => cases e
theorem nssOf_map : ∀ {xs : List D} {nss : List (List Int)}, nssOf xs = some nss → xs = nss.map fun ns => D.tup (ns.map .int)
  | [], nss, e => by cases e; rfl
  | .tup ds :: r, nss, e => by
    rw [nssOf] at e
    cases q : intsOf ds with
    | none => rw [q] at e; cases e
    | some ns =>
      cases q2 : nssOf r with
      | none => rw [q, q2] at e; cases e
      | some ms =>
        rw [q, q2] at e
        cases e
        rw [List.map_cons, ← nssOf_map q2, intsOf_map q]
  | .non :: r, ns, e => by cases e
  | .bl b :: r, ns, e => by cases e
  | .str b :: r, ns, e => by cases e
  | .int b :: r, ns, e => by cases e
  | .ref b :: r, ns, e => by cases e
theorem tis_of {K : PySem.W.Frag} : ∀ {nss : List (List Int)} {vs : List V}, Reps K β H (nss.map fun ns => D.tup (ns.map .int)) vs → SrtTI.TIs K H vs nss
  | [], vs, r => by cases (show vs = [] from r); trivial
  | ns :: nss, vs, r => by
    obtain ⟨x, q, rfl, ⟨a, zs, rfl, h1, h2⟩, r2⟩ := (show ∃ x q, vs = x :: q ∧ Rep K β H (.tup (ns.map .int)) x ∧ Reps K β H (nss.map fun ns => D.tup (ns.map .int)) q from r)
    rw [reps_ints h2] at h1
    exact ⟨⟨a, rfl, h1⟩, tis_of r2⟩
theorem fine_of : ∀ {nss : List (List Int)}, fineL nss = true → SrtTI.FineN nss
  | [], _ => trivial
  | ns :: nss, h => by
    unfold fineL at h
    rw [Bool.or_eq_true] at h
    rcases h with h | h
    · exact .inl (List.isEmpty_iff.mp h)
    · refine .inr fun u hu e => ?_
      have := List.all_eq_true.mp h u hu
      rw [e] at this
      cases this
theorem reps_zip {K : PySem.W.Frag} : ∀ {nss : List (List Int)} {vs : List V}, Reps K β H (nss.map fun ns => D.tup (ns.map .int)) vs → vs.length = nss.length ∧ ∀ p ∈ nss.zip vs, Rep K β H (.tup (p.1.map .int)) p.2
  | [], vs, r => by cases (show vs = [] from r); exact ⟨rfl, fun p hp => absurd hp (by simp)⟩
  | ns :: nss, vs, r => by
    obtain ⟨x, q, rfl, r1, r2⟩ := (show ∃ x q, vs = x :: q ∧ Rep K β H (.tup (ns.map .int)) x ∧ Reps K β H (nss.map fun ns => D.tup (ns.map .int)) q from r)
    obtain ⟨e, h⟩ := reps_zip r2
    refine ⟨by rw [List.length_cons, List.length_cons, e], fun p hp => ?_⟩
    rw [List.zip_cons_cons] at hp
    rcases List.mem_cons.mp hp with rfl | hp
    · exact r1
    · exact h p hp
theorem reps_pairs {K : PySem.W.Frag} : ∀ {ps : List (List Int × V)}, (∀ p ∈ ps, Rep K β H (.tup (p.1.map .int)) p.2) → Reps K β H ((ps.map Prod.fst).map fun ns => D.tup (ns.map .int)) (ps.map Prod.snd)
  | [], _ => rfl
  | p :: ps, h => ⟨_, _, rfl, h p List.mem_cons_self, reps_pairs fun q hq => h q (List.mem_cons_of_mem _ hq)⟩
theorem cl_tups {n : Nat} : ∀ (nss : List (List Int)), clL n (nss.map fun ns => D.tup (ns.map .int)) = true
  | [] => rfl
  | ns :: nss => by
    rw [List.map_cons, clL, cl_tups nss]
    show (clL n (ns.map D.int) && true) = true
    rw [cl_ints]
    rfl
theorem reps1 {K : PySem.W.Frag} {us : List V} (r : Reps K β H [x] us) : ∃ v, us = [v] ∧ Rep K β H x v := by
  obtain ⟨v, q, rfl, r1, r2⟩ := (show ∃ y q, us = y :: q ∧ Rep K β H x y ∧ Reps K β H [] q from r)
  cases (show q = [] from r2)
  exact ⟨v, rfl, r1⟩
theorem reps2 {K : PySem.W.Frag} {us : List V} (r : Reps K β H [x, y] us) : ∃ v w, us = [v, w] ∧ Rep K β H x v ∧ Rep K β H y w := by
  obtain ⟨v, q, rfl, r1, r2⟩ := (show ∃ z q, us = z :: q ∧ Rep K β H x z ∧ Reps K β H [y] q from r)
  obtain ⟨w, rfl, r3⟩ := reps1 r2
  exact ⟨v, w, rfl, r1, r3⟩
theorem cl1 {n : Nat} (c : clL n [x] = true) : x.cl n = true := clL_mem c x List.mem_cons_self
theorem blt_ok {b : Bl} {vs : List D} {us : List V} (s : Sim X.K β S H) (e : bltF b vs S = some (d, S')) (r : Reps X.K β H vs us) (c : clL S.length vs = true) (k : Kt X.K base β S H S' d Q) : rBlt X.K b us H Q := by
  cases b <;> rcases vs with _ | ⟨x, _ | ⟨y, _ | ⟨z, t⟩⟩⟩
  case len.cons.nil =>
    have e' : (itemsOf S x).map (fun xs => (D.int xs.length, S)) = some (d, S') := e
    cases q : itemsOf S x with
    | none => rw [q] at e'; cases e'
    | some xs =>
      rw [q] at e'
      cases e'
      obtain ⟨v, rfl, r1⟩ := reps1 r
      obtain ⟨a, vs, rfl, h, rs, cs, _⟩ := itemsOf_ok s q r1 (cl1 c)
      exact ⟨a, vs, rfl, h, k.here s (v := .int vs.length) (by rw [rs.length]; rfl) rfl⟩
  case abs.cons.nil =>
    obtain ⟨v, rfl, r1⟩ := reps1 r
    cases x with
    | int i => cases e; cases (show v = .int i from r1); exact ⟨i, rfl, k.here s (v := .int (if i < 0 then -i else i)) rfl rfl⟩
    | _ => cases e
  case int.cons.nil =>
    obtain ⟨v, rfl, r1⟩ := reps1 r
    cases x with
    | int i => cases e; cases (show v = .int i from r1); exact .inl ⟨i, rfl, k.here s (v := .int i) rfl rfl⟩
    | bl i => cases e; cases (show v = .bl i from r1); exact .inr ⟨i, rfl, k.here s (v := .int (if i then 1 else 0)) rfl rfl⟩
    | _ => cases e
  case bool.cons.nil =>
    obtain ⟨v, rfl, r1⟩ := reps1 r
    cases x with
    | int i => cases e; cases (show v = .int i from r1); exact .inl ⟨i, rfl, k.here s (v := .bl (i != 0)) rfl rfl⟩
    | bl i => cases e; cases (show v = .bl i from r1); exact .inr ⟨i, rfl, k.here s (v := .bl i) rfl rfl⟩
    | _ => cases e
  case max2.cons.cons.nil =>
    obtain ⟨v, w, rfl, r1, r2⟩ := reps2 r
    cases x <;> cases y <;> first
      | (cases e; cases r1; cases r2; exact ⟨_, _, rfl, k.here s (v := .int _) rfl rfl⟩)
      | cases e
  case min2.cons.cons.nil =>
    obtain ⟨v, w, rfl, r1, r2⟩ := reps2 r
    cases x <;> cases y <;> first
      | (cases e; cases r1; cases r2; exact ⟨_, _, rfl, k.here s (v := .int _) rfl rfl⟩)
      | cases e
  case sum.cons.nil =>
    obtain ⟨v, rfl, r1⟩ := reps1 r
    have e' : ((lstOf S x).bind intsOf).map (fun ns => (D.int ns.sum, S)) = some (d, S') := e
    cases q : lstOf S x with
    | none => rw [q] at e'; cases e'
    | some xs =>
      rw [q, Option.bind_some] at e'
      cases q2 : intsOf xs with
      | none => rw [q2] at e'; cases e'
      | some ns =>
        rw [q2] at e'
        cases e'
        obtain ⟨a, vs, rfl, h, rs, cs⟩ := lstOf_ok s q r1
        cases intsOf_map q2
        cases reps_ints rs
        exact ⟨a, ns, rfl, h, k.here s (v := .int ns.sum) rfl rfl⟩
  case all.cons.nil =>
    obtain ⟨v, rfl, r1⟩ := reps1 r
    have e' : ((lstOf S x).bind boolsOf).map (fun bs => (D.bl (bs.all id), S)) = some (d, S') := e
    cases q : lstOf S x with
    | none => rw [q] at e'; cases e'
    | some xs =>
      rw [q, Option.bind_some] at e'
      cases q2 : boolsOf xs with
      | none => rw [q2] at e'; cases e'
      | some ns =>
        rw [q2] at e'
        cases e'
        obtain ⟨a, vs, rfl, h, rs, cs⟩ := lstOf_ok s q r1
        cases boolsOf_map q2
        cases reps_bools rs
        exact ⟨a, ns, rfl, h, k.here s (v := .bl (ns.all id)) rfl rfl⟩
  case any.cons.nil =>
    obtain ⟨v, rfl, r1⟩ := reps1 r
    have e' : ((lstOf S x).bind boolsOf).map (fun bs => (D.bl (bs.any id), S)) = some (d, S') := e
    cases q : lstOf S x with
    | none => rw [q] at e'; cases e'
    | some xs =>
      rw [q, Option.bind_some] at e'
      cases q2 : boolsOf xs with
      | none => rw [q2] at e'; cases e'
      | some ns =>
        rw [q2] at e'
        cases e'
        obtain ⟨a, vs, rfl, h, rs, cs⟩ := lstOf_ok s q r1
        cases boolsOf_map q2
        cases reps_bools rs
        exact ⟨a, ns, rfl, h, k.here s (v := .bl (ns.any id)) rfl rfl⟩
  case tuple.cons.nil =>
    obtain ⟨v, rfl, r1⟩ := reps1 r
    have e' : (itemsOf S x).map (fun xs => (D.tup xs, S)) = some (d, S') := e
    cases q : itemsOf S x with
    | none => rw [q] at e'; cases e'
    | some xs =>
      rw [q] at e'
      cases e'
      obtain ⟨a, vs, rfl, h, rs, cs, h2⟩ := itemsOf_ok s q r1 (cl1 c)
      refine ⟨a, vs, rfl, ?_⟩
      rcases h2 with ⟨i, _, h2⟩ | ⟨_, h2⟩
      · exact .inl ⟨h2, k.tuple s rs cs⟩
      · exact .inr ⟨h2, k.here s (v := .ref a) ⟨a, vs, rfl, h2, rs⟩ cs⟩
  case list.cons.nil =>
    obtain ⟨v, rfl, r1⟩ := reps1 r
    have e' : (itemsOf S x).bind (fun xs => new S (.lst xs)) = some (d, S') := e
    cases q : itemsOf S x with
    | none => rw [q] at e'; cases e'
    | some xs =>
      rw [q] at e'
      cases e'
      obtain ⟨a, vs, rfl, h, rs, cs, _⟩ := itemsOf_ok s q r1 (cl1 c)
      exact ⟨a, vs, rfl, h, k.list s rs cs⟩
  case sorted.cons.nil =>
    obtain ⟨v, rfl, r1⟩ := reps1 r
    have e' : ((lstOf S x).bind intsOf).bind (fun ns => new S (.lst ((sortI ns).map .int))) = some (d, S') := e
    cases q : lstOf S x with
    | none => rw [q] at e'; cases e'
    | some xs =>
      rw [q, Option.bind_some] at e'
      cases q2 : intsOf xs with
      | none => rw [q2] at e'; cases e'
      | some ns =>
        rw [q2] at e'
        cases e'
        obtain ⟨a, vs, rfl, h, rs, cs⟩ := lstOf_ok s q r1
        cases intsOf_map q2
        cases reps_ints rs
        refine ⟨a, ns, rfl, h, fun ns' p hp hs hn => ?_⟩
        cases sortI_eq hp hs
        exact k.list s (reps_of_ints _) (cl_ints _) p hn
  case sortedT.cons.nil =>
    obtain ⟨v, rfl, r1⟩ := reps1 r
    have e' : ((lstOf S x).bind nssOf).bind (fun nss => if fineL nss = true then new S (.lst ((sortL nss).map fun ns => .tup (ns.map .int))) else none) = some (d, S') := e
    cases q : lstOf S x with
    | none => rw [q] at e'; cases e'
    | some xs =>
      rw [q, Option.bind_some] at e'
      cases q2 : nssOf xs with
      | none => rw [q2] at e'; cases e'
      | some nss =>
        rw [q2, Option.bind_some] at e'
        obtain ⟨hf, e'⟩ := ite_some e'
        cases e'
        obtain ⟨a, vs, rfl, h, rs, cs⟩ := lstOf_ok s q r1
        cases nssOf_map q2
        refine ⟨a, vs, nss, rfl, h, tis_of rs, fine_of hf, fun out p ho hn => ?_⟩
        obtain ⟨ps, p1, rfl, p3⟩ := ho
        obtain ⟨z1, z2⟩ := reps_zip rs
        have e1 : (ps.map Prod.fst).Perm nss := by
          have := p1.map Prod.fst
          rw [List.map_fst_zip (Nat.le_of_eq z1.symm)] at this
          exact this
        have e2 : ps.map Prod.fst = sortL nss := sortL_eq (e1.trans (sortL_perm nss).symm) (List.pairwise_map.mpr p3) (sortL_sorted nss)
        rw [← e2] at k
        exact k.list s (reps_pairs fun p hp => z2 p (p1.mem_iff.mp hp)) (cl_tups _) p hn
  all_goals first | cases e | (cases x <;> cases e) | (cases x <;> cases y <;> cases e)

/-! ### isinstance -/
def Ik.n : Ik → String
  | .int => "int"
  | .bool => "bool"
  | .tuple => "tuple"
  | .list => "list"
  | .str => "str"
theorem isi_ok {kk : Ik} {b : Bool} (s : Sim X.K β S H) (e : isiF S x kk = some b) (r : Rep X.K β H x u) (k : Kt X.K base β S H S (.bl b) Q) : rIsi X.K [u, .ty kk.n] H Q := by
  have fin : Q (.bl b) H := k.here s (v := .bl b) rfl rfl
  cases x with
  | non =>
    cases (show u = .non from r)
    cases e
    exact ⟨_, _, _, _, false, rfl, .ty _, .base .non, by cases kk <;> rfl, fin⟩
  | bl z =>
    cases (show u = .bl z from r)
    cases e
    exact ⟨_, _, _, _, _, rfl, .ty _, .base (.bl z), by cases kk <;> rfl, fin⟩
  | int z =>
    cases (show u = .int z from r)
    cases e
    exact ⟨_, _, _, _, _, rfl, .ty _, .base (.int z), by cases kk <;> rfl, fin⟩
  | str z =>
    cases (show u = .str z from r)
    cases e
    exact ⟨_, _, _, _, _, rfl, .ty _, .base (.str z), by cases kk <;> rfl, fin⟩
  | tup ds =>
    obtain ⟨a, vs, rfl, h, rs⟩ := (show ∃ a vs, u = .ref a ∧ SqT X.K H a vs ∧ Reps X.K β H ds vs from r)
    cases e
    rcases h with (h | ⟨o, h⟩) | ⟨o, its, n, h, hc, _⟩
    · exact ⟨_, _, _, _, _, rfl, .ty _, .base (.tup h), by cases kk <;> rfl, fin⟩
    · exact ⟨_, _, _, _, _, rfl, .ty _, .fTuple h, by cases kk <;> rfl, fin⟩
    · exact ⟨_, _, _, _, _, rfl, .ty _, .kTuple h hc, by cases kk <;> rfl, fin⟩
  | ref i =>
    cases (show u = .ref (β i) from r)
    have e' : (match S[i]? with
      | some (.lst _) => some (kk == .list)
      | some (.fro _) => some (kk == .list)
      | some (.dct _) => some false
      | some (.fdc _) => some false
      | some (.tbl _) => none
      | none => none) = some b := e
    cases q : S[i]? with
    | none => rw [q] at e'; cases e'
    | some o =>
      rw [q] at e'
      cases o with
      | lst xs =>
        cases e'
        obtain ⟨vs, h, _⟩ := s.cell i _ q
        exact ⟨_, _, _, _, _, rfl, .ty _, .base (.lst h), by cases kk <;> rfl, fin⟩
      | fro xs =>
        cases e'
        obtain ⟨vs, h | ⟨o, h⟩, _⟩ := s.cell i _ q
        · exact ⟨_, _, _, _, _, rfl, .ty _, .base (.lst h), by cases kk <;> rfl, fin⟩
        · exact ⟨_, _, _, _, _, rfl, .ty _, .base (.frz h), by cases kk <;> rfl, fin⟩
      | dct xs =>
        cases e'
        obtain ⟨vs, h, _⟩ := s.cell i _ q
        exact ⟨_, _, _, _, _, rfl, .ty _, .base (.dK h), by cases kk <;> rfl, fin⟩
      | fdc xs =>
        cases e'
        obtain ⟨o, vs, h, _⟩ := s.cell i _ q
        exact ⟨_, _, _, _, _, rfl, .ty _, .fDict h, by cases kk <;> rfl, fin⟩
      | tbl xs => cases e'

/-! ### truth -/
theorem str_ne (z : Str) : (z.length != 0) = ((z.length : Int) != 0) := by
  cases h : z.length with
  | zero => rfl
  | succ n =>
    show true = ((((n + 1 : Nat) : Int)) != 0)
    exact (bne_iff_ne.mpr (by omega)).symm
theorem tru_meets {k : Bool} (s : Sim X.K β S H) (e : truF S x = some k) (r : Rep X.K β H x u) : TruV X.K u H k := by
  cases x with
  | non => cases (show u = .non from r); cases e; rfl
  | bl z => cases (show u = .bl z from r); cases e; rfl
  | int z => cases (show u = .int z from r); cases e; rfl
  | str z =>
    cases (show u = .str z from r)
    obtain ⟨c, e⟩ := ite_some e
    exact ⟨lim_line c, by rw [← e]; exact str_ne z⟩
  | tup ds =>
    obtain ⟨a, vs, rfl, h, rs⟩ := (show ∃ a vs, u = .ref a ∧ SqT X.K H a vs ∧ Reps X.K β H ds vs from r)
    cases e
    refine .inr (.inl ⟨vs, h, ?_⟩)
    have := rs.length
    cases ds <;> cases vs <;> first | rfl | cases this
  | ref i =>
    cases (show u = .ref (β i) from r)
    have e' : ((S[i]?).bind fun o => o.seq?.map fun xs => !xs.isEmpty) = some k := e
    cases q : S[i]? with
    | none => rw [q] at e'; cases e'
    | some o =>
      rw [q, Option.bind_some] at e'
      cases q2 : o.seq? with
      | none => rw [q2] at e'; cases e'
      | some xs =>
        rw [q2] at e'
        cases e'
        obtain ⟨vs, h, rs, _⟩ := s.seq (i := i) (xs := xs) (by rw [q]; exact q2)
        refine .inl ⟨vs, h, ?_⟩
        have := rs.length
        cases xs <;> cases vs <;> first | rfl | cases this

/-! ### places -/
theorem atI_map {α : Type} {xs : List α} {i : Int} {z : α} (h : atI xs i = some z) : ∃ j, ixN xs.length i = some j ∧ xs[j]? = some z := by
  unfold atI at h
  cases q : ixN xs.length i with
  | none => rw [q] at h; cases h
  | some j => rw [q] at h; exact ⟨j, rfl, h⟩
theorem ix_ok {z : D} (s : Sim X.K β S H) (e : ixF x y S = some z) (rx : Rep X.K β H x u) (ry : Rep X.K β H y w) (cx : x.cl S.length = true) (k : Kt X.K base β S H S z Q) : rIxL X.K u w H Q ∨ rIxT X.K u w H Q := by
  cases y with
  | int i =>
    have e' : ((itemsOf S x).bind fun xs => atI xs i) = some z := e
    cases (show w = .int i from ry)
    cases q : itemsOf S x with
    | none => rw [q] at e'; cases e'
    | some xs =>
      rw [q, Option.bind_some] at e'
      obtain ⟨a, vs, rfl, h, rs, cs, h2⟩ := itemsOf_ok s q rx cx
      obtain ⟨j, hj, hz⟩ := atI_map e'
      obtain ⟨v, hv, rv⟩ := rs.get hz
      have ea : atI vs i = some v := by
        unfold atI
        rw [← rs.length, hj]
        exact hv
      have fin : Q v H := k.here s rv (clL_mem cs z (List.mem_of_getElem? hz))
      rcases h2 with ⟨_, _, h2⟩ | ⟨_, h2⟩
      · exact .inl ⟨a, vs, i, v, rfl, rfl, h2, ea, fin⟩
      · exact .inr ⟨a, vs, i, v, rfl, rfl, h2, ea, fin⟩
  | _ => cases e

/-! ### slices -/
theorem reps_cut {K : PySem.W.Frag} {ds : List D} {vs : List V} (r : Reps K β H ds vs) (lo hi : Option Int) : Reps K β H (cutL ds lo hi) (cutV vs lo hi) := by
  unfold cutL cutV
  rw [r.length]
  exact (r.drop _).take _
theorem cl_cut {n : Nat} {ds : List D} (c : clL n ds = true) (lo hi : Option Int) : clL n (cutL ds lo hi) = true := clL_of fun z hz => clL_mem c z (List.mem_of_mem_drop (List.mem_of_mem_take hz))
theorem sl_ok {lo hi : Option D} {l h : Option Int} (s : Sim X.K β S H) (el : optI lo = some l) (eh : optI hi = some h) (e : slF x lo hi S = some (d, S')) (rx : Rep X.K β H x u) (cx : x.cl S.length = true) (k : Kt X.K base β S H S' d Q) :
    rSlL X.K u l h H Q ∨ rSlA X.K u l h H Q := by
  unfold slF at e
  rw [el, eh] at e
  cases x with
  | tup ds =>
    cases e
    obtain ⟨a, vs, rfl, q, rs⟩ := (show ∃ a vs, u = .ref a ∧ SqT X.K H a vs ∧ Reps X.K β H ds vs from rx)
    refine .inr ⟨a, vs, rfl, q, fun hw => ?_, fun _ => k.tuple s (reps_cut rs l h) (cl_cut cx l h)⟩
    have e0 : cutL ds l h = ds := by
      unfold cutL
      rw [rs.length, hw.1, hw.2, ← rs.length, List.drop_zero, Nat.sub_zero, List.take_length]
    rw [e0] at k
    exact k.here s (v := .ref a) ⟨a, vs, rfl, q, rs⟩ cx
  | ref i =>
    cases (show u = .ref (β i) from rx)
    have e' : ((S[i]?).bind SO.seq?).bind (fun xs => new S (.lst (cutL xs l h))) = some (d, S') := e
    cases q : (S[i]?).bind SO.seq? with
    | none => rw [q] at e'; cases e'
    | some xs =>
      rw [q] at e'
      cases e'
      obtain ⟨vs, hq, rs, cs⟩ := s.seq q
      exact .inl ⟨β i, vs, rfl, hq, k.list s (reps_cut rs l h) (cl_cut cs l h)⟩
  | _ => cases e
end
end Z
end
section
set_option Elab.async false
set_option linter.all false
set_option autoImplicit false
/-! what an expression asks, and that its evaluation meets it -/
namespace Z
open PySem L2

/-- a def's promise: it does what F does -/
def spOf (K : PySem.W.Frag) (F : List D → Sto → Option (D × Sto)) : Sp := fun vs H Q _ => ∃ (β : Nat → Addr) (S : Sto) (ds : List D) (d : D) (S' : Sto),
  F ds S = some (d, S') ∧ Sim K β S H ∧ Reps K β H ds vs ∧ clL S.length ds = true ∧ Kt K S.length β S H S' d Q

def rIxA (K : PySem.W.Frag) : R2 := fun x y H Q => rIxL K x y H Q ∨ rIxT K x y H Q
def rSlB (K : PySem.W.Frag) : V → Option Int → Option Int → Hp → VK → Prop := fun x l h H Q => rSlL K x l h H Q ∨ rSlA K x l h H Q
/-- t[::-1], xs[::-1] -/
def tRevA (K : PySem.W.Frag) (te : TE) : TE := fun σ H Q => te σ H fun x H1 => (∃ a xs, x = .ref a ∧ SqL K H1 a xs ∧ ∀ p, H1 p = none → Q (.ref p) (upd H1 p (.lst xs.reverse))) ∨
  (∃ a xs, x = .ref a ∧ SqT K H1 a xs ∧ ∀ p, H1 p = none → Q (.ref p) (upd H1 p (.tup xs.reverse)))
def tTru (K : PySem.W.Frag) (ta : TE) : TT := fun σ H Q => ta σ H fun x H' => ∃ k, TruV K x H' k ∧ Q k H'
def tIfT (tc ta tb : TT) : TT := fun σ H Q => tc σ H fun k H1 => if k = true then ta σ H1 Q else tb σ H1 Q
def rdG (K : PySem.W.Frag) : Tg → TG
  | .nm i => gName i
  | .tp is => gTup K is.length (is.foldr (fun i t => gCons (gName i) t) gNil)

def tRgB (t : Bool) (te : L2.St → Hp → (Int → Int → Hp → Prop) → Prop) : TE := if t = true then tTupRg te else tLstRg te
/-- sorted(set(t)) -/
def tSrs (K : PySem.W.Frag) (te : TE) : TE := fun σ H Q => te σ H fun x H1 => ∃ a ns, x = .ref a ∧ (SqL K H1 a (ns.map V.int) ∨ SqT K H1 a (ns.map V.int)) ∧ ns.length < 64 ∧ ∀ p u q, H1 p = none → upd H1 p u q = none → Q (.ref q) (upd (upd H1 p u) q (.lst ((srtU ns).map V.int)))

mutual
def rdP (K : PySem.W.Frag) (φ : Phi) : Ex → TE × TT
  | .var i => (tVar i, tTru K (tVar i))
  | .non => (tC .non, tTru K (tC .non))
  | .bl b => (tC (.bl b), tTru K (tC (.bl b)))
  | .int i => (tC (.int i), tTru K (tC (.int i)))
  | .con i => (tC (.int i), tTru K (tC (.int i)))
  | .str s => (tC (.str s), tTru K (tC (.str s)))
  | .bin op a b => (tOp (rBin K op) (rdP K φ a).1 (rdP K φ b).1, tTru K (tOp (rBin K op) (rdP K φ a).1 (rdP K φ b).1))
  | .un op a => (tUn (rUnF op) (rdP K φ a).1, tTru K (tUn (rUnF op) (rdP K φ a).1))
  | .cmp op a b => (tOp (rCmpF K op) (rdP K φ a).1 (rdP K φ b).1, tTest (tOp (rCmpF K op) (rdP K φ a).1 (rdP K φ b).1))
  | .chn o1 o2 a b c => (tChain (rCmpF K o1) (rCmpF K o2) (rdP K φ a).1 (rdP K φ b).1 (rdP K φ c).1, tTest (tChain (rCmpF K o1) (rCmpF K o2) (rdP K φ a).1 (rdP K φ b).1 (rdP K φ c).1))
  | .and a b => (tAndT K (rdP K φ a).1 (rdP K φ b).1, tAnd (rdP K φ a).2 (rdP K φ b).2)
  | .or a b => (tOrT K (rdP K φ a).1 (rdP K φ b).1, tOr (rdP K φ a).2 (rdP K φ b).2)
  | .not a => (tNotT K (rdP K φ a).1, tNot (rdP K φ a).2)
  | .ite c a b => (tIf (rdP K φ c).2 (rdP K φ a).1 (rdP K φ b).1, tIfT (rdP K φ c).2 (rdP K φ a).2 (rdP K φ b).2)
  | .tup es => (tTup (rdA K φ es), tTru K (tTup (rdA K φ es)))
  | .lst es => (tLst (rdA K φ es), tTru K (tLst (rdA K φ es)))
  | .ix a b => (tOp (rIxA K) (rdP K φ a).1 (rdP K φ b).1, tTru K (tOp (rIxA K) (rdP K φ a).1 (rdP K φ b).1))
  | .sl a lo hi => (tSl (rSlB K) (rdP K φ a).1 (rdO K φ lo).1 (rdO K φ hi).1, tTru K (tSl (rSlB K) (rdP K φ a).1 (rdO K φ lo).1 (rdO K φ hi).1))
  | .rev a => (tRevA K (rdP K φ a).1, tTru K (tRevA K (rdP K φ a).1))
  | .rg1 t a => (tRgB t (tRg1 (rdP K φ a).1), tTru K (tRgB t (tRg1 (rdP K φ a).1)))
  | .rg2 t a b => (tRgB t (tRg2 (rdP K φ a).1 (rdP K φ b).1), tTru K (tRgB t (tRg2 (rdP K φ a).1 (rdP K φ b).1)))
  | .srs a => (tSrs K (rdP K φ a).1, tTru K (tSrs K (rdP K φ a).1))
  | .call f es => (tCall (spOf K (φ f)) [] E0 (rdA K φ es), tTru K (tCall (spOf K (φ f)) [] E0 (rdA K φ es)))
  | .blt b es => (tCB (rBlt K b) (rdA K φ es), tTru K (tCB (rBlt K b) (rdA K φ es)))
  | .met m o es => match m with
    | .append => (tBM K "list" rAppend (rdP K φ o).1 (rdA K φ es), tTru K (tBM K "list" rAppend (rdP K φ o).1 (rdA K φ es)))
    | .pop => (tBM0 K "list" rPop (rdP K φ o).1, tTru K (tBM0 K "list" rPop (rdP K φ o).1))
    | .popAt => (tBM K "list" rPopAt (rdP K φ o).1 (rdA K φ es), tTru K (tBM K "list" rPopAt (rdP K φ o).1 (rdA K φ es)))
    | .bits => (tBits (rdP K φ o).1, tTru K (tBits (rdP K φ o).1))
  | .isi a k => (tCB (rIsi K) (tCons (rdP K φ a).1 (tCons (tC (.ty k.n)) tNil)), tTru K (tCB (rIsi K) (tCons (rdP K φ a).1 (tCons (tC (.ty k.n)) tNil))))
  | .dic => (tDNewK, tTru K tDNewK)
  | .dix a b => (tDGet (rdP K φ a).1 (rdP K φ b).1, tTru K (tDGet (rdP K φ a).1 (rdP K φ b).1))
  | .dgt o k v => (tDGet2 (rdP K φ o).1 (rdP K φ k).1 (rdP K φ v).1, tTru K (tDGet2 (rdP K φ o).1 (rdP K φ k).1 (rdP K φ v).1))
  | .lc own g it c e => (tLc (rdI K φ it) (rdG K g) (rdO K φ c).2 (rdP K φ e).1 own, tTru K (tLc (rdI K φ it) (rdG K g) (rdO K φ c).2 (rdP K φ e).1 own))
  | .skl j nm a k => (LamK.tSkl K (tabOf K nm) (lamQ nm) (rdP K φ a).1 (rdP K φ k).1, tTru K (LamK.tSkl K (tabOf K nm) (lamQ nm) (rdP K φ a).1 (rdP K φ k).1))
  | .lck own i o c e => (tLockE (tLc (iKeys (tVar o)) (gName i) (rdO K φ c).2 (rdP K φ e).1 own), tTru K (tLockE (tLc (iKeys (tVar o)) (gName i) (rdO K φ c).2 (rdP K φ e).1 own)))
termination_by structural x => x
def rdA (K : PySem.W.Frag) (φ : Phi) : Es → TA
  | .nil => tNil
  | .cons e es => tCons (rdP K φ e).1 (rdA K φ es)
termination_by structural x => x
/-- as a slice's part; as a comprehension's test -/
def rdO (K : PySem.W.Frag) (φ : Phi) : Ox → TO × TT
  | .no => (tNoPart, tYes)
  | .yes e => (tPart (rdP K φ e).1, (rdP K φ e).2)
termination_by structural x => x
def rdI (K : PySem.W.Frag) (φ : Phi) : It → TI
  | .ex e => fun σ H R => iList K (rdP K φ e).1 σ H R ∨ iTup K (rdP K φ e).1 σ H R
  | .rng1 a => iRng1 (tCons (rdP K φ a).1 tNil)
  | .rng2 a b => iRng2 (tCons (rdP K φ a).1 (tCons (rdP K φ b).1 tNil))
termination_by structural x => x
end
end Z
end
section
set_option Elab.async false
set_option linter.all false
set_option autoImplicit false
/-! an expression's evaluation meets what it asks -/
namespace Z
open PySem L2

theorem gc_some {n : Nat} {o : Option (D × Sto)} {r : D × Sto} (h : gc n o = some r) : ∃ v S2, o = some (v, S2) ∧ gc n (some (v, S2)) = some r := by
  cases o with
  | none => cases h
  | some p => exact ⟨p.1, p.2, rfl, h⟩
theorem map_some {α γ : Type} {o : Option α} {f : α → γ} {r : γ} (h : o.map f = some r) : ∃ x, o = some x ∧ f x = r := by
  cases o with
  | none => cases h
  | some p => exact ⟨p, rfl, Option.some.inj h⟩
theorem bind_some {α γ : Type} {o : Option α} {f : α → Option γ} {r : γ} (h : o.bind f = some r) : ∃ x, o = some x ∧ f x = some r := by
  cases o with
  | none => cases h
  | some p => exact ⟨p, rfl, h⟩

section
variable {K : PySem.W.Frag} {φ : Phi}

def ES (K : PySem.W.Frag) (φ : Phi) (t : TE) (c : Ex) : Prop := ∀ (base : Nat) (β : Nat → Addr) (env : Ev) (S : Sto) (σ : L2.St) (H : Hp) (Q : VK) (d : D) (S' : Sto),
  evE φ base env c S = some (d, S') → Sim K β S H → EnvR K β H S.length env σ → Kt K base β S H S' d Q → t σ H Q
def ET (K : PySem.W.Frag) (φ : Phi) (t : TT) (c : Ex) : Prop := ∀ (base : Nat) (β : Nat → Addr) (env : Ev) (S : Sto) (σ : L2.St) (H : Hp) (Q : Bool → Hp → Prop) (k : Bool) (S' : Sto),
  evT φ base env c S = some (k, S') → Sim K β S H → EnvR K β H S.length env σ → (∀ (β' : Nat → Addr) (H' : Hp), Gr base β S H β' S' H' → Sim K β' S' H' → Q k H') → t σ H Q
def EA (K : PySem.W.Frag) (φ : Phi) (t : TA) (c : Es) : Prop := ∀ (base : Nat) (β : Nat → Addr) (env : Ev) (S : Sto) (σ : L2.St) (H : Hp) (Q : List V → Hp → Prop) (ds : List D) (S' : Sto),
  evS φ base env c S = some (ds, S') → Sim K β S H → EnvR K β H S.length env σ → (∀ (β' : Nat → Addr) (vs : List V) (H' : Hp), Gr base β S H β' S' H' → Sim K β' S' H' → Reps K β' H' ds vs → clL S'.length ds = true → Q vs H') → t σ H Q
/-- a slice's part -/
def EO (K : PySem.W.Frag) (φ : Phi) (t : TO) (c : Ox) : Prop := ∀ (base : Nat) (β : Nat → Addr) (env : Ev) (S : Sto) (σ : L2.St) (H : Hp) (Q : Option Int → Hp → Prop) (o : Option D) (l : Option Int) (S' : Sto),
  evO φ base env c S = some (o, S') → optI o = some l → Sim K β S H → EnvR K β H S.length env σ → (∀ (β' : Nat → Addr) (H' : Hp), Gr base β S H β' S' H' → Sim K β' S' H' → Q l H') → t σ H Q
def tstO (S : Sto) : Option D → Option Bool
  | none => some true
  | some d => truF S d
/-- a comprehension's test -/
def EC (K : PySem.W.Frag) (φ : Phi) (t : TT) (c : Ox) : Prop := ∀ (base : Nat) (β : Nat → Addr) (env : Ev) (S : Sto) (σ : L2.St) (H : Hp) (Q : Bool → Hp → Prop) (o : Option D) (k : Bool) (S' : Sto),
  evO φ base env c S = some (o, S') → tstO S' o = some k → Sim K β S H → EnvR K β H S.length env σ → (∀ (β' : Nat → Addr) (H' : Hp), Gr base β S H β' S' H' → Sim K β' S' H' → Q k H') → t σ H Q
/-- what is walked, seen from any later state -/
def Wlk (K : PySem.W.Frag) (J : L2.It) (β : Nat → Addr) (S : Sto) (H : Hp) (h : Option Nat) (xs : List D) : Prop :=
  ∀ (base : Nat) (β' : Nat → Addr) (S' : Sto) (H' : Hp), Gr base β S H β' S' H' → Sim K β' S' H' → still S' h xs = true →
    (∀ i, xs.length ≤ i → J.stop i H') ∧ ∀ i x, xs[i]? = some x → J.go i H' ∧ ∀ v H2, J.yld i H' v H2 → H2 = H' ∧ Rep K β' H' x v
def EI (K : PySem.W.Frag) (φ : Phi) (t : TI) (c : It) : Prop := ∀ (base : Nat) (β : Nat → Addr) (env : Ev) (S : Sto) (σ : L2.St) (H : Hp) (R : L2.It → Hp → Prop) (xs : List D) (h : Option Nat) (S' : Sto),
  evI φ base env c S = some (xs, h, S') → Sim K β S H → EnvR K β H S.length env σ → (∀ (β' : Nat → Addr) (J : L2.It) (H' : Hp), Gr base β S H β' S' H' → Sim K β' S' H' → clL S'.length xs = true → Wlk K J β' S' H' h xs → R J H') → t σ H R

theorem ES.two {ta tb : TE} {a b : Ex} (ha : ES K φ ta a) (hb : ES K φ tb b) {base : Nat} {β : Nat → Addr} {env : Ev} {S S1 S2 : Sto} {σ : L2.St} {H : Hp} {x y : D} {R : V → V → Hp → Prop}
    (e1 : evE φ base env a S = some (x, S1)) (e2 : evE φ base env b S1 = some (y, S2)) (s : Sim K β S H) (r : EnvR K β H S.length env σ)
    (k : ∀ (β' : Nat → Addr) (v w : V) (H' : Hp), Gr base β S H β' S2 H' → Sim K β' S2 H' → Rep K β' H' x v → Rep K β' H' y w → x.cl S2.length = true → y.cl S2.length = true → R v w H') :
    ta σ H fun v H1 => tb σ H1 fun w H2 => R v w H2 :=
  ha base β env S σ H _ x S1 e1 s r fun β1 v H1 g1 s1 r1 c1 => hb base β1 env S1 σ H1 _ y S2 e2 s1 (r.gr g1) fun β2 w H2 g2 s2 r2 c2 => k β2 v w H2 (g1.trans g2) s2 (g2.rep r1 c1) r2 (g2.cl c1) c2

/-! ### names, constants -/
theorem es_var (i : Nat) : ES K φ (tVar i) (.var i) := by
  intro base β env S σ H Q d S' e s r k
  rw [evE] at e
  obtain ⟨x, e1, e2⟩ := map_some e
  obtain ⟨rfl, rfl⟩ := Prod.mk.inj e2
  have h : env[i]? = some (some x) := by
    unfold getV at e1
    cases q : env[i]? with
    | none => rw [q] at e1; cases e1
    | some o => rw [q] at e1; exact congrArg some e1
  obtain ⟨c, v, hv, rv⟩ := r.get i x h
  exact ⟨v, hv, k.here s rv c⟩
theorem es_c {c : Ex} {v : V} {d0 : D} (h : ∀ base env S, evE φ base env c S = some (d0, S)) (r0 : ∀ β H, Rep K β H d0 v) (c0 : ∀ n, d0.cl n = true) : ES K φ (tC v) c := by
  intro base β env S σ H Q d S' e s r k
  rw [h] at e
  cases e
  exact k.here s (r0 β H) (c0 _)

/-! ### operators -/
theorem es_bin {X : Cx} {op : Operator} {ta tb : TE} {a b : Ex} (ha : ES X.K φ ta a) (hb : ES X.K φ tb b) : ES X.K φ (tOp (rBin X.K op) ta tb) (.bin op a b) := by
  intro base β env S σ H Q d S' e s r k
  rw [evE] at e
  obtain ⟨v, S3, e1, hg⟩ := gc_some e
  rcases h1 : evE φ S.length env a S with _ | ⟨x, S1⟩
  · rw [h1] at e1; cases e1
  · rw [h1] at e1
    simp only at e1
    rcases h2 : evE φ S.length env b S1 with _ | ⟨y, S2⟩
    · rw [h2] at e1; cases e1
    · rw [h2] at e1
      simp only at e1
      exact ES.two ha hb h1 h2 s r fun β2 u w H2 g s2 rx ry cx cy => bin_ok op s2 e1 rx ry cx cy (k.fin hg s g)
theorem es_un {X : Cx} {op : UnaryOp} {ta : TE} {a : Ex} (ha : ES X.K φ ta a) : ES X.K φ (tUn (rUnF op) ta) (.un op a) := by
  intro base β env S σ H Q d S' e s r k
  rw [evE] at e
  rcases h1 : evE φ S.length env a S with _ | ⟨x, S1⟩
  · rw [h1] at e; cases e
  · rw [h1] at e
    simp only at e
    obtain ⟨v, S3, e1, hg⟩ := gc_some e
    obtain ⟨z, e2, e3⟩ := map_some e1
    cases e3
    exact ha _ β env S σ H _ x S1 h1 s r fun β1 u H1 g1 s1 r1 c1 => un_ok s1 e2 r1 (k.fin hg s g1)
theorem es_cmp {X : Cx} {op : CmpOp} {ta tb : TE} {a b : Ex} (ha : ES X.K φ ta a) (hb : ES X.K φ tb b) : ES X.K φ (tOp (rCmpF X.K op) ta tb) (.cmp op a b) := by
  intro base β env S σ H Q d S' e s r k
  rw [evE] at e
  obtain ⟨v, S3, e1, hg⟩ := gc_some e
  rcases h1 : evE φ S.length env a S with _ | ⟨x, S1⟩
  · rw [h1] at e1; cases e1
  · rw [h1] at e1
    simp only at e1
    rcases h2 : evE φ S.length env b S1 with _ | ⟨y, S2⟩
    · rw [h2] at e1; cases e1
    · rw [h2] at e1
      simp only at e1
      obtain ⟨z, e2, e3⟩ := map_some e1
      cases e3
      exact ES.two ha hb h1 h2 s r fun β2 u w H2 g s2 rx ry cx cy => cmp_ok s2 e2 rx ry cy (k.fin hg s g)
theorem es_chn {X : Cx} {o1 o2 : CmpOp} {ta tb tc : TE} {a b c : Ex} (ha : ES X.K φ ta a) (hb : ES X.K φ tb b) (hc : ES X.K φ tc c) : ES X.K φ (tChain (rCmpF X.K o1) (rCmpF X.K o2) ta tb tc) (.chn o1 o2 a b c) := by
  intro base β env S σ H Q d S' e s r k
  rw [evE] at e
  obtain ⟨v, S4, e1, hg⟩ := gc_some e
  rcases h1 : evE φ S.length env a S with _ | ⟨x, S1⟩
  · rw [h1] at e1; cases e1
  · rw [h1] at e1
    simp only at e1
    rcases h2 : evE φ S.length env b S1 with _ | ⟨y, S2⟩
    · rw [h2] at e1; cases e1
    · rw [h2] at e1
      simp only at e1
      refine ES.two ha hb h1 h2 s r fun β2 u w H2 g s2 rx ry cx cy => ?_
      cases h3 : cmpF o1 x y S2 with
      | none => rw [h3] at e1; cases e1
      | some q =>
        rw [h3] at e1
        refine cmp_ok (base := S.length) s2 h3 rx ry cy fun β3 u3 H3 g3 s3 r3 c3 => ⟨q, r3, ?_⟩
        cases q with
        | false =>
          cases e1
          rw [if_neg Bool.false_ne_true]
          exact (k.fin hg s (g.trans g3)).here s3 (v := .bl false) rfl rfl
        | true =>
          rw [if_pos rfl]
          simp only at e1
          rcases h4 : evE φ S.length env c S2 with _ | ⟨z, S3⟩
          · rw [h4] at e1; cases e1
          · rw [h4] at e1
            simp only at e1
            obtain ⟨z2, e2, e3⟩ := map_some e1
            cases e3
            have g13 : Gr S.length β S H β3 S2 H3 := g.trans g3
            exact hc _ β3 env S2 σ H3 _ z _ h4 s3 (r.gr g13) fun β4 u4 H4 g4 s4 r4 c4 => cmp_ok s4 e2 (g4.rep (g3.rep ry cy) (g3.cl cy)) r4 c4 (k.fin hg s (g13.trans g4))

/-! ### truth, and, or, not, if -/
theorem evT_inv {base : Nat} {env : Ev} {c : Ex} {S S' : Sto} {k : Bool} (e : evT φ base env c S = some (k, S')) : ∃ x, evE φ base env c S = some (x, S') ∧ truF S' x = some k := by
  unfold evT at e
  rcases h : evE φ base env c S with _ | ⟨x, S1⟩
  · rw [h] at e; cases e
  · rw [h] at e
    simp only at e
    obtain ⟨z, e1, e2⟩ := map_some e
    obtain ⟨rfl, rfl⟩ := Prod.mk.inj e2
    exact ⟨x, rfl, e1⟩
theorem et_tru {X : Cx} {t : TE} {c : Ex} (h : ES X.K φ t c) : ET X.K φ (tTru X.K t) c := by
  intro base β env S σ H Q k S' e s r q
  obtain ⟨x, e1, e2⟩ := evT_inv e
  exact h base β env S σ H _ x S' e1 s r fun β1 v H1 g s1 r1 c1 => ⟨k, tru_meets s1 e2 r1, q β1 H1 g s1⟩
theorem et_test {t : TE} {c : Ex} (h : ES K φ t c) (hb : ∀ {base env S x S'}, evE φ base env c S = some (x, S') → ∃ b, x = .bl b) : ET K φ (tTest t) c := by
  intro base β env S σ H Q k S' e s r q
  obtain ⟨x, e1, e2⟩ := evT_inv e
  obtain ⟨b, rfl⟩ := hb e1
  cases e2
  exact h base β env S σ H _ _ S' e1 s r fun β1 v H1 g s1 r1 c1 => ⟨_, r1, q β1 H1 g s1⟩
theorem gc_bl {n : Nat} {b : Bool} {S S' : Sto} {x : D} (h : gc n (some (.bl b, S)) = some (x, S')) : x = .bl b := by
  unfold gc at h
  simp only at h
  rw [if_pos (show (D.bl b).cl n = true from rfl)] at h
  cases h
  rfl
theorem cmp_bl {base : Nat} {env : Ev} {op : CmpOp} {a b : Ex} {S S' : Sto} {x : D} (e : evE φ base env (.cmp op a b) S = some (x, S')) : ∃ k, x = .bl k := by
  rw [evE] at e
  obtain ⟨v, S3, e1, hg⟩ := gc_some e
  rcases h1 : evE φ S.length env a S with _ | ⟨x1, S1⟩
  · rw [h1] at e1; cases e1
  · rw [h1] at e1
    simp only at e1
    rcases h2 : evE φ S.length env b S1 with _ | ⟨y, S2⟩
    · rw [h2] at e1; cases e1
    · rw [h2] at e1
      simp only at e1
      obtain ⟨z, e2, e3⟩ := map_some e1
      cases e3
      exact ⟨z, gc_bl hg⟩
theorem chn_bl {base : Nat} {env : Ev} {o1 o2 : CmpOp} {a b c : Ex} {S S' : Sto} {x : D} (e : evE φ base env (.chn o1 o2 a b c) S = some (x, S')) : ∃ k, x = .bl k := by
  rw [evE] at e
  obtain ⟨v, S4, e1, hg⟩ := gc_some e
  rcases h1 : evE φ S.length env a S with _ | ⟨x, S1⟩
  · rw [h1] at e1; cases e1
  · rw [h1] at e1
    simp only at e1
    rcases h2 : evE φ S.length env b S1 with _ | ⟨y, S2⟩
    · rw [h2] at e1; cases e1
    · rw [h2] at e1
      simp only at e1
      cases h3 : cmpF o1 x y S2 with
      | none => rw [h3] at e1; cases e1
      | some q =>
        rw [h3] at e1
        cases q with
        | false => cases e1; exact ⟨_, gc_bl hg⟩
        | true =>
          simp only at e1
          rcases h4 : evE φ S.length env c S2 with _ | ⟨z, S3⟩
          · rw [h4] at e1; cases e1
          · rw [h4] at e1
            simp only at e1
            obtain ⟨z2, e2, e3⟩ := map_some e1
            cases e3
            exact ⟨_, gc_bl hg⟩
theorem es_and {X : Cx} {ta tb : TE} {a b : Ex} (ha : ES X.K φ ta a) (hb : ES X.K φ tb b) : ES X.K φ (tAndT X.K ta tb) (.and a b) := by
  intro base β env S σ H Q d S' e s r k
  rw [evE] at e
  rcases h1 : evE φ base env a S with _ | ⟨x, S1⟩
  · rw [h1] at e; cases e
  · rw [h1] at e
    simp only at e
    refine ha base β env S σ H _ x S1 h1 s r fun β1 u H1 g1 s1 r1 c1 => ?_
    cases h2 : truF S1 x with
    | none => rw [h2] at e; cases e
    | some q =>
      rw [h2] at e
      refine ⟨q, tru_meets s1 h2 r1, ?_⟩
      cases q with
      | true => exact hb base β1 env S1 σ H1 Q d S' e s1 (r.gr g1) fun β2 w H2 g2 s2 r2 c2 => k β2 w H2 (g1.trans g2) s2 r2 c2
      | false => cases e; exact k β1 u H1 g1 s1 r1 c1
theorem es_or {X : Cx} {ta tb : TE} {a b : Ex} (ha : ES X.K φ ta a) (hb : ES X.K φ tb b) : ES X.K φ (tOrT X.K ta tb) (.or a b) := by
  intro base β env S σ H Q d S' e s r k
  rw [evE] at e
  rcases h1 : evE φ base env a S with _ | ⟨x, S1⟩
  · rw [h1] at e; cases e
  · rw [h1] at e
    simp only at e
    refine ha base β env S σ H _ x S1 h1 s r fun β1 u H1 g1 s1 r1 c1 => ?_
    cases h2 : truF S1 x with
    | none => rw [h2] at e; cases e
    | some q =>
      rw [h2] at e
      refine ⟨q, tru_meets s1 h2 r1, ?_⟩
      cases q with
      | false => exact hb base β1 env S1 σ H1 Q d S' e s1 (r.gr g1) fun β2 w H2 g2 s2 r2 c2 => k β2 w H2 (g1.trans g2) s2 r2 c2
      | true => cases e; exact k β1 u H1 g1 s1 r1 c1
theorem es_not {X : Cx} {ta : TE} {a : Ex} (ha : ES X.K φ ta a) : ES X.K φ (tNotT X.K ta) (.not a) := by
  intro base β env S σ H Q d S' e s r k
  rw [evE] at e
  rcases h1 : evE φ base env a S with _ | ⟨x, S1⟩
  · rw [h1] at e; cases e
  · rw [h1] at e
    simp only at e
    obtain ⟨q, e1, e2⟩ := map_some e
    cases e2
    exact ha base β env S σ H _ x S' h1 s r fun β1 u H1 g1 s1 r1 c1 => ⟨q, tru_meets s1 e1 r1, k β1 _ H1 g1 s1 rfl rfl⟩
theorem et_and {tA tB' : TT} {a b : Ex} (ha : ET K φ tA a) (hb : ET K φ tB' b) : ET K φ (tAnd tA tB') (.and a b) := by
  intro base β env S σ H Q k S' e s r q
  obtain ⟨x, e1, e2⟩ := evT_inv e
  rw [evE] at e1
  rcases h1 : evE φ base env a S with _ | ⟨y, S1⟩
  · rw [h1] at e1; cases e1
  · rw [h1] at e1
    simp only at e1
    cases h2 : truF S1 y with
    | none => rw [h2] at e1; cases e1
    | some b0 =>
      rw [h2] at e1
      have ea : evT φ base env a S = some (b0, S1) := by
        unfold evT
        rw [h1]
        simp only [h2, Option.map_some]
      refine ha base β env S σ H _ b0 S1 ea s r fun β1 H1 g1 s1 => ?_
      cases b0 with
      | true =>
        rw [if_pos rfl]
        have eb : evT φ base env b S1 = some (k, S') := by
          unfold evT
          simp only at e1
          rw [e1]
          simp only [e2, Option.map_some]
        exact hb base β1 env S1 σ H1 Q k S' eb s1 (r.gr g1) fun β2 H2 g2 s2 => q β2 H2 (g1.trans g2) s2
      | false =>
        rw [if_neg Bool.false_ne_true]
        cases e1
        rw [h2] at e2
        cases e2
        exact q β1 H1 g1 s1
theorem et_or {tA tB' : TT} {a b : Ex} (ha : ET K φ tA a) (hb : ET K φ tB' b) : ET K φ (tOr tA tB') (.or a b) := by
  intro base β env S σ H Q k S' e s r q
  obtain ⟨x, e1, e2⟩ := evT_inv e
  rw [evE] at e1
  rcases h1 : evE φ base env a S with _ | ⟨y, S1⟩
  · rw [h1] at e1; cases e1
  · rw [h1] at e1
    simp only at e1
    cases h2 : truF S1 y with
    | none => rw [h2] at e1; cases e1
    | some b0 =>
      rw [h2] at e1
      have ea : evT φ base env a S = some (b0, S1) := by
        unfold evT
        rw [h1]
        simp only [h2, Option.map_some]
      refine ha base β env S σ H _ b0 S1 ea s r fun β1 H1 g1 s1 => ?_
      cases b0 with
      | false =>
        rw [if_neg Bool.false_ne_true]
        have eb : evT φ base env b S1 = some (k, S') := by
          unfold evT
          simp only at e1
          rw [e1]
          simp only [e2, Option.map_some]
        exact hb base β1 env S1 σ H1 Q k S' eb s1 (r.gr g1) fun β2 H2 g2 s2 => q β2 H2 (g1.trans g2) s2
      | true =>
        rw [if_pos rfl]
        cases e1
        rw [h2] at e2
        cases e2
        exact q β1 H1 g1 s1
theorem et_not {tA : TT} {a : Ex} (ha : ET K φ tA a) : ET K φ (tNot tA) (.not a) := by
  intro base β env S σ H Q k S' e s r q
  obtain ⟨x, e1, e2⟩ := evT_inv e
  rw [evE] at e1
  rcases h1 : evE φ base env a S with _ | ⟨y, S1⟩
  · rw [h1] at e1; cases e1
  · rw [h1] at e1
    simp only at e1
    obtain ⟨z, e3, e4⟩ := map_some e1
    obtain ⟨rfl, rfl⟩ := Prod.mk.inj e4
    cases e2
    have ea : evT φ base env a S = some (z, S1) := by
      unfold evT
      rw [h1]
      simp only [e3, Option.map_some]
    exact ha base β env S σ H _ z S1 ea s r fun β1 H1 g1 s1 => q β1 H1 g1 s1
theorem es_ite {tc : TT} {ta tb : TE} {c a b : Ex} (hc : ET K φ tc c) (ha : ES K φ ta a) (hb : ES K φ tb b) : ES K φ (tIf tc ta tb) (.ite c a b) := by
  intro base β env S σ H Q d S' e s r k
  rw [evE] at e
  rcases h1 : evE φ base env c S with _ | ⟨x, S1⟩
  · rw [h1] at e; cases e
  · rw [h1] at e
    simp only at e
    cases h2 : truF S1 x with
    | none => rw [h2] at e; cases e
    | some q =>
      rw [h2] at e
      have ec : evT φ base env c S = some (q, S1) := by
        unfold evT
        rw [h1]
        simp only [h2, Option.map_some]
      refine hc base β env S σ H _ q S1 ec s r fun β1 H1 g1 s1 => ?_
      cases q with
      | true =>
        rw [if_pos rfl]
        exact ha base β1 env S1 σ H1 Q d S' e s1 (r.gr g1) fun β2 w H2 g2 s2 r2 c2 => k β2 w H2 (g1.trans g2) s2 r2 c2
      | false =>
        rw [if_neg Bool.false_ne_true]
        exact hb base β1 env S1 σ H1 Q d S' e s1 (r.gr g1) fun β2 w H2 g2 s2 r2 c2 => k β2 w H2 (g1.trans g2) s2 r2 c2

/-! ### arguments, displays -/
theorem ea_nil : EA K φ tNil .nil := by
  intro base β env S σ H Q ds S' e s r q
  cases e
  exact q β [] H Gr.refl s rfl rfl
theorem ea_cons {te : TE} {t : TA} {c : Ex} {cs : Es} (h : ES K φ te c) (hs : EA K φ t cs) : EA K φ (tCons te t) (.cons c cs) := by
  intro base β env S σ H Q ds S' e s r q
  rw [evS] at e
  rcases h1 : evE φ base env c S with _ | ⟨x, S1⟩
  · rw [h1] at e; cases e
  · rw [h1] at e
    simp only at e
    rcases h2 : evS φ base env cs S1 with _ | ⟨xs, S2⟩
    · rw [h2] at e; cases e
    · rw [h2] at e
      cases e
      refine h base β env S σ H _ x S1 h1 s r fun β1 u H1 g1 s1 r1 c1 => ?_
      refine hs base β1 env S1 σ H1 _ xs S' h2 s1 (r.gr g1) fun β2 us H2 g2 s2 r2 c2 => ?_
      exact q β2 (u :: us) H2 (g1.trans g2) s2 ⟨u, us, rfl, g2.rep r1 c1, r2⟩ (by
        show (x.cl S'.length && clL S'.length xs) = true
        rw [g2.cl c1, c2]
        rfl)
theorem es_tup {t : TA} {es : Es} (h : EA K φ t es) : ES K φ (tTup t) (.tup es) := by
  intro base β env S σ H Q d S' e s r k
  rw [evE] at e
  obtain ⟨v, S3, e1, hg⟩ := gc_some e
  rcases h1 : evS φ S.length env es S with _ | ⟨ds, S1⟩
  · rw [h1] at e1; cases e1
  · rw [h1] at e1
    obtain ⟨cl, e1⟩ := ite_some e1
    cases e1
    refine h _ β env S σ H _ ds S3 h1 s r fun β1 vs H1 g1 s1 r1 c1 => ⟨?_, (k.fin hg s g1).tuple s1 r1 c1⟩
    rw [← r1.length]
    exact lim_line cl
theorem es_lst {t : TA} {es : Es} (h : EA K φ t es) : ES K φ (tLst t) (.lst es) := by
  intro base β env S σ H Q d S' e s r k
  rw [evE] at e
  obtain ⟨v, S3, e1, hg⟩ := gc_some e
  rcases h1 : evS φ S.length env es S with _ | ⟨ds, S1⟩
  · rw [h1] at e1; cases e1
  · rw [h1] at e1
    simp only at e1
    obtain ⟨cl, e1⟩ := ite_some e1
    cases e1
    refine h _ β env S σ H _ ds S1 h1 s r fun β1 vs H1 g1 s1 r1 c1 => ⟨?_, (k.fin hg s g1).list s1 r1 c1⟩
    rw [← r1.length]
    exact lim_line cl
theorem es_call {f : Str} {t : TA} {es : Es} (h : EA K φ t es) : ES K φ (tCall (spOf K (φ f)) [] E0 t) (.call f es) := by
  intro base β env S σ H Q d S' e s r k
  rw [evE] at e
  obtain ⟨v, S3, e1, hg⟩ := gc_some e
  rcases h1 : evS φ S.length env es S with _ | ⟨ds, S1⟩
  · rw [h1] at e1; cases e1
  · rw [h1] at e1
    simp only at e1
    refine h _ β env S σ H _ ds S1 h1 s r fun β1 vs H1 g1 s1 r1 c1 => ?_
    rw [List.append_nil]
    exact ⟨β1, S1, ds, v, S3, e1, s1, r1, c1, fun β2 w H2 g2 s2 r2 c2 => (k.fin hg s g1) β2 w H2 (g2.loose (.inl g1.len)) s2 r2 c2⟩
theorem es_blt {X : Cx} {b : Bl} {t : TA} {es : Es} (h : EA X.K φ t es) : ES X.K φ (tCB (rBlt X.K b) t) (.blt b es) := by
  intro base β env S σ H Q d S' e s r k
  rw [evE] at e
  obtain ⟨v, S3, e1, hg⟩ := gc_some e
  rcases h1 : evS φ S.length env es S with _ | ⟨ds, S1⟩
  · rw [h1] at e1; cases e1
  · rw [h1] at e1
    simp only at e1
    exact h _ β env S σ H _ ds S1 h1 s r fun β1 vs H1 g1 s1 r1 c1 => blt_ok s1 e1 r1 c1 (k.fin hg s g1)
theorem es_isi {X : Cx} {kk : Ik} {ta : TE} {a : Ex} (ha : ES X.K φ ta a) : ES X.K φ (tCB (rIsi X.K) (tCons ta (tCons (tC (.ty kk.n)) tNil))) (.isi a kk) := by
  intro base β env S σ H Q d S' e s r k
  rw [evE] at e
  obtain ⟨v, S3, e1, hg⟩ := gc_some e
  rcases h1 : evE φ S.length env a S with _ | ⟨x, S1⟩
  · rw [h1] at e1; cases e1
  · rw [h1] at e1
    simp only at e1
    obtain ⟨z, e2, e3⟩ := map_some e1
    cases e3
    exact ha _ β env S σ H _ x _ h1 s r fun β1 u H1 g1 s1 r1 c1 => isi_ok s1 e2 r1 (k.fin hg s g1)

/-! ### places, slices -/
theorem es_ix {X : Cx} {ta tb : TE} {a b : Ex} (ha : ES X.K φ ta a) (hb : ES X.K φ tb b) : ES X.K φ (tOp (rIxA X.K) ta tb) (.ix a b) := by
  intro base β env S σ H Q d S' e s r k
  rw [evE] at e
  obtain ⟨v, S3, e1, hg⟩ := gc_some e
  rcases h1 : evE φ S.length env a S with _ | ⟨x, S1⟩
  · rw [h1] at e1; cases e1
  · rw [h1] at e1
    simp only at e1
    rcases h2 : evE φ S.length env b S1 with _ | ⟨y, S2⟩
    · rw [h2] at e1; cases e1
    · rw [h2] at e1
      simp only at e1
      obtain ⟨z, e2, e3⟩ := map_some e1
      cases e3
      exact ES.two ha hb h1 h2 s r fun β2 u w H2 g s2 rx ry cx cy => ix_ok s2 e2 rx ry cx (k.fin hg s g)
theorem eo_no : EO K φ tNoPart .no := by
  intro base β env S σ H Q o l S' e el s r q
  cases e
  cases el
  exact q β H Gr.refl s
theorem eo_yes {t : TE} {c : Ex} (h : ES K φ t c) : EO K φ (tPart t) (.yes c) := by
  intro base β env S σ H Q o l S' e el s r q
  rw [evO] at e
  rcases h1 : evE φ base env c S with _ | ⟨x, S1⟩
  · rw [h1] at e; cases e
  · rw [h1] at e
    cases e
    cases x with
    | int i =>
      obtain ⟨_, el⟩ := ite_some el
      cases el
      exact h base β env S σ H _ _ S' h1 s r fun β1 v H1 g1 s1 r1 _ => ⟨i, r1, q β1 H1 g1 s1⟩
    | _ => cases el
theorem ec_no : EC K φ tYes .no := by
  intro base β env S σ H Q o k S' e el s r q
  cases e
  cases el
  exact q β H Gr.refl s
theorem ec_yes {t : TT} {c : Ex} (h : ET K φ t c) : EC K φ t (.yes c) := by
  intro base β env S σ H Q o k S' e el s r q
  rw [evO] at e
  rcases h1 : evE φ base env c S with _ | ⟨x, S1⟩
  · rw [h1] at e; cases e
  · rw [h1] at e
    cases e
    refine h base β env S σ H Q k S' ?_ s r q
    unfold evT
    rw [h1]
    have el' : truF S' x = some k := el
    simp only [el', Option.map_some]
theorem es_sl {X : Cx} {ta : TE} {tl th : TO} {a : Ex} {lo hi : Ox} (ha : ES X.K φ ta a) (hl : EO X.K φ tl lo) (hh : EO X.K φ th hi) : ES X.K φ (tSl (rSlB X.K) ta tl th) (.sl a lo hi) := by
  intro base β env S σ H Q d S' e s r k
  rw [evE] at e
  obtain ⟨v, S4, e1, hg⟩ := gc_some e
  rcases h1 : evE φ S.length env a S with _ | ⟨x, S1⟩
  · rw [h1] at e1; cases e1
  · rw [h1] at e1
    simp only at e1
    rcases h2 : evO φ S.length env lo S1 with _ | ⟨l, S2⟩
    · rw [h2] at e1; cases e1
    · rw [h2] at e1
      simp only at e1
      rcases h3 : evO φ S.length env hi S2 with _ | ⟨u, S3⟩
      · rw [h3] at e1; cases e1
      · rw [h3] at e1
        simp only at e1
        have hp : ∃ l' u', optI l = some l' ∧ optI u = some u' := by
          unfold slF at e1
          cases q1 : optI l with
          | none => rw [q1] at e1; cases e1
          | some l' =>
            cases q2 : optI u with
            | none => rw [q1, q2] at e1; cases e1
            | some u' => exact ⟨l', u', rfl, rfl⟩
        obtain ⟨l', u', el, eu⟩ := hp
        refine ha _ β env S σ H _ x S1 h1 s r fun β1 w H1 g1 s1 r1 c1 => ?_
        refine hl _ β1 env S1 σ H1 _ l l' S2 h2 el s1 (r.gr g1) fun β2 H2 g2 s2 => ?_
        refine hh _ β2 env S2 σ H2 _ u u' S3 h3 eu s2 (r.gr (g1.trans g2)) fun β3 H3 g3 s3 => ?_
        have g13 := (g1.trans g2).trans g3
        exact sl_ok s3 el eu e1 ((g2.trans g3).rep r1 c1) ((g2.trans g3).cl c1) (k.fin hg s g13)
theorem es_rev {ta : TE} {a : Ex} (ha : ES K φ ta a) : ES K φ (tRevA K ta) (.rev a) := by
  intro base β env S σ H Q d S' e s r k
  rw [evE] at e
  obtain ⟨v, S4, e1, hg⟩ := gc_some e
  rcases h1 : evE φ S.length env a S with _ | ⟨x, S1⟩
  · rw [h1] at e1; cases e1
  · rw [h1] at e1
    simp only at e1
    refine ha _ β env S σ H _ x S1 h1 s r fun β1 w H1 g1 s1 r1 c1 => ?_
    cases x with
    | tup ds =>
      cases e1
      obtain ⟨a, vs, rfl, h, rs⟩ := (show ∃ a vs, w = .ref a ∧ SqT K H1 a vs ∧ Reps K β1 H1 ds vs from r1)
      exact .inr ⟨a, vs, rfl, h, (k.fin hg s g1).tuple s1 rs.rev (clL_of fun z hz => clL_mem c1 z (List.mem_reverse.mp hz))⟩
    | ref i =>
      cases (show w = .ref (β1 i) from r1)
      have e' : ((S1[i]?).bind SO.seq?).bind (fun xs => new S1 (.lst xs.reverse)) = some (v, S4) := e1
      obtain ⟨xs, q1, q2⟩ := bind_some e'
      cases q2
      obtain ⟨vs, hq, rs, cs⟩ := s1.seq q1
      exact .inl ⟨β1 i, vs, rfl, hq, (k.fin hg s g1).list s1 rs.rev (clL_of fun z hz => clL_mem cs z (List.mem_reverse.mp hz))⟩
    | _ => cases e1
end
end Z
end
section
set_option Elab.async false
set_option linter.all false
set_option autoImplicit false
/-! methods, dicts, what is walked, comprehensions -/
namespace Z
open PySem L2

section
variable {K : PySem.W.Frag} {φ : Phi} {β β1 β2 : Nat → Addr} {H H1 H2 : Hp} {S S' S1 S2 : Sto} {base : Nat}

theorem Sim.putL {i : Nat} {xs ys : List D} {vs ws : List V} (s : Sim K β S H) (e : S[i]? = some (.lst xs)) (h : H (β i) = some (.lst vs)) (r : Reps K β H ys ws) (c : clL S.length ys = true) (hb : i < base → ∀ n, clL n xs = true → clL n ys = true) :
    Sim K β (S.set i (.lst ys)) (upd H (β i) (.lst ws)) ∧ Gr base β S H β (S.set i (.lst ys)) (upd H (β i) (.lst ws)) :=
  s.put e h (fun _ z => by cases z) (fun _ _ z => by cases z) (fun _ z => by cases z) c ⟨ws, upd_same, Reps.tk (TupK.set (o := .lst ws) h (fun _ z => by cases z) (fun _ _ z => by cases z) (fun _ z => by cases z)).r (n := S.length) (fun _ _ => rfl) ys ws c r⟩ hb
theorem wr_ok {i : Nat} {d : D} (h : wr base i d = true) : i < base → ∀ n, d.cl n = true := fun hi n => by
  unfold wr at h
  rw [Bool.or_eq_true] at h
  rcases h with h | h
  · have := of_decide_eq_true h
    omega
  · exact D.cl_mono (Nat.zero_le n) d h
theorem tyV_lst {i : Nat} {xs : List D} (s : Sim K β S H) (e : S[i]? = some (.lst xs)) : tyV K "list" (.ref (β i)) H := by
  obtain ⟨vs, h, _⟩ := s.lst e
  exact .inl ⟨rfl, vs, .inl (.inl h)⟩
theorem metP_lst {m : Mt} {x : D} (hm : m ≠ .bits) (h : metP m x S = true) : ∃ i xs, x = .ref i ∧ S[i]? = some (.lst xs) := by
  unfold metP at h
  cases m with
  | bits => exact absurd rfl hm
  | _ =>
    cases x with
    | ref i =>
      simp only at h
      cases q : S[i]? with
      | none => rw [q] at h; cases h
      | some o =>
        rw [q] at h
        cases o with
        | lst xs => exact ⟨i, xs, rfl, q⟩
        | fro xs => cases h
        | dct xs => cases h
        | fdc xs => cases h
        | tbl _ => cases h
    | _ => cases h
theorem clL_app {n : Nat} {xs ys : List D} (a : clL n xs = true) (b : clL n ys = true) : clL n (xs ++ ys) = true := clL_of fun z hz => by
  rcases List.mem_append.mp hz with hz | hz
  · exact clL_mem a z hz
  · exact clL_mem b z hz
theorem clL_one {n : Nat} {x : D} (a : x.cl n = true) : clL n [x] = true := clL_of fun z hz => by
  rw [List.mem_singleton.mp hz]
  exact a
theorem lst_at {i : Nat} {α : Type} {f : List D → Option α} {r : α} (e : (match S[i]? with
    | some (.lst xs) => f xs
    | _ => none) = some r) : ∃ xs, S[i]? = some (.lst xs) ∧ f xs = some r := by
  cases q : S[i]? with
  | none => rw [q] at e; cases e
  | some o =>
    rw [q] at e
    cases o with
    | lst xs => exact ⟨xs, rfl, e⟩
    | fro xs => cases e
    | dct xs => cases e
    | fdc xs => cases e
    | tbl _ => cases e

theorem rgOk_iff {i : Int} (h : rgOk i = true) : -(2 ^ 62) ≤ i ∧ i < 2 ^ 62 := by
  unfold rgOk at h
  rw [Bool.and_eq_true] at h
  exact ⟨of_decide_eq_true h.1, of_decide_eq_true h.2⟩
theorem es_append {to : TE} {t : TA} {o : Ex} {es : Es} (ho : ES K φ to o) (ha : EA K φ t es) : ES K φ (tBM K "list" rAppend to t) (.met .append o es) := by
  intro base β env S σ H Q d S' e s r k
  rw [evE] at e
  rcases h1 : evE φ base env o S with _ | ⟨x, S1⟩
  · rw [h1] at e; cases e
  · rw [h1] at e
    simp only at e
    by_cases hp : metP .append x S1 = true
    · rw [if_pos hp] at e
      rcases h2 : evS φ base env es S1 with _ | ⟨vs, S2⟩
      · rw [h2] at e; cases e
      · rw [h2] at e
        simp only at e
        obtain ⟨i, xs1, rfl, q1⟩ := metP_lst (by decide) hp
        refine ho base β env S σ H _ _ S1 h1 s r fun β1 u H1 g1 s1 r1 c1 => ?_
        cases (show u = .ref (β1 i) from r1)
        refine ⟨tyV_lst s1 q1, ha base β1 env S1 σ H1 _ vs S2 h2 s1 (r.gr g1) fun β2 us H2 g2 s2 r2 c2 => ?_⟩
        have hi : i < S1.length := of_decide_eq_true c1
        rcases vs with _ | ⟨y, _ | ⟨z, t⟩⟩
        · cases e
        · obtain ⟨w, rfl, ry⟩ := reps1 r2
          obtain ⟨xs, q, e⟩ := lst_at (S := S2) (i := i) (f := fun xs => if wr base i y && decide (xs.length < lim) then some (D.non, S2.set i (.lst (xs ++ [y]))) else none) e
          obtain ⟨c, e⟩ := ite_some e
          cases e
          rw [Bool.and_eq_true] at c
          obtain ⟨ws, h, rs, cs⟩ := s2.lst q
          obtain ⟨s3, g3⟩ := s2.putL (base := base) q h (rs.append (Reps.one ry)) (clL_app cs c2) fun hi' n hn => clL_app hn (clL_one (wr_ok c.1 hi' n))
          refine ⟨β2 i, ws, w, by rw [g2.same i hi], rfl, h, ?_, ?_⟩
          · rw [← rs.length]
            exact lim_line' (of_decide_eq_true c.2)
          · exact k β2 .non _ ((g1.trans g2).trans g3) s3 rfl rfl
        · cases e
    · rw [if_neg hp] at e
      cases e
theorem es_popAt {to : TE} {t : TA} {o : Ex} {es : Es} (ho : ES K φ to o) (ha : EA K φ t es) : ES K φ (tBM K "list" rPopAt to t) (.met .popAt o es) := by
  intro base β env S σ H Q d S' e s r k
  rw [evE] at e
  rcases h1 : evE φ base env o S with _ | ⟨x, S1⟩
  · rw [h1] at e; cases e
  · rw [h1] at e
    simp only at e
    by_cases hp : metP .popAt x S1 = true
    · rw [if_pos hp] at e
      rcases h2 : evS φ base env es S1 with _ | ⟨vs, S2⟩
      · rw [h2] at e; cases e
      · rw [h2] at e
        simp only at e
        obtain ⟨i, xs1, rfl, q1⟩ := metP_lst (by decide) hp
        refine ho base β env S σ H _ _ S1 h1 s r fun β1 u H1 g1 s1 r1 c1 => ?_
        cases (show u = .ref (β1 i) from r1)
        refine ⟨tyV_lst s1 q1, ha base β1 env S1 σ H1 _ vs S2 h2 s1 (r.gr g1) fun β2 us H2 g2 s2 r2 c2 => ?_⟩
        have hi : i < S1.length := of_decide_eq_true c1
        rcases vs with _ | ⟨y, _ | ⟨z, t⟩⟩
        · cases e
        · obtain ⟨w, rfl, ry⟩ := reps1 r2
          cases y with
          | int j =>
            cases (show w = .int j from ry)
            obtain ⟨xs, q, e⟩ := lst_at (S := S2) (i := i) (f := fun xs => match ixN xs.length j with
              | some k => (match xs[k]? with
                | some y => if rgOk j then some (y, S2.set i (.lst (xs.eraseIdx k))) else none
                | none => none)
              | none => none) e
            cases e1 : ixN xs.length j with
            | none => rw [e1] at e; cases e
            | some m =>
              rw [e1] at e
              simp only at e
              cases e2 : xs[m]? with
              | none => rw [e2] at e; cases e
              | some z =>
                rw [e2] at e
                obtain ⟨cj, e⟩ := ite_some e
                cases e
                obtain ⟨b1, b2⟩ := rgOk_iff cj
                obtain ⟨ws, h, rs, cs⟩ := s2.lst q
                obtain ⟨s3, g3⟩ := s2.putL (base := base) q h (rs.erase m) (clL_of fun z hz => clL_mem cs z (List.mem_of_mem_eraseIdx hz)) fun _ n hn => clL_of fun z hz => clL_mem hn z (List.mem_of_mem_eraseIdx hz)
                obtain ⟨v, hv, rv⟩ := rs.get e2
                obtain ⟨a1, a2, a3, a4⟩ := ixN_seq e1
                have hl := rs.length
                refine ⟨β2 i, ws, j, m, v, by rw [g2.same i hi], rfl, h, by omega, by omega, by rw [← hl]; exact a1, hv, ?_⟩
                exact k β2 v _ ((g1.trans g2).trans g3) s3 (g3.rep rv (clL_mem cs _ (List.mem_of_getElem? e2))) (g3.cl (clL_mem cs _ (List.mem_of_getElem? e2)))
          | _ => cases e
        · (cases y <;> cases e)
    · rw [if_neg hp] at e
      cases e
theorem es_pop {to : TE} {o : Ex} (ho : ES K φ to o) : ES K φ (tBM0 K "list" rPop to) (.met .pop o .nil) := by
  intro base β env S σ H Q d S' e s r k
  rw [evE] at e
  rcases h1 : evE φ base env o S with _ | ⟨x, S1⟩
  · rw [h1] at e; cases e
  · rw [h1] at e
    simp only at e
    by_cases hp : metP .pop x S1 = true
    · rw [if_pos hp] at e
      obtain ⟨i, xs1, rfl, q1⟩ := metP_lst (by decide) hp
      have e' : metF base .pop (.ref i) [] S1 = some (d, S') := e
      refine ho base β env S σ H _ _ S1 h1 s r fun β1 u H1 g1 s1 r1 c1 => ?_
      cases (show u = .ref (β1 i) from r1)
      refine ⟨tyV_lst s1 q1, ?_⟩
      obtain ⟨xs, q, e⟩ := lst_at (S := S1) (i := i) (f := fun xs => match xs[xs.length - 1]? with
        | some y => some (y, S1.set i (.lst xs.dropLast))
        | none => none) e'
      cases e2 : xs[xs.length - 1]? with
      | none => rw [e2] at e; cases e
      | some z =>
        rw [e2] at e
        cases e
        obtain ⟨ws, h, rs, cs⟩ := s1.lst q
        have rd : Reps K β1 H1 xs.dropLast ws.dropLast := by
          rw [List.dropLast_eq_take, List.dropLast_eq_take, ← rs.length]
          exact rs.take _
        obtain ⟨s3, g3⟩ := s1.putL (base := base) q h rd (clL_of fun z hz => clL_mem cs z (List.dropLast_subset _ hz)) fun _ n hn => clL_of fun z hz => clL_mem hn z (List.dropLast_subset _ hz)
        obtain ⟨v, hv, rv⟩ := rs.get e2
        refine ⟨β1 i, ws, v, rfl, rfl, h, by rw [← rs.length]; exact hv, ?_⟩
        exact k β1 v _ (g1.trans g3) s3 (g3.rep rv (clL_mem cs _ (List.mem_of_getElem? e2))) (g3.cl (clL_mem cs _ (List.mem_of_getElem? e2)))
    · rw [if_neg hp] at e
      cases e
theorem es_bits {to : TE} {o : Ex} (ho : ES K φ to o) : ES K φ (tBits to) (.met .bits o .nil) := by
  intro base β env S σ H Q d S' e s r k
  rw [evE] at e
  rcases h1 : evE φ base env o S with _ | ⟨x, S1⟩
  · rw [h1] at e; cases e
  · rw [h1] at e
    have e' : metF base .bits x [] S1 = some (d, S') := e
    refine ho base β env S σ H _ _ S1 h1 s r fun β1 u H1 g1 s1 r1 c1 => ?_
    cases x with
    | int i =>
      cases e'
      exact ⟨i, r1, k β1 _ H1 g1 s1 rfl rfl⟩
    | _ => cases e'

/-! ### dicts -/
def KR (K : PySem.W.Frag) (β : Nat → Addr) (H : Hp) (kvs : List (Key × D)) (kws : List (Key × V)) : Prop := kws.map (·.1) = kvs.map (·.1) ∧ Reps K β H (kvs.map (·.2)) (kws.map (·.2))
theorem KR.nil : KR K β H [] [] := ⟨rfl, rfl⟩
theorem KR.inv {p : Key × D} {r : List (Key × D)} {kws : List (Key × V)} (h : KR K β H (p :: r) kws) : ∃ v t, kws = (p.1, v) :: t ∧ Rep K β H p.2 v ∧ KR K β H r t := by
  obtain ⟨h1, h2⟩ := h
  cases kws with
  | nil => cases h1
  | cons q t =>
    obtain ⟨x, w, e, r1, r2⟩ := (show ∃ x w, ((q :: t).map (·.2)) = x :: w ∧ Rep K β H p.2 x ∧ Reps K β H (r.map (·.2)) w from h2)
    cases e
    have e1 : q.1 = p.1 := (List.cons.inj h1).1
    exact ⟨q.2, t, by rw [← e1], r1, (List.cons.inj h1).2, r2⟩
theorem KR.cons {k : Key} {d : D} {v : V} {r : List (Key × D)} {t : List (Key × V)} (h : Rep K β H d v) (q : KR K β H r t) : KR K β H ((k, d) :: r) ((k, v) :: t) :=
  ⟨by rw [List.map_cons, List.map_cons, q.1], ⟨v, _, rfl, h, q.2⟩⟩
theorem KR.length {kvs : List (Key × D)} {kws : List (Key × V)} (h : KR K β H kvs kws) : kvs.length = kws.length := by
  have := congrArg List.length h.1
  rw [List.length_map, List.length_map] at this
  exact this.symm
theorem KR.look {k : Key} : ∀ {kvs : List (Key × D)} {kws : List (Key × V)}, KR K β H kvs kws → (∀ d, dLook kvs k = some d → ∃ v, valV kws k = some v ∧ Rep K β H d v) ∧ (dLook kvs k = none → valV kws k = none)
  | [], kws, h => by
    have : kws = [] := List.length_eq_zero_iff.mp h.length.symm
    subst this
    exact ⟨(fun _ e => by cases e), (fun _ => rfl)⟩
  | p :: r, kws, h => by
    obtain ⟨v, t, rfl, r1, q⟩ := h.inv
    by_cases hk : p.1 = k
    · have e1 : dLook (p :: r) k = some p.2 := by simp [dLook, List.find?_cons, hk]
      have e2 : valV ((p.1, v) :: t) k = some v := valV_pos hk
      rw [e1, e2]
      exact ⟨(fun d e => ⟨v, rfl, Option.some.inj e ▸ r1⟩), (fun e => by cases e)⟩
    · have e1 : dLook (p :: r) k = dLook r k := by simp [dLook, List.find?_cons, hk]
      have e2 : valV ((p.1, v) :: t) k = valV t k := valV_neg hk
      rw [e1, e2]
      exact KR.look q
theorem KR.putMap {k : Key} {d : D} {v : V} (hd : Rep K β H d v) : ∀ {kvs : List (Key × D)} {kws : List (Key × V)}, KR K β H kvs kws → KR K β H (kvs.map fun kv => if kv.1 = k then (kv.1, d) else kv) (kws.map fun kv => if kv.1 = k then (kv.1, v) else kv)
  | [], kws, h => by
    have : kws = [] := List.length_eq_zero_iff.mp h.length.symm
    subst this
    exact .nil
  | p :: r, kws, h => by
    obtain ⟨w, t, rfl, r1, q⟩ := h.inv
    rw [List.map_cons, List.map_cons]
    by_cases hk : p.1 = k
    · rw [if_pos hk, if_pos (show (p.1, w).1 = k from hk)]
      exact KR.cons hd (KR.putMap hd q)
    · rw [if_neg hk, if_neg (show ¬ (p.1, w).1 = k from hk)]
      exact KR.cons (k := p.1) (d := p.2) r1 (KR.putMap hd q)
theorem KR.app {k : Key} {d : D} {v : V} (hd : Rep K β H d v) {kvs : List (Key × D)} {kws : List (Key × V)} (h : KR K β H kvs kws) : KR K β H (kvs ++ [(k, d)]) (kws ++ [(k, v)]) :=
  ⟨by rw [List.map_append, List.map_append, h.1]; rfl, by rw [List.map_append, List.map_append]; exact h.2.append (Reps.one hd)⟩
theorem KR.any {k : Key} {kvs : List (Key × D)} {kws : List (Key × V)} (h : KR K β H kvs kws) : (kws.any fun kv => decide (kv.1 = k)) = kvs.any fun kv => decide (kv.1 = k) := by
  have e1 : (kws.any fun kv => decide (kv.1 = k)) = (kws.map (·.1)).any fun x => decide (x = k) := by rw [List.any_map]; rfl
  have e2 : (kvs.any fun kv => decide (kv.1 = k)) = (kvs.map (·.1)).any fun x => decide (x = k) := by rw [List.any_map]; rfl
  rw [e1, e2, h.1]
theorem KR.put {k : Key} {d : D} {v : V} (hd : Rep K β H d v) {kvs : List (Key × D)} {kws : List (Key × V)} (h : KR K β H kvs kws) : KR K β H (dPut kvs k d) (putK kws k v) := by
  unfold dPut putK
  rw [h.any]
  split
  · exact KR.putMap hd h
  · exact KR.app hd h
theorem cl_dPut {n : Nat} {k : Key} {d : D} {kvs : List (Key × D)} (h : clL n (kvs.map (·.2)) = true) (c : d.cl n = true) : clL n ((dPut kvs k d).map (·.2)) = true := by
  unfold dPut
  split
  · refine clL_of fun z hz => ?_
    rw [List.map_map] at hz
    obtain ⟨p, hp, e⟩ := List.mem_map.mp hz
    by_cases hk : p.1 = k
    · have : z = d := by rw [← e]; simp [hk]
      rw [this]
      exact c
    · have : z = p.2 := by rw [← e]; simp [hk]
      rw [this]
      exact clL_mem h _ (List.mem_map.mpr ⟨p, hp, rfl⟩)
  · rw [List.map_append]
    exact clL_app h (clL_one c)
theorem Sim.dic {d : D} {v : V} {kvs : List (Key × D)} (s : Sim K β S H) (e : dicOf S d = some kvs) (r : Rep K β H d v) : ∃ a kws, v = .ref a ∧ Rd H a (.dK kws) ∧ KR K β H kvs kws ∧ clL S.length (kvs.map (·.2)) = true := by
  cases d with
  | ref i =>
    obtain ⟨o, q, e⟩ := bind_some (show (S[i]?).bind SO.dic? = some kvs from e)
    cases o with
    | dct l =>
      cases e
      obtain ⟨kws, h, r1, r2⟩ := s.cell i _ q
      exact ⟨β i, kws, r, .inl h, ⟨r1, r2⟩, s.cl i _ q⟩
    | fdc l =>
      cases e
      obtain ⟨o, kws, h, r1, r2⟩ := s.cell i _ q
      exact ⟨β i, kws, r, .inr ⟨o, h⟩, ⟨r1, r2⟩, s.cl i _ q⟩
    | lst l => cases e
    | fro l => cases e
    | tbl l => cases e
  | _ => cases e
theorem keyD_ok {d : D} {v : V} {k : Key} (e : keyD d = some k) (r : Rep K β H d v) : v = kV k := by
  cases d with
  | int i => cases e; exact r
  | str i => cases e; exact r
  | _ => cases e
theorem dLook_mem {kvs : List (Key × D)} {k : Key} {d : D} (e : dLook kvs k = some d) : d ∈ kvs.map (·.2) := by
  unfold dLook at e
  obtain ⟨p, h1, h2⟩ := map_some e
  exact List.mem_map.mpr ⟨p, List.mem_of_find?_eq_some h1, h2⟩
theorem es_dic : ES K φ tDNewK .dic := by
  intro base β env S σ H Q d S' e s r k
  cases e
  intro p hp
  obtain ⟨s', g⟩ := s.add (base := base) (u := .dK []) (o := .dct []) hp rfl ⟨[], upd_same, rfl, rfl⟩
  refine k _ _ _ g s' ?_ (decide_eq_true (by simp))
  show V.ref p = .ref (ext β S.length p S.length)
  rw [ext_eq]
theorem es_dix {ta tb : TE} {a b : Ex} (ha : ES K φ ta a) (hb : ES K φ tb b) : ES K φ (tDGet ta tb) (.dix a b) := by
  intro base β env S σ H Q d S' e s r k
  rw [evE] at e
  obtain ⟨v, S3, e1, hg⟩ := gc_some e
  rcases h1 : evE φ S.length env a S with _ | ⟨x, S1⟩
  · rw [h1] at e1; cases e1
  · rw [h1] at e1
    simp only at e1
    rcases h2 : evE φ S.length env b S1 with _ | ⟨y, S2⟩
    · rw [h2] at e1; cases e1
    · rw [h2] at e1
      simp only at e1
      obtain ⟨z, e2, e3⟩ := map_some e1
      cases e3
      refine ES.two ha hb h1 h2 s r fun β2 u w H2 g s2 rx ry cx cy => ?_
      obtain ⟨kvs, q1, q2⟩ := bind_some e2
      obtain ⟨key, q3, q4⟩ := bind_some q2
      obtain ⟨p, kws, rfl, hr, kr, ck⟩ := s2.dic q1 rx
      obtain ⟨w', hw, rw'⟩ := (kr.look (k := key)).1 _ q4
      refine ⟨p, w', rfl, .inl ⟨kws, key, hr, keyD_ok q3 ry, hw.symm⟩, ?_⟩
      exact (k.fin hg s g).here s2 rw' (clL_mem ck _ (dLook_mem q4))
end
end Z
end
section
set_option Elab.async false
set_option linter.all false
set_option autoImplicit false
/-! what is walked, comprehensions -/
namespace Z
open PySem L2

section
variable {K : PySem.W.Frag} {φ : Phi} {β β1 β2 : Nat → Addr} {H H1 H2 : Hp} {S S' S1 S2 : Sto} {base : Nat}

theorem isD_of {d : D} {kvs : List (Key × D)} {v : V} (s : Sim K β S H) (e : dicOf S d = some kvs) (r : Rep K β H d v) : ∃ a, v = .ref a ∧ IsD H a := by
  obtain ⟨a, kws, e1, h, _⟩ := s.dic e r
  exact ⟨a, e1, .inl ⟨kws, h⟩⟩
theorem es_dgt {ta tb tc : TE} {a b c : Ex} (ha : ES K φ ta a) (hb : ES K φ tb b) (hc : ES K φ tc c) : ES K φ (tDGet2 ta tb tc) (.dgt a b c) := by
  intro base β env S σ H Q d S' e s r k
  rw [evE] at e
  obtain ⟨v, S4, e1, hg⟩ := gc_some e
  rcases h1 : evE φ S.length env a S with _ | ⟨x, S1⟩
  · rw [h1] at e1; cases e1
  · rw [h1] at e1
    simp only at e1
    by_cases hd : (dicOf S1 x).isSome = true
    · rw [if_pos hd] at e1
      rcases h2 : evE φ S.length env b S1 with _ | ⟨y, S2⟩
      · rw [h2] at e1; cases e1
      · rw [h2] at e1
        simp only at e1
        rcases h3 : evE φ S.length env c S2 with _ | ⟨z, S3⟩
        · rw [h3] at e1; cases e1
        · rw [h3] at e1
          simp only at e1
          obtain ⟨w0, e2, e3⟩ := map_some e1
          cases e3
          refine ha _ β env S σ H _ x S1 h1 s r fun β1 u H1 g1 s1 r1 c1 => ?_
          cases q0 : dicOf S1 x with
          | none => rw [q0] at hd; cases hd
          | some kv0 =>
            obtain ⟨p, rfl, hD⟩ := isD_of s1 q0 r1
            refine ⟨p, rfl, hD, hb _ β1 env S1 σ H1 _ y S2 h2 s1 (r.gr g1) fun β2 u2 H2 g2 s2 r2 c2 => ?_⟩
            refine hc _ β2 env S2 σ H2 _ z _ h3 s2 (r.gr (g1.trans g2)) fun β3 u3 H3 g3 s3 r3 c3 => ?_
            obtain ⟨kvs, q1, q2⟩ := bind_some e2
            obtain ⟨key, q3, q4⟩ := map_some q2
            obtain ⟨p', kws, ep, hr, kr, ck⟩ := s3.dic q1 ((g2.trans g3).rep r1 c1)
            cases ep
            have fin := k.fin hg s ((g1.trans g2).trans g3)
            cases ql : dLook kvs key with
            | some dd =>
              obtain ⟨w', hw, rw'⟩ := (kr.look (k := key)).1 _ ql
              rw [ql] at q4
              cases q4
              exact ⟨some w', .inl ⟨kws, key, hr, keyD_ok q3 (g3.rep r2 c2), hw.symm⟩, fin.here s3 rw' (clL_mem ck _ (dLook_mem ql))⟩
            | none =>
              have hw := (kr.look (k := key)).2 ql
              rw [ql] at q4
              cases q4
              exact ⟨none, .inl ⟨kws, key, hr, keyD_ok q3 (g3.rep r2 c2), hw.symm⟩, fin.here s3 r3 c3⟩
    · rw [if_neg hd] at e1
      cases e1

/-! ### equal by look is equal -/
mutual
theorem D.beq_eq : ∀ (a b : D), a.beq b = true → a = b
  | .non, b, h => by cases b <;> first | rfl | cases h
  | .bl x, b, h => by
    cases b with
    | bl y => rw [eq_of_beq (show (x == y) = true from h)]
    | _ => cases h
  | .int x, b, h => by
    cases b with
    | int y => rw [eq_of_beq (show (x == y) = true from h)]
    | _ => cases h
  | .str x, b, h => by
    cases b with
    | str y => rw [eq_of_beq (show (x == y) = true from h)]
    | _ => cases h
  | .ref x, b, h => by
    cases b with
    | ref y => rw [eq_of_beq (show (x == y) = true from h)]
    | _ => cases h
  | .tup x, b, h => by
    cases b with
    | tup y => rw [beqL_eq x y h]
    | _ => cases h
theorem beqL_eq : ∀ (a b : List D), beqL a b = true → a = b
  | [], b, h => by
    cases b with
    | nil => rfl
    | cons y b => cases h
  | x :: a, b, h => by
    cases b with
    | nil => cases h
    | cons y b =>
      have h' : (x.beq y && beqL a b) = true := h
      rw [Bool.and_eq_true] at h'
      rw [D.beq_eq x y h'.1, beqL_eq a b h'.2]
end
mutual
theorem D.beq_refl : ∀ (a : D), a.beq a = true
  | .non => rfl
  | .bl x => beq_self_eq_true x
  | .int x => beq_self_eq_true x
  | .str x => beq_self_eq_true x
  | .ref x => beq_self_eq_true x
  | .tup x => beqL_refl x
theorem beqL_refl : ∀ (a : List D), beqL a a = true
  | [] => rfl
  | x :: a => by
    show (x.beq x && beqL a a) = true
    rw [D.beq_refl x, beqL_refl a]
    rfl
end

/-! ### what is walked -/
theorem wlk_list {i : Nat} {xs : List D} (hi : i < S.length) : Wlk K (Itl K (β i)) β S H (some i) xs := by
  intro b β' S' H' g s st
  unfold still at st
  simp only at st
  cases q : (S'[i]?).bind SO.seq? with
  | none => rw [q] at st; cases st
  | some ys =>
    rw [q] at st
    have e := beqL_eq ys xs st
    subst e
    obtain ⟨vs, h, rs, cs⟩ := s.seq q
    rw [g.same i hi] at h
    refine ⟨fun j hj => ⟨vs, h, by rw [← rs.length]; exact hj⟩, fun j x hx => ?_⟩
    obtain ⟨v, hv, rv⟩ := rs.get hx
    exact ⟨⟨vs, v, h, hv⟩, fun w H2 ⟨e1, e2⟩ => ⟨e1, by
      have := e2 vs h
      rw [hv] at this
      cases this
      exact rv⟩⟩
theorem wlk_tup {a : Addr} {xs : List D} {vs : List V} (h : SqT K H a vs) (rs : Reps K β H xs vs) (cs : clL S.length xs = true) : Wlk K (Itt K a) β S H none xs := by
  intro b β' S' H' g s st
  have h' := g.tk.r.sqT h
  have rs' := g.reps rs cs
  refine ⟨fun j hj => ⟨vs, h', by rw [← rs.length]; exact hj⟩, fun j x hx => ?_⟩
  obtain ⟨v, hv, rv⟩ := rs'.get hx
  exact ⟨⟨vs, v, h', hv⟩, fun w H2 ⟨e1, e2⟩ => ⟨e1, by
    have := e2 vs h'
    rw [hv] at this
    cases this
    exact rv⟩⟩
theorem rgI_length : ∀ (n : Nat) (lo : Int), (rgI lo n).length = n
  | 0, _ => rfl
  | n + 1, lo => by rw [rgI, List.length_cons, rgI_length n]
theorem rgI_get : ∀ (n : Nat) (lo : Int) (i : Nat) (x : D), (rgI lo n)[i]? = some x → x = .int (lo + i) ∧ i < n
  | 0, lo, i, x, h => by simp [rgI] at h
  | n + 1, lo, 0, x, h => by
    simp only [rgI, List.getElem?_cons_zero, Option.some.injEq] at h
    exact ⟨by rw [← h]; simp, by omega⟩
  | n + 1, lo, i + 1, x, h => by
    simp only [rgI, List.getElem?_cons_succ] at h
    obtain ⟨e, l⟩ := rgI_get n (lo + 1) i x h
    refine ⟨?_, by omega⟩
    rw [e]
    congr 1
    omega
theorem rgI_cl {m : Nat} : ∀ (n : Nat) (lo : Int), clL m (rgI lo n) = true
  | 0, _ => rfl
  | n + 1, lo => rgI_cl n (lo + 1)
theorem wlk_rng {lo : Int} {n : Nat} : Wlk K (Itr lo n) β S H none (rgI lo n) := by
  intro b β' S' H' g s st
  refine ⟨fun j hj => by rw [rgI_length] at hj; exact hj, fun j x hx => ?_⟩
  obtain ⟨rfl, hl⟩ := rgI_get n lo j x hx
  exact ⟨hl, fun w H2 ⟨e1, e2⟩ => ⟨e1, e2⟩⟩
theorem ei_ex {te : TE} {c : Ex} (h : ES K φ te c) : EI K φ (fun σ H R => iList K te σ H R ∨ iTup K te σ H R) (.ex c) := by
  intro base β env S σ H R xs ho S' e s r q
  rw [evI] at e
  rcases h1 : evE φ base env c S with _ | ⟨x, S1⟩
  · rw [h1] at e; cases e
  · rw [h1] at e
    simp only at e
    obtain ⟨⟨p1, p2⟩, e1, e2⟩ := map_some e
    cases e2
    cases x with
    | tup ds =>
      cases e1
      refine .inr (h base β env S σ H _ _ _ h1 s r fun β1 v H1 g1 s1 r1 c1 => ?_)
      obtain ⟨a, vs, rfl, hq, rs⟩ := (show ∃ a vs, v = .ref a ∧ SqT K H1 a vs ∧ Reps K β1 H1 _ vs from r1)
      exact ⟨a, rfl, ⟨vs, hq⟩, q β1 _ H1 g1 s1 c1 (wlk_tup hq rs c1)⟩
    | ref i =>
      obtain ⟨ys, q1, q2⟩ := map_some (show ((S'[i]?).bind SO.seq?).map (fun xs => (xs, some i)) = some (p1, p2) from e1)
      cases q2
      refine .inl (h base β env S σ H _ _ _ h1 s r fun β1 v H1 g1 s1 r1 c1 => ?_)
      cases (show v = .ref (β1 i) from r1)
      obtain ⟨vs, hq, rs, cs⟩ := s1.seq q1
      exact ⟨β1 i, rfl, ⟨vs, hq⟩, q β1 _ H1 g1 s1 cs (wlk_list (of_decide_eq_true c1))⟩
    | _ => cases e1
theorem ei_rng1 {te : TE} {c : Ex} (h : ES K φ te c) : EI K φ (iRng1 (tCons te tNil)) (.rng1 c) := by
  intro base β env S σ H R xs ho S' e s r q
  rw [evI] at e
  rcases h1 : evE φ base env c S with _ | ⟨x, S1⟩
  · rw [h1] at e; cases e
  · rw [h1] at e
    cases x with
    | int j =>
      simp only at e
      obtain ⟨cj, e⟩ := ite_some e
      cases e
      obtain ⟨b1, b2⟩ := rgOk_iff cj
      refine h base β env S σ H _ _ _ h1 s r fun β1 v H1 g1 s1 r1 c1 => ?_
      cases (show v = .int j from r1)
      exact ⟨j, rfl, b1, b2, q β1 _ H1 g1 s1 (rgI_cl _ _) wlk_rng⟩
    | _ => cases e
theorem ei_rng2 {ta tb : TE} {a b : Ex} (ha : ES K φ ta a) (hb : ES K φ tb b) : EI K φ (iRng2 (tCons ta (tCons tb tNil))) (.rng2 a b) := by
  intro base β env S σ H R xs ho S' e s r q
  rw [evI] at e
  rcases h1 : evE φ base env a S with _ | ⟨x, S1⟩
  · rw [h1] at e; cases e
  · rw [h1] at e
    cases x with
    | int i =>
      simp only at e
      rcases h2 : evE φ base env b S1 with _ | ⟨y, S2⟩
      · rw [h2] at e; cases e
      · rw [h2] at e
        cases y with
        | int j =>
          simp only at e
          obtain ⟨cj, e⟩ := ite_some e
          cases e
          rw [Bool.and_eq_true] at cj
          obtain ⟨b1, b2⟩ := rgOk_iff cj.1
          obtain ⟨b3, b4⟩ := rgOk_iff cj.2
          refine ES.two ha hb h1 h2 s r fun β2 u w H2 g s2 rx ry cx cy => ?_
          cases (show u = .int i from rx)
          cases (show w = .int j from ry)
          exact ⟨i, j, rfl, ⟨b1, b2, b3, b4⟩, q β2 _ H2 g s2 (rgI_cl _ _) wlk_rng⟩
        | _ => cases e
    | _ => cases e

/-! ### a thing beside the store -/
theorem Sim.side {p : Addr} {u : HO} (s : Sim K β S H) (hp : H p = none) : Sim K β S (upd H p u) ∧ Gr base β S H β S (upd H p u) := by
  have t : TupK H (upd H p u) := TupK.new hp
  have ne : ∀ i o, S[i]? = some o → β i ≠ p := fun i o e z => by
    obtain ⟨w, e1, _⟩ := (s.cell i o e).there
    rw [z, hp] at e1
    cases e1
  refine ⟨⟨fun i o' e => (s.cell i o' e).tk t.r (fun _ _ => rfl) (s.cl i o' e) rfl (upd_ne (ne i o' e)), s.cl, s.inj⟩, ⟨Nat.le_refl _, fun _ _ => rfl, fun a o' e _ => by rw [upd_ne (ne_of_none e hp)]; exact e, fun a o' e => ?_, fun i h1 h2 => absurd h2 (by omega), fun i hi n o1 o2 e1 e2 c1 => ?_, t⟩⟩
  · by_cases ha : a = p
    · subst ha
      exact ⟨_, upd_same⟩
    · exact ⟨o', by rw [upd_ne ha]; exact e⟩
  · rw [e1] at e2
    cases e2
    exact c1
/-- it changes -/
theorem Sim.side2 {p : Addr} {xs : List V} {u : HO} (s : Sim K β S H) (hp : H p = some (.lst xs)) (ne : ∀ i, i < S.length → β i ≠ p) : Sim K β S (upd H p u) := by
  have t : TupK H (upd H p u) := TupK.set hp (fun _ z => by cases z) (fun _ _ z => by cases z) (fun _ z => by cases z)
  exact ⟨fun i o' e => (s.cell i o' e).tk t.r (fun _ _ => rfl) (s.cl i o' e) rfl (upd_ne (ne i (List.getElem?_eq_some_iff.mp e).1)), s.cl, s.inj⟩
/-- of what was there ahead of it nothing is seen -/
theorem Gr.side {p : Addr} {u : HO} (g : Gr base β S H β1 S1 H1) (hp : H p = none) (hq : ∃ xs, H1 p = some (.lst xs)) : Gr base β S H β1 S1 (upd H1 p u) := by
  obtain ⟨xs, hq⟩ := hq
  have ne : ∀ a o, H a = some o → a ≠ p := fun a o e z => by rw [z, hp] at e; cases e
  refine ⟨g.len, g.same, fun a o e h => by rw [upd_ne (ne a o e)]; exact g.fr a o e h, fun a o e => ?_, g.new, g.tm, ⟨fun a vs e => by rw [upd_ne (ne a _ e)]; exact g.tk.tup a vs e, fun a o w e => by rw [upd_ne (ne a _ e)]; exact g.tk.frz a o w e, fun a φ e => by rw [upd_ne (ne a _ e)]; exact g.tk.ext a φ e⟩⟩
  obtain ⟨o', e'⟩ := g.trk a o e
  exact ⟨o', by rw [upd_ne (ne a o e)]; exact e'⟩
/-- at last it becomes a thing of the store -/
theorem Sim.adopt {p : Addr} {xs : List D} {vs : List V} (s : Sim K β S H) (hp : H p = some (.lst vs)) (ne : ∀ i, i < S.length → β i ≠ p) (r : Reps K β H xs vs) (c : clL S.length xs = true) : Sim K (ext β S.length p) (S ++ [.lst xs]) H := by
  have same : ∀ i, i < S.length → ext β S.length p i = β i := fun i h => ext_lt h
  refine ⟨fun i o' e => ?_, fun i o' e => ?_, fun i j hi hj e => ?_⟩
  · rcases get_app e with ⟨hi, e⟩ | ⟨rfl, rfl⟩
    · exact (s.cell i o' e).tk TupR.refl same (s.cl i o' e) (same i hi) rfl
    · refine ⟨vs, ?_, Reps.tk TupR.refl same xs vs c r⟩
      rw [ext_eq]
      exact hp
  · rw [List.length_append]
    rcases get_app e with ⟨hi, e⟩ | ⟨rfl, rfl⟩
    · exact SO.cl_mono (Nat.le_add_right _ _) (s.cl i o' e)
    · exact clL_mono (Nat.le_add_right _ _) xs c
  · rw [List.length_append, List.length_singleton] at hi hj
    by_cases h1 : i < S.length
    · by_cases h2 : j < S.length
      · rw [same i h1, same j h2] at e
        exact s.inj i j h1 h2 e
      · have : j = S.length := by omega
        subst this
        rw [same i h1, ext_eq] at e
        exact absurd e (ne i h1)
    · have : i = S.length := by omega
      subst this
      by_cases h2 : j < S.length
      · rw [same j h2, ext_eq] at e
        exact absurd e.symm (ne j h2)
      · omega
theorem Gr.adopt {p : Addr} {o : SO} (g : Gr base β S H β1 S1 H1) (hp : H p = none) : Gr base β S H (ext β1 S1.length p) (S1 ++ [o]) H1 := by
  have same : ∀ i, i < S1.length → ext β1 S1.length p i = β1 i := fun i h => ext_lt h
  refine ⟨by rw [List.length_append]; exact Nat.le_trans g.len (Nat.le_add_right _ _), fun i h => (same i (Nat.lt_of_lt_of_le h g.len)).trans (g.same i h), g.fr, g.trk, fun i h1 h2 => ?_, fun i hi n o1 o2 e1 e2 c1 => ?_, g.tk⟩
  · rw [List.length_append, List.length_singleton] at h2
    by_cases h3 : i < S1.length
    · rw [same i h3]
      exact g.new i h1 h3
    · have : i = S1.length := by omega
      subst this
      rw [ext_eq]
      exact hp
  · have h1 := Nat.lt_of_lt_of_le (List.getElem?_eq_some_iff.mp e1).1 g.len
    rw [List.getElem?_append_left h1] at e2
    exact g.tm i hi n o1 o2 e1 e2 c1

/-! ### targets -/
theorem wipe_len (σ : L2.St) : ∀ is : List Nat, (wipe σ is).length = σ.length := wipe_length σ
theorem wipe_get {σ : L2.St} {j : Nat} : ∀ {is : List Nat}, (wipe σ is)[j]? = if j ∈ is then (if j < σ.length then some none else none) else σ[j]?
  | [] => by simp [wipe]
  | i :: is => by
    show ((wipe σ is).set i none)[j]? = _
    by_cases hij : i = j
    · subst hij
      by_cases hl : i < σ.length
      · rw [List.getElem?_set_self (by rw [wipe_length]; exact hl)]
        simp [hl]
      · rw [List.getElem?_eq_none (by rw [List.length_set, wipe_length]; omega)]
        simp [hl]
    · rw [List.getElem?_set_ne hij, wipe_get (is := is)]
      have : (j ∈ i :: is) ↔ j ∈ is := by simp [Ne.symm hij]
      by_cases h : j ∈ is <;> simp [h, Ne.symm hij]
theorem wipe_set {σ : L2.St} {i : Nat} {v : V} {is : List Nat} (h : i ∈ is) : wipe (σ.set i (some v)) is = wipe σ is := by
  apply List.ext_getElem?
  intro j
  rw [wipe_get, wipe_get, List.length_set]
  by_cases hj : j ∈ is
  · rw [if_pos hj, if_pos hj]
  · rw [if_neg hj, if_neg hj, List.getElem?_set_ne (fun e => hj (by rw [← e]; exact h))]
theorem wipe_wipe {σ : L2.St} {is : List Nat} : wipe (wipe σ is) is = wipe σ is := by
  apply List.ext_getElem?
  intro j
  rw [wipe_get, wipe_get, wipe_length]
  by_cases hj : j ∈ is
  · rw [if_pos hj, if_pos hj]
  · rw [if_neg hj, if_neg hj]
/-- a target's store -/
def EG (K : PySem.W.Frag) (t : TG) (g : Tg) : Prop := ∀ (β : Nat → Addr) (env env2 : Ev) (n : Nat) (σ : L2.St) (H : Hp) (d : D) (v : V) (own : List Nat) (Q : L2.St → Hp → Prop),
  tgF g env d = some env2 → EnvR K β H n env σ → Rep K β H d v → d.cl n = true → (∀ σ2, EnvR K β H n env2 σ2 → (tgIn own g = true → wipe σ2 own = wipe σ own) → Q σ2 H) → t v σ H Q
theorem eg_all (K : PySem.W.Frag) : ∀ (is : List Nat) (ds : List D) (vs : List V) (β : Nat → Addr) (env env2 : Ev) (n : Nat) (σ : L2.St) (H : Hp) (own : List Nat) (Q : L2.St → Hp → Prop),
    setAll env is ds = some env2 → EnvR K β H n env σ → Reps K β H ds vs → clL n ds = true → (∀ σ2, EnvR K β H n env2 σ2 → (is.all own.contains = true → wipe σ2 own = wipe σ own) → Q σ2 H) → (is.foldr (fun i t => gCons (gName i) t) gNil) vs σ H Q
  | [], [], vs, β, env, env2, n, σ, H, own, Q, e, r, rs, c, q => by
    cases e
    exact ⟨rs, q σ r fun _ => rfl⟩
  | i :: is, d :: ds, vs, β, env, env2, n, σ, H, own, Q, e, r, rs, c, q => by
    obtain ⟨x, w, rfl, r1, r2⟩ := (show ∃ x w, vs = x :: w ∧ Rep K β H d x ∧ Reps K β H ds w from rs)
    have c' : (d.cl n && clL n ds) = true := c
    rw [Bool.and_eq_true] at c'
    refine ⟨x, w, rfl, ?_⟩
    refine eg_all K is ds w β (env.set i (some d)) env2 n (σ.set i (some x)) H own Q e (r.set i c'.1 r1) r2 c'.2 fun σ2 h2 hw => q σ2 h2 fun hall => ?_
    rw [List.all_cons, Bool.and_eq_true] at hall
    rw [hw hall.2]
    exact wipe_set (by simpa using hall.1)
  | [], _ :: _, vs, β, env, env2, n, σ, H, own, Q, e, r, rs, c, q => by cases e
  | _ :: _, [], vs, β, env, env2, n, σ, H, own, Q, e, r, rs, c, q => by cases e
theorem setAll_len : ∀ {is : List Nat} {ds : List D} {env env2 : Ev}, setAll env is ds = some env2 → is.length = ds.length
  | [], [], _, _, _ => rfl
  | i :: is, d :: ds, env, env2, e => by
    rw [List.length_cons, List.length_cons, setAll_len (show setAll (env.set i (some d)) is ds = some env2 from e)]
  | [], _ :: _, _, _, e => by cases e
  | _ :: _, [], _, _, e => by cases e
theorem eg (g : Tg) : EG K (rdG K g) g := by
  intro β env env2 n σ H d v own Q e r rv c q
  cases g with
  | nm i =>
    cases e
    exact q _ (r.set i c rv) fun h => wipe_set (by simpa [tgIn] using h)
  | tp is =>
    cases d with
    | tup ds =>
      obtain ⟨a, vs, rfl, h, rs⟩ := (show ∃ a vs, v = .ref a ∧ SqT K H a vs ∧ Reps K β H ds vs from rv)
      have e' : setAll env is ds = some env2 := e
      refine ⟨a, vs, rfl, h, by rw [← rs.length, setAll_len e'], ?_⟩
      exact eg_all K is ds vs β env env2 n σ H own Q e' r rs c q
    | _ => cases e
end
end Z
end
section
set_option Elab.async false
set_option linter.all false
set_option autoImplicit false
/-! comprehensions -/
namespace Z
open PySem L2

section
variable {K : PySem.W.Frag} {φ : Phi} {β β1 β2 : Nat → Addr} {H H1 H2 : Hp} {S S' S1 S2 : Sto} {base n : Nat}

/-- one turn: the test, the item -/
def elF (φ : Phi) (n : Nat) (c : Ox) (e : Ex) (env2 : Ev) (S2 : Sto) : Option (Option D × Sto) := match evO φ n env2 c S2 with
  | some (t, S3) => (match t with
    | none => (match evE φ n env2 e S3 with
      | some (y, S4) => some (some y, S4)
      | none => none)
    | some t => (match truF S3 t with
      | some true => (match evE φ n env2 e S3 with
        | some (y, S4) => some (some y, S4)
        | none => none)
      | some false => some (none, S3)
      | none => none))
  | none => none
theorem el_ok {tt : TT} {te : TE} {c : Ox} {e : Ex} {env2 : Ev} {σ2 : L2.St} {o : Option D} {Y : V → Hp → Prop} {N : Hp → Prop} (hc : EC K φ tt c) (he : ES K φ te e) (h : elF φ n c e env2 S = some (o, S')) (s : Sim K β S H) (r : EnvR K β H S.length env2 σ2)
    (hy : ∀ y, o = some y → Kt K n β S H S' y Y) (hn : o = none → ∀ (β' : Nat → Addr) (H' : Hp), Gr n β S H β' S' H' → Sim K β' S' H' → N H') :
    tt σ2 H fun b H3 => if b = true then te σ2 H3 Y else N H3 := by
  unfold elF at h
  rcases h1 : evO φ n env2 c S with _ | ⟨t, S3⟩
  · rw [h1] at h; cases h
  · rw [h1] at h
    have yes : ∀ (k0 : tstO S3 t = some true), (match evE φ n env2 e S3 with
        | some (y, S4) => some (some y, S4)
        | none => none) = some (o, S') → tt σ2 H fun b H3 => if b = true then te σ2 H3 Y else N H3 := fun k0 h2 => by
      rcases h3 : evE φ n env2 e S3 with _ | ⟨y, S4⟩
      · rw [h3] at h2; cases h2
      · rw [h3] at h2
        cases h2
        refine hc n β env2 S σ2 H _ t true S3 h1 k0 s r fun β1 H1 g1 s1 => ?_
        rw [if_pos rfl]
        exact he n β1 env2 S3 σ2 H1 Y y _ h3 s1 (r.gr g1) fun β2 w H2 g2 s2 r2 c2 => hy y rfl β2 w H2 (g1.trans g2) s2 r2 c2
    cases t with
    | none => exact yes rfl h
    | some d =>
      simp only at h
      cases q : truF S3 d with
      | none => rw [q] at h; cases h
      | some b =>
        rw [q] at h
        cases b with
        | true => exact yes q h
        | false =>
          cases h
          refine hc n β env2 S σ2 H _ (some d) false _ h1 q s r fun β1 H1 g1 s1 => ?_
          rw [if_neg Bool.false_ne_true]
          exact hn rfl β1 H1 g1 s1

/-- what is walked, by a word about the store -/
def Wk (K : PySem.W.Frag) (J : L2.It) (β : Nat → Addr) (S : Sto) (H : Hp) (ok : Sto → Bool) (xs : List D) : Prop :=
  ∀ (base : Nat) (β' : Nat → Addr) (S' : Sto) (H' : Hp), Gr base β S H β' S' H' → Sim K β' S' H' → ok S' = true →
    (∀ i, xs.length ≤ i → J.stop i H') ∧ ∀ i x, xs[i]? = some x → J.go i H' ∧ ∀ v H2, J.yld i H' v H2 → H2 = H' ∧ Rep K β' H' x v
theorem drop_get {α : Type} {xs : List α} {i : Nat} {d : α} {ds : List α} (h : xs.drop i = d :: ds) : xs[i]? = some d ∧ xs.drop (i + 1) = ds ∧ i < xs.length := by
  have hl : i < xs.length := by
    by_cases hi : i < xs.length
    · exact hi
    · rw [List.drop_eq_nil_of_le (by omega)] at h
      cases h
  rw [List.drop_eq_getElem_cons hl] at h
  obtain ⟨h1, h2⟩ := List.cons.inj h
  exact ⟨by rw [List.getElem?_eq_getElem hl, h1], h2, hl⟩
theorem lc_run {J : L2.It} {g : TG} {tt : TT} {te : TE} {vs : List Nat} {σ : L2.St} {step : D → Sto → Option (Option D × Sto)} {ok : Sto → Bool} {xs ys : List D} {Q : VK}
    (hw : Wk K J β1 S1 H1 ok xs) (s1 : Sim K β1 S1 H1) (cx : clL S1.length xs = true) (hl : lcF step ok xs [] S1 = some (ys, S2))
    (hstep : ∀ (d : D) (v : V) (βc : Nat → Addr) (Sc S' : Sto) (Hc : Hp) (o : Option D) (Y : V → Hp → Prop) (N : Hp → Prop), step d Sc = some (o, S') → Gr n β1 S1 H1 βc Sc Hc → Sim K βc Sc Hc → Rep K βc Hc d v → d.cl Sc.length = true →
      (∀ y, o = some y → Kt K n βc Sc Hc S' y Y) → (o = none → ∀ (β' : Nat → Addr) (H' : Hp), Gr n βc Sc Hc β' S' H' → Sim K β' S' H' → N H') →
      g v (wipe σ vs) Hc fun σ2 H2 => wipe σ2 vs = wipe σ vs ∧ tt σ2 H2 fun b H3 => if b = true then te σ2 H3 Y else N H3)
    (hend : ∀ (D0 : Addr) (β2 : Nat → Addr) (H2 : Hp) (ws : List V), H1 D0 = none → Gr n β1 S1 H1 β2 S2 H2 → Sim K β2 S2 H2 → H2 D0 = some (.lst ws) → Reps K β2 H2 ys ws → clL S2.length ys = true → (∀ i, i < S2.length → β2 i ≠ D0) → Q (.ref D0) H2) :
    ∀ D0, H1 D0 = none → ∃ W : Nat → Nat → Hp → Prop, (∃ m, W 0 m (upd H1 D0 (.lst []))) ∧ ∀ i m H, W i m H →
      (J.stop i H ∧ Q (.ref D0) H) ∨ (J.go i H ∧ ∃ Nx : Hp → Prop, (∀ H', Nx H' → ∃ m', m' < m ∧ W (i + 1) m' H') ∧ ∀ x H', J.yld i H x H' → g x (wipe σ vs) H' fun σ2 H2 => wipe σ2 vs = wipe σ vs ∧ tt σ2 H2 fun b H3 =>
        if b = true then te σ2 H3 fun y H4 => ∃ acc, H4 D0 = some (.lst acc) ∧ acc.length < sizeLine ∧ Nx (upd H4 D0 (.lst (acc ++ [y]))) else Nx H3) := by
  intro D0 hD
  let W : Nat → Nat → Hp → Prop := fun i m Hc => ∃ (βc : Nat → Addr) (Sc : Sto) (acc : List D) (ws : List V), m = xs.length - i ∧ i ≤ xs.length ∧ lcF step ok (xs.drop i) acc Sc = some (ys, S2) ∧
    Gr n β1 S1 H1 βc Sc Hc ∧ Sim K βc Sc Hc ∧ Hc D0 = some (.lst ws) ∧ Reps K βc Hc acc ws ∧ clL Sc.length acc = true ∧ ∀ j, j < Sc.length → βc j ≠ D0
  refine ⟨W, ⟨xs.length, β1, S1, [], [], by simp, Nat.zero_le _, hl, (s1.side (base := n) hD).2, (s1.side (base := n) hD).1, upd_same, rfl, rfl, fun j hj z => ?_⟩, ?_⟩
  · obtain ⟨u, hu, _⟩ := (s1.cell j _ (List.getElem?_eq_getElem hj)).there
    rw [z, hD] at hu
    cases hu
  · rintro i m Hc ⟨βc, Sc, acc, ws, rfl, hi, hlc, gc0, sc, hDc, rs, ca, nd⟩
    cases hx : xs.drop i with
    | nil =>
      have hil : xs.length ≤ i := List.drop_eq_nil_iff.mp hx
      rw [hx] at hlc
      unfold lcF at hlc
      obtain ⟨c, e⟩ := ite_some hlc
      cases e
      exact .inl ⟨(hw n βc _ Hc gc0 sc c).1 i hil, hend D0 βc Hc ws hD gc0 sc hDc rs ca nd⟩
    | cons d ds =>
      obtain ⟨hget, hdrop, hlt⟩ := drop_get hx
      rw [hx] at hlc
      unfold lcF at hlc
      by_cases hok : (ok Sc && decide (acc.length < lim)) = true
      · rw [if_pos hok] at hlc
        rw [Bool.and_eq_true] at hok
        obtain ⟨hgo, hyld⟩ := (hw n βc Sc Hc gc0 sc hok.1).2 i d hget
        have cd : d.cl Sc.length = true := D.cl_mono gc0.len d (clL_mem cx d (List.mem_of_getElem? hget))
        refine .inr ⟨hgo, fun H' => ∃ m', m' < xs.length - i ∧ W (i + 1) m' H', fun H' h => h, fun x H' hy => ?_⟩
        obtain ⟨rfl, rx⟩ := hyld x H' hy
        rcases hs : step d Sc with _ | ⟨o, S'⟩
        · rw [hs] at hlc; cases hlc
        · rw [hs] at hlc
          have later : ∀ (β' : Nat → Addr) (H'' : Hp), Gr n βc Sc H' β' S' H'' → H'' D0 = some (.lst ws) ∧ ∀ j, j < S'.length → β' j ≠ D0 := fun β' H'' g => by
            refine ⟨g.fr D0 _ hDc nd, fun j hj z => ?_⟩
            by_cases h : j < Sc.length
            · rw [g.same j h] at z
              exact nd j h z
            · have := g.new j (by omega) hj
              rw [z, hDc] at this
              cases this
          refine hstep d x βc Sc S' H' o _ _ hs gc0 sc rx cd (fun y ho β' w H'' g' s' r' c' => ?_) (fun ho β' H'' g' s' => ?_)
          · subst ho
            simp only at hlc
            obtain ⟨h1, h2⟩ := later β' H'' g'
            refine ⟨ws, h1, ?_, xs.length - (i + 1), by omega, β', S', acc ++ [y], ws ++ [w], rfl, hlt, by rw [hdrop]; exact hlc, (gc0.trans g').side hD ⟨ws, h1⟩, s'.side2 h1 h2, upd_same, ?_, clL_app (g'.cls ca) (clL_one c'), h2⟩
            · rw [← rs.length]
              exact lim_line' (of_decide_eq_true hok.2)
            · have t : TupR H'' (upd H'' D0 (.lst (ws ++ [w]))) := (TupK.set h1 (fun _ z => by cases z) (fun _ _ z => by cases z) (fun _ z => by cases z)).r
              exact Reps.tk t (n := S'.length) (fun _ _ => rfl) _ _ (clL_app (g'.cls ca) (clL_one c')) ((g'.reps rs ca).append (Reps.one r'))
          · subst ho
            simp only at hlc
            obtain ⟨h1, h2⟩ := later β' H'' g'
            exact ⟨xs.length - (i + 1), by omega, β', S', acc, ws, rfl, hlt, by rw [hdrop]; exact hlc, gc0.trans g', s', h1, g'.reps rs ca, g'.cls ca, h2⟩
      · rw [if_neg hok] at hlc
        cases hlc

theorem es_lc {wi : TI} {tt : TT} {te : TE} {own : List Nat} {g : Tg} {it : It} {c : Ox} {e : Ex} (hi : EI K φ wi it) (hc : EC K φ tt c) (he : ES K φ te e) : ES K φ (tLc wi (rdG K g) tt te own) (.lc own g it c e) := by
  intro base β env S σ H Q d S' ev s r k
  rw [evE] at ev
  by_cases hg0 : tgIn own g = true
  · rw [if_pos hg0] at ev
    obtain ⟨v, S3, e1, hg⟩ := gc_some ev
    rcases h1 : evI φ S.length env it S with _ | ⟨xs, h, S1⟩
    · rw [h1] at e1; cases e1
    · rw [h1] at e1
      simp only at e1
      have e2 : (match lcF (fun d S2 => match tgF g (wipeE env own) d with
          | some env2 => elF φ S.length c e env2 S2
          | none => none) (fun S2 => still S2 h xs) xs [] S1 with
        | some (ys, S2) => new S2 (.lst ys)
        | none => none) = some (v, S3) := e1
      rcases h2 : lcF (fun d S2 => match tgF g (wipeE env own) d with
          | some env2 => elF φ S.length c e env2 S2
          | none => none) (fun S2 => still S2 h xs) xs [] S1 with _ | ⟨ys, S2⟩
      · rw [h2] at e2; cases e2
      · rw [h2] at e2
        cases e2
        refine hi S.length β env S σ H _ xs h S1 h1 s r fun β1 J H1 g1 s1 cx hw => ?_
        refine lc_run (n := S.length) (fun base β' S' H' g s st => hw base β' S' H' g s st) s1 cx h2 (fun d v βc Sc S' Hc o Y N hs gc0 sc rx cd hy hn => ?_) (fun D0 β2 H2 ws hD g2 s2 h2 rs2 cs2 nd => ?_)
        · cases q : tgF g (wipeE env own) d with
          | none => simp only [q] at hs; cases hs
          | some env2 =>
            simp only [q] at hs
            have rw0 : EnvR K βc Hc Sc.length (wipeE env own) (wipe σ own) := (r.gr (g1.trans gc0)).wipe own
            refine eg g βc (wipeE env own) env2 Sc.length (wipe σ own) Hc d v own _ q rw0 rx cd fun σ2 r2 hwp => ⟨?_, ?_⟩
            · rw [hwp hg0]
              exact wipe_wipe
            · exact el_ok hc he hs sc r2 hy hn
        · have s3 := s2.adopt h2 nd rs2 cs2
          have g3 : Gr S.length β1 S1 H1 (ext β2 S2.length D0) (S2 ++ [.lst ys]) H2 := g2.adopt hD
          obtain ⟨β', g', s', r', c'⟩ := gc_ok (base := base) (x := .ref D0) hg (g1.trans g3) s s3 (by
            show V.ref D0 = .ref (ext β2 S2.length D0 S2.length)
            rw [ext_eq]) (decide_eq_true (by simp))
          exact k β' _ H2 g' s' r' c'
  · rw [if_neg hg0] at ev
    cases ev
end
end Z
end
section
set_option Elab.async false
set_option linter.all false
set_option autoImplicit false
/-! a comprehension over a dict's keys; statements -/
namespace Z
open PySem L2

section
variable {K : PySem.W.Frag} {φ : Phi} {β β1 β2 : Nat → Addr} {H H1 H2 : Hp} {S S' S1 S2 : Sto} {base n : Nat}

theorem TupR.set {p : Addr} {o u : HO} (h : H p = some u) (h1 : ∀ vs, u ≠ .tup vs) (h2 : ∀ ob w, u ≠ .frz ob (.tup w)) (h3 : ∀ φ, u ≠ .ext φ) : TupR H (upd H p o) :=
  ⟨fun a vs e => (by rw [upd_ne (ne_of e h (fun z => h1 vs z.symm))]; exact e), fun a ob w e => (by rw [upd_ne (ne_of e h (fun z => h2 ob w z.symm))]; exact e), fun a φ e => (by rw [upd_ne (ne_of e h (fun z => h3 φ z.symm))]; exact e)⟩
/-- a thing is written, its old word locked -/
theorem Sim.put2 {i : Nat} {o o' : SO} {u u' : HO} (s : Sim K β S H) (e : S[i]? = some o) (hu : H (β i) = some u) (h1 : ∀ vs, u ≠ .tup vs) (h2 : ∀ ob w, u ≠ .frz ob (.tup w)) (h3 : ∀ φ, u ≠ .ext φ) (ho : o'.cl S.length = true)
    (c : Cell K β (upd H (β i) u') (β i) o') : Sim K β (S.set i o') (upd H (β i) u') := by
  have t : TupR H (upd H (β i) u') := TupR.set hu h1 h2 h3
  have hi := (List.getElem?_eq_some_iff.mp e).1
  refine ⟨fun j oj ej => ?_, fun j oj ej => ?_, fun j k hj hk q => s.inj j k (by simpa using hj) (by simpa using hk) q⟩
  · by_cases hj : i = j
    · subst hj
      rw [List.getElem?_set_self hi] at ej
      cases ej
      exact c
    · rw [List.getElem?_set_ne hj] at ej
      refine (s.cell j oj ej).tk t (fun _ _ => rfl) (s.cl j oj ej) rfl (upd_ne fun z => hj ?_)
      exact (s.inj j i (List.getElem?_eq_some_iff.mp ej).1 hi z).symm
  · rw [List.length_set]
    by_cases hj : i = j
    · subst hj
      rw [List.getElem?_set_self hi] at ej
      cases ej
      exact ho
    · rw [List.getElem?_set_ne hj] at ej
      exact s.cl j oj ej
theorem Gr.unlock {a : Nat} {kvs kvs2 : List (Key × D)} {kws : List (Key × V)} {od : Obj} (e : S[a]? = some (.dct kvs)) (hd : H (β a) = some (.dK kws)) (e2 : S2[a]? = some (.fdc kvs2))
    (g : Gr base β (S.set a (.fdc kvs)) (upd H (β a) (.frz od (.dK kws))) β2 S2 H2) : Gr base β S H β2 (S2.set a (.dct kvs2)) (upd H2 (β a) (.dK kws)) := by
  have ha := (List.getElem?_eq_some_iff.mp e).1
  have ll : (S.set a (.fdc kvs)).length = S.length := List.length_set
  have frh : ∀ x o, x ≠ β a → H x = some o → upd H (β a) (.frz od (.dK kws)) x = some o := fun x o h q => by rw [upd_ne h]; exact q
  refine ⟨?_, fun i h => g.same i (by rw [ll]; exact h), fun x o q h => ?_, fun x o q => ?_, fun i h1 h2 => ?_, fun i hi m o1 o2 q1 q2 c1 => ?_, ⟨fun x vs q => ?_, fun x ob w q => ?_, fun x φ q => ?_⟩⟩
  · have := g.len
    rw [ll] at this
    rw [List.length_set]
    exact this
  · have hx : x ≠ β a := fun z => h a ha z.symm
    rw [upd_ne hx]
    exact g.fr x o (frh x o hx q) fun i hi => h i (by rw [ll] at hi; exact hi)
  · by_cases hx : x = β a
    · exact ⟨_, by rw [hx]; exact upd_same⟩
    · rw [upd_ne hx]
      exact g.trk x o (frh x o hx q)
  · rw [List.length_set] at h2
    have q := g.new i (by rw [ll]; exact h1) h2
    by_cases hx : β2 i = β a
    · rw [hx, upd_same] at q
      cases q
    · rw [upd_ne hx] at q
      exact q
  · by_cases hia : a = i
    · subst hia
      rw [e] at q1
      cases q1
      have hl2 := (List.getElem?_eq_some_iff.mp e2).1
      rw [List.getElem?_set_self hl2] at q2
      cases q2
      exact g.tm a hi m (.fdc kvs) (.fdc kvs2) (List.getElem?_set_self ha) e2 c1
    · rw [List.getElem?_set_ne hia] at q2
      exact g.tm i hi m o1 o2 (by rw [List.getElem?_set_ne hia]; exact q1) q2 c1
  · have hx : x ≠ β a := fun z => by rw [z, hd] at q; cases q
    rw [upd_ne hx]
    exact g.tk.tup x vs (frh x _ hx q)
  · have hx : x ≠ β a := fun z => by rw [z, hd] at q; cases q
    rw [upd_ne hx]
    exact g.tk.frz x ob w (frh x _ hx q)
  · have hx : x ≠ β a := fun z => by rw [z, hd] at q; cases q
    rw [upd_ne hx]
    exact g.tk.ext x φ (frh x _ hx q)
theorem kD_rep (k : Key) : Rep K β H (kD k) (kV k) := by
  cases k <;> rfl
theorem es_lck {tt : TT} {te : TE} {own : List Nat} {i o : Nat} {c : Ox} {e : Ex} (hc : EC K φ tt c) (he : ES K φ te e) : ES K φ (tLockE (tLc (iKeys (tVar o)) (gName i) tt te own)) (.lck own i o c e) := by
  intro base β env S σ H Q d S' ev s r k
  rw [evE] at ev
  by_cases hg0 : own.contains i = true
  · rw [if_pos hg0] at ev
    cases hv : getV env o with
    | none => rw [hv] at ev; cases ev
    | some x =>
      rw [hv] at ev
      cases x with
      | ref a =>
        simp only at ev
        cases hS : S[a]? with
        | none => rw [hS] at ev; cases ev
        | some so =>
          rw [hS] at ev
          cases so with
          | dct kvs =>
            simp only at ev
            obtain ⟨v, S3, e1, hg⟩ := gc_some ev
            have e2 : (match lcF (fun d S2 => elF φ S.length c e ((wipeE env own).set i (some d)) S2) (fun S2 => isFd S2 a (kvs.map fun p => kD p.1)) (kvs.map fun p => kD p.1) [] (S.set a (.fdc kvs)) with
              | some (ys, S2) => unFd a ys S2
              | none => none) = some (v, S3) := e1
            rcases h2 : lcF (fun d S2 => elF φ S.length c e ((wipeE env own).set i (some d)) S2) (fun S2 => isFd S2 a (kvs.map fun p => kD p.1)) (kvs.map fun p => kD p.1) [] (S.set a (.fdc kvs)) with _ | ⟨ys, S2⟩
            · rw [h2] at e2; cases e2
            · rw [h2] at e2
              simp only at e2
              obtain ⟨kws, hd, kr1, kr2⟩ := s.cell a _ hS
              have kr : KR K β H kvs kws := ⟨kr1, kr2⟩
              have ck : clL S.length (kvs.map (·.2)) = true := s.cl a _ hS
              have henv : env[o]? = some (some (.ref a)) := by
                unfold getV at hv
                cases q : env[o]? with
                | none => rw [q] at hv; cases hv
                | some z => rw [q] at hv; exact congrArg some hv
              obtain ⟨_, w, hw, rw0⟩ := r.get o _ henv
              cases (show w = .ref (β a) from rw0)
              refine ⟨β a, .dK kws, hd, True.intro, fun od => ?_⟩
              have tkl : TupR H (upd H (β a) (.frz od (.dK kws))) := TupR.set hd (fun _ z => by cases z) (fun _ _ z => by cases z) (fun _ z => by cases z)
              obtain ⟨sl, gl⟩ := s.put (base := S.length) (o' := .fdc kvs) (u' := .frz od (.dK kws)) hS hd (fun _ z => by cases z) (fun _ _ z => by cases z) (fun _ z => by cases z) ck ⟨od, kws, upd_same, kr1, Reps.tk tkl (n := S.length) (fun _ _ => rfl) _ _ ck kr2⟩ (fun _ m q => q)
              have hlen : (S.set a (.fdc kvs)).length = S.length := List.length_set
              refine ⟨.ref (β a), hw, β a, od, rfl, .inl ⟨kws, upd_same, ?_⟩⟩
              refine lc_run (n := S.length) (J := Itk (β a) od kws) (g := gName i) (tt := tt) (te := te) (vs := own) (σ := σ) (Q := fun v H' => H' (β a) = some (.frz od (.dK kws)) ∧ Q v (upd H' (β a) (.dK kws))) (ok := fun S2 => isFd S2 a (kvs.map fun p => kD p.1)) (xs := kvs.map fun p => kD p.1) (fun b β' S' H' g s' st => ?_) sl (clL_of fun z hz => ?_) h2 (fun d v βc Sc S' Hc o Y N hs gc0 sc rx cd hy hn => ?_) (fun D0 β2 H2 ws hD g2 s2 hD2 rs2 cs2 nd => ?_)
              · have hfz : H' (β a) = some (.frz od (.dK kws)) := g.tk.frz _ _ _ upd_same
                refine ⟨fun j hj => ⟨hfz, by rw [List.length_map, kr.length] at hj; exact hj⟩, fun j x hx => ?_⟩
                rw [List.getElem?_map] at hx
                obtain ⟨p, hp, ex⟩ := map_some hx
                have hj : j < kws.length := by
                  have := (List.getElem?_eq_some_iff.mp hp).1
                  rw [kr.length] at this
                  exact this
                refine ⟨⟨hfz, hj⟩, fun v H2 ⟨q1, kk, vv, q2, q3⟩ => ⟨q1, ?_⟩⟩
                have hk : kk = p.1 := by
                  have z1 : (kws.map (·.1))[j]? = some kk := by rw [List.getElem?_map, q2]; rfl
                  have z2 : (kvs.map (·.1))[j]? = some p.1 := by rw [List.getElem?_map, hp]; rfl
                  rw [kr1, z2] at z1
                  exact (Option.some.inj z1).symm
                rw [← ex, q3, hk]
                exact kD_rep p.1
              · obtain ⟨p, _, ez⟩ := List.mem_map.mp hz
                rw [← ez]
                cases p.1 <;> rfl
              · have rw1 : EnvR K βc Hc Sc.length (wipeE env own) (wipe σ own) := ((r.gr gl).gr gc0).wipe own
                refine ⟨?_, el_ok hc he hs sc (rw1.set i cd rx) hy hn⟩
                rw [wipe_set (by simpa using hg0)]
                exact wipe_wipe
              · have hfz : H2 (β a) = some (.frz od (.dK kws)) := g2.tk.frz _ _ _ upd_same
                refine ⟨hfz, ?_⟩
                unfold unFd at e2
                cases hS2 : S2[a]? with
                | none => rw [hS2] at e2; cases e2
                | some so2 =>
                  rw [hS2] at e2
                  cases so2 with
                  | fdc kvs2 =>
                    cases e2
                    have ba : β2 a = β a := g2.same a (by rw [hlen]; exact (List.getElem?_eq_some_iff.mp hS).1)
                    obtain ⟨o2, kws2, hc2, kr21, kr22⟩ := s2.cell a _ hS2
                    rw [ba, hfz] at hc2
                    cases hc2
                    have ck2 : clL S2.length (kvs2.map (·.2)) = true := s2.cl a _ hS2
                    have tku : TupR H2 (upd H2 (β2 a) (.dK kws)) := by
                      rw [ba]
                      exact TupR.set hfz (fun _ z => by cases z) (fun _ _ z => by cases z) (fun _ z => by cases z)
                    have s3 := s2.put2 (o' := .dct kvs2) (u' := .dK kws) hS2 (by rw [ba]; exact hfz) (fun _ z => by cases z) (fun _ _ z => by cases z) (fun _ z => by cases z) ck2 ⟨kws, upd_same, kr21, Reps.tk tku (n := S2.length) (fun _ _ => rfl) _ _ ck2 kr22⟩
                    rw [ba] at s3 tku
                    have hD3 : D0 ≠ β a := fun z => by
                      rw [z, upd_same] at hD
                      cases hD
                    have hH3 : upd H2 (β a) (.dK kws) D0 = some (.lst ws) := by rw [upd_ne hD3]; exact hD2
                    have ls : (S2.set a (.dct kvs2)).length = S2.length := List.length_set
                    have s4 := s3.adopt (p := D0) (xs := ys) (vs := ws) hH3 (fun j hj => nd j (by rw [ls] at hj; exact hj)) (Reps.tk tku (n := S2.length) (fun _ _ => rfl) _ _ cs2 rs2) (by rw [ls]; exact cs2)
                    have g3 := Gr.unlock hS hd hS2 g2
                    have hD0 : H D0 = none := by
                      rw [upd_ne hD3] at hD
                      exact hD
                    have g4 := g3.adopt (o := .lst ys) hD0
                    obtain ⟨β', g', s', r', c'⟩ := gc_ok (base := base) (x := .ref D0) hg g4 s s4 (by
                      show V.ref D0 = .ref (ext β2 (S2.set a (.dct kvs2)).length D0 (S2.set a (.dct kvs2)).length)
                      rw [ext_eq]) (decide_eq_true (by simp))
                    exact k β' _ _ g' s' r' c'
                  | lst l => cases e2
                  | fro l => cases e2
                  | dct l => cases e2
                  | tbl l => cases e2
          | lst l => cases ev
          | fro l => cases ev
          | fdc l => cases ev
          | tbl _ => cases ev
      | _ => cases ev
  · rw [if_neg hg0] at ev
    cases ev
end
end Z
end
section
set_option Elab.async false
set_option linter.all false
set_option autoImplicit false
/-! list(range(..)), sorted(set(..)) -/
namespace Z
open PySem L2

section
variable {K : PySem.W.Frag} {φ : Phi} {β β1 β2 : Nat → Addr} {H H1 H2 : Hp} {S S' S1 S2 : Sto} {base n : Nat} {Q : VK} {d : D}

theorem rgI_map : ∀ (n : Nat) (i : Int), rgI i n = ((List.range n).map fun k : Nat => i + (k : Int)).map D.int
  | 0, i => rfl
  | n + 1, i => by
    rw [List.range_succ_eq_map, List.map_cons, List.map_cons, List.map_map]
    show D.int i :: rgI (i + 1) n = _
    rw [rgI_map n (i + 1)]
    congr 1
    · simp
    · rw [List.map_map, List.map_map]
      refine List.map_congr_left fun k _ => ?_
      show D.int (i + 1 + (k : Int)) = D.int (i + ((k + 1 : Nat) : Int))
      congr 1
      omega
theorem rgV_map (i j : Int) : rgV i j = ((List.range (j - i).toNat).map fun k : Nat => i + (k : Int)).map V.int := by
  unfold rgV
  rw [List.map_map]
  rfl
theorem rg_ok {t : Bool} {i j : Int} (k : Kt K base β S H S' d Q) (s : Sim K β S H) (e : rgF t i j S = some (d, S')) : RgOk i j ∧ ∀ q, H q = none → Q (.ref q) (upd H q (if t = true then .tup (rgV i j) else .lst (rgV i j))) := by
  unfold rgF at e
  by_cases c : (rgOk i && rgOk j && decide ((j - i).toNat ≤ lim)) = true
  · rw [if_pos c] at e
    rw [Bool.and_eq_true, Bool.and_eq_true] at c
    obtain ⟨b1, b2⟩ := rgOk_iff c.1.1
    obtain ⟨b3, b4⟩ := rgOk_iff c.1.2
    have b5 : (j - i).toNat ≤ 100000 := of_decide_eq_true c.2
    refine ⟨⟨b1, b2, b3, b4, by omega⟩, ?_⟩
    rw [rgI_map, rgV_map] at *
    cases t with
    | true =>
      cases e
      exact k.tuple s (reps_of_ints _) (cl_ints _)
    | false =>
      cases e
      exact k.list s (reps_of_ints _) (cl_ints _)
  · rw [if_neg c] at e
    cases e
theorem es_rg1 {t : Bool} {te : TE} {a : Ex} (h : ES K φ te a) : ES K φ (tRgB t (tRg1 te)) (.rg1 t a) := by
  intro base β env S σ H Q d S' e s r k
  rw [evE] at e
  obtain ⟨v, S4, e1, hg⟩ := gc_some e
  rcases h1 : evE φ S.length env a S with _ | ⟨x, S1⟩
  · rw [h1] at e1; cases e1
  · rw [h1] at e1
    cases x with
    | int j =>
      simp only at e1
      have key : te σ H fun x H1 => ∃ n, x = .int n ∧ RgOk 0 n ∧ ∀ q, H1 q = none → Q (.ref q) (upd H1 q (if t = true then .tup (rgV 0 n) else .lst (rgV 0 n))) := by
        refine h _ β env S σ H _ _ S1 h1 s r fun β1 w H1 g1 s1 r1 c1 => ?_
        cases (show w = .int j from r1)
        exact ⟨j, rfl, rg_ok (k.fin hg s g1) s1 e1⟩
      cases t with
      | true => exact key
      | false => exact key
    | _ => cases e1
theorem es_rg2 {t : Bool} {ta tb : TE} {a b : Ex} (ha : ES K φ ta a) (hb : ES K φ tb b) : ES K φ (tRgB t (tRg2 ta tb)) (.rg2 t a b) := by
  intro base β env S σ H Q d S' e s r k
  rw [evE] at e
  obtain ⟨v, S4, e1, hg⟩ := gc_some e
  rcases h1 : evE φ S.length env a S with _ | ⟨x, S1⟩
  · rw [h1] at e1; cases e1
  · rw [h1] at e1
    cases x with
    | int i =>
      simp only at e1
      rcases h2 : evE φ S.length env b S1 with _ | ⟨y, S2⟩
      · rw [h2] at e1; cases e1
      · rw [h2] at e1
        cases y with
        | int j =>
          simp only at e1
          have key : ta σ H fun x H1 => tb σ H1 fun y H2 => ∃ i j, x = .int i ∧ y = .int j ∧ RgOk i j ∧ ∀ q, H2 q = none → Q (.ref q) (upd H2 q (if t = true then .tup (rgV i j) else .lst (rgV i j))) := by
            refine ES.two ha hb h1 h2 s r fun β2 u w H2 g s2 rx ry cx cy => ?_
            cases (show u = .int i from rx)
            cases (show w = .int j from ry)
            exact ⟨i, j, rfl, rfl, rg_ok (k.fin hg s g) s2 e1⟩
          cases t with
          | true => exact key
          | false => exact key
        | _ => cases e1
    | _ => cases e1
theorem es_srs {te : TE} {a : Ex} (h : ES K φ te a) : ES K φ (tSrs K te) (.srs a) := by
  intro base β env S σ H Q d S' e s r k
  rw [evE] at e
  obtain ⟨v, S4, e1, hg⟩ := gc_some e
  rcases h1 : evE φ S.length env a S with _ | ⟨x, S1⟩
  · rw [h1] at e1; cases e1
  · rw [h1] at e1
    cases x with
    | tup ds =>
      have e1' : ((intsOf ds).bind fun ns => if ns.length < 64 then new S1 (.lst ((srtU ns).map .int)) else none) = some (v, S4) := e1
      cases q : intsOf ds with
      | none => rw [q] at e1'; cases e1'
      | some ns =>
        rw [q, Option.bind_some] at e1'
        by_cases c : ns.length < 64
        · rw [if_pos c] at e1'
          cases e1'
          refine h _ β env S σ H _ _ S1 h1 s r fun β1 w H1 g1 s1 r1 c1 => ?_
          obtain ⟨a, vs, rfl, hq, rs⟩ := (show ∃ a vs, w = .ref a ∧ SqT K H1 a vs ∧ Reps K β1 H1 ds vs from r1)
          cases intsOf_map q
          cases reps_ints rs
          refine ⟨a, ns, rfl, .inr hq, c, fun p u q hp hn => ?_⟩
          obtain ⟨s2, g2⟩ := s1.side (base := S.length) (u := u) hp
          exact (k.fin hg s (g1.trans g2)).list s2 (reps_of_ints _) (cl_ints _) q hn
        · rw [if_neg c] at e1'
          cases e1'
    | ref i =>
      have e1' : (((S1[i]?).bind SO.seq?).bind intsOf).bind (fun ns => if ns.length < 64 then new S1 (.lst ((srtU ns).map .int)) else none) = some (v, S4) := e1
      obtain ⟨ns, q0, e1'⟩ := bind_some e1'
      obtain ⟨ds, q1, q⟩ := bind_some q0
      by_cases c : ns.length < 64
      · rw [if_pos c] at e1'
        cases e1'
        refine h _ β env S σ H _ _ S1 h1 s r fun β1 w H1 g1 s1 r1 c1 => ?_
        obtain ⟨vs, hq, rs, _⟩ := s1.seq q1
        cases intsOf_map q
        cases reps_ints rs
        refine ⟨β1 i, ns, r1, .inl hq, c, fun p u q hp hn => ?_⟩
        obtain ⟨s2, g2⟩ := s1.side (base := S.length) (u := u) hp
        exact (k.fin hg s (g1.trans g2)).list s2 (reps_of_ints _) (cl_ints _) q hn
      · rw [if_neg c] at e1'
        cases e1'
    | _ => cases e1
end
end Z
end
section
set_option Elab.async false
set_option linter.all false
set_option autoImplicit false
set_option maxHeartbeats 4000000
/-! sorted(xs, key = lambda): its evaluation meets what it asks -/
namespace Z
open PySem L2 LamK SrtK LamX

/-! ### stores that are one -/
theorem kv_eq {α : Type} : ∀ {a b : List (Key × α)}, a.map (·.1) = b.map (·.1) → a.map (·.2) = b.map (·.2) → a = b
  | [], [], _, _ => rfl
  | [], _ :: _, h, _ => by cases h
  | _ :: _, [], h, _ => by cases h
  | (k, x) :: a, (l, y) :: b, h1, h2 => by
    rw [List.map_cons, List.map_cons] at h1 h2
    have e1 := (List.cons.inj h1)
    have e2 := (List.cons.inj h2)
    have e3 : k = l := e1.1
    have e4 : x = y := e2.1
    rw [e3, e4, kv_eq e1.2 e2.2]
theorem SO.beq_eq : ∀ (a b : SO), a.beq b = true → a = b
  | .lst a, .lst b, h => by rw [beqL_eq a b h]
  | .fro a, .fro b, h => by rw [beqL_eq a b h]
  | .dct a, .dct b, h => by
    have h' : (decide (a.map (·.1) = b.map (·.1)) && beqL (a.map (·.2)) (b.map (·.2))) = true := h
    rw [Bool.and_eq_true] at h'
    rw [kv_eq (of_decide_eq_true h'.1) (beqL_eq _ _ h'.2)]
  | .fdc a, .fdc b, h => by
    have h' : (decide (a.map (·.1) = b.map (·.1)) && beqL (a.map (·.2)) (b.map (·.2))) = true := h
    rw [Bool.and_eq_true] at h'
    rw [kv_eq (of_decide_eq_true h'.1) (beqL_eq _ _ h'.2)]
  | .tbl a, .tbl b, h => by rw [of_decide_eq_true (show decide (a = b) = true from h)]
  | .lst _, .fro _, h => by cases h
  | .lst _, .dct _, h => by cases h
  | .lst _, .fdc _, h => by cases h
  | .lst _, .tbl _, h => by cases h
  | .fro _, .lst _, h => by cases h
  | .fro _, .dct _, h => by cases h
  | .fro _, .fdc _, h => by cases h
  | .fro _, .tbl _, h => by cases h
  | .dct _, .lst _, h => by cases h
  | .dct _, .fro _, h => by cases h
  | .dct _, .fdc _, h => by cases h
  | .dct _, .tbl _, h => by cases h
  | .fdc _, .lst _, h => by cases h
  | .fdc _, .fro _, h => by cases h
  | .fdc _, .dct _, h => by cases h
  | .fdc _, .tbl _, h => by cases h
  | .tbl _, .lst _, h => by cases h
  | .tbl _, .fro _, h => by cases h
  | .tbl _, .dct _, h => by cases h
  | .tbl _, .fdc _, h => by cases h
theorem stoEq_eq : ∀ (a b : Sto), stoEq a b = true → a = b
  | [], [], _ => rfl
  | x :: a, y :: b, h => by
    have h' : (x.beq y && stoEq a b) = true := h
    rw [Bool.and_eq_true] at h'
    rw [SO.beq_eq x y h'.1, stoEq_eq a b h'.2]
  | [], _ :: _, h => by cases h
  | _ :: _, [], h => by cases h
theorem keysF_at {f : D → Option (D × Sto)} {S : Sto} : ∀ {xs : List D} {ks : List Int}, keysF f S xs = some ks → ks.length = xs.length ∧ ∀ (i : Nat) (d : D) (k : Int), xs[i]? = some d → ks[i]? = some k → f d = some (.int k, S)
  | [], ks, h => by cases h; exact ⟨rfl, fun i d k h => by simp at h⟩
  | d :: ds, ks, h => by
    rw [keysF] at h
    rcases q : f d with _ | ⟨v, S2⟩
    · rw [q] at h; cases h
    · rcases q2 : keysF f S ds with _ | ks'
      · rw [q, q2] at h
        cases v <;> cases h
      · rw [q, q2] at h
        cases v with
        | int k0 =>
          simp only at h
          by_cases hs : stoEq S2 S = true
          · rw [if_pos hs] at h
            cases h
            obtain ⟨e1, e2⟩ := keysF_at q2
            refine ⟨by rw [List.length_cons, List.length_cons, e1], fun i d' k hd hk => ?_⟩
            cases i with
            | zero =>
              simp at hd hk
              subst hd hk
              rw [q, stoEq_eq _ _ hs]
            | succ i =>
              simp at hd hk
              exact e2 i d' k hd hk
          · rw [if_neg hs] at h
            cases h
        | _ => cases h

/-! ### sorting by keys -/
def insG {α : Type} (k : Int) (x : α) : List (Int × α) → List (Int × α)
  | [] => [(k, x)]
  | y :: r => if y.1 < k then y :: insG k x r else (k, x) :: y :: r
def sortG {α : Type} : List (Int × α) → List (Int × α)
  | [] => []
  | x :: r => insG x.1 x.2 (sortG r)
section
variable {α : Type}
theorem insG_perm (k : Int) (x : α) : ∀ l, (insG k x l).Perm ((k, x) :: l)
  | [] => .refl _
  | y :: r => by
    unfold insG
    split
    · exact ((insG_perm k x r).cons y).trans (.swap _ y r)
    · exact .refl _
theorem sortG_perm : ∀ l : List (Int × α), (sortG l).Perm l
  | [] => .refl _
  | x :: r => (insG_perm x.1 x.2 _).trans ((sortG_perm r).cons x)
theorem insG_sorted (k : Int) (x : α) : ∀ l : List (Int × α), l.Pairwise (fun p q => p.1 ≤ q.1) → (insG k x l).Pairwise (fun p q => p.1 ≤ q.1)
  | [], _ => List.pairwise_singleton _ _
  | y :: r, h => by
    unfold insG
    rw [List.pairwise_cons] at h
    split
    · rename_i q
      refine List.pairwise_cons.mpr ⟨fun z hz => ?_, insG_sorted k x r h.2⟩
      rcases List.mem_cons.mp ((insG_perm k x r).mem_iff.mp hz) with rfl | hz
      · exact Int.le_of_lt q
      · exact h.1 z hz
    · rename_i q
      refine List.pairwise_cons.mpr ⟨fun z hz => ?_, List.pairwise_cons.mpr h⟩
      rcases List.mem_cons.mp hz with rfl | hz
      · exact Int.not_lt.mp q
      · exact Int.le_trans (Int.not_lt.mp q) (h.1 z hz)
theorem sortG_sorted : ∀ l : List (Int × α), (sortG l).Pairwise (fun p q => p.1 ≤ q.1)
  | [] => .nil
  | x :: r => insG_sorted _ _ _ (sortG_sorted r)
theorem insG_filter (k : Int) (x : α) (c : Int) : ∀ l : List (Int × α), l.Pairwise (fun p q => p.1 ≤ q.1) → (insG k x l).filter (fun p => p.1 == c) = ((k, x) :: l).filter (fun p => p.1 == c)
  | [], _ => rfl
  | y :: r, h => by
    unfold insG
    rw [List.pairwise_cons] at h
    split
    · rename_i q
      rw [List.filter_cons, insG_filter k x c r h.2, List.filter_cons, List.filter_cons (x := (k, x)), List.filter_cons (x := y)]
      by_cases e1 : y.1 = c
      · have e2 : ¬ k = c := by omega
        have b1 : (y.1 == c) = true := by simp [e1]
        have b2 : ((k, x).1 == c) = false := by simp [e2]
        rw [b1, b2]
        simp
      · have b1 : (y.1 == c) = false := by simp [e1]
        rw [b1]
        simp
    · rfl
theorem sortG_filter (c : Int) : ∀ l : List (Int × α), (sortG l).filter (fun p => p.1 == c) = l.filter (fun p => p.1 == c)
  | [] => rfl
  | x :: r => by
    show (insG x.1 x.2 (sortG r)).filter _ = _
    rw [insG_filter _ _ _ _ (sortG_sorted r), List.filter_cons, sortG_filter c r]
    conv => rhs; rw [List.filter_cons]
theorem keys_uniq : ∀ {l m : List (Int × α)}, l.Pairwise (fun p q => p.1 ≤ q.1) → m.Pairwise (fun p q => p.1 ≤ q.1) → (∀ c, l.filter (fun p => p.1 == c) = m.filter (fun p => p.1 == c)) → l = m
  | [], [], _, _, _ => rfl
  | [], b :: m, _, _, h => by
    have := h b.1
    rw [List.filter_cons] at this
    simp at this
  | a :: l, [], _, _, h => by
    have := h a.1
    rw [List.filter_cons] at this
    simp at this
  | a :: l, b :: m, h1, h2, h => by
    rw [List.pairwise_cons] at h1 h2
    have ha : a ∈ b :: m := by
      have : a ∈ (b :: m).filter (fun p => p.1 == a.1) := by
        rw [← h a.1, List.filter_cons]
        simp
      exact (List.mem_filter.mp this).1
    have hb : b ∈ a :: l := by
      have : b ∈ (a :: l).filter (fun p => p.1 == b.1) := by
        rw [h b.1, List.filter_cons]
        simp
      exact (List.mem_filter.mp this).1
    have e1 : a.1 ≤ b.1 := by
      rcases List.mem_cons.mp hb with e | hb
      · rw [e]
        exact Int.le_refl _
      · exact h1.1 b hb
    have e2 : b.1 ≤ a.1 := by
      rcases List.mem_cons.mp ha with e | ha
      · rw [e]
        exact Int.le_refl _
      · exact h2.1 a ha
    have e3 : b.1 = a.1 := by omega
    have e : a = b := by
      have q := h a.1
      rw [List.filter_cons, List.filter_cons (x := b)] at q
      have b1 : (a.1 == a.1) = true := by simp
      have b2 : (b.1 == a.1) = true := by simp [e3]
      rw [if_pos b1, if_pos b2] at q
      exact (List.cons.inj q).1
    subst e
    rw [keys_uniq h1.2 h2.2 fun c => ?_]
    have q := h c
    rw [List.filter_cons, List.filter_cons (x := a)] at q
    by_cases b1 : (a.1 == c) = true
    · rw [if_pos b1, if_pos b1] at q
      exact (List.cons.inj q).2
    · rw [if_neg b1, if_neg b1] at q
      exact q
theorem kout_eq {kz : List Int} {xs ys : List V} (h : KOut kz xs ys) : ys = (sortG (kz.zip xs)).map Prod.snd := by
  obtain ⟨ps, h1, rfl, h3, h4⟩ := h
  rw [keys_uniq h3 (sortG_sorted (kz.zip xs)) fun c => (h4 c).trans (sortG_filter c _).symm]
end
def RKs (K : PySem.W.Frag) (β : Nat → Addr) (H : Hp) : List (Int × D) → List (Int × V) → Prop
  | [], [] => True
  | p :: ps, q :: qs => p.1 = q.1 ∧ Rep K β H p.2 q.2 ∧ RKs K β H ps qs
  | _, _ => False
section
variable {K : PySem.W.Frag} {φ : Phi} {β β' β1 β2 : Nat → Addr} {H H' H1 H2 : Hp} {S S' S1 S2 : Sto} {base n : Nat}
theorem rks_zip : ∀ (ks : List Int) {xs : List D} {vs : List V}, Reps K β H xs vs → RKs K β H (ks.zip xs) (ks.zip vs)
  | [], _, _, _ => trivial
  | k :: ks, [], vs, r => by cases (show vs = [] from r); trivial
  | k :: ks, x :: xs, vs, r => by
    obtain ⟨v, q, rfl, r1, r2⟩ := (show ∃ v q, vs = v :: q ∧ Rep K β H x v ∧ Reps K β H xs q from r)
    exact ⟨rfl, r1, rks_zip ks r2⟩
theorem rks_ins (k : Int) {x : D} {v : V} (h : Rep K β H x v) : ∀ {ps : List (Int × D)} {qs : List (Int × V)}, RKs K β H ps qs → RKs K β H (insK k x ps) (insG k v qs)
  | [], [], _ => ⟨rfl, h, trivial⟩
  | [], _ :: _, h => h.elim
  | _ :: _, [], h => h.elim
  | p :: ps, q :: qs, ⟨e, r1, r2⟩ => by
    unfold insK insG
    rw [← e]
    by_cases c : p.1 < k
    · rw [if_pos c, if_pos c]
      exact ⟨e, r1, rks_ins k h r2⟩
    · rw [if_neg c, if_neg c]
      exact ⟨rfl, h, e, r1, r2⟩
theorem rks_sort : ∀ {ps : List (Int × D)} {qs : List (Int × V)}, RKs K β H ps qs → RKs K β H (sortK ps) (sortG qs)
  | [], [], _ => trivial
  | [], _ :: _, h => h.elim
  | _ :: _, [], h => h.elim
  | p :: ps, q :: qs, ⟨e, r1, r2⟩ => by
    show RKs K β H (insK p.1 p.2 (sortK ps)) (insG q.1 q.2 (sortG qs))
    rw [← e]
    exact rks_ins p.1 r1 (rks_sort r2)
theorem rks_reps : ∀ {ps : List (Int × D)} {qs : List (Int × V)}, RKs K β H ps qs → Reps K β H (ps.map (·.2)) (qs.map Prod.snd)
  | [], [], _ => rfl
  | [], _ :: _, h => h.elim
  | _ :: _, [], h => h.elim
  | p :: ps, q :: qs, ⟨e, r1, r2⟩ => ⟨_, _, rfl, r1, rks_reps r2⟩
theorem mem_insK {k : Int} {x : D} : ∀ {l : List (Int × D)} {z : Int × D}, z ∈ insK k x l → z = (k, x) ∨ z ∈ l
  | [], z, h => .inl (List.mem_singleton.mp h)
  | y :: r, z, h => by
    unfold insK at h
    split at h
    · rcases List.mem_cons.mp h with rfl | h
      · exact .inr List.mem_cons_self
      · rcases mem_insK h with h | h
        · exact .inl h
        · exact .inr (List.mem_cons_of_mem _ h)
    · rcases List.mem_cons.mp h with rfl | h
      · exact .inl rfl
      · exact .inr h
theorem mem_sortK : ∀ {l : List (Int × D)} {z : Int × D}, z ∈ sortK l → z ∈ l
  | [], z, h => by cases h
  | y :: r, z, h => by
    rcases mem_insK (show z ∈ insK y.1 y.2 (sortK r) from h) with rfl | h
    · exact List.mem_cons_self
    · exact List.mem_cons_of_mem _ (mem_sortK h)
theorem cl_sortK {ks : List Int} {xs : List D} (c : clL n xs = true) : clL n ((sortK (ks.zip xs)).map (·.2)) = true := clL_of fun z hz => by
  obtain ⟨p, hp, rfl⟩ := List.mem_map.mp hz
  exact clL_mem c _ (List.of_mem_zip (show (p.1, p.2) ∈ ks.zip xs from mem_sortK hp)).2

/-! ### what is kept -/
theorem Sim.junk (s : Sim K β S H) (t : TupK H H') (h : ∀ i, i < S.length → H' (β i) = H (β i)) : Sim K β S H' :=
  ⟨fun i o e => (s.cell i o e).tk t.r (fun _ _ => rfl) (s.cl i o e) rfl (h i (List.getElem?_eq_some_iff.mp e).1), s.cl, s.inj⟩
theorem Sim.has (s : Sim K β S H) {i : Nat} (hi : i < S.length) : ∃ u, H (β i) = some u := by
  obtain ⟨u, h, _⟩ := (s.cell i _ (List.getElem?_eq_getElem hi)).there
  exact ⟨u, h⟩
theorem Gr.junk {b : Addr} {o : HO} (g : Gr base β S H β1 S H1) (hb : H b = none) (t : TupK H1 (upd H1 b o)) : Gr base β S H β1 S (upd H1 b o) :=
  ⟨g.len, g.same, fun a u e n => by rw [upd_ne (ne_of_none e hb)]; exact g.fr a u e n, fun a u e => by rw [upd_ne (ne_of_none e hb)]; exact g.trk a u e, fun i a b => absurd b (by omega), g.tm, g.tk.trans t⟩
/-- the table has grown, all else is as it was -/
theorem tab_step {P : Addr} {q : Str} {j : Nat} {nm : Str} (s : Sim K β S H) (hj : S[j]? = some (.tbl nm)) (hP : P = β j) (e : ExtP P H H') (hT : TabS H' P (lamQ nm)) : Sim K β S H' ∧ Gr base β S H β S H' := by
  subst hP
  have hjl := (List.getElem?_eq_some_iff.mp hj).1
  obtain ⟨e0, ps0, e1, _⟩ := s.cell j _ hj
  have nP : ∀ a o, H a = some o → (∀ ps, o ≠ .tbl ps) → a ≠ β j := fun a o h n z => by
    rw [z, e1] at h
    cases h
    exact n _ rfl
  have t : TupK H H' := ⟨fun a vs h => e a _ h (nP a _ h fun _ z => by cases z), fun a ob u h => e a _ h (nP a _ h fun _ z => by cases z), fun a φ h => e a _ h (nP a _ h fun _ z => by cases z)⟩
  have ne : ∀ i, i < S.length → i ≠ j → β i ≠ β j := fun i hi n z => n (s.inj i j hi hjl z)
  refine ⟨⟨fun i o h => ?_, s.cl, s.inj⟩, ⟨Nat.le_refl _, fun _ _ => rfl, fun a o h n => e a o h fun z => n j hjl z.symm, fun a o h => ?_, fun i a b => absurd b (by omega), fun i _ n o o' h1 h2 c => ?_, t⟩⟩
  · by_cases hij : i = j
    · subst hij
      rw [hj] at h
      cases h
      exact ⟨e0, hT⟩
    · have hi := (List.getElem?_eq_some_iff.mp h).1
      obtain ⟨u, hu⟩ := s.has hi
      refine (s.cell i o h).tk t.r (fun _ _ => rfl) (s.cl i o h) rfl ?_
      rw [hu]
      exact e _ _ hu (ne i hi hij)
  · by_cases ha : a = β j
    · subst ha
      obtain ⟨ps, h', _⟩ := hT
      exact ⟨_, h'⟩
    · exact ⟨o, e a o h ha⟩
  · rw [h1] at h2
    cases h2
    exact c
theorem pln_of {x : D} {v : V} (h : plainD x = true) (r : Rep K β H x v) : Pln v := by
  cases x with
  | int i => exact .inr ⟨i, r⟩
  | tup ds =>
    obtain ⟨a, vs, rfl, _⟩ := (show ∃ a vs, v = .ref a ∧ SqT K H a vs ∧ Reps K β H ds vs from r)
    exact .inl ⟨a, rfl⟩
  | ref i => exact .inl ⟨_, r⟩
  | _ => cases h
theorem plns_of : ∀ {xs : List D} {vs : List V}, xs.all plainD = true → Reps K β H xs vs → ∀ v, v ∈ vs → Pln v
  | [], vs, _, r, v, hv => by
    cases (show vs = [] from r)
    cases hv
  | x :: xs, vs, h, r, v, hv => by
    obtain ⟨y, q, rfl, r1, r2⟩ := (show ∃ y q, vs = y :: q ∧ Rep K β H x y ∧ Reps K β H xs q from r)
    rw [List.all_cons, Bool.and_eq_true] at h
    rcases List.mem_cons.mp hv with rfl | hv
    · exact pln_of h.1 r1
    · exact plns_of h.2 r2 v hv
theorem reps_at {xs : List D} {vs : List V} (r : Reps K β H xs vs) {i : Nat} {v : V} (h : vs[i]? = some v) : ∃ d, xs[i]? = some d ∧ Rep K β H d v := by
  have hi : i < xs.length := by
    rw [r.length]
    exact (List.getElem?_eq_some_iff.mp h).1
  obtain ⟨w, e, rw_⟩ := r.get (List.getElem?_eq_getElem hi)
  rw [h] at e
  cases e
  exact ⟨_, List.getElem?_eq_getElem hi, rw_⟩
theorem es_skl {ta tk : TE} {j : Nat} {nm : Str} {a k : Ex} (ha : ES K φ ta a) (hk : ES K φ tk k) : ES K φ (tSkl K (tabOf K nm) (lamQ nm) ta tk) (.skl j nm a k) := by
  intro base β env S σ H Q d S' e s r kk
  rw [evE] at e
  obtain ⟨v, S3, e1, hg⟩ := gc_some e
  rcases h1 : evE φ S.length env a S with _ | ⟨x, S1⟩
  · rw [h1] at e1; cases e1
  rw [h1] at e1
  cases x with
  | ref i =>
    simp only at e1
    rcases hxs : (S1[i]?).bind SO.seq? with _ | xs
    · rw [hxs] at e1; cases e1
    rw [hxs] at e1
    rcases hj : S1[j]? with _ | o
    · rw [hj] at e1; cases e1
    rw [hj] at e1
    cases o with
    | tbl f =>
      simp only at e1
      by_cases hc : f = nm ∧ xs.all plainD = true ∧ i ≠ j
      · rw [if_pos hc] at e1
        obtain ⟨rfl, hpl, hij⟩ := hc
        rcases hks : keysF (fun d => evE φ S1.length [some d] k S1) S1 xs with _ | ks
        · rw [hks] at e1; cases e1
        rw [hks] at e1
        cases e1
        obtain ⟨hlen, hat⟩ := keysF_at hks
        refine ha _ β env S σ H _ _ S1 h1 s r fun β1 v H1 g1 s1 r1 c1 => ?_
        obtain ⟨vs, hsq, rs, cs⟩ := s1.seq hxs
        have hjl := (List.getElem?_eq_some_iff.mp hj).1
        have hil : i < S1.length := of_decide_eq_true c1
        obtain ⟨eP, hT⟩ := s1.cell j _ hj
        refine ⟨β1 i, vs, ks, r1, hsq, ?_, plns_of hpl rs, by rw [hlen, rs.length], by rw [← eP]; exact hT, fun H2 hE hN hT2 => ?_⟩
        · rw [← eP]
          exact fun z => hij (s1.inj i j hil hjl z)
        rw [← eP] at hE hT2
        obtain ⟨s2, g2⟩ := tab_step (base := S1.length) (q := lamQ f) s1 hj rfl hE hT2
        have nb : ∀ b, H2 b = none → ∀ i, i < S1.length → β1 i ≠ b := fun b hb i hi z => by
          obtain ⟨u, hu⟩ := s2.has hi
          rw [z, hb] at hu
          cases hu
        refine ⟨fun H' => ∃ β', Gr S1.length β1 S1 H2 β' S1 H' ∧ Sim K β' S1 H', ⟨⟨β1, Gr.refl, s2⟩, ?_, ?_⟩, ?_, ?_, ?_⟩
        · intro H b ys ⟨β', g, s⟩ hb hb2
          have t : TupK H (upd H b (.lst ys)) := TupK.new hb2
          exact ⟨β', g.junk hb t, s.junk t fun i hi => upd_ne (by rw [g.same i hi]; exact nb b hb i hi)⟩
        · intro H b xs' ys ⟨β', g, s⟩ hb hb2
          have t : TupK H (upd H b (.lst ys)) := TupK.set hb2 (fun _ z => by cases z) (fun _ _ z => by cases z) (fun _ z => by cases z)
          exact ⟨β', g.junk hb t, s.junk t fun i hi => upd_ne (by rw [g.same i hi]; exact nb b hb i hi)⟩
        · intro H' ⟨β', g, s⟩ b φ' hb
          exact g.tk.ext b φ' hb
        · intro n y kn hy hkn H' ⟨β', g, s'⟩
          obtain ⟨d0, hd0, rd⟩ := reps_at rs hy
          have hev := hat n d0 kn hd0 hkn
          have cd : d0.cl S1.length = true := clL_mem cs d0 (List.mem_of_getElem? hd0)
          have rd' : Rep K β' H' d0 y := (g2.trans g).rep rd cd
          have re : EnvR K β' H' S1.length [some d0] [some y] := ⟨rfl, fun m z hz => by
            cases m with
            | zero =>
              cases hz
              exact ⟨cd, y, rfl, rd'⟩
            | succ m => simp at hz⟩
          refine hk S1.length β' [some d0] S1 [some y] H' _ _ S1 hev s' re fun β'' w H'' g' s'' r'' c'' => ⟨r'', ⟨β'', g.trans g', s''⟩, fun b o hb ho => ?_⟩
          exact g'.fr b o ho fun m hm z => nb b hb m hm (by rw [← g.same m hm]; exact z)
        · intro H3 p ys ⟨β', g, s3⟩ hp ho
          have e3 := kout_eq ho
          subst e3
          have g13 := (g2.trans g)
          have k3 := kk.fin hg s (g1.trans (g13.loose (.inl g1.len)))
          exact k3.list s3 (rks_reps (rks_sort (rks_zip ks (g13.reps rs cs)))) (cl_sortK cs) p hp
      · rw [if_neg hc] at e1
        cases e1
    | lst _ => cases e1
    | fro _ => cases e1
    | dct _ => cases e1
    | fdc _ => cases e1
  | _ => cases e1
end
end Z
end
section
set_option Elab.async false
set_option linter.all false
set_option autoImplicit false
/-! all expressions; statements -/
namespace Z
open PySem L2

def rAug : Operator → TIp
  | .Add => rI0 fun i j => .int (i + j)
  | .Sub => rI0 fun i j => .int (i - j)
  | .BitAnd => rI0 fun i j => .int (Builtin.bitAnd i j)
  | .BitOr => rI0 fun i j => .int (Builtin.bitOr i j)
  | .BitXor => rI0 fun i j => .int (Builtin.bitXor i j)
  | _ => fun _ _ _ _ => False
mutual
def rd1 (K : PySem.W.Frag) (φ : Phi) : Sm → TS
  | .set i e => tAsg (rdP K φ e).1 (gName i)
  | .par i j a b => tPar i j (tCons (rdP K φ a).1 (tCons (rdP K φ b).1 tNil))
  | .unp is e => tAsg (rdP K φ e).1 (rdG K (.tp is))
  | .six o i e => tAsg (rdP K φ e).1 (gSub (rdP K φ o).1 (rdP K φ i).1 rSetL)
  | .dst o i e => sDPut (rdP K φ o).1 (rdP K φ i).1 (rdP K φ e).1
  | .aug i op e => tAug i (rdP K φ e).1 (rAug op)
  | .expr e => tDrop (rdP K φ e).1
  | .ifs c a b => tIfS (rdP K φ c).2 (rds K φ a) (rds K φ b)
  | .for g it b => tFor (rdI K φ it) (rdG K g) (rds K φ b)
  | .while c b => tWhile (rdP K φ c).2 (rds K φ b)
  | .ret e => tRet (rdP K φ e).1
  | .retN => tRetN
  | .brk => tBreak
  | .cnt => tCont
  | .pass => tNext
  | .fail => tNever
termination_by structural x => x
def rds (K : PySem.W.Frag) (φ : Phi) : Ss → TS
  | .nil => tNext
  | .cons s ss => tSeq (rd1 K φ s) (rds K φ ss)
termination_by structural x => x
end

section
variable {K : PySem.W.Frag} {φ : Phi}

theorem et_ite {tc ta tb : TT} {c a b : Ex} (hc : ET K φ tc c) (ha : ET K φ ta a) (hb : ET K φ tb b) : ET K φ (tIfT tc ta tb) (.ite c a b) := by
  intro base β env S σ H Q k S' e s r q
  obtain ⟨x, e1, e2⟩ := evT_inv e
  rw [evE] at e1
  rcases h1 : evE φ base env c S with _ | ⟨y, S1⟩
  · rw [h1] at e1; cases e1
  · rw [h1] at e1
    simp only at e1
    cases h2 : truF S1 y with
    | none => rw [h2] at e1; cases e1
    | some b0 =>
      rw [h2] at e1
      have ea : evT φ base env c S = some (b0, S1) := by
        unfold evT
        rw [h1]
        simp only [h2, Option.map_some]
      refine hc base β env S σ H _ b0 S1 ea s r fun β1 H1 g1 s1 => ?_
      cases b0 with
      | true =>
        rw [if_pos rfl]
        have eb : evT φ base env a S1 = some (k, S') := by
          unfold evT
          simp only at e1
          rw [e1]
          simp only [e2, Option.map_some]
        exact ha base β1 env S1 σ H1 Q k S' eb s1 (r.gr g1) fun β2 H2 g2 s2 => q β2 H2 (g1.trans g2) s2
      | false =>
        rw [if_neg Bool.false_ne_true]
        have eb : evT φ base env b S1 = some (k, S') := by
          unfold evT
          simp only at e1
          rw [e1]
          simp only [e2, Option.map_some]
        exact hb base β1 env S1 σ H1 Q k S' eb s1 (r.gr g1) fun β2 H2 g2 s2 => q β2 H2 (g1.trans g2) s2
theorem es_met_none {m : Mt} {t : TE} {o : Ex} {e1 : Ex} {es : Es} (hm : m = .pop ∨ m = .bits) : ES K φ t (.met m o (.cons e1 es)) := by
  intro base β env S σ H Q d S' e s r k
  exfalso
  rw [evE] at e
  rcases h1 : evE φ base env o S with _ | ⟨x, S1⟩
  · rw [h1] at e; cases e
  · rw [h1] at e
    simp only at e
    by_cases hp : metP m x S1 = true
    · rw [if_pos hp] at e
      rcases h2 : evS φ base env (.cons e1 es) S1 with _ | ⟨vs, S2⟩
      · rw [h2] at e; cases e
      · rw [h2] at e
        rw [evS] at h2
        rcases h3 : evE φ base env e1 S1 with _ | ⟨y, S3⟩
        · rw [h3] at h2; cases h2
        · rw [h3] at h2
          simp only at h2
          rcases h4 : evS φ base env es S3 with _ | ⟨ys, S4⟩
          · rw [h4] at h2; cases h2
          · rw [h4] at h2
            cases h2
            rcases hm with rfl | rfl
            · cases x <;> cases e
            · cases x <;> cases e
    · rw [if_neg hp] at e
      cases e
mutual
theorem esAll (X : Cx) (φ : Phi) : ∀ c : Ex, ES X.K φ (rdP X.K φ c).1 c ∧ ET X.K φ (rdP X.K φ c).2 c
  | .var i => ⟨es_var i, et_tru (es_var i)⟩
  | .non => have h := es_c (K := X.K) (φ := φ) (c := .non) (v := .non) (d0 := .non) (fun _ _ _ => rfl) (fun _ _ => rfl) (fun _ => rfl); ⟨h, et_tru h⟩
  | .bl b => have h := es_c (K := X.K) (φ := φ) (c := .bl b) (v := .bl b) (d0 := .bl b) (fun _ _ _ => rfl) (fun _ _ => rfl) (fun _ => rfl); ⟨h, et_tru h⟩
  | .int b => have h := es_c (K := X.K) (φ := φ) (c := .int b) (v := .int b) (d0 := .int b) (fun _ _ _ => rfl) (fun _ _ => rfl) (fun _ => rfl); ⟨h, et_tru h⟩
  | .con b => have h := es_c (K := X.K) (φ := φ) (c := .con b) (v := .int b) (d0 := .int b) (fun _ _ _ => rfl) (fun _ _ => rfl) (fun _ => rfl); ⟨h, et_tru h⟩
  | .str b => have h := es_c (K := X.K) (φ := φ) (c := .str b) (v := .str b) (d0 := .str b) (fun _ _ _ => rfl) (fun _ _ => rfl) (fun _ => rfl); ⟨h, et_tru h⟩
  | .bin op a b => have h := es_bin (X := X) (op := op) (esAll X φ a).1 (esAll X φ b).1; ⟨h, et_tru h⟩
  | .un op a => have h := es_un (X := X) (op := op) (esAll X φ a).1; ⟨h, et_tru h⟩
  | .cmp op a b => have h := es_cmp (X := X) (op := op) (esAll X φ a).1 (esAll X φ b).1; ⟨h, et_test h fun e => cmp_bl e⟩
  | .chn o1 o2 a b c => have h := es_chn (X := X) (o1 := o1) (o2 := o2) (esAll X φ a).1 (esAll X φ b).1 (esAll X φ c).1; ⟨h, et_test h fun e => chn_bl e⟩
  | .and a b => ⟨es_and (X := X) (esAll X φ a).1 (esAll X φ b).1, et_and (esAll X φ a).2 (esAll X φ b).2⟩
  | .or a b => ⟨es_or (X := X) (esAll X φ a).1 (esAll X φ b).1, et_or (esAll X φ a).2 (esAll X φ b).2⟩
  | .not a => ⟨es_not (X := X) (esAll X φ a).1, et_not (esAll X φ a).2⟩
  | .ite c a b => ⟨es_ite (esAll X φ c).2 (esAll X φ a).1 (esAll X φ b).1, et_ite (esAll X φ c).2 (esAll X φ a).2 (esAll X φ b).2⟩
  | .tup es => have h := es_tup (eaAll X φ es); ⟨h, et_tru h⟩
  | .lst es => have h := es_lst (eaAll X φ es); ⟨h, et_tru h⟩
  | .ix a b => have h := es_ix (X := X) (esAll X φ a).1 (esAll X φ b).1; ⟨h, et_tru h⟩
  | .sl a lo hi => have h := es_sl (X := X) (esAll X φ a).1 (eoAll X φ lo).1 (eoAll X φ hi).1; ⟨h, et_tru h⟩
  | .rev a => have h := es_rev (esAll X φ a).1; ⟨h, et_tru h⟩
  | .rg1 t a => have h := es_rg1 (t := t) (esAll X φ a).1; ⟨h, et_tru h⟩
  | .rg2 t a b => have h := es_rg2 (t := t) (esAll X φ a).1 (esAll X φ b).1; ⟨h, et_tru h⟩
  | .srs a => have h := es_srs (esAll X φ a).1; ⟨h, et_tru h⟩
  | .call f es => have h := es_call (f := f) (eaAll X φ es); ⟨h, et_tru h⟩
  | .blt b es => have h := es_blt (X := X) (b := b) (eaAll X φ es); ⟨h, et_tru h⟩
  | .met .append o es => have h := es_append (esAll X φ o).1 (eaAll X φ es); ⟨h, et_tru h⟩
  | .met .popAt o es => have h := es_popAt (esAll X φ o).1 (eaAll X φ es); ⟨h, et_tru h⟩
  | .met .pop o .nil => have h := es_pop (esAll X φ o).1; ⟨h, et_tru h⟩
  | .met .bits o .nil => have h := es_bits (esAll X φ o).1; ⟨h, et_tru h⟩
  | .met .pop o (.cons e es) => have h := es_met_none (K := X.K) (φ := φ) (t := tBM0 X.K "list" rPop (rdP X.K φ o).1) (o := o) (e1 := e) (es := es) (.inl rfl); ⟨h, et_tru h⟩
  | .met .bits o (.cons e es) => have h := es_met_none (K := X.K) (φ := φ) (t := tBits (rdP X.K φ o).1) (o := o) (e1 := e) (es := es) (.inr rfl); ⟨h, et_tru h⟩
  | .isi a k => have h := es_isi (X := X) (kk := k) (esAll X φ a).1; ⟨h, et_tru h⟩
  | .dic => have h := es_dic (K := X.K) (φ := φ); ⟨h, et_tru h⟩
  | .dix a b => have h := es_dix (esAll X φ a).1 (esAll X φ b).1; ⟨h, et_tru h⟩
  | .dgt o k v => have h := es_dgt (esAll X φ o).1 (esAll X φ k).1 (esAll X φ v).1; ⟨h, et_tru h⟩
  | .lc own g it c e => have h := es_lc (own := own) (g := g) (eiAll X φ it) (eoAll X φ c).2 (esAll X φ e).1; ⟨h, et_tru h⟩
  | .skl j nm a k => have h := es_skl (j := j) (nm := nm) (esAll X φ a).1 (esAll X φ k).1; ⟨h, et_tru h⟩
  | .lck own i o c e => have h := es_lck (own := own) (i := i) (o := o) (eoAll X φ c).2 (esAll X φ e).1; ⟨h, et_tru h⟩
theorem eaAll (X : Cx) (φ : Phi) : ∀ c : Es, EA X.K φ (rdA X.K φ c) c
  | .nil => ea_nil
  | .cons e es => ea_cons (esAll X φ e).1 (eaAll X φ es)
theorem eoAll (X : Cx) (φ : Phi) : ∀ c : Ox, EO X.K φ (rdO X.K φ c).1 c ∧ EC X.K φ (rdO X.K φ c).2 c
  | .no => ⟨eo_no, ec_no⟩
  | .yes e => ⟨eo_yes (esAll X φ e).1, ec_yes (esAll X φ e).2⟩
theorem eiAll (X : Cx) (φ : Phi) : ∀ c : It, EI X.K φ (rdI X.K φ c) c
  | .ex e => ei_ex (esAll X φ e).1
  | .rng1 a => ei_rng1 (esAll X φ a).1
  | .rng2 a b => ei_rng2 (esAll X φ a).1 (esAll X φ b).1
end
end
end Z
end
section
set_option Elab.async false
set_option linter.all false
set_option autoImplicit false
/-! statements: what they do meets what they ask -/
namespace Z
open PySem L2

section
variable {K : PySem.W.Frag} {φ : Phi} {β β1 β2 : Nat → Addr} {H H1 H2 : Hp} {S S' S1 S2 : Sto} {base n : Nat} {env env1 env' : Ev} {σ : L2.St} {E : Ends}

/-- what is wanted at a statement's end -/
def Wt (K : PySem.W.Frag) (E : Ends) (fl : Fl) (β : Nat → Addr) (S : Sto) (σ : L2.St) (H : Hp) : Prop := match fl with
  | .nx => E.nx σ H
  | .bk => E.bk σ H
  | .ct => E.ct σ H
  | .ret d => ∀ v, Rep K β H d v → d.cl S.length = true → E.rt v H
def Aft (K : PySem.W.Frag) (base : Nat) (β : Nat → Addr) (S : Sto) (H : Hp) (env' : Ev) (S' : Sto) (fl : Fl) (E : Ends) : Prop :=
  ∀ (β' : Nat → Addr) (σ' : L2.St) (H' : Hp), Gr base β S H β' S' H' → Sim K β' S' H' → EnvR K β' H' S'.length env' σ' → Wt K E fl β' S' σ' H'
def S1d (K : PySem.W.Frag) (φ : Phi) (t : TS) (c : Sm) : Prop := ∀ (base : Nat) (β : Nat → Addr) (env : Ev) (S : Sto) (σ : L2.St) (H : Hp) (E : Ends) (fl : Fl) (env' : Ev) (S' : Sto),
  ex1 φ base c env S = some (fl, env', S') → Sim K β S H → EnvR K β H S.length env σ → Aft K base β S H env' S' fl E → t E σ H
def Ssd (K : PySem.W.Frag) (φ : Phi) (t : TS) (c : Ss) : Prop := ∀ (base : Nat) (β : Nat → Addr) (env : Ev) (S : Sto) (σ : L2.St) (H : Hp) (E : Ends) (fl : Fl) (env' : Ev) (S' : Sto),
  exs φ base c env S = some (fl, env', S') → Sim K β S H → EnvR K β H S.length env σ → Aft K base β S H env' S' fl E → t E σ H
theorem Aft.gr {fl : Fl} (a : Aft K base β S H env' S' fl E) (g : Gr base β S H β1 S1 H1) : Aft K base β1 S1 H1 env' S' fl E := fun β' σ' H' g' s' r' => a β' σ' H' (g.trans g') s' r'

theorem sd_set {te : TE} {e : Ex} {i : Nat} (h : ES K φ te e) : S1d K φ (tAsg te (gName i)) (.set i e) := by
  intro base β env S σ H E fl env' S' ev s r a
  rw [ex1] at ev
  rcases h1 : evE φ base env e S with _ | ⟨x, S1⟩
  · rw [h1] at ev; cases ev
  · rw [h1] at ev
    cases ev
    exact h base β env S σ H _ x _ h1 s r fun β1 v H1 g1 s1 r1 c1 => a β1 _ H1 g1 s1 ((r.gr g1).set i c1 r1)
theorem sd_par {ta tb : TE} {x y : Ex} {i j : Nat} (hx : ES K φ ta x) (hy : ES K φ tb y) : S1d K φ (tPar i j (tCons ta (tCons tb tNil))) (.par i j x y) := by
  intro base β env S σ H E fl env' S' ev s r a
  rw [ex1] at ev
  rcases h1 : evE φ base env x S with _ | ⟨d1, S1⟩
  · rw [h1] at ev; cases ev
  · rw [h1] at ev
    simp only at ev
    rcases h2 : evE φ base env y S1 with _ | ⟨d2, S2⟩
    · rw [h2] at ev; cases ev
    · rw [h2] at ev
      cases ev
      exact ES.two hx hy h1 h2 s r fun β2 u w H2 g2 s2 r1 r2 c1 c2 => ⟨u, w, rfl, a β2 _ H2 g2 s2 (((r.gr g2).set i c1 r1).set j c2 r2)⟩
theorem sd_unp {te : TE} {e : Ex} {is : List Nat} (h : ES K φ te e) : S1d K φ (tAsg te (rdG K (.tp is))) (.unp is e) := by
  intro base β env S σ H E fl env' S' ev s r a
  rw [ex1] at ev
  rcases h1 : evE φ base env e S with _ | ⟨x, S1⟩
  · rw [h1] at ev; cases ev
  · rw [h1] at ev
    cases x with
    | tup ds =>
      obtain ⟨env1, e1, e2⟩ := map_some (show (setAll env is ds).map (fun env1 => (Fl.nx, env1, S1)) = some (fl, env', S') from ev)
      cases e2
      exact h base β env S σ H _ _ _ h1 s r fun β1 v H1 g1 s1 r1 c1 => eg (.tp is) β1 env env' S'.length σ H1 (.tup ds) v [] _ e1 (r.gr g1) r1 c1 fun σ2 r2 _ => a β1 σ2 H1 g1 s1 r2
    | _ => cases ev
theorem sd_six {to ti te : TE} {o i e : Ex} (ho : ES K φ to o) (hi : ES K φ ti i) (he : ES K φ te e) : S1d K φ (tAsg te (gSub to ti rSetL)) (.six o i e) := by
  intro base β env S σ H E fl env' S' ev s r a
  rw [ex1] at ev
  rcases h1 : evE φ base env e S with _ | ⟨x, S1⟩
  · rw [h1] at ev; cases ev
  · rw [h1] at ev
    simp only at ev
    rcases h2 : evE φ base env o S1 with _ | ⟨y, S2⟩
    · rw [h2] at ev; cases ev
    · rw [h2] at ev
      simp only at ev
      rcases h3 : evE φ base env i S2 with _ | ⟨z, S3⟩
      · rw [h3] at ev; cases ev
      · rw [h3] at ev
        simp only at ev
        obtain ⟨S4, e1, e2⟩ := map_some ev
        cases e2
        refine he base β env S σ H _ x S1 h1 s r fun β1 v H1 g1 s1 r1 c1 => ?_
        refine ES.two ho hi h2 h3 s1 (r.gr g1) fun β3 u w H3 g3 s3 r3 r4 c3 c4 => ?_
        unfold sixF at e1
        cases y with
        | ref p =>
          cases z with
          | int kk =>
            simp only at e1
            obtain ⟨xs, q, e1⟩ := lst_at (S := S3) (i := p) (f := fun xs => match ixN xs.length kk with
              | some j => if wr base p x then some (S3.set p (.lst (xs.set j x))) else none
              | none => none) e1
            cases hj : ixN xs.length kk with
            | none => rw [hj] at e1; cases e1
            | some j =>
              rw [hj] at e1
              obtain ⟨cw, e1⟩ := ite_some e1
              cases e1
              obtain ⟨ws, hh, rs, cs⟩ := s3.lst q
              have cset : ∀ m, clL m xs = true → x.cl m = true → clL m (xs.set j x) = true := fun m q1 q2 => clL_of fun t ht => by
                rcases List.mem_or_eq_of_mem_set ht with h | h
                · exact clL_mem q1 t h
                · rw [h]; exact q2
              obtain ⟨s5, g5⟩ := s3.putL (base := base) q hh (rs.set j (g3.rep r1 c1)) (cset _ cs (g3.cl c1)) fun hb m q1 => cset m q1 (wr_ok cw hb m)
              refine ⟨β3 p, ws, kk, j, r3, r4, hh, by rw [← rs.length]; exact hj, ?_⟩
              have g := (g1.trans g3).trans g5
              exact a β3 σ _ g s5 (r.gr g)
          | _ => cases e1
        | _ => cases e1
theorem sd_dst {to ti te : TE} {o i e : Ex} (ho : ES K φ to o) (hi : ES K φ ti i) (he : ES K φ te e) : S1d K φ (sDPut to ti te) (.dst o i e) := by
  intro base β env S σ H E fl env' S' ev s r a
  rw [ex1] at ev
  rcases h1 : evE φ base env e S with _ | ⟨x, S1⟩
  · rw [h1] at ev; cases ev
  · rw [h1] at ev
    simp only at ev
    rcases h2 : evE φ base env o S1 with _ | ⟨y, S2⟩
    · rw [h2] at ev; cases ev
    · rw [h2] at ev
      simp only at ev
      rcases h3 : evE φ base env i S2 with _ | ⟨z, S3⟩
      · rw [h3] at ev; cases ev
      · rw [h3] at ev
        simp only at ev
        obtain ⟨S4, e1, e2⟩ := map_some ev
        cases e2
        refine he base β env S σ H _ x S1 h1 s r fun β1 v H1 g1 s1 r1 c1 => ?_
        refine ES.two ho hi h2 h3 s1 (r.gr g1) fun β3 u w H3 g3 s3 r3 r4 c3 c4 => ?_
        unfold dstF at e1
        cases y with
        | ref p =>
          cases hk : keyD z with
          | none => rw [hk] at e1; cases e1
          | some kk =>
            rw [hk] at e1
            simp only at e1
            cases q : S3[p]? with
            | none => rw [q] at e1; cases e1
            | some so =>
              rw [q] at e1
              cases so with
              | dct kvs =>
                simp only at e1
                obtain ⟨cw, e1⟩ := ite_some e1
                cases e1
                rw [Bool.and_eq_true] at cw
                obtain ⟨kws, hh, kr1, kr2⟩ := s3.cell p _ q
                have kr : KR K β3 H3 kvs kws := ⟨kr1, kr2⟩
                have ck : clL S3.length (kvs.map (·.2)) = true := s3.cl p _ q
                have rx := g3.rep r1 c1
                have cx := g3.cl c1
                have krp := kr.put (k := kk) rx
                have ckp : clL S3.length ((dPut kvs kk x).map (·.2)) = true := cl_dPut ck cx
                have tk : TupR H3 (upd H3 (β3 p) (.dK (putK kws kk v))) := TupR.set hh (fun _ z => by cases z) (fun _ _ z => by cases z) (fun _ z => by cases z)
                obtain ⟨s5, g5⟩ := s3.put (base := base) (o' := .dct (dPut kvs kk x)) (u' := .dK (putK kws kk v)) q hh (fun _ z => by cases z) (fun _ _ z => by cases z) (fun _ z => by cases z) ckp ⟨_, upd_same, krp.1, Reps.tk tk (n := S3.length) (fun _ _ => rfl) _ _ ckp krp.2⟩ fun hb m q1 => cl_dPut q1 (wr_ok cw.1 hb m)
                refine ⟨β3 p, _, r3, .inl ⟨kws, kk, hh, keyD_ok hk r4, ?_, rfl⟩, ?_⟩
                · rw [← kr.length]
                  exact lim_line' (of_decide_eq_true cw.2)
                · have g := (g1.trans g3).trans g5
                  exact a β3 σ _ g s5 (r.gr g)
              | lst l => cases e1
              | fro l => cases e1
              | fdc l => cases e1
              | tbl _ => cases e1
        | _ => cases e1
theorem getV_at {i : Nat} {d : D} (h : getV env i = some d) : env[i]? = some (some d) := by
  unfold getV at h
  cases q : env[i]? with
  | none => rw [q] at h; cases h
  | some z => rw [q] at h; exact congrArg some h
theorem sd_aug {te : TE} {e : Ex} {i : Nat} {op : Operator} (h : ES K φ te e) : S1d K φ (tAug i te (rAug op)) (.aug i op e) := by
  intro base β env S σ H E fl env' S' ev s r a
  rw [ex1] at ev
  cases hv : getV env i with
  | none => rw [hv] at ev; cases ev
  | some x =>
    rw [hv] at ev
    simp only at ev
    obtain ⟨cx, v, hvs, rv⟩ := r.get i x (getV_at hv)
    rcases h1 : evE φ base env e S with _ | ⟨y, S1⟩
    · rw [h1] at ev; cases ev
    · rw [h1] at ev
      simp only at ev
      cases x with
      | int p =>
        cases y with
        | int q =>
          simp only at ev
          by_cases ha : augOk op = true
          · rw [if_pos ha] at ev
            rcases h2 : binF op (.int p) (.int q) S1 with _ | ⟨z, S2⟩
            · rw [h2] at ev; cases ev
            · rw [h2] at ev
              cases ev
              refine ⟨v, hvs, h base β env S σ H _ _ S1 h1 s r fun β1 w H1 g1 s1 r1 c1 => ?_⟩
              cases (show v = .int p from rv)
              cases (show w = .int q from r1)
              have fin : ∀ m : Int, z = .int m → S' = S1 → E.nx (σ.set i (some (.int m))) H1 := fun m ez es => by
                subst ez es
                exact a β1 _ H1 g1 s1 ((r.gr g1).set i rfl rfl)
              cases op with
              | Add => cases h2; exact ⟨p, q, rfl, rfl, fin _ rfl rfl⟩
              | Sub => cases h2; exact ⟨p, q, rfl, rfl, fin _ rfl rfl⟩
              | BitAnd => cases h2; exact ⟨p, q, rfl, rfl, fin _ rfl rfl⟩
              | BitOr => cases h2; exact ⟨p, q, rfl, rfl, fin _ rfl rfl⟩
              | BitXor => cases h2; exact ⟨p, q, rfl, rfl, fin _ rfl rfl⟩
              | _ => cases ha
          · rw [if_neg ha] at ev
            cases ev
        | _ => cases ev
      | _ => cases ev
theorem sd_expr {te : TE} {e : Ex} (h : ES K φ te e) : S1d K φ (tDrop te) (.expr e) := by
  intro base β env S σ H E fl env' S' ev s r a
  rw [ex1] at ev
  rcases h1 : evE φ base env e S with _ | ⟨x, S1⟩
  · rw [h1] at ev; cases ev
  · rw [h1] at ev
    cases ev
    exact h base β env S σ H _ x _ h1 s r fun β1 v H1 g1 s1 r1 c1 => a β1 σ H1 g1 s1 (r.gr g1)
theorem sd_ret {te : TE} {e : Ex} (h : ES K φ te e) : S1d K φ (tRet te) (.ret e) := by
  intro base β env S σ H E fl env' S' ev s r a
  rw [ex1] at ev
  rcases h1 : evE φ base env e S with _ | ⟨x, S1⟩
  · rw [h1] at ev; cases ev
  · rw [h1] at ev
    cases ev
    exact h base β env S σ H _ x _ h1 s r fun β1 v H1 g1 s1 r1 c1 => a β1 σ H1 g1 s1 (r.gr g1) v r1 c1
theorem sd_retN : S1d K φ tRetN .retN := by
  intro base β env S σ H E fl env' S' ev s r a
  cases ev
  exact a β σ H Gr.refl s r .non rfl rfl
theorem sd_brk : S1d K φ tBreak .brk := by
  intro base β env S σ H E fl env' S' ev s r a
  cases ev
  exact a β σ H Gr.refl s r
theorem sd_cnt : S1d K φ tCont .cnt := by
  intro base β env S σ H E fl env' S' ev s r a
  cases ev
  exact a β σ H Gr.refl s r
theorem sd_pass : S1d K φ tNext .pass := by
  intro base β env S σ H E fl env' S' ev s r a
  cases ev
  exact a β σ H Gr.refl s r
theorem sd_fail : S1d K φ tNever .fail := by
  intro base β env S σ H E fl env' S' ev s r a
  cases ev
theorem sd_ifs {tc : TT} {ta tb : TS} {c : Ex} {x y : Ss} (hc : ET K φ tc c) (hx : Ssd K φ ta x) (hy : Ssd K φ tb y) : S1d K φ (tIfS tc ta tb) (.ifs c x y) := by
  intro base β env S σ H E fl env' S' ev s r a
  rw [ex1] at ev
  rcases h1 : evT φ base env c S with _ | ⟨k, S1⟩
  · rw [h1] at ev; cases ev
  · rw [h1] at ev
    refine hc base β env S σ H _ k S1 h1 s r fun β1 H1 g1 s1 => ?_
    cases k with
    | true => rw [if_pos rfl]; exact hx base β1 env S1 σ H1 E fl env' S' ev s1 (r.gr g1) (a.gr g1)
    | false => rw [if_neg Bool.false_ne_true]; exact hy base β1 env S1 σ H1 E fl env' S' ev s1 (r.gr g1) (a.gr g1)
theorem ssd_nil : Ssd K φ tNext .nil := by
  intro base β env S σ H E fl env' S' ev s r a
  cases ev
  exact a β σ H Gr.refl s r
theorem ssd_cons {t u : TS} {c : Sm} {cs : Ss} (h : S1d K φ t c) (hs : Ssd K φ u cs) : Ssd K φ (tSeq t u) (.cons c cs) := by
  intro base β env S σ H E fl env' S' ev s r a
  rw [exs] at ev
  rcases h1 : ex1 φ base c env S with _ | ⟨f1, env1, S1⟩
  · rw [h1] at ev; cases ev
  · rw [h1] at ev
    refine h base β env S σ H _ f1 env1 S1 h1 s r fun β1 σ1 H1 g1 s1 r1 => ?_
    cases f1 with
    | nx => exact hs base β1 env1 S1 σ1 H1 E fl env' S' ev s1 r1 (a.gr g1)
    | ret v => cases ev; exact a β1 σ1 H1 g1 s1 r1
    | bk => cases ev; exact a β1 σ1 H1 g1 s1 r1
    | ct => cases ev; exact a β1 σ1 H1 g1 s1 r1

/-! ### loops -/
theorem sd_for {wi : TI} {tb : TS} {g : Tg} {it : It} {b : Ss} (hi : EI K φ wi it) (hb : Ssd K φ tb b) : S1d K φ (tFor wi (rdG K g) tb) (.for g it b) := by
  intro base β env S σ H E fl env' S' ev s r a
  rw [ex1] at ev
  rcases h1 : evI φ base env it S with _ | ⟨xs, h, S1⟩
  · rw [h1] at ev; cases ev
  · rw [h1] at ev
    simp only at ev
    refine hi base β env S σ H _ xs h S1 h1 s r fun β1 J H1 g1 s1 cx hw => ?_
    have a1 := a.gr g1
    let W : Nat → Nat → L2.St → Hp → Prop := fun i m σc Hc => ∃ (βc : Nat → Addr) (Sc : Sto) (ec : Ev), m = xs.length - i ∧ i ≤ xs.length ∧
      forF (fun d env1 S2 => match tgF g env1 d with
        | some env2 => exs φ base b env2 S2
        | none => none) (fun S2 => still S2 h xs) (xs.drop i) ec Sc = some (fl, env', S') ∧ Gr base β1 S1 H1 βc Sc Hc ∧ Sim K βc Sc Hc ∧ EnvR K βc Hc Sc.length ec σc
    refine ⟨W, ⟨xs.length, β1, S1, env, by simp, Nat.zero_le _, ev, Gr.refl, s1, r.gr g1⟩, ?_⟩
    rintro i m σc Hc ⟨βc, Sc, ec, rfl, hil, hf, gc0, sc, rc⟩
    cases hx : xs.drop i with
    | nil =>
      have hl : xs.length ≤ i := List.drop_eq_nil_iff.mp hx
      rw [hx] at hf
      unfold forF at hf
      obtain ⟨c, e⟩ := ite_some hf
      cases e
      exact .inl ⟨(hw base βc _ Hc gc0 sc c).1 i hl, a1 βc σc Hc gc0 sc rc⟩
    | cons d ds =>
      obtain ⟨hget, hdrop, hlt⟩ := drop_get hx
      rw [hx] at hf
      unfold forF at hf
      by_cases hok : still Sc h xs = true
      · rw [if_pos hok] at hf
        obtain ⟨hgo, hyld⟩ := (hw base βc Sc Hc gc0 sc hok).2 i d hget
        have cd : d.cl Sc.length = true := D.cl_mono gc0.len d (clL_mem cx d (List.mem_of_getElem? hget))
        refine .inr ⟨hgo, fun σ' H' => ∃ m', m' < xs.length - i ∧ W (i + 1) m' σ' H', fun σ' H' h => h, fun x H' hy => ?_⟩
        obtain ⟨rfl, rx⟩ := hyld x H' hy
        cases q : tgF g ec d with
        | none => simp only [q] at hf; cases hf
        | some env2 =>
          simp only [q] at hf
          refine eg g βc ec env2 Sc.length σc H' d x [] _ q rc rx cd fun σ2 r2 _ => ?_
          rcases h2 : exs φ base b env2 Sc with _ | ⟨f1, ev1, S2⟩
          · rw [h2] at hf; cases hf
          · rw [h2] at hf
            refine hb base βc env2 Sc σ2 H' _ f1 ev1 S2 h2 sc r2 fun β2 σ3 H2 g2 s2 r3 => ?_
            have again : forF (fun d env1 S2 => match tgF g env1 d with
                | some env2 => exs φ base b env2 S2
                | none => none) (fun S2 => still S2 h xs) ds ev1 S2 = some (fl, env', S') → ∃ m', m' < xs.length - i ∧ W (i + 1) m' σ3 H2 := fun q2 =>
              ⟨xs.length - (i + 1), by omega, β2, S2, ev1, rfl, hlt, by rw [hdrop]; exact q2, gc0.trans g2, s2, r3⟩
            cases f1 with
            | nx => exact again hf
            | ct => exact again hf
            | bk =>
              cases hf
              exact a1 β2 σ3 H2 (gc0.trans g2) s2 r3
            | ret v =>
              cases hf
              exact a1 β2 σ3 H2 (gc0.trans g2) s2 r3
      · rw [if_neg hok] at hf
        cases hf
theorem sd_while {tc : TT} {tb : TS} {c : Ex} {b : Ss} (hc : ET K φ tc c) (hb : Ssd K φ tb b) : S1d K φ (tWhile tc tb) (.while c b) := by
  intro base β env S σ H E fl env' S' ev s r a
  rw [ex1] at ev
  let W : Nat → L2.St → Hp → Prop := fun m σc Hc => ∃ (βc : Nat → Addr) (Sc : Sto) (ec : Ev), whF (fun env1 S1 => evT φ base env1 c S1) (fun env1 S1 => exs φ base b env1 S1) m ec Sc = some (fl, env', S') ∧
    Gr base β S H βc Sc Hc ∧ Sim K βc Sc Hc ∧ EnvR K βc Hc Sc.length ec σc
  refine ⟨W, ⟨fuel, β, S, env, ev, Gr.refl, s, r⟩, ?_⟩
  rintro m σc Hc ⟨βc, Sc, ec, hw, gc0, sc, rc⟩
  cases m with
  | zero => cases hw
  | succ m =>
    rw [whF] at hw
    rcases h1 : evT φ base ec c Sc with _ | ⟨k, S1⟩
    · rw [h1] at hw; cases hw
    · rw [h1] at hw
      refine hc base βc ec Sc σc Hc _ k S1 h1 sc rc fun β1 H1 g1 s1 => ?_
      cases k with
      | false =>
        rw [if_neg Bool.false_ne_true]
        cases hw
        exact a β1 σc H1 (gc0.trans g1) s1 (rc.gr g1)
      | true =>
        rw [if_pos rfl]
        simp only at hw
        refine ⟨fun σ' H' => ∃ m', m' < m + 1 ∧ W m' σ' H', fun σ' H' h => h, ?_⟩
        rcases h2 : exs φ base b ec S1 with _ | ⟨f1, ev1, S2⟩
        · rw [h2] at hw; cases hw
        · rw [h2] at hw
          refine hb base β1 ec S1 σc H1 _ f1 ev1 S2 h2 s1 (rc.gr g1) fun β2 σ3 H2 g2 s2 r3 => ?_
          have gg := (gc0.trans g1).trans g2
          cases f1 with
          | nx => exact ⟨m, Nat.lt_succ_self m, β2, S2, ev1, hw, gg, s2, r3⟩
          | ct => exact ⟨m, Nat.lt_succ_self m, β2, S2, ev1, hw, gg, s2, r3⟩
          | bk =>
            cases hw
            exact a β2 σ3 H2 gg s2 r3
          | ret v =>
            cases hw
            exact a β2 σ3 H2 gg s2 r3
mutual
theorem s1All (X : Cx) (φ : Phi) : ∀ c : Sm, S1d X.K φ (rd1 X.K φ c) c
  | .set i e => sd_set (esAll X φ e).1
  | .par i j a b => sd_par (esAll X φ a).1 (esAll X φ b).1
  | .unp is e => sd_unp (esAll X φ e).1
  | .six o i e => sd_six (esAll X φ o).1 (esAll X φ i).1 (esAll X φ e).1
  | .dst o i e => sd_dst (esAll X φ o).1 (esAll X φ i).1 (esAll X φ e).1
  | .aug i op e => sd_aug (esAll X φ e).1
  | .expr e => sd_expr (esAll X φ e).1
  | .ifs c a b => sd_ifs (esAll X φ c).2 (ssAll X φ a) (ssAll X φ b)
  | .for g it b => sd_for (eiAll X φ it) (ssAll X φ b)
  | .while c b => sd_while (esAll X φ c).2 (ssAll X φ b)
  | .ret e => sd_ret (esAll X φ e).1
  | .retN => sd_retN
  | .brk => sd_brk
  | .cnt => sd_cnt
  | .pass => sd_pass
  | .fail => sd_fail
theorem ssAll (X : Cx) (φ : Phi) : ∀ c : Ss, Ssd X.K φ (rds X.K φ c) c
  | .nil => ssd_nil
  | .cons s ss => ssd_cons (s1All X φ s) (ssAll X φ ss)
end
end
end Z
end
section
set_option Elab.async false
set_option linter.all false
set_option autoImplicit false
/-! is this code the code of that text? -/
namespace Z
open PySem L2

/-- what a def's text is read by: its names by slot, the defs, the constants -/
structure Cc where
  N : List Str
  fns : List Str
  cons : List (Str × Int)
  /-- the def whose lambdas may be made -/
  tab : Option Str := none

def bltNames : List Str := ["len", "abs", "int", "bool", "max", "min", "sum", "all", "any", "tuple", "list", "sorted", "range", "isinstance", "str", "dict", "set"]
def Bl.nm : Bl → Str
  | .len => "len"
  | .abs => "abs"
  | .int => "int"
  | .bool => "bool"
  | .max2 => "max"
  | .min2 => "min"
  | .sum => "sum"
  | .all => "all"
  | .any => "any"
  | .tuple => "tuple"
  | .list => "list"
  | .sorted => "sorted"
  | .sortedT => "sorted"
def Ik.nm : Ik → Str
  | .int => "int"
  | .bool => "bool"
  | .tuple => "tuple"
  | .list => "list"
  | .str => "str"
def Mt.nm : Mt → Str
  | .append => "append"
  | .pop => "pop"
  | .popAt => "pop"
  | .bits => "bit_length"
/-- how many arguments a method takes -/
def metN : Mt → List Expr → Bool
  | .append, args => args.length == 1
  | .popAt, args => args.length == 1
  | .pop, args => args.length == 0
  | .bits, args => args.length == 0
def visB (sc : Scope) (x : Str) : Bool := match sc.names.lookup x with
  | some .local => true
  | some .cell => true
  | some .free => true
  | _ => false
def glB (sc : Scope) (x : Str) : Bool := match sc.names.lookup x with
  | some .globalImplicit => true
  | _ => false
def plainB (x : Str) : Bool := !(x == ("__debug__" : Str)) && !(x == ("__classdict__" : Str)) && !(x == ("__name__" : Str))
def slotB (cc : Cc) (sc : Scope) (i : Nat) (x : Str) : Bool := visB sc x && decide (cc.N[i]? = some x) && plainB x
/-- what may stand ahead of a method's name -/
def recB : Expr → Bool
  | .Name _ _ => true
  | .Subscript _ _ _ => true
  | _ => false
def notSlB : Expr → Bool
  | .Slice _ _ _ _ => false
  | _ => true
def ownOf (N : List Str) (scope : Scope) : List (Str × Nat) := scope.names.filterMap fun p => match p.2 with
  | .local => (N.findIdx? (fun x => decide (x = p.1))).map fun i => (p.1, i)
  | .cell => (N.findIdx? (fun x => decide (x = p.1))).map fun i => (p.1, i)
  | _ => none
/-- a name that a comprehension may set -/
def setB (cc : Cc) (scope sc : Scope) (i : Nat) (x : Str) : Bool := decide (cc.N[i]? = some x) && (match (relS scope sc).names.lookup x with
  | some .local => true
  | some .cell => decide (scope.names.lookup x = some .cell)
  | _ => false)
def ckTgs (cc : Cc) (scope sc : Scope) : List Nat → List Expr → Bool
  | [], [] => true
  | i :: is, .Name x _ :: es => setB cc scope sc i x && ckTgs cc scope sc is es
  | _, _ => false
def ckTg (cc : Cc) (scope sc : Scope) : Tg → Expr → Bool
  | .nm i, .Name x _ => setB cc scope sc i x
  | .tp is, .Tuple es _ _ => ckTgs cc scope sc is es
  | _, _ => false
def notFree : NameKind → Bool
  | .free => false
  | _ => true
/-- the names of a lambda with one parameter -/
def lamN (y : Str) : Bool := decide (y = ("row" : Str)) || decide (y = ("_law_one" : Str)) || decide (y = ("line" : Str)) || decide (y = ("k" : Str)) || decide (y = ("one" : Str)) || decide (y = ("group" : Str)) || decide (y = ("table" : Str))
theorem bind_lam {name qual : Str} {y : Str} {py : Pos} {body : Expr} {scope : Scope} {cl : List (Str × Addr)} {pm cdv ctv u : Value} (h : lamN y = true) :
    bindArgs (PySem.W.kla_fn name qual ⟨[], [⟨y, none, py⟩], none, [], [], none, []⟩ body scope cl pm cdv ctv) ⟨[u], []⟩ = pure [(y, u)] := by
  unfold lamN at h
  simp only [Bool.or_eq_true, decide_eq_true_eq] at h
  rcases h with (((((h | h) | h) | h) | h) | h) | h <;> (subst h; rfl)
def lamS (y : Str) (scope : Scope) : Bool := lamN y && NdefX.nscB [y] [y] [] scope && scope.names.all (fun z => notFree z.2)
mutual
def ckE (cc : Cc) : Ex → Scope → Expr → Bool
  | .var i, sc, e => (match e with
    | .Name x _ => slotB cc sc i x
    | _ => false)
  | .con i, sc, e => (match e with
    | .Name x _ => glB sc x && decide (cc.cons.lookup x = some i) && plainB x
    | _ => false)
  | .non, sc, e => (match e with
    | .Constant .none _ _ => true
    | _ => false)
  | .bl b, sc, e => (match e with
    | .Constant (.bool c) _ _ => b == c
    | _ => false)
  | .int b, sc, e => (match e with
    | .Constant (.int c) _ _ => decide (b = c)
    | _ => false)
  | .str b, sc, e => (match e with
    | .Constant (.str c) _ _ => decide (b = c)
    | _ => false)
  | .bin op a b, sc, e => (match e with
    | .BinOp ea o eb _ => decide (op = o) && ckE cc a sc ea && ckE cc b sc eb
    | _ => false)
  | .un op a, sc, e => (match e with
    | .UnaryOp o ea _ => decide (op = o) && !decide (op = .Not) && ckE cc a sc ea
    | _ => false)
  | .cmp op a b, sc, e => (match e with
    | .Compare ea [o] [eb] _ => decide (op = o) && !behindInMarks op eb && ckE cc a sc ea && ckE cc b sc eb
    | _ => false)
  | .chn o1 o2 a b c, sc, e => (match e with
    | .Compare ea [p1, p2] [eb, ec] _ => decide (o1 = p1) && decide (o2 = p2) && !lastMarks [p1, p2] [eb, ec] && ckE cc a sc ea && ckE cc b sc eb && ckE cc c sc ec
    | _ => false)
  | .and a b, sc, e => (match e with
    | .BoolOp .And (ea :: eb :: rest) p => ckE cc a sc ea && (match rest with
      | [] => ckE cc b sc eb
      | z :: zs => ckE cc b sc (.BoolOp .And (eb :: z :: zs) p))
    | _ => false)
  | .or a b, sc, e => (match e with
    | .BoolOp .Or (ea :: eb :: rest) p => ckE cc a sc ea && (match rest with
      | [] => ckE cc b sc eb
      | z :: zs => ckE cc b sc (.BoolOp .Or (eb :: z :: zs) p))
    | _ => false)
  | .not a, sc, e => (match e with
    | .UnaryOp .Not ea _ => ckE cc a sc ea
    | _ => false)
  | .ite c a b, sc, e => (match e with
    | .IfExp ec ea eb _ => ckE cc c sc ec && ckE cc a sc ea && ckE cc b sc eb
    | _ => false)
  | .tup es, sc, e => (match e with
    | .Tuple xs _ _ => ckS cc es sc xs
    | _ => false)
  | .lst es, sc, e => (match e with
    | .List xs _ => ckS cc es sc xs
    | _ => false)
  | .ix a b, sc, e => (match e with
    | .Subscript ea eb _ => notSlB eb && ckE cc a sc ea && ckE cc b sc eb
    | _ => false)
  | .dix a b, sc, e => (match e with
    | .Subscript ea eb _ => notSlB eb && ckE cc a sc ea && ckE cc b sc eb
    | _ => false)
  | .sl a lo hi, sc, e => (match e with
    | .Subscript ea (.Slice l h none _) _ => ckE cc a sc ea && ckO cc lo sc l && ckO cc hi sc h
    | _ => false)
  | .rev a, sc, e => (match e with
    | .Subscript ea (.Slice none none (some (.UnaryOp .USub (.Constant (.int 1) _ _) _)) _) _ => ckE cc a sc ea
    | _ => false)
  | .rg1 t a, sc, e => (match e with
    | .Call (.Name x _) [.Call (.Name y _) [ea] [] _] [] _ => decide (x = if t = true then ("tuple" : Str) else "list") && glB sc x && decide (y = ("range" : Str)) && glB sc y && ckE cc a sc ea
    | _ => false)
  | .rg2 t a b, sc, e => (match e with
    | .Call (.Name x _) [.Call (.Name y _) [ea, eb] [] _] [] _ => decide (x = if t = true then ("tuple" : Str) else "list") && glB sc x && decide (y = ("range" : Str)) && glB sc y && ckE cc a sc ea && ckE cc b sc eb
    | _ => false)
  | .srs a, sc, e => (match e with
    | .Call (.Name x _) [.Call (.Name y _) [ea] [] _] [] _ => decide (x = ("sorted" : Str)) && glB sc x && decide (y = ("set" : Str)) && glB sc y && ckE cc a sc ea
    | _ => false)
  | .call f es, sc, e => (match e with
    | .Call (.Name x _) args [] _ => decide (f = x) && glB sc x && plainB x && cc.fns.contains x && ckS cc es sc args
    | _ => false)
  | .blt b es, sc, e => (match e with
    | .Call (.Name x _) (a1 :: args) [] _ => decide (x = b.nm) && glB sc x && ckS cc es sc (a1 :: args)
    | _ => false)
  | .met m o es, sc, e => (match e with
    | .Call (.Attribute eo x ap) args [] p => decide (x = m.nm) && recB eo && (ap.endLine == p.line) && ckE cc o sc eo && ckS cc es sc args && metN m args
    | _ => false)
  | .isi a k, sc, e => (match e with
    | .Call (.Name x _) [ea, .Name t _] [] _ => decide (x = ("isinstance" : Str)) && glB sc x && decide (t = k.nm) && glB sc t && ckE cc a sc ea
    | _ => false)
  | .dic, sc, e => (match e with
    | .Dict [] [] _ => true
    | _ => false)
  | .dgt o k v, sc, e => (match e with
    | .Call (.Attribute eo x ap) [ek, ev] [] p => decide (x = ("get" : Str)) && recB eo && (ap.endLine == p.line) && ckE cc o sc eo && ckE cc k sc ek && ckE cc v sc ev
    | _ => false)
  | .lc own g it c e0, sc, e => (match e with
    | .ListComp elt [⟨tg, iter, ifs, 0⟩] scope _ => decide (own = (ownOf cc.N scope).map (·.2)) && blkC cc.N sc scope (ownOf cc.N scope) && ckTg cc scope sc g tg && ckI cc it sc iter && ckC cc c (relS scope sc) ifs && ckE cc e0 (relS scope sc) elt
    | _ => false)
  | .lck own i o c e0, sc, e => (match e with
    | .ListComp elt [⟨.Name x _, .Name y _, ifs, 0⟩] scope _ => decide (own = (ownOf cc.N scope).map (·.2)) && blkC cc.N sc scope (ownOf cc.N scope) && setB cc scope sc i x && slotB cc sc o y && ckC cc c (relS scope sc) ifs && ckE cc e0 (relS scope sc) elt
    | _ => false)
  | .skl j nm a k, sc, e => (match e with
    | .Call (.Name x _) [ea] [⟨some kw, .Lambda ⟨[], [⟨y, none, _⟩], none, [], [], none, []⟩ body scope _, _⟩] _ => decide (x = ("sorted" : Str)) && glB sc x && decide (kw = PySem.Str.ofString "key") && decide (cc.tab = some nm) && lamS y scope && ckE cc a sc ea && ckE ⟨[y], [], cc.cons, none⟩ k scope body
    | _ => false)
termination_by structural x => x
def ckS (cc : Cc) : Es → Scope → List Expr → Bool
  | .nil, sc, es => (match es with
    | [] => true
    | _ => false)
  | .cons c cs, sc, es => (match es with
    | e :: r => ckE cc c sc e && ckS cc cs sc r
    | [] => false)
termination_by structural x => x
def ckO (cc : Cc) : Ox → Scope → Option Expr → Bool
  | .no, sc, o => (match o with
    | none => true
    | _ => false)
  | .yes c, sc, o => (match o with
    | some e => ckE cc c sc e
    | none => false)
termination_by structural x => x
def ckC (cc : Cc) : Ox → Scope → List Expr → Bool
  | .no, sc, o => (match o with
    | [] => true
    | _ => false)
  | .yes c, sc, o => (match o with
    | [e] => ckE cc c sc e
    | _ => false)
termination_by structural x => x
def ckI (cc : Cc) : It → Scope → Expr → Bool
  | .ex c, sc, e => ckE cc c sc e
  | .rng1 a, sc, e => (match e with
    | .Call (.Name x _) [ea] [] _ => decide (x = ("range" : Str)) && glB sc x && ckE cc a sc ea
    | _ => false)
  | .rng2 a b, sc, e => (match e with
    | .Call (.Name x _) [ea, eb] [] _ => decide (x = ("range" : Str)) && glB sc x && ckE cc a sc ea && ckE cc b sc eb
    | _ => false)
termination_by structural x => x
end

/-! ### the context -/
/-- a def that keeps its promise -/
structure FnS (X : Cx) (k : Nat) (φ : Phi) (f : Str) : Prop where
  ex : ∃ (a : Addr) (fd : FuncData) (ps : List Str), FnOk X.prog X.w X.K X.mg X.base CX0 k a fd ps (spOf X.K (φ f)) ∧ X.mg f = some (.ref a) ∧ PySem.W.keepIn X.K (.ref a) = true ∧ Binds X.K fd ps []
structure Ctx (X : Cx) (cc : Cc) (sc : Scope) (k : Nat) (φ : Phi) : Prop where
  nN : X.N = cc.N
  nd : cc.N.Nodup
  sc : X.env.scope = sc
  calm : X.calm = true
  room : Room k X.A
  blt : ∀ x ∈ bltNames, X.mg x = none
  con : ∀ x i, cc.cons.lookup x = some i → ∃ t, X.mg x = some (.int i t)
  fn : ∀ f, f ∈ cc.fns → FnS X k φ f
  tb : ∀ nm, cc.tab = some nm → ∃ c, X.env.code = .ref c ∧ LamX.TabB X.base X.mg c (tabOf X.K nm) ∧ X.env.qual ++ "<lambda>" = lamQ nm ∧ 3 ≤ k

section
variable {X : Cx} {cc : Cc} {sc : Scope} {k : Nat} {φ : Phi}
theorem Ctx.blk (h : Ctx X cc sc k φ) (s : Shared) (H : Hp) (scope : Scope) (C : Addr) (cl : List (Str × Addr)) (fp : List Addr) : Ctx (X.blk s H scope (compEnvC scope cl C X.env) fp) cc (relS scope sc) k φ :=
  ⟨h.nN, h.nd, by
    show relabel scope X.env = relS scope sc
    rw [← h.sc]
    rfl, h.calm, h.room, h.blt, h.con, fun f hf => ⟨(h.fn f hf).ex⟩, h.tb⟩
theorem vis_of {x : Str} (h : visB sc x = true) : Vis sc x := by
  unfold visB at h
  unfold Vis
  cases q : sc.names.lookup x with
  | none => rw [q] at h; cases h
  | some kd =>
    rw [q] at h
    cases kd with
    | «local» => exact .inl rfl
    | cell => exact .inr (.inl rfl)
    | free => exact .inr (.inr rfl)
    | globalExplicit => cases h
    | globalImplicit => cases h
theorem gl_of {x : Str} (hc : Ctx X cc sc k φ) (h : glB sc x = true) : Gl X x := by
  show X.env.scope.names.lookup x = some .globalImplicit
  rw [hc.sc]
  unfold glB at h
  cases q : sc.names.lookup x with
  | none => rw [q] at h; cases h
  | some kd =>
    rw [q] at h
    cases kd with
    | globalImplicit => rfl
    | «local» => cases h
    | cell => cases h
    | free => cases h
    | globalExplicit => cases h
theorem plain_of {x : Str} (h : plainB x = true) : (x == ("__debug__" : Str)) = false ∧ (x == ("__classdict__" : Str)) = false ∧ (x == ("__name__" : Str)) = false := by
  unfold plainB at h
  rw [Bool.and_eq_true, Bool.and_eq_true] at h
  exact ⟨by simpa using h.1.1, by simpa using h.1.2, by simpa using h.2⟩
theorem slot_of {i : Nat} {x : Str} {pos : Pos} (hc : Ctx X cc sc k φ) (h : slotB cc sc i x = true) : PE X (.Name x pos) (tVar i) := by
  unfold slotB at h
  rw [Bool.and_eq_true, Bool.and_eq_true] at h
  obtain ⟨p1, p2, _⟩ := plain_of h.2
  exact pe_var (by rw [hc.nN]; exact of_decide_eq_true h.1.2) (by rw [hc.sc]; exact vis_of h.1.1) p1 p2

/-! ### not starred -/
theorem ck_star (c : Ex) (e : Expr) (h : ckE cc c sc e = true) (es : List Expr) (env : Env) : starEach (e :: es) env = (false, eval e env) :: starEach es env := by
  cases e with
  | Starred v p => cases c <;> exact (Bool.false_ne_true h).elim
  | _ => rfl
theorem ck_any : ∀ (cs : Es) (es : List Expr), ckS cc cs sc es = true → ∀ (pos : Pos) (env : Env), (backTo pos (starEach es env)).any (·.1) = false
  | .nil, es, h, pos, env => by
    cases es with
    | nil => rfl
    | cons e r => exact (Bool.false_ne_true h).elim
  | .cons c cs, es, h, pos, env => by
    cases es with
    | nil => exact (Bool.false_ne_true h).elim
    | cons e r =>
      rw [ckS, Bool.and_eq_true] at h
      rw [ck_star c e h.1]
      show (false || (backTo pos (starEach r env)).any (·.1)) = false
      rw [ck_any cs r h.2 pos env]
      rfl
theorem ck_set (c : Ex) (e : Expr) (h : ckE cc c sc e = true) (env : Env) : ∀ x, foldedSetIterable e env x = pure x := by
  intro x
  cases e with
  | Set v p q => cases c <;> exact (Bool.false_ne_true h).elim
  | _ => rfl
end
end Z
end
section
set_option Elab.async false
set_option linter.all false
set_option autoImplicit false
/-! code that passes the check asks what the text asks -/
namespace Z
open PySem L2

section
variable {X : Cx} {cc : Cc} {sc : Scope} {k : Nat} {φ : Phi}

/-- an expression that is asked for its truth the plain way -/
def Plain (X : Cx) (e : Expr) : Prop := ∀ whole, isTrue e X.env whole = (do let v ← whole; standAt e.pos; holding [v] (truthy v))
theorem pt_plain {e : Expr} {t : TE} (h : PE X e t) (p : Plain X e) : PE X e t ∧ PT X e (tTru X.K t) := ⟨h, pt_truth h p⟩
theorem pt_ite {c a b : Expr} {pos : Pos} {tc ta tb : TT} (hc : PT X c tc) (ha : PT X a ta) (hb : PT X b tb) : PT X (.IfExp c a b pos) (tIfT tc ta tb) := by
  refine ⟨fun pins s σ H Q I h => ?_⟩
  show wpAny (model X.prog X.w) X.A (isTrue c X.env (eval c X.env) >>= fun k => if k = true then isTrue a X.env (eval a X.env) else isTrue b X.env (eval b X.env)) _ _ _
  refine wpAny_bind (thn (hc.run pins s σ H _ I h) fun k s1 ⟨H1, I1, q1⟩ => ?_)
  cases k with
  | true =>
    rw [if_pos rfl] at q1 ⊢
    exact ha.run pins s1 σ H1 Q I1 q1
  | false =>
    rw [if_neg Bool.false_ne_true] at q1 ⊢
    exact hb.run pins s1 σ H1 Q I1 q1
theorem pw_bool {op : BoolOp} {vs : List Expr} {pos : Pos} {t : TT} (h : PT X (.BoolOp op vs pos) t) : PW X (.BoolOp op vs pos) t := ⟨fun whole pins s σ H Q I hw => h.run pins s σ H Q I hw⟩
theorem OpR.pip {op : Operator} {r : R2} (h : OpR X (inplaceOp op) r) : PIp X op r := fun pins s σ H x y v u Q I rx ry q => h pins s σ H x y v u Q I rx ry q
theorem pi_or {tg l : Expr} {w1 w2 : TI} (h1 : PI X tg l w1) (h2 : PI X tg l w2) : PI X tg l (fun σ H R => w1 σ H R ∨ w2 σ H R) := ⟨fun pins s σ H R I h => h.elim (h1.run pins s σ H R I) (h2.run pins s σ H R I)⟩
theorem boot_blt (b : Bl) : ∃ v, bootBuiltins b.nm = some v ∧ v = b.v := by
  cases b <;> exact ⟨_, by decide +kernel, rfl⟩
theorem pe_blt {b : Bl} {x : Str} {a : Expr} {args : List Expr} {t : TA} {p pos : Pos} (hc : Ctx X cc sc k φ) (hx : x = b.nm) (hg : Gl X x) (ha : PA X (a :: args) t)
    (he : starEach (a :: args) X.env = (false, eval a X.env) :: starEach args X.env) (hp : (backTo pos (starEach args X.env)).any (·.1) = false) : PE X (.Call (.Name x p) (a :: args) [] pos) (tCB (rBlt X.K b) t) := by
  subst hx
  have hm : X.mg b.nm = none := hc.blt _ (by cases b <;> decide +kernel)
  have hr := call_blt hc.calm (by have := hc.room.un; omega) b
  cases b with
  | len => exact pe_callB (id := "len") hr hg hm (by decide +kernel) ha (by decide) (by decide) he hp
  | abs => exact pe_callB (id := "abs") hr hg hm (by decide +kernel) ha (by decide) (by decide) he hp
  | int => exact pe_callTy (T := "int") hr hg hm (by decide +kernel) ha (by decide) (by decide) he hp
  | bool => exact pe_callTy (T := "bool") hr hg hm (by decide +kernel) ha (by decide) (by decide) he hp
  | max2 => exact pe_callB (id := "max") hr hg hm (by decide +kernel) ha (by decide) (by decide) he hp
  | min2 => exact pe_callB (id := "min") hr hg hm (by decide +kernel) ha (by decide) (by decide) he hp
  | sum => exact pe_callB (id := "sum") hr hg hm (by decide +kernel) ha (by decide) (by decide) he hp
  | all => exact pe_callB (id := "all") hr hg hm (by decide +kernel) ha (by decide) (by decide) he hp
  | any => exact pe_callB (id := "any") hr hg hm (by decide +kernel) ha (by decide) (by decide) he hp
  | tuple => exact pe_callTy (T := "tuple") hr hg hm (by decide +kernel) ha (by decide) (by decide) he hp
  | list => exact pe_callTy (T := "list") hr hg hm (by decide +kernel) ha (by decide) (by decide) he hp
  | sorted => exact pe_callB (id := "sorted") hr hg hm (by decide +kernel) ha (by decide) (by decide) he hp
  | sortedT => exact pe_callB (id := "sorted") hr hg hm (by decide +kernel) ha (by decide) (by decide) he hp
theorem rec_base {o : Expr} {m : Str} {env : Env} (h : recB o = true) : attributeBase o m env (eval o env) = eval o env := by
  cases o with
  | Name x p => rfl
  | Subscript a b p => rfl
  | _ => cases h
theorem notSl_plain {b : Expr} (h : notSlB b = true) : PlainIx b := by
  cases b with
  | Slice _ _ _ _ => cases h
  | _ => exact fun _ _ => rfl
theorem and3 {a b c : Bool} (h : (a && b && c) = true) : a = true ∧ b = true ∧ c = true := by
  rw [Bool.and_eq_true, Bool.and_eq_true] at h
  exact ⟨h.1.1, h.1.2, h.2⟩
theorem and2 {a b : Bool} (h : (a && b) = true) : a = true ∧ b = true := Bool.and_eq_true_iff.mp h
theorem few_one {e : Expr} {cpos : Pos} {env : Env} (hs : starEach [e] env = (false, eval e env) :: starEach [] env) : ((backTo cpos (starEach [e] env)).all (fun x => !x.1) && (backToKw cpos (keywordEach [] env)).all (fun x => x.1.isSome)
      && decide (([e] : List Expr).length + ([] : List Keyword).length + (if ([] : List Keyword).isEmpty then 0 else 1) < 30)) = true := by
  rw [hs]
  rfl
theorem few_two {e f : Expr} {cpos : Pos} {env : Env} (hs : starEach [e, f] env = (false, eval e env) :: starEach [f] env) (hs2 : starEach [f] env = (false, eval f env) :: starEach [] env) : ((backTo cpos (starEach [e, f] env)).all (fun x => !x.1) && (backToKw cpos (keywordEach [] env)).all (fun x => x.1.isSome)
      && decide (([e, f] : List Expr).length + ([] : List Keyword).length + (if ([] : List Keyword).isEmpty then 0 else 1) < 30)) = true := by
  rw [hs, hs2]
  rfl
theorem set_of {Y : Cx} {scope : Scope} {i : Nat} {x : Str} {pos : Pos} (hN : Y.N = cc.N) (nd : cc.N.Nodup) (hs : Y.env.scope = relS scope sc) (hf : Y.fn = fun x => scope.names.lookup x == some .cell) (h : setB cc scope sc i x = true) : PG Y (.Name x pos) (gName i) := by
  unfold setB at h
  rw [Bool.and_eq_true] at h
  have hi : Y.N[i]? = some x := by rw [hN]; exact of_decide_eq_true h.1
  have h2 := h.2
  cases q : (relS scope sc).names.lookup x with
  | none => rw [q] at h2; cases h2
  | some kd =>
    rw [q] at h2
    cases kd with
    | «local» => exact pg_name (by rw [hN]; exact nd) hi (by rw [hs]; exact .inl q) (.inr (by rw [hs]; exact q))
    | cell => exact pg_name (by rw [hN]; exact nd) hi (by rw [hs]; exact .inr q) (.inl (by rw [hf]; simp [of_decide_eq_true h2]))
    | free => cases h2
    | globalExplicit => cases h2
    | globalImplicit => cases h2
theorem sets_of {Y : Cx} {scope : Scope} (hN : Y.N = cc.N) (nd : cc.N.Nodup) (hs : Y.env.scope = relS scope sc) (hf : Y.fn = fun x => scope.names.lookup x == some .cell) : ∀ (is : List Nat) (es : List Expr), ckTgs cc scope sc is es = true →
    PGs Y es (is.foldr (fun i t => gCons (gName i) t) gNil) ∧ is.length = es.length
  | [], [], _ => ⟨pgs_nil, rfl⟩
  | i :: is, .Name x p :: es, h => by
    have h' : (setB cc scope sc i x && ckTgs cc scope sc is es) = true := h
    obtain ⟨h1, h2⟩ := and2 h'
    obtain ⟨q1, q2⟩ := sets_of hN nd hs hf is es h2
    exact ⟨pgs_cons (set_of hN nd hs hf h1) q1, by rw [List.length_cons, List.length_cons, q2]⟩
  | [], _ :: _, h => (Bool.false_ne_true h).elim
  | _ :: _, [], h => (Bool.false_ne_true h).elim
  | i :: is, e :: es, h => by
    cases e with
    | Name x p =>
      have h' : (setB cc scope sc i x && ckTgs cc scope sc is es) = true := h
      obtain ⟨h1, h2⟩ := and2 h'
      obtain ⟨q1, q2⟩ := sets_of hN nd hs hf is es h2
      exact ⟨pgs_cons (set_of hN nd hs hf h1) q1, by rw [List.length_cons, List.length_cons, q2]⟩
    | _ => exact (Bool.false_ne_true h).elim
theorem asg_each : ∀ (es : List Expr) (env : Env), (assignEach es env).length = es.length
  | [], _ => rfl
  | e :: es, env => by
    cases e <;> (show (assignEach es env).length + 1 = es.length + 1; rw [asg_each es env])
theorem asg_len {n : Nat} (es : List Expr) (env : Env) (h : n = es.length) : (assignEach es env).length = n := by
  rw [asg_each, h]
theorem asg_star {scope : Scope} : ∀ (is : List Nat) (es : List Expr), ckTgs cc scope sc is es = true → ∀ env : Env, (assignEach es env).findIdx? (·.1) = none
  | [], [], _, _ => rfl
  | [], _ :: _, h, _ => (Bool.false_ne_true h).elim
  | _ :: _, [], h, _ => (Bool.false_ne_true (show false = true from h)).elim
  | i :: is, e :: es, h, env => by
    cases e with
    | Name x p =>
      obtain ⟨_, h2⟩ := and2 (show (setB cc scope sc i x && ckTgs cc scope sc is es) = true from h)
      have ih := asg_star is es h2 env
      show ((false, assign (.Name x p) env) :: assignEach es env).findIdx? (·.1) = none
      rw [List.findIdx?_cons]
      simp [ih]
    | _ => exact (Bool.false_ne_true h).elim
theorem ckI_set (c : It) (e : Expr) (h : ckI cc c sc e = true) (env : Env) : ∀ x, foldedSetIterable e env x = pure x := by
  cases c with
  | ex c => exact ck_set c e h env
  | rng1 a =>
    intro x
    cases e with
    | Set v p q => exact (Bool.false_ne_true h).elim
    | _ => rfl
  | rng2 a b =>
    intro x
    cases e with
    | Set v p q => exact (Bool.false_ne_true h).elim
    | _ => rfl
end
end Z
end
section
set_option Elab.async false
set_option linter.all false
set_option autoImplicit false
set_option maxRecDepth 100000
set_option maxHeartbeats 4000000
/-! t[::-1], xs[::-1] -/
namespace Z
open PySem L2 PySem.Spec PyProof.Rows HT
section
variable {prog : Program} {w : World} {A : Around} {E : Value → Shared → Prop} {s : Shared}
theorem applied_rev {sl : Addr} {vl vu vs : Value} {n : Nat} {Q : Int × Int × Nat → Shared → Prop} (hs : s.heap.IsSliceOf sl vl vu vs) (pl : IsPart vl none) (pu : IsPart vu none) (ps : IsPart vs (some (-1)))
    (h : Q ((n : Int) - 1, -1, n) s) : wpAny (model prog w) A (Builtin.Slice.sliceApplied (.ref sl) (pure (n : Int))) Q E s := by
  obtain ⟨os, hos, hcs, hds⟩ := id hs
  unfold Builtin.Slice.sliceApplied Builtin.Slice.sliceFields
  refine wpAny_bind (wpAny_bind (wpAny_field hos hds (x := vl) rfl (wpAny_bind (wpAny_field hos hds (x := vu) rfl (wpAny_bind (wpAny_field hos hds (x := vs) rfl (wpAny_pure ?_)))))))
  refine wpAny_bind (slicePart_ ps ?_)
  show wpAny _ _ (if ((-1 : Int) == 0) = true then _ else _) _ _ s
  rw [if_neg (by decide)]
  refine wpAny_bind (slicePart_ pl (wpAny_bind (slicePart_ pu (wpAny_bind (wpAny_pure ?_)))))
  show wpAny _ _ (match Builtin.Slice.sliceAdjust none none (-1) (n : Int) with | (lo, hi) => pure (lo, (-1 : Int), Builtin.Slice.slicePlaces lo hi (-1))) _ _ s
  have e1 : Builtin.Slice.sliceAdjust none none (-1) (n : Int) = ((n : Int) - 1, -1) := by
    unfold Builtin.Slice.sliceAdjust
    simp
  have e2 : Builtin.Slice.slicePlaces ((n : Int) - 1) (-1) (-1) = n := by
    unfold Builtin.Slice.slicePlaces
    have h1 : ¬ ((-1 : Int) > 0) := by omega
    simp only [h1, if_false]
    by_cases h2 : (n : Int) - 1 > -1
    · simp only [h2, if_true]
      have : ((n : Int) - 1 - -1 - 1) / (- -1) = (n : Int) - 1 := by
        have : (- -1 : Int) = 1 := by omega
        rw [this, Int.ediv_one]
        omega
      rw [this]
      omega
    · simp only [h2, if_false]
      have : n = 0 := by omega
      subst this
      rfl
  rw [e1]
  show wpAny _ _ (pure ((n : Int) - 1, (-1 : Int), Builtin.Slice.slicePlaces ((n : Int) - 1) (-1) (-1))) _ _ s
  rw [e2]
  exact wpAny_pure h
theorem fm_congr {α γ : Type} {f g : α → Option γ} : ∀ {l : List α}, (∀ m ∈ l, f m = g m) → l.filterMap f = l.filterMap g
  | [], _ => rfl
  | a :: l, h => by
    rw [List.filterMap_cons, List.filterMap_cons, h a List.mem_cons_self, fm_congr fun m hm => h m (List.mem_cons_of_mem _ hm)]
theorem rev_pick (xs : Array Value) : ((List.range xs.size).filterMap fun (m : Nat) => xs[(((xs.size : Nat) : Int) - 1 + (m : Int) * -1).toNat]?).toArray = xs.toList.reverse.toArray := by
  congr 1
  have e : ∀ m ∈ List.range xs.size, xs[(((xs.size : Nat) : Int) - 1 + (m : Int) * -1).toNat]? = xs.toList.reverse[m]? := fun m hm => by
    have hm' : m < xs.size := List.mem_range.mp hm
    have e2 : (((xs.size : Nat) : Int) - 1 + (m : Int) * -1).toNat = xs.size - 1 - m := by omega
    rw [e2, List.getElem?_reverse (by rw [Array.length_toList]; exact hm'), Array.length_toList, Array.getElem?_toList]
  rw [fm_congr e]
  have e3 : xs.size = xs.toList.reverse.length := by simp
  rw [e3]
  generalize xs.toList.reverse = l
  clear e e3
  have gen : ∀ (l : List Value) (j : Nat), (List.range' j (l.length - j)).filterMap (fun m => l[m]?) = l.drop j := by
    intro l j
    generalize hk : l.length - j = k
    induction k generalizing j with
    | zero =>
      rw [List.drop_eq_nil_of_le (by omega)]
      rfl
    | succ k ih =>
      have hj : j < l.length := by omega
      rw [List.range'_succ, List.filterMap_cons, List.getElem?_eq_getElem hj]
      simp only
      rw [ih (j + 1) (by omega), List.drop_eq_getElem_cons hj]
  have := gen l 0
  rw [Nat.sub_zero, List.drop_zero] at this
  rw [List.range_eq_range']
  exact this
theorem getItem_tuple_rev {t sl : Addr} {items : Array Value} {vl vu vs : Value} {Q : Value → Shared → Prop} (ht : IsTup s.heap t items) (hs : s.heap.IsSliceOf sl vl vu vs) (pl : IsPart vl none) (pu : IsPart vu none) (ps : IsPart vs (some (-1)))
    (h : Q (.ref s.heap.objs.size) { s with heap := s.heap.push { cls := .type "tuple", data := .seq items.toList.reverse.toArray } })
    (hsz : items.size ≤ sizeLine) : wpAny (model prog w) A (getItem (.ref t) (.ref sl)) Q E s := by
  have htake : sizeOk (.seq items.toList.reverse.toArray) := by
    show items.toList.reverse.toArray.size ≤ sizeLine
    rw [List.size_toArray, List.length_reverse, Array.length_toList]
    exact hsz
  obtain ⟨os, hos, hcs, hds⟩ := id hs
  have hTs : s.TypeIs (.ref sl) "slice" := ⟨os, hos, hcs⟩
  unfold getItem
  try with_reducible refine wpAny_holding ?_
  first | refine wpAny_bind (wpAny_pure ?_) | skip
  refine wpAny_bind (wpAny_sequenceKey ht.typeIs (by decide) ?_)
  refine wpAny_bind (wpAny_callSpecial?_slot (name := Str.ofString "__getitem__") ht.typeIs PyProof.Rows.slot_tuple_getitem
    (wpAny_call_entry PyProof.Rows.slot_tuple_getitem ht.typeIs entry_tuple_getitem ?_ (args_tuple_getitem _ _)))
  show wpAny _ _ (Builtin.Tuple.tupleItemsOf (.ref t) >>= _) _ _ s
  refine wpAny_bind (tupleItemsOf_ ht ?_)
  refine wpAny_bind (wpAny_typeOf hTs ?_)
  rw [if_pos (by decide)]
  refine wpAny_bind (applied_rev hs pl pu ps ?_)
  have hno : ¬ ((((items.size : Nat) : Int) - 1 == 0 && (-1 : Int) == 1 && items.size == items.size) = true) := by
    intro q
    rw [Bool.and_eq_true, Bool.and_eq_true] at q
    have q1 : (-1 : Int) = 1 := eq_of_beq q.1.2
    omega
  show wpAny _ _ (if (((items.size : Nat) : Int) - 1 == 0 && (-1 : Int) == 1 && items.size == items.size) = true then _ else _) _ _ s
  rw [if_neg hno, rev_pick]
  first
    | exact wpAny_bind (m := Builtin.Tuple.tupleExact _) (wpAny_newObj_type (wpAny_pure ⟨_, rfl, wpAny_pure h⟩) htake)
    | exact wpAny_bind (m := Builtin.Tuple.tupleExact _) (wpAny_newObj_type (wpAny_bind (wpAny_pure (wpAny_pure ⟨_, rfl, wpAny_pure h⟩))) htake)
    | exact wpAny_bind (wpAny_bind (m := Builtin.Tuple.tupleExact _) (wpAny_newObj_type (wpAny_pure (wpAny_pure ⟨_, rfl, wpAny_pure h⟩)) htake))
    | exact wpAny_bind (wpAny_bind (m := Builtin.Tuple.tupleExact _) (wpAny_newObj_type (wpAny_pure ⟨_, rfl, wpAny_pure h⟩) htake))
end
section
variable {X : Cx}
theorem pe_revA {e : Expr} {te : TE} {k : Nat} {p1 p2 p3 pos : Pos} (he : PE X e te) : PE X (.Subscript e (.Slice none none (some (.UnaryOp .USub (.Constant (.int 1) k p1) p2)) p3) pos) (tRevA X.K te) := by
  refine ⟨fun pins s σ H Q I h => ?_⟩
  refine Subscript_ (thn (he.run pins s σ H _ I h) fun v s1 ⟨x, H1, I1, r1, q1⟩ => ?_)
  have hst : PO X (some (.UnaryOp .USub (.Constant (.int 1) k p1) p2)) (tPart (tUn (rU fun i => .int (-i)) (tC (.int 1)))) := po_some (pe_un un_neg pe_int)
  refine wpAny_Slice (thn (po_none.run pins s1 σ H1 (fun o H2 => o = none ∧ H2 = H1) I1 ⟨rfl, rfl⟩) fun vl s2 ⟨l, H2, I2, pl, el, e2⟩ => ?_)
  subst el e2
  refine thn (po_none.run pins s2 σ H2 (fun o H3 => o = none ∧ H3 = H2) I2 ⟨rfl, rfl⟩) fun vu s3 ⟨u, H3, I3, pu, eu, e3⟩ => ?_
  subst eu e3
  refine thn (hst.run pins s3 σ H3 (fun o H4 => o = some (-1) ∧ H4 = H3) I3 ⟨1, rfl, -1, rfl, rfl, rfl⟩) fun vs s4 ⟨o, H4, I4, ps, eo, e4⟩ => ?_
  subst eo e4
  have I5 : Inv X pins σ H4 { s4 with heap := s4.heap.push { cls := .type "slice", data := .fields #[vl, vu, vs] } } := I4.kept (t' := s4.toks) fun b ob q => Heap.get?_push_of_some _ q
  rcases q1 with ⟨a, xs, ex, hx, q⟩ | ⟨a, xs, ex, hx, q⟩
  · subst ex
    cases r1
    obtain ⟨its, r, ht, hz⟩ := I5.list hx
    have hlen := r.length
    show wpAny (model X.prog X.w) X.A (subscriptTail e (.Slice none none (some (.UnaryOp .USub (.Constant (.int 1) k p1) p2)) p3) (.ref a) (.ref s4.heap.objs.size)) (EP X pins σ Q) X.xe { s4 with heap := s4.heap.push { cls := .type "slice", data := .fields #[vl, vu, vs] } }
    refine tail_any (ops := [.ref a, .ref s4.heap.objs.size]) ht.isList.typeIs (PySem.slot_list_getitem.lookup) ?_ (by with_unfolding_all rfl)
    refine wpAny_getItem_list_slice ht.isList (Heap.IsSliceOf.new _ vl vu vs) pl pu ps (by decide) ?_ (by rw [List.size_toArray]; omega)
    rw [PySem.W.krv_pick]
    refine ⟨.ref _, _, I5.laid (t' := s4.toks) (o := .lst xs.reverse) (fun b ob q => Heap.get?_push_of_some _ q) (Nat.le_refl _) ?_, rfl, q _ (I5.hok.fresh (Nat.le_refl _))⟩
    exact ⟨by rw [List.length_reverse]; exact hz, _, 0, r.reverse, Heap.get?_push_size _ rfl⟩
  · subst ex
    cases r1
    obtain ⟨its, r, ht, hz⟩ := I5.tuple hx
    have hlen := r.length
    show wpAny (model X.prog X.w) X.A (subscriptTail e (.Slice none none (some (.UnaryOp .USub (.Constant (.int 1) k p1) p2)) p3) (.ref a) (.ref s4.heap.objs.size)) (EP X pins σ Q) X.xe { s4 with heap := s4.heap.push { cls := .type "slice", data := .fields #[vl, vu, vs] } }
    refine tail_any (ops := [.ref a, .ref s4.heap.objs.size]) ht.typeIs (PyProof.Rows.slot_tuple_getitem.lookup) ?_ (by with_unfolding_all rfl)
    refine getItem_tuple_rev ht (Heap.IsSliceOf.new _ vl vu vs) pl pu ps ?_ (by rw [List.size_toArray]; omega)
    refine ⟨.ref _, _, I5.laid (t' := s4.toks) (o := .tup xs.reverse) (fun b ob q => Heap.get?_push_of_some _ q) (Nat.le_refl _) ?_, rfl, q _ (I5.hok.fresh (Nat.le_refl _))⟩
    exact ⟨by rw [List.length_reverse]; exact hz, _, r.reverse, _, Heap.get?_push_size _ rfl, rfl, 0, rfl⟩
theorem PE.weaken {e : Expr} {t t' : TE} (h : PE X e t) (i : ∀ σ H Q, t' σ H Q → t σ H Q) : PE X e t' := ⟨fun pins s σ H Q I q => h.run pins s σ H Q I (i σ H Q q)⟩
/-- what is asked, made monotone -/
def tMono (t : TE) : TE := fun σ H Q => ∃ R : VK, t σ H R ∧ ∀ x H', R x H' → Q x H'
theorem PE.clos {e : Expr} {t : TE} (h : PE X e t) : PE X e (tMono t) := ⟨fun pins s σ H Q I ⟨R, q, i⟩ => thn (h.run pins s σ H R I q) fun v s1 ⟨x, H1, I1, r1, q1⟩ => ⟨x, H1, I1, r1, i x H1 q1⟩⟩
theorem insU_mem (x k : Int) : ∀ l : List Int, k ∈ insU x l ↔ k = x ∨ k ∈ l
  | [] => by simp [insU]
  | y :: r => by
    unfold insU
    by_cases h : x < y
    · rw [if_pos h]; simp
    · rw [if_neg h]
      by_cases h2 : x = y
      · rw [if_pos h2]; subst h2; simp
      · rw [if_neg h2, List.mem_cons, insU_mem x k r, List.mem_cons]
        constructor
        · rintro (a | a | a) <;> simp [a]
        · rintro (a | a | a) <;> simp [a]
theorem insU_asc (x : Int) : ∀ l : List Int, l.Pairwise (· < ·) → (insU x l).Pairwise (· < ·)
  | [], _ => List.pairwise_singleton _ _
  | y :: r, h => by
    unfold insU
    obtain ⟨h1, h2⟩ := List.pairwise_cons.mp h
    by_cases c : x < y
    · rw [if_pos c]
      refine List.pairwise_cons.mpr ⟨fun z hz => ?_, h⟩
      rcases List.mem_cons.mp hz with rfl | hz
      · exact c
      · have := h1 z hz; omega
    · rw [if_neg c]
      by_cases c2 : x = y
      · rw [if_pos c2]; exact h
      · rw [if_neg c2]
        refine List.pairwise_cons.mpr ⟨fun z hz => ?_, insU_asc x r h2⟩
        rcases (insU_mem x z r).mp hz with rfl | hz
        · omega
        · exact h1 z hz
theorem srtU_mem (k : Int) : ∀ l : List Int, k ∈ srtU l ↔ k ∈ l
  | [] => by simp [srtU]
  | x :: r => by
    show k ∈ insU x (srtU r) ↔ _
    rw [insU_mem, srtU_mem k r, List.mem_cons]
theorem srtU_asc : ∀ l : List Int, (srtU l).Pairwise (· < ·)
  | [] => List.Pairwise.nil
  | x :: r => insU_asc x _ (srtU_asc r)
theorem asc_same : ∀ {l m : List Int}, l.Pairwise (· < ·) → m.Pairwise (· < ·) → (∀ k, k ∈ l ↔ k ∈ m) → l = m
  | [], [], _, _, _ => rfl
  | [], y :: m, _, _, h => absurd ((h y).mpr List.mem_cons_self) (by simp)
  | x :: l, [], _, _, h => absurd ((h x).mp List.mem_cons_self) (by simp)
  | x :: l, y :: m, hl, hm, h => by
    obtain ⟨l1, l2⟩ := List.pairwise_cons.mp hl
    obtain ⟨m1, m2⟩ := List.pairwise_cons.mp hm
    have e : x = y := by
      rcases List.mem_cons.mp ((h x).mp List.mem_cons_self) with e | hx
      · exact e
      · rcases List.mem_cons.mp ((h y).mpr List.mem_cons_self) with e | hy
        · exact e.symm
        · have a := m1 x hx
          have b := l1 y hy
          omega
    subst e
    congr 1
    refine asc_same l2 m2 fun k => ⟨fun hk => ?_, fun hk => ?_⟩
    · rcases List.mem_cons.mp ((h k).mp (List.mem_cons_of_mem _ hk)) with e | q
      · have := l1 k hk; omega
      · exact q
    · rcases List.mem_cons.mp ((h k).mpr (List.mem_cons_of_mem _ hk)) with e | q
      · have := m1 k hk; omega
      · exact q
/-- set(t) -/
def rSetT (K : PySem.W.Frag) (w : World) : List V → Hp → VK → Prop := fun vs H Q => ∃ (p : Addr) (ns : List Int), vs = [V.ref p] ∧ (SqL K H p (ns.map V.int) ∨ SqT K H p (ns.map V.int)) ∧ ns.length < 64 ∧
  ∀ (a : Addr) (c : Nat), c ≤ ns.length → H a = none → Q (.ref a) (upd H a (SetO w a (fun j => decide (j ∈ ns)) c))
theorem cr_setT (hc : X.calm = true) : CallR X (.type "set") (rSetT X.K X.w) := by
  intro pins s σ H vs us Q I r h
  obtain ⟨p, ns, rfl, hq, hl, q⟩ := h
  rw [Vals.ref1 r]
  rcases hq with hq | hq
  · obtain ⟨its, rv, pl, hz⟩ := I.list hq
    have hi : IntsAre its.toArray.toList ns := ints_of_vals rv
    refine set_of_list ns (I.ok.hd hc) pl.isList hi (by unfold scanBound; omega) fun h' tk c R1 hcn k => ?_
    exact ⟨.ref s.heap.objs.size, upd H s.heap.objs.size (SetO X.w s.heap.objs.size (fun j => decide (j ∈ ns)) c), I.laid (t' := tk) k (Nat.le_refl _) (setO_new R1), rfl, q _ c hcn (I.hok.fresh (Nat.le_refl _))⟩
  obtain ⟨its, rv, pt, hz⟩ := I.tuple hq
  have hi : IntsAre its.toArray.toList ns := ints_of_vals rv
  refine call_set_tupI ns (I.ok.hd hc) (show s.heap.IsTuple p its.toArray from pt) hi (by unfold scanBound; omega) fun h' tk c R1 hcn k => ?_
  exact ⟨.ref s.heap.objs.size, upd H s.heap.objs.size (SetO X.w s.heap.objs.size (fun j => decide (j ∈ ns)) c), I.laid (t' := tk) k (Nat.le_refl _) (setO_new R1), rfl, q _ c hcn (I.hok.fresh (Nat.le_refl _))⟩
theorem pe_srs {e : Expr} {te : TE} {p1 p2 p3 pos : Pos} (hc : X.calm = true) (hg1 : Gl X "sorted") (hm1 : X.mg "sorted" = none) (hg2 : Gl X "set") (hm2 : X.mg "set" = none) (he : PE X e te) (hs : starEach [e] X.env = (false, eval e X.env) :: starEach [] X.env) :
    PE X (.Call (.Name "sorted" p1) [.Call (.Name "set" p2) [e] [] p3] [] pos) (tSrs X.K te) := by
  have h1 : PE X (.Call (.Name "set" p2) [e] [] p3) _ := pe_callTy (T := "set") (cr_setT hc) hg2 hm2 PyProof.Rows.boot_set (pa_cons (PE.clos he) pa_nil hs) (by decide) (by decide) hs rfl
  have h2 := pe_callB (id := "sorted") (p := p1) (pos := pos) (cr_sortedSet hc) hg1 hm1 (by decide +kernel) (pa_cons h1 pa_nil rfl) (by decide) (by decide) rfl rfl
  refine PE.weaken h2 fun σ H Q q => ?_
  refine ⟨_, q, fun x H1 hx => ?_⟩
  obtain ⟨a, ns, rfl, hq, hl, hn⟩ := hx
  refine ⟨a, ns, rfl, hq, hl, fun p c hcl hp => ⟨p, _, c, rfl, upd_same, by omega, fun ns' q hs hm hl' hn' => ?_⟩⟩
  have e : ns' = srtU ns := asc_same hs (srtU_asc ns) fun k => by rw [hm k, srtU_mem, decide_eq_true_eq]
  subst e
  exact hn p _ q hp hn'
end
end Z
end
section
set_option Elab.async false
set_option linter.all false
set_option autoImplicit false
set_option maxHeartbeats 4000000
/-! code that passes the check asks what the text asks: all expressions -/
namespace Z
open PySem L2

section
variable {φ : Phi}

theorem units65 {cc : Cc} {k : Nat} {X : Cx} {sc : Scope} (hc : Ctx X cc sc k φ) : X.A.units + 65 < cLine := by
  have := hc.room.un
  omega
theorem not_ck {P : Prop} (h : false = true) : P := (Bool.false_ne_true h).elim
abbrev Ok (X : Cx) (φ : Phi) (c : Ex) (e : Expr) : Prop := PE X e (rdP X.K φ c).1 ∧ PT X e (rdP X.K φ c).2
theorem ok_comp {cc : Cc} {k : Nat} {X : Cx} {sc : Scope} {own : List Nat} {g : Tg} {wi : TI} {tt : TT} {te : TE} {elt tg iter : Expr} {ifs : List Expr} {scope : Scope} {pos : Pos} (hc : Ctx X cc sc k φ) (ho : own = (ownOf cc.N scope).map (·.2)) (hb : blkC cc.N sc scope (ownOf cc.N scope) = true)
    (hg : ckTg cc scope sc g tg = true) (hi : PI X tg iter wi) (hs : ∀ x, foldedSetIterable iter X.env x = pure x)
    (ht : ∀ (Y : Cx), Y.K = X.K → Ctx Y cc (relS scope sc) k φ → PTs Y ifs tt) (he : ∀ (Y : Cx), Y.K = X.K → Ctx Y cc (relS scope sc) k φ → PE Y elt te) :
    PE X (.ListComp elt [⟨tg, iter, ifs, 0⟩] scope pos) (tLc wi (rdG X.K g) tt te own) := by
  subst ho
  refine pe_lc (own := ownOf cc.N scope) hc.calm (by rw [hc.nN]; exact hc.nd) hi (by rw [hc.nN, hc.sc]; exact blkOk_by hb) (fun s H C cl fp => ?_) (fun s H C cl fp => ht _ rfl (hc.blk s H scope C cl fp)) (fun s H C cl fp => he _ rfl (hc.blk s H scope C cl fp)) hs
  have hb' := hc.blk s H scope C cl fp
  cases g with
  | nm i =>
    cases tg with
    | Name x p => exact set_of (sc := sc) (scope := scope) hb'.nN hb'.nd hb'.sc rfl hg
    | _ => exact not_ck hg
  | tp is =>
    cases tg with
    | Tuple es n p =>
      obtain ⟨h1, h2⟩ := sets_of (Y := X.blk s H scope (compEnvC scope cl C X.env) fp) (sc := sc) (scope := scope) hb'.nN hb'.nd hb'.sc rfl is es hg
      exact pg_tup hc.calm h1 (asg_len es _ h2) (asg_star is es hg _)
    | _ => exact not_ck hg
mutual
theorem ckE_ok {cc : Cc} {k : Nat} (X : Cx) (sc : Scope) (hc : Ctx X cc sc k φ) : ∀ (c : Ex) (e : Expr), ckE cc c sc e = true → Ok X φ c e
  | .var i, e, h => by
    cases e with
    | Name x p => exact pt_plain (slot_of hc h) fun _ => rfl
    | _ => exact not_ck h
  | .con i, e, h => by
    cases e with
    | Name x p =>
      obtain ⟨h1, h2, h3⟩ := and3 h
      obtain ⟨p1, _, _⟩ := plain_of h3
      obtain ⟨t, ht⟩ := hc.con x i (of_decide_eq_true h2)
      exact pt_plain (pe_glob (gl_of hc h1) ht ⟨t, rfl⟩ p1) fun _ => rfl
    | _ => exact not_ck h
  | .non, e, h => by
    cases e with
    | Constant v q p =>
      cases v with
      | none => exact pt_plain pe_non fun _ => rfl
      | _ => exact not_ck h
    | _ => exact not_ck h
  | .bl b, e, h => by
    cases e with
    | Constant v q p =>
      cases v with
      | bool c =>
        cases eq_of_beq (show (b == c) = true from h)
        exact pt_plain pe_bl fun _ => rfl
      | _ => exact not_ck h
    | _ => exact not_ck h
  | .int b, e, h => by
    cases e with
    | Constant v q p =>
      cases v with
      | int c =>
        cases of_decide_eq_true (show decide (b = c) = true from h)
        exact pt_plain pe_int fun _ => rfl
      | _ => exact not_ck h
    | _ => exact not_ck h
  | .str b, e, h => by
    cases e with
    | Constant v q p =>
      cases v with
      | str c =>
        cases of_decide_eq_true (show decide (b = c) = true from h)
        exact pt_plain pe_str fun _ => rfl
      | _ => exact not_ck h
    | _ => exact not_ck h
  | .bin op a b, e, h => by
    cases e with
    | BinOp ea o eb p =>
      obtain ⟨h1, h2, h3⟩ := and3 h
      cases of_decide_eq_true h1
      exact pt_plain (pe_op (op_bin op) (ckE_ok X sc hc a ea h2).1 (ckE_ok X sc hc b eb h3).1) fun _ => rfl
    | _ => exact not_ck h
  | .un op a, e, h => by
    cases e with
    | UnaryOp o ea p =>
      obtain ⟨h1, h2, h3⟩ := and3 h
      cases of_decide_eq_true h1
      have hp : PE X (.UnaryOp op ea p) (tUn (rUnF op) (rdP X.K φ a).1) := pe_un (un_op op) (ckE_ok X sc hc a ea h3).1
      refine pt_plain hp fun _ => ?_
      cases op with
      | Not => exact not_ck h2
      | _ => rfl
    | _ => exact not_ck h
  | .cmp op a b, e, h => by
    cases e with
    | Compare ea os es p =>
      rcases os with _ | ⟨o, _ | ⟨o2, os⟩⟩
      · exact not_ck h
      · rcases es with _ | ⟨eb, _ | ⟨e2, es⟩⟩
        · exact not_ck h
        · have h' : (decide (op = o) && !behindInMarks op eb && ckE cc a sc ea && ckE cc b sc eb) = true := h
          obtain ⟨h12, h3, h4⟩ := and3 h'
          obtain ⟨h1, h2⟩ := and2 h12
          cases of_decide_eq_true h1
          have hm : behindInMarks op eb = false := by simpa using h2
          have ha := (ckE_ok X sc hc a ea h3).1
          have hb := (ckE_ok X sc hc b eb h4).1
          exact ⟨pe_cmpR (op_cmp (units65 hc) op) ha hb hm, pt_cmpR (op_cmp (units65 hc) op) ha hb hm⟩
        · exact not_ck h
      · exact not_ck h
    | _ => exact not_ck h
  | .chn o1 o2 a b c, e, h => by
    cases e with
    | Compare ea os es p =>
      rcases os with _ | ⟨q1, _ | ⟨q2, _ | ⟨q3, os⟩⟩⟩
      · exact not_ck h
      · exact not_ck h
      · rcases es with _ | ⟨eb, _ | ⟨ec, _ | ⟨e3, es⟩⟩⟩
        · exact not_ck h
        · exact not_ck h
        · have h' : (decide (o1 = q1) && decide (o2 = q2) && !lastMarks [q1, q2] [eb, ec] && ckE cc a sc ea && ckE cc b sc eb && ckE cc c sc ec) = true := h
          obtain ⟨h14, h5, h6⟩ := and3 h'
          obtain ⟨h12, h3, h4⟩ := and3 h14
          obtain ⟨h1, h2⟩ := and2 h12
          cases of_decide_eq_true h1
          cases of_decide_eq_true h2
          have hm : lastMarks [o1, o2] [eb, ec] = false := by simpa using h3
          have ha := (ckE_ok X sc hc a ea h4).1
          have hb := (ckE_ok X sc hc b eb h5).1
          have hcc := (ckE_ok X sc hc c ec h6).1
          exact ⟨pe_chain (op_cmp (units65 hc) o1) (op_cmp (units65 hc) o2) ha hb hcc hm, pt_chain (op_cmp (units65 hc) o1) (op_cmp (units65 hc) o2) ha hb hcc hm⟩
        · exact not_ck h
      · exact not_ck h
    | _ => exact not_ck h
  | .and a b, e, h => by
    cases e with
    | BoolOp op vs p =>
      cases op with
      | And =>
        rcases vs with _ | ⟨ea, _ | ⟨eb, _ | ⟨z, zs⟩⟩⟩
        · exact not_ck h
        · exact not_ck h
        · obtain ⟨h1, h2⟩ := and2 (show (ckE cc a sc ea && ckE cc b sc eb) = true from h)
          have ha := ckE_ok X sc hc a ea h1
          have hb := ckE_ok X sc hc b eb h2
          exact ⟨pe_andT ha.1 (pe_one hb.1), (pw_and ha.2 (pw_and1 hb.2)).pt⟩
        · obtain ⟨h1, h2⟩ := and2 (show (ckE cc a sc ea && ckE cc b sc (.BoolOp .And (eb :: z :: zs) p)) = true from h)
          have ha := ckE_ok X sc hc a ea h1
          have hb := ckE_ok X sc hc b _ h2
          exact ⟨pe_andT ha.1 hb.1, (pw_and ha.2 (pw_bool hb.2)).pt⟩
      | Or => exact not_ck h
    | _ => exact not_ck h
  | .or a b, e, h => by
    cases e with
    | BoolOp op vs p =>
      cases op with
      | Or =>
        rcases vs with _ | ⟨ea, _ | ⟨eb, _ | ⟨z, zs⟩⟩⟩
        · exact not_ck h
        · exact not_ck h
        · obtain ⟨h1, h2⟩ := and2 (show (ckE cc a sc ea && ckE cc b sc eb) = true from h)
          have ha := ckE_ok X sc hc a ea h1
          have hb := ckE_ok X sc hc b eb h2
          exact ⟨pe_orT ha.1 (pe_one hb.1), (pw_or ha.2 (pw_or1 hb.2)).pt⟩
        · obtain ⟨h1, h2⟩ := and2 (show (ckE cc a sc ea && ckE cc b sc (.BoolOp .Or (eb :: z :: zs) p)) = true from h)
          have ha := ckE_ok X sc hc a ea h1
          have hb := ckE_ok X sc hc b _ h2
          exact ⟨pe_orT ha.1 hb.1, (pw_or ha.2 (pw_bool hb.2)).pt⟩
      | And => exact not_ck h
    | _ => exact not_ck h
  | .not a, e, h => by
    cases e with
    | UnaryOp o ea p =>
      cases o with
      | Not =>
        have ha := ckE_ok X sc hc a ea h
        exact ⟨pe_notT ha.1, pt_not ha.2⟩
      | _ => exact not_ck h
    | _ => exact not_ck h
  | .ite c a b, e, h => by
    cases e with
    | IfExp ec ea eb p =>
      obtain ⟨h1, h2, h3⟩ := and3 h
      have hcc := ckE_ok X sc hc c ec h1
      have ha := ckE_ok X sc hc a ea h2
      have hb := ckE_ok X sc hc b eb h3
      exact ⟨pe_ifExp hcc.2 ha.1 hb.1, pt_ite hcc.2 ha.2 hb.2⟩
    | _ => exact not_ck h
  | .tup es, e, h => by
    cases e with
    | Tuple xs q p => exact pt_plain (pe_tup (ckS_ok X sc hc es xs h)) fun _ => rfl
    | _ => exact not_ck h
  | .lst es, e, h => by
    cases e with
    | List xs p => exact pt_plain (pe_lst (ckS_ok X sc hc es xs h)) fun _ => rfl
    | _ => exact not_ck h
  | .ix a b, e, h => by
    cases e with
    | Subscript ea eb p =>
      have h' : (notSlB eb && ckE cc a sc ea && ckE cc b sc eb) = true := h
      obtain ⟨h1, h2, h3⟩ := and3 h'
      exact pt_plain (pe_ix (IxR.or ix_list ix_tup) (ckE_ok X sc hc a ea h2).1 (ckE_ok X sc hc b eb h3).1 (notSl_plain h1)) fun _ => rfl
    | _ => exact not_ck h
  | .dix a b, e, h => by
    cases e with
    | Subscript ea eb p =>
      have h' : (notSlB eb && ckE cc a sc ea && ckE cc b sc eb) = true := h
      obtain ⟨h1, h2, h3⟩ := and3 h'
      exact pt_plain (pe_dget (by have := units65 hc; omega) (ckE_ok X sc hc a ea h2).1 (ckE_ok X sc hc b eb h3).1 (notSl_plain h1)) fun _ => rfl
    | _ => exact not_ck h
  | .sl a lo hi, e, h => by
    cases e with
    | Subscript ea es p =>
      cases es with
      | Slice l u st q =>
        cases st with
        | none =>
          have h' : (ckE cc a sc ea && ckO cc lo sc l && ckO cc hi sc u) = true := h
          obtain ⟨h1, h2, h3⟩ := and3 h'
          exact pt_plain (pe_slice (SlR.or sl_list sl_tupA) (ckE_ok X sc hc a ea h1).1 (ckO_ok X sc hc lo l h2) (ckO_ok X sc hc hi u h3)) fun _ => rfl
        | some z => exact not_ck h
      | _ => exact not_ck h
    | _ => exact not_ck h
  | .rev a, e, h => by
    revert h
    show (match e with
      | .Subscript ea (.Slice none none (some (.UnaryOp .USub (.Constant (.int 1) _ _) _)) _) _ => ckE cc a sc ea
      | _ => false) = true → _
    split
    · intro h
      exact pt_plain (pe_revA (ckE_ok X sc hc a _ h).1) fun _ => rfl
    · exact fun h => not_ck h
  | .rg1 t a, e, h => by
    revert h
    show (match e with
      | .Call (.Name x _) [.Call (.Name y _) [ea] [] _] [] _ => decide (x = if t = true then ("tuple" : Str) else "list") && glB sc x && decide (y = ("range" : Str)) && glB sc y && ckE cc a sc ea
      | _ => false) = true → _
    split
    · intro h
      obtain ⟨h13, h4, h5⟩ := and3 h
      obtain ⟨h1, h2, h3⟩ := and3 h13
      cases of_decide_eq_true h3
      have g1 := gl_of hc h2
      have g2 := gl_of hc h4
      have st := ck_star a _ h5 [] X.env
      have rg := fun p pos => prg_1 (X := X) (pos := pos) (p := p) g2 (hc.blt _ (by decide +kernel)) (ckE_ok X sc hc a _ h5).1 st
      cases t with
      | true =>
        cases of_decide_eq_true h1
        exact pt_plain (pe_tupRg hc.calm g1 (hc.blt _ (by decide +kernel)) (rg _ _) rfl) fun _ => rfl
      | false =>
        cases of_decide_eq_true h1
        exact pt_plain (pe_listRg hc.calm g1 (hc.blt _ (by decide +kernel)) (rg _ _) rfl) fun _ => rfl
    · exact fun h => not_ck h
  | .rg2 t a b, e, h => by
    revert h
    show (match e with
      | .Call (.Name x _) [.Call (.Name y _) [ea, eb] [] _] [] _ => decide (x = if t = true then ("tuple" : Str) else "list") && glB sc x && decide (y = ("range" : Str)) && glB sc y && ckE cc a sc ea && ckE cc b sc eb
      | _ => false) = true → _
    split
    · intro h
      obtain ⟨h14, h5, h6⟩ := and3 h
      obtain ⟨h12, h3, h4⟩ := and3 h14
      obtain ⟨h1, h2⟩ := and2 h12
      rename_i x0 q1 y0 q2 ea eb q3 q4
      cases of_decide_eq_true h3
      have g1 := gl_of hc h2
      have g2 := gl_of hc h4
      have st := ck_star a ea h5 [eb] X.env
      have st2 := ck_star b _ h6 [] X.env
      have rg := fun p pos => prg_2 (X := X) (pos := pos) (p := p) g2 (hc.blt _ (by decide +kernel)) (ckE_ok X sc hc a _ h5).1 (ckE_ok X sc hc b _ h6).1 st st2 (by rw [st2]; rfl)
      cases t with
      | true =>
        cases of_decide_eq_true h1
        exact pt_plain (pe_tupRg hc.calm g1 (hc.blt _ (by decide +kernel)) (rg _ _) rfl) fun _ => rfl
      | false =>
        cases of_decide_eq_true h1
        exact pt_plain (pe_listRg hc.calm g1 (hc.blt _ (by decide +kernel)) (rg _ _) rfl) fun _ => rfl
    · exact fun h => not_ck h
  | .srs a, e, h => by
    revert h
    show (match e with
      | .Call (.Name x _) [.Call (.Name y _) [ea] [] _] [] _ => decide (x = ("sorted" : Str)) && glB sc x && decide (y = ("set" : Str)) && glB sc y && ckE cc a sc ea
      | _ => false) = true → _
    split
    · intro h
      obtain ⟨h13, h4, h5⟩ := and3 h
      obtain ⟨h1, h2, h3⟩ := and3 h13
      cases of_decide_eq_true h1
      cases of_decide_eq_true h3
      exact pt_plain (pe_srs hc.calm (gl_of hc h2) (hc.blt _ (by decide +kernel)) (gl_of hc h4) (hc.blt _ (by decide +kernel)) (ckE_ok X sc hc a _ h5).1 (ck_star a _ h5 [] X.env)) fun _ => rfl
    · exact fun h => not_ck h
  | .call f es, e, h => by
    cases e with
    | Call g args kws p =>
      cases g with
      | Name x q =>
        cases kws with
        | nil =>
          have h' : (decide (f = x) && glB sc x && plainB x && cc.fns.contains x && ckS cc es sc args) = true := h
          obtain ⟨h13, h4, h5⟩ := and3 h'
          obtain ⟨h1, h2, h3⟩ := and3 h13
          cases of_decide_eq_true h1
          obtain ⟨p1, _, _⟩ := plain_of h3
          obtain ⟨a, fd, ps, F, hm, hk, hb⟩ := (hc.fn f (by simpa using h4)).ex
          refine pt_plain ?_ fun _ => rfl
          cases es with
          | nil =>
            cases args with
            | nil => exact pe_call0 (dvs := []) (ds := []) F hc.room (gl_of hc h2) hm hk hb .nil pass0 p1
            | cons e1 r => exact not_ck h5
          | cons c cs =>
            cases args with
            | nil => exact not_ck h5
            | cons e1 r =>
              have h5' : (ckE cc c sc e1 && ckS cc cs sc r) = true := h5
              obtain ⟨h6, h7⟩ := and2 h5'
              exact pe_call (dvs := []) (ds := []) F hc.room (gl_of hc h2) hm hk hb .nil pass0 (ckS_ok X sc hc (.cons c cs) (e1 :: r) h5) p1 (ck_star c e1 h6 r X.env) (ck_any cs r h7 p X.env)
        | cons _ _ => exact not_ck h
      | _ => exact not_ck h
    | _ => exact not_ck h
  | .blt b es, e, h => by
    cases e with
    | Call g args kws p =>
      cases g with
      | Name x q =>
        cases kws with
        | nil =>
          cases args with
          | nil => exact not_ck h
          | cons e1 r =>
            have h' : (decide (x = b.nm) && glB sc x && ckS cc es sc (e1 :: r)) = true := h
            obtain ⟨h1, h2, h3⟩ := and3 h'
            cases es with
            | nil => exact not_ck h3
            | cons c cs =>
              have h5' : (ckE cc c sc e1 && ckS cc cs sc r) = true := h3
              obtain ⟨h6, h7⟩ := and2 h5'
              exact pt_plain (pe_blt hc (of_decide_eq_true h1) (gl_of hc h2) (ckS_ok X sc hc (.cons c cs) (e1 :: r) h3) (ck_star c e1 h6 r X.env) (ck_any cs r h7 p X.env)) fun _ => rfl
        | cons _ _ => cases args <;> exact not_ck h
      | _ => exact not_ck h
    | _ => exact not_ck h
  | .met m o es, e, h => by
    cases e with
    | Call g args kws p =>
      cases g with
      | Attribute eo x ap =>
        cases kws with
        | nil =>
          have h' : (decide (x = m.nm) && recB eo && (ap.endLine == p.line) && ckE cc o sc eo && ckS cc es sc args && metN m args) = true := h
          obtain ⟨h14, h5, h6⟩ := and3 h'
          obtain ⟨h12, h3, h4⟩ := and3 h14
          obtain ⟨h1, h2⟩ := and2 h12
          cases of_decide_eq_true h1
          have ho := (ckE_ok X sc hc o eo h4).1
          have hs := ckS_ok X sc hc es args h5
          have hbase : attributeBase eo m.nm X.env (eval eo X.env) = eval eo X.env := rec_base h2
          cases m with
          | append =>
            rcases args with _ | ⟨e1, _ | ⟨e2, r⟩⟩
            · exact not_ck h6
            · cases es with
              | nil => exact not_ck h5
              | cons c cs =>
                have h5' : (ckE cc c sc e1 && ckS cc cs sc []) = true := h5
                have st := ck_star c e1 (and2 h5').1 [] X.env
                exact pt_plain (pe_bm PySem.F.plainAttrs_list PySem.F.slot_list_append PySem.F.type_list_append mt_append ho hs hbase (few_one st) h3 st rfl) fun _ => rfl
            · exact not_ck h6
          | popAt =>
            rcases args with _ | ⟨e1, _ | ⟨e2, r⟩⟩
            · exact not_ck h6
            · cases es with
              | nil => exact not_ck h5
              | cons c cs =>
                have h5' : (ckE cc c sc e1 && ckS cc cs sc []) = true := h5
                have st := ck_star c e1 (and2 h5').1 [] X.env
                exact pt_plain (pe_bm PySem.F.plainAttrs_list PySem.F.slot_list_pop PySem.F.type_list_pop mt_popAt ho hs hbase (few_one st) h3 st rfl) fun _ => rfl
            · exact not_ck h6
          | pop =>
            rcases args with _ | ⟨e1, r⟩
            · exact pt_plain (pe_bm0 PySem.F.plainAttrs_list PySem.F.slot_list_pop PySem.F.type_list_pop mt_pop ho hbase h3) fun _ => rfl
            · exact not_ck h6
          | bits =>
            rcases args with _ | ⟨e1, r⟩
            · exact pt_plain (pe_bits ho hbase h3) fun _ => rfl
            · exact not_ck h6
        | cons _ _ => exact not_ck h
      | _ => exact not_ck h
    | _ => exact not_ck h
  | .isi a kk, e, h => by
    cases e with
    | Call g args kws p =>
      cases g with
      | Name x q =>
        cases kws with
        | nil =>
          rcases args with _ | ⟨ea, _ | ⟨et, _ | ⟨e3, r⟩⟩⟩
          · exact not_ck h
          · exact not_ck h
          · cases et with
            | Name t tp =>
              have h' : (decide (x = ("isinstance" : Str)) && glB sc x && decide (t = kk.nm) && glB sc t && ckE cc a sc ea) = true := h
              obtain ⟨h13, h4, h5⟩ := and3 h'
              obtain ⟨h1, h2, h3⟩ := and3 h13
              cases of_decide_eq_true h1
              cases of_decide_eq_true h3
              have st := ck_star a ea h5 [.Name kk.nm tp] X.env
              have hg2 := gl_of hc h4
              have hm2 : X.mg kk.nm = none := hc.blt _ (by cases kk <;> decide +kernel)
              have pt : PE X (.Name kk.nm tp) (tC (.ty kk.n)) := by
                cases kk with
                | int => exact pe_bltn hg2 hm2 (u := .type "int") (by decide +kernel) rfl (by decide) (by decide)
                | bool => exact pe_bltn hg2 hm2 (u := .type "bool") (by decide +kernel) rfl (by decide) (by decide)
                | tuple => exact pe_bltn hg2 hm2 (u := .type "tuple") (by decide +kernel) rfl (by decide) (by decide)
                | list => exact pe_bltn hg2 hm2 (u := .type "list") (by decide +kernel) rfl (by decide) (by decide)
                | str => exact pe_bltn hg2 hm2 (u := .type "str") (by decide +kernel) rfl (by decide) (by decide)
              exact pt_plain (pe_callB (id := "isinstance") call_isi (gl_of hc h2) (hc.blt _ (by decide +kernel)) (by decide +kernel) (pa_cons (ckE_ok X sc hc a ea h5).1 (pa_cons pt pa_nil rfl) st) (by decide) (by decide) st rfl) fun _ => rfl
            | _ => exact not_ck h
          · cases et <;> exact not_ck h
        | cons _ _ =>
          rcases args with _ | ⟨ea, _ | ⟨et, _ | ⟨e3, r⟩⟩⟩
          · exact not_ck h
          · exact not_ck h
          · cases et <;> exact not_ck h
          · cases et <;> exact not_ck h
      | _ => exact not_ck h
    | _ => exact not_ck h
  | .dic, e, h => by
    cases e with
    | Dict ks vs p =>
      rcases ks with _ | ⟨a, ks⟩
      · rcases vs with _ | ⟨b, vs⟩
        · exact pt_plain pe_dnewK fun _ => rfl
        · exact not_ck h
      · exact not_ck h
    | _ => exact not_ck h
  | .dgt o kx v, e, h => by
    cases e with
    | Call g args kws p =>
      cases g with
      | Attribute eo x ap =>
        rcases args with _ | ⟨e1, _ | ⟨e2, _ | ⟨e3, r⟩⟩⟩
        · exact not_ck h
        · exact not_ck h
        · cases kws with
          | nil =>
            have h' : (decide (x = ("get" : Str)) && recB eo && (ap.endLine == p.line) && ckE cc o sc eo && ckE cc kx sc e1 && ckE cc v sc e2) = true := h
            obtain ⟨h14, h5, h6⟩ := and3 h'
            obtain ⟨h12, h3, h4⟩ := and3 h14
            obtain ⟨h1, h2⟩ := and2 h12
            cases of_decide_eq_true h1
            have st1 := ck_star kx e1 h5 [e2] X.env
            have st2 := ck_star v e2 h6 [] X.env
            exact pt_plain (pe_dget2 (by have := units65 hc; omega) (ckE_ok X sc hc o eo h4).1 (ckE_ok X sc hc kx e1 h5).1 (ckE_ok X sc hc v e2 h6).1 ⟨rec_base h2, few_two st1 st2, h3, by rw [st1, st2]; rfl⟩) fun _ => rfl
          | cons _ _ => exact not_ck h
        · exact not_ck h
      | _ => exact not_ck h
    | _ => exact not_ck h
  | .lc own g it c e0, e, h => by
    revert h
    show (match e with
      | .ListComp elt [⟨tg, iter, ifs, 0⟩] scope _ => decide (own = (ownOf cc.N scope).map (·.2)) && blkC cc.N sc scope (ownOf cc.N scope) && ckTg cc scope sc g tg && ckI cc it sc iter && ckC cc c (relS scope sc) ifs && ckE cc e0 (relS scope sc) elt
      | _ => false) = true → _
    split
    · intro h
      rename_i elt tg iter ifs scope p
      obtain ⟨h14, h5, h6⟩ := and3 h
      obtain ⟨h12, h3, h4⟩ := and3 h14
      obtain ⟨h1, h2⟩ := and2 h12
      refine pt_plain (ok_comp hc (of_decide_eq_true h1) h2 h3 (ckI_ok X sc hc it tg iter h4) (ckI_set it iter h4 X.env) (fun Y eK hY => ?_) (fun Y eK hY => ?_)) fun _ => rfl
      · have := ckC_ok Y (relS scope sc) hY c ifs h5
        rw [eK] at this
        exact this
      · have := (ckE_ok Y (relS scope sc) hY e0 elt h6).1
        rw [eK] at this
        exact this
    · exact fun h => not_ck h
  | .lck own i o c e0, e, h => by
    revert h
    show (match e with
      | .ListComp elt [⟨.Name x _, .Name y _, ifs, 0⟩] scope _ => decide (own = (ownOf cc.N scope).map (·.2)) && blkC cc.N sc scope (ownOf cc.N scope) && setB cc scope sc i x && slotB cc sc o y && ckC cc c (relS scope sc) ifs && ckE cc e0 (relS scope sc) elt
      | _ => false) = true → _
    split
    · intro h
      rename_i elt x p1 y p2 ifs scope p
      obtain ⟨h14, h5, h6⟩ := and3 h
      obtain ⟨h12, h3, h4⟩ := and3 h14
      obtain ⟨h1, h2⟩ := and2 h12
      refine pt_plain (pe_lock (ok_comp (g := .nm i) hc (of_decide_eq_true h1) h2 h3 (pi_keys (slot_of hc h4)) (fun _ => rfl) (fun Y eK hY => ?_) (fun Y eK hY => ?_))) fun _ => rfl
      · have := ckC_ok Y (relS scope sc) hY c ifs h5
        rw [eK] at this
        exact this
      · have := (ckE_ok Y (relS scope sc) hY e0 elt h6).1
        rw [eK] at this
        exact this
    · exact fun h => not_ck h
  | .skl j nm a kx, e, h => by
    revert h
    show (match e with
      | .Call (.Name x _) [ea] [⟨some kw, .Lambda ⟨[], [⟨y, none, _⟩], none, [], [], none, []⟩ body scope _, _⟩] _ => decide (x = ("sorted" : Str)) && glB sc x && decide (kw = PySem.Str.ofString "key") && decide (cc.tab = some nm) && lamS y scope && ckE cc a sc ea && ckE ⟨[y], [], cc.cons, none⟩ kx scope body
      | _ => false) = true → _
    split
    · intro h
      rename_i x p1 ea kw y py body scope lpos kpos pos
      obtain ⟨h15, h6, h7⟩ := and3 h
      obtain ⟨h13, h4, h5⟩ := and3 h15
      obtain ⟨h1, h2, h3⟩ := and3 h13
      obtain ⟨hnm, hn, hf⟩ := and3 h5
      cases of_decide_eq_true h1
      cases of_decide_eq_true h3
      obtain ⟨c, hcode, TB, hq, h3k⟩ := hc.tb nm (of_decide_eq_true h4)
      obtain ⟨k0, rfl⟩ : ∃ k0, k = k0 + 3 := ⟨k - 3, by omega⟩
      have hfree : ∀ z ∈ scope.names, z.2 ≠ .free := fun z hz q => by
        have := List.all_eq_true.mp hf z hz
        rw [q] at this
        cases this
      have st := ck_star a ea h6 [] X.env
      have hp := LamK.pe_skl (X := X) (te := (rdP X.K φ a).1) (tk := (rdP X.K φ kx).1) (p1 := p1) (lpos := lpos) (kpos := kpos) (pos := pos) (body := body) (k := k0) TB hcode (params := ⟨[], [⟨y, none, py⟩], none, [], [], none, []⟩) rfl (NdefX.nscope_by hn) rfl rfl hfree (fun c' pm ctv us hl => match us, hl with
        | [_], _ => bind_lam hnm) hc.room (fun f c' A outer s H E hr => (ckE_ok (cc := ⟨[y], [], cc.cons, none⟩) (k := k0) (NdefX.ncx CX0 X.prog X.w X.K X.mg X.base [y] (LamK.lf X ⟨[], [⟨y, none, py⟩], none, [], [], none, []⟩ body scope c').nf f A outer s H E) scope ⟨rfl, by simp, rfl, rfl, hr, hc.blt, hc.con, (fun f hf => absurd hf (by simp)), (fun nm hnm => by cases hnm)⟩ kx body h7).1) (gl_of hc h2) (hc.blt _ (by decide +kernel)) (ckE_ok X sc hc a ea h6).1 st
      rw [hq] at hp
      exact pt_plain hp fun _ => rfl
    · exact fun h => not_ck h
theorem ckS_ok {cc : Cc} {k : Nat} (X : Cx) (sc : Scope) (hc : Ctx X cc sc k φ) : ∀ (cs : Es) (es : List Expr), ckS cc cs sc es = true → PA X es (rdA X.K φ cs)
  | .nil, es, h => by
    cases es with
    | nil => exact pa_nil
    | cons e r => exact not_ck h
  | .cons c cs, es, h => by
    cases es with
    | nil => exact not_ck h
    | cons e r =>
      obtain ⟨h1, h2⟩ := and2 (show (ckE cc c sc e && ckS cc cs sc r) = true from h)
      exact pa_cons (ckE_ok X sc hc c e h1).1 (ckS_ok X sc hc cs r h2) (ck_star c e h1 r X.env)
theorem ckO_ok {cc : Cc} {k : Nat} (X : Cx) (sc : Scope) (hc : Ctx X cc sc k φ) : ∀ (c : Ox) (o : Option Expr), ckO cc c sc o = true → PO X o (rdO X.K φ c).1
  | .no, o, h => by
    cases o with
    | none => exact po_none
    | some e => exact not_ck h
  | .yes c, o, h => by
    cases o with
    | none => exact not_ck h
    | some e => exact po_some (ckE_ok X sc hc c e h).1
theorem ckC_ok {cc : Cc} {k : Nat} (X : Cx) (sc : Scope) (hc : Ctx X cc sc k φ) : ∀ (c : Ox) (o : List Expr), ckC cc c sc o = true → PTs X o (rdO X.K φ c).2
  | .no, o, h => by
    cases o with
    | nil => exact pts_nil
    | cons e r => exact not_ck h
  | .yes c, o, h => by
    rcases o with _ | ⟨e, _ | ⟨e2, r⟩⟩
    · exact not_ck h
    · exact pts_one (ckE_ok X sc hc c e h).2
    · exact not_ck h
theorem ckI_ok {cc : Cc} {k : Nat} (X : Cx) (sc : Scope) (hc : Ctx X cc sc k φ) : ∀ (c : It) (tg e : Expr), ckI cc c sc e = true → PI X tg e (rdI X.K φ c)
  | .ex c, tg, e, h => by
    have he := (ckE_ok X sc hc c e h).1
    exact pi_or (pi_list he) (pi_tup he)
  | .rng1 a, tg, e, h => by
    cases e with
    | Call g args kws p =>
      cases g with
      | Name x q =>
        rcases args with _ | ⟨ea, _ | ⟨e2, r⟩⟩
        · exact not_ck h
        · cases kws with
          | nil =>
            obtain ⟨h1, h2, h3⟩ := and3 (show (decide (x = ("range" : Str)) && glB sc x && ckE cc a sc ea) = true from h)
            cases of_decide_eq_true h1
            have st := ck_star a ea h3 [] X.env
            exact pi_range1 (gl_of hc h2) (hc.blt _ (by decide +kernel)) (pa_cons (ckE_ok X sc hc a ea h3).1 pa_nil st) st
          | cons _ _ => exact not_ck h
        · exact not_ck h
      | _ => exact not_ck h
    | _ => exact not_ck h
  | .rng2 a b, tg, e, h => by
    cases e with
    | Call g args kws p =>
      cases g with
      | Name x q =>
        rcases args with _ | ⟨ea, _ | ⟨eb, _ | ⟨e3, r⟩⟩⟩
        · exact not_ck h
        · exact not_ck h
        · cases kws with
          | nil =>
            obtain ⟨h12, h3, h4⟩ := and3 (show (decide (x = ("range" : Str)) && glB sc x && ckE cc a sc ea && ckE cc b sc eb) = true from h)
            obtain ⟨h1, h2⟩ := and2 h12
            cases of_decide_eq_true h1
            have st := ck_star a ea h3 [eb] X.env
            have st2 := ck_star b eb h4 [] X.env
            exact pi_range2 (gl_of hc h2) (hc.blt _ (by decide +kernel)) (pa_cons (ckE_ok X sc hc a ea h3).1 (pa_cons (ckE_ok X sc hc b eb h4).1 pa_nil st2) st) (by rw [st, st2]; rfl) st2
          | cons _ _ => exact not_ck h
        · exact not_ck h
      | _ => exact not_ck h
    | _ => exact not_ck h
end
end
end Z
end
section
set_option Elab.async false
set_option linter.all false
set_option autoImplicit false
set_option maxHeartbeats 4000000
/-! statements: the check, and what it is good for -/
namespace Z
open PySem L2

def locB (sc : Scope) (x : Str) : Bool := match sc.names.lookup x with
  | some .local => true
  | _ => false
def setF (cc : Cc) (sc : Scope) (i : Nat) (x : Str) : Bool := decide (cc.N[i]? = some x) && (match sc.names.lookup x with
  | some .local => true
  | some .cell => true
  | _ => false)
def setFs (cc : Cc) (sc : Scope) : List Nat → List Expr → Bool
  | [], [] => true
  | i :: is, .Name x _ :: es => setF cc sc i x && setFs cc sc is es
  | _, _ => false
def setFT (cc : Cc) (sc : Scope) : Tg → Expr → Bool
  | .nm i, .Name x _ => setF cc sc i x
  | .tp is, .Tuple es _ _ => setFs cc sc is es
  | _, _ => false
def swB (sc : Scope) (t : Str) (p : Pos) : Expr → Bool
  | .ListComp _ _ scope q => locB sc t && (p.line == q.line) && !(scope.names.any fun (n, k) => n == t && (k == .local || k == .cell))
  | _ => false
def noComp : Expr → Bool
  | .ListComp _ _ _ _ => false
  | .SetComp _ _ _ _ => false
  | .DictComp _ _ _ _ _ => false
  | _ => true
def parB (sc : Scope) (x : Str) (px : Pos) (y : Str) (py : Pos) (a b : Expr) : Bool := locB sc x && locB sc y && (py.line == px.line) && !(decide (x = y)) && !([a, b].all (foldedForSure 8)) && !([a, b].all (constantsAlone 8))
def notLoc (sc : Scope) : Expr → Bool
  | .Name x _ => !locB sc x
  | _ => true
def unpB (sc : Scope) (ts : List Expr) : Expr → Bool
  | .Tuple vs _ _ => vs.all (foldedForSure 8) || ts.any (notLoc sc)
  | _ => true
mutual
def ck1 (cc : Cc) (sc : Scope) : Sm → Stmt → Bool
  | .set i e, st => (match st with
    | .Assign [.Name x _] ev _ => setF cc sc i x && ckE cc e sc ev
    | _ => false)
  | .par i j a b, st => (match st with
    | .Assign [.Tuple [.Name x px, .Name y py] _ _] (.Tuple [ea, eb] _ _) _ => decide (cc.N[i]? = some x) && decide (cc.N[j]? = some y) && parB sc x px y py ea eb && ckE cc a sc ea && ckE cc b sc eb
    | _ => false)
  | .unp is e, st => (match st with
    | .Assign [.Tuple es _ _] ev _ => setFs cc sc is es && unpB sc es ev && ckE cc e sc ev
    | _ => false)
  | .six o i e, st => (match st with
    | .Assign [.Subscript eo ei _] ev _ => notSlB ei && ckE cc o sc eo && ckE cc i sc ei && ckE cc e sc ev
    | _ => false)
  | .dst o i e, st => (match st with
    | .Assign [.Subscript eo ei _] ev _ => notSlB ei && ckE cc o sc eo && ckE cc i sc ei && ckE cc e sc ev
    | _ => false)
  | .aug i op e, st => (match st with
    | .AugAssign (.Name x _) o ev _ => decide (op = o) && setF cc sc i x && ckE cc e sc ev
    | _ => false)
  | .expr e, st => (match st with
    | .Expr ev _ => noComp ev && ckE cc e sc ev
    | _ => false)
  | .ifs c a b, st => (match st with
    | .If ec ea eb _ => ckE cc c sc ec && cks cc sc a ea && cks cc sc b eb
    | _ => false)
  | .for g it b, st => (match st with
    | .For tg iter eb [] _ => setFT cc sc g tg && ckI cc it sc iter && cks cc sc b eb
    | _ => false)
  | .while c b, st => (match st with
    | .While ec eb [] _ => ckE cc c sc ec && cks cc sc b eb
    | _ => false)
  | .ret e, st => (match st with
    | .Return (some ev) _ => ckE cc e sc ev
    | _ => false)
  | .retN, st => (match st with
    | .Return none _ => true
    | _ => false)
  | .brk, st => (match st with
    | .Break _ => true
    | _ => false)
  | .cnt, st => (match st with
    | .Continue _ => true
    | _ => false)
  | .pass, st => (match st with
    | .Pass _ => true
    | .Expr (.Constant (.str _) _ _) _ => true
    | _ => false)
  | .fail, st => true
termination_by structural x => x
def cks (cc : Cc) (sc : Scope) : Ss → List Stmt → Bool
  | .nil, sts => (match sts with
    | [] => true
    | _ => false)
  | .cons s ss, sts => (match sts with
    | st :: r => ck1 cc sc s st && cks cc sc ss r
    | [] => false)
termination_by structural x => x
end

structure FCtx (X : Cx) (cc : Cc) (sc0 : Scope) (k : Nat) (φ : Phi) : Prop extends Ctx X cc sc0 k φ where
  kind : sc0.kind = .function
  fnT : ∀ x, X.fn x = true
  own : PassesOwn (model X.prog X.w) X.A X.env X.xe

section
variable {X : Cx} {cc : Cc} {sc : Scope} {k : Nat} {φ : Phi}

theorem loc_of {x : Str} (h : locB sc x = true) : sc.names.lookup x = some .local := by
  unfold locB at h
  cases q : sc.names.lookup x with
  | none => rw [q] at h; cases h
  | some kd =>
    rw [q] at h
    cases kd with
    | «local» => rfl
    | cell => cases h
    | free => cases h
    | globalExplicit => cases h
    | globalImplicit => cases h
theorem setF_of {i : Nat} {x : Str} (h : setF cc sc i x = true) : cc.N[i]? = some x ∧ (sc.names.lookup x = some .local ∨ sc.names.lookup x = some .cell) := by
  unfold setF at h
  rw [Bool.and_eq_true] at h
  refine ⟨of_decide_eq_true h.1, ?_⟩
  have h2 := h.2
  cases q : sc.names.lookup x with
  | none => rw [q] at h2; cases h2
  | some kd =>
    rw [q] at h2
    cases kd with
    | «local» => exact .inl rfl
    | cell => exact .inr rfl
    | free => cases h2
    | globalExplicit => cases h2
    | globalImplicit => cases h2
theorem pg_setF {i : Nat} {x : Str} {pos : Pos} (hc : FCtx X cc sc k φ) (h : setF cc sc i x = true) : PG X (.Name x pos) (gName i) := by
  obtain ⟨h1, h2⟩ := setF_of h
  exact pg_name (by rw [hc.nN]; exact hc.nd) (by rw [hc.nN]; exact h1) (by rw [hc.sc]; exact h2) (.inl (hc.fnT x))
theorem pgs_setF (hc : FCtx X cc sc k φ) : ∀ (is : List Nat) (es : List Expr), setFs cc sc is es = true →
    PGs X es (is.foldr (fun i t => gCons (gName i) t) gNil) ∧ is.length = es.length ∧ (assignEach es X.env).findIdx? (·.1) = none
  | [], [], _ => ⟨pgs_nil, rfl, rfl⟩
  | [], _ :: _, h => (Bool.false_ne_true h).elim
  | _ :: _, [], h => (Bool.false_ne_true h).elim
  | i :: is, e :: es, h => by
    cases e with
    | Name x p =>
      obtain ⟨h1, h2⟩ := and2 (show (setF cc sc i x && setFs cc sc is es) = true from h)
      obtain ⟨q1, q2, q3⟩ := pgs_setF hc is es h2
      refine ⟨pgs_cons (pg_setF hc h1) q1, by rw [List.length_cons, List.length_cons, q2], ?_⟩
      show ((false, assign (.Name x p) X.env) :: assignEach es X.env).findIdx? (·.1) = none
      rw [List.findIdx?_cons]
      simp [q3]
    | _ => exact (Bool.false_ne_true h).elim
theorem pg_setFT (hc : FCtx X cc sc k φ) {g : Tg} {tg : Expr} (h : setFT cc sc g tg = true) : PG X tg (rdG X.K g) := by
  cases g with
  | nm i =>
    cases tg with
    | Name x p => exact pg_setF hc h
    | _ => exact not_ck h
  | tp is =>
    cases tg with
    | Tuple es n p =>
      obtain ⟨q1, q2, q3⟩ := pgs_setF hc is es h
      exact pg_tup hc.calm q1 (asg_len es _ q2) q3
    | _ => exact not_ck h
theorem sw_lc {elt : Expr} {gs : List Comprehension} {scope : Scope} {q p : Pos} {t : Str} {l : Nat} {env : Env} (hk : sc.kind = .function) (hs : env.scope = sc) :
    swapsWith (.ListComp elt gs scope q) (some (.Name t p)) l env = pure (swB sc t p (.ListComp elt gs scope q)) := by
  subst hs
  have hb : env.blockKind = .function := by unfold Env.blockKind; rw [hk]; rfl
  have e : (env.kindOf t == some .local) = locB env.scope t := by
    show (env.scope.names.lookup t == some .local) = _
    unfold locB
    cases env.scope.names.lookup t with
    | none => rfl
    | some kd => cases kd <;> rfl
  show (pure (env.blockKind == .function && env.kindOf t == some .local && p.line == q.line && !(scope.names.any fun (n, k) => n == t && (k == .local || k == .cell))) : Sem Bool) = _
  rw [hb, e]
  rfl
theorem ck_sw {c : Ex} {e : Expr} {t : Str} {p : Pos} {l : Nat} {env : Env} (hk : sc.kind = .function) (hs : env.scope = sc) (h : ckE cc c sc e = true) (hw : swB sc t p e = false) : swapsWith e (some (.Name t p)) l env = pure false := by
  cases e with
  | ListComp elt gs scope q => rw [sw_lc hk hs, hw]
  | SetComp _ _ _ _ => cases c <;> exact (Bool.false_ne_true h).elim
  | DictComp _ _ _ _ _ => cases c <;> exact (Bool.false_ne_true h).elim
  | _ => rfl
theorem sw_none {e : Expr} {l : Nat} {env : Env} (h : noComp e = true) : swapsWith e none l env = pure false := by
  cases e with
  | ListComp _ _ _ _ => cases h
  | SetComp _ _ _ _ => cases h
  | DictComp _ _ _ _ _ => cases h
  | _ => rfl
theorem sw_other {e tg : Expr} {l : Nat} {env : Env} (h : ∀ x p, tg ≠ .Name x p) : swapsWith e (some tg) l env = pure false := by
  cases e with
  | ListComp _ _ _ _ => cases tg with
    | Name x p => exact (h x p rfl).elim
    | _ => rfl
  | SetComp _ _ _ _ => cases tg with
    | Name x p => exact (h x p rfl).elim
    | _ => rfl
  | DictComp _ _ _ _ _ => cases tg with
    | Name x p => exact (h x p rfl).elim
    | _ => rfl
  | _ => rfl
theorem star_no {a b : Expr} (sa : ∀ v p, a ≠ .Starred v p) (sb : ∀ v p, b ≠ .Starred v p) : ([a, b].any fun | .Starred .. => true | _ => false) = false := by
  cases a with
  | Starred v p => exact (sa v p rfl).elim
  | _ => cases b with
    | Starred v p => exact (sb v p rfl).elim
    | _ => rfl
theorem par_sw {x y : Str} {px py pt pt2 : Pos} {kt k2} {a b : Expr} {env : Env} (hk : sc.kind = .function) (hs : env.scope = sc) (h : parB sc x px y py a b = true) (sa : ∀ v p, a ≠ .Starred v p) (sb : ∀ v p, b ≠ .Starred v p) :
    swappedStores [.Tuple [.Name x px, .Name y py] kt pt] (.Tuple [a, b] k2 pt2) env = pure (some [x, y]) := by
  subst hs
  have hb : env.blockKind = .function := by unfold Env.blockKind; rw [hk]; rfl
  unfold parB at h
  obtain ⟨h14, h5, h6⟩ := and3 h
  obtain ⟨h12, h3, h4⟩ := and3 h14
  obtain ⟨h1, h2⟩ := and2 h12
  have k1 : env.kindOf x = some .local := loc_of h1
  have k2' : env.kindOf y = some .local := loc_of h2
  have h3' : (py.line == px.line) = true := h3
  have hxy : x ≠ y := by simpa using h4
  have f1 : ([a, b].all (foldedForSure 8)) = false := by simpa only [Bool.not_eq_true'] using h5
  have f2 : ([a, b].all (constantsAlone 8)) = false := by simpa only [Bool.not_eq_true'] using h6
  have st := star_no sa sb
  have ed : [x, y].eraseDups = [x, y] := by
    simp [List.eraseDups_cons, hxy, Ne.symm hxy]
  unfold swappedStores
  simp only [hb, st, f1, f2, k1, k2', List.filterMap_cons, List.filterMap_nil, List.head?_cons, Option.map_some, Option.getD_some, Expr.pos, h3', ed, beq_self_eq_true, Bool.and_true, Bool.true_and, List.length_cons, List.length_nil, Bool.or_true, Bool.true_or, Bool.not_true, if_true]
  simp
theorem unp_fold {es vs : List Expr} {n m : Nat} {p q : Pos} {env : Env} (h : vs.all (foldedForSure 8) = true) : swappedStores [.Tuple es n p] (.Tuple vs m q) env = pure none := by
  unfold swappedStores
  simp only [h, if_true]
  split
  · rfl
  · split
    · rfl
    · split <;> rfl
theorem fm_lt {α β : Type} {f : α → Option β} : ∀ {l : List α}, (∃ x, x ∈ l ∧ f x = none) → (l.filterMap f).length < l.length
  | [], ⟨x, h, _⟩ => by cases h
  | y :: l, ⟨x, h, e⟩ => by
    have le := List.length_filterMap_le f l
    rw [List.filterMap_cons]
    rcases List.mem_cons.mp h with q | h
    · subst q
      rw [e]
      exact Nat.lt_succ_of_le le
    · have ih := fm_lt (l := l) ⟨x, h, e⟩
      cases f y with
      | none => exact Nat.lt_succ_of_lt ih
      | some z => exact Nat.succ_lt_succ ih
theorem kind_ne {x : Str} {env : Env} (h : locB env.scope x = false) : (env.kindOf x == some .local) = false := by
  show (env.scope.names.lookup x == some .local) = false
  unfold locB at h
  cases q : env.scope.names.lookup x with
  | none => rfl
  | some kd =>
    rw [q] at h
    cases kd with
    | «local» => cases h
    | _ => rfl
theorem unp_cell {es vs : List Expr} {n m : Nat} {p q : Pos} {env : Env} (h : es.any (notLoc env.scope) = true) : swappedStores [.Tuple es n p] (.Tuple vs m q) env = pure none := by
  obtain ⟨t, ht, hl⟩ := List.any_eq_true.mp h
  unfold swappedStores
  simp only
  split
  · rfl
  · split
    · rfl
    · have hn : ∀ line : Nat, (es.filterMap fun
          | .Name id pos => if env.kindOf id == some .local && pos.line == line then some id else none
          | _ => none).length < es.length := fun line => fm_lt ⟨t, ht, by
        cases t with
        | Name x p =>
          have hx : locB env.scope x = false := by simpa [notLoc] using hl
          show (if (env.kindOf x == some .local && p.line == line) = true then some x else none) = none
          rw [kind_ne hx]
          rfl
        | _ => rfl⟩
      rw [if_pos]
      rw [Bool.or_eq_true]
      refine .inl ?_
      rw [bne_iff_ne]
      exact Nat.ne_of_lt (hn _)
theorem unp_sw {es : List Expr} {n : Nat} {p : Pos} {e : Expr} {env : Env} (hs : env.scope = sc) (h : unpB sc es e = true) : swappedStores [.Tuple es n p] e env = pure none := by
  cases e with
  | Tuple vs m q =>
    subst hs
    rcases Bool.or_eq_true_iff.mp (show (vs.all (foldedForSure 8) || es.any (notLoc env.scope)) = true from h) with h | h
    · exact unp_fold h
    · exact unp_cell h
  | _ => rfl
theorem asg_sub {o i : Expr} {pos : Pos} {env : Env} (h : notSlB i = true) : ∀ v, assign (.Subscript o i pos) env v = (do
      let ov ← holding [v] (eval o env)
      let iv ← holding [v, ov] (eval i env)
      standAt pos
      holding [v, ov, iv] (setItem ov iv v)
      release [v, ov, iv] []) := by
  intro v
  cases i with
  | Slice _ _ _ _ => cases h
  | _ => rfl
theorem ck_nostar {c : Ex} {e : Expr} (h : ckE cc c sc e = true) : ∀ v p, e ≠ .Starred v p := by
  intro v p q
  subst q
  cases c <;> exact Bool.false_ne_true h
theorem ok_setLc {own : List Nat} {g : Tg} {wi : TI} {tt : TT} {te : TE} {elt tg iter : Expr} {ifs : List Expr} {scope : Scope} {pos spos py : Pos} {i : Nat} {y : Str} (hc : FCtx X cc sc k φ) (hy : cc.N[i]? = some y)
    (hw : swB sc y py (.ListComp elt [⟨tg, iter, ifs, 0⟩] scope pos) = true) (ho : own = (ownOf cc.N scope).map (·.2)) (hb : blkC cc.N sc scope (ownOf cc.N scope) = true)
    (hg : ckTg cc scope sc g tg = true) (hi : PI X tg iter wi) (hs : ∀ x, foldedSetIterable iter X.env x = pure x)
    (ht : ∀ (Y : Cx), Y.K = X.K → Ctx Y cc (relS scope sc) k φ → PTs Y ifs tt) (he : ∀ (Y : Cx), Y.K = X.K → Ctx Y cc (relS scope sc) k φ → PE Y elt te) :
    PS X (.Assign [.Name y py] (.ListComp elt [⟨tg, iter, ifs, 0⟩] scope pos) spos) (tAsg (tLc wi (rdG X.K g) tt te own) (gName i)) := by
  subst ho
  have hw' : (locB sc y && (py.line == pos.line) && !(scope.names.any fun (n, k) => n == y && (k == .local || k == .cell))) = true := hw
  have hsw := sw_lc (elt := elt) (gs := [⟨tg, iter, ifs, 0⟩]) (scope := scope) (q := pos) (p := py) (t := y) (l := spos.line) hc.kind hc.sc
  rw [hw] at hsw
  refine ps_setLc (own := ownOf cc.N scope) hc.calm (by rw [hc.nN]; exact hc.nd) (by rw [hc.nN]; exact hy) (by rw [hc.sc]; exact loc_of (and3 hw').1) hsw hi (by rw [hc.nN, hc.sc]; exact blkOk_by hb) (fun s H C cl fp => ?_) (fun s H C cl fp => ht _ rfl (hc.toCtx.blk s H scope C cl fp)) (fun s H C cl fp => he _ rfl (hc.toCtx.blk s H scope C cl fp)) hs
  have hb' := hc.toCtx.blk s H scope C cl fp
  cases g with
  | nm i =>
    cases tg with
    | Name x p => exact set_of (sc := sc) (scope := scope) hb'.nN hb'.nd hb'.sc rfl hg
    | _ => exact not_ck hg
  | tp is =>
    cases tg with
    | Tuple es n p =>
      obtain ⟨h1, h2⟩ := sets_of (Y := X.blk s H scope (compEnvC scope cl C X.env) fp) (sc := sc) (scope := scope) hb'.nN hb'.nd hb'.sc rfl is es hg
      exact pg_tup hc.calm h1 (asg_len es _ h2) (asg_star is es hg _)
    | _ => exact not_ck hg
theorem ok_set (hc : FCtx X cc sc k φ) {c : Ex} {e : Expr} {i : Nat} {y : Str} {py spos : Pos} (hs : setF cc sc i y = true) (h : ckE cc c sc e = true) : PS X (.Assign [.Name y py] e spos) (tAsg (rdP X.K φ c).1 (gName i)) := by
  obtain ⟨h1, h2⟩ := setF_of hs
  cases hw : swB sc y py e with
  | false => exact ps_set (by rw [hc.nN]; exact hc.nd) (by rw [hc.nN]; exact h1) (by rw [hc.sc]; exact h2) (ckE_ok X sc hc.toCtx c e h).1 (ck_sw hc.kind hc.sc h hw) (.inl (hc.fnT y))
  | true =>
    cases c with
    | lc own g it c e0 =>
      revert hw
      revert h
      show (match e with
        | .ListComp elt [⟨tg, iter, ifs, 0⟩] scope _ => decide (own = (ownOf cc.N scope).map (·.2)) && blkC cc.N sc scope (ownOf cc.N scope) && ckTg cc scope sc g tg && ckI cc it sc iter && ckC cc c (relS scope sc) ifs && ckE cc e0 (relS scope sc) elt
        | _ => false) = true → _
      split
      · intro h hw
        rename_i elt tg iter ifs scope p
        obtain ⟨h14, h5, h6⟩ := and3 h
        obtain ⟨h12, h3, h4⟩ := and3 h14
        obtain ⟨h1', h2'⟩ := and2 h12
        refine ok_setLc hc h1 hw (of_decide_eq_true h1') h2' h3 (ckI_ok X sc hc.toCtx it tg iter h4) (ckI_set it iter h4 X.env) (fun Y eK hY => ?_) (fun Y eK hY => ?_)
        · have := ckC_ok Y (relS scope sc) hY c ifs h5
          rw [eK] at this
          exact this
        · have := (ckE_ok Y (relS scope sc) hY e0 elt h6).1
          rw [eK] at this
          exact this
      · exact fun h => not_ck h
    | lck own i0 o c e0 =>
      revert hw
      revert h
      show (match e with
        | .ListComp elt [⟨.Name x _, .Name y _, ifs, 0⟩] scope _ => decide (own = (ownOf cc.N scope).map (·.2)) && blkC cc.N sc scope (ownOf cc.N scope) && setB cc scope sc i0 x && slotB cc sc o y && ckC cc c (relS scope sc) ifs && ckE cc e0 (relS scope sc) elt
        | _ => false) = true → _
      split
      · intro h hw
        rename_i elt x p1 z p2 ifs scope p
        obtain ⟨h14, h5, h6⟩ := and3 h
        obtain ⟨h12, h3, h4⟩ := and3 h14
        obtain ⟨h1', h2'⟩ := and2 h12
        refine ps_lock (ok_setLc (g := .nm i0) hc h1 hw (of_decide_eq_true h1') h2' h3 (pi_keys (slot_of hc.toCtx h4)) (fun _ => rfl) (fun Y eK hY => ?_) (fun Y eK hY => ?_))
        · have := ckC_ok Y (relS scope sc) hY c ifs h5
          rw [eK] at this
          exact this
        · have := (ckE_ok Y (relS scope sc) hY e0 elt h6).1
          rw [eK] at this
          exact this
      · exact fun h => not_ck h
    | _ =>
      cases e with
      | ListComp _ _ _ _ => exact not_ck h
      | _ => cases hw
theorem op_aug (op : Operator) : PIp X op (rAug op) := by
  cases op with
  | Add => exact OpR.pip iop_add
  | Sub => exact OpR.pip iop_sub
  | BitAnd => exact OpR.pip iop_and
  | BitOr => exact OpR.pip iop_or
  | BitXor => exact OpR.pip iop_xor
  | _ => exact fun pins s σ H x y v u Q I rx ry q => q.elim
mutual
theorem ck1_ok (hc : FCtx X cc sc k φ) : ∀ (c : Sm) (st : Stmt), ck1 cc sc c st = true → PS X st (rd1 X.K φ c)
  | .set i e, st, h => by
    revert h
    show (match st with
      | .Assign [.Name x _] ev _ => setF cc sc i x && ckE cc e sc ev
      | _ => false) = true → _
    split
    · intro h
      obtain ⟨h1, h2⟩ := and2 h
      exact ok_set hc h1 h2
    · exact fun h => not_ck h
  | .par i j a b, st, h => by
    revert h
    show (match st with
      | .Assign [.Tuple [.Name x px, .Name y py] _ _] (.Tuple [ea, eb] _ _) _ => decide (cc.N[i]? = some x) && decide (cc.N[j]? = some y) && parB sc x px y py ea eb && ckE cc a sc ea && ckE cc b sc eb
      | _ => false) = true → _
    split
    · intro h
      rename_i x px y py kt pt ea eb k2 pt2 pos
      obtain ⟨h13, h4, h5⟩ := and3 h
      obtain ⟨h1, h2, h3⟩ := and3 h13
      have h1 := of_decide_eq_true h1
      have h2 := of_decide_eq_true h2
      obtain ⟨p14, p5, p6⟩ := and3 (show (locB sc x && locB sc y && (py.line == px.line) && !(decide (x = y)) && !([ea, eb].all (foldedForSure 8)) && !([ea, eb].all (constantsAlone 8))) = true from h3)
      obtain ⟨p12, p3, p4⟩ := and3 p14
      obtain ⟨p1, p2⟩ := and2 p12
      have hxy : x ≠ y := by simpa using p4
      have hij : i ≠ j := fun q => by
        subst q
        rw [h1] at h2
        exact hxy (Option.some.inj h2)
      have st1 := ck_star a ea h4 [eb] X.env
      have st2 := ck_star b eb h5 [] X.env
      exact ps_par hc.calm (by rw [hc.nN]; exact hc.nd) (by rw [hc.nN]; exact h1) (by rw [hc.nN]; exact h2) hij (by rw [hc.sc]; exact loc_of p1) (by rw [hc.sc]; exact loc_of p2)
        (pa_cons (ckE_ok X sc hc.toCtx a ea h4).1 (pa_cons (ckE_ok X sc hc.toCtx b eb h5).1 pa_nil st2) st1) (par_sw hc.kind hc.sc h3 (ck_nostar h4) (ck_nostar h5))
    · exact fun h => not_ck h
  | .unp is e, st, h => by
    revert h
    show (match st with
      | .Assign [.Tuple es _ _] ev _ => setFs cc sc is es && unpB sc es ev && ckE cc e sc ev
      | _ => false) = true → _
    split
    · intro h
      rename_i es n p ev pos
      obtain ⟨h1, h2, h3⟩ := and3 h
      have hsw : swapsWith ev (some (.Tuple es n p)) pos.line X.env = pure false := sw_other fun _ _ q => by cases q
      exact ps_asg (ckE_ok X sc hc.toCtx e ev h3).1 (pg_setFT (g := .tp is) hc h1) hsw (unp_sw hc.sc h2)
    · exact fun h => not_ck h
  | .six o i e, st, h => by
    revert h
    show (match st with
      | .Assign [.Subscript eo ei _] ev _ => notSlB ei && ckE cc o sc eo && ckE cc i sc ei && ckE cc e sc ev
      | _ => false) = true → _
    split
    · intro h
      rename_i eo ei p ev pos
      obtain ⟨h12, h3, h4⟩ := and3 h
      obtain ⟨h1, h2⟩ := and2 h12
      have hsw : swapsWith ev (some (.Subscript eo ei p)) pos.line X.env = pure false := sw_other fun _ _ q => by cases q
      exact ps_asg (ckE_ok X sc hc.toCtx e ev h4).1 (pg_sub (ckE_ok X sc hc.toCtx o eo h2).1 (ckE_ok X sc hc.toCtx i ei h3).1 set_list (asg_sub h1)) hsw
    · exact fun h => not_ck h
  | .dst o i e, st, h => by
    revert h
    show (match st with
      | .Assign [.Subscript eo ei _] ev _ => notSlB ei && ckE cc o sc eo && ckE cc i sc ei && ckE cc e sc ev
      | _ => false) = true → _
    split
    · intro h
      rename_i eo ei p ev pos
      obtain ⟨h12, h3, h4⟩ := and3 h
      obtain ⟨h1, h2⟩ := and2 h12
      exact ps_dput (by have := units65 hc.toCtx; omega) (ckE_ok X sc hc.toCtx o eo h2).1 (ckE_ok X sc hc.toCtx i ei h3).1 (ckE_ok X sc hc.toCtx e ev h4).1 (sw_other fun _ _ q => by cases q)
    · exact fun h => not_ck h
  | .aug i op e, st, h => by
    revert h
    show (match st with
      | .AugAssign (.Name x _) o ev _ => decide (op = o) && setF cc sc i x && ckE cc e sc ev
      | _ => false) = true → _
    split
    · intro h
      obtain ⟨h1, h2, h3⟩ := and3 h
      cases of_decide_eq_true h1
      obtain ⟨q1, q2⟩ := setF_of h2
      exact ps_aug (by rw [hc.nN]; exact hc.nd) (by rw [hc.nN]; exact q1) (by rw [hc.sc]; exact q2) (ckE_ok X sc hc.toCtx e _ h3).1 (op_aug op) (.inl (hc.fnT _))
    · exact fun h => not_ck h
  | .expr e, st, h => by
    revert h
    show (match st with
      | .Expr ev _ => noComp ev && ckE cc e sc ev
      | _ => false) = true → _
    split
    · intro h
      obtain ⟨h1, h2⟩ := and2 h
      exact ps_expr (ckE_ok X sc hc.toCtx e _ h2).1 (sw_none h1)
    · exact fun h => not_ck h
  | .ifs c a b, st, h => by
    revert h
    show (match st with
      | .If ec ea eb _ => ckE cc c sc ec && cks cc sc a ea && cks cc sc b eb
      | _ => false) = true → _
    split
    · intro h
      obtain ⟨h1, h2, h3⟩ := and3 h
      exact ps_if (ckE_ok X sc hc.toCtx c _ h1).2 (cks_ok hc a _ h2) (cks_ok hc b _ h3)
    · exact fun h => not_ck h
  | .for g it b, st, h => by
    revert h
    show (match st with
      | .For tg iter eb [] _ => setFT cc sc g tg && ckI cc it sc iter && cks cc sc b eb
      | _ => false) = true → _
    split
    · intro h
      obtain ⟨h1, h2, h3⟩ := and3 h
      exact ps_for hc.own hc.calm (ckI_ok X sc hc.toCtx it _ _ h2) (pg_setFT hc h1) (cks_ok hc b _ h3) (ckI_set it _ h2 X.env)
    · exact fun h => not_ck h
  | .while c b, st, h => by
    revert h
    show (match st with
      | .While ec eb [] _ => ckE cc c sc ec && cks cc sc b eb
      | _ => false) = true → _
    split
    · intro h
      obtain ⟨h1, h2⟩ := and2 h
      exact ps_while hc.own (ckE_ok X sc hc.toCtx c _ h1).2 (cks_ok hc b _ h2)
    · exact fun h => not_ck h
  | .ret e, st, h => by
    revert h
    show (match st with
      | .Return (some ev) _ => ckE cc e sc ev
      | _ => false) = true → _
    split
    · intro h
      exact ps_ret (ckE_ok X sc hc.toCtx e _ h).1
    · exact fun h => not_ck h
  | .retN, st, h => by
    revert h
    show (match st with
      | .Return none _ => true
      | _ => false) = true → _
    split
    · exact fun _ => ps_retN
    · exact fun h => not_ck h
  | .brk, st, h => by
    cases st with
    | Break p => exact ps_break
    | _ => exact not_ck h
  | .cnt, st, h => by
    cases st with
    | Continue p => exact ps_continue
    | _ => exact not_ck h
  | .pass, st, h => by
    revert h
    show (match st with
      | .Pass _ => true
      | .Expr (.Constant (.str _) _ _) _ => true
      | _ => false) = true → _
    split
    · exact fun _ => ps_pass
    · exact fun _ => ps_doc
    · exact fun h => not_ck h
  | .fail, st, h => ps_never
theorem cks_ok (hc : FCtx X cc sc k φ) : ∀ (c : Ss) (sts : List Stmt), cks cc sc c sts = true → PSs X sts (rds X.K φ c)
  | .nil, sts, h => by
    cases sts with
    | nil => exact pss_nil
    | cons _ _ => exact not_ck h
  | .cons c cs, sts, h => by
    cases sts with
    | nil => exact not_ck h
    | cons st r =>
      obtain ⟨h1, h2⟩ := and2 (show (ck1 cc sc c st && cks cc sc cs r) = true from h)
      exact pss_cons (ck1_ok hc c st h1) (cks_ok hc cs r h2)
end
end
end Z
end
section
set_option Elab.async false
set_option linter.all false
set_option autoImplicit false
set_option maxHeartbeats 4000000
/-! defs: each does what its text's run does -/
namespace Z
open PySem L2

/-- a def of the program: its row, its names, its code -/
structure Dr where
  name : Str
  N : List Str
  np : Nat
  params : Arguments
  body : List Stmt
  scope : Scope
  cd : Ss
def Dr.ps (r : Dr) : List Str := r.N.take r.np
def Dr.df (r : Dr) : Df := ⟨r.np, r.N.length, r.cd⟩
def txt (rs : List Dr) : Txt := rs.map fun r => (r.name, r.df)
def parOkB (sc : Scope) (x : Str) : Bool := match sc.names.lookup x with
  | some .local => true
  | some .cell => true
  | _ => false
def kindFn : ScopeKind → Bool
  | .function => true
  | _ => false
def tabR (lams : List Str) (x : Str) : Option Str := if lams.contains x = true then some x else none
def okR (fns : List Str) (cons : List (Str × Int)) (lams : List Str) (r : Dr) : Bool :=
  kindFn r.scope.kind && !r.scope.isCoroutine && !r.scope.isGenerator && decide r.N.Nodup && decide (r.np ≤ r.N.length) && r.ps.all (parOkB r.scope) && r.scope.names.all (fun y => notFree y.2) && cks ⟨r.N, fns, cons, tabR lams r.name⟩ r.scope r.cd r.body
def BindP (r : Dr) : Prop := ∀ (kV doc pm : Value) (an : Option Addr) (cdv ct : Value) (us : List Value), us.length = r.ps.length → bindArgs (PySem.W.fnOf r.name r.name r.params r.body r.scope .none kV doc pm an cdv ct) ⟨us, []⟩ = pure (r.ps.zip us)
def codeRefB (K : PySem.W.Frag) (x : Str) : Bool := match fdOf K x with
  | some fd => (match fd.code with
    | .ref _ => true
    | _ => false)
  | none => false
structure Facts (K : PySem.W.Frag) (mg : Str → Option Value) (cons : List (Str × Int)) (lams : List Str) (rs : List Dr) : Prop where
  fn : ∀ r ∈ rs, ∃ (fd : FuncData), FunD K r.name r.name r.params r.body r.scope [] [] (He.ga K r.name) fd ∧ mg r.name = some (.ref (He.ga K r.name))
  code : ∀ x ∈ lams, codeRefB K x = true
  blt : ∀ x ∈ bltNames, mg x = none
  con : ∀ x i, cons.lookup x = some i → ∃ t, mg x = some (.int i t)

theorem FunD.okC {P : Program} {w : World} {K : PySem.W.Frag} {mg : Str → Option Value} {base : Heap} {x qual : Str} {params : Arguments} {body : List Stmt} {scope : Scope} {dvs : List V} {kws : List (Str × V)} {f : Addr} {fd : FuncData} {CX : CXT} {N ps : List Str} {k : Nat} {sp : Sp}
    (F : FunD K x qual params body scope dvs kws f fd) (S : FnScope N ps scope) (len : ∀ vs H Q E, sp vs H Q E → vs.length = ps.length)
    (hbody : ∀ (cdv : Value), fd.code = cdv → ∀ (A : Around) (outer : List Env) (s : Shared) (H : Hp) (vs : List V) (Q : VK) (E : XK), Room k (A.deeper (PyProof.Rows.envOfC qual scope s.heap.objs.size f cdv)) → sp vs H Q E →
      ∃ t, PSs (cxOf CX P w K mg base N qual scope f cdv A outer s H E) body t ∧ t { nx := fun _ H' => Q .non H', rt := Q } (start N vs) H) : FnOk P w K mg base CX (k + 1) f fd ps sp := by
  obtain ⟨oc, od, dV, kV, doc, pm, an, cdv, ct, osl, rfl, lk, hcd, _, _⟩ := F.ex
  exact fn_of lk hcd S len fun A outer s H vs Q E hr hsp => hbody cdv rfl A outer s H vs Q E hr hsp
theorem code_at {K : PySem.W.Frag} {x qual : Str} {params : Arguments} {body : List Stmt} {scope : Scope} {dvs : List V} {kws : List (Str × V)} {fd : FuncData} (F : FunD K x qual params body scope dvs kws (He.ga K x) fd) (h : codeRefB K x = true) : fd.code = .ref (codeOf K x) := by
  obtain ⟨oc, od, dV, kV, doc, pm, an, cdv, ct, osl, _, lk, _, _, _⟩ := F.ex
  have e : fdOf K x = some fd := by
    unfold fdOf
    rw [lk]
  unfold codeRefB at h
  rw [e] at h
  unfold codeOf
  rw [e]
  simp only at h ⊢
  cases q : fd.code <;> rw [q] at h <;> first
    | rfl
    | cases h
theorem if_some {c : Prop} [Decidable c] {α : Type} {x : Option α} {r : α} (e : (if c then x else none) = some r) : c ∧ x = some r := by
  by_cases h : c
  · rw [if_pos h] at e
    exact ⟨h, e⟩
  · rw [if_neg h] at e
    cases e
theorem lookup_txt : ∀ {rs : List Dr} {r : Dr}, r ∈ rs → (rs.map (·.name)).Nodup → (txt rs).lookup r.name = some r.df
  | [], _, h, _ => by cases h
  | q :: rs, r, h, nd => by
    rw [List.map_cons, List.nodup_cons] at nd
    rcases List.mem_cons.mp h with e | h
    · subst e
      show List.lookup r.name ((r.name, r.df) :: txt rs) = _
      rw [List.lookup_cons]
      simp
    · have ne : r.name ≠ q.name := fun z => nd.1 (by rw [← z]; exact List.mem_map_of_mem h)
      show List.lookup r.name ((q.name, q.df) :: txt rs) = _
      rw [List.lookup_cons]
      have : (r.name == q.name) = false := by simpa using ne
      rw [this]
      exact lookup_txt h nd.2
theorem env_start {K : PySem.W.Frag} {β : Nat → Addr} {H : Hp} {n : Nat} {N : List Str} {ds : List D} {vs : List V} (r : Reps K β H ds vs) (c : clL n ds = true) :
    EnvR K β H n (ds.map some ++ List.replicate (N.length - ds.length) none) (L2.start N vs) := by
  have el := r.length
  unfold L2.start
  refine ⟨by simp [el], fun i d h => ?_⟩
  by_cases hi : i < ds.length
  · rw [List.getElem?_append_left (by simpa using hi), List.getElem?_map] at h
    cases q : ds[i]? with
    | none => rw [q] at h; cases h
    | some x =>
      rw [q] at h
      cases h
      obtain ⟨v, e1, r1⟩ := r.get q
      refine ⟨clL_mem c _ (List.mem_of_getElem? q), v, ?_, r1⟩
      rw [List.getElem?_append_left (by simpa [← el] using hi), List.getElem?_map, e1]
      rfl
  · rw [List.getElem?_append_right (by simpa using Nat.le_of_not_lt hi), List.getElem?_replicate] at h
    split at h <;> cases h

section
variable {P : Program} {w : World} {K : PySem.W.Frag} {mg : Str → Option Value} {base : Heap} {cons : List (Str × Int)} {lams : List Str} {rs : List Dr}

theorem okR_sc {fns : List Str} {r : Dr} (h : okR fns cons lams r = true) : FnScope r.N r.ps r.scope ∧ cks ⟨r.N, fns, cons, tabR lams r.name⟩ r.scope r.cd r.body = true ∧ r.ps.length = r.np := by
  unfold okR at h
  obtain ⟨h16, h7, h8⟩ := and3 h
  obtain ⟨h14, h5, h6⟩ := and3 h16
  obtain ⟨h12, h3, h4⟩ := and3 h14
  obtain ⟨h1, h2⟩ := and2 h12
  have hp := of_decide_eq_true h5
  have hl : r.ps.length = r.np := by
    unfold Dr.ps
    rw [List.length_take]
    omega
  refine ⟨⟨?_, by simpa using h2, by simpa using h3, of_decide_eq_true h4, by rw [hl]; rfl, fun x hx => ?_, fun y hy q => ?_⟩, h8, hl⟩
  · revert h1
    cases r.scope.kind <;> first | exact fun _ => rfl | exact fun h => not_ck h
  · have := List.all_eq_true.mp h6 x hx
    unfold parOkB at this
    cases q : r.scope.names.lookup x with
    | none => rw [q] at this; cases this
    | some kd =>
      rw [q] at this
      cases kd with
      | «local» => exact .inl rfl
      | cell => exact .inr rfl
      | free => cases this
      | globalExplicit => cases this
      | globalImplicit => cases this
  · have := List.all_eq_true.mp h7 y hy
    rw [q] at this
    cases this
theorem ok_all (hn : (rs.map (·.name)).Nodup) (hb : ∀ r ∈ rs, BindP r) (hck : rs.all (okR (rs.map (·.name)) cons lams) = true) (F : Facts K mg cons lams rs) (hTB : ∀ x ∈ lams, LamX.TabB base mg (codeOf K x) (tabOf K x)) : ∀ (n : Nat) (r : Dr), r ∈ rs → ∀ (fd : FuncData), FunD K r.name r.name r.params r.body r.scope [] [] (He.ga K r.name) fd →
    FnOk P w K mg base CX0 (n + 3) (He.ga K r.name) fd r.ps (spOf K (run (txt rs) n r.name))
  | 0, r, hr, fd, FD => ⟨fun vs H Q E ⟨_, _, _, _, _, h, _⟩ => (by cases h), fun A outer s H args us vs Q E _ _ _ _ ⟨_, _, _, _, _, h, _⟩ => (by cases h)⟩
  | n + 1, r, hr, fd, FD => by
    have ih := ok_all hn hb hck F hTB n
    obtain ⟨S, hc, hl⟩ := okR_sc (List.all_eq_true.mp hck r hr)
    have e1 : ∀ ds St, run (txt rs) (n + 1) r.name ds St = runD (run (txt rs) n) r.df ds St := fun ds St => by
      show (match (txt rs).lookup r.name with
        | some c => runD (run (txt rs) n) c ds St
        | none => none) = _
      rw [lookup_txt hr hn]
    show FnOk P w K mg base CX0 ((n + 3) + 1) _ _ _ _
    refine FunD.okC FD S (fun vs H Q E h => ?_) (fun cdv hcdv A outer s H vs Q E hroom h => ?_)
    · obtain ⟨β, St, ds, d, S', ev, sim, reps, cl, k⟩ := h
      rw [e1] at ev
      unfold runD at ev
      obtain ⟨c, _⟩ := if_some ev
      rw [← reps.length, hl]
      exact c
    · obtain ⟨β, St, ds, d, S', ev, sim, reps, cl, k⟩ := h
      rw [e1] at ev
      unfold runD at ev
      obtain ⟨c, ev⟩ := if_some ev
      let X : Cx := (cxOf CX0 P w K mg base r.N r.name r.scope (He.ga K r.name) cdv A outer s H E).nox
      have hX : FCtx X ⟨r.N, rs.map (·.name), cons, tabR lams r.name⟩ r.scope (n + 3) (run (txt rs) n) :=
        { nN := rfl, nd := S.nd, sc := rfl, calm := rfl, room := hroom, blt := F.blt, con := F.con,
          fn := fun g hg => by
            obtain ⟨q, hq, rfl⟩ := List.mem_map.mp hg
            obtain ⟨fd', FD', m'⟩ := F.fn q hq
            exact ⟨_, fd', q.ps, ih q hq fd' FD', m', FD'.kp, FD'.bindsN (hb q hq)⟩
          tb := fun nm hnm => by
            have hnm' : tabR lams r.name = some nm := hnm
            unfold tabR at hnm'
            by_cases hl : lams.contains r.name = true
            · rw [if_pos hl] at hnm'
              cases hnm'
              have hm : r.name ∈ lams := by simpa using hl
              exact ⟨codeOf K r.name, hcdv.symm.trans (code_at FD (F.code _ hm)), hTB _ hm, rfl, by omega⟩
            · rw [if_neg hl] at hnm'
              cases hnm'
          kind := S.kind, fnT := fun _ => rfl, own := PassesOwn.never }
      refine ⟨rds K (run (txt rs) n) r.cd, PSs.nox (cks_ok hX r.cd r.body hc), ?_⟩
      have all := ssAll X (run (txt rs) n) r.cd
      rcases q : exs (run (txt rs) n) St.length r.cd (ds.map some ++ List.replicate (r.N.length - ds.length) none) St with _ | ⟨fl, env', S2⟩
      · have q' : exs (run (txt rs) n) St.length r.df.body (ds.map some ++ List.replicate (r.df.nn - ds.length) none) St = none := q
        rw [q'] at ev
        cases ev
      · have q' : exs (run (txt rs) n) St.length r.df.body (ds.map some ++ List.replicate (r.df.nn - ds.length) none) St = some (fl, env', S2) := q
        rw [q'] at ev
        refine all St.length β _ St _ H _ fl env' S2 q sim (env_start reps cl) fun β' σ' H' g' s' r' => ?_
        cases fl with
        | nx => exact (k.fin ev sim Gr.refl) β' _ H' g' s' rfl rfl
        | ret d1 => exact fun v rv cv => (k.fin ev sim Gr.refl) β' v H' g' s' rv cv
        | bk => cases ev
        | ct => cases ev
end
end Z
end
section
set_option Elab.async false
set_option linter.all false
set_option autoImplicit false
set_option maxHeartbeats 4000000
/-! the head's facts; the law's def -/
namespace Z
open PySem L2

/-! ### facts over a part of the heap without lists, without tables of code objects -/
def noLst (o : Obj) : Bool := match o.cls with
  | .type n => !(decide (n = "list"))
  | _ => true
def frL (g : Addr → Option Obj) (as : List Addr) : PySem.W.Frag := (He.frG g as).filter fun q => noLst q.2 && !He.emptyTab q.2
theorem frL_in {as : List Addr} {h : Heap} : (frL h.get? as).In h := fun _ _ e => He.frG_mem (List.mem_filter.mp (He.lookup_mem e)).1
theorem frL_both {g : Addr → Option Obj} {as : List Addr} {a : Addr} {o : Obj} (e : (frL g as).lookup a = some o) : noLst o = true ∧ He.emptyTab o = false := by
  have h := (List.mem_filter.mp (He.lookup_mem e)).2
  rw [Bool.and_eq_true] at h
  exact ⟨h.1, by simpa using h.2⟩
def tabsB (g : Addr → Option Obj) (lams : List Str) (K : PySem.W.Frag) : Bool := lams.all (fun x => codeRefB K x && PySem.W.codeHdIn K (codeOf K x) (tabOf K x) && (match g (tabOf K x) with
  | some o => He.emptyTab o
  | none => false)) && decide ((lams.map (tabOf K)).Nodup)
abbrev AlL := He.AlD × Bool
def obsL (n : Nat) (fa : List He.Fa) (fn : List He.DefD) (lams : List Str) (g : Addr → Option Obj) : AlL := (He.obsD fa fn (frL g (He.asD g n)), tabsB g lams (frL g (He.asD g n)))
structure SaysL (fa : List He.Fa) (fn : List He.DefD) (lams : List Str) (h : Heap) (K : PySem.W.Frag) : Prop where
  d : He.SaysD fa fn K
  no : ∀ a o, K.lookup a = some o → noLst o = true
  code : ∀ x ∈ lams, codeRefB K x = true
  hd : ∀ x ∈ lams, PySem.W.codeHdIn K (codeOf K x) (tabOf K x) = true
  out : ∀ x ∈ lams, K.lookup (tabOf K x) = none
  empty : ∀ x ∈ lams, h.get? (tabOf K x) = some { cls := .none, data := .fields #[] }
  nd : (lams.map (tabOf K)).Nodup
theorem saysL_of {n : Nat} {fa : List He.Fa} {fn : List He.DefD} {lams : List Str} {h : Heap} (e : obsL n fa fn lams h.get? = (He.valD fn, true)) : SaysL fa fn lams h (frL h.get? (He.asD h.get? n)) := by
  have e1 : He.obsD fa fn (frL h.get? (He.asD h.get? n)) = He.valD fn := congrArg (fun z : AlL => z.1) e
  have e2 : tabsB h.get? lams (frL h.get? (He.asD h.get? n)) = true := congrArg (fun z : AlL => z.2) e
  generalize hK : frL h.get? (He.asD h.get? n) = K at e1 e2
  have hin : K.In h := by rw [← hK]; exact frL_in
  have hb : ∀ a o, K.lookup a = some o → noLst o = true ∧ He.emptyTab o = false := fun a o q => by
    rw [← hK] at q
    exact frL_both q
  unfold tabsB at e2
  obtain ⟨h1, h2⟩ := and2 e2
  have key : ∀ x ∈ lams, codeRefB K x = true ∧ PySem.W.codeHdIn K (codeOf K x) (tabOf K x) = true ∧ ∃ o, h.get? (tabOf K x) = some o ∧ He.emptyTab o = true := fun x hx => by
    obtain ⟨q1, q2, q3⟩ := and3 (List.all_eq_true.mp h1 x hx)
    refine ⟨q1, q2, ?_⟩
    cases q : h.get? (tabOf K x) with
    | none => rw [q] at q3; cases q3
    | some o => rw [q] at q3; exact ⟨o, rfl, q3⟩
  refine ⟨e1, fun a o q => (hb a o q).1, fun x hx => (key x hx).1, fun x hx => (key x hx).2.1, fun x hx => ?_, fun x hx => ?_, of_decide_eq_true h2⟩
  · obtain ⟨_, _, o, q, z⟩ := key x hx
    cases q2 : K.lookup (tabOf K x) with
    | none => rfl
    | some o2 =>
      have q3 := hin _ _ q2
      rw [q] at q3
      cases q3
      rw [(hb _ _ q2).2] at z
      cases z
  · obtain ⟨_, _, o, q, z⟩ := key x hx
    rw [q, He.emptyTab_eq z]
def hookL (n : Nat) (fa : List He.Fa) (fn : List He.DefD) (lams : List Str) : PySem.W.Hook where
  α := AlL
  obs := fun s => obsL n fa fn lams s.heap.get?
  val := fun _ => (He.valD fn, true)
  says := fun _ h => ∃ K : PySem.W.Frag, K.In h ∧ SaysL fa fn lams h K
  of := fun _ _ e => ⟨_, frL_in, saysL_of e⟩
  keeps := fun _ _ _ ⟨K, hK, c⟩ k => ⟨K, PySem.W.Frag.In.keeps hK k, ⟨c.d, c.no, c.code, c.hd, c.out, fun x hx => k _ _ (c.empty x hx), c.nd⟩⟩
theorem obsL_eq {n : Nat} {fa : List He.Fa} {fn : List He.DefD} {lams : List Str} {g : Addr → Option Obj} {s : Shared} (h : ∀ a, g a = s.heap.get? a) : obsL n fa fn lams g = (hookL n fa fn lams).obs s := by
  have e : g = s.heap.get? := funext h
  rw [e] <;> rfl

def toD (r : Dr) : He.DefD := ⟨(r.name, none), r.name, r.name, r.params, r.body, r.scope, [], []⟩
def faOf (rs : List Dr) (cons : List (Str × Int)) : List He.Fa := rs.map (fun r => .glo r.name) ++ (bltNames.map .free ++ cons.map fun p => .int p.1 p.2)
section
variable {K : PySem.W.Frag} {h : Heap} {mg : Str → Option Value} {cons : List (Str × Int)} {lams : List Str} {rs : List Dr}
theorem fact_mem {fa : List He.Fa} {fn : List He.DefD} {f : He.Fa} (c : He.SaysD fa fn K) (hf : f ∈ fa) : f.ok K = true := by
  obtain ⟨i, hi, e⟩ := List.mem_iff_getElem.mp hf
  exact c.fact i (f := f) (by rw [List.getElem?_eq_getElem hi, e])
theorem lookup_in {α : Type} {x : Str} {i : α} : ∀ {l : List (Str × α)}, l.lookup x = some i → (x, i) ∈ l
  | [], h => by cases h
  | (b, u) :: r, h => by
    rw [List.lookup_cons] at h
    cases q : (x == b) with
    | true =>
      rw [q] at h
      rw [eq_of_beq q]
      cases h
      exact List.mem_cons_self
    | false =>
      rw [q] at h
      exact List.mem_cons_of_mem _ (lookup_in h)
theorem facts_of (c : SaysL (faOf rs cons) (rs.map toD) lams h K) (X : K.In h) (G : h.Ns mainGlobals mg) : Facts K mg cons lams rs where
  fn := fun r hr => by
    obtain ⟨fd, F⟩ := c.d.defs (d := toD r) (List.mem_map_of_mem hr)
    exact ⟨fd, F, He.glo_ok X G (fact_mem c.d (List.mem_append_left _ (List.mem_map.mpr ⟨r, hr, rfl⟩)))⟩
  code := c.code
  blt := fun x hx => He.free_ok X G (fact_mem c.d (List.mem_append_right _ (List.mem_append_left _ (List.mem_map_of_mem hx))))
  con := fun x i hx => He.int_ok X G (fact_mem c.d (List.mem_append_right _ (List.mem_append_right _ (List.mem_map.mpr ⟨(x, i), lookup_in hx, rfl⟩))))
/-- where the script and the tables stand -/
def betaL (K : PySem.W.Frag) (a : Addr) (lams : List Str) : Nat → Addr
  | 0 => a
  | i + 1 => match lams[i]? with
    | some x => tabOf K x
    | none => 0
def scrL (ns : List Int) (lams : List Str) : Sto := .fro (ns.map .int) :: lams.map .tbl
/-- what is asked of a law's def: for every script the run's answer is true -/
theorem law_sp (c : SaysL (faOf rs cons) (rs.map toD) lams h K) {F : List D → Sto → Option (D × Sto)} (H : Hp) (a : Addr) (ns : List Int) (hlaw : ∃ S', F [.ref 0] (scrL ns lams) = some (.bl true, S'))
    (hH : ∀ x ∈ lams, H (tabOf K x) = some (.tbl #[])) (hS : SqL K H a (ns.map V.int)) : spOf K F [.ref a] H (fun v _ => v = .bl true) fun _ _ _ => False := by
  obtain ⟨S', e⟩ := hlaw
  have hf : H a = some (.lst (ns.map V.int)) ∨ ∃ o, H a = some (.frz o (.lst (ns.map V.int))) := by
    rcases hS with h | ⟨o, its, m, hk, hc, _⟩
    · exact h
    · have := c.no a o hk
      unfold noLst at this
      rw [hc] at this
      simp at this
  have ha : ∀ x ∈ lams, tabOf K x ≠ a := fun x hx z => by
    have := hH x hx
    rw [z] at this
    rcases hf with q | ⟨o, q⟩ <;> (rw [q] at this; cases this)
  have hb : ∀ (i : Nat) (x : Str), lams[i]? = some x → betaL K a lams (i + 1) = tabOf K x := fun i x hx => by
    show (match lams[i]? with
      | some x => tabOf K x
      | none => 0) = _
    rw [hx]
  refine ⟨betaL K a lams, scrL ns lams, [.ref 0], .bl true, S', e, ⟨fun i oi ei => ?_, fun i oi ei => ?_, fun i j hi hj q => ?_⟩, ⟨.ref a, [], rfl, rfl, rfl⟩, rfl, fun β' v H' _ _ r _ => r⟩
  · cases i with
    | zero =>
      cases ei
      exact ⟨ns.map V.int, hf, reps_of_ints ns⟩
    | succ i =>
      have ei' : (lams.map SO.tbl)[i]? = some oi := ei
      rw [List.getElem?_map] at ei'
      cases q : lams[i]? with
      | none => rw [q] at ei'; cases ei'
      | some x =>
        rw [q] at ei'
        cases ei'
        have hm : x ∈ lams := List.mem_of_getElem? q
        rw [hb i x q]
        exact ⟨rfl, #[], hH x hm, by trivial, fun pos cv hc => by cases hc⟩
  · cases i with
    | zero =>
      cases ei
      exact cl_ints ns
    | succ i =>
      have ei' : (lams.map SO.tbl)[i]? = some oi := ei
      rw [List.getElem?_map] at ei'
      cases q : lams[i]? with
      | none => rw [q] at ei'; cases ei'
      | some x =>
        rw [q] at ei'
        cases ei'
        rfl
  · have hl : (scrL ns lams).length = lams.length + 1 := by simp [scrL]
    rw [hl] at hi hj
    cases i with
    | zero =>
      cases j with
      | zero => rfl
      | succ j =>
        have hj' : j < lams.length := by omega
        have qj := List.getElem?_eq_getElem hj'
        rw [hb j _ qj] at q
        exact absurd q.symm (ha _ (List.getElem_mem hj'))
    | succ i =>
      have hi' : i < lams.length := by omega
      have qi := List.getElem?_eq_getElem hi'
      rw [hb i _ qi] at q
      cases j with
      | zero => exact absurd q (ha _ (List.getElem_mem hi'))
      | succ j =>
        have hj' : j < lams.length := by omega
        have qj := List.getElem?_eq_getElem hj'
        rw [hb j _ qj] at q
        have n := c.nd
        have : i = j := by
          refine (List.getElem_inj (xs := lams.map (tabOf K)) (h₀ := by simpa using hi') (h₁ := by simpa using hj') n).mp ?_
          rw [List.getElem_map, List.getElem_map]
          exact q
        rw [this]
theorem law_fin {l : PySem.W.OpenLaw} {w : World} {fa : Addr} {r : Dr} {k n : Nat} (hn : (rs.map (·.name)).Nodup) (hb : ∀ r ∈ rs, BindP r) (hck : rs.all (okR (rs.map (·.name)) cons lams) = true) (hr : r ∈ rs) (hps : r.ps = [("script" : Str)])
    (hlaw : ∀ ns : List Int, ns.length ≤ n → (∀ z ∈ ns, Builtin.Int.intBits z ≤ 1048576) → ∃ S', run (txt rs) k r.name [.ref 0] (scrL ns lams) = some (.bl true, S'))
    (X : K.In h) (c : SaysL (faOf rs cons) (rs.map toD) lams h K) (G : h.Ns mainGlobals mg) (hm : mg r.name = some (.ref fa)) :
    LamX.LawAtS l w K CX0 (k + 3) n "script" mg fa h := by
  have F := facts_of c X G
  obtain ⟨fd, FD, hm2⟩ := F.fn r hr
  have e : He.ga K r.name = fa := by
    have := hm2.symm.trans hm
    cases this
    rfl
  refine ⟨fd, lams.map fun x => (codeOf K x, tabOf K x), spOf K (run (txt rs) k r.name), fun p hp => ?_, fun p hp => ?_, fun p hp => ?_, fun s u => ?_, fun H a ns hl hz hT hS => ?_, fun base XB GB TB => ?_⟩
  · obtain ⟨x, hx, rfl⟩ := List.mem_map.mp hp
    exact c.empty x hx
  · obtain ⟨x, hx, rfl⟩ := List.mem_map.mp hp
    exact c.out x hx
  · obtain ⟨x, hx, rfl⟩ := List.mem_map.mp hp
    exact PySem.W.codeHd_of_K X (c.hd x hx)
  · have b := FunD.bindsA (ps := r.ps) FD (hb r hr) s [u] (by rw [hps]; rfl)
    rw [hps] at b
    exact b
  · exact law_sp c H a ns (hlaw ns hl hz) (fun x hx => hT (codeOf K x, tabOf K x) (List.mem_map.mpr ⟨x, hx, rfl⟩)) hS
  · have := ok_all (P := l.prog) (w := w) (base := base) hn hb hck F (fun x hx => TB (codeOf K x, tabOf K x) (List.mem_map.mpr ⟨x, hx, rfl⟩)) k r hr fd FD
    rw [hps, e] at this
    exact this
end
end Z
end
section
set_option Elab.async false
set_option linter.all false
set_option autoImplicit false
set_option maxHeartbeats 4000000
/-! running a text, by rules -/
namespace Z
open PySem L2

theorem run_r {rs : List Dr} {r : Dr} (hr : r ∈ rs) (hn : (rs.map (·.name)).Nodup) (n : Nat) (vs : List D) (S : Sto) : run (txt rs) (n + 1) r.name vs S = runD (run (txt rs) n) r.df vs S := by
  show (match (txt rs).lookup r.name with
    | some c => runD (run (txt rs) n) c vs S
    | none => none) = _
  rw [lookup_txt hr hn]

/-! ### temporaries are dropped -/
theorem gc_none {n : Nat} : gc n none = none := rfl
theorem gc_cl {n : Nat} {d : D} {S : Sto} (h : d.cl n = true) : gc n (some (d, S)) = some (d, S.take n) := by
  unfold gc
  simp only
  rw [if_pos h]
theorem gc_self {d : D} {S : Sto} (h : d.cl S.length = true) : gc S.length (some (d, S)) = some (d, S) := by
  rw [gc_cl h, List.take_length]
theorem gc_app {d : D} {S t : Sto} (h : d.cl S.length = true) : gc S.length (some (d, S ++ t)) = some (d, S) := by
  rw [gc_cl h, List.take_left']
  rfl
theorem gc_new {S t : Sto} {o : SO} {k : Nat} (hk : k = t.length) (ho : o.cl S.length = true) : gc S.length (some (.ref (S.length + k), S ++ (t ++ [o]))) = some (.ref S.length, S ++ [o]) := by
  subst hk
  unfold gc
  simp only
  have h : D.cl S.length (.ref (S.length + t.length)) = false := decide_eq_false (by omega)
  rw [h, if_neg (by decide)]
  have e : (S ++ (t ++ [o]))[S.length + t.length]? = some o := by
    rw [List.getElem?_append_right (by omega)]
    rw [show S.length + t.length - S.length = t.length by omega]
    simp
  rw [e]
  simp only
  rw [if_pos ho, List.take_left']
  rfl
theorem gc_new0 {S : Sto} {o : SO} (ho : o.cl S.length = true) : gc S.length (some (.ref S.length, S ++ [o])) = some (.ref S.length, S ++ [o]) := gc_new (t := []) (k := 0) rfl ho
theorem cl_int {n : Nat} {i : Int} : D.cl n (.int i) = true := rfl
theorem cl_bl {n : Nat} {i : Bool} : D.cl n (.bl i) = true := rfl
theorem cl_non {n : Nat} : D.cl n .non = true := rfl
theorem cl_str {n : Nat} {i : Str} : D.cl n (.str i) = true := rfl
theorem gc_intS {i : Int} {S : Sto} : gc S.length (some (.int i, S)) = some (.int i, S) := gc_self rfl
theorem gc_blS {i : Bool} {S : Sto} : gc S.length (some (.bl i, S)) = some (.bl i, S) := gc_self rfl
theorem gc_intA {i : Int} {S t : Sto} : gc S.length (some (.int i, S ++ t)) = some (.int i, S) := gc_app rfl
theorem gc_blA {i : Bool} {S t : Sto} : gc S.length (some (.bl i, S ++ t)) = some (.bl i, S) := gc_app rfl
theorem gc_ints {ns : List Int} {S : Sto} : gc S.length (some (.tup (ns.map .int), S)) = some (.tup (ns.map .int), S) := gc_self (cl_ints ns)
theorem gc_intsA {ns : List Int} {S t : Sto} : gc S.length (some (.tup (ns.map .int), S ++ t)) = some (.tup (ns.map .int), S) := gc_app (cl_ints ns)

/-! ### rules, one a construct -/
section
variable {φ : Phi} {base : Nat} {env : Ev} {S : Sto} {a b c e o i : Ex} {es : Es}
theorem e_var {i : Nat} : evE φ base env (.var i) S = (getV env i).map fun d => (d, S) := by rw [evE]
theorem e_non : evE φ base env .non S = some (.non, S) := by rw [evE]
theorem e_bl {b : Bool} : evE φ base env (.bl b) S = some (.bl b, S) := by rw [evE]
theorem e_int {i : Int} : evE φ base env (.int i) S = some (.int i, S) := by rw [evE]
theorem e_con {i : Int} : evE φ base env (.con i) S = some (.int i, S) := by rw [evE]
theorem e_str {s : Str} : evE φ base env (.str s) S = some (.str s, S) := by rw [evE]
theorem e_bin {op : Operator} {x y : D} {S1 S2 : Sto} (h1 : evE φ S.length env a S = some (x, S1)) (h2 : evE φ S.length env b S1 = some (y, S2)) : evE φ base env (.bin op a b) S = gc S.length (binF op x y S2) := by
  rw [evE, h1]
  simp only [h2]
theorem e_cmp {op : CmpOp} {x y : D} {S1 S2 : Sto} (h1 : evE φ S.length env a S = some (x, S1)) (h2 : evE φ S.length env b S1 = some (y, S2)) : evE φ base env (.cmp op a b) S = gc S.length ((cmpF op x y S2).map fun z => (.bl z, S2)) := by
  rw [evE, h1]
  simp only [h2]
theorem e_call {f : Str} {vs : List D} {S1 : Sto} (h : evS φ S.length env es S = some (vs, S1)) : evE φ base env (.call f es) S = gc S.length (φ f vs S1) := by
  rw [evE, h]
theorem e_blt {b : Bl} {vs : List D} {S1 : Sto} (h : evS φ S.length env es S = some (vs, S1)) : evE φ base env (.blt b es) S = gc S.length (bltF b vs S1) := by
  rw [evE, h]
/-- a comprehension's turn -/
def lcS (φ : Phi) (base : Nat) (env : Ev) (own : List Nat) (g : Tg) (c : Ox) (e : Ex) : D → Sto → Option (Option D × Sto) := fun d S2 => match tgF g (wipeE env own) d with
  | some env2 => (match evO φ base env2 c S2 with
    | some (t, S3) => (match t with
      | none => (match evE φ base env2 e S3 with
        | some (y, S4) => some (some y, S4)
        | none => none)
      | some t => (match truF S3 t with
        | some true => (match evE φ base env2 e S3 with
          | some (y, S4) => some (some y, S4)
          | none => none)
        | some false => some (none, S3)
        | none => none))
    | none => none)
  | none => none
theorem e_lc {own : List Nat} {g : Tg} {it : It} {c : Ox} {xs ys : List D} {h : Option Nat} {S1 S2 : Sto} (hg : tgIn own g = true) (h1 : evI φ S.length env it S = some (xs, h, S1))
    (h2 : lcF (lcS φ S.length env own g c e) (fun S2 => still S2 h xs) xs [] S1 = some (ys, S2)) : evE φ base env (.lc own g it c e) S = gc S.length (new S2 (.lst ys)) := by
  rw [evE, if_pos hg, h1]
  show gc S.length (match lcF (lcS φ S.length env own g c e) (fun S2 => still S2 h xs) xs [] S1 with
    | some (ys, S2) => new S2 (.lst ys)
    | none => none) = _
  rw [h2]
/-- a for's turn -/
def frS (φ : Phi) (base : Nat) (g : Tg) (b : Ss) : D → Ev → Sto → Rs := fun d env1 S2 => match tgF g env1 d with
  | some env2 => exs φ base b env2 S2
  | none => none
theorem x_for {g : Tg} {it : It} {b : Ss} {xs : List D} {h : Option Nat} {S1 : Sto} (h1 : evI φ base env it S = some (xs, h, S1)) : ex1 φ base (.for g it b) env S = forF (frS φ base g b) (fun S2 => still S2 h xs) xs env S1 := by
  rw [ex1, h1]
  rfl
end
section
variable {φ : Phi} {base n : Nat} {env env1 : Ev} {S S1 : Sto} {e : Ex} {es : Es} {s : Sm} {ss : Ss} {x v d : D} {c : Df} {vs : List D}
theorem xs_nil : exs φ base .nil env S = some (.nx, env, S) := by rw [exs]
theorem xs_nx (h : ex1 φ base s env S = some (.nx, env1, S1)) : exs φ base (.cons s ss) env S = exs φ base ss env1 S1 := by
  rw [exs, h]
theorem xs_ret (h : ex1 φ base s env S = some (.ret v, env1, S1)) : exs φ base (.cons s ss) env S = some (.ret v, env1, S1) := by
  rw [exs, h]
theorem x_ret (h : evE φ base env e S = some (x, S1)) : ex1 φ base (.ret e) env S = some (.ret x, env, S1) := by
  rw [ex1, h]
theorem x_set {i : Nat} (h : evE φ base env e S = some (x, S1)) : ex1 φ base (.set i e) env S = some (.nx, env.set i (some x), S1) := by
  rw [ex1, h]
theorem x_expr (h : evE φ base env e S = some (x, S1)) : ex1 φ base (.expr e) env S = some (.nx, env, S1) := by
  rw [ex1, h]
theorem x_if {a b : Ss} {k : Bool} (h : evT φ base env e S = some (k, S1)) : ex1 φ base (.ifs e a b) env S = exs φ base (if k = true then a else b) env S1 := by
  rw [ex1, h]
  cases k <;> rfl
/-- a def's call ends with a value -/
theorem run_ret (hn : vs.length = c.np) (h : exs φ S.length c.body (vs.map some ++ List.replicate (c.nn - vs.length) none) S = some (.ret d, env1, S1)) : runD φ c vs S = gc S.length (some (d, S1)) := by
  unfold runD
  rw [if_pos hn, h]
theorem run_end (hn : vs.length = c.np) (h : exs φ S.length c.body (vs.map some ++ List.replicate (c.nn - vs.length) none) S = some (.nx, env1, S1)) : runD φ c vs S = gc S.length (some (.non, S1)) := by
  unfold runD
  rw [if_pos hn, h]
end
/-! ### loops, turn by turn -/
section
variable {step : D → Ev → Sto → Rs} {ok : Sto → Bool} {d : D} {ds : List D} {env env1 : Ev} {S S1 : Sto} {v : D}
theorem for_nil (h : ok S = true) : forF step ok [] env S = some (.nx, env, S) := by
  unfold forF
  rw [if_pos h]
theorem for_nx (h : ok S = true) (e : step d env S = some (.nx, env1, S1)) : forF step ok (d :: ds) env S = forF step ok ds env1 S1 := by
  rw [forF, if_pos h, e]
theorem for_ct (h : ok S = true) (e : step d env S = some (.ct, env1, S1)) : forF step ok (d :: ds) env S = forF step ok ds env1 S1 := by
  rw [forF, if_pos h, e]
theorem for_bk (h : ok S = true) (e : step d env S = some (.bk, env1, S1)) : forF step ok (d :: ds) env S = some (.nx, env1, S1) := by
  rw [forF, if_pos h, e]
theorem for_ret (h : ok S = true) (e : step d env S = some (.ret v, env1, S1)) : forF step ok (d :: ds) env S = some (.ret v, env1, S1) := by
  rw [forF, if_pos h, e]
end
section
variable {step : D → Sto → Option (Option D × Sto)} {ok : Sto → Bool} {d y : D} {ds acc : List D} {S S1 : Sto}
theorem lc_nil (h : ok S = true) : lcF step ok [] acc S = some (acc, S) := by
  unfold lcF
  rw [if_pos h]
theorem lc_put (h : ok S = true) (hl : acc.length < lim) (e : step d S = some (some y, S1)) : lcF step ok (d :: ds) acc S = lcF step ok ds (acc ++ [y]) S1 := by
  rw [lcF, if_pos (by rw [h, decide_eq_true hl]; rfl), e]
theorem lc_skip (h : ok S = true) (hl : acc.length < lim) (e : step d S = some (none, S1)) : lcF step ok (d :: ds) acc S = lcF step ok ds acc S1 := by
  rw [lcF, if_pos (by rw [h, decide_eq_true hl]; rfl), e]
/-- turns that leave the store as it is: what each item becomes -/
theorem lc_pure (g : D → Option D) (hok : ok S = true) : ∀ (ds acc : List D), acc.length + ds.length ≤ lim → (∀ d, d ∈ ds → step d S = some (g d, S)) → lcF step ok ds acc S = some (acc ++ ds.filterMap g, S)
  | [], acc, _, _ => by rw [lc_nil hok, List.filterMap_nil, List.append_nil]
  | d :: ds, acc, hl, h => by
    have hd := h d List.mem_cons_self
    rw [List.length_cons] at hl
    cases q : g d with
    | none =>
      rw [q] at hd
      rw [lc_skip hok (by omega) hd, lc_pure g hok ds acc (by omega) fun x hx => h x (List.mem_cons_of_mem _ hx), List.filterMap_cons, q]
    | some y =>
      rw [q] at hd
      rw [lc_put hok (by omega) hd, lc_pure g hok ds (acc ++ [y]) (by rw [List.length_append, List.length_singleton]; omega) fun x hx => h x (List.mem_cons_of_mem _ hx), List.filterMap_cons, q, List.append_assoc]
      rfl
end
theorem lc_ints {step : D → Sto → Option (Option D × Sto)} {ok : Sto → Bool} {S : Sto} (g : Int → Option D) (hok : ok S = true) (ns : List Int) (hl : ns.length ≤ lim) (h : ∀ i, i ∈ ns → step (.int i) S = some (g i, S)) : lcF step ok (ns.map .int) [] S = some (ns.filterMap g, S) := by
  have e := lc_pure (step := step) (ok := ok) (S := S) (fun d => match d with
    | .int i => g i
    | _ => none) hok (ns.map .int) [] (by simpa using hl) fun d hd => by
      obtain ⟨i, hi, rfl⟩ := List.mem_map.mp hd
      exact h i hi
  rw [e, List.filterMap_map, List.nil_append]
  rfl
theorem lc_intsM {step : D → Sto → Option (Option D × Sto)} {ok : Sto → Bool} {S : Sto} (g : Int → D) (hok : ok S = true) (ns : List Int) (hl : ns.length ≤ lim) (h : ∀ i, i ∈ ns → step (.int i) S = some (some (g i), S)) : lcF step ok (ns.map .int) [] S = some (ns.map g, S) := by
  rw [lc_ints (fun i => some (g i)) hok ns hl h, List.filterMap_eq_map']
/-! ### lists just laid -/
theorem at_new {S : Sto} {o : SO} : (S ++ [o])[S.length]? = some o := by simp
theorem lst_new {S : Sto} {xs : List D} : lstOf (S ++ [.lst xs]) (.ref S.length) = some xs := by
  show ((S ++ [SO.lst xs])[S.length]?).bind SO.seq? = _
  rw [at_new]
  rfl
theorem items_new {S : Sto} {xs : List D} : itemsOf (S ++ [.lst xs]) (.ref S.length) = some xs := lst_new
theorem intsOf_ints : ∀ ns : List Int, intsOf (ns.map .int) = some ns
  | [] => rfl
  | n :: r => by
    show (intsOf (r.map .int)).map (n :: ·) = _
    rw [intsOf_ints r]
    rfl
/-- a value's kinds -/
def isInt : D → Bool
  | .int _ => true
  | _ => false
def wholeD : D → Bool := isInt
theorem cl_ref {n i : Nat} (h : D.cl n (.ref i) = true) : i < n := of_decide_eq_true h
theorem cl_at {S : Sto} {i : Nat} (h : D.cl S.length (.ref i) = true) : ∃ o, S[i]? = some o := ⟨_, List.getElem?_eq_getElem (cl_ref h)⟩
/-- a value that may be looked at: no table of code objects -/
def okV (S : Sto) : D → Prop
  | .ref i => ∃ o, S[i]? = some o ∧ ∀ f, o ≠ .tbl f
  | _ => True
theorem isi_int {S : Sto} {v : D} (h : okV S v) : ∃ b, isiF S v .int = some b ∧ ∃ c, isiF S v .bool = some c ∧ (b && !c) = wholeD v := by
  cases v with
  | ref i =>
    obtain ⟨o, e, nt⟩ := h
    unfold isiF
    simp only [e]
    cases o <;> first
      | exact ⟨_, rfl, _, rfl, rfl⟩
      | exact absurd rfl (nt _)
  | non => exact ⟨_, rfl, _, rfl, rfl⟩
  | bl b => exact ⟨_, rfl, _, rfl, rfl⟩
  | int i => exact ⟨_, rfl, _, rfl, rfl⟩
  | str s => exact ⟨_, rfl, _, rfl, rfl⟩
  | tup ds => exact ⟨_, rfl, _, rfl, rfl⟩
theorem eqD_int {S : Sto} {a b : Int} : eqD S (.int a) (.int b) = some (decide (a = b)) := by
  unfold eqD py
  simp only [pyD]
  show (if (SeqAt.shaped (.int a) && SeqAt.shaped (.int b)) = true then some (PyData.eqv (.int a) (.int b)) else none) = _
  rw [if_pos (by rfl)]
  have : PyData.eqv (.int a) (.int b) = (a == b) := by rfl
  rw [this]
  by_cases h : a = b <;> simp [h]
theorem boolsOf_bls : ∀ bs : List Bool, boolsOf (bs.map .bl) = some bs
  | [] => rfl
  | b :: r => by
    show (boolsOf (r.map .bl)).map (b :: ·) = _
    rw [boolsOf_bls r]
    rfl
theorem cl_bls {n : Nat} : ∀ (bs : List Bool), clL n (bs.map D.bl) = true
  | [] => rfl
  | b :: r => cl_bls r
theorem lc_bls {step : D → Sto → Option (Option D × Sto)} {ok : Sto → Bool} {S : Sto} (g : D → Bool) (hok : ok S = true) (ds : List D) (hl : ds.length ≤ lim) (h : ∀ d, d ∈ ds → step d S = some (some (.bl (g d)), S)) : lcF step ok ds [] S = some ((ds.map g).map .bl, S) := by
  rw [lc_pure (fun d => some (.bl (g d))) hok ds [] (by simpa using hl) h, List.nil_append, List.filterMap_eq_map', List.map_map]
  rfl
def tupD : D → Option (List D)
  | .tup ds => some ds
  | _ => none
theorem isi_tup {S : Sto} {v : D} (h : okV S v) : isiF S v .tuple = some (tupD v).isSome := by
  cases v with
  | ref i =>
    obtain ⟨o, e, nt⟩ := h
    unfold isiF
    simp only [e]
    cases o <;> first
      | rfl
      | exact absurd rfl (nt _)
  | _ => rfl
/-- a whole number from a to b -/
def betD (v : D) (a b : Int) : Bool := match v with
  | .int i => decide (a ≤ i) && decide (i ≤ b)
  | _ => false
/-- ascending whole numbers from a to b -/
def ascL (b : Int) : Int → List D → Bool
  | _, [] => true
  | a, d :: r => betD d a b && (match d with
    | .int i => ascL b (i + 1) r
    | _ => false)
def ascD (v : D) (b : Int) : Bool := match v with
  | .tup ds => ascL (b - 1) 0 ds
  | _ => false
end Z
end
section
set_option Elab.async false
set_option linter.all false
set_option autoImplicit false
set_option maxHeartbeats 4000000
/-! lots as masks -/
namespace Z
open PySem L2 PyProof.Rows Bits

/-- the lot of a mask below 2 ^ 24 -/
def lotI (m : Nat) : List Int := ((List.range 24).filter fun k => m.testBit k).map fun k : Nat => (k : Int)
theorem cast_asc : ∀ {l : List Nat}, l.Pairwise (· < ·) → (l.map fun k : Nat => (k : Int)).Pairwise (· < ·) := fun h => List.pairwise_map.mpr (h.imp fun h => by omega)
theorem lotI_asc (m : Nat) : (lotI m).Pairwise (· < ·) := cast_asc (List.pairwise_lt_range.filter _)
theorem lotI_mem (m : Nat) (i : Int) : i ∈ lotI m ↔ 0 ≤ i ∧ i < 24 ∧ m.testBit i.toNat = true := by
  unfold lotI
  simp only [List.mem_map, List.mem_filter, List.mem_range]
  constructor
  · rintro ⟨k, ⟨h1, h2⟩, rfl⟩
    exact ⟨by omega, by omega, by simpa using h2⟩
  · rintro ⟨h1, h2, h3⟩
    exact ⟨i.toNat, ⟨by omega, h3⟩, by omega⟩
theorem filterMap_if {p : Int → Bool} : ∀ l : List Int, (l.filterMap fun i => if p i = true then some (D.int i) else none) = (l.filter p).map D.int
  | [] => rfl
  | i :: l => by
    rw [List.filterMap_cons, List.filter_cons, filterMap_if l]
    cases p i <;> rfl
theorem bit_at (m k : Nat) : (Builtin.bitAnd ((m : Int) / 2 ^ k) 1 = 0) ↔ m.testBit k = false := by
  rw [bitAnd_m1]
  have e : ((m : Int) / 2 ^ k) = ((m / 2 ^ k : Nat) : Int) := by
    rw [Int.natCast_ediv, Int.natCast_pow]
    rfl
  rw [e, Nat.testBit_eq_decide_div_mod_eq, decide_eq_false_iff_not]
  omega
theorem lot_bits (m : Nat) (hm : m < 2 ^ 24) : (((List.range (Builtin.Int.intBits (m : Int))).map fun k : Nat => (k : Int)).filterMap fun i => if Builtin.bitAnd ((m : Int) / 2 ^ i.toNat) 1 = 0 then none else some (D.int i)) = (lotI m).map D.int := by
  have e : (fun i : Int => if Builtin.bitAnd ((m : Int) / 2 ^ i.toNat) 1 = 0 then none else some (D.int i)) = fun i => if (!decide (Builtin.bitAnd ((m : Int) / 2 ^ i.toNat) 1 = 0)) = true then some (D.int i) else none := by
    funext i
    by_cases h : Builtin.bitAnd ((m : Int) / 2 ^ i.toNat) 1 = 0 <;> simp [h]
  rw [e, filterMap_if]
  congr 1
  have hK : Builtin.Int.intBits (m : Int) ≤ 24 := intBits_le_iff.mpr (show (m : Int).natAbs < 2 ^ 24 from by rw [Int.natAbs_natCast]; exact hm)
  have hB : m < 2 ^ Builtin.Int.intBits (m : Int) := by simpa using (intBits_le_iff (x := (m : Int))).mp (Nat.le_refl _)
  refine asc_same ((cast_asc List.pairwise_lt_range).filter _) (lotI_asc m) fun i => ?_
  rw [List.mem_filter, lotI_mem]
  simp only [List.mem_map, List.mem_range, Bool.not_eq_true', decide_eq_false_iff_not]
  constructor
  · rintro ⟨⟨k, h1, rfl⟩, h2⟩
    refine ⟨by omega, by omega, ?_⟩
    rw [Int.toNat_natCast] at h2 ⊢
    rw [bit_at] at h2
    simpa using h2
  · rintro ⟨h1, h2, h3⟩
    refine ⟨⟨i.toNat, ?_, by omega⟩, ?_⟩
    · apply Classical.byContradiction
      intro hc
      have : m.testBit i.toNat = false := Nat.testBit_lt_two_pow (Nat.lt_of_lt_of_le hB (Nat.pow_le_pow_right (by decide) (by omega)))
      rw [this] at h3
      cases h3
    · rw [bit_at, h3]
      decide
def maskI (ns : List Int) : Int := (ns.map fun i => (2 : Int) ^ i.toNat).sum
/-- a mask of 24 lines -/
def Low (m : Nat) : Prop := m < 2 ^ 24
theorem low_bits {m : Nat} (hm : Low m) : Builtin.Int.intBits (m : Int) ≤ 24 := intBits_le_iff.mpr (show (m : Int).natAbs < 2 ^ 24 from by rw [Int.natAbs_natCast]; exact hm)
theorem low_rg {m : Nat} (hm : Low m) : rgOk (Builtin.Int.intBits (m : Int) : Int) = true := by
  have hK := low_bits hm
  unfold rgOk
  rw [decide_eq_true (by omega), decide_eq_true (by omega)]
  rfl
theorem and_one (k : Nat) : Builtin.bitAnd (k : Int) 1 = ((k % 2 : Nat) : Int) := by
  rw [bitAnd_m1]
  omega
/-- an ascending lot of lines below 24 -/
structure Lot (ns : List Int) : Prop where
  asc : ns.Pairwise (· < ·)
  lo : ∀ i, i ∈ ns → 0 ≤ i ∧ i < 24
def maskN (ns : List Int) : Nat := (ns.map fun i => 2 ^ i.toNat).sum
theorem Lot.of (m : Nat) : Lot (lotI m) := ⟨lotI_asc m, fun i h => by
  have := (lotI_mem m i).mp h
  exact ⟨this.1, this.2.1⟩⟩
/-- a mask's bits are the lot's lines -/
theorem mask_bit : ∀ {ns : List Int}, ns.Pairwise (· < ·) → (∀ i, i ∈ ns → 0 ≤ i) → ∀ k : Nat, (maskN ns).testBit k = decide ((k : Int) ∈ ns)
  | [], _, _, k => by simp [maskN]
  | i :: r, h, h0, k => by
    obtain ⟨h1, h2⟩ := List.pairwise_cons.mp h
    have ih := mask_bit h2 fun j hj => h0 j (List.mem_cons_of_mem _ hj)
    have hi := h0 i List.mem_cons_self
    have hn : (maskN r).testBit i.toNat = false := by
      rw [ih, decide_eq_false_iff_not]
      intro hc
      have := h1 _ hc
      omega
    have e : maskN (i :: r) = 2 ^ i.toNat ^^^ maskN r := by
      have z : 2 ^ i.toNat &&& maskN r = 0 := by
        apply Nat.eq_of_testBit_eq
        intro j
        rw [Nat.testBit_and, Nat.testBit_two_pow, Nat.zero_testBit]
        by_cases hj : i.toNat = j
        · subst hj
          rw [hn, Bool.and_false]
        · simp [hj]
      have q := nat_xor_add_and (2 ^ i.toNat) (maskN r)
      rw [z] at q
      show 2 ^ i.toNat + maskN r = _
      omega
    rw [e, Nat.testBit_xor, ih, Nat.testBit_two_pow]
    by_cases hj : i.toNat = k
    · subst hj
      have : ((i.toNat : Nat) : Int) ∉ r := fun hc => by
        have := h1 _ hc
        omega
      have e2 : ((i.toNat : Nat) : Int) = i := by omega
      simp [this, e2]
      rw [e2] at this
      exact this
    · have : (k : Int) ≠ i := fun q => hj (by omega)
      simp [hj, this]
theorem maskI_nat {ns : List Int} : maskI ns = ((maskN ns : Nat) : Int) := by
  unfold maskI maskN
  induction ns with
  | nil => rfl
  | cons i r ih =>
    rw [List.map_cons, List.map_cons, List.sum_cons, List.sum_cons, ih, Int.natCast_add, Int.natCast_pow]
    rfl
theorem mask_lt {ns : List Int} (h : Lot ns) : maskN ns < 2 ^ 24 := by
  apply Nat.lt_pow_two_of_testBit
  intro k hk
  rw [mask_bit h.asc (fun i hi => (h.lo i hi).1), decide_eq_false_iff_not]
  intro hc
  have := (h.lo _ hc).2
  omega
theorem lot_mask {ns : List Int} (h : Lot ns) : lotI (maskN ns) = ns := asc_same (lotI_asc _) h.asc fun i => by
  rw [lotI_mem, mask_bit h.asc (fun i hi => (h.lo i hi).1), decide_eq_true_eq]
  constructor
  · rintro ⟨h1, h2, h3⟩
    rwa [Int.toNat_of_nonneg h1] at h3
  · intro hi
    have := h.lo i hi
    exact ⟨this.1, this.2, by rwa [Int.toNat_of_nonneg this.1]⟩
theorem lot_low {ns : List Int} (h : Lot ns) : Low (maskN ns) := mask_lt h
theorem low_xor {a b : Nat} (h1 : Low a) (h2 : Low b) : Low (a ^^^ b) := Nat.xor_lt_two_pow h1 h2
theorem low_and {a b : Nat} (h1 : Low a) : Low (a &&& b) := Nat.lt_of_le_of_lt Nat.and_le_left h1
end Z
end
section
set_option Elab.async false
set_option linter.all false
set_option autoImplicit false
set_option maxHeartbeats 4000000
/-! equality and membership of data -/
namespace Z
open PySem L2

theorem inD_ints {S : Sto} {i : Int} {ns : List Int} : inD S (.int i) (.tup (ns.map .int)) = some (decide (i ∈ ns)) := by
  unfold inD
  show (some (ns.map D.int)).bind _ = _
  rw [Option.bind_some]
  have h : (flatD (.int i) && (ns.map D.int).all flatD) = true := by
    rw [Bool.and_eq_true, List.all_eq_true]
    refine ⟨rfl, fun d hd => ?_⟩
    obtain ⟨j, _, rfl⟩ := List.mem_map.mp hd
    rfl
  rw [if_pos h, List.any_map]
  congr 1
  rw [Bool.eq_iff_iff, List.any_eq_true, decide_eq_true_eq]
  constructor
  · rintro ⟨j, hj, e⟩
    have : j = i := eq_of_beq (show (j == i) = true from e)
    rwa [← this]
  · intro h
    exact ⟨i, h, show (i == i) = true from beq_self_eq_true i⟩
theorem pyL_ints {f : Nat → Option PyData} : ∀ ns : List Int, pyL f (ns.map .int) = some (ns.map PyData.int)
  | [] => rfl
  | i :: r => by
    rw [List.map_cons, pyL, pyL_ints r]
    rfl
theorem eqvAll_ints : ∀ ns ms : List Int, PyData.eqvAll (ns.map PyData.int) (ms.map PyData.int) = decide (ns = ms)
  | [], [] => rfl
  | [], m :: ms => rfl
  | n :: ns, [] => rfl
  | n :: ns, m :: ms => by
    show (PyData.eqv (.int n) (.int m) && PyData.eqvAll (ns.map PyData.int) (ms.map PyData.int)) = _
    rw [eqvAll_ints ns ms]
    show (n == m && decide (ns = ms)) = _
    by_cases h : n = m <;> by_cases h2 : ns = ms <;> simp [h, h2]
theorem shaped_ints (ns : List Int) : SeqAt.shaped (.tuple (ns.map PyData.int)) = true := by
  simp [SeqAt.shaped, PyData.canLay0, PyData.depth, PySem.W.ke_canLayAll0, PySem.W.ke_depthAll]
theorem shaped_intsL (ns : List Int) : SeqAt.shaped (.list (ns.map PyData.int)) = true := PySem.W.ke_shaped_ints ns
theorem eqD_ints {S : Sto} {ns ms : List Int} : eqD S (.tup (ns.map .int)) (.tup (ms.map .int)) = some (decide (ns = ms)) := by
  unfold eqD py
  simp only [pyD, pyL_ints, Option.map_some]
  rw [shaped_ints, shaped_ints]
  show some (PyData.eqvAll (ns.map PyData.int) (ms.map PyData.int)) = _
  rw [eqvAll_ints]
theorem rdS_ints {S : Sto} {i : Nat} {ns : List Int} (h : (S[i]?).bind SO.seq? = some (ns.map .int)) : rdS S 8 i = some (.list (ns.map PyData.int)) := by
  rw [rdS, h, Option.bind_some, pyL_ints]
  rfl
/-- lists of ints -/
theorem eqD_intsL {S : Sto} {i j : Nat} {ns ms : List Int} (h1 : (S[i]?).bind SO.seq? = some (ns.map .int)) (h2 : (S[j]?).bind SO.seq? = some (ms.map .int)) : eqD S (.ref i) (.ref j) = some (decide (ns = ms)) := by
  unfold eqD py
  simp only [pyD, rdS_ints h1, rdS_ints h2]
  rw [shaped_intsL, shaped_intsL]
  show some (PyData.eqvAll (ns.map PyData.int) (ms.map PyData.int)) = _
  rw [eqvAll_ints]
theorem eqD_bl {S : Sto} {a b : Bool} : eqD S (.bl a) (.bl b) = some (decide (a = b)) := by
  cases a <;> cases b <;> rfl
end Z
end
section
set_option Elab.async false
set_option linter.all false
set_option maxRecDepth 100000
set_option maxHeartbeats 0
namespace K01
open PySem L2 Z
def top (i : Nat) : Stmt := PySem.Challenge.pw_ringtables_k01_whole_forms_and_opposites.main.body.getD i (.Pass ⟨0, 0, 0, 0⟩)
def c2 : Ss := (.cons (.ret (.and (.isi (.var 0) .int) (.not (.isi (.var 0) .bool)))) .nil)
def r2 : Dr := ⟨"is_whole", ["value"], 1, defArgs (top 2), defBody (top 2), defScope (top 2), c2⟩
def c3 : Ss := (.cons (.ret (.and (.call "is_whole" (.cons (.var 0) .nil)) (.chn .LtE .LtE (.var 1) (.var 0) (.var 2)))) .nil)
def r3 : Dr := ⟨"is_between", ["value", "least", "most"], 3, defArgs (top 3), defBody (top 3), defScope (top 3), c3⟩
def c4_1 : Ss := (.cons (.ifs (.not (.call "is_between" (.cons (.var 3) (.cons (.var 2) (.cons (.bin .Sub (.var 1) (.int 1)) .nil))))) (.cons (.ret (.bl false)) .nil) .nil) (.cons (.set 2 (.bin .Add (.var 3) (.int 1))) .nil))
def c4 : Ss := (.cons (.ifs (.not (.isi (.var 0) .tuple)) (.cons (.ret (.bl false)) .nil) .nil) (.cons (.set 2 (.int 0)) (.cons (.for (.nm 3) (.ex (.var 0)) c4_1) (.cons (.ret (.bl true)) .nil))))
def r4 : Dr := ⟨"is_ascending", ["value", "bound", "least", "number"], 2, defArgs (top 4), defBody (top 4), defScope (top 4), c4⟩
def c5_1 : Ex := (.bin .LShift (.int 1) (.var 1))
def c5 : Ss := (.cons (.ret (.blt .sum (.cons (.lc [1] (.nm 1) (.ex (.var 0)) .no c5_1) .nil))) .nil)
def r5 : Dr := ⟨"mask_of", ["lot", "line"], 1, defArgs (top 5), defBody (top 5), defScope (top 5), c5⟩
def c6_1 : Ox := (.yes (.bin .BitAnd (.bin .RShift (.var 0) (.var 1)) (.int 1)))
def c6 : Ss := (.cons (.ret (.blt .tuple (.cons (.lc [1] (.nm 1) (.rng1 (.met .bits (.var 0) .nil)) c6_1 (.var 1)) .nil))) .nil)
def r6 : Dr := ⟨"lot_of", ["mask", "line"], 1, defArgs (top 6), defBody (top 6), defScope (top 6), c6⟩
def c7_1 : Ex := (.call "mask_of" (.cons (.var 1) .nil))
def c7 : Ss := (.cons (.ret (.lc [1] (.nm 1) (.ex (.var 0)) .no c7_1)) .nil)
def r7 : Dr := ⟨"masks_of", ["lots", "lot"], 1, defArgs (top 7), defBody (top 7), defScope (top 7), c7⟩
def c8_1 : Ex := (.call "lot_of" (.cons (.var 1) .nil))
def c8 : Ss := (.cons (.ret (.blt .tuple (.cons (.lc [1] (.nm 1) (.ex (.var 0)) .no c8_1) .nil))) .nil)
def r8 : Dr := ⟨"lots_of", ["masks", "mask"], 1, defArgs (top 8), defBody (top 8), defScope (top 8), c8⟩
def c9 : Ss := (.cons (.ret (.bin .BitAnd (.var 0) (.un .USub (.var 0)))) .nil)
def r9 : Dr := ⟨"head_of", ["mask"], 1, defArgs (top 9), defBody (top 9), defScope (top 9), c9⟩
def c10 : Ss := (.cons (.ret (.bin .BitAnd (.var 0) (.bin .Sub (.bin .LShift (.int 1) (.con 32)) (.int 1)))) .nil)
def r10 : Dr := ⟨"low_part", ["mask"], 1, defArgs (top 10), defBody (top 10), defScope (top 10), c10⟩
def c11_1 : Ss := (.cons (.ifs (.bin .BitAnd (.var 2) (.call "head_of" (.cons (.var 3) .nil))) (.cons (.aug 2 .BitXor (.var 3)) .nil) .nil) .nil)
def c11 : Ss := (.cons (.set 2 (.var 1)) (.cons (.for (.nm 3) (.ex (.var 0)) c11_1) (.cons (.ret (.var 2)) .nil)))
def r11 : Dr := ⟨"cleared", ["rows", "mask", "left", "row"], 2, defArgs (top 11), defBody (top 11), defScope (top 11), c11⟩
def c12_1 : Ex := (.bin .BitAnd (.var 0) (.un .USub (.var 0)))
def c12_2 : Ex := (.ite (.bin .BitAnd (.var 5) (.var 4)) (.bin .BitXor (.var 5) (.var 3)) (.var 5))
def c12_3 : Ss := (.cons (.set 3 (.call "cleared" (.cons (.var 1) (.cons (.var 2) .nil)))) (.cons (.ifs (.var 3) (.cons (.set 4 (.call "head_of" (.cons (.var 3) .nil))) (.cons (.set 1 (.bin .Add (.lc [5] (.nm 5) (.ex (.var 1)) .no c12_2) (.lst (.cons (.var 3) .nil)))) .nil)) .nil) .nil))
def c12 : Ss := (.cons (.set 1 (.lst .nil)) (.cons (.for (.nm 2) (.ex (.var 0)) c12_3) (.cons (.ret (.skl 1 "reduced" (.var 1) c12_1)) .nil)))
def r12 : Dr := ⟨"reduced", ["masks", "rows", "mask", "left", "head", "row"], 1, defArgs (top 12), defBody (top 12), defScope (top 12), c12⟩
def c13_1 : Ox := (.yes (.bin .BitAnd (.var 6) (.var 5)))
def c13_2 : Ex := (.call "head_of" (.cons (.var 6) .nil))
def c13_3 : Ss := (.cons (.set 5 (.bin .LShift (.int 1) (.var 4))) (.cons (.ifs (.not (.bin .BitAnd (.var 2) (.var 5))) (.cons (.expr (.met .append (.var 3) (.cons (.bin .BitOr (.var 5) (.blt .sum (.cons (.lc [6] (.nm 6) (.ex (.var 1)) c13_1 c13_2) .nil))) .nil))) .nil) .nil) .nil))
def c13_4 : Ex := (.call "head_of" (.cons (.var 6) .nil))
def c13 : Ss := (.cons (.set 2 (.blt .sum (.cons (.lc [6] (.nm 6) (.ex (.var 1)) .no c13_4) .nil))) (.cons (.set 3 (.lst .nil)) (.cons (.for (.nm 4) (.rng1 (.var 0)) c13_3) (.cons (.ret (.call "reduced" (.cons (.var 3) .nil))) .nil))))
def r13 : Dr := ⟨"kernel", ["many", "rows", "heads", "found", "line", "bit", "row"], 2, defArgs (top 13), defBody (top 13), defScope (top 13), c13⟩
def c14_1 : Ox := (.yes (.not (.call "low_part" (.cons (.var 1) .nil))))
def c14_2 : Ex := (.bin .RShift (.var 1) (.con 32))
def c14 : Ss := (.cons (.ret (.lc [1] (.nm 1) (.ex (.call "reduced" (.cons (.var 0) .nil))) c14_1 c14_2)) .nil)
def r14 : Dr := ⟨"carried", ["masks", "row"], 1, defArgs (top 14), defBody (top 14), defScope (top 14), c14⟩
def c15_1 : Ex := (.bin .BitOr (.var 2) (.bin .LShift (.var 2) (.con 32)))
def c15 : Ss := (.cons (.ret (.call "carried" (.cons (.bin .Add (.lc [2] (.nm 2) (.ex (.var 0)) .no c15_1) (.blt .list (.cons (.var 1) .nil))) .nil))) .nil)
def r15 : Dr := ⟨"shared", ["rows", "more", "row"], 2, defArgs (top 15), defBody (top 15), defScope (top 15), c15⟩
def c24_1 : Ex := (.call "is_ascending" (.cons (.var 1) (.cons (.con 24) .nil)))
def c24 : Ss := (.cons (.ifs (.or (.not (.isi (.var 0) .tuple)) (.cmp .Gt (.blt .len (.cons (.var 0) .nil)) (.con 64))) (.cons (.ret (.bl false)) .nil) .nil) (.cons (.ret (.blt .all (.cons (.lc [1] (.nm 1) (.ex (.var 0)) .no c24_1) .nil))) .nil))
def r24 : Dr := ⟨"are_lots", ["value", "lot"], 1, defArgs (top 24), defBody (top 24), defScope (top 24), c24⟩
def c25 : Ss := (.cons (.expr (.call "_demand_lot" (.cons (.var 0) .nil))) (.cons (.expr (.call "_demand_lot" (.cons (.var 1) .nil))) (.cons (.ret (.call "lot_of" (.cons (.bin .BitXor (.call "mask_of" (.cons (.var 0) .nil)) (.call "mask_of" (.cons (.var 1) .nil))) .nil))) .nil)))
def r25 : Dr := ⟨"lot_sum", ["one", "other"], 2, defArgs (top 25), defBody (top 25), defScope (top 25), c25⟩
def c26 : Ss := (.cons (.expr (.call "_demand_lots" (.cons (.var 0) .nil))) (.cons (.ret (.call "lots_of" (.cons (.call "reduced" (.cons (.call "masks_of" (.cons (.var 0) .nil)) .nil)) .nil))) .nil))
def r26 : Dr := ⟨"form_of", ["lots"], 1, defArgs (top 26), defBody (top 26), defScope (top 26), c26⟩
def c27_1 : Ex := (.call "is_ascending" (.cons (.var 2) (.cons (.var 0) .nil)))
def c27 : Ss := (.cons (.expr (.call "_demand_many" (.cons (.var 0) .nil))) (.cons (.expr (.call "_demand_lots" (.cons (.var 1) .nil))) (.cons (.ifs (.not (.blt .all (.cons (.lc [2] (.nm 2) (.ex (.var 1)) .no c27_1) .nil))) (.cons .fail .nil) .nil) (.cons (.ret (.call "lots_of" (.cons (.call "kernel" (.cons (.var 0) (.cons (.call "reduced" (.cons (.call "masks_of" (.cons (.var 1) .nil)) .nil)) .nil))) .nil))) .nil))))
def r27 : Dr := ⟨"opposite_form", ["many", "lots", "lot"], 2, defArgs (top 27), defBody (top 27), defScope (top 27), c27⟩
def c28 : Ss := (.cons (.expr (.call "_demand_lots" (.cons (.var 0) .nil))) (.cons (.expr (.call "_demand_lots" (.cons (.var 1) .nil))) (.cons (.ret (.call "lots_of" (.cons (.call "shared" (.cons (.call "masks_of" (.cons (.var 0) .nil)) (.cons (.call "masks_of" (.cons (.var 1) .nil)) .nil))) .nil))) .nil)))
def r28 : Dr := ⟨"common_form", ["lots", "more"], 2, defArgs (top 28), defBody (top 28), defScope (top 28), c28⟩
def c29 : Ss := (.cons (.ifs (.not (.call "is_between" (.cons (.var 0) (.cons (.int 1) (.cons (.con 24) .nil))))) (.cons .fail .nil) .nil) .nil)
def r29 : Dr := ⟨"_demand_many", ["many"], 1, defArgs (top 29), defBody (top 29), defScope (top 29), c29⟩
def c30 : Ss := (.cons (.ifs (.not (.call "is_ascending" (.cons (.var 0) (.cons (.con 24) .nil)))) (.cons .fail .nil) .nil) .nil)
def r30 : Dr := ⟨"_demand_lot", ["lot"], 1, defArgs (top 30), defBody (top 30), defScope (top 30), c30⟩
def c31 : Ss := (.cons (.ifs (.not (.call "are_lots" (.cons (.var 0) .nil))) (.cons .fail .nil) .nil) .nil)
def r31 : Dr := ⟨"_demand_lots", ["lots"], 1, defArgs (top 31), defBody (top 31), defScope (top 31), c31⟩
def c33 : Ss := (.cons (.set 2 (.ite (.cmp .Lt (.var 1) (.blt .len (.cons (.var 0) .nil))) (.blt .int (.cons (.ix (.var 0) (.var 1)) .nil)) (.bin .Add (.bin .Mult (.int 127) (.var 1)) (.int 71)))) (.cons (.set 3 (.bin .Mod (.blt .max2 (.cons (.int 0) (.cons (.bin .Sub (.blt .abs (.cons (.var 2) .nil)) (.bin .Pow (.int 10) (.int 16))) .nil))) (.bin .Mult (.bin .Pow (.int 10) (.int 57)) (.bin .Pow (.int 10) (.int 60))))) (.cons (.ret (.lst (.cons (.var 3) (.cons (.bin .Add (.bin .Add (.bin .Add (.bin .Mult (.bin .Mod (.blt .abs (.cons (.var 2) .nil)) (.int 1152921504606846697)) (.int 109)) (.bin .Mult (.int 1031) (.var 1))) (.bin .Mult (.int 67) (.blt .int (.cons (.cmp .Lt (.var 2) (.int 0)) .nil)))) (.int 53)) (.cons (.int 0) .nil))))) .nil)))
def r33 : Dr := ⟨"_law_dice", ["script", "spot", "cell", "great"], 2, defArgs (top 33), defBody (top 33), defScope (top 33), c33⟩
def c34 : Ss := (.cons (.ifs (.cmp .Gt (.ix (.var 0) (.int 0)) (.int 0)) (.cons (.set 4 (.bin .Mod (.blt .int (.cons (.ix (.var 0) (.int 0)) .nil)) (.var 1))) (.cons (.six (.var 0) (.int 0) (.bin .FloorDiv (.ix (.var 0) (.int 0)) (.var 1))) (.cons (.ret (.var 4)) .nil))) .nil) (.cons (.six (.var 0) (.int 2) (.bin .Add (.ix (.var 0) (.int 2)) (.int 1))) (.cons (.set 2 (.bin .Mod (.blt .int (.cons (.bin .Add (.ix (.var 0) (.int 1)) (.bin .Mult (.int 49979687) (.ix (.var 0) (.int 2)))) .nil)) (.int 2305843009213693487))) (.cons (.set 3 (.bin .Add (.bin .Mult (.bin .Mod (.blt .int (.cons (.bin .Add (.bin .Mult (.var 2) (.var 2)) (.bin .Mult (.int 113) (.ix (.var 0) (.int 2)))) .nil)) (.int 2305843009213693669)) (.int 6700417)) (.var 2))) (.cons (.ret (.bin .Mod (.blt .int (.cons (.bin .FloorDiv (.var 3) (.int 65539)) .nil)) (.var 1))) .nil)))))
def r34 : Dr := ⟨"_law_roll", ["dice", "most", "one", "two", "found"], 2, defArgs (top 34), defBody (top 34), defScope (top 34), c34⟩
def c35 : Ss := (.cons (.ret (.ix (.var 1) (.call "_law_roll" (.cons (.var 0) (.cons (.blt .len (.cons (.var 1) .nil)) .nil))))) .nil)
def r35 : Dr := ⟨"_law_pick", ["dice", "items"], 2, defArgs (top 35), defBody (top 35), defScope (top 35), c35⟩
def c36_1 : Ex := (.cmp .NotEq (.var 2) (.lst .nil))
def c36_2 : Ss := (.cons (.expr (.met .append (.var 3) (.cons (.met .popAt (.var 2) (.cons (.call "_law_roll" (.cons (.var 0) (.cons (.blt .len (.cons (.var 2) .nil)) .nil))) .nil)) .nil))) .nil)
def c36 : Ss := (.cons (.par 2 3 (.blt .list (.cons (.var 1) .nil)) (.lst .nil)) (.cons (.while c36_1 c36_2) (.cons (.ret (.var 3)) .nil)))
def r36 : Dr := ⟨"_law_mixed", ["dice", "items", "waiting", "found"], 2, defArgs (top 36), defBody (top 36), defScope (top 36), c36⟩
def c37_1 : Ox := (.yes (.cmp .NotIn (.var 2) (.var 1)))
def c37_2 : Ox := (.yes (.cmp .NotIn (.var 2) (.var 0)))
def c37 : Ss := (.cons (.ret (.blt .tuple (.cons (.blt .sorted (.cons (.bin .Add (.lc [2] (.nm 2) (.ex (.var 0)) c37_1 (.var 2)) (.lc [2] (.nm 2) (.ex (.var 1)) c37_2 (.var 2))) .nil)) .nil))) .nil)
def r37 : Dr := ⟨"_law_lo_sum", ["one", "other", "line"], 2, defArgs (top 37), defBody (top 37), defScope (top 37), c37⟩
def c38_1 : Ox := (.yes (.cmp .In (.var 2) (.var 1)))
def c38 : Ss := (.cons (.ret (.cmp .Eq (.bin .Mod (.blt .len (.cons (.lc [2] (.nm 2) (.ex (.var 0)) c38_1 (.var 2)) .nil)) (.int 2)) (.int 1))) .nil)
def r38 : Dr := ⟨"_law_lo_is_odd", ["one", "other", "line"], 2, defArgs (top 38), defBody (top 38), defScope (top 38), c38⟩
def c39_1 : Ex := (.ite (.cmp .In (.var 1) (.var 6)) (.call "_law_lo_sum" (.cons (.var 6) (.cons (.var 5) .nil))) (.var 6))
def c39_2 : Ox := (.yes (.cmp .NotEq (.var 6) (.tup .nil)))
def c39_3 : Ex := (.ite (.cmp .In (.var 1) (.var 6)) (.call "_law_lo_sum" (.cons (.var 6) (.cons (.var 5) .nil))) (.var 6))
def c39_4 : Ox := (.yes (.cmp .In (.var 1) (.var 6)))
def c39_5 : Ss := (.cons (.set 4 (.lc [6] (.nm 6) (.ex (.var 3)) c39_4 (.var 6))) (.cons (.ifs (.cmp .NotEq (.var 4) (.lst .nil)) (.cons (.set 5 (.ix (.var 4) (.int 0))) (.cons (.set 3 (.lc [6] (.nm 6) (.ex (.var 3)) .no c39_3)) (.cons (.set 3 (.lc [6] (.nm 6) (.ex (.var 3)) c39_2 (.var 6))) (.cons (.set 2 (.bin .Add (.lc [6] (.nm 6) (.ex (.var 2)) .no c39_1) (.lst (.cons (.var 5) .nil)))) .nil)))) .nil) .nil))
def c39_6 : Ox := (.yes (.cmp .NotEq (.var 6) (.tup .nil)))
def c39 : Ss := (.cons (.par 2 3 (.lst .nil) (.lc [6] (.nm 6) (.ex (.var 0)) c39_6 (.var 6))) (.cons (.for (.nm 1) (.rng1 (.int 25)) c39_5) (.cons (.ret (.var 2)) .nil)))
def r39 : Dr := ⟨"_law_lo_form", ["lots", "line", "found", "left", "having", "head", "lot"], 1, defArgs (top 39), defBody (top 39), defScope (top 39), c39⟩
def c40_1 : Ss := (.cons (.ifs (.cmp .In (.ix (.var 3) (.int 0)) (.var 2)) (.cons (.set 2 (.call "_law_lo_sum" (.cons (.var 2) (.cons (.var 3) .nil)))) .nil) .nil) .nil)
def c40 : Ss := (.cons (.set 2 (.var 1)) (.cons (.for (.nm 3) (.ex (.call "_law_lo_form" (.cons (.var 0) .nil))) c40_1) (.cons (.ret (.cmp .Eq (.var 2) (.tup .nil))) .nil)))
def r40 : Dr := ⟨"_law_lo_is_made", ["lots", "lot", "left", "one"], 2, defArgs (top 40), defBody (top 40), defScope (top 40), c40⟩
def c41_1 : Ex := (.call "_law_lo_sum" (.cons (.var 3) (.cons (.var 2) .nil)))
def c41_2 : Ss := (.cons (.set 1 (.bin .Add (.var 1) (.lc [3] (.nm 3) (.ex (.var 1)) .no c41_1))) .nil)
def c41 : Ss := (.cons (.set 1 (.lst (.cons (.tup .nil) .nil))) (.cons (.for (.nm 2) (.ex (.call "_law_lo_form" (.cons (.var 0) .nil))) c41_2) (.cons (.ret (.blt .sortedT (.cons (.var 1) .nil))) .nil)))
def r41 : Dr := ⟨"_law_lo_all", ["lots", "found", "one", "lot"], 1, defArgs (top 41), defBody (top 41), defScope (top 41), c41⟩
def c42_1 : Ox := (.yes (.cmp .Lt (.call "_law_roll" (.cons (.var 0) (.cons (.int 4) .nil))) (.var 2)))
def c42 : Ss := (.cons (.set 2 (.bin .Add (.int 1) (.call "_law_roll" (.cons (.var 0) (.cons (.int 3) .nil))))) (.cons (.ret (.blt .tuple (.cons (.lc [3] (.nm 3) (.rng1 (.var 1)) c42_1 (.var 3)) .nil))) .nil))
def r42 : Dr := ⟨"_law_lo_any", ["dice", "many", "our_share", "line"], 2, defArgs (top 42), defBody (top 42), defScope (top 42), c42⟩
def c43_1 : Ox := (.yes (.cmp .In (.var 3) (.var 2)))
def c43_2 : Ox := (.yes (.cmp .NotEq (.blt .len (.cons (.lc [2] (.nm 2) (.ex (.var 0)) c43_1 (.var 2)) .nil)) (.int 1)))
def c43_3 : Ex := (.ix (.var 2) (.int 0))
def c43 : Ss := (.cons (.set 1 (.lc [2] (.nm 2) (.ex (.var 0)) .no c43_3)) (.cons (.ifs (.cmp .NotEq (.var 1) (.srs (.var 1))) (.cons (.ret (.bl false)) .nil) .nil) (.cons (.ret (.cmp .Eq (.lc [3] (.nm 3) (.ex (.var 1)) c43_2 (.var 3)) (.lst .nil))) .nil)))
def r43 : Dr := ⟨"_law_has_shape", ["form", "heads", "lot", "head"], 1, defArgs (top 43), defBody (top 43), defScope (top 43), c43⟩
def c44_1 : Ss := (.cons (.ifs (.cmp .NotEq (.var 2) (.lst .nil)) (.cons (.expr (.met .append (.var 2) (.cons (.call "_law_lo_sum" (.cons (.call "_law_pick" (.cons (.var 0) (.cons (.var 2) .nil))) (.cons (.call "_law_pick" (.cons (.var 0) (.cons (.var 2) .nil))) .nil))) .nil))) .nil) .nil) .nil)
def c44_2 : Ex := (.call "_law_lo_any" (.cons (.var 0) (.cons (.var 1) .nil)))
def c44 : Ss := (.cons (.set 2 (.lc [3] (.nm 3) (.rng1 (.call "_law_roll" (.cons (.var 0) (.cons (.int 7) .nil)))) .no c44_2)) (.cons (.for (.nm 3) (.rng1 (.call "_law_roll" (.cons (.var 0) (.cons (.int 3) .nil)))) c44_1) (.cons (.ret (.blt .tuple (.cons (.call "_law_mixed" (.cons (.var 0) (.cons (.var 2) .nil))) .nil))) .nil)))
def r44 : Dr := ⟨"_law_lots", ["dice", "many", "found", "turn"], 2, defArgs (top 44), defBody (top 44), defScope (top 44), c44⟩
def c45_1 : Ox := (.yes (.call "_law_lo_is_odd" (.cons (.var 8) (.cons (.var 7) .nil))))
def c45_2 : Ox := (.yes (.cmp .NotEq (.lc [8] (.nm 8) (.ex (.var 3)) c45_1 (.var 8)) (.lst .nil)))
def c45_3 : Ex := (.call "lot_sum" (.cons (.ix (.var 2) (.var 6)) (.cons (.call "_law_pick" (.cons (.var 0) (.cons (.bin .Add (.blt .list (.cons (.sl (.var 2) .no (.yes (.var 6))) .nil)) (.lst (.cons (.tup .nil) .nil))) .nil))) .nil)))
def c45 : Ss := (.cons (.set 3 (.call "form_of" (.cons (.var 2) .nil))) (.cons (.ifs (.or (.not (.isi (.var 3) .tuple)) (.or (.cmp .In (.tup .nil) (.var 3)) (.or (.not (.call "_law_has_shape" (.cons (.var 3) .nil))) (.cmp .NotEq (.var 3) (.blt .tuple (.cons (.call "_law_lo_form" (.cons (.var 2) .nil)) .nil)))))) (.cons (.ret (.bl false)) .nil) .nil) (.cons (.set 4 (.lc [6] (.nm 6) (.rng1 (.blt .len (.cons (.var 2) .nil))) .no c45_3)) (.cons (.ifs (.or (.cmp .NotEq (.call "form_of" (.cons (.blt .tuple (.cons (.call "_law_mixed" (.cons (.var 0) (.cons (.var 4) .nil))) .nil)) .nil)) (.var 3)) (.cmp .NotEq (.call "form_of" (.cons (.var 3) .nil)) (.var 3))) (.cons (.ret (.bl false)) .nil) .nil) (.cons (.set 5 (.call "opposite_form" (.cons (.var 1) (.cons (.var 2) .nil)))) (.cons (.ifs (.or (.not (.call "_law_has_shape" (.cons (.var 5) .nil))) (.or (.cmp .NotEq (.blt .len (.cons (.var 5) .nil)) (.bin .Sub (.var 1) (.blt .len (.cons (.var 3) .nil)))) (.cmp .NotEq (.call "opposite_form" (.cons (.var 1) (.cons (.var 5) .nil))) (.var 3)))) (.cons (.ret (.bl false)) .nil) .nil) (.cons (.ret (.cmp .Eq (.lc [7] (.nm 7) (.ex (.var 5)) c45_2 (.var 7)) (.lst .nil))) .nil)))))))
def r45 : Dr := ⟨"_law_told_right", ["dice", "many", "lots", "form", "other", "back", "at", "lot", "one"], 3, defArgs (top 45), defBody (top 45), defScope (top 45), c45⟩
def c46_1 : Ox := (.yes (.cmp .In (.var 9) (.var 7)))
def c46_2 : Ox := (.yes (.call "_law_lo_is_odd" (.cons (.var 11) (.cons (.var 9) .nil))))
def c46_3 : Ox := (.yes (.cmp .Eq (.lc [11] (.nm 11) (.ex (.var 6)) c46_2 (.var 11)) (.lst .nil)))
def c46_4 : Ex := (.tup (.cons (.var 10) .nil))
def c46 : Ss := (.cons (.set 1 (.bin .Add (.int 1) (.call "_law_roll" (.cons (.var 0) (.cons (.int 7) .nil))))) (.cons (.par 4 5 (.call "_law_lots" (.cons (.var 0) (.cons (.var 1) .nil))) (.call "_law_lots" (.cons (.var 0) (.cons (.var 1) .nil)))) (.cons (.unp [6, 7, 8] (.tup (.cons (.call "_law_lo_all" (.cons (.var 4) .nil)) (.cons (.call "_law_lo_all" (.cons (.var 5) .nil)) (.cons (.call "_law_lo_all" (.cons (.blt .tuple (.cons (.lc [10] (.nm 10) (.rng1 (.var 1)) .no c46_4) .nil)) .nil)) .nil))))) (.cons (.ifs (.or (.cmp .NotEq (.call "_law_lo_all" (.cons (.call "form_of" (.cons (.var 4) .nil)) .nil)) (.var 6)) (.cmp .NotEq (.blt .len (.cons (.var 6) .nil)) (.blt .len (.cons (.call "_law_lo_all" (.cons (.call "form_of" (.cons (.var 4) .nil)) .nil)) .nil)))) (.cons (.ret (.bl false)) .nil) .nil) (.cons (.set 2 (.lc [9] (.nm 9) (.ex (.var 8)) c46_3 (.var 9))) (.cons (.ifs (.or (.cmp .NotEq (.call "_law_lo_all" (.cons (.call "opposite_form" (.cons (.var 1) (.cons (.var 4) .nil))) .nil)) (.var 2)) (.cmp .NotEq (.cmp .Eq (.call "form_of" (.cons (.var 4) .nil)) (.call "form_of" (.cons (.var 5) .nil))) (.cmp .Eq (.var 6) (.var 7)))) (.cons (.ret (.bl false)) .nil) .nil) (.cons (.set 3 (.call "common_form" (.cons (.var 4) (.cons (.var 5) .nil)))) (.cons (.ifs (.or (.not (.call "_law_has_shape" (.cons (.var 3) .nil))) (.cmp .NotEq (.call "_law_lo_all" (.cons (.var 3) .nil)) (.lc [9] (.nm 9) (.ex (.var 6)) c46_1 (.var 9)))) (.cons (.ret (.bl false)) .nil) .nil) (.cons (.ret (.cmp .Eq (.bin .Add (.blt .len (.cons (.var 3) .nil)) (.blt .len (.cons (.call "form_of" (.cons (.bin .Add (.var 4) (.var 5)) .nil)) .nil))) (.bin .Add (.blt .len (.cons (.call "form_of" (.cons (.var 4) .nil)) .nil)) (.blt .len (.cons (.call "form_of" (.cons (.var 5) .nil)) .nil))))) .nil)))))))))
def r46 : Dr := ⟨"_law_all_right", ["dice", "many", "evenly", "both", "lots", "more", "here", "there", "every", "lot", "line", "one"], 1, defArgs (top 46), defBody (top 46), defScope (top 46), c46⟩
def c47_1 : Ox := (.yes (.or (.not (.call "_law_lo_is_made" (.cons (.var 2) (.cons (.var 6) .nil)))) (.not (.call "_law_lo_is_made" (.cons (.var 3) (.cons (.var 6) .nil))))))
def c47_2 : Ex := (.call "_law_lo_any" (.cons (.var 0) (.cons (.var 1) .nil)))
def c47_3 : Ex := (.call "_law_lo_any" (.cons (.var 0) (.cons (.var 1) .nil)))
def c47 : Ss := (.cons (.set 1 (.bin .Add (.int 12) (.call "_law_roll" (.cons (.var 0) (.cons (.int 13) .nil))))) (.cons (.set 2 (.blt .tuple (.cons (.lc [5] (.nm 5) (.rng1 (.bin .Add (.int 1) (.call "_law_roll" (.cons (.var 0) (.cons (.int 9) .nil))))) .no c47_3) .nil))) (.cons (.set 3 (.bin .Add (.blt .tuple (.cons (.lc [5] (.nm 5) (.rng1 (.call "_law_roll" (.cons (.var 0) (.cons (.int 5) .nil)))) .no c47_2) .nil)) (.tup (.cons (.call "lot_sum" (.cons (.ix (.var 2) (.int 0)) (.cons (.ix (.var 2) (.un .USub (.int 1))) .nil))) (.cons (.ix (.var 2) (.int 0)) .nil))))) (.cons (.set 4 (.call "common_form" (.cons (.var 2) (.cons (.var 3) .nil)))) (.cons (.ifs (.or (.cmp .NotEq (.lc [6] (.nm 6) (.ex (.var 4)) c47_1 (.var 6)) (.lst .nil)) (.not (.call "_law_lo_is_made" (.cons (.var 4) (.cons (.ix (.var 2) (.int 0)) .nil))))) (.cons (.ret (.bl false)) .nil) .nil) (.cons (.ifs (.cmp .NotEq (.bin .Add (.blt .len (.cons (.var 4) .nil)) (.blt .len (.cons (.call "form_of" (.cons (.bin .Add (.var 2) (.var 3)) .nil)) .nil))) (.bin .Add (.blt .len (.cons (.call "form_of" (.cons (.var 2) .nil)) .nil)) (.blt .len (.cons (.call "form_of" (.cons (.var 3) .nil)) .nil)))) (.cons (.ret (.bl false)) .nil) .nil) (.cons (.ret (.call "_law_told_right" (.cons (.var 0) (.cons (.var 1) (.cons (.var 2) .nil))))) .nil)))))))
def r47 : Dr := ⟨"_law_wide_right", ["dice", "many", "lots", "more", "both", "turn", "lot"], 1, defArgs (top 47), defBody (top 47), defScope (top 47), c47⟩
def c48_1 : Ss := (.cons (.set 6 (.bin .Add (.int 1) (.call "_law_roll" (.cons (.var 4) (.cons (.int 24) .nil))))) (.cons (.ifs (.or (.not (.call "_law_told_right" (.cons (.var 4) (.cons (.var 6) (.cons (.call "_law_lots" (.cons (.var 4) (.cons (.var 6) .nil))) .nil))))) (.or (.not (.call "_law_all_right" (.cons (.var 4) .nil))) (.not (.call "_law_wide_right" (.cons (.var 4) .nil))))) (.cons (.ret (.bl false)) .nil) .nil) .nil))
def c48_2 : Ss := (.cons (.set 4 (.call "_law_dice" (.cons (.var 0) (.cons (.var 1) .nil)))) (.cons (.for (.nm 5) (.rng1 (.int 4)) c48_1) .nil))
def c48 : Ss := (.cons (.for (.nm 1) (.rng1 (.blt .max2 (.cons (.int 1) (.cons (.blt .min2 (.cons (.int 3) (.cons (.blt .len (.cons (.var 0) .nil)) .nil))) .nil)))) c48_2) (.cons (.set 2 (.tup (.cons (.tup (.cons (.int 0) (.cons (.int 1) (.cons (.int 3) .nil)))) (.cons (.tup (.cons (.int 0) (.cons (.int 2) (.cons (.int 4) .nil)))) (.cons (.tup (.cons (.int 1) (.cons (.int 2) (.cons (.int 5) .nil)))) .nil))))) (.cons (.ifs (.or (.cmp .NotEq (.call "form_of" (.cons (.var 2) .nil)) (.tup (.cons (.tup (.cons (.int 0) (.cons (.int 2) (.cons (.int 4) .nil)))) (.cons (.tup (.cons (.int 1) (.cons (.int 2) (.cons (.int 5) .nil)))) (.cons (.tup (.cons (.int 3) (.cons (.int 4) (.cons (.int 5) .nil)))) .nil))))) (.cmp .NotEq (.call "opposite_form" (.cons (.int 6) (.cons (.var 2) .nil))) (.tup (.cons (.tup (.cons (.int 0) (.cons (.int 3) (.cons (.int 4) .nil)))) (.cons (.tup (.cons (.int 1) (.cons (.int 3) (.cons (.int 5) .nil)))) (.cons (.tup (.cons (.int 2) (.cons (.int 4) (.cons (.int 5) .nil)))) .nil)))))) (.cons (.ret (.bl false)) .nil) .nil) (.cons (.set 3 (.lst (.cons (.call "opposite_form" (.cons (.int 2) (.cons (.tup .nil) .nil))) (.cons (.call "common_form" (.cons (.tup (.cons (.tup (.cons (.int 0) (.cons (.int 1) .nil))) (.cons (.tup (.cons (.int 2) .nil)) .nil))) (.cons (.tup (.cons (.tup (.cons (.int 0) (.cons (.int 1) (.cons (.int 2) .nil)))) (.cons (.tup (.cons (.int 3) .nil)) .nil))) .nil))) (.cons (.call "form_of" (.cons (.tup (.cons (.tup .nil) (.cons (.tup (.cons (.int 2) .nil)) (.cons (.tup (.cons (.int 2) .nil)) .nil)))) .nil)) (.cons (.call "opposite_form" (.cons (.int 1) (.cons (.tup (.cons (.tup (.cons (.int 0) .nil)) .nil)) .nil))) .nil)))))) (.cons (.ret (.and (.cmp .Eq (.var 3) (.lst (.cons (.tup (.cons (.tup (.cons (.int 0) .nil)) (.cons (.tup (.cons (.int 1) .nil)) .nil))) (.cons (.tup (.cons (.tup (.cons (.int 0) (.cons (.int 1) (.cons (.int 2) .nil)))) .nil)) (.cons (.tup (.cons (.tup (.cons (.int 2) .nil)) .nil)) (.cons (.tup .nil) .nil)))))) (.cmp .Eq (.call "common_form" (.cons (.tup .nil) (.cons (.tup (.cons (.tup (.cons (.int 0) .nil)) .nil)) .nil))) (.tup .nil)))) .nil)))))
def r48 : Dr := ⟨"law", ["script", "spot", "three", "told", "dice", "turn", "many"], 1, defArgs (top 48), defBody (top 48), defScope (top 48), c48⟩
def rs : List Dr := [r2, r3, r4, r5, r6, r7, r8, r9, r10, r11, r12, r13, r14, r15, r24, r25, r26, r27, r28, r29, r30, r31, r33, r34, r35, r36, r37, r38, r39, r40, r41, r42, r43, r44, r45, r46, r47, r48]
def cons : List (Str × Int) := [("SPAN", 32), ("MOST_LINES", 24), ("MOST_LOTS", 64)]
def lams : List Str := ["reduced"]
theorem b2 : BindP r2 := fun kV doc pm an cdv ct us hl => match us, hl with
  | [_], _ => rfl
theorem b3 : BindP r3 := fun kV doc pm an cdv ct us hl => match us, hl with
  | [_, _, _], _ => rfl
theorem b4 : BindP r4 := fun kV doc pm an cdv ct us hl => match us, hl with
  | [_, _], _ => rfl
theorem b5 : BindP r5 := fun kV doc pm an cdv ct us hl => match us, hl with
  | [_], _ => rfl
theorem b6 : BindP r6 := fun kV doc pm an cdv ct us hl => match us, hl with
  | [_], _ => rfl
theorem b7 : BindP r7 := fun kV doc pm an cdv ct us hl => match us, hl with
  | [_], _ => rfl
theorem b8 : BindP r8 := fun kV doc pm an cdv ct us hl => match us, hl with
  | [_], _ => rfl
theorem b9 : BindP r9 := fun kV doc pm an cdv ct us hl => match us, hl with
  | [_], _ => rfl
theorem b10 : BindP r10 := fun kV doc pm an cdv ct us hl => match us, hl with
  | [_], _ => rfl
theorem b11 : BindP r11 := fun kV doc pm an cdv ct us hl => match us, hl with
  | [_, _], _ => rfl
theorem b12 : BindP r12 := fun kV doc pm an cdv ct us hl => match us, hl with
  | [_], _ => rfl
theorem b13 : BindP r13 := fun kV doc pm an cdv ct us hl => match us, hl with
  | [_, _], _ => rfl
theorem b14 : BindP r14 := fun kV doc pm an cdv ct us hl => match us, hl with
  | [_], _ => rfl
theorem b15 : BindP r15 := fun kV doc pm an cdv ct us hl => match us, hl with
  | [_, _], _ => rfl
theorem b24 : BindP r24 := fun kV doc pm an cdv ct us hl => match us, hl with
  | [_], _ => rfl
theorem b25 : BindP r25 := fun kV doc pm an cdv ct us hl => match us, hl with
  | [_, _], _ => rfl
theorem b26 : BindP r26 := fun kV doc pm an cdv ct us hl => match us, hl with
  | [_], _ => rfl
theorem b27 : BindP r27 := fun kV doc pm an cdv ct us hl => match us, hl with
  | [_, _], _ => rfl
theorem b28 : BindP r28 := fun kV doc pm an cdv ct us hl => match us, hl with
  | [_, _], _ => rfl
theorem b29 : BindP r29 := fun kV doc pm an cdv ct us hl => match us, hl with
  | [_], _ => rfl
theorem b30 : BindP r30 := fun kV doc pm an cdv ct us hl => match us, hl with
  | [_], _ => rfl
theorem b31 : BindP r31 := fun kV doc pm an cdv ct us hl => match us, hl with
  | [_], _ => rfl
theorem b33 : BindP r33 := fun kV doc pm an cdv ct us hl => match us, hl with
  | [_, _], _ => rfl
theorem b34 : BindP r34 := fun kV doc pm an cdv ct us hl => match us, hl with
  | [_, _], _ => rfl
theorem b35 : BindP r35 := fun kV doc pm an cdv ct us hl => match us, hl with
  | [_, _], _ => rfl
theorem b36 : BindP r36 := fun kV doc pm an cdv ct us hl => match us, hl with
  | [_, _], _ => rfl
theorem b37 : BindP r37 := fun kV doc pm an cdv ct us hl => match us, hl with
  | [_, _], _ => rfl
theorem b38 : BindP r38 := fun kV doc pm an cdv ct us hl => match us, hl with
  | [_, _], _ => rfl
theorem b39 : BindP r39 := fun kV doc pm an cdv ct us hl => match us, hl with
  | [_], _ => rfl
theorem b40 : BindP r40 := fun kV doc pm an cdv ct us hl => match us, hl with
  | [_, _], _ => rfl
theorem b41 : BindP r41 := fun kV doc pm an cdv ct us hl => match us, hl with
  | [_], _ => rfl
theorem b42 : BindP r42 := fun kV doc pm an cdv ct us hl => match us, hl with
  | [_, _], _ => rfl
theorem b43 : BindP r43 := fun kV doc pm an cdv ct us hl => match us, hl with
  | [_], _ => rfl
theorem b44 : BindP r44 := fun kV doc pm an cdv ct us hl => match us, hl with
  | [_, _], _ => rfl
theorem b45 : BindP r45 := fun kV doc pm an cdv ct us hl => match us, hl with
  | [_, _, _], _ => rfl
theorem b46 : BindP r46 := fun kV doc pm an cdv ct us hl => match us, hl with
  | [_], _ => rfl
theorem b47 : BindP r47 := fun kV doc pm an cdv ct us hl => match us, hl with
  | [_], _ => rfl
theorem b48 : BindP r48 := fun kV doc pm an cdv ct us hl => match us, hl with
  | [_], _ => rfl
theorem binds : ∀ r ∈ rs, BindP r := fun r hr => by
  simp only [rs, List.mem_cons, List.not_mem_nil, or_false] at hr
  rcases hr with rfl | rfl | rfl | rfl | rfl | rfl | rfl | rfl | rfl | rfl | rfl | rfl | rfl | rfl | rfl | rfl | rfl | rfl | rfl | rfl | rfl | rfl | rfl | rfl | rfl | rfl | rfl | rfl | rfl | rfl | rfl | rfl | rfl | rfl | rfl | rfl | rfl | rfl
  · exact b2
  · exact b3
  · exact b4
  · exact b5
  · exact b6
  · exact b7
  · exact b8
  · exact b9
  · exact b10
  · exact b11
  · exact b12
  · exact b13
  · exact b14
  · exact b15
  · exact b24
  · exact b25
  · exact b26
  · exact b27
  · exact b28
  · exact b29
  · exact b30
  · exact b31
  · exact b33
  · exact b34
  · exact b35
  · exact b36
  · exact b37
  · exact b38
  · exact b39
  · exact b40
  · exact b41
  · exact b42
  · exact b43
  · exact b44
  · exact b45
  · exact b46
  · exact b47
  · exact b48
theorem names : (rs.map (·.name)).Nodup := by decide +kernel
theorem checked : rs.all (okR (rs.map (·.name)) cons lams) = true := by decide +kernel
abbrev T : Txt := txt rs
theorem u2 (n : Nat) (vs : List D) (S : Sto) : run T (n + 1) "is_whole" vs S = runD (run T n) ⟨1, 1, c2⟩ vs S := run_r (r := r2) (by simp [rs]) names n vs S
theorem u3 (n : Nat) (vs : List D) (S : Sto) : run T (n + 1) "is_between" vs S = runD (run T n) ⟨3, 3, c3⟩ vs S := run_r (r := r3) (by simp [rs]) names n vs S
theorem u4 (n : Nat) (vs : List D) (S : Sto) : run T (n + 1) "is_ascending" vs S = runD (run T n) ⟨2, 4, c4⟩ vs S := run_r (r := r4) (by simp [rs]) names n vs S
theorem u5 (n : Nat) (vs : List D) (S : Sto) : run T (n + 1) "mask_of" vs S = runD (run T n) ⟨1, 2, c5⟩ vs S := run_r (r := r5) (by simp [rs]) names n vs S
theorem u6 (n : Nat) (vs : List D) (S : Sto) : run T (n + 1) "lot_of" vs S = runD (run T n) ⟨1, 2, c6⟩ vs S := run_r (r := r6) (by simp [rs]) names n vs S
theorem u7 (n : Nat) (vs : List D) (S : Sto) : run T (n + 1) "masks_of" vs S = runD (run T n) ⟨1, 2, c7⟩ vs S := run_r (r := r7) (by simp [rs]) names n vs S
theorem u8 (n : Nat) (vs : List D) (S : Sto) : run T (n + 1) "lots_of" vs S = runD (run T n) ⟨1, 2, c8⟩ vs S := run_r (r := r8) (by simp [rs]) names n vs S
theorem u9 (n : Nat) (vs : List D) (S : Sto) : run T (n + 1) "head_of" vs S = runD (run T n) ⟨1, 1, c9⟩ vs S := run_r (r := r9) (by simp [rs]) names n vs S
theorem u10 (n : Nat) (vs : List D) (S : Sto) : run T (n + 1) "low_part" vs S = runD (run T n) ⟨1, 1, c10⟩ vs S := run_r (r := r10) (by simp [rs]) names n vs S
theorem u11 (n : Nat) (vs : List D) (S : Sto) : run T (n + 1) "cleared" vs S = runD (run T n) ⟨2, 4, c11⟩ vs S := run_r (r := r11) (by simp [rs]) names n vs S
theorem u12 (n : Nat) (vs : List D) (S : Sto) : run T (n + 1) "reduced" vs S = runD (run T n) ⟨1, 6, c12⟩ vs S := run_r (r := r12) (by simp [rs]) names n vs S
theorem u13 (n : Nat) (vs : List D) (S : Sto) : run T (n + 1) "kernel" vs S = runD (run T n) ⟨2, 7, c13⟩ vs S := run_r (r := r13) (by simp [rs]) names n vs S
theorem u14 (n : Nat) (vs : List D) (S : Sto) : run T (n + 1) "carried" vs S = runD (run T n) ⟨1, 2, c14⟩ vs S := run_r (r := r14) (by simp [rs]) names n vs S
theorem u15 (n : Nat) (vs : List D) (S : Sto) : run T (n + 1) "shared" vs S = runD (run T n) ⟨2, 3, c15⟩ vs S := run_r (r := r15) (by simp [rs]) names n vs S
theorem u24 (n : Nat) (vs : List D) (S : Sto) : run T (n + 1) "are_lots" vs S = runD (run T n) ⟨1, 2, c24⟩ vs S := run_r (r := r24) (by simp [rs]) names n vs S
theorem u25 (n : Nat) (vs : List D) (S : Sto) : run T (n + 1) "lot_sum" vs S = runD (run T n) ⟨2, 2, c25⟩ vs S := run_r (r := r25) (by simp [rs]) names n vs S
theorem u26 (n : Nat) (vs : List D) (S : Sto) : run T (n + 1) "form_of" vs S = runD (run T n) ⟨1, 1, c26⟩ vs S := run_r (r := r26) (by simp [rs]) names n vs S
theorem u27 (n : Nat) (vs : List D) (S : Sto) : run T (n + 1) "opposite_form" vs S = runD (run T n) ⟨2, 3, c27⟩ vs S := run_r (r := r27) (by simp [rs]) names n vs S
theorem u28 (n : Nat) (vs : List D) (S : Sto) : run T (n + 1) "common_form" vs S = runD (run T n) ⟨2, 2, c28⟩ vs S := run_r (r := r28) (by simp [rs]) names n vs S
theorem u29 (n : Nat) (vs : List D) (S : Sto) : run T (n + 1) "_demand_many" vs S = runD (run T n) ⟨1, 1, c29⟩ vs S := run_r (r := r29) (by simp [rs]) names n vs S
theorem u30 (n : Nat) (vs : List D) (S : Sto) : run T (n + 1) "_demand_lot" vs S = runD (run T n) ⟨1, 1, c30⟩ vs S := run_r (r := r30) (by simp [rs]) names n vs S
theorem u31 (n : Nat) (vs : List D) (S : Sto) : run T (n + 1) "_demand_lots" vs S = runD (run T n) ⟨1, 1, c31⟩ vs S := run_r (r := r31) (by simp [rs]) names n vs S
theorem u33 (n : Nat) (vs : List D) (S : Sto) : run T (n + 1) "_law_dice" vs S = runD (run T n) ⟨2, 4, c33⟩ vs S := run_r (r := r33) (by simp [rs]) names n vs S
theorem u34 (n : Nat) (vs : List D) (S : Sto) : run T (n + 1) "_law_roll" vs S = runD (run T n) ⟨2, 5, c34⟩ vs S := run_r (r := r34) (by simp [rs]) names n vs S
theorem u35 (n : Nat) (vs : List D) (S : Sto) : run T (n + 1) "_law_pick" vs S = runD (run T n) ⟨2, 2, c35⟩ vs S := run_r (r := r35) (by simp [rs]) names n vs S
theorem u36 (n : Nat) (vs : List D) (S : Sto) : run T (n + 1) "_law_mixed" vs S = runD (run T n) ⟨2, 4, c36⟩ vs S := run_r (r := r36) (by simp [rs]) names n vs S
theorem u37 (n : Nat) (vs : List D) (S : Sto) : run T (n + 1) "_law_lo_sum" vs S = runD (run T n) ⟨2, 3, c37⟩ vs S := run_r (r := r37) (by simp [rs]) names n vs S
theorem u38 (n : Nat) (vs : List D) (S : Sto) : run T (n + 1) "_law_lo_is_odd" vs S = runD (run T n) ⟨2, 3, c38⟩ vs S := run_r (r := r38) (by simp [rs]) names n vs S
theorem u39 (n : Nat) (vs : List D) (S : Sto) : run T (n + 1) "_law_lo_form" vs S = runD (run T n) ⟨1, 7, c39⟩ vs S := run_r (r := r39) (by simp [rs]) names n vs S
theorem u40 (n : Nat) (vs : List D) (S : Sto) : run T (n + 1) "_law_lo_is_made" vs S = runD (run T n) ⟨2, 4, c40⟩ vs S := run_r (r := r40) (by simp [rs]) names n vs S
theorem u41 (n : Nat) (vs : List D) (S : Sto) : run T (n + 1) "_law_lo_all" vs S = runD (run T n) ⟨1, 4, c41⟩ vs S := run_r (r := r41) (by simp [rs]) names n vs S
theorem u42 (n : Nat) (vs : List D) (S : Sto) : run T (n + 1) "_law_lo_any" vs S = runD (run T n) ⟨2, 4, c42⟩ vs S := run_r (r := r42) (by simp [rs]) names n vs S
theorem u43 (n : Nat) (vs : List D) (S : Sto) : run T (n + 1) "_law_has_shape" vs S = runD (run T n) ⟨1, 4, c43⟩ vs S := run_r (r := r43) (by simp [rs]) names n vs S
theorem u44 (n : Nat) (vs : List D) (S : Sto) : run T (n + 1) "_law_lots" vs S = runD (run T n) ⟨2, 4, c44⟩ vs S := run_r (r := r44) (by simp [rs]) names n vs S
theorem u45 (n : Nat) (vs : List D) (S : Sto) : run T (n + 1) "_law_told_right" vs S = runD (run T n) ⟨3, 9, c45⟩ vs S := run_r (r := r45) (by simp [rs]) names n vs S
theorem u46 (n : Nat) (vs : List D) (S : Sto) : run T (n + 1) "_law_all_right" vs S = runD (run T n) ⟨1, 12, c46⟩ vs S := run_r (r := r46) (by simp [rs]) names n vs S
theorem u47 (n : Nat) (vs : List D) (S : Sto) : run T (n + 1) "_law_wide_right" vs S = runD (run T n) ⟨1, 7, c47⟩ vs S := run_r (r := r47) (by simp [rs]) names n vs S
theorem u48 (n : Nat) (vs : List D) (S : Sto) : run T (n + 1) "law" vs S = runD (run T n) ⟨1, 7, c48⟩ vs S := run_r (r := r48) (by simp [rs]) names n vs S
end K01
end
section
set_option Elab.async false
set_option linter.all false
set_option maxRecDepth 100000
set_option maxHeartbeats 0
namespace K01
open PySem PySem.Spec PyProof.Rows L2 Z
abbrev R : PySem.W.OpenRow := PySem.W.OpenLaw.row PySem.Challenge.rw_ringtables_k01_whole_forms_and_opposites
abbrev hk : PySem.W.Hook := hookL 4 (faOf rs cons) (rs.map toD) lams
def ob (s : PySem.W.SharedT) : AlL := obsL 4 (faOf rs cons) (rs.map toD) lams (HandSHeadRun.getT s)
theorem ob_eq (s : PySem.W.SharedT) : ob s = hk.obs s.abs := obsL_eq (HandSHeadRun.getT_eq s)
def loose : List PySem.Str := (["SPAN", "is_whole", "is_between", "is_ascending", "mask_of", "lot_of", "masks_of", "lots_of", "head_of", "low_part", "cleared", "reduced", "kernel", "carried", "shared", "RingError", "InvalidLot", "InvalidOperation", "InvalidNumber", "MOST_LINES", "MOST_LOTS", "are_lots", "lot_sum", "form_of", "opposite_form", "common_form", "_demand_many", "_demand_lot", "_demand_lots", "_law_dice"] : List PySem.Str) ++ (["_law_roll", "_law_pick", "_law_mixed", "_law_lo_sum", "_law_lo_is_odd", "_law_lo_form", "_law_lo_is_made", "_law_lo_all", "_law_lo_any", "_law_has_shape", "_law_lots", "_law_told_right", "_law_all_right", "_law_wide_right"] : List PySem.Str)
theorem run_top (w : World) : HandSHeadRun.RunEq R (PySem.W.view R.prog [48]) hk ob 3000 loose w := by
  intro os
  kernel_rfl
end K01
open PySem PySem.W PySem.Calls PyProof.Rows
theorem K01.holds (hlaw : ∀ ns : List Int, ns.length ≤ 63 → (∀ z ∈ ns, Builtin.Int.intBits z ≤ 1048576) → ∃ S', Z.run (Z.txt K01.rs) 40 "law" [.ref 0] (Z.scrL ns K01.lams) = some (.bl true, S')) : PySem.Challenge.rw_ringtables_k01_whole_forms_and_opposites.Holds := by
  w_on; o_law
  refine HandSHeadRun.head_any (r := OpenLaw.row PySem.Challenge.rw_ringtables_k01_whole_forms_and_opposites) (q := view (OpenLaw.row PySem.Challenge.rw_ringtables_k01_whole_forms_and_opposites).prog [48]) (H := K01.hk) (ob := K01.ob) (M := 3000) (loose := K01.loose) (d := HandSHeadRun.topDef (OpenLaw.row PySem.Challenge.rw_ringtables_k01_whole_forms_and_opposites).prog 48) (kwd := []) K01.ob_eq
    (by kernel_rfl) (fun s => by kernel_rfl) K01.run_top (by kernel_rfl) (by kernel_rfl) (by kernel_rfl) (by rfl) (by first | assumption | decide +kernel) (by decide +kernel) ⟨rfl, rfl, rfl, rfl, rfl, by decide +kernel⟩ ?hw ?hc
  case hw => w_witness2
  case hc =>
    refine LamX.walk_ofTsE (l := PySem.Challenge.rw_ringtables_k01_whole_forms_and_opposites) (n := 63) (k := 43) (x := "script") (CX := fun _ => L2.CX0) rfl (by decide) (by kernel_rfl) ⟨rfl, by decide, by decide⟩ ?F (fun _ _ _ _ _ z => z)
    intro w mg fa h Y G hmg0
    obtain ⟨K, KX, c⟩ := Y
    refine ⟨K, KX, ?_⟩
    have hmg : mg ("law" : PySem.Str) = some (.ref fa) := by
      have e : (HandSHeadRun.topDef (OpenLaw.row PySem.Challenge.rw_ringtables_k01_whole_forms_and_opposites).prog 48).name = ("law" : PySem.Str) := by kernel_rfl
      rw [← e]
      exact hmg0
    exact Z.law_fin (r := K01.r48) K01.names K01.binds K01.checked (by simp [K01.rs]) rfl hlaw KX c G hmg
end
section
set_option linter.all false
set_option autoImplicit false
/-! sums of masks, reduced rows -/
namespace M

/-- the lowest bit's place -/
def low (n : Nat) : Nat := if h : n = 0 then 0 else if n % 2 = 1 then 0 else low (n / 2) + 1
termination_by n
decreasing_by omega
theorem low_spec : ∀ (n : Nat), n ≠ 0 → n.testBit (low n) = true ∧ ∀ j, j < low n → n.testBit j = false := by
  intro n
  induction n using Nat.strongRecOn with
  | _ n ih =>
    intro h
    rw [low, dif_neg h]
    by_cases c : n % 2 = 1
    · rw [if_pos c]
      refine ⟨by rw [Nat.testBit_zero]; simp [c], fun j hj => absurd hj (Nat.not_lt_zero _)⟩
    · rw [if_neg c]
      obtain ⟨h1, h2⟩ := ih (n / 2) (by omega) (by omega)
      refine ⟨by rw [Nat.testBit_succ]; exact h1, fun j hj => ?_⟩
      cases j with
      | zero => rw [Nat.testBit_zero]; simp [c]
      | succ j =>
        rw [Nat.testBit_succ]
        exact h2 j (by omega)
theorem low_bit {n : Nat} (h : n ≠ 0) : n.testBit (low n) = true := (low_spec n h).1
theorem low_lt {n j : Nat} (h : j < low n) : n.testBit j = false := by
  by_cases c : n = 0
  · subst c
    exact Nat.zero_testBit j
  · exact (low_spec n c).2 j h
theorem low_eq {n i : Nat} (h1 : n.testBit i = true) (h2 : ∀ j, j < i → n.testBit j = false) : low n = i := by
  have hn : n ≠ 0 := fun z => by
    rw [z, Nat.zero_testBit] at h1
    cases h1
  rcases Nat.lt_trichotomy (low n) i with c | c | c
  · have := low_bit hn
    rw [h2 _ c] at this
    cases this
  · exact c
  · rw [low_lt c] at h1
    cases h1
theorem ne_of_bit {n i : Nat} (h : n.testBit i = true) : n ≠ 0 := fun z => by
  rw [z, Nat.zero_testBit] at h
  cases h
theorem le_low {n i : Nat} (hn : n ≠ 0) (h : ∀ j, j < i → n.testBit j = false) : i ≤ low n := by
  refine Nat.le_of_not_lt fun c => ?_
  have := low_bit hn
  rw [h _ c] at this
  cases this

/-! ### sums -/
def spn : List Nat → Nat → Prop
  | [], x => x = 0
  | r :: rs, x => spn rs x ∨ spn rs (x ^^^ r)
theorem spn_zero : ∀ rs, spn rs 0
  | [] => rfl
  | _ :: rs => .inl (spn_zero rs)
theorem xor4 (x y r : Nat) : (x ^^^ r) ^^^ (y ^^^ r) = x ^^^ y := by
  rw [Nat.xor_comm y r, Nat.xor_assoc, ← Nat.xor_assoc r r y, Nat.xor_self, Nat.zero_xor]
theorem xor_r (x r : Nat) : (x ^^^ r) ^^^ r = x := by rw [Nat.xor_assoc, Nat.xor_self, Nat.xor_zero]
theorem spn_xor : ∀ {rs : List Nat} {x y : Nat}, spn rs x → spn rs y → spn rs (x ^^^ y)
  | [], x, y, h1, h2 => by
    cases h1
    cases h2
    exact Nat.xor_self 0
  | r :: rs, x, y, h1, h2 => by
    rcases h1 with h1 | h1 <;> rcases h2 with h2 | h2
    · exact .inl (spn_xor h1 h2)
    · refine .inr ?_
      have := spn_xor h1 h2
      rw [← Nat.xor_assoc] at this
      exact this
    · refine .inr ?_
      have := spn_xor h1 h2
      rw [Nat.xor_assoc, Nat.xor_comm r y, ← Nat.xor_assoc] at this
      exact this
    · refine .inl ?_
      have := spn_xor h1 h2
      rw [xor4] at this
      exact this
theorem spn_mem : ∀ {rs : List Nat} {r : Nat}, r ∈ rs → spn rs r
  | s :: rs, r, h => by
    rcases List.mem_cons.mp h with rfl | h
    · refine .inr ?_
      rw [Nat.xor_self]
      exact spn_zero rs
    · exact .inl (spn_mem h)
theorem spn_sub : ∀ {rs ts : List Nat} {x : Nat}, (∀ r, r ∈ rs → spn ts r) → spn rs x → spn ts x
  | [], ts, x, _, h => by
    cases h
    exact spn_zero ts
  | r :: rs, ts, x, hr, h => by
    have h1 : ∀ q, q ∈ rs → spn ts q := fun q hq => hr q (List.mem_cons_of_mem _ hq)
    rcases h with h | h
    · exact spn_sub h1 h
    · have := spn_xor (spn_sub h1 h) (hr r List.mem_cons_self)
      rw [xor_r] at this
      exact this
def Same (rs ts : List Nat) : Prop := ∀ x, spn rs x ↔ spn ts x
theorem same_of {rs ts : List Nat} (h1 : ∀ r, r ∈ rs → spn ts r) (h2 : ∀ r, r ∈ ts → spn rs r) : Same rs ts := fun _ => ⟨spn_sub h1, spn_sub h2⟩
theorem Same.symm {rs ts : List Nat} (h : Same rs ts) : Same ts rs := fun x => (h x).symm
theorem Same.trans {rs ts us : List Nat} (h : Same rs ts) (q : Same ts us) : Same rs us := fun x => (h x).trans (q x)
theorem Same.refl {rs : List Nat} : Same rs rs := fun _ => .rfl
theorem spn_bit {i : Nat} : ∀ {rs : List Nat} {x : Nat}, (∀ r, r ∈ rs → r.testBit i = false) → spn rs x → x.testBit i = false
  | [], x, _, h => by
    cases h
    exact Nat.zero_testBit i
  | r :: rs, x, hr, h => by
    have h1 : ∀ q, q ∈ rs → q.testBit i = false := fun q hq => hr q (List.mem_cons_of_mem _ hq)
    rcases h with h | h
    · exact spn_bit h1 h
    · have := spn_bit h1 h
      rw [Nat.testBit_xor, hr r List.mem_cons_self] at this
      simpa using this

/-! ### forms -/
/-- rows none of which has another one's lowest bit -/
def Red (rs : List Nat) : Prop := (∀ r, r ∈ rs → r ≠ 0) ∧ rs.Pairwise fun a b => a.testBit (low b) = false ∧ b.testBit (low a) = false
def Form (rs : List Nat) : Prop := Red rs ∧ rs.Pairwise fun a b => low a < low b
theorem Red.tail {r : Nat} {rs : List Nat} (h : Red (r :: rs)) : Red rs := ⟨fun q hq => h.1 q (List.mem_cons_of_mem _ hq), (List.pairwise_cons.mp h.2).2⟩
theorem Form.tail {r : Nat} {rs : List Nat} (h : Form (r :: rs)) : Form rs := ⟨h.1.tail, (List.pairwise_cons.mp h.2).2⟩
theorem red_zero : ∀ {rs : List Nat} {x : Nat}, Red rs → spn rs x → (∀ r, r ∈ rs → x.testBit (low r) = false) → x = 0
  | [], _, _, h, _ => h
  | r :: rs, x, hR, h, hx => by
    rcases h with h | h
    · exact red_zero hR.tail h fun q hq => hx q (List.mem_cons_of_mem _ hq)
    · have h1 := (List.pairwise_cons.mp hR.2).1
      have := spn_bit (i := low r) (fun q hq => (h1 q hq).2) h
      rw [Nat.testBit_xor, hx r List.mem_cons_self, low_bit (hR.1 r List.mem_cons_self)] at this
      cases this
theorem form_low : ∀ {rs : List Nat} {x : Nat}, Form rs → spn rs x → x ≠ 0 → ∃ r, r ∈ rs ∧ low r = low x
  | [], x, _, h, hn => absurd h hn
  | r :: rs, x, hF, h, hn => by
    rcases h with h | h
    · obtain ⟨q, h1, h2⟩ := form_low hF.tail h hn
      exact ⟨q, List.mem_cons_of_mem _ h1, h2⟩
    · have hl := (List.pairwise_cons.mp hF.2).1
      have hr := low_bit (hF.1.1 r List.mem_cons_self)
      have hz : ∀ j, j ≤ low r → (x ^^^ r).testBit j = false := fun j hj => spn_bit (fun q hq => low_lt (Nat.lt_of_le_of_lt hj (hl q hq))) h
      refine ⟨r, List.mem_cons_self, (low_eq ?_ fun j hj => ?_).symm⟩
      · have := hz _ (Nat.le_refl _)
        rw [Nat.testBit_xor, hr] at this
        simpa using this
      · have := hz j (Nat.le_of_lt hj)
        rw [Nat.testBit_xor, low_lt hj] at this
        simpa using this
theorem red_bit {rs : List Nat} (h : Red rs) {a b : Nat} (ha : a ∈ rs) (hb : b ∈ rs) : a.testBit (low b) = decide (low a = low b) := by
  by_cases c : low a = low b
  · rw [← c, low_bit (h.1 a ha)]
    simp
  · have key : ∀ {rs : List Nat}, rs.Pairwise (fun a b => a.testBit (low b) = false ∧ b.testBit (low a) = false) → a ∈ rs → b ∈ rs → a.testBit (low b) = false := by
      intro rs
      induction rs with
      | nil => intro _ h; cases h
      | cons r rs ih =>
        intro hp ha hb
        have hp' := List.pairwise_cons.mp hp
        rcases List.mem_cons.mp ha with ea | ha'
        · rcases List.mem_cons.mp hb with eb | hb'
          · exact absurd (by rw [ea, eb]) c
          · rw [ea]
            exact (hp'.1 b hb').1
        · rcases List.mem_cons.mp hb with eb | hb'
          · rw [eb]
            exact (hp'.1 a ha').2
          · exact ih hp'.2 ha' hb'
    rw [key h.2 ha hb]
    simp [c]
theorem form_mem {rs ts : List Nat} (h1 : Form rs) (h2 : Form ts) (e : Same rs ts) {a : Nat} (ha : a ∈ rs) : a ∈ ts := by
  obtain ⟨b, hb, hl⟩ := form_low h2 ((e a).mp (spn_mem ha)) (h1.1.1 a ha)
  have hs : spn rs (a ^^^ b) := spn_xor (spn_mem ha) ((e b).mpr (spn_mem hb))
  have hz : a ^^^ b = 0 := red_zero h1.1 hs fun r hr => by
    obtain ⟨c, hc, hcl⟩ := form_low h2 ((e r).mp (spn_mem hr)) (h1.1.1 r hr)
    rw [Nat.testBit_xor, red_bit h1.1 ha hr, ← hcl, red_bit h2.1 hb hc, hl]
    simp
  have : a = b := by
    have q := congrArg (· ^^^ b) hz
    simp only [xor_r, Nat.zero_xor] at q
    exact q
  rw [this]
  exact hb
theorem sorted_same : ∀ {rs ts : List Nat}, rs.Pairwise (fun a b => low a < low b) → ts.Pairwise (fun a b => low a < low b) → (∀ x, x ∈ rs ↔ x ∈ ts) → rs = ts
  | [], [], _, _, _ => rfl
  | [], b :: ts, _, _, h => absurd ((h b).mpr List.mem_cons_self) (by simp)
  | a :: rs, [], _, _, h => absurd ((h a).mp List.mem_cons_self) (by simp)
  | a :: rs, b :: ts, h1, h2, h => by
    have p1 := List.pairwise_cons.mp h1
    have p2 := List.pairwise_cons.mp h2
    have e : a = b := by
      rcases List.mem_cons.mp ((h a).mp List.mem_cons_self) with e | ha
      · exact e
      · rcases List.mem_cons.mp ((h b).mpr List.mem_cons_self) with e | hb
        · exact e.symm
        · have := p2.1 a ha
          have := p1.1 b hb
          omega
    subst e
    rw [sorted_same p1.2 p2.2 fun x => ⟨fun hx => ?_, fun hx => ?_⟩]
    · rcases List.mem_cons.mp ((h x).mp (List.mem_cons_of_mem _ hx)) with e | q
      · subst e
        exact absurd (p1.1 _ hx) (Nat.lt_irrefl _)
      · exact q
    · rcases List.mem_cons.mp ((h x).mpr (List.mem_cons_of_mem _ hx)) with e | q
      · subst e
        exact absurd (p2.1 _ hx) (Nat.lt_irrefl _)
      · exact q
/-- a form is the only one with its sums -/
theorem form_uniq {rs ts : List Nat} (h1 : Form rs) (h2 : Form ts) (e : Same rs ts) : rs = ts := sorted_same h1.2 h2.2 fun _ => ⟨form_mem h1 h2 e, form_mem h2 h1 e.symm⟩
end M
end
section
set_option linter.all false
set_option autoImplicit false
/-! reducing -/
namespace M

def clr : List Nat → Nat → Nat
  | [], m => m
  | r :: rs, m => clr rs (if m.testBit (low r) then m ^^^ r else m)
def put (rows : List Nat) (m : Nat) : List Nat := if clr rows m = 0 then rows else rows.map (fun r => if r.testBit (low (clr rows m)) then r ^^^ clr rows m else r) ++ [clr rows m]
def puts : List Nat → List Nat → List Nat
  | rows, [] => rows
  | rows, m :: ms => puts (put rows m) ms
theorem xor_ab {a b : Nat} : a ^^^ (a ^^^ b) = b := by rw [← Nat.xor_assoc, Nat.xor_self, Nat.zero_xor]
theorem clr_spec : ∀ {rs : List Nat} {m : Nat}, Red rs → (∀ r, r ∈ rs → (clr rs m).testBit (low r) = false) ∧ spn rs (m ^^^ clr rs m) ∧ ∀ i, (∀ r, r ∈ rs → r.testBit i = false) → (clr rs m).testBit i = m.testBit i
  | [], m, _ => ⟨(fun r hr => by cases hr), Nat.xor_self m, fun i _ => rfl⟩
  | r :: rs, m, h => by
    have hp := (List.pairwise_cons.mp h.2).1
    have hr := low_bit (h.1 r List.mem_cons_self)
    obtain ⟨m', hm⟩ : ∃ m', m' = if m.testBit (low r) then m ^^^ r else m := ⟨_, rfl⟩
    have e : clr (r :: rs) m = clr rs m' := by
      rw [hm]
      rfl
    obtain ⟨h1, h2, h3⟩ := clr_spec (m := m') h.tail
    rw [e]
    have hz : m'.testBit (low r) = false := by
      rw [hm]
      by_cases c : m.testBit (low r) = true
      · rw [if_pos c, Nat.testBit_xor, c, hr]
        rfl
      · rw [if_neg c]
        simpa using c
    refine ⟨fun q hq => ?_, ?_, fun i hi => ?_⟩
    · rcases List.mem_cons.mp hq with rfl | hq
      · rw [h3 _ fun q hq => (hp q hq).2]
        exact hz
      · exact h1 q hq
    · by_cases c : m.testBit (low r) = true
      · rw [if_pos c] at hm
        refine .inr ?_
        have : m ^^^ clr rs m' ^^^ r = m' ^^^ clr rs m' := by
          rw [hm, Nat.xor_assoc, Nat.xor_comm (clr rs (m ^^^ r)) r, ← Nat.xor_assoc]
        rw [this]
        exact h2
      · rw [if_neg c] at hm
        refine .inl ?_
        rw [hm] at h2 ⊢
        exact h2
    · rw [h3 i fun q hq => hi q (List.mem_cons_of_mem _ hq), hm]
      by_cases c : m.testBit (low r) = true
      · rw [if_pos c, Nat.testBit_xor, hi r List.mem_cons_self]
        simp
      · rw [if_neg c]
/-- one row more, beside rows that it clears -/
def turn (l r : Nat) : Nat := if r.testBit (low l) then r ^^^ l else r
theorem turn_low {l r : Nat} (hl : l ≠ 0) (hr : r ≠ 0) (h : l.testBit (low r) = false) : low (turn l r) = low r := by
  unfold turn
  by_cases c : r.testBit (low l) = true
  · rw [if_pos c]
    have hle : low r ≤ low l := Nat.le_of_not_lt fun z => by
      rw [low_lt z] at c
      cases c
    refine low_eq ?_ fun j hj => ?_
    · rw [Nat.testBit_xor, low_bit hr, h]
      rfl
    · rw [Nat.testBit_xor, low_lt hj, low_lt (Nat.lt_of_lt_of_le hj hle)]
      rfl
  · rw [if_neg c]
theorem turn_own {l r : Nat} (hl : l ≠ 0) : (turn l r).testBit (low l) = false := by
  unfold turn
  by_cases c : r.testBit (low l) = true
  · rw [if_pos c, Nat.testBit_xor, c, low_bit hl]
    rfl
  · rw [if_neg c]
    simpa using c
theorem turn_bit {l r i : Nat} (h : l.testBit i = false) : (turn l r).testBit i = r.testBit i := by
  unfold turn
  split
  · rw [Nat.testBit_xor, h]
    simp
  · rfl
theorem turn_spn {rs : List Nat} {l r : Nat} (hl : spn rs l) (hr : spn rs r) : spn rs (turn l r) := by
  unfold turn
  split
  · exact spn_xor hr hl
  · exact hr
theorem spn_turn {rs : List Nat} {l r : Nat} (hl : spn rs l) (hr : spn rs (turn l r)) : spn rs r := by
  unfold turn at hr
  split at hr
  · have := spn_xor hr hl
    rw [xor_r] at this
    exact this
  · exact hr
theorem put_spec {rs : List Nat} {m : Nat} (h : Red rs) : Red (put rs m) ∧ Same (put rs m) (m :: rs) := by
  obtain ⟨h1, h2, _⟩ := clr_spec (m := m) h
  obtain ⟨l, el⟩ : ∃ l, l = clr rs m := ⟨_, rfl⟩
  unfold put
  rw [← el] at h1 h2 ⊢
  by_cases c : l = 0
  · rw [if_pos c]
    rw [c, Nat.xor_zero] at h2
    exact ⟨h, same_of (fun r hr => .inl (spn_mem hr)) fun r hr => by
      rcases List.mem_cons.mp hr with rfl | hr
      · exact h2
      · exact spn_mem hr⟩
  · rw [if_neg c]
    have e : rs.map (fun r => if r.testBit (low l) then r ^^^ l else r) = rs.map (turn l) := rfl
    rw [e]
    refine ⟨⟨fun r hr => ?_, ?_⟩, same_of (fun r hr => ?_) fun r hr => ?_⟩
    · rcases List.mem_append.mp hr with hr | hr
      · obtain ⟨q, hq, rfl⟩ := List.mem_map.mp hr
        refine ne_of_bit (i := low q) ?_
        rw [turn_bit (h1 q hq)]
        exact low_bit (h.1 q hq)
      · rw [List.mem_singleton.mp hr]
        exact c
    · refine List.pairwise_append.mpr ⟨?_, List.pairwise_singleton _ _, fun a ha b hb => ?_⟩
      · refine List.pairwise_map.mpr (h.2.imp_of_mem fun {a b} ha hb hab => ?_)
        rw [turn_low c (h.1 a ha) (h1 a ha), turn_low c (h.1 b hb) (h1 b hb), turn_bit (h1 b hb), turn_bit (h1 a ha)]
        exact hab
      · obtain ⟨q, hq, rfl⟩ := List.mem_map.mp ha
        rw [List.mem_singleton.mp hb, turn_low c (h.1 q hq) (h1 q hq)]
        exact ⟨turn_own c, h1 q hq⟩
    · have hl : spn (m :: rs) l := by
        have a : spn (m :: rs) m := spn_mem List.mem_cons_self
        have b : spn (m :: rs) (m ^^^ l) := .inl h2
        have := spn_xor a b
        rw [xor_ab] at this
        exact this
      rcases List.mem_append.mp hr with hr | hr
      · obtain ⟨q, hq, rfl⟩ := List.mem_map.mp hr
        exact turn_spn hl (.inl (spn_mem hq))
      · rw [List.mem_singleton.mp hr]
        exact hl
    · have hl : spn (rs.map (turn l) ++ [l]) l := spn_mem (List.mem_append_right _ List.mem_cons_self)
      have hq : ∀ q, q ∈ rs → spn (rs.map (turn l) ++ [l]) q := fun q hq => spn_turn hl (spn_mem (List.mem_append_left _ (List.mem_map_of_mem hq)))
      rcases List.mem_cons.mp hr with rfl | hr
      · have := spn_xor (spn_sub hq h2) hl
        rw [xor_r] at this
        exact this
      · exact hq r hr
theorem puts_spec : ∀ {ms rs : List Nat}, Red rs → Red (puts rs ms) ∧ Same (puts rs ms) (ms ++ rs)
  | [], rs, h => ⟨h, Same.refl⟩
  | m :: ms, rs, h => by
    obtain ⟨h1, h2⟩ := put_spec (m := m) h
    obtain ⟨h3, h4⟩ := puts_spec (ms := ms) h1
    refine ⟨h3, h4.trans (same_of (fun r hr => ?_) fun r hr => ?_)⟩
    · rcases List.mem_append.mp hr with hr | hr
      · exact spn_mem (by simp [hr])
      · refine spn_sub (fun q hq => ?_) ((h2 r).mp (spn_mem hr))
        rcases List.mem_cons.mp hq with rfl | hq
        · exact spn_mem (by simp)
        · exact spn_mem (by simp [hq])
    · have hs : ∀ q, q ∈ put rs m → spn (ms ++ put rs m) q := fun q hq => spn_mem (by simp [hq])
      have hm : ∀ q, q ∈ m :: rs → spn (ms ++ put rs m) q := fun q hq => spn_sub hs ((h2 q).mpr (spn_mem hq))
      rcases List.mem_cons.mp (show r ∈ m :: (ms ++ rs) from hr) with rfl | hr
      · exact hm _ List.mem_cons_self
      · rcases List.mem_append.mp hr with hr | hr
        · exact spn_mem (by simp [hr])
        · exact hm r (List.mem_cons_of_mem _ hr)
theorem red_nil : Red [] := ⟨(fun r hr => by cases hr), .nil⟩
theorem red_perm {rs ts : List Nat} (h : Red rs) (p : rs.Perm ts) : Red ts := ⟨fun r hr => h.1 r (p.mem_iff.mpr hr), p.pairwise h.2 fun {a b} q => ⟨q.2, q.1⟩⟩
theorem same_perm {rs ts : List Nat} (p : rs.Perm ts) : Same rs ts := same_of (fun r hr => spn_mem (p.mem_iff.mp hr)) fun r hr => spn_mem (p.mem_iff.mpr hr)
theorem red_lows {rs : List Nat} (h : Red rs) : rs.Pairwise fun a b => low a ≠ low b := h.2.imp_of_mem fun {a b} ha hb q z => by
  have := q.1
  rw [← z, low_bit (h.1 a ha)] at this
  cases this
/-- whatever sorts the reduced rows by their lowest bits makes the form -/
theorem form_of_sorted {ms ts : List Nat} (p : ts.Perm (puts [] ms)) (s : ts.Pairwise fun a b => low a ≤ low b) : Form ts ∧ Same ts ms := by
  obtain ⟨h1, h2⟩ := puts_spec (ms := ms) red_nil
  rw [List.append_nil] at h2
  have hr := red_perm h1 p.symm
  refine ⟨⟨hr, ?_⟩, (same_perm p).trans h2⟩
  have q := red_lows hr
  exact (s.and q).imp fun {a b} hab => Nat.lt_of_le_of_ne hab.1 hab.2

/-! ### how many rows -/
/-- no mask is a sum of those ahead -/
def Ind : List Nat → List Nat → Prop
  | _, [] => True
  | acc, m :: ms => ¬ spn acc m ∧ Ind (m :: acc) ms
theorem clr_zero {rs : List Nat} {m : Nat} (h : Red rs) : clr rs m = 0 ↔ spn rs m := by
  obtain ⟨h1, h2, _⟩ := clr_spec (m := m) h
  refine ⟨fun z => ?_, fun z => ?_⟩
  · rw [z, Nat.xor_zero] at h2
    exact h2
  · have := spn_xor z h2
    rw [xor_ab] at this
    exact red_zero h this h1
theorem put_len {rs : List Nat} {m : Nat} (h : Red rs) (c : ¬ spn rs m) : (put rs m).length = rs.length + 1 := by
  unfold put
  rw [if_neg fun z => c ((clr_zero h).mp z)]
  simp
theorem put_same {rs : List Nat} {m : Nat} (h : Red rs) (c : spn rs m) : put rs m = rs := by
  unfold put
  rw [if_pos ((clr_zero h).mpr c)]
theorem ind_same : ∀ {ms acc acc' : List Nat}, Same acc acc' → Ind acc ms → Ind acc' ms
  | [], _, _, _, _ => trivial
  | m :: ms, acc, acc', e, ⟨h1, h2⟩ => by
    have hs : Same (m :: acc) (m :: acc') := fun x => by
      show spn acc x ∨ spn acc (x ^^^ m) ↔ spn acc' x ∨ spn acc' (x ^^^ m)
      exact ⟨fun z => z.imp (e x).mp (e _).mp, fun z => z.imp (e x).mpr (e _).mpr⟩
    exact ⟨fun z => h1 ((e m).mpr z), ind_same hs h2⟩
theorem puts_len : ∀ {ms rs : List Nat}, Red rs → Ind rs ms → (puts rs ms).length = rs.length + ms.length
  | [], rs, _, _ => by simp [puts]
  | m :: ms, rs, h, ⟨h1, h2⟩ => by
    obtain ⟨r1, r2⟩ := put_spec (m := m) h
    have := puts_len (ms := ms) r1 (ind_same r2.symm h2)
    rw [puts, this, put_len h h1, List.length_cons]
    omega
end M
end
section
set_option linter.all false
set_option autoImplicit false
/-! meeting evenly; the opposite -/
namespace M

/-- an odd number of common bits below k -/
def xs (f : Nat → Bool) : Nat → Bool
  | 0 => false
  | k + 1 => xor (xs f k) (f k)
def dot (k x y : Nat) : Bool := xs (fun i => x.testBit i && y.testBit i) k
theorem xs_congr {f g : Nat → Bool} : ∀ {k : Nat}, (∀ i, i < k → f i = g i) → xs f k = xs g k
  | 0, _ => rfl
  | k + 1, h => by
    rw [xs, xs, xs_congr fun i hi => h i (Nat.lt_succ_of_lt hi), h k (Nat.lt_succ_self k)]
theorem xs_xor (f g : Nat → Bool) : ∀ k, xs (fun i => xor (f i) (g i)) k = xor (xs f k) (xs g k)
  | 0 => rfl
  | k + 1 => by
    rw [xs, xs, xs, xs_xor f g k]
    cases xs f k <;> cases xs g k <;> cases f k <;> cases g k <;> rfl
theorem xs_none {f : Nat → Bool} : ∀ {k : Nat}, (∀ i, i < k → f i = false) → xs f k = false
  | 0, _ => rfl
  | k + 1, h => by rw [xs, xs_none fun i hi => h i (Nat.lt_succ_of_lt hi), h k (Nat.lt_succ_self k)]; rfl
theorem xs_one {f : Nat → Bool} {j : Nat} : ∀ {k : Nat}, j < k → (∀ i, i < k → i ≠ j → f i = false) → xs f k = f j
  | 0, h, _ => absurd h (Nat.not_lt_zero _)
  | k + 1, h, hf => by
    by_cases c : j = k
    · subst c
      rw [xs, xs_none fun i hi => hf i (Nat.lt_succ_of_lt hi) (Nat.ne_of_lt hi)]
      simp
    · rw [xs, xs_one (by omega) fun i hi => hf i (Nat.lt_succ_of_lt hi), hf k (Nat.lt_succ_self k) fun z => c z.symm]
      simp
theorem dot_comm (k x y : Nat) : dot k x y = dot k y x := xs_congr fun i _ => Bool.and_comm _ _
theorem dot_xor (k x y z : Nat) : dot k x (y ^^^ z) = xor (dot k x y) (dot k x z) := by
  unfold dot
  rw [← xs_xor]
  refine xs_congr fun i _ => ?_
  rw [Nat.testBit_xor]
  cases x.testBit i <;> cases y.testBit i <;> cases z.testBit i <;> rfl
theorem dot_zero (k x : Nat) : dot k x 0 = false := xs_none fun i _ => by rw [Nat.zero_testBit, Bool.and_false]
theorem dot_pow {k x i : Nat} (h : i < k) : dot k x (2 ^ i) = x.testBit i := by
  unfold dot
  rw [xs_one h fun j _ hj => ?_]
  · rw [Nat.testBit_two_pow_self, Bool.and_true]
  · rw [Nat.testBit_two_pow_of_ne (Ne.symm hj), Bool.and_false]
theorem dot_spn {k x : Nat} : ∀ {rs : List Nat} {y : Nat}, (∀ r, r ∈ rs → dot k x r = false) → spn rs y → dot k x y = false
  | [], y, _, h => by
    cases h
    exact dot_zero k x
  | r :: rs, y, hr, h => by
    have h1 : ∀ q, q ∈ rs → dot k x q = false := fun q hq => hr q (List.mem_cons_of_mem _ hq)
    rcases h with h | h
    · exact dot_spn h1 h
    · have := dot_spn h1 h
      rw [dot_xor, hr r List.mem_cons_self] at this
      simpa using this

/-! ### the opposite -/
def isHead (rs : List Nat) (i : Nat) : Bool := rs.any fun r => decide (low r = i)
/-- a line that is no head, with the heads of the rows that have it -/
def vec : List Nat → Nat → Nat
  | [], l => 2 ^ l
  | r :: rs, l => if r.testBit l then 2 ^ low r ^^^ vec rs l else vec rs l
def free (k : Nat) (rs : List Nat) : List Nat := (List.range k).filter fun l => !isHead rs l
def ker (k : Nat) (rs : List Nat) : List Nat := (free k rs).map (vec rs)
theorem head_iff {rs : List Nat} {i : Nat} : isHead rs i = true ↔ ∃ r, r ∈ rs ∧ low r = i := by
  unfold isHead
  rw [List.any_eq_true]
  exact ⟨fun ⟨r, h, e⟩ => ⟨r, h, of_decide_eq_true e⟩, fun ⟨r, h, e⟩ => ⟨r, h, decide_eq_true e⟩⟩
/-- off the heads it has its line alone -/
theorem vec_bit : ∀ {rs : List Nat} {l i : Nat}, (∀ r, r ∈ rs → low r ≠ i) → (vec rs l).testBit i = decide (l = i)
  | [], l, i, _ => by
    unfold vec
    by_cases c : l = i
    · subst c
      rw [Nat.testBit_two_pow_self]
      simp
    · rw [Nat.testBit_two_pow_of_ne c]
      simp [c]
  | r :: rs, l, i, h => by
    have ih := vec_bit (rs := rs) (l := l) fun q hq => h q (List.mem_cons_of_mem _ hq)
    unfold vec
    split
    · rw [Nat.testBit_xor, ih, Nat.testBit_two_pow_of_ne (h r List.mem_cons_self)]
      simp
    · exact ih
theorem vec_lt {k : Nat} : ∀ {rs : List Nat} {l : Nat}, l < k → (∀ r, r ∈ rs → low r < k) → vec rs l < 2 ^ k
  | [], l, h, _ => Nat.pow_lt_pow_right (by decide) h
  | r :: rs, l, h, hr => by
    have ih := vec_lt (rs := rs) h fun q hq => hr q (List.mem_cons_of_mem _ hq)
    unfold vec
    split
    · exact Nat.xor_lt_two_pow (Nat.pow_lt_pow_right (by decide) (hr r List.mem_cons_self)) ih
    · exact ih
theorem low_lt_of {n k : Nat} (h0 : n ≠ 0) (h : n < 2 ^ k) : low n < k := Nat.lt_of_not_le fun c => by
  have := low_bit h0
  rw [Nat.testBit_lt_two_pow (Nat.lt_of_lt_of_le h (Nat.pow_le_pow_right (by decide) c))] at this
  cases this
/-- met by a row that has no other row's head -/
theorem dot_vec {k q l : Nat} : ∀ {rs : List Nat}, l < k → (∀ r, r ∈ rs → low r < k) → (∀ r, r ∈ rs → q.testBit (low r) = false) → dot k q (vec rs l) = q.testBit l
  | [], h, _, _ => dot_pow h
  | r :: rs, h, hr, hq => by
    have ih := dot_vec (rs := rs) h (fun s hs => hr s (List.mem_cons_of_mem _ hs)) fun s hs => hq s (List.mem_cons_of_mem _ hs)
    unfold vec
    split
    · rw [dot_xor, ih, dot_pow (hr r List.mem_cons_self), hq r List.mem_cons_self]
      simp
    · exact ih
theorem dot_row {k l : Nat} : ∀ {rs : List Nat} {q : Nat}, Red rs → q ∈ rs → l < k → (∀ r, r ∈ rs → low r < k) → dot k q (vec rs l) = false
  | r :: rs, q, hR, hq, h, hr => by
    have hp := (List.pairwise_cons.mp hR.2).1
    have h1 : ∀ s, s ∈ rs → low s < k := fun s hs => hr s (List.mem_cons_of_mem _ hs)
    unfold vec
    rcases List.mem_cons.mp hq with rfl | hq
    · have e := dot_vec (q := q) (l := l) h h1 fun s hs => (hp s hs).1
      split
      · rename_i c
        rw [dot_xor, e, dot_pow (hr q List.mem_cons_self), low_bit (hR.1 q List.mem_cons_self), c]
        rfl
      · rename_i c
        rw [e]
        simpa using c
    · have ih := dot_row hR.tail hq h h1
      split
      · rw [dot_xor, ih, dot_pow (hr r List.mem_cons_self), (hp q hq).2]
        rfl
      · exact ih
/-- a sum of the vectors with just these lines off the heads -/
def mix (rs : List Nat) (x : Nat) : List Nat → Nat
  | [] => 0
  | l :: ls => if x.testBit l then vec rs l ^^^ mix rs x ls else mix rs x ls
theorem mix_spn {rs : List Nat} {x : Nat} : ∀ {ls : List Nat}, spn (ls.map (vec rs)) (mix rs x ls)
  | [] => rfl
  | l :: ls => by
    have ih := mix_spn (rs := rs) (x := x) (ls := ls)
    unfold mix
    split
    · refine .inr ?_
      rw [Nat.xor_comm, xor_ab]
      exact ih
    · exact .inl ih
theorem mix_bit {rs : List Nat} {x i : Nat} (hi : ∀ r, r ∈ rs → low r ≠ i) : ∀ {ls : List Nat}, ls.Nodup → (mix rs x ls).testBit i = (decide (i ∈ ls) && x.testBit i)
  | [], _ => by simp [mix]
  | l :: ls, nd => by
    rw [List.nodup_cons] at nd
    have ih := mix_bit (x := x) hi nd.2
    unfold mix
    by_cases e : l = i
    · subst e
      have hm : decide (l ∈ ls) = false := by simp [nd.1]
      rw [hm, Bool.false_and] at ih
      split
      · rename_i c
        rw [Nat.testBit_xor, ih, vec_bit hi, c]
        simp
      · rename_i c
        rw [ih]
        simp [c]
    · have hm : decide (i ∈ l :: ls) = decide (i ∈ ls) := by
        have : ¬ i = l := fun z => e z.symm
        simp [this]
      rw [hm]
      split
      · rw [Nat.testBit_xor, ih, vec_bit hi]
        simp [e]
      · exact ih
theorem ker_spec {k : Nat} {rs : List Nat} (hR : Red rs) (hk : ∀ r, r ∈ rs → r < 2 ^ k) (x : Nat) : spn (ker k rs) x ↔ x < 2 ^ k ∧ ∀ r, r ∈ rs → dot k r x = false := by
  have hl : ∀ r, r ∈ rs → low r < k := fun r hr => low_lt_of (hR.1 r hr) (hk r hr)
  have hf : ∀ l, l ∈ free k rs → l < k ∧ ∀ r, r ∈ rs → low r ≠ l := fun l h => by
    obtain ⟨h1, h2⟩ := List.mem_filter.mp h
    refine ⟨List.mem_range.mp h1, fun r hr z => ?_⟩
    rw [head_iff.mpr ⟨r, hr, z⟩] at h2
    cases h2
  have lt_of : ∀ {vs : List Nat} {y : Nat}, (∀ v, v ∈ vs → v < 2 ^ k) → spn vs y → y < 2 ^ k := by
    intro vs
    induction vs with
    | nil =>
      intro y _ h
      rw [show y = 0 from h]
      exact Nat.two_pow_pos k
    | cons v vs ih =>
      intro y hv h
      have h1 : ∀ u, u ∈ vs → u < 2 ^ k := fun u hu => hv u (List.mem_cons_of_mem _ hu)
      rcases h with h | h
      · exact ih h1 h
      · have := Nat.xor_lt_two_pow (ih h1 h) (hv v List.mem_cons_self)
        rw [xor_r] at this
        exact this
  constructor
  · intro h
    refine ⟨lt_of (fun v hv => ?_) h, fun r hr => dot_spn (fun v hv => ?_) h⟩
    · obtain ⟨l, hl2, rfl⟩ := List.mem_map.mp hv
      exact vec_lt (hf l hl2).1 hl
    · obtain ⟨l, hl2, rfl⟩ := List.mem_map.mp hv
      exact dot_row hR hr (hf l hl2).1 hl
  · rintro ⟨hx, hd⟩
    have nd : (free k rs).Nodup := List.Nodup.sublist List.filter_sublist List.nodup_range
    have hs : spn (ker k rs) (mix rs x (free k rs)) := mix_spn
    have ht := lt_of (fun v hv => by
      obtain ⟨l, hl2, rfl⟩ := List.mem_map.mp hv
      exact vec_lt (hf l hl2).1 hl) hs
    have key : x ^^^ mix rs x (free k rs) = 0 := by
      have hz : ∀ i, (∀ r, r ∈ rs → low r ≠ i) → (x ^^^ mix rs x (free k rs)).testBit i = false := fun i hi => by
        rw [Nat.testBit_xor, mix_bit hi nd]
        by_cases c : i < k
        · have hm : i ∈ free k rs := List.mem_filter.mpr ⟨List.mem_range.mpr c, by
            cases q : isHead rs i with
            | false => rfl
            | true =>
              obtain ⟨r, hr, e⟩ := head_iff.mp q
              exact absurd e (hi r hr)⟩
          simp [hm]
        · rw [Nat.testBit_lt_two_pow (Nat.lt_of_lt_of_le hx (Nat.pow_le_pow_right (by decide) (Nat.le_of_not_lt c)))]
          simp
      refine Nat.eq_of_testBit_eq fun i => ?_
      rw [Nat.zero_testBit]
      by_cases c : ∀ r, r ∈ rs → low r ≠ i
      · exact hz i c
      · obtain ⟨r, hr, e⟩ : ∃ r, r ∈ rs ∧ low r = i := by
          cases q : isHead rs i with
          | true => exact head_iff.mp q
          | false =>
            refine absurd (fun r hr z => ?_) c
            rw [head_iff.mpr ⟨r, hr, z⟩] at q
            cases q
        subst e
        have d0 : dot k r (x ^^^ mix rs x (free k rs)) = false := by
          rw [dot_xor, hd r hr, dot_spn (fun v hv => ?_) hs]
          · rfl
          · obtain ⟨l, hl2, rfl⟩ := List.mem_map.mp hv
            exact dot_row hR hr (hf l hl2).1 hl
        unfold dot at d0
        rw [xs_one (hl r hr) fun j _ hj => ?_] at d0
        · rw [low_bit (hR.1 r hr), Bool.true_and] at d0
          exact d0
        · by_cases q : ∀ s, s ∈ rs → low s ≠ j
          · rw [hz j q, Bool.and_false]
          · obtain ⟨s, hs2, e2⟩ : ∃ s, s ∈ rs ∧ low s = j := by
              cases q2 : isHead rs j with
              | true => exact head_iff.mp q2
              | false =>
                refine absurd (fun s hs2 z => ?_) q
                rw [head_iff.mpr ⟨s, hs2, z⟩] at q2
                cases q2
            rw [← e2, red_bit hR hr hs2]
            have : ¬ low r = low s := fun z => hj (by rw [← e2, z])
            simp [this]
    have e : x = mix rs x (free k rs) := by
      have q := congrArg (· ^^^ mix rs x (free k rs)) key
      simp only [xor_r, Nat.zero_xor] at q
      exact q
    rw [e]
    exact hs
end M
end
section
set_option linter.all false
set_option autoImplicit false
/-! the opposite's size; the opposite of the opposite -/
namespace M

theorem ind_bits {rs : List Nat} : ∀ {ls acc : List Nat}, ls.Nodup → (∀ l, l ∈ ls → ∀ r, r ∈ rs → low r ≠ l) → (∀ l, l ∈ ls → ∀ a, a ∈ acc → a.testBit l = false) → Ind acc (ls.map (vec rs))
  | [], _, _, _, _ => trivial
  | l :: ls, acc, nd, hf, ha => by
    rw [List.nodup_cons] at nd
    refine ⟨fun h => ?_, ind_bits nd.2 (fun m hm => hf m (List.mem_cons_of_mem _ hm)) fun m hm a hma => ?_⟩
    · have := spn_bit (ha l List.mem_cons_self) h
      rw [vec_bit (hf l List.mem_cons_self)] at this
      simp at this
    · rcases List.mem_cons.mp hma with rfl | hma
      · rw [vec_bit (hf m (List.mem_cons_of_mem _ hm))]
        have : ¬ l = m := fun z => nd.1 (by rw [z]; exact hm)
        simp [this]
      · exact ha m (List.mem_cons_of_mem _ hm) a hma
theorem free_nodup {k : Nat} {rs : List Nat} : (free k rs).Nodup := List.Nodup.sublist List.filter_sublist List.nodup_range
theorem free_no {k l : Nat} {rs : List Nat} (h : l ∈ free k rs) : ∀ r, r ∈ rs → low r ≠ l := fun r hr z => by
  obtain ⟨_, h2⟩ := List.mem_filter.mp h
  rw [head_iff.mpr ⟨r, hr, z⟩] at h2
  cases h2
theorem filter_two {α : Type} (p : α → Bool) : ∀ l : List α, (l.filter p).length + (l.filter fun a => !p a).length = l.length
  | [] => rfl
  | a :: l => by
    have ih := filter_two p l
    rw [List.filter_cons, List.filter_cons]
    cases q : p a with
    | true =>
      rw [if_pos rfl, if_neg (by simp), List.length_cons, List.length_cons]
      omega
    | false =>
      rw [if_neg (by simp), if_pos (by simp), List.length_cons, List.length_cons]
      omega
theorem free_len {k : Nat} {rs : List Nat} (hR : Red rs) (hk : ∀ r, r ∈ rs → r < 2 ^ k) : (free k rs).length + rs.length = k := by
  have hl : ∀ r, r ∈ rs → low r < k := fun r hr => low_lt_of (hR.1 r hr) (hk r hr)
  have nd : (rs.map low).Nodup := List.pairwise_map.mpr (red_lows hR)
  have p : (rs.map low).Perm ((List.range k).filter (isHead rs)) := (List.perm_ext_iff_of_nodup nd (List.Nodup.sublist List.filter_sublist List.nodup_range)).mpr fun a => by
    constructor
    · intro h
      obtain ⟨r, hr, rfl⟩ := List.mem_map.mp h
      exact List.mem_filter.mpr ⟨List.mem_range.mpr (hl r hr), head_iff.mpr ⟨r, hr, rfl⟩⟩
    · intro h
      obtain ⟨r, hr, e⟩ := head_iff.mp (List.mem_filter.mp h).2
      exact List.mem_map.mpr ⟨r, hr, e⟩
  have e := p.length_eq
  rw [List.length_map] at e
  have := filter_two (isHead rs) (List.range k)
  rw [List.length_range] at this
  unfold free
  omega
/-- how many rows the form of the opposite has -/
theorem ker_len {k : Nat} {rs fs : List Nat} (hR : Red rs) (hk : ∀ r, r ∈ rs → r < 2 ^ k) (p : fs.Perm (puts [] (ker k rs))) : fs.length + rs.length = k := by
  have hi : Ind [] (ker k rs) := ind_bits free_nodup (fun l h => free_no h) fun l _ a ha => by cases ha
  have := puts_len red_nil hi
  rw [← p.length_eq, List.length_nil, ker, List.length_map] at this
  have := free_len hR hk
  omega
theorem spn_lt {k : Nat} : ∀ {vs : List Nat} {y : Nat}, (∀ v, v ∈ vs → v < 2 ^ k) → spn vs y → y < 2 ^ k
  | [], y, _, h => by
    rw [show y = 0 from h]
    exact Nat.two_pow_pos k
  | v :: vs, y, hv, h => by
    have h1 : ∀ u, u ∈ vs → u < 2 ^ k := fun u hu => hv u (List.mem_cons_of_mem _ hu)
    rcases h with h | h
    · exact spn_lt h1 h
    · have := Nat.xor_lt_two_pow (spn_lt h1 h) (hv v List.mem_cons_self)
      rw [xor_r] at this
      exact this
/-- the opposite of the opposite -/
theorem ker_ker {k : Nat} {rs us : List Nat} (hR : Red rs) (hk : ∀ r, r ∈ rs → r < 2 ^ k) (hU : Red us) (e : Same us (ker k rs)) : Same (ker k us) rs := by
  have hu : ∀ u, u ∈ us → u < 2 ^ k := fun u hu => ((ker_spec hR hk u).mp ((e u).mp (spn_mem hu))).1
  have hl : ∀ r, r ∈ rs → low r < k := fun r hr => low_lt_of (hR.1 r hr) (hk r hr)
  intro x
  rw [ker_spec hU hu x]
  constructor
  · rintro ⟨hx, hd⟩
    obtain ⟨c1, c2, _⟩ := clr_spec (m := x) hR
    refine (clr_zero hR).mp (Nat.eq_of_testBit_eq fun i => ?_)
    rw [Nat.zero_testBit]
    by_cases hi : i < k
    · by_cases q : isHead rs i = true
      · obtain ⟨r, hr, rfl⟩ := head_iff.mp q
        exact c1 r hr
      · have hm : i ∈ free k rs := List.mem_filter.mpr ⟨List.mem_range.mpr hi, by simpa using q⟩
        have hv : spn (ker k rs) (vec rs i) := spn_mem (List.mem_map_of_mem hm)
        have d1 : dot k (vec rs i) x = false := by
          rw [dot_comm]
          exact dot_spn (fun u hu => by rw [dot_comm]; exact hd u hu) ((e _).mpr hv)
        have d2 : dot k (vec rs i) (x ^^^ clr rs x) = false := dot_spn (fun r hr => by
          rw [dot_comm]
          exact ((ker_spec hR hk _).mp hv).2 r hr) c2
        rw [dot_xor, d1, Bool.false_xor, dot_comm, dot_vec hi hl c1] at d2
        exact d2
    · have h1 := Nat.xor_lt_two_pow hx (spn_lt hk c2)
      rw [xor_ab] at h1
      exact Nat.testBit_lt_two_pow (Nat.lt_of_lt_of_le h1 (Nat.pow_le_pow_right (by decide) (Nat.le_of_not_lt hi)))
  · intro h
    refine ⟨spn_lt hk h, fun u hu => ?_⟩
    exact dot_spn (fun r hr => by
      rw [dot_comm]
      exact ((ker_spec hR hk _).mp ((e u).mp (spn_mem hu))).2 r hr) h

/-! ### forms are independent; sizes -/
theorem red_ind : ∀ {rs acc : List Nat}, Red rs → (∀ r, r ∈ rs → ∀ a, a ∈ acc → a.testBit (low r) = false) → Ind acc rs
  | [], _, _, _ => trivial
  | r :: rs, acc, hR, ha => by
    have hp := (List.pairwise_cons.mp hR.2).1
    refine ⟨fun h => ?_, red_ind hR.tail fun q hq a hma => ?_⟩
    · have := spn_bit (ha r List.mem_cons_self) h
      rw [low_bit (hR.1 r List.mem_cons_self)] at this
      cases this
    · rcases List.mem_cons.mp hma with rfl | hma
      · exact (hp q hq).1
      · exact ha q (List.mem_cons_of_mem _ hq) a hma
def ins (r : Nat) : List Nat → List Nat
  | [] => [r]
  | y :: ys => if low r ≤ low y then r :: y :: ys else y :: ins r ys
def srt : List Nat → List Nat
  | [] => []
  | r :: rs => ins r (srt rs)
theorem ins_perm (r : Nat) : ∀ l, (ins r l).Perm (r :: l)
  | [] => .refl _
  | y :: ys => by
    unfold ins
    split
    · exact .refl _
    · exact ((ins_perm r ys).cons y).trans (.swap _ _ _)
theorem srt_perm : ∀ l, (srt l).Perm l
  | [] => .refl _
  | r :: rs => (ins_perm r _).trans ((srt_perm rs).cons r)
theorem ins_sorted (r : Nat) : ∀ l : List Nat, l.Pairwise (fun a b => low a ≤ low b) → (ins r l).Pairwise fun a b => low a ≤ low b
  | [], _ => List.pairwise_singleton _ _
  | y :: ys, h => by
    have hp := List.pairwise_cons.mp h
    unfold ins
    split
    · rename_i c
      refine List.pairwise_cons.mpr ⟨fun z hz => ?_, h⟩
      rcases List.mem_cons.mp hz with rfl | hz
      · exact c
      · exact Nat.le_trans c (hp.1 z hz)
    · rename_i c
      refine List.pairwise_cons.mpr ⟨fun z hz => ?_, ins_sorted r ys hp.2⟩
      rcases List.mem_cons.mp ((ins_perm r ys).mem_iff.mp hz) with rfl | hz
      · omega
      · exact hp.1 z hz
theorem srt_sorted : ∀ l : List Nat, (srt l).Pairwise fun a b => low a ≤ low b
  | [] => .nil
  | r :: rs => ins_sorted r _ (srt_sorted rs)
/-- the form -/
def frm (ms : List Nat) : List Nat := srt (puts [] ms)
theorem frm_spec (ms : List Nat) : Form (frm ms) ∧ Same (frm ms) ms := form_of_sorted (srt_perm _) (srt_sorted _)
theorem frm_uniq {fs ms : List Nat} (h : Form fs) (e : Same fs ms) : fs = frm ms := form_uniq h (frm_spec ms).1 (e.trans (frm_spec ms).2.symm)
theorem frm_same {ms ns : List Nat} (e : Same ms ns) : frm ms = frm ns := frm_uniq (frm_spec ms).1 ((frm_spec ms).2.trans e)
theorem frm_self {fs : List Nat} (h : Form fs) : frm fs = fs := (frm_uniq h Same.refl).symm
/-- forms with the same sums have as many rows as any independent list has -/
theorem form_len {fs ms : List Nat} (hF : Form fs) (e : Same fs ms) (hi : Ind [] ms) : fs.length = ms.length := by
  rw [frm_uniq hF e, frm, (srt_perm _).length_eq, puts_len red_nil hi]
  simp
theorem form_ind {fs : List Nat} (h : Form fs) : Ind [] fs := red_ind h.1 fun r _ a ha => by cases ha
end M
end
section
set_option linter.all false
set_option autoImplicit false
/-! common sums, by doubled rows -/
namespace M

theorem spn_app : ∀ {rs ts : List Nat} {x : Nat}, spn (rs ++ ts) x ↔ ∃ a b, spn rs a ∧ spn ts b ∧ x = a ^^^ b
  | [], ts, x => ⟨fun h => ⟨0, x, rfl, h, (Nat.zero_xor x).symm⟩, fun ⟨a, b, h1, h2, e⟩ => by
    rw [show a = 0 from h1, Nat.zero_xor] at e
    rw [e]
    exact h2⟩
  | r :: rs, ts, x => by
    show spn (rs ++ ts) x ∨ spn (rs ++ ts) (x ^^^ r) ↔ _
    rw [spn_app, spn_app]
    constructor
    · rintro (⟨a, b, h1, h2, e⟩ | ⟨a, b, h1, h2, e⟩)
      · exact ⟨a, b, .inl h1, h2, e⟩
      · refine ⟨a ^^^ r, b, .inr ?_, h2, ?_⟩
        · rw [xor_r]
          exact h1
        · have := congrArg (· ^^^ r) e
          simp only [xor_r] at this
          rw [this, Nat.xor_assoc, Nat.xor_comm b r, ← Nat.xor_assoc]
    · rintro ⟨a, b, h1, h2, e⟩
      rcases h1 with h1 | h1
      · exact .inl ⟨a, b, h1, h2, e⟩
      · refine .inr ⟨a ^^^ r, b, h1, h2, ?_⟩
        rw [e, Nat.xor_assoc, Nat.xor_comm b r, ← Nat.xor_assoc]
/-- a map that keeps sums -/
def Lin (f : Nat → Nat) : Prop := ∀ x y, f (x ^^^ y) = f x ^^^ f y
theorem lin_zero {f : Nat → Nat} (h : Lin f) : f 0 = 0 := by
  have := h 0 0
  rw [Nat.xor_self, Nat.xor_self] at this
  exact this
theorem spn_map {f : Nat → Nat} (h : Lin f) : ∀ {rs : List Nat} {x : Nat}, spn (rs.map f) x ↔ ∃ y, spn rs y ∧ f y = x
  | [], x => ⟨fun e => ⟨0, rfl, by rw [lin_zero h]; exact (show x = 0 from e).symm⟩, fun ⟨y, e, q⟩ => by
    rw [show y = 0 from e, lin_zero h] at q
    exact q.symm⟩
  | r :: rs, x => by
    show spn (rs.map f) x ∨ spn (rs.map f) (x ^^^ f r) ↔ _
    rw [spn_map h, spn_map h]
    constructor
    · rintro (⟨y, h1, e⟩ | ⟨y, h1, e⟩)
      · exact ⟨y, .inl h1, e⟩
      · refine ⟨y ^^^ r, .inr (by rw [xor_r]; exact h1), ?_⟩
        rw [h, e, xor_r]
    · rintro ⟨y, h1 | h1, e⟩
      · exact .inl ⟨y, h1, e⟩
      · exact .inr ⟨y ^^^ r, h1, by rw [h, e]⟩
variable {s : Nat}
def dbl (s r : Nat) : Nat := r ^^^ (r <<< s)
theorem shl_xor (x y s : Nat) : (x ^^^ y) <<< s = x <<< s ^^^ y <<< s := Nat.eq_of_testBit_eq fun i => by
  rw [Nat.testBit_xor, Nat.testBit_shiftLeft, Nat.testBit_shiftLeft, Nat.testBit_shiftLeft, Nat.testBit_xor]
  cases decide (i ≥ s) <;> simp
theorem shr_xor (x y s : Nat) : (x ^^^ y) >>> s = x >>> s ^^^ y >>> s := Nat.eq_of_testBit_eq fun i => by
  rw [Nat.testBit_xor, Nat.testBit_shiftRight, Nat.testBit_shiftRight, Nat.testBit_shiftRight, Nat.testBit_xor]
theorem mod_xor (x y s : Nat) : (x ^^^ y) % 2 ^ s = x % 2 ^ s ^^^ y % 2 ^ s := Nat.eq_of_testBit_eq fun i => by
  rw [Nat.testBit_xor, Nat.testBit_mod_two_pow, Nat.testBit_mod_two_pow, Nat.testBit_mod_two_pow, Nat.testBit_xor]
  cases decide (i < s) <;> simp
theorem dbl_lin : Lin (dbl s) := fun x y => by
  unfold dbl
  rw [shl_xor, Nat.xor_assoc, Nat.xor_assoc, ← Nat.xor_assoc y, Nat.xor_comm y, Nat.xor_assoc]
theorem dbl_low {r : Nat} (h : r < 2 ^ s) : dbl s r % 2 ^ s = r := Nat.eq_of_testBit_eq fun i => by
  unfold dbl
  rw [Nat.testBit_mod_two_pow, Nat.testBit_xor, Nat.testBit_shiftLeft]
  by_cases c : i < s
  · have : ¬ i ≥ s := by omega
    simp [c, this]
  · rw [Nat.testBit_lt_two_pow (Nat.lt_of_lt_of_le h (Nat.pow_le_pow_right (by decide) (Nat.le_of_not_lt c)))]
    simp [c]
theorem dbl_high {r : Nat} (h : r < 2 ^ s) : dbl s r >>> s = r := Nat.eq_of_testBit_eq fun i => by
  unfold dbl
  rw [Nat.testBit_shiftRight, Nat.testBit_xor, Nat.testBit_shiftLeft, Nat.testBit_lt_two_pow (Nat.lt_of_lt_of_le h (Nat.pow_le_pow_right (by decide) (Nat.le_add_right s i)))]
  have e : s + i - s = i := by omega
  rw [e]
  simp
theorem high_zero {r : Nat} (h : r < 2 ^ s) : r >>> s = 0 := Nat.eq_of_testBit_eq fun i => by
  rw [Nat.testBit_shiftRight, Nat.zero_testBit]
  exact Nat.testBit_lt_two_pow (Nat.lt_of_lt_of_le h (Nat.pow_le_pow_right (by decide) (Nat.le_add_right s i)))
/-- the sums of doubled rows and others -/
theorem dsum {rows more : List Nat} {y : Nat} : spn (rows.map (dbl s) ++ more) y ↔ ∃ a b, spn rows a ∧ spn more b ∧ y = dbl s a ^^^ b := by
  rw [spn_app]
  constructor
  · rintro ⟨a, b, h1, h2, e⟩
    obtain ⟨z, q1, q2⟩ := (spn_map dbl_lin).mp h1
    exact ⟨z, b, q1, h2, by rw [e, q2]⟩
  · rintro ⟨a, b, h1, h2, e⟩
    exact ⟨dbl s a, b, (spn_map dbl_lin).mpr ⟨a, h1, rfl⟩, h2, e⟩
def isTop (s r : Nat) : Bool := decide (s ≤ low r)
theorem top_iff {r : Nat} (h : r ≠ 0) : r % 2 ^ s = 0 ↔ s ≤ low r := by
  constructor
  · intro e
    refine Nat.le_of_not_lt fun c => ?_
    have := low_bit h
    have q : (r % 2 ^ s).testBit (low r) = false := by rw [e, Nat.zero_testBit]
    rw [Nat.testBit_mod_two_pow, this] at q
    simp [c] at q
  · intro c
    refine Nat.eq_of_testBit_eq fun i => ?_
    rw [Nat.testBit_mod_two_pow, Nat.zero_testBit]
    by_cases q : i < s
    · rw [low_lt (Nat.lt_of_lt_of_le q c), Bool.and_false]
    · simp [q]
theorem top_spn : ∀ {rs : List Nat} {y : Nat}, Red rs → spn rs y → (∀ r, r ∈ rs → low r < s → y.testBit (low r) = false) → spn (rs.filter (isTop s)) y
  | [], y, _, h, _ => h
  | r :: rs, y, hR, h, hy => by
    have hp := (List.pairwise_cons.mp hR.2).1
    have mono : ∀ z, spn (rs.filter (isTop s)) z → spn ((r :: rs).filter (isTop s)) z := fun z hz => by
      rw [List.filter_cons]
      split
      · exact .inl hz
      · exact hz
    rcases h with h | h
    · exact mono y (top_spn hR.tail h fun q hq => hy q (List.mem_cons_of_mem _ hq))
    · have hb := spn_bit (i := low r) (fun q hq => (hp q hq).2) h
      rw [Nat.testBit_xor, low_bit (hR.1 r List.mem_cons_self)] at hb
      have ht : isTop s r = true := by
        unfold isTop
        refine decide_eq_true (Nat.le_of_not_lt fun c => ?_)
        rw [hy r List.mem_cons_self c] at hb
        cases hb
      rw [List.filter_cons, if_pos ht]
      refine .inr (top_spn hR.tail h fun q hq hs => ?_)
      rw [Nat.testBit_xor, hy q (List.mem_cons_of_mem _ hq) hs, (hp q hq).1]
      rfl
theorem low_shr {r : Nat} (h : r ≠ 0) (c : s ≤ low r) : low (r >>> s) = low r - s := by
  refine low_eq ?_ fun j hj => ?_
  · rw [Nat.testBit_shiftRight]
    have e : s + (low r - s) = low r := by omega
    rw [e]
    exact low_bit h
  · rw [Nat.testBit_shiftRight]
    exact low_lt (by omega)
theorem shr_bit {a b : Nat} (c : s ≤ low b) (h : b ≠ 0) : (a >>> s).testBit (low (b >>> s)) = a.testBit (low b) := by
  rw [low_shr h c, Nat.testBit_shiftRight]
  have e : s + (low b - s) = low b := by omega
  rw [e]
theorem low_mod {r : Nat} (h : r ≠ 0) (c : low r < s) : low (r % 2 ^ s) = low r := by
  refine low_eq ?_ fun j hj => ?_
  · rw [Nat.testBit_mod_two_pow, low_bit h]
    simp [c]
  · rw [Nat.testBit_mod_two_pow, low_lt hj, Bool.and_false]
/-- the rows without a low part, carried down -/
def car (s : Nat) (fs : List Nat) : List Nat := (fs.filter (isTop s)).map (· >>> s)
theorem car_form {fs : List Nat} (h : Form fs) : Form (car s fs) := by
  have sub : (fs.filter (isTop s)).Sublist fs := List.filter_sublist
  have hm : ∀ r, r ∈ fs.filter (isTop s) → r ≠ 0 ∧ s ≤ low r := fun r hr => by
    obtain ⟨h1, h2⟩ := List.mem_filter.mp hr
    exact ⟨h.1.1 r h1, of_decide_eq_true h2⟩
  have p1 := h.1.2.sublist sub
  have p2 := h.2.sublist sub
  refine ⟨⟨fun r hr => ?_, ?_⟩, ?_⟩
  · obtain ⟨q, hq, rfl⟩ := List.mem_map.mp hr
    obtain ⟨q1, q2⟩ := hm q hq
    refine ne_of_bit (i := low q - s) ?_
    rw [Nat.testBit_shiftRight, show s + (low q - s) = low q by omega]
    exact low_bit q1
  · refine List.pairwise_map.mpr (p1.imp_of_mem fun {a b} ha hb q => ?_)
    obtain ⟨a1, a2⟩ := hm a ha
    obtain ⟨b1, b2⟩ := hm b hb
    rw [shr_bit b2 b1, shr_bit a2 a1]
    exact q
  · refine List.pairwise_map.mpr (p2.imp_of_mem fun {a b} ha hb q => ?_)
    obtain ⟨a1, a2⟩ := hm a ha
    obtain ⟨b1, b2⟩ := hm b hb
    rw [low_shr a1 a2, low_shr b1 b2]
    omega
theorem shr_lin : Lin (· >>> s) := fun x y => shr_xor x y s
theorem mod_lin : Lin (· % 2 ^ s) := fun x y => mod_xor x y s
/-- what is common -/
theorem car_spn {fs rows more : List Nat} (hF : Form fs) (e : Same fs (rows.map (dbl s) ++ more)) (h1 : ∀ r, r ∈ rows → r < 2 ^ s) (h2 : ∀ r, r ∈ more → r < 2 ^ s) (x : Nat) : spn (car s fs) x ↔ spn rows x ∧ spn more x := by
  unfold car
  rw [spn_map shr_lin]
  constructor
  · rintro ⟨y, hy, rfl⟩
    have hm : ∀ r, r ∈ fs.filter (isTop s) → r % 2 ^ s = 0 := fun r hr => by
      obtain ⟨q1, q2⟩ := List.mem_filter.mp hr
      exact (top_iff (hF.1.1 r q1)).mpr (of_decide_eq_true q2)
    have hz : y % 2 ^ s = 0 := by
      obtain h := (spn_map (f := (· % 2 ^ s)) mod_lin).mpr ⟨y, hy, rfl⟩
      have : ∀ r, r ∈ (fs.filter (isTop s)).map (· % 2 ^ s) → spn [] r := fun r hr => by
        obtain ⟨q, hq, rfl⟩ := List.mem_map.mp hr
        exact hm q hq
      exact spn_sub this h
    have hf : spn fs y := spn_sub (fun r hr => spn_mem (List.mem_filter.mp hr).1) hy
    obtain ⟨a, b, ha, hb, q⟩ := dsum.mp ((e y).mp hf)
    have la := spn_lt h1 ha
    have lb := spn_lt h2 hb
    have e1 : a ^^^ b = 0 := by
      rw [q, mod_xor, dbl_low la, Nat.mod_eq_of_lt lb] at hz
      exact hz
    have e2 : a = b := by
      have z := congrArg (· ^^^ b) e1
      simp only [xor_r, Nat.zero_xor] at z
      exact z
    have e3 : y >>> s = a := by rw [q, shr_xor, dbl_high la, high_zero lb, Nat.xor_zero]
    show spn rows (y >>> s) ∧ spn more (y >>> s)
    rw [e3]
    exact ⟨ha, by rw [e2]; exact hb⟩
  · rintro ⟨ha, hb⟩
    have la := spn_lt h1 ha
    have hf : spn fs (dbl s x ^^^ x) := (e _).mpr (dsum.mpr ⟨x, x, ha, hb, rfl⟩)
    refine ⟨dbl s x ^^^ x, top_spn hF.1 hf fun r _ c => ?_, ?_⟩
    · have hz : (dbl s x ^^^ x) % 2 ^ s = 0 := by rw [mod_xor, dbl_low la, Nat.mod_eq_of_lt la, Nat.xor_self]
      have q : ((dbl s x ^^^ x) % 2 ^ s).testBit (low r) = false := by rw [hz, Nat.zero_testBit]
      rw [Nat.testBit_mod_two_pow] at q
      simpa [c] using q
    · show (dbl s x ^^^ x) >>> s = x
      rw [shr_xor, dbl_high la, high_zero la, Nat.xor_zero]

/-! ### sizes add up -/
theorem ind_app : ∀ {ms ns acc : List Nat}, Ind acc (ms ++ ns) ↔ Ind acc ms ∧ Ind (ms.reverse ++ acc) ns
  | [], ns, acc => ⟨fun h => ⟨trivial, h⟩, fun h => h.2⟩
  | m :: ms, ns, acc => by
    show ¬ spn acc m ∧ Ind (m :: acc) (ms ++ ns) ↔ (¬ spn acc m ∧ Ind (m :: acc) ms) ∧ _
    rw [ind_app, List.reverse_cons, List.append_assoc, List.singleton_append, and_assoc]
theorem ind_dbl : ∀ {ms acc : List Nat}, (∀ r, r ∈ ms → r < 2 ^ s) → (∀ r, r ∈ acc → r < 2 ^ s) → Ind acc ms → Ind (acc.map (dbl s)) (ms.map (dbl s))
  | [], _, _, _, _ => trivial
  | m :: ms, acc, h1, h2, ⟨q1, q2⟩ => by
    refine ⟨fun z => q1 ?_, ind_dbl (fun r hr => h1 r (List.mem_cons_of_mem _ hr)) (fun r hr => ?_) q2⟩
    · obtain ⟨y, hy, e⟩ := (spn_map dbl_lin).mp z
      have := congrArg (· % 2 ^ s) e
      simp only [dbl_low (spn_lt h2 hy), dbl_low (h1 m List.mem_cons_self)] at this
      rw [← this]
      exact hy
    · rcases List.mem_cons.mp hr with rfl | hr
      · exact h1 r List.mem_cons_self
      · exact h2 r hr
theorem ind_over {rows : List Nat} (h1 : ∀ r, r ∈ rows → r < 2 ^ s) : ∀ {ns acc : List Nat}, (∀ r, r ∈ ns → r < 2 ^ s) → (∀ r, r ∈ acc → r < 2 ^ s) → Ind acc ns → Ind (acc ++ rows.map (dbl s)) ns
  | [], _, _, _, _ => trivial
  | m :: ns, acc, h2, h3, ⟨q1, q2⟩ => by
    refine ⟨fun z => q1 ?_, ind_over h1 (fun r hr => h2 r (List.mem_cons_of_mem _ hr)) (acc := m :: acc) (fun r hr => ?_) q2⟩
    · have hs : spn (rows.map (dbl s) ++ acc) m := (same_perm List.perm_append_comm m).mp z
      obtain ⟨a, b, ha, hb, e⟩ := dsum.mp hs
      have la := spn_lt h1 ha
      have lb := spn_lt h3 hb
      have lm := h2 m List.mem_cons_self
      have e0 : a = 0 := by
        have := congrArg (· >>> s) e
        simp only [shr_xor, dbl_high la, high_zero lb, high_zero lm, Nat.xor_zero] at this
        exact this.symm
      rw [e0, lin_zero dbl_lin, Nat.zero_xor] at e
      rw [e]
      exact hb
    · rcases List.mem_cons.mp hr with rfl | hr
      · exact h2 r List.mem_cons_self
      · exact h3 r hr
theorem dim {fs rows more : List Nat} (hF : Form fs) (e : Same fs (rows.map (dbl s) ++ more)) (h1 : ∀ r, r ∈ rows → r < 2 ^ s) (h2 : ∀ r, r ∈ more → r < 2 ^ s) :
    (car s fs).length + (frm (rows ++ more)).length = (frm rows).length + (frm more).length := by
  obtain ⟨fr1, fr2⟩ := frm_spec rows
  obtain ⟨fm1, fm2⟩ := frm_spec more
  have l1 : ∀ r, r ∈ frm rows → r < 2 ^ s := fun r hr => spn_lt h1 ((fr2 r).mp (spn_mem hr))
  have l2 : ∀ r, r ∈ frm more → r < 2 ^ s := fun r hr => spn_lt h2 ((fm2 r).mp (spn_mem hr))
  have eD : Same fs ((frm rows).map (dbl s) ++ frm more) := fun y => by
    rw [e y, dsum, dsum]
    exact ⟨fun ⟨a, b, ha, hb, q⟩ => ⟨a, b, (fr2 a).mpr ha, (fm2 b).mpr hb, q⟩, fun ⟨a, b, ha, hb, q⟩ => ⟨a, b, (fr2 a).mp ha, (fm2 b).mp hb, q⟩⟩
  have hi : Ind [] ((frm rows).map (dbl s) ++ frm more) := by
    rw [ind_app]
    refine ⟨ind_dbl l1 (fun r hr => by cases hr) (form_ind fr1), ?_⟩
    rw [List.append_nil]
    have q := ind_over l1 l2 (acc := []) (fun r hr => by cases hr) (form_ind fm1)
    rw [List.nil_append] at q
    exact ind_same (same_perm (List.reverse_perm _).symm) q
  have n1 := form_len hF eD hi
  rw [List.length_append, List.length_map] at n1
  -- the low parts
  have sub : (fs.filter fun r => !isTop s r).Sublist fs := List.filter_sublist
  have hm : ∀ r, r ∈ (fs.filter fun r => !isTop s r) → r ≠ 0 ∧ low r < s := fun r hr => by
    obtain ⟨q1, q2⟩ := List.mem_filter.mp hr
    refine ⟨hF.1.1 r q1, ?_⟩
    unfold isTop at q2
    simpa using q2
  have hG : Form ((fs.filter fun r => !isTop s r).map (· % 2 ^ s)) := by
    have p1 := hF.1.2.sublist sub
    have p2 := hF.2.sublist sub
    refine ⟨⟨fun r hr => ?_, ?_⟩, ?_⟩
    · obtain ⟨q, hq, rfl⟩ := List.mem_map.mp hr
      obtain ⟨q1, q2⟩ := hm q hq
      refine ne_of_bit (i := low q) ?_
      rw [Nat.testBit_mod_two_pow, low_bit q1]
      simp [q2]
    · refine List.pairwise_map.mpr (p1.imp_of_mem fun {a b} ha hb q => ?_)
      obtain ⟨a1, a2⟩ := hm a ha
      obtain ⟨b1, b2⟩ := hm b hb
      rw [low_mod a1 a2, low_mod b1 b2, Nat.testBit_mod_two_pow, Nat.testBit_mod_two_pow, q.1, q.2]
      simp
    · refine List.pairwise_map.mpr (p2.imp_of_mem fun {a b} ha hb q => ?_)
      obtain ⟨a1, a2⟩ := hm a ha
      obtain ⟨b1, b2⟩ := hm b hb
      rw [low_mod a1 a2, low_mod b1 b2]
      exact q
  have eG : Same ((fs.filter fun r => !isTop s r).map (· % 2 ^ s)) (rows ++ more) := fun x => by
    have h3 : spn ((fs.filter fun r => !isTop s r).map (· % 2 ^ s)) x ↔ spn (fs.map (· % 2 ^ s)) x := by
      constructor
      · exact spn_sub fun r hr => by
          obtain ⟨q, hq, rfl⟩ := List.mem_map.mp hr
          exact spn_mem (List.mem_map_of_mem (List.mem_filter.mp hq).1)
      · refine spn_sub fun r hr => ?_
        obtain ⟨q, hq, rfl⟩ := List.mem_map.mp hr
        by_cases c : isTop s q = true
        · show spn _ (q % 2 ^ s)
          rw [(top_iff (hF.1.1 q hq)).mpr (of_decide_eq_true c)]
          exact spn_zero _
        · exact spn_mem (List.mem_map_of_mem (List.mem_filter.mpr ⟨hq, by simpa using c⟩))
    rw [h3, spn_map mod_lin, spn_app]
    constructor
    · rintro ⟨y, hy, rfl⟩
      obtain ⟨a, b, ha, hb, q⟩ := dsum.mp ((e y).mp hy)
      refine ⟨a, b, ha, hb, ?_⟩
      show y % 2 ^ s = _
      rw [q, mod_xor, dbl_low (spn_lt h1 ha), Nat.mod_eq_of_lt (spn_lt h2 hb)]
    · rintro ⟨a, b, ha, hb, rfl⟩
      refine ⟨dbl s a ^^^ b, (e _).mpr (dsum.mpr ⟨a, b, ha, hb, rfl⟩), ?_⟩
      show (dbl s a ^^^ b) % 2 ^ s = _
      rw [mod_xor, dbl_low (spn_lt h1 ha), Nat.mod_eq_of_lt (spn_lt h2 hb)]
  have n2 := frm_uniq hG eG
  have n3 := filter_two (isTop s) fs
  have n4 : (car s fs).length = (fs.filter (isTop s)).length := by
    unfold car
    rw [List.length_map]
  have n5 : (frm (rows ++ more)).length = (fs.filter fun r => !isTop s r).length := by
    rw [← n2, List.length_map]
  omega
end M
end
section
set_option linter.all false
set_option autoImplicit false
/-! masks as ints -/
namespace M
open PySem PySem.W Bits PyProof.Rows
theorem low_form : ∀ n : Nat, n ≠ 0 → ∃ a : Nat, n = 2 ^ low n * (2 * a + 1) := by
  intro n
  induction n using Nat.strongRecOn with
  | _ n ih =>
    intro h
    rw [low, dif_neg h]
    by_cases c : n % 2 = 1
    · rw [if_pos c]
      exact ⟨n / 2, by omega⟩
    · rw [if_neg c]
      obtain ⟨a, e⟩ := ih (n / 2) (by omega) (by omega)
      refine ⟨a, ?_⟩
      rw [Nat.pow_succ, Nat.mul_assoc, Nat.mul_comm 2, ← Nat.mul_assoc, ← e]
      omega
/-- the lowest bit, as a mask -/
def hd (n : Nat) : Nat := if n = 0 then 0 else 2 ^ low n
theorem hd_int (n : Nat) : Builtin.bitAnd (n : Int) (-(n : Int)) = (hd n : Nat) := by
  unfold hd
  by_cases h : n = 0
  · rw [if_pos h, h]
    rfl
  · rw [if_neg h]
    obtain ⟨a, e⟩ := low_form n h
    have q := kbt_low (low n) (a : Int)
    have e' : (n : Int) = 2 ^ low n * (2 * (a : Int) + 1) := by
      have := congrArg (fun z : Nat => (z : Int)) e
      simpa using this
    rw [← e'] at q
    rw [q]
    simp
theorem and_bit (m k : Nat) : Builtin.bitAnd (m : Int) ((2 ^ k : Nat) : Int) = ((if m.testBit k then 2 ^ k else 0 : Nat) : Int) := by
  rw [os_band]
  congr 1
  refine Nat.eq_of_testBit_eq fun i => ?_
  rw [Nat.testBit_and]
  by_cases c : k = i
  · subst c
    rw [Nat.testBit_two_pow_self]
    cases q : m.testBit k with
    | true =>
      rw [if_pos rfl, Nat.testBit_two_pow_self]
      rfl
    | false => simp
  · rw [Nat.testBit_two_pow_of_ne c]
    split
    · rw [Nat.testBit_two_pow_of_ne c]
      simp
    · simp
theorem and_hd (m r : Nat) (h : r ≠ 0) : (Builtin.bitAnd (m : Int) ((hd r : Nat) : Int) != 0) = m.testBit (low r) := by
  unfold hd
  rw [if_neg h, and_bit]
  cases q : m.testBit (low r) with
  | true =>
    rw [if_pos rfl]
    have : (2 : Nat) ^ low r ≠ 0 := Nat.pos_iff_ne_zero.mp (Nat.two_pow_pos _)
    exact bne_iff_ne.mpr fun z => this (by exact_mod_cast z)
  | false => rfl
theorem xor_int (a b : Nat) : Builtin.bitXor (a : Int) (b : Int) = ((a ^^^ b : Nat) : Int) := by
  have := bitXor_pp (Int.natCast_nonneg a) (Int.natCast_nonneg b)
  rw [this]
  rfl
end M
end
section
set_option linter.all false
set_option autoImplicit false
/-! sums of unlike powers -/
namespace M
open PySem PySem.W Bits PyProof.Rows
def pws (ls : List Nat) : Nat := (ls.map fun l => 2 ^ l).sum
theorem pws_bit : ∀ {ls : List Nat}, ls.Nodup → ∀ i, (pws ls).testBit i = decide (i ∈ ls)
  | [], _, i => by simp [pws]
  | l :: ls, nd, i => by
    rw [List.nodup_cons] at nd
    have ih := pws_bit nd.2
    have h0 : (2 ^ l &&& pws ls) = 0 := Nat.eq_of_testBit_eq fun j => by
      rw [Nat.testBit_and, Nat.zero_testBit, ih]
      by_cases c : l = j
      · subst c
        simp [nd.1]
      · rw [Nat.testBit_two_pow_of_ne c]
        rfl
    have e : pws (l :: ls) = 2 ^ l ^^^ pws ls := by
      have q := nat_xor_add_and (2 ^ l) (pws ls)
      rw [h0] at q
      show 2 ^ l + pws ls = _
      omega
    rw [e, Nat.testBit_xor, ih]
    by_cases c : l = i
    · subst c
      rw [Nat.testBit_two_pow_self]
      simp [nd.1]
    · rw [Nat.testBit_two_pow_of_ne c]
      have : ¬ i = l := fun z => c z.symm
      simp [this]
theorem hds {rs : List Nat} (h : ∀ r, r ∈ rs → r ≠ 0) : rs.map hd = (rs.map low).map fun l => 2 ^ l := by
  rw [List.map_map]
  refine List.map_congr_left fun r hr => ?_
  show hd r = 2 ^ low r
  unfold hd
  rw [if_neg (h r hr)]
theorem heads_bit {rs : List Nat} (h : Red rs) (i : Nat) : ((rs.map hd).sum).testBit i = isHead rs i := by
  rw [hds h.1]
  rw [show ((rs.map low).map fun l => 2 ^ l).sum = pws (rs.map low) from rfl, pws_bit (List.pairwise_map.mpr (red_lows h))]
  rw [Bool.eq_iff_iff, decide_eq_true_eq, head_iff, List.mem_map]
theorem vec_head : ∀ {rs : List Nat} {l r : Nat}, Red rs → r ∈ rs → (∀ q, q ∈ rs → low q ≠ l) → (vec rs l).testBit (low r) = r.testBit l
  | q :: rs, l, r, hR, hr, hl => by
    have hp := List.pairwise_cons.mp (red_lows hR)
    have hl2 : ∀ s, s ∈ rs → low s ≠ l := fun s hs => hl s (List.mem_cons_of_mem _ hs)
    unfold vec
    rcases List.mem_cons.mp hr with rfl | hr
    · have e : (vec rs l).testBit (low r) = false := by
        rw [vec_bit fun s hs z => hp.1 s hs z.symm]
        have : ¬ l = low r := fun z => hl r List.mem_cons_self z.symm
        simp [this]
      split
      · rename_i c
        rw [Nat.testBit_xor, e, Nat.testBit_two_pow_self, c]
        rfl
      · rename_i c
        rw [e]
        cases q : r.testBit l with
        | false => rfl
        | true => exact absurd q c
    · have ih := vec_head hR.tail hr hl2
      split
      · rw [Nat.testBit_xor, ih, Nat.testBit_two_pow_of_ne (hp.1 r hr)]
        simp
      · exact ih
/-- a line with the heads of the rows that have it -/
theorem vec_or {rs : List Nat} {l : Nat} (hR : Red rs) (hl : ∀ q, q ∈ rs → low q ≠ l) : 2 ^ l ||| ((rs.filter fun r => r.testBit l).map hd).sum = vec rs l := by
  have hf : ∀ r, r ∈ rs.filter (fun r => r.testBit l) → r ≠ 0 := fun r hr => hR.1 r (List.mem_filter.mp hr).1
  have nd : ((rs.filter fun r => r.testBit l).map low).Nodup := List.pairwise_map.mpr ((red_lows hR).sublist List.filter_sublist)
  rw [hds hf]
  rw [show (((rs.filter fun r => r.testBit l).map low).map fun l => 2 ^ l).sum = pws ((rs.filter fun r => r.testBit l).map low) from rfl]
  refine Nat.eq_of_testBit_eq fun i => ?_
  rw [Nat.testBit_or, pws_bit nd]
  by_cases q : isHead rs i = true
  · obtain ⟨r, hr, rfl⟩ := head_iff.mp q
    rw [vec_head hR hr hl, Nat.testBit_two_pow_of_ne (fun z => hl r hr z.symm), Bool.false_or, Bool.eq_iff_iff, decide_eq_true_eq, List.mem_map]
    constructor
    · rintro ⟨s, hs, e⟩
      obtain ⟨h1, h2⟩ := List.mem_filter.mp hs
      have := red_bit hR h1 hr
      by_cases c : s = r
      · rw [← c]
        exact h2
      · have := red_bit hR hr h1
        exfalso
        refine c ?_
        have key : ∀ {ts : List Nat}, ts.Pairwise (fun a b => low a ≠ low b) → s ∈ ts → r ∈ ts → s = r := by
          intro ts
          induction ts with
          | nil => intro _ h; cases h
          | cons t ts ih =>
            intro hp a b
            have hp' := List.pairwise_cons.mp hp
            rcases List.mem_cons.mp a with ea | a'
            · rcases List.mem_cons.mp b with eb | b'
              · rw [ea, eb]
              · rw [ea] at e
                exact absurd e (hp'.1 r b')
            · rcases List.mem_cons.mp b with eb | b'
              · rw [eb] at e
                exact absurd e.symm (hp'.1 s a')
              · exact ih hp'.2 a' b'
        exact key (red_lows hR) h1 hr
    · intro h
      exact ⟨r, List.mem_filter.mpr ⟨hr, h⟩, rfl⟩
  · have hi : ∀ r, r ∈ rs → low r ≠ i := fun r hr z => q (head_iff.mpr ⟨r, hr, z⟩)
    rw [vec_bit hi]
    have hn : ¬ i ∈ (rs.filter fun r => r.testBit l).map low := fun h => by
      obtain ⟨r, hr, e⟩ := List.mem_map.mp h
      exact hi r (List.mem_filter.mp hr).1 e
    rw [decide_eq_false hn, Bool.or_false]
    by_cases c : l = i
    · subst c
      rw [Nat.testBit_two_pow_self]
      simp
    · rw [Nat.testBit_two_pow_of_ne c]
      simp [c]
theorem or_int (a b : Nat) : Builtin.bitOr (a : Int) (b : Int) = ((a ||| b : Nat) : Int) := by
  rw [bitOr_pp (Int.natCast_nonneg a) (Int.natCast_nonneg b)]
  rfl
end M
end
section
set_option linter.all false
set_option autoImplicit false
/-! line by line: the law's own way to the form -/
namespace M
def stp (l : Nat) (p : List Nat × List Nat) : List Nat × List Nat := match p.2.find? (fun r => r.testBit l) with
  | none => p
  | some h => (p.1.map (fun r => if r.testBit l then r ^^^ h else r) ++ [h], (p.2.map fun r => if r.testBit l then r ^^^ h else r).filter fun r => decide (r ≠ 0))
def steps : Nat → List Nat × List Nat → List Nat × List Nat
  | 0, p => p
  | k + 1, p => stp k (steps k p)
/-- lines below k are done -/
structure Done (ms : List Nat) (k : Nat) (p : List Nat × List Nat) : Prop where
  form : Form p.1
  lows : ∀ r, r ∈ p.1 → low r < k
  pos : ∀ r, r ∈ p.2 → r ≠ 0
  free : ∀ r, r ∈ p.2 → ∀ j, j < k → r.testBit j = false
  same : Same (p.1 ++ p.2) ms
theorem done_stp {ms : List Nat} {k : Nat} {p : List Nat × List Nat} (D : Done ms k p) : Done ms (k + 1) (stp k p) := by
  obtain ⟨fs, ls⟩ := p
  unfold stp
  cases q : (ls.find? fun r => r.testBit k) with
  | none =>
    simp only
    have hn := List.find?_eq_none.mp q
    refine ⟨D.form, fun r hr => Nat.lt_succ_of_lt (D.lows r hr), D.pos, fun r hr j hj => ?_, D.same⟩
    by_cases c : j = k
    · subst c
      have := hn r hr
      simpa using this
    · exact D.free r hr j (by omega)
  | some h =>
    simp only
    have hb : h.testBit k = true := by simpa using List.find?_some q
    have hm : h ∈ ls := List.mem_of_find?_eq_some q
    have h0 := D.pos h hm
    have hl : low h = k := low_eq hb (D.free h hm)
    have et : ∀ r, (if r.testBit k then r ^^^ h else r) = turn h r := fun r => by
      unfold turn
      rw [hl]
    have e1 : fs.map (fun r => if r.testBit k then r ^^^ h else r) = fs.map (turn h) := List.map_congr_left fun r _ => et r
    have e2 : ls.map (fun r => if r.testBit k then r ^^^ h else r) = ls.map (turn h) := List.map_congr_left fun r _ => et r
    rw [e1, e2]
    have hz : ∀ r, r ∈ fs → h.testBit (low r) = false := fun r hr => D.free h hm _ (D.lows r hr)
    have hlow : ∀ r, r ∈ fs → low (turn h r) = low r := fun r hr => turn_low h0 (D.form.1.1 r hr) (hz r hr)
    refine ⟨⟨⟨fun r hr => ?_, ?_⟩, ?_⟩, fun r hr => ?_, fun r hr => ?_, fun r hr j hj => ?_, ?_⟩
    · rcases List.mem_append.mp hr with hr | hr
      · obtain ⟨s, hs, rfl⟩ := List.mem_map.mp hr
        refine ne_of_bit (i := low s) ?_
        rw [turn_bit (hz s hs)]
        exact low_bit (D.form.1.1 s hs)
      · rw [List.mem_singleton.mp hr]
        exact h0
    · refine List.pairwise_append.mpr ⟨?_, List.pairwise_singleton _ _, fun a ha b hb2 => ?_⟩
      · refine List.pairwise_map.mpr (D.form.1.2.imp_of_mem fun {a b} ha hb2 hab => ?_)
        rw [hlow a ha, hlow b hb2, turn_bit (hz b hb2), turn_bit (hz a ha)]
        exact hab
      · obtain ⟨s, hs, rfl⟩ := List.mem_map.mp ha
        rw [List.mem_singleton.mp hb2, hlow s hs]
        exact ⟨turn_own h0, hz s hs⟩
    · refine List.pairwise_append.mpr ⟨?_, List.pairwise_singleton _ _, fun a ha b hb2 => ?_⟩
      · refine List.pairwise_map.mpr (D.form.2.imp_of_mem fun {a b} ha hb2 hab => ?_)
        rw [hlow a ha, hlow b hb2]
        exact hab
      · obtain ⟨s, hs, rfl⟩ := List.mem_map.mp ha
        rw [List.mem_singleton.mp hb2, hlow s hs, hl]
        exact D.lows s hs
    · rcases List.mem_append.mp hr with hr | hr
      · obtain ⟨s, hs, rfl⟩ := List.mem_map.mp hr
        rw [hlow s hs]
        exact Nat.lt_succ_of_lt (D.lows s hs)
      · rw [List.mem_singleton.mp hr, hl]
        exact Nat.lt_succ_self k
    · exact of_decide_eq_true (List.mem_filter.mp hr).2
    · obtain ⟨s, hs, rfl⟩ := List.mem_map.mp (List.mem_filter.mp hr).1
      by_cases c : j = k
      · rw [c, ← hl]
        exact turn_own h0
      · rw [turn_bit (D.free h hm j (by omega))]
        exact D.free s hs j (by omega)
    · refine Same.trans ?_ D.same
      have hh : spn (fs ++ ls) h := spn_mem (List.mem_append_right _ hm)
      have hh2 : spn (fs.map (turn h) ++ [h] ++ (ls.map (turn h)).filter fun r => decide (r ≠ 0)) h := spn_mem (by simp)
      refine same_of (fun r hr => ?_) fun r hr => ?_
      · rcases List.mem_append.mp hr with hr | hr
        · rcases List.mem_append.mp hr with hr | hr
          · obtain ⟨s, hs, rfl⟩ := List.mem_map.mp hr
            exact turn_spn hh (spn_mem (List.mem_append_left _ hs))
          · rw [List.mem_singleton.mp hr]
            exact hh
        · obtain ⟨s, hs, rfl⟩ := List.mem_map.mp (List.mem_filter.mp hr).1
          exact turn_spn hh (spn_mem (List.mem_append_right _ hs))
      · refine spn_turn hh2 ?_
        rcases List.mem_append.mp hr with hr | hr
        · exact spn_mem (List.mem_append_left _ (List.mem_append_left _ (List.mem_map_of_mem hr)))
        · by_cases c : turn h r = 0
          · rw [c]
            exact spn_zero _
          · exact spn_mem (List.mem_append_right _ (List.mem_filter.mpr ⟨List.mem_map_of_mem hr, decide_eq_true c⟩))
theorem done_steps {ms : List Nat} {p : List Nat × List Nat} (D : Done ms 0 p) : ∀ k, Done ms k (steps k p)
  | 0 => D
  | k + 1 => done_stp (done_steps D k)
/-- the law's form is the form -/
theorem steps_form {ms : List Nat} {n k : Nat} (hk : n ≤ k) (h : ∀ m, m ∈ ms → m < 2 ^ n) : (steps k ([], ms.filter fun r => decide (r ≠ 0))).1 = frm ms := by
  have D0 : Done ms 0 ([], ms.filter fun r => decide (r ≠ 0)) := by
    refine ⟨⟨red_nil, .nil⟩, (fun r hr => by cases hr), fun r hr => of_decide_eq_true (List.mem_filter.mp hr).2, fun r hr j hj => absurd hj (Nat.not_lt_zero _), ?_⟩
    refine same_of (fun r hr => spn_mem (List.mem_filter.mp hr).1) fun r hr => ?_
    by_cases c : r = 0
    · rw [c]
      exact spn_zero _
    · exact spn_mem (List.mem_filter.mpr ⟨hr, decide_eq_true c⟩)
  have D := done_steps D0 k
  have hn : (steps k ([], ms.filter fun r => decide (r ≠ 0))).2 = [] := by
    cases q : (steps k ([], ms.filter fun r => decide (r ≠ 0))).2 with
    | nil => rfl
    | cons r rs =>
      have hr : r ∈ (steps k ([], ms.filter fun r => decide (r ≠ 0))).2 := by
        rw [q]
        exact List.mem_cons_self
      have h0 := D.pos r hr
      have hlt : r < 2 ^ n := spn_lt h ((D.same r).mp (spn_mem (List.mem_append_right _ hr)))
      have := low_bit h0
      rw [D.free r hr _ (Nat.lt_of_lt_of_le (low_lt_of h0 hlt) hk)] at this
      cases this
  have e := D.same
  rw [hn, List.append_nil] at e
  exact frm_uniq D.form e
end M
end
section
set_option linter.all false
set_option autoImplicit false
/-! all sums, listed -/
namespace M
def allS : List Nat → List Nat → List Nat
  | acc, [] => acc
  | acc, r :: rs => allS (acc ++ acc.map fun x => x ^^^ r) rs
theorem allS_mem : ∀ {rs acc : List Nat} {x : Nat}, x ∈ allS acc rs ↔ ∃ a b, a ∈ acc ∧ spn rs b ∧ x = a ^^^ b
  | [], acc, x => ⟨fun h => ⟨x, 0, h, rfl, (Nat.xor_zero x).symm⟩, fun ⟨a, b, h1, h2, e⟩ => by
    rw [e, show b = 0 from h2, Nat.xor_zero]
    exact h1⟩
  | r :: rs, acc, x => by
    show x ∈ allS (acc ++ acc.map fun x => x ^^^ r) rs ↔ _
    rw [allS_mem]
    constructor
    · rintro ⟨a, b, h1, h2, e⟩
      rcases List.mem_append.mp h1 with h1 | h1
      · exact ⟨a, b, h1, .inl h2, e⟩
      · obtain ⟨a', ha, rfl⟩ := List.mem_map.mp h1
        refine ⟨a', b ^^^ r, ha, .inr (by rw [xor_r]; exact h2), ?_⟩
        rw [e, Nat.xor_assoc, Nat.xor_comm r b]
    · rintro ⟨a, b, h1, h2, e⟩
      rcases h2 with h2 | h2
      · exact ⟨a, b, List.mem_append_left _ h1, h2, e⟩
      · refine ⟨a ^^^ r, b ^^^ r, List.mem_append_right _ (List.mem_map.mpr ⟨a, h1, rfl⟩), h2, ?_⟩
        rw [xor4]
        exact e
theorem all_iff {rs : List Nat} {x : Nat} : x ∈ allS [0] rs ↔ spn rs x := by
  rw [allS_mem]
  constructor
  · rintro ⟨a, b, h1, h2, e⟩
    rw [e, List.mem_singleton.mp h1, Nat.zero_xor]
    exact h2
  · intro h
    exact ⟨0, x, List.mem_singleton.mpr rfl, h, (Nat.zero_xor x).symm⟩
theorem xor_inj {a b r : Nat} (h : a ^^^ r = b ^^^ r) : a = b := by
  have := congrArg (· ^^^ r) h
  simp only [xor_r] at this
  exact this
theorem allS_nodup : ∀ {rs acc : List Nat} {bs : List Nat}, acc.Nodup → (∀ x, x ∈ acc → spn bs x) → Ind bs rs → (allS acc rs).Nodup
  | [], _, _, h, _, _ => h
  | r :: rs, acc, bs, h, ha, ⟨h1, h2⟩ => by
    show (allS (acc ++ acc.map fun x => x ^^^ r) rs).Nodup
    refine allS_nodup (bs := r :: bs) ?_ (fun x hx => ?_) h2
    · refine List.nodup_append.mpr ⟨h, List.pairwise_map.mpr (h.imp fun {a b} q z => q (xor_inj z)), fun a haa b hb e => h1 ?_⟩
      obtain ⟨c, hc, rfl⟩ := List.mem_map.mp hb
      have := spn_xor (ha a haa) (ha c hc)
      rw [e, Nat.xor_comm c r, Nat.xor_assoc, Nat.xor_self, Nat.xor_zero] at this
      exact this
    · rcases List.mem_append.mp hx with hx | hx
      · exact .inl (ha x hx)
      · obtain ⟨c, hc, rfl⟩ := List.mem_map.mp hx
        exact .inr (by rw [xor_r]; exact ha c hc)
theorem all_nodup {fs : List Nat} (h : Form fs) : (allS [0] fs).Nodup := allS_nodup (bs := []) (by simp) (fun x hx => List.mem_singleton.mp hx) (form_ind h)
theorem allS_len : ∀ (rs acc : List Nat), (allS acc rs).length = acc.length * 2 ^ rs.length
  | [], acc => by simp [allS]
  | r :: rs, acc => by
    show (allS (acc ++ acc.map fun x => x ^^^ r) rs).length = _
    rw [allS_len, List.length_append, List.length_map, List.length_cons, Nat.pow_succ, ← Nat.two_mul, Nat.mul_comm 2, Nat.mul_assoc, Nat.mul_comm 2]
end M
end
section
set_option Elab.async false
set_option linter.all false
set_option autoImplicit false
/-! the code of defs that many laws share -/
namespace G
open PySem L2 Z
def kis_whole : Ss := (.cons (.ret (.and (.isi (.var 0) .int) (.not (.isi (.var 0) .bool)))) .nil)
def kis_between : Ss := (.cons (.ret (.and (.call "is_whole" (.cons (.var 0) .nil)) (.chn .LtE .LtE (.var 1) (.var 0) (.var 2)))) .nil)
def kis_ascending_1 : Ss := (.cons (.ifs (.not (.call "is_between" (.cons (.var 3) (.cons (.var 2) (.cons (.bin .Sub (.var 1) (.int 1)) .nil))))) (.cons (.ret (.bl false)) .nil) .nil) (.cons (.set 2 (.bin .Add (.var 3) (.int 1))) .nil))
def kis_ascending : Ss := (.cons (.ifs (.not (.isi (.var 0) .tuple)) (.cons (.ret (.bl false)) .nil) .nil) (.cons (.set 2 (.int 0)) (.cons (.for (.nm 3) (.ex (.var 0)) kis_ascending_1) (.cons (.ret (.bl true)) .nil))))
def kmask_of_1 : Ex := (.bin .LShift (.int 1) (.var 1))
def kmask_of : Ss := (.cons (.ret (.blt .sum (.cons (.lc [1] (.nm 1) (.ex (.var 0)) .no kmask_of_1) .nil))) .nil)
def klot_of_1 : Ox := (.yes (.bin .BitAnd (.bin .RShift (.var 0) (.var 1)) (.int 1)))
def klot_of : Ss := (.cons (.ret (.blt .tuple (.cons (.lc [1] (.nm 1) (.rng1 (.met .bits (.var 0) .nil)) klot_of_1 (.var 1)) .nil))) .nil)
def kmasks_of_1 : Ex := (.call "mask_of" (.cons (.var 1) .nil))
def kmasks_of : Ss := (.cons (.ret (.lc [1] (.nm 1) (.ex (.var 0)) .no kmasks_of_1)) .nil)
def klots_of_1 : Ex := (.call "lot_of" (.cons (.var 1) .nil))
def klots_of : Ss := (.cons (.ret (.blt .tuple (.cons (.lc [1] (.nm 1) (.ex (.var 0)) .no klots_of_1) .nil))) .nil)
def khead_of : Ss := (.cons (.ret (.bin .BitAnd (.var 0) (.un .USub (.var 0)))) .nil)
def klow_part : Ss := (.cons (.ret (.bin .BitAnd (.var 0) (.bin .Sub (.bin .LShift (.int 1) (.con 32)) (.int 1)))) .nil)
def kcleared_1 : Ss := (.cons (.ifs (.bin .BitAnd (.var 2) (.call "head_of" (.cons (.var 3) .nil))) (.cons (.aug 2 .BitXor (.var 3)) .nil) .nil) .nil)
def kcleared : Ss := (.cons (.set 2 (.var 1)) (.cons (.for (.nm 3) (.ex (.var 0)) kcleared_1) (.cons (.ret (.var 2)) .nil)))
def kreduced_1 : Ex := (.bin .BitAnd (.var 0) (.un .USub (.var 0)))
def kreduced_2 : Ex := (.ite (.bin .BitAnd (.var 5) (.var 4)) (.bin .BitXor (.var 5) (.var 3)) (.var 5))
def kreduced_3 : Ss := (.cons (.set 3 (.call "cleared" (.cons (.var 1) (.cons (.var 2) .nil)))) (.cons (.ifs (.var 3) (.cons (.set 4 (.call "head_of" (.cons (.var 3) .nil))) (.cons (.set 1 (.bin .Add (.lc [5] (.nm 5) (.ex (.var 1)) .no kreduced_2) (.lst (.cons (.var 3) .nil)))) .nil)) .nil) .nil))
def kreduced : Ss := (.cons (.set 1 (.lst .nil)) (.cons (.for (.nm 2) (.ex (.var 0)) kreduced_3) (.cons (.ret (.skl 1 "reduced" (.var 1) kreduced_1)) .nil)))
def kkernel_1 : Ox := (.yes (.bin .BitAnd (.var 6) (.var 5)))
def kkernel_2 : Ex := (.call "head_of" (.cons (.var 6) .nil))
def kkernel_3 : Ss := (.cons (.set 5 (.bin .LShift (.int 1) (.var 4))) (.cons (.ifs (.not (.bin .BitAnd (.var 2) (.var 5))) (.cons (.expr (.met .append (.var 3) (.cons (.bin .BitOr (.var 5) (.blt .sum (.cons (.lc [6] (.nm 6) (.ex (.var 1)) kkernel_1 kkernel_2) .nil))) .nil))) .nil) .nil) .nil))
def kkernel_4 : Ex := (.call "head_of" (.cons (.var 6) .nil))
def kkernel : Ss := (.cons (.set 2 (.blt .sum (.cons (.lc [6] (.nm 6) (.ex (.var 1)) .no kkernel_4) .nil))) (.cons (.set 3 (.lst .nil)) (.cons (.for (.nm 4) (.rng1 (.var 0)) kkernel_3) (.cons (.ret (.call "reduced" (.cons (.var 3) .nil))) .nil))))
def kcarried_1 : Ox := (.yes (.not (.call "low_part" (.cons (.var 1) .nil))))
def kcarried_2 : Ex := (.bin .RShift (.var 1) (.con 32))
def kcarried : Ss := (.cons (.ret (.lc [1] (.nm 1) (.ex (.call "reduced" (.cons (.var 0) .nil))) kcarried_1 kcarried_2)) .nil)
def kshared_1 : Ex := (.bin .BitOr (.var 2) (.bin .LShift (.var 2) (.con 32)))
def kshared : Ss := (.cons (.ret (.call "carried" (.cons (.bin .Add (.lc [2] (.nm 2) (.ex (.var 0)) .no kshared_1) (.blt .list (.cons (.var 1) .nil))) .nil))) .nil)
def kare_lots_1 : Ex := (.call "is_ascending" (.cons (.var 1) (.cons (.con 24) .nil)))
def kare_lots : Ss := (.cons (.ifs (.or (.not (.isi (.var 0) .tuple)) (.cmp .Gt (.blt .len (.cons (.var 0) .nil)) (.con 64))) (.cons (.ret (.bl false)) .nil) .nil) (.cons (.ret (.blt .all (.cons (.lc [1] (.nm 1) (.ex (.var 0)) .no kare_lots_1) .nil))) .nil))
def klot_sum : Ss := (.cons (.expr (.call "_demand_lot" (.cons (.var 0) .nil))) (.cons (.expr (.call "_demand_lot" (.cons (.var 1) .nil))) (.cons (.ret (.call "lot_of" (.cons (.bin .BitXor (.call "mask_of" (.cons (.var 0) .nil)) (.call "mask_of" (.cons (.var 1) .nil))) .nil))) .nil)))
def kform_of : Ss := (.cons (.expr (.call "_demand_lots" (.cons (.var 0) .nil))) (.cons (.ret (.call "lots_of" (.cons (.call "reduced" (.cons (.call "masks_of" (.cons (.var 0) .nil)) .nil)) .nil))) .nil))
def kopposite_form_1 : Ex := (.call "is_ascending" (.cons (.var 2) (.cons (.var 0) .nil)))
def kopposite_form : Ss := (.cons (.expr (.call "_demand_many" (.cons (.var 0) .nil))) (.cons (.expr (.call "_demand_lots" (.cons (.var 1) .nil))) (.cons (.ifs (.not (.blt .all (.cons (.lc [2] (.nm 2) (.ex (.var 1)) .no kopposite_form_1) .nil))) (.cons .fail .nil) .nil) (.cons (.ret (.call "lots_of" (.cons (.call "kernel" (.cons (.var 0) (.cons (.call "reduced" (.cons (.call "masks_of" (.cons (.var 1) .nil)) .nil)) .nil))) .nil))) .nil))))
def kcommon_form : Ss := (.cons (.expr (.call "_demand_lots" (.cons (.var 0) .nil))) (.cons (.expr (.call "_demand_lots" (.cons (.var 1) .nil))) (.cons (.ret (.call "lots_of" (.cons (.call "shared" (.cons (.call "masks_of" (.cons (.var 0) .nil)) (.cons (.call "masks_of" (.cons (.var 1) .nil)) .nil))) .nil))) .nil)))
def kdemand_many : Ss := (.cons (.ifs (.not (.call "is_between" (.cons (.var 0) (.cons (.int 1) (.cons (.con 24) .nil))))) (.cons .fail .nil) .nil) .nil)
def kdemand_lot : Ss := (.cons (.ifs (.not (.call "is_ascending" (.cons (.var 0) (.cons (.con 24) .nil)))) (.cons .fail .nil) .nil) .nil)
def kdemand_lots : Ss := (.cons (.ifs (.not (.call "are_lots" (.cons (.var 0) .nil))) (.cons .fail .nil) .nil) .nil)
def klaw_dice : Ss := (.cons (.set 2 (.ite (.cmp .Lt (.var 1) (.blt .len (.cons (.var 0) .nil))) (.blt .int (.cons (.ix (.var 0) (.var 1)) .nil)) (.bin .Add (.bin .Mult (.int 127) (.var 1)) (.int 71)))) (.cons (.set 3 (.bin .Mod (.blt .max2 (.cons (.int 0) (.cons (.bin .Sub (.blt .abs (.cons (.var 2) .nil)) (.bin .Pow (.int 10) (.int 16))) .nil))) (.bin .Mult (.bin .Pow (.int 10) (.int 57)) (.bin .Pow (.int 10) (.int 60))))) (.cons (.ret (.lst (.cons (.var 3) (.cons (.bin .Add (.bin .Add (.bin .Add (.bin .Mult (.bin .Mod (.blt .abs (.cons (.var 2) .nil)) (.int 1152921504606846697)) (.int 109)) (.bin .Mult (.int 1031) (.var 1))) (.bin .Mult (.int 67) (.blt .int (.cons (.cmp .Lt (.var 2) (.int 0)) .nil)))) (.int 53)) (.cons (.int 0) .nil))))) .nil)))
def klaw_roll : Ss := (.cons (.ifs (.cmp .Gt (.ix (.var 0) (.int 0)) (.int 0)) (.cons (.set 4 (.bin .Mod (.blt .int (.cons (.ix (.var 0) (.int 0)) .nil)) (.var 1))) (.cons (.six (.var 0) (.int 0) (.bin .FloorDiv (.ix (.var 0) (.int 0)) (.var 1))) (.cons (.ret (.var 4)) .nil))) .nil) (.cons (.six (.var 0) (.int 2) (.bin .Add (.ix (.var 0) (.int 2)) (.int 1))) (.cons (.set 2 (.bin .Mod (.blt .int (.cons (.bin .Add (.ix (.var 0) (.int 1)) (.bin .Mult (.int 49979687) (.ix (.var 0) (.int 2)))) .nil)) (.int 2305843009213693487))) (.cons (.set 3 (.bin .Add (.bin .Mult (.bin .Mod (.blt .int (.cons (.bin .Add (.bin .Mult (.var 2) (.var 2)) (.bin .Mult (.int 113) (.ix (.var 0) (.int 2)))) .nil)) (.int 2305843009213693669)) (.int 6700417)) (.var 2))) (.cons (.ret (.bin .Mod (.blt .int (.cons (.bin .FloorDiv (.var 3) (.int 65539)) .nil)) (.var 1))) .nil)))))
def klaw_pick : Ss := (.cons (.ret (.ix (.var 1) (.call "_law_roll" (.cons (.var 0) (.cons (.blt .len (.cons (.var 1) .nil)) .nil))))) .nil)
def klaw_mixed_1 : Ex := (.cmp .NotEq (.var 2) (.lst .nil))
def klaw_mixed_2 : Ss := (.cons (.expr (.met .append (.var 3) (.cons (.met .popAt (.var 2) (.cons (.call "_law_roll" (.cons (.var 0) (.cons (.blt .len (.cons (.var 2) .nil)) .nil))) .nil)) .nil))) .nil)
def klaw_mixed : Ss := (.cons (.par 2 3 (.blt .list (.cons (.var 1) .nil)) (.lst .nil)) (.cons (.while klaw_mixed_1 klaw_mixed_2) (.cons (.ret (.var 3)) .nil)))
def klaw_lo_sum_1 : Ox := (.yes (.cmp .NotIn (.var 2) (.var 1)))
def klaw_lo_sum_2 : Ox := (.yes (.cmp .NotIn (.var 2) (.var 0)))
def klaw_lo_sum : Ss := (.cons (.ret (.blt .tuple (.cons (.blt .sorted (.cons (.bin .Add (.lc [2] (.nm 2) (.ex (.var 0)) klaw_lo_sum_1 (.var 2)) (.lc [2] (.nm 2) (.ex (.var 1)) klaw_lo_sum_2 (.var 2))) .nil)) .nil))) .nil)
def klaw_lo_is_odd_1 : Ox := (.yes (.cmp .In (.var 2) (.var 1)))
def klaw_lo_is_odd : Ss := (.cons (.ret (.cmp .Eq (.bin .Mod (.blt .len (.cons (.lc [2] (.nm 2) (.ex (.var 0)) klaw_lo_is_odd_1 (.var 2)) .nil)) (.int 2)) (.int 1))) .nil)
/-- x is such a def -/
def Is (T : Txt) (x : Str) (d : Df) : Prop := ∀ (n : Nat) (vs : List D) (S : Sto), run T (n + 1) x vs S = runD (run T n) d vs S
structure Bits (T : Txt) : Prop where
  is_whole : Is T "is_whole" ⟨1, 1, kis_whole⟩
  is_between : Is T "is_between" ⟨3, 3, kis_between⟩
  is_ascending : Is T "is_ascending" ⟨2, 4, kis_ascending⟩
  mask_of : Is T "mask_of" ⟨1, 2, kmask_of⟩
  lot_of : Is T "lot_of" ⟨1, 2, klot_of⟩
structure Rows (T : Txt) : Prop extends Bits T where
  masks_of : Is T "masks_of" ⟨1, 2, kmasks_of⟩
  lots_of : Is T "lots_of" ⟨1, 2, klots_of⟩
  head_of : Is T "head_of" ⟨1, 1, khead_of⟩
  low_part : Is T "low_part" ⟨1, 1, klow_part⟩
  cleared : Is T "cleared" ⟨2, 4, kcleared⟩
  reduced : Is T "reduced" ⟨1, 6, kreduced⟩
  kernel : Is T "kernel" ⟨2, 7, kkernel⟩
  carried : Is T "carried" ⟨1, 2, kcarried⟩
  shared : Is T "shared" ⟨2, 3, kshared⟩
structure Lots (T : Txt) : Prop extends Rows T where
  are_lots : Is T "are_lots" ⟨1, 2, kare_lots⟩
  lot_sum : Is T "lot_sum" ⟨2, 2, klot_sum⟩
  form_of : Is T "form_of" ⟨1, 1, kform_of⟩
  opposite_form : Is T "opposite_form" ⟨2, 3, kopposite_form⟩
  common_form : Is T "common_form" ⟨2, 2, kcommon_form⟩
  demand_many : Is T "_demand_many" ⟨1, 1, kdemand_many⟩
  demand_lot : Is T "_demand_lot" ⟨1, 1, kdemand_lot⟩
  demand_lots : Is T "_demand_lots" ⟨1, 1, kdemand_lots⟩
structure Drw (T : Txt) : Prop where
  law_dice : Is T "_law_dice" ⟨2, 4, klaw_dice⟩
  law_roll : Is T "_law_roll" ⟨2, 5, klaw_roll⟩
  law_pick : Is T "_law_pick" ⟨2, 2, klaw_pick⟩
  law_mixed : Is T "_law_mixed" ⟨2, 4, klaw_mixed⟩
structure LoB (T : Txt) : Prop where
  law_lo_sum : Is T "_law_lo_sum" ⟨2, 3, klaw_lo_sum⟩
  law_lo_is_odd : Is T "_law_lo_is_odd" ⟨2, 3, klaw_lo_is_odd⟩
end G
end
section
set_option Elab.async false
set_option linter.all false
set_option autoImplicit false
set_option maxHeartbeats 4000000
/-! numbers, lots, masks: what the defs do in any text that has them -/
namespace G
open PySem L2 Z
variable {T : Txt}
theorem is_whole (B : Bits T) (n : Nat) (v : D) (S : Sto) (h : okV S v) : run T (n + 1) "is_whole" [v] S = some (.bl (wholeD v), S) := by
  rw [B.is_whole]
  obtain ⟨b, e1, c, e2, e3⟩ := isi_int h
  rw [← e3]
  unfold runD kis_whole
  cases b <;> cases c <;> simp [exs, ex1, evE, getV, e1, e2, gc_blS, truF]
theorem is_between (B : Bits T) (n : Nat) (v : D) (a b : Int) (S : Sto) (h : okV S v) : run T (n + 2) "is_between" [v, .int a, .int b] S = some (.bl (betD v a b), S) := by
  rw [B.is_between]
  unfold runD kis_between
  simp [exs, ex1, evE, evS, getV, is_whole B n v S h, gc_blS, truF]
  cases v with
  | int i =>
    simp [wholeD, isInt, cmpF, gc_blS, betD]
    by_cases h1 : a ≤ i <;> simp [h1, gc_blS]
  | _ => simp [wholeD, isInt, betD, gc_blS]
theorem asc_no (B : Bits T) (n : Nat) (v : D) (b a : Int) (x : Option D) (S : Sto) (d : D) (h : okV S d) (hb : betD d a (b - 1) = false) : frS (run T (n + 2)) S.length (.nm 3) kis_ascending_1 d [some v, some (.int b), some (.int a), x] S = some (.ret (.bl false), [some v, some (.int b), some (.int a), some d], S) := by
  unfold frS kis_ascending_1
  simp [tgF, exs, ex1, evT, evE, evS, getV, is_between B n d a (b - 1) S h, gc_blS, gc_intS, truF, binF, hb]
theorem asc_yes (B : Bits T) (n : Nat) (v : D) (b a i : Int) (x : Option D) (S : Sto) (hb : betD (.int i) a (b - 1) = true) : frS (run T (n + 2)) S.length (.nm 3) kis_ascending_1 (.int i) [some v, some (.int b), some (.int a), x] S = some (.nx, [some v, some (.int b), some (.int (i + 1)), some (.int i)], S) := by
  unfold frS kis_ascending_1
  simp [tgF, exs, ex1, evT, evE, evS, getV, is_between B n (.int i) a (b - 1) S trivial, gc_blS, gc_intS, truF, binF, hb]
theorem asc_loop (B : Bits T) (n : Nat) (v : D) (b : Int) (S : Sto) : ∀ (ds ds0 : List D) (a : Int) (x : Option D), (∀ d, d ∈ ds → okV S d) → ∃ e, forF (frS (run T (n + 2)) S.length (.nm 3) kis_ascending_1) (fun S2 => still S2 none ds0) ds [some v, some (.int b), some (.int a), x] S = some (if ascL (b - 1) a ds = true then .nx else .ret (.bl false), e, S)
  | [], ds0, a, x, h => ⟨_, for_nil rfl⟩
  | d :: r, ds0, a, x, h => by
    have h1 := h d List.mem_cons_self
    have h2 : ∀ z, z ∈ r → okV S z := fun z hz => h z (List.mem_cons_of_mem _ hz)
    cases hb : betD d a (b - 1) with
    | false =>
      refine ⟨[some v, some (.int b), some (.int a), some d], (for_ret rfl (asc_no B n v b a x S d h1 hb)).trans ?_⟩
      simp [ascL, hb]
    | true =>
      cases d with
      | int i =>
        rw [for_nx rfl (asc_yes B n v b a i x S hb)]
        obtain ⟨e, q⟩ := asc_loop B n v b S r ds0 (i + 1) _ h2
        exact ⟨e, by rw [q]; simp [ascL, hb]⟩
      | _ => cases hb
/-- what may be looked at, with its items -/
def okT (S : Sto) (v : D) : Prop := okV S v ∧ ∀ ds, v = .tup ds → ∀ d, d ∈ ds → okV S d
theorem okT_ints {S : Sto} (ns : List Int) : okT S (.tup (ns.map .int)) := ⟨trivial, fun ds e d hd => by
  cases e
  obtain ⟨i, _, rfl⟩ := List.mem_map.mp hd
  trivial⟩
theorem is_ascending (B : Bits T) (n : Nat) (v : D) (b : Int) (S : Sto) (h : okT S v) : run T (n + 3) "is_ascending" [v, .int b] S = some (.bl (ascD v b), S) := by
  rw [B.is_ascending]
  unfold runD kis_ascending
  have h0 := h.1
  cases v with
  | tup ds =>
    obtain ⟨e, q⟩ := asc_loop B n (.tup ds) b S ds ds 0 none (h.2 ds rfl)
    have hi : evI (run T (n + 2)) S.length [some (.tup ds), some (.int b), some (.int 0), none] (.ex (.var 0)) S = some (ds, none, S) := by
      simp [evI, evE, getV, itV]
    have hf := x_for (φ := run T (n + 2)) (base := S.length) (g := .nm 3) (b := kis_ascending_1) hi
    rw [q] at hf
    simp [exs, ex1.eq_1, ex1.eq_8, ex1.eq_9, ex1.eq_10, ex1.eq_11, ex1.eq_12, hf, evE, evT, getV, isi_tup h0, gc_blS, truF, tupD]
    unfold ascD
    cases hh : ascL (b - 1) 0 ds <;> simp [gc_blS, hh]
  | _ => simp [exs, ex1, evE, evT, evI, getV, isi_tup h0, gc_blS, truF, tupD, ascD]
theorem mask_turn (n : Nat) (v : D) (x : Option D) (i : Int) (S : Sto) (h0 : 0 ≤ i) (h1 : i ≤ 1000000) : lcS (run T n) S.length [some v, x] [1] (.nm 1) .no kmask_of_1 (.int i) S = some (some (.int (2 ^ i.toNat)), S) := by
  unfold lcS kmask_of_1
  simp [tgF, wipeE, evO, evE, getV, binF, h0, h1, gc_intS]
theorem mask_ofI (B : Bits T) (n : Nat) (ns : List Int) (S : Sto) (h : ∀ i, i ∈ ns → 0 ≤ i ∧ i ≤ 1000000) (hl : ns.length ≤ 1000) : run T (n + 1) "mask_of" [.tup (ns.map .int)] S = some (.int (maskI ns), S) := by
  rw [B.mask_of]
  unfold runD kmask_of
  have hi : evI (run T n) S.length [some (.tup (ns.map .int)), none] (.ex (.var 0)) S = some (ns.map .int, none, S) := by
    simp [evI, evE, getV, itV]
  have hc := e_lc (φ := run T n) (base := S.length) (own := [1]) (g := .nm 1) (c := .no) (e := kmask_of_1) rfl hi (lc_intsM (fun i => .int (2 ^ i.toNat)) rfl ns (by show ns.length ≤ 100000; omega) fun i hi => mask_turn n _ _ i S (h i hi).1 (h i hi).2)
  obtain ⟨ms, hms⟩ : ∃ ms : List Int, ms = ns.map fun i => (2 : Int) ^ i.toNat := ⟨_, rfl⟩
  rw [show ns.map (fun i => D.int (2 ^ i.toNat)) = ms.map D.int by rw [hms, List.map_map]; rfl] at hc
  have hs := e_blt (φ := run T n) (base := S.length) (env := [some (.tup (ns.map .int)), none]) (S := S) (b := .sum) (es := .cons (.lc [1] (.nm 1) (.ex (.var 0)) .no kmask_of_1) .nil) (vs := [.ref S.length]) (S1 := S ++ [.lst (ms.map D.int)]) (by simp [evS, hc, new, gc_new0 (o := .lst (ms.map D.int)) (cl_ints _)])
  have e : maskI ns = ms.sum := by rw [hms]; rfl
  simp [exs, ex1, hs, bltF, lst_new, intsOf_ints, gc_intA, gc_intS, e]
theorem mask_of (B : Bits T) (n : Nat) (ns : List Int) (S : Sto) (h : Lot ns) (hl : ns.length ≤ 1000) : run T (n + 1) "mask_of" [.tup (ns.map .int)] S = some (.int (maskN ns : Nat), S) := by
  rw [mask_ofI B n ns S (fun i hi => ⟨(h.lo i hi).1, by have := (h.lo i hi).2; omega⟩) hl, maskI_nat]
end G
end
section
set_option Elab.async false
set_option linter.all false
set_option autoImplicit false
set_option maxHeartbeats 4000000
/-! rows of bits: cleared, reduced -/
namespace G
open PySem L2 Z M
variable {T : Txt}
/-- a list of masks -/
abbrev msk (ms : List Nat) : List D := ms.map fun m : Nat => D.int (m : Int)
theorem cl_msk {n : Nat} : ∀ ms : List Nat, clL n (msk ms) = true
  | [] => rfl
  | m :: ms => cl_msk ms
def LstAt (S : Sto) (i : Nat) (xs : List D) : Prop := S[i]? = some (.lst xs)
theorem LstAt.lt {S : Sto} {i : Nat} {xs : List D} (h : LstAt S i xs) : i < S.length := (List.getElem?_eq_some_iff.mp h).1
theorem LstAt.app {S t : Sto} {i : Nat} {xs : List D} (h : LstAt S i xs) : LstAt (S ++ t) i xs := by
  unfold LstAt
  rw [List.getElem?_append_left h.lt]
  exact h
theorem LstAt.new {S : Sto} {xs : List D} : LstAt (S ++ [.lst xs]) S.length xs := at_new
theorem LstAt.still {S : Sto} {i : Nat} {xs : List D} (h : LstAt S i xs) : Z.still S (some i) xs = true := by
  show (match (S[i]?).bind SO.seq? with
    | some ys => beqL ys xs
    | none => false) = true
  rw [show S[i]? = some (.lst xs) from h]
  exact beqL_refl xs
theorem LstAt.it {S : Sto} {i : Nat} {xs : List D} (h : LstAt S i xs) : itV S (.ref i) = some (xs, some i) := by
  show ((S[i]?).bind SO.seq?).map (fun xs => (xs, some i)) = _
  rw [show S[i]? = some (.lst xs) from h]
  rfl
theorem LstAt.walk {S : Sto} {i : Nat} {xs : List D} (h : LstAt S i xs) {φ : Phi} {base j : Nat} {env : Ev} (hv : getV env j = some (.ref i)) : evI φ base env (.ex (.var j)) S = some (xs, some i, S) := by
  rw [evI, e_var, hv]
  show (itV S (.ref i)).map (fun p => (p.1, p.2, S)) = _
  rw [h.it]
  rfl
theorem head_of (R : Rows T) (n m : Nat) (S : Sto) : run T (n + 1) "head_of" [.int (m : Int)] S = some (.int (hd m : Nat), S) := by
  rw [R.head_of]
  have q := hd_int m
  obtain ⟨x, hx⟩ : ∃ x : Int, x = (m : Int) := ⟨_, rfl⟩
  rw [← hx] at q ⊢
  unfold runD khead_of
  simp [exs, ex1, evE, getV, unF, binF, gc_intS, q]
theorem clear_turn (R : Rows T) (n : Nat) (l m0 : D) (a r : Nat) (x : Option D) (S : Sto) (hr : r ≠ 0) :
    frS (run T (n + 1)) S.length (.nm 3) kcleared_1 (.int (r : Int)) [some l, some m0, some (.int (a : Int)), x] S = some (.nx, [some l, some m0, some (.int ((if a.testBit (low r) then a ^^^ r else a : Nat) : Int)), some (.int (r : Int))], S) := by
  have q1 := head_of R n r S
  have q2 := and_hd a r hr
  have q3 := xor_int a r
  unfold frS kcleared_1
  cases c : a.testBit (low r) with
  | true =>
    rw [c] at q2
    have q2' : ¬ Builtin.bitAnd (a : Int) (hd r : Nat) = 0 := by simpa using q2
    rw [if_pos rfl]
    simp [tgF, exs, ex1, evT, evE, evS, getV, q1, gc_intS, binF, truF, q2, augOk, q3]
  | false =>
    rw [c] at q2
    have q2' : Builtin.bitAnd (a : Int) (hd r : Nat) = 0 := by simpa using q2
    simp [tgF, exs, ex1, evT, evE, evS, getV, q1, gc_intS, binF, truF, q2]
theorem clear_loop (R : Rows T) (n : Nat) (l m0 : D) (S : Sto) (i : Nat) (ds : List D) (hok : Z.still S (some i) ds = true) : ∀ (rs : List Nat) (a : Nat) (x : Option D), (∀ r, r ∈ rs → r ≠ 0) →
    ∃ y, forF (frS (run T (n + 1)) S.length (.nm 3) kcleared_1) (fun S2 => Z.still S2 (some i) ds) (msk rs) [some l, some m0, some (.int (a : Int)), x] S = some (.nx, [some l, some m0, some (.int (clr rs a : Nat)), y], S)
  | [], a, x, _ => ⟨x, for_nil hok⟩
  | r :: rs, a, x, h => by
    obtain ⟨b, hb⟩ : ∃ b, b = if a.testBit (low r) then a ^^^ r else a := ⟨_, rfl⟩
    have ht := clear_turn R n l m0 a r x S (h r List.mem_cons_self)
    rw [← hb] at ht
    obtain ⟨y, q⟩ := clear_loop R n l m0 S i ds hok rs b (some (.int (r : Int))) fun z hz => h z (List.mem_cons_of_mem _ hz)
    refine ⟨y, (for_nx hok ht).trans ?_⟩
    rw [q, hb]
    rfl
theorem cleared (R : Rows T) (n i m : Nat) (rs : List Nat) (S : Sto) (hL : LstAt S i (msk rs)) (hr : ∀ r, r ∈ rs → r ≠ 0) : run T (n + 2) "cleared" [.ref i, .int (m : Int)] S = some (.int (clr rs m : Nat), S) := by
  rw [R.cleared]
  obtain ⟨y, q⟩ := clear_loop R n (.ref i) (.int (m : Int)) S i (msk rs) hL.still rs m none hr
  have hf := x_for (φ := run T (n + 1)) (base := S.length) (g := .nm 3) (b := kcleared_1) (hL.walk (φ := run T (n + 1)) (base := S.length) (j := 0) (env := [some (.ref i), some (.int (m : Int)), some (.int (m : Int)), none]) rfl)
  have hx : exs (run T (n + 1)) S.length kcleared [some (.ref i), some (.int (m : Int)), none, none] S = some (.ret (.int (clr rs m : Nat)), [some (.ref i), some (.int (m : Int)), some (.int (clr rs m : Nat)), y], S) := by
    unfold kcleared
    refine (xs_nx (x_set (i := 2) (x := .int (m : Int)) (by rw [e_var]; rfl))).trans ?_
    refine (xs_nx (hf.trans q)).trans ?_
    exact xs_ret (x_ret (by rw [e_var]; rfl))
  rw [run_ret (φ := run T (n + 1)) (c := ⟨2, 4, kcleared⟩) (vs := [.ref i, .int (m : Int)]) (S := S) rfl hx, gc_intS]
end G
end
section
set_option Elab.async false
set_option linter.all false
set_option autoImplicit false
set_option maxHeartbeats 4000000
/-! reduced -/
namespace G
open PySem L2 Z M
variable {T : Txt}
theorem stoEq_refl : ∀ S : Sto, stoEq S S = true
  | [] => rfl
  | o :: S => by
    show (o.beq o && stoEq S S) = true
    rw [stoEq_refl S, Bool.and_true]
    cases o with
    | lst a => exact beqL_refl a
    | fro a => exact beqL_refl a
    | dct a =>
      show (decide (a.map (·.1) = a.map (·.1)) && beqL (a.map (·.2)) (a.map (·.2))) = true
      rw [beqL_refl]
      simp
    | fdc a =>
      show (decide (a.map (·.1) = a.map (·.1)) && beqL (a.map (·.2)) (a.map (·.2))) = true
      rw [beqL_refl]
      simp
    | tbl f => exact decide_eq_true rfl
theorem put_le (rs : List Nat) (m : Nat) : (put rs m).length ≤ rs.length + 1 := by
  unfold put
  split
  · omega
  · simp
/-- a row of the comprehension -/
theorem elt_turn (φ : Phi) (d j x2 x3 x4 : Option D) (x5 : Option D) (c r : Nat) (S : Sto) (hc : c ≠ 0) (h3 : x3 = some (.int (c : Int))) (h4 : x4 = some (.int (hd c : Nat))) :
    lcS φ S.length [d, j, x2, x3, x4, x5] [5] (.nm 5) .no kreduced_2 (.int (r : Int)) S = some (some (.int ((turn c r : Nat) : Int)), S) := by
  subst h3 h4
  have q2 := and_hd r c hc
  have q3 := xor_int r c
  have q2' : (Builtin.bitAnd (r : Int) (hd c : Nat) != 0) = r.testBit (low c) := q2
  unfold lcS kreduced_2 turn
  cases e : r.testBit (low c) with
  | true =>
    rw [e] at q2'
    simp [tgF, wipeE, evO, evT, evE, getV, binF, gc_intS, truF, q2', q3]
  | false =>
    rw [e] at q2'
    simp [tgF, wipeE, evO, evT, evE, getV, binF, gc_intS, truF, q2']
theorem add_lists (φ : Phi) (base : Nat) (d j x2 x3 x4 x5 : Option D) (i c : Nat) (rs : List Nat) (S : Sto) (hc : c ≠ 0) (hj : j = some (.ref i)) (hL : LstAt S i (msk rs)) (hl : rs.length ≤ 1000) (h3 : x3 = some (.int (c : Int))) (h4 : x4 = some (.int (hd c : Nat))) :
    evE φ base [d, j, x2, x3, x4, x5] (.bin .Add (.lc [5] (.nm 5) (.ex (.var 1)) .no kreduced_2) (.lst (.cons (.var 3) .nil))) S = some (.ref S.length, S ++ [.lst (msk (rs.map (turn c) ++ [c]))]) := by
  have e1 : evE φ S.length [d, j, x2, x3, x4, x5] (.lc [5] (.nm 5) (.ex (.var 1)) .no kreduced_2) S = some (.ref S.length, S ++ [.lst (msk (rs.map (turn c)))]) := by
    have hi := hL.walk (φ := φ) (base := S.length) (j := 1) (env := [d, j, x2, x3, x4, x5]) (by rw [hj]; rfl)
    have hm := lc_intsM (step := lcS φ S.length [d, j, x2, x3, x4, x5] [5] (.nm 5) .no kreduced_2) (ok := fun S2 => Z.still S2 (some i) (msk rs)) (S := S) (fun z => .int ((turn c z.toNat : Nat) : Int)) hL.still (rs.map fun r : Nat => (r : Int)) (by show _ ≤ 100000; rw [List.length_map]; omega) fun z hz => by
      obtain ⟨r, _, rfl⟩ := List.mem_map.mp hz
      exact elt_turn φ d j x2 x3 x4 x5 c r S hc h3 h4
    rw [List.map_map, List.map_map] at hm
    have hc2 := e_lc (φ := φ) (base := S.length) (own := [5]) (g := .nm 5) (c := .no) (e := kreduced_2) rfl hi hm
    rw [hc2]
    have e : rs.map ((fun z : Int => D.int ((turn c z.toNat : Nat) : Int)) ∘ fun r : Nat => (r : Int)) = msk (rs.map (turn c)) := by
      unfold msk
      rw [List.map_map]
      rfl
    rw [e]
    exact gc_new0 (cl_msk _)
  have e2 : evE φ S.length [d, j, x2, x3, x4, x5] (.lst (.cons (.var 3) .nil)) (S ++ [.lst (msk (rs.map (turn c)))]) = some (.ref (S.length + 1), S ++ [.lst (msk (rs.map (turn c))), .lst (msk [c])]) := by
    subst h3
    obtain ⟨S1, hS1⟩ : ∃ S1, S1 = S ++ [SO.lst (msk (rs.map (turn c)))] := ⟨_, rfl⟩
    have hlen : S1.length = S.length + 1 := by rw [hS1]; simp
    rw [← hS1]
    have : evE φ S.length [d, j, x2, some (.int (c : Int)), x4, x5] (.lst (.cons (.var 3) .nil)) S1 = gc S1.length (new S1 (.lst (msk [c]))) := by
      rw [evE]
      simp [evS, evE, getV, lim]
    rw [this]
    have g := gc_new0 (S := S1) (o := .lst (msk [c])) (cl_msk [c])
    show gc S1.length (some (.ref S1.length, S1 ++ [.lst (msk [c])])) = _
    rw [g, hlen, hS1, List.append_assoc]
    rfl
  rw [e_bin e1 e2]
  have a1 : (S ++ [SO.lst (msk (rs.map (turn c))), .lst (msk [c])])[S.length]? = some (.lst (msk (rs.map (turn c)))) := by
    rw [List.getElem?_append_right (Nat.le_refl _), Nat.sub_self]
    rfl
  have a2 : (S ++ [SO.lst (msk (rs.map (turn c))), .lst (msk [c])])[S.length + 1]? = some (.lst (msk [c])) := by
    rw [List.getElem?_append_right (by omega)]
    rw [show S.length + 1 - S.length = 1 by omega]
    rfl
  have hb : binF .Add (.ref S.length) (.ref (S.length + 1)) (S ++ [SO.lst (msk (rs.map (turn c))), .lst (msk [c])]) = some (.ref (S.length + 2), S ++ ([SO.lst (msk (rs.map (turn c))), .lst (msk [c])] ++ [.lst (msk (rs.map (turn c) ++ [c]))])) := by
    have hle : (msk (rs.map (turn c))).length + (msk [c]).length ≤ lim := by
      show _ ≤ 100000
      simp [msk]
      omega
    unfold binF
    simp only [a1, a2]
    rw [if_pos hle]
    show some (D.ref (S ++ [SO.lst (msk (rs.map (turn c))), .lst (msk [c])]).length, (S ++ [SO.lst (msk (rs.map (turn c))), .lst (msk [c])]) ++ [SO.lst (msk (rs.map (turn c)) ++ msk [c])]) = _
    have e : msk (rs.map (turn c)) ++ msk [c] = msk (rs.map (turn c) ++ [c]) := by simp [msk]
    rw [e, List.append_assoc]
    simp
  rw [hb]
  exact gc_new (t := [SO.lst (msk (rs.map (turn c))), .lst (msk [c])]) (k := 2) rfl (cl_msk _)
theorem red_turn (R : Rows T) (n base i m : Nat) (d : D) (rs : List Nat) (x2 x3 x4 x5 : Option D) (S : Sto) (hL : LstAt S i (msk rs)) (hr : ∀ r, r ∈ rs → r ≠ 0) (hl : rs.length ≤ 1000) :
    ∃ (y3 y4 y5 : Option D) (i' : Nat) (t : Sto), frS (run T (n + 2)) base (.nm 2) kreduced_3 (.int (m : Int)) [some d, some (.ref i), x2, x3, x4, x5] S = some (.nx, [some d, some (.ref i'), some (.int (m : Int)), y3, y4, y5], S ++ t) ∧ LstAt (S ++ t) i' (msk (put rs m)) := by
  obtain ⟨c, hc⟩ : ∃ c, c = clr rs m := ⟨_, rfl⟩
  have h1 : evE (run T (n + 2)) base [some d, some (.ref i), some (.int (m : Int)), x3, x4, x5] (.call "cleared" (.cons (.var 1) (.cons (.var 2) .nil))) S = some (.int (c : Int), S) := by
    have q := cleared R n i m rs S hL hr
    rw [← hc] at q
    have hs : evS (run T (n + 2)) S.length [some d, some (.ref i), some (.int (m : Int)), x3, x4, x5] (.cons (.var 1) (.cons (.var 2) .nil)) S = some ([.ref i, .int (m : Int)], S) := by
      simp [evS, evE, getV]
    rw [e_call hs, q, gc_intS]
  have hv : evT (run T (n + 2)) base [some d, some (.ref i), some (.int (m : Int)), some (.int (c : Int)), x4, x5] (.var 3) S = some (decide (c ≠ 0), S) := by
    unfold evT
    rw [e_var]
    simp [getV, truF]
    by_cases z : c = 0 <;> simp [z]
  have hp : put rs m = if c = 0 then rs else rs.map (turn c) ++ [c] := by
    unfold put
    rw [← hc]
    rfl
  rw [hp]
  unfold frS
  simp only [tgF, List.set_cons_succ, List.set_cons_zero]
  unfold kreduced_3
  by_cases z : c = 0
  · rw [if_pos z]
    refine ⟨some (.int (c : Int)), x4, x5, i, [], ?_, by rw [List.append_nil]; exact hL⟩
    refine (xs_nx (x_set (i := 3) h1)).trans ?_
    refine (xs_nx ((x_if hv).trans ?_)).trans xs_nil
    rw [if_neg (by simp [z]), List.append_nil]
    exact xs_nil
  · rw [if_neg z]
    have h2 : evE (run T (n + 2)) base [some d, some (.ref i), some (.int (m : Int)), some (.int (c : Int)), x4, x5] (.call "head_of" (.cons (.var 3) .nil)) S = some (.int (hd c : Nat), S) := by
      have q := head_of R (n + 1) c S
      have hs : evS (run T (n + 2)) S.length [some d, some (.ref i), some (.int (m : Int)), some (.int (c : Int)), x4, x5] (.cons (.var 3) .nil) S = some ([.int (c : Int)], S) := by
        simp [evS, evE, getV]
      rw [e_call hs, q, gc_intS]
    have h5 := add_lists (run T (n + 2)) base (some d) (some (.ref i)) (some (.int (m : Int))) (some (.int (c : Int))) (some (.int (hd c : Nat))) x5 i c rs S z rfl hL hl rfl rfl
    refine ⟨some (.int (c : Int)), some (.int (hd c : Nat)), x5, S.length, [.lst (msk (rs.map (turn c) ++ [c]))], ?_, LstAt.new⟩
    refine (xs_nx (x_set (i := 3) h1)).trans ?_
    refine (xs_nx ((x_if hv).trans ?_)).trans xs_nil
    rw [if_pos (by simp [z])]
    refine (xs_nx (x_set (i := 4) h2)).trans ?_
    exact (xs_nx (x_set (i := 1) h5)).trans xs_nil
theorem red_loop (R : Rows T) (n base k : Nat) (d : D) (all : List D) : ∀ (ms rs : List Nat) (i : Nat) (x2 x3 x4 x5 : Option D) (S : Sto), Red rs → rs.length + ms.length ≤ 1000 → LstAt S i (msk rs) → LstAt S k all →
    ∃ (y2 y3 y4 y5 : Option D) (i' : Nat) (t : Sto), forF (frS (run T (n + 2)) base (.nm 2) kreduced_3) (fun S2 => Z.still S2 (some k) all) (msk ms) [some d, some (.ref i), x2, x3, x4, x5] S = some (.nx, [some d, some (.ref i'), y2, y3, y4, y5], S ++ t) ∧ LstAt (S ++ t) i' (msk (puts rs ms))
  | [], rs, i, x2, x3, x4, x5, S, _, _, hL, hk => ⟨x2, x3, x4, x5, i, [], by rw [List.append_nil]; exact for_nil hk.still, by rw [List.append_nil]; exact hL⟩
  | m :: ms, rs, i, x2, x3, x4, x5, S, hR, hl, hL, hk => by
    rw [List.length_cons] at hl
    obtain ⟨y3, y4, y5, i', t, h1, h2⟩ := red_turn R n base i m d rs x2 x3 x4 x5 S hL hR.1 (by omega)
    have hp := put_le rs m
    obtain ⟨z2, z3, z4, z5, i'', t', h3, h4⟩ := red_loop R n base k d all ms (put rs m) i' (some (.int (m : Int))) y3 y4 y5 (S ++ t) (put_spec hR).1 (by omega) h2 hk.app
    refine ⟨z2, z3, z4, z5, i'', t ++ t', ?_, ?_⟩
    · rw [← List.append_assoc]
      exact (for_nx hk.still h1).trans h3
    · rw [← List.append_assoc]
      exact h4
end G
end
section
set_option Elab.async false
set_option linter.all false
set_option autoImplicit false
set_option maxHeartbeats 4000000
/-! reduced: sorted at last -/
namespace G
open PySem L2 Z M
variable {T : Txt}
theorem hd_le {a b : Nat} (ha : a ≠ 0) (hb : b ≠ 0) : (hd a : Int) < (hd b : Int) ↔ low a < low b := by
  unfold hd
  rw [if_neg ha, if_neg hb]
  constructor
  · intro h
    refine Nat.lt_of_not_le fun c => ?_
    have := Nat.pow_le_pow_right (show 0 < 2 by decide) c
    omega
  · intro h
    have := Nat.pow_lt_pow_right (show 1 < 2 by decide) h
    omega
def kx (r : Nat) : Int × D := ((hd r : Int), .int (r : Int))
theorem insK_ins {r : Nat} (hr : r ≠ 0) : ∀ l : List Nat, (∀ y, y ∈ l → y ≠ 0) → insK (hd r : Int) (.int (r : Int)) (l.map kx) = (ins r l).map kx
  | [], _ => rfl
  | y :: l, h => by
    have hy := h y List.mem_cons_self
    show (if (kx y).1 < (hd r : Int) then kx y :: insK (hd r : Int) (.int (r : Int)) (l.map kx) else ((hd r : Int), D.int (r : Int)) :: kx y :: l.map kx) = _
    unfold ins
    by_cases c : low r ≤ low y
    · rw [if_pos c, if_neg]
      · rfl
      · show ¬ (hd y : Int) < (hd r : Int)
        rw [hd_le hy hr]
        omega
    · rw [if_neg c, if_pos]
      · rw [insK_ins hr l fun z hz => h z (List.mem_cons_of_mem _ hz)]
        rfl
      · show (hd y : Int) < (hd r : Int)
        rw [hd_le hy hr]
        omega
theorem sortK_srt : ∀ l : List Nat, (∀ y, y ∈ l → y ≠ 0) → sortK (l.map kx) = (srt l).map kx
  | [], _ => rfl
  | r :: l, h => by
    have h2 : ∀ y, y ∈ l → y ≠ 0 := fun y hy => h y (List.mem_cons_of_mem _ hy)
    show insK (hd r : Int) (.int (r : Int)) (sortK (l.map kx)) = _
    rw [sortK_srt l h2, insK_ins (h r List.mem_cons_self) (srt l) fun y hy => h2 y ((srt_perm l).mem_iff.mp hy)]
    rfl
theorem key_at (φ : Phi) (L r : Nat) (S : Sto) : evE φ L [some (.int (r : Int))] kreduced_1 S = some (.int (hd r : Nat), S) := by
  have q := hd_int r
  obtain ⟨x, hx⟩ : ∃ x : Int, x = (r : Int) := ⟨_, rfl⟩
  rw [← hx] at q ⊢
  unfold kreduced_1
  simp [evE, getV, unF, binF, gc_intS, q]
theorem keys_at (φ : Phi) (L : Nat) (S : Sto) : ∀ rs : List Nat, keysF (fun d => evE φ L [some d] kreduced_1 S) S (msk rs) = some (rs.map fun r => (hd r : Int))
  | [] => rfl
  | r :: rs => by
    show keysF (fun d => evE φ L [some d] kreduced_1 S) S (D.int (r : Int) :: msk rs) = _
    rw [keysF, keys_at φ L S rs, key_at]
    simp only
    rw [if_pos (stoEq_refl S)]
    rfl
theorem zip_kx : ∀ rs : List Nat, (rs.map fun r => (hd r : Int)).zip (msk rs) = rs.map kx
  | [] => rfl
  | r :: rs => by
    show ((hd r : Int), D.int (r : Int)) :: (rs.map fun r => (hd r : Int)).zip (msk rs) = _
    rw [zip_kx rs]
    rfl
theorem skl_red (φ : Phi) (base i : Nat) (env : Ev) (rs : List Nat) (S : Sto) (hv : getV env 1 = some (.ref i)) (hL : LstAt S i (msk rs)) (h1 : S[1]? = some (.tbl "reduced")) (hr : ∀ r, r ∈ rs → r ≠ 0) :
    evE φ base env (.skl 1 "reduced" (.var 1) kreduced_1) S = some (.ref S.length, S ++ [.lst (msk (srt rs))]) := by
  rw [evE, e_var, hv]
  simp only [Option.map_some]
  have hb : (S[i]?).bind SO.seq? = some (msk rs) := by
    rw [show S[i]? = some (.lst (msk rs)) from hL]
    rfl
  rw [hb, h1]
  simp only
  have hi : i ≠ 1 := fun z => by
    have q : S[i]? = some (.lst (msk rs)) := hL
    rw [z, h1] at q
    cases q
  have hp : (msk rs).all plainD = true := by
    rw [List.all_eq_true]
    intro d hd
    obtain ⟨r, _, rfl⟩ := List.mem_map.mp hd
    rfl
  rw [if_pos (by simp [hp, hi]), keys_at]
  simp only
  rw [zip_kx, sortK_srt rs hr]
  have e : ((srt rs).map kx).map (·.2) = msk (srt rs) := by rw [List.map_map]; rfl
  rw [e]
  exact gc_new0 (cl_msk _)
theorem reduced (R : Rows T) (n k : Nat) (ms : List Nat) (S : Sto) (hk : LstAt S k (msk ms)) (h1 : S[1]? = some (.tbl "reduced")) (hl : ms.length ≤ 1000) : run T (n + 3) "reduced" [.ref k] S = some (.ref S.length, S ++ [.lst (msk (frm ms))]) := by
  rw [R.reduced]
  have e0 : evE (run T (n + 2)) S.length [some (.ref k), none, none, none, none, none] (.lst .nil) S = some (.ref S.length, S ++ [SO.lst (msk [])]) := by
    have : evE (run T (n + 2)) S.length [some (.ref k), none, none, none, none, none] (.lst .nil) S = gc S.length (new S (.lst [])) := by
      rw [evE]
      simp [evS, lim]
    rw [this]
    exact gc_new0 rfl
  obtain ⟨y2, y3, y4, y5, i', t, h2, h3⟩ := red_loop R n S.length k (.ref k) (msk ms) ms [] S.length none none none none (S ++ [SO.lst (msk [])]) red_nil (by simpa using hl) LstAt.new hk.app
  have hf := x_for (φ := run T (n + 2)) (base := S.length) (g := .nm 2) (b := kreduced_3) ((hk.app (t := [SO.lst (msk [])])).walk (φ := run T (n + 2)) (base := S.length) (j := 0) (env := [some (.ref k), some (.ref S.length), none, none, none, none]) rfl)
  have hlt1 : 1 < S.length := (List.getElem?_eq_some_iff.mp h1).1
  have ht : (S ++ [SO.lst (msk [])] ++ t)[1]? = some (.tbl "reduced") := by
    rw [List.append_assoc, List.getElem?_append_left hlt1]
    exact h1
  have hs := skl_red (run T (n + 2)) S.length i' [some (.ref k), some (.ref i'), y2, y3, y4, y5] (puts [] ms) (S ++ [SO.lst (msk [])] ++ t) rfl h3 ht (puts_spec red_nil).1.1
  have hx : exs (run T (n + 2)) S.length kreduced [some (.ref k), none, none, none, none, none] S = some (.ret (.ref (S ++ [SO.lst (msk [])] ++ t).length), [some (.ref k), some (.ref i'), y2, y3, y4, y5], S ++ [SO.lst (msk [])] ++ t ++ [.lst (msk (srt (puts [] ms)))]) := by
    unfold kreduced
    refine (xs_nx (x_set (i := 1) e0)).trans ?_
    refine (xs_nx (hf.trans h2)).trans ?_
    exact xs_ret (x_ret hs)
  rw [run_ret (φ := run T (n + 2)) (c := ⟨1, 6, kreduced⟩) (vs := [.ref k]) (S := S) rfl hx]
  have hlen : (S ++ [SO.lst (msk [])] ++ t).length = S.length + ([SO.lst (msk [])] ++ t).length := by simp [Nat.add_assoc]
  have hst : S ++ [SO.lst (msk [])] ++ t ++ [SO.lst (msk (srt (puts [] ms)))] = S ++ (([SO.lst (msk [])] ++ t) ++ [SO.lst (msk (frm ms))]) := by
    rw [List.append_assoc, List.append_assoc, List.append_assoc]
    rfl
  rw [hlen, hst]
  exact gc_new rfl (cl_msk _)
end G
end
section
set_option Elab.async false
set_option linter.all false
set_option autoImplicit false
set_option maxHeartbeats 4000000
/-! lots and masks; forms -/
namespace G
open PySem L2 Z M
variable {T : Txt}
/-- a tuple of lots -/
abbrev lotD (l : List Int) : D := .tup (l.map .int)
abbrev lotsD (ls : List (List Int)) : D := .tup (ls.map lotD)
theorem cl_lots {n : Nat} : ∀ ls : List (List Int), clL n (ls.map lotD) = true := fun ls => cl_tups ls
theorem lotI_len (m : Nat) : (lotI m).length ≤ 24 := by
  unfold lotI
  rw [List.length_map]
  exact Nat.le_trans (List.length_filter_le _ _) (by rw [List.length_range]; exact Nat.le_refl _)
theorem Lot.len {l : List Int} (h : Lot l) : l.length ≤ 24 := by
  rw [← lot_mask h]
  exact lotI_len _
theorem bits_turn (n : Nat) (m : Int) (x : Option D) (i : Int) (S : Sto) (h0 : 0 ≤ i) : lcS (run T n) S.length [some (.int m), x] [1] (.nm 1) klot_of_1 (.var 1) (.int i) S = some (if Builtin.bitAnd (m / 2 ^ i.toNat) 1 = 0 then none else some (.int i), S) := by
  unfold lcS klot_of_1
  simp [tgF, wipeE, evO, evE, getV, binF, h0, gc_intS, truF]
  by_cases h : Builtin.bitAnd (m / 2 ^ i.toNat) 1 = 0
  · simp [h]
  · have h' : (Builtin.bitAnd (m / 2 ^ i.toNat) 1 != 0) = true := by simpa using h
    simp [h, h']
theorem bits_it (n : Nat) (m : Nat) (S : Sto) (hm : Low m) : evI (run T n) S.length [some (.int (m : Int)), none] (.rng1 (.met .bits (.var 0) .nil)) S = some (((List.range (Builtin.Int.intBits (m : Int))).map fun k : Nat => (k : Int)).map .int, none, S) := by
  have h1 : evE (run T n) S.length [some (.int (m : Int)), none] (.met .bits (.var 0) .nil) S = some (.int (Builtin.Int.intBits (m : Int) : Nat), S) := by
    simp [evE, getV, evS, metP, metF]
  rw [evI, h1]
  simp only [low_rg hm, if_true, rgI_map, Int.zero_add, Int.toNat_natCast]
theorem bits_lc (n : Nat) (m : Nat) (S : Sto) (hm : Low m) : evE (run T n) S.length [some (.int (m : Int)), none] (.lc [1] (.nm 1) (.rng1 (.met .bits (.var 0) .nil)) klot_of_1 (.var 1)) S = gc S.length (new S (.lst ((lotI m).map .int))) := by
  have hK := low_bits hm
  rw [← lot_bits m hm]
  refine e_lc (φ := run T n) (base := S.length) (own := [1]) (g := .nm 1) (c := klot_of_1) (e := .var 1) rfl (bits_it n m S hm) (lc_ints (fun i => if Builtin.bitAnd ((m : Int) / 2 ^ i.toNat) 1 = 0 then none else some (.int i)) rfl _ ?_ fun i hi => bits_turn n m none i S ?_)
  · rw [List.length_map, List.length_range]
    show _ ≤ 100000
    omega
  · obtain ⟨k, _, rfl⟩ := List.mem_map.mp hi
    exact Int.natCast_nonneg k
theorem lot_ofA (B : Bits T) (n : Nat) (x : D) (ms : List Int) (S : Sto) (hc : evE (run T n) S.length [some x, none] (.lc [1] (.nm 1) (.rng1 (.met .bits (.var 0) .nil)) klot_of_1 (.var 1)) S = gc S.length (new S (.lst (ms.map .int)))) : run T (n + 1) "lot_of" [x] S = some (.tup (ms.map .int), S) := by
  rw [B.lot_of]
  have hs := e_blt (φ := run T n) (base := S.length) (env := [some x, none]) (S := S) (b := .tuple) (es := .cons (.lc [1] (.nm 1) (.rng1 (.met .bits (.var 0) .nil)) klot_of_1 (.var 1)) .nil) (vs := [.ref S.length]) (S1 := S ++ [.lst (ms.map D.int)]) (by simp [evS, hc, new, gc_new0 (o := .lst (ms.map D.int)) (cl_ints _)])
  unfold runD klot_of
  simp [exs, ex1, hs, bltF, items_new, gc_intsA, gc_ints]
theorem lot_of (B : Bits T) (n : Nat) (m : Nat) (S : Sto) (hm : Low m) : run T (n + 1) "lot_of" [.int (m : Int)] S = some (lotD (lotI m), S) := lot_ofA B n _ _ S (bits_lc n m S hm)
/-- a comprehension over lots -/
theorem lc_map {α : Type} {step : D → Sto → Option (Option D × Sto)} {ok : Sto → Bool} {S : Sto} (f : α → D) (g : α → D) (hok : ok S = true) : ∀ (xs : List α) (acc : List D), acc.length + xs.length ≤ lim → (∀ x, x ∈ xs → step (f x) S = some (some (g x), S)) → lcF step ok (xs.map f) acc S = some (acc ++ xs.map g, S)
  | [], acc, _, _ => by rw [List.map_nil, lc_nil hok, List.map_nil, List.append_nil]
  | x :: xs, acc, hl, h => by
    rw [List.length_cons] at hl
    rw [List.map_cons, lc_put hok (by omega) (h x List.mem_cons_self), lc_map f g hok xs (acc ++ [g x]) (by rw [List.length_append, List.length_singleton]; omega) fun y hy => h y (List.mem_cons_of_mem _ hy), List.map_cons, List.append_assoc]
    rfl
theorem mask_elt (B : Bits T) (n : Nat) (v : Option D) (l : List Int) (S : Sto) (h : Lot l) : lcS (run T (n + 1)) S.length [v, none] [1] (.nm 1) .no kmasks_of_1 (lotD l) S = some (some (.int (maskN l : Nat)), S) := by
  have q := mask_of B n l S h (by have := Lot.len h; omega)
  unfold lcS kmasks_of_1
  simp [tgF, wipeE, evO, evE, evS, getV, q, gc_intS]
theorem masks_of (R : Rows T) (n : Nat) (ls : List (List Int)) (S : Sto) (h : ∀ l, l ∈ ls → Lot l) (hl : ls.length ≤ 1000) : run T (n + 2) "masks_of" [lotsD ls] S = some (.ref S.length, S ++ [.lst (msk (ls.map maskN))]) := by
  rw [R.masks_of]
  have hi : evI (run T (n + 1)) S.length [some (lotsD ls), none] (.ex (.var 0)) S = some (ls.map lotD, none, S) := by
    simp [evI, evE, getV, itV]
  have hm := lc_map (step := lcS (run T (n + 1)) S.length [some (lotsD ls), none] [1] (.nm 1) .no kmasks_of_1) (ok := fun S2 => Z.still S2 none (ls.map lotD)) (S := S) lotD (fun l => D.int (maskN l : Nat)) rfl ls [] (by show _ ≤ 100000; simp; omega) fun l hl => mask_elt R.toBits n _ l S (h l hl)
  have hc := e_lc (φ := run T (n + 1)) (base := S.length) (own := [1]) (g := .nm 1) (c := .no) (e := kmasks_of_1) rfl hi hm
  have e : [] ++ ls.map (fun l => D.int (maskN l : Nat)) = msk (ls.map maskN) := by
    unfold msk
    rw [List.map_map]
    rfl
  rw [e] at hc
  have hc2 : evE (run T (n + 1)) S.length [some (lotsD ls), none] (.lc [1] (.nm 1) (.ex (.var 0)) .no kmasks_of_1) S = some (.ref S.length, S ++ [.lst (msk (ls.map maskN))]) := hc.trans (gc_new0 (cl_msk _))
  have hx : exs (run T (n + 1)) S.length kmasks_of [some (lotsD ls), none] S = some (.ret (.ref S.length), [some (lotsD ls), none], S ++ [.lst (msk (ls.map maskN))]) := by
    unfold kmasks_of
    exact xs_ret (x_ret hc2)
  rw [run_ret (φ := run T (n + 1)) (c := ⟨1, 2, kmasks_of⟩) (vs := [lotsD ls]) (S := S) rfl hx]
  exact gc_new0 (cl_msk _)
theorem lot_elt (B : Bits T) (n : Nat) (v : Option D) (m : Nat) (S : Sto) (h : Low m) : lcS (run T (n + 1)) S.length [v, none] [1] (.nm 1) .no klots_of_1 (.int (m : Int)) S = some (some (lotD (lotI m)), S) := by
  have q := lot_of B n m S h
  obtain ⟨l, hl⟩ : ∃ l, l = lotI m := ⟨_, rfl⟩
  rw [← hl] at q ⊢
  unfold lcS klots_of_1
  simp [tgF, wipeE, evO, evE, evS, getV, q, gc_ints]
theorem lots_of (R : Rows T) (n k : Nat) (ms : List Nat) (S : Sto) (hL : LstAt S k (msk ms)) (h : ∀ m, m ∈ ms → Low m) (hl : ms.length ≤ 1000) : run T (n + 2) "lots_of" [.ref k] S = some (lotsD (ms.map lotI), S) := by
  rw [R.lots_of]
  have hi := hL.walk (φ := run T (n + 1)) (base := S.length) (j := 0) (env := [some (.ref k), none]) rfl
  have hm := lc_map (step := lcS (run T (n + 1)) S.length [some (.ref k), none] [1] (.nm 1) .no klots_of_1) (ok := fun S2 => Z.still S2 (some k) (msk ms)) (S := S) (fun m : Nat => D.int (m : Int)) (fun m => lotD (lotI m)) hL.still ms [] (by show _ ≤ 100000; simp; omega) fun m hm => lot_elt R.toBits n _ m S (h m hm)
  have hc := e_lc (φ := run T (n + 1)) (base := S.length) (own := [1]) (g := .nm 1) (c := .no) (e := klots_of_1) rfl hi hm
  have e : [] ++ ms.map (fun m => lotD (lotI m)) = (ms.map lotI).map lotD := by
    rw [List.map_map]
    rfl
  rw [e] at hc
  obtain ⟨ls, hls⟩ : ∃ ls, ls = ms.map lotI := ⟨_, rfl⟩
  rw [← hls] at hc ⊢
  have hc2 := hc.trans (gc_new0 (o := .lst (ls.map lotD)) (cl_lots ls))
  have hs := e_blt (φ := run T (n + 1)) (base := S.length) (env := [some (.ref k), none]) (S := S) (b := .tuple) (es := .cons (.lc [1] (.nm 1) (.ex (.var 0)) .no klots_of_1) .nil) (vs := [.ref S.length]) (S1 := S ++ [.lst (ls.map lotD)]) (by simp only [evS, hc2])
  have hb : bltF .tuple [.ref S.length] (S ++ [.lst (ls.map lotD)]) = some (lotsD ls, S ++ [.lst (ls.map lotD)]) := by
    show (itemsOf (S ++ [SO.lst (ls.map lotD)]) (.ref S.length)).map (fun xs => (D.tup xs, S ++ [SO.lst (ls.map lotD)])) = _
    rw [items_new]
    rfl
  rw [hb, gc_app (d := lotsD ls) (show D.cl S.length (lotsD ls) = true from cl_lots ls)] at hs
  have hx : exs (run T (n + 1)) S.length klots_of [some (.ref k), none] S = some (.ret (lotsD ls), [some (.ref k), none], S) := by
    unfold klots_of
    exact xs_ret (x_ret hs)
  rw [run_ret (φ := run T (n + 1)) (c := ⟨1, 2, klots_of⟩) (vs := [.ref k]) (S := S) rfl hx]
  exact gc_self (show D.cl S.length (lotsD ls) = true from cl_lots ls)
end G
end
section
set_option Elab.async false
set_option linter.all false
set_option autoImplicit false
set_option maxHeartbeats 4000000
/-! the demands; sums of two; forms -/
namespace G
open PySem L2 Z M
variable {T : Txt}
theorem asc_of_lot {b : Int} : ∀ {ns : List Int} {a : Int}, ns.Pairwise (· < ·) → (∀ i, i ∈ ns → a ≤ i ∧ i ≤ b) → ascL b a (ns.map .int) = true
  | [], a, _, _ => rfl
  | i :: r, a, h, h0 => by
    obtain ⟨h1, h2⟩ := List.pairwise_cons.mp h
    have hi := h0 i List.mem_cons_self
    show (betD (.int i) a b && ascL b (i + 1) (r.map .int)) = true
    rw [asc_of_lot h2 fun j hj => ⟨by have := h1 j hj; omega, (h0 j (List.mem_cons_of_mem _ hj)).2⟩]
    show (decide (a ≤ i) && decide (i ≤ b) && true) = true
    rw [decide_eq_true hi.1, decide_eq_true hi.2]
    rfl
theorem asc_below {ns : List Int} {b : Int} (h : Lot ns) (hb : ∀ i, i ∈ ns → i < b) : ascD (lotD ns) b = true := asc_of_lot h.asc fun i hi => by
  have := h.lo i hi
  have := hb i hi
  omega
theorem asc_lot {ns : List Int} (h : Lot ns) : ascD (lotD ns) 24 = true := asc_below h fun i hi => (h.lo i hi).2
theorem demand_many (L : Lots T) (n : Nat) (many : Int) (S : Sto) (h : 1 ≤ many ∧ many ≤ 24) : run T (n + 3) "_demand_many" [.int many] S = some (.non, S) := by
  rw [L.demand_many]
  have q := is_between L.toBits n (.int many) 1 24 S trivial
  have hb : betD (.int many) 1 24 = true := by
    show (decide (1 ≤ many) && decide (many ≤ 24)) = true
    simp [h.1, h.2]
  rw [hb] at q
  unfold runD kdemand_many
  simp [exs, ex1, evT, evE, evS, getV, q, gc_blS, truF, gc_self cl_non]
theorem demand_lot (L : Lots T) (n : Nat) (l : List Int) (S : Sto) (h : Lot l) : run T (n + 4) "_demand_lot" [lotD l] S = some (.non, S) := by
  rw [L.demand_lot]
  have q := is_ascending L.toBits n (lotD l) 24 S (okT_ints l)
  rw [asc_lot h] at q
  unfold runD kdemand_lot
  simp [exs, ex1, evT, evE, evS, getV, q, gc_blS, truF, gc_self cl_non]
theorem are_elt (L : Lots T) (n : Nat) (v : Option D) (l : List Int) (S : Sto) (h : Lot l) : lcS (run T (n + 3)) S.length [v, none] [1] (.nm 1) .no kare_lots_1 (lotD l) S = some (some (.bl true), S) := by
  have q := is_ascending L.toBits n (lotD l) 24 S (okT_ints l)
  rw [asc_lot h] at q
  unfold lcS kare_lots_1
  simp [tgF, wipeE, evO, evE, evS, getV, q, gc_blS]
theorem all_true {α : Type} : ∀ ls : List α, (ls.map fun _ => true).all id = true
  | [] => rfl
  | _ :: ls => all_true ls
theorem are_lots (L : Lots T) (n : Nat) (ls : List (List Int)) (S : Sto) (h : ∀ l, l ∈ ls → Lot l) (hl : ls.length ≤ 64) : run T (n + 4) "are_lots" [lotsD ls] S = some (.bl true, S) := by
  rw [L.are_lots]
  have hi : evI (run T (n + 3)) S.length [some (lotsD ls), none] (.ex (.var 0)) S = some (ls.map lotD, none, S) := by
    simp [evI, evE, getV, itV]
  have hm := lc_map (step := lcS (run T (n + 3)) S.length [some (lotsD ls), none] [1] (.nm 1) .no kare_lots_1) (ok := fun S2 => Z.still S2 none (ls.map lotD)) (S := S) lotD (fun _ => D.bl true) rfl ls [] (by show _ ≤ 100000; simp; omega) fun l hl => are_elt L n _ l S (h l hl)
  have hc := e_lc (φ := run T (n + 3)) (base := S.length) (own := [1]) (g := .nm 1) (c := .no) (e := kare_lots_1) rfl hi hm
  obtain ⟨bs, hbs⟩ : ∃ bs : List Bool, bs = ls.map fun _ => true := ⟨_, rfl⟩
  have e : [] ++ ls.map (fun _ => D.bl true) = bs.map D.bl := by
    rw [hbs, List.map_map]
    rfl
  rw [e] at hc
  have hs := e_blt (φ := run T (n + 3)) (base := S.length) (env := [some (lotsD ls), none]) (S := S) (b := .all) (es := .cons (.lc [1] (.nm 1) (.ex (.var 0)) .no kare_lots_1) .nil) (vs := [.ref S.length]) (S1 := S ++ [.lst (bs.map D.bl)]) (by simp [evS, hc, new, gc_new0 (o := .lst (bs.map D.bl)) (cl_bls _)])
  have hs2 : evE (run T (n + 3)) S.length [some (lotsD ls), none] (.blt .all (.cons (.lc [1] (.nm 1) (.ex (.var 0)) .no kare_lots_1) .nil)) S = some (.bl (bs.all id), S) := by
    rw [hs]
    simp [bltF, lst_new, boolsOf_bls, gc_blA]
  have hb : bs.all id = true := by
    rw [hbs]
    exact all_true ls
  rw [hb] at hs2
  have hlt : ¬ ((64 : Int) < (ls.length : Int)) := by omega
  have h1 : evT (run T (n + 3)) S.length [some (lotsD ls), none] (.or (.not (.isi (.var 0) .tuple)) (.cmp .Gt (.blt .len (.cons (.var 0) .nil)) (.con 64))) S = some (false, S) := by
    simp [evT, evE, evS, getV, isiF, gc_blS, truF, bltF, itemsOf, gc_intS, cmpF, hlt]
  have hx : exs (run T (n + 3)) S.length kare_lots [some (lotsD ls), none] S = some (.ret (.bl true), [some (lotsD ls), none], S) := by
    unfold kare_lots
    exact (xs_nx ((x_if h1).trans xs_nil)).trans (xs_ret (x_ret hs2))
  rw [run_ret (φ := run T (n + 3)) (c := ⟨1, 2, kare_lots⟩) (vs := [lotsD ls]) (S := S) rfl hx, gc_blS]
theorem demand_lots (L : Lots T) (n : Nat) (ls : List (List Int)) (S : Sto) (h : ∀ l, l ∈ ls → Lot l) (hl : ls.length ≤ 64) : run T (n + 5) "_demand_lots" [lotsD ls] S = some (.non, S) := by
  rw [L.demand_lots]
  have q := are_lots L n ls S h hl
  obtain ⟨x, hx⟩ : ∃ x, x = lotsD ls := ⟨_, rfl⟩
  rw [← hx] at q ⊢
  unfold runD kdemand_lots
  simp [exs, ex1, evT, evE, evS, getV, q, gc_blS, truF, gc_self cl_non]
theorem lot_sum (L : Lots T) (n : Nat) (a b : List Int) (S : Sto) (h1 : Lot a) (h2 : Lot b) : run T (n + 5) "lot_sum" [lotD a, lotD b] S = some (lotD (lotI (maskN a ^^^ maskN b)), S) := by
  rw [L.lot_sum]
  have q1 := demand_lot L n a S h1
  have q2 := demand_lot L n b S h2
  have q3 : run T (n + 4) "mask_of" [lotD a] S = some (.int (maskN a : Nat), S) := mask_of L.toBits (n + 3) a S h1 (by have := Lot.len h1; omega)
  have q4 : run T (n + 4) "mask_of" [lotD b] S = some (.int (maskN b : Nat), S) := mask_of L.toBits (n + 3) b S h2 (by have := Lot.len h2; omega)
  have q5 := xor_int (maskN a) (maskN b)
  have q6 : run T (n + 4) "lot_of" [.int ((maskN a ^^^ maskN b : Nat) : Int)] S = some (lotD (lotI (maskN a ^^^ maskN b)), S) := lot_of L.toBits (n + 3) (maskN a ^^^ maskN b) S (low_xor (lot_low h1) (lot_low h2))
  obtain ⟨l, hl⟩ : ∃ l, l = lotI (maskN a ^^^ maskN b) := ⟨_, rfl⟩
  rw [← hl] at q6 ⊢
  obtain ⟨x, hx⟩ : ∃ x, x = lotD a := ⟨_, rfl⟩
  obtain ⟨y, hy⟩ : ∃ y, y = lotD b := ⟨_, rfl⟩
  rw [← hx] at q1 q3 ⊢
  rw [← hy] at q2 q4 ⊢
  unfold runD klot_sum
  simp [exs, ex1, evE, evS, getV, q1, q2, q3, q4, gc_self cl_non, gc_intS, binF, q5, q6, gc_ints]
/-- a result that is no cell of the store -/
theorem spn_low {ms : List Nat} {x : Nat} (h : ∀ m, m ∈ ms → Low m) (q : spn ms x) : Low x := spn_lt h q
theorem frm_low {ms : List Nat} (h : ∀ m, m ∈ ms → Low m) : ∀ m, m ∈ frm ms → Low m := fun m hm => spn_low h (((frm_spec ms).2 m).mp (spn_mem hm))
theorem puts_le : ∀ (ms rs : List Nat), (puts rs ms).length ≤ rs.length + ms.length
  | [], rs => by simp [puts]
  | m :: ms, rs => by
    have h1 := puts_le ms (put rs m)
    have h2 := put_le rs m
    rw [puts, List.length_cons]
    omega
theorem frm_le (ms : List Nat) : (frm ms).length ≤ ms.length := by
  have := puts_le ms []
  unfold frm
  rw [(srt_perm _).length_eq]
  simpa using this
theorem form_of (L : Lots T) (n : Nat) (ls : List (List Int)) (S : Sto) (h : ∀ l, l ∈ ls → Lot l) (hl : ls.length ≤ 64) (ht : S[1]? = some (.tbl "reduced")) : run T (n + 6) "form_of" [lotsD ls] S = some (lotsD ((frm (ls.map maskN)).map lotI), S) := by
  rw [L.form_of]
  obtain ⟨φ, hφ⟩ : ∃ φ, φ = run T (n + 5) := ⟨_, rfl⟩
  have hlow : ∀ m, m ∈ ls.map maskN → Low m := fun m hm => by
    obtain ⟨l, hl2, rfl⟩ := List.mem_map.mp hm
    exact lot_low (h l hl2)
  obtain ⟨ms, hms⟩ : ∃ ms, ms = ls.map maskN := ⟨_, rfl⟩
  have hmlen : ms.length ≤ 64 := by rw [hms, List.length_map]; exact hl
  have ht1 : 1 < S.length := (List.getElem?_eq_some_iff.mp ht).1
  have a1 : evE φ S.length [some (lotsD ls)] (.call "_demand_lots" (.cons (.var 0) .nil)) S = some (.non, S) := by
    have q := demand_lots L n ls S h hl
    rw [← hφ] at q
    rw [e_call (vs := [lotsD ls]) (S1 := S) (by simp [evS, evE, getV]), q, gc_self cl_non]
  have a2 : evE φ S.length [some (lotsD ls)] (.call "masks_of" (.cons (.var 0) .nil)) S = some (.ref S.length, S ++ [.lst (msk ms)]) := by
    have q := masks_of L.toRows (n + 3) ls S h (by omega)
    rw [← hφ, ← hms] at q
    rw [e_call (vs := [lotsD ls]) (S1 := S) (by simp [evS, evE, getV]), q]
    exact gc_new0 (cl_msk _)
  obtain ⟨S1, hS1⟩ : ∃ S1, S1 = S ++ [SO.lst (msk ms)] := ⟨_, rfl⟩
  have hk : LstAt S1 S.length (msk ms) := by rw [hS1]; exact LstAt.new
  have ht2 : S1[1]? = some (.tbl "reduced") := by
    rw [hS1, List.getElem?_append_left ht1]
    exact ht
  have a3 : evE φ S.length [some (lotsD ls)] (.call "reduced" (.cons (.call "masks_of" (.cons (.var 0) .nil)) .nil)) S = some (.ref S.length, S ++ [.lst (msk (frm ms))]) := by
    have q := reduced L.toRows (n + 2) S.length ms S1 hk ht2 (by omega)
    rw [← hφ] at q
    rw [e_call (vs := [.ref S.length]) (S1 := S1) (by rw [evS, a2, hS1]; simp [evS]), q]
    have hlen : S1.length = S.length + 1 := by rw [hS1]; simp
    rw [hlen, hS1, List.append_assoc]
    exact gc_new (t := [SO.lst (msk ms)]) (k := 1) rfl (cl_msk _)
  have hk2 : LstAt (S ++ [SO.lst (msk (frm ms))]) S.length (msk (frm ms)) := LstAt.new
  have a4 : evE φ S.length [some (lotsD ls)] (.call "lots_of" (.cons (.call "reduced" (.cons (.call "masks_of" (.cons (.var 0) .nil)) .nil)) .nil)) S = some (lotsD ((frm ms).map lotI), S) := by
    have q := lots_of L.toRows (n + 3) S.length (frm ms) (S ++ [SO.lst (msk (frm ms))]) hk2 (frm_low (by rw [hms]; exact hlow)) (by have := frm_le ms; omega)
    rw [← hφ] at q
    rw [e_call (vs := [.ref S.length]) (S1 := S ++ [SO.lst (msk (frm ms))]) (by rw [evS, a3]; simp [evS]), q]
    exact gc_app (show D.cl S.length (lotsD ((frm ms).map lotI)) = true from cl_lots _)
  have hx : exs φ S.length kform_of [some (lotsD ls)] S = some (.ret (lotsD ((frm ms).map lotI)), [some (lotsD ls)], S) := by
    unfold kform_of
    exact (xs_nx (x_expr a1)).trans (xs_ret (x_ret a4))
  rw [← hφ, ← hms, run_ret (φ := φ) (c := ⟨1, 1, kform_of⟩) (vs := [lotsD ls]) (S := S) rfl hx]
  exact gc_self (show D.cl S.length (lotsD ((frm ms).map lotI)) = true from cl_lots _)
end G
end
section
set_option Elab.async false
set_option linter.all false
set_option autoImplicit false
set_option maxHeartbeats 4000000
/-! the opposite -/
namespace G
open PySem L2 Z M
variable {T : Txt}
theorem sum_cast : ∀ ms : List Nat, (ms.map fun m : Nat => (m : Int)).sum = ((ms.sum : Nat) : Int)
  | [] => rfl
  | m :: ms => by
    rw [List.map_cons, List.sum_cons, List.sum_cons, sum_cast ms]
    simp
theorem msk_ints (ms : List Nat) : msk ms = (ms.map fun m : Nat => (m : Int)).map D.int := by
  unfold msk
  rw [List.map_map]
  rfl
/-- the sum of a list of masks just made -/
theorem sum_new (φ : Phi) (base : Nat) (env : Ev) (e : Ex) (ms : List Nat) (S : Sto) (h : evE φ S.length env e S = some (.ref S.length, S ++ [.lst (msk ms)])) : evE φ base env (.blt .sum (.cons e .nil)) S = some (.int ((ms.sum : Nat) : Int), S) := by
  rw [e_blt (vs := [.ref S.length]) (S1 := S ++ [.lst (msk ms)]) (by simp only [evS, h])]
  have hb : bltF .sum [.ref S.length] (S ++ [.lst (msk ms)]) = some (.int ((ms.sum : Nat) : Int), S ++ [.lst (msk ms)]) := by
    show ((lstOf (S ++ [SO.lst (msk ms)]) (.ref S.length)).bind intsOf).map (fun ns => (D.int ns.sum, S ++ [SO.lst (msk ms)])) = _
    rw [lst_new, Option.bind_some, msk_ints, intsOf_ints, Option.map_some, sum_cast]
  rw [hb]
  exact gc_intA
theorem heads_elt (R : Rows T) (n : Nat) (a b c d e f : Option D) (r : Nat) (S : Sto) : lcS (run T (n + 1)) S.length [a, b, c, d, e, f, none] [6] (.nm 6) .no kkernel_4 (.int (r : Int)) S = some (some (.int (hd r : Nat)), S) := by
  have q := head_of R n r S
  unfold lcS kkernel_4
  simp [tgF, wipeE, evO, evE, evS, getV, q, gc_intS]
theorem heads_lc (R : Rows T) (n base k : Nat) (rs : List Nat) (a : Option D) (S : Sto) (hL : LstAt S k (msk rs)) (hl : rs.length ≤ 1000) :
    evE (run T (n + 1)) base [a, some (.ref k), none, none, none, none, none] (.blt .sum (.cons (.lc [6] (.nm 6) (.ex (.var 1)) .no kkernel_4) .nil)) S = some (.int (((rs.map hd).sum : Nat) : Int), S) := by
  refine sum_new _ base _ _ (rs.map hd) S ?_
  have hi := hL.walk (φ := run T (n + 1)) (base := S.length) (j := 1) (env := [a, some (.ref k), none, none, none, none, none]) rfl
  have hm := lc_map (step := lcS (run T (n + 1)) S.length [a, some (.ref k), none, none, none, none, none] [6] (.nm 6) .no kkernel_4) (ok := fun S2 => Z.still S2 (some k) (msk rs)) (S := S) (fun m : Nat => D.int (m : Int)) (fun m => D.int (hd m : Nat)) hL.still rs [] (by show _ ≤ 100000; simp; omega) fun r _ => heads_elt R n _ _ _ _ _ _ r S
  have hc := e_lc (φ := run T (n + 1)) (base := S.length) (own := [6]) (g := .nm 6) (c := .no) (e := kkernel_4) rfl hi hm
  have e : [] ++ rs.map (fun m => D.int (hd m : Nat)) = msk (rs.map hd) := by
    unfold msk
    rw [List.map_map]
    rfl
  rw [e] at hc
  exact hc.trans (gc_new0 (cl_msk _))
/-- the heads of the rows that have a line -/
theorem with_elt (R : Rows T) (n l : Nat) (a b c d e : Option D) (g : Option D) (r : Nat) (S : Sto) : lcS (run T (n + 1)) S.length [a, b, c, d, e, some (.int ((2 ^ l : Nat) : Int)), g] [6] (.nm 6) kkernel_1 kkernel_2 (.int (r : Int)) S = some (if r.testBit l = true then some (.int (hd r : Nat)) else none, S) := by
  have q := head_of R n r S
  have q2 := and_bit r l
  obtain ⟨p, hp⟩ : ∃ p : Nat, p = 2 ^ l := ⟨_, rfl⟩
  have hp0 : p ≠ 0 := by rw [hp]; exact Nat.pos_iff_ne_zero.mp (Nat.two_pow_pos l)
  rw [← hp] at q2 ⊢
  unfold lcS kkernel_1 kkernel_2
  cases c : r.testBit l with
  | true =>
    rw [c, if_pos rfl] at q2
    have q3 : ((p : Int) != 0) = true := bne_iff_ne.mpr fun z => hp0 (by exact_mod_cast z)
    simp [tgF, wipeE, evO, evE, evS, getV, q, gc_intS, binF, q2, truF, q3]
  | false =>
    rw [c, if_neg (by decide)] at q2
    simp [tgF, wipeE, evO, evE, evS, getV, q, gc_intS, binF, q2, truF]
theorem filt_map (l : Nat) : ∀ rs : List Nat, (rs.map fun r : Nat => (r : Int)).filterMap (fun z => if z.toNat.testBit l = true then some (D.int (hd z.toNat : Nat)) else none) = msk ((rs.filter fun r => r.testBit l).map hd)
  | [] => rfl
  | r :: rs => by
    have ih := filt_map l rs
    rw [List.map_cons, List.filterMap_cons, ih, List.filter_cons]
    simp only [Int.toNat_natCast]
    cases r.testBit l with
    | true => simp [msk]
    | false => simp
theorem with_lc (R : Rows T) (n base k l : Nat) (rs : List Nat) (a c d e g : Option D) (S : Sto) (hL : LstAt S k (msk rs)) (hl : rs.length ≤ 1000) :
    evE (run T (n + 1)) base [a, some (.ref k), c, d, e, some (.int ((2 ^ l : Nat) : Int)), g] (.blt .sum (.cons (.lc [6] (.nm 6) (.ex (.var 1)) kkernel_1 kkernel_2) .nil)) S = some (.int ((((rs.filter fun r => r.testBit l).map hd).sum : Nat) : Int), S) := by
  refine sum_new _ base _ _ ((rs.filter fun r => r.testBit l).map hd) S ?_
  have hi := hL.walk (φ := run T (n + 1)) (base := S.length) (j := 1) (env := [a, some (.ref k), c, d, e, some (.int ((2 ^ l : Nat) : Int)), g]) rfl
  have hm := lc_ints (step := lcS (run T (n + 1)) S.length [a, some (.ref k), c, d, e, some (.int ((2 ^ l : Nat) : Int)), g] [6] (.nm 6) kkernel_1 kkernel_2) (ok := fun S2 => Z.still S2 (some k) (msk rs)) (S := S) (fun z => if z.toNat.testBit l = true then some (D.int (hd z.toNat : Nat)) else none) hL.still (rs.map fun r : Nat => (r : Int)) (by show _ ≤ 100000; rw [List.length_map]; omega) fun z hz => by
    obtain ⟨r, _, rfl⟩ := List.mem_map.mp hz
    exact with_elt R n l _ _ _ _ _ _ r S
  rw [filt_map, ← msk_ints] at hm
  have hc := e_lc (φ := run T (n + 1)) (base := S.length) (own := [6]) (g := .nm 6) (c := kkernel_1) (e := kkernel_2) rfl hi hm
  exact hc.trans (gc_new0 (cl_msk _))
end G
end
section
set_option Elab.async false
set_option linter.all false
set_option autoImplicit false
set_option maxHeartbeats 4000000
/-! the opposite's rows -/
namespace G
open PySem L2 Z M
variable {T : Txt}
theorem shl_one (φ : Phi) (base l : Nat) (a b c d f g : Option D) (S : Sto) (hl : l ≤ 1000) : evE φ base [a, b, c, d, some (.int (l : Int)), f, g] (.bin .LShift (.int 1) (.var 4)) S = some (.int ((2 ^ l : Nat) : Int), S) := by
  have h0 : (0 : Int) ≤ (l : Int) := Int.natCast_nonneg l
  have h1 : (l : Int) ≤ 1000000 := by omega
  have e : ((2 ^ l : Nat) : Int) = 2 ^ l := by simp
  rw [e]
  simp [evE, getV, binF, h0, h1, gc_intS]
theorem not_head (φ : Phi) (base l H : Nat) (a b d e g : Option D) (S : Sto) : evT φ base [a, b, some (.int (H : Int)), d, e, some (.int ((2 ^ l : Nat) : Int)), g] (.not (.bin .BitAnd (.var 2) (.var 5))) S = some (!H.testBit l, S) := by
  have q2 := and_bit H l
  obtain ⟨p, hp⟩ : ∃ p : Nat, p = 2 ^ l := ⟨_, rfl⟩
  have hp0 : p ≠ 0 := by rw [hp]; exact Nat.pos_iff_ne_zero.mp (Nat.two_pow_pos l)
  rw [← hp] at q2 ⊢
  cases c : H.testBit l with
  | true =>
    rw [c, if_pos rfl] at q2
    have q3 : ((p : Int) != 0) = true := bne_iff_ne.mpr fun z => hp0 (by exact_mod_cast z)
    simp [evT, evE, getV, binF, gc_intS, q2, truF, q3]
  | false =>
    rw [c, if_neg (by decide)] at q2
    simp [evT, evE, getV, binF, gc_intS, q2, truF]
theorem app_lst (base : Nat) (S0 : Sto) (vs : List Nat) (v : Nat) (hl : vs.length ≤ 1000) : metF base .append (.ref S0.length) [.int (v : Int)] (S0 ++ [.lst (msk vs)]) = some (.non, S0 ++ [.lst (msk (vs ++ [v]))]) := by
  have h1 : (wr base S0.length (.int (v : Int)) && decide ((msk vs).length < lim)) = true := by
    rw [decide_eq_true (show (msk vs).length < 100000 by simp [msk]; omega)]
    simp [wr, D.cl]
  have h2 : msk vs ++ [.int (v : Int)] = msk (vs ++ [v]) := by simp [msk]
  unfold metF
  simp only [at_new, h1, if_true, h2]
  rw [List.set_append_right _ _ (Nat.le_refl _), Nat.sub_self]
  rfl
theorem ker_turn (R : Rows T) (n base k l : Nat) (rs vs : List Nat) (a : D) (x4 x5 x6 : Option D) (S0 : Sto) (hL : LstAt S0 k (msk rs)) (hF : Red rs) (hl : l ≤ 1000) (h1 : rs.length ≤ 1000) (h2 : vs.length ≤ 1000) :
    ∃ y6, frS (run T (n + 1)) base (.nm 4) kkernel_3 (.int (l : Int)) [some a, some (.ref k), some (.int (((rs.map hd).sum : Nat) : Int)), some (.ref S0.length), x4, x5, x6] (S0 ++ [.lst (msk vs)]) =
      some (.nx, [some a, some (.ref k), some (.int (((rs.map hd).sum : Nat) : Int)), some (.ref S0.length), some (.int (l : Int)), some (.int ((2 ^ l : Nat) : Int)), y6], S0 ++ [.lst (msk (if isHead rs l = true then vs else vs ++ [vec rs l]))]) := by
  obtain ⟨S, hS⟩ : ∃ S, S = S0 ++ [SO.lst (msk vs)] := ⟨_, rfl⟩
  have hLS : LstAt S k (msk rs) := by rw [hS]; exact hL.app
  have hb := heads_bit hF l
  obtain ⟨H, hH⟩ : ∃ H, H = (rs.map hd).sum := ⟨_, rfl⟩
  rw [← hH] at hb ⊢
  have e5 := shl_one (run T (n + 1)) base l (some a) (some (.ref k)) (some (.int (H : Int))) (some (.ref S0.length)) x5 x6 S hl
  have et := not_head (run T (n + 1)) base l H (some a) (some (.ref k)) (some (.ref S0.length)) (some (.int (l : Int))) x6 S
  rw [hb] at et
  refine ⟨x6, ?_⟩
  unfold frS
  simp only [tgF, List.set_cons_succ, List.set_cons_zero]
  rw [← hS]
  unfold kkernel_3
  refine (xs_nx (x_set (i := 5) e5)).trans ?_
  cases c : isHead rs l with
  | true =>
    rw [c] at et
    refine (xs_nx ((x_if et).trans ?_)).trans xs_nil
    rw [if_neg (show ¬ (!true) = true by decide), if_pos rfl, ← hS]
    exact xs_nil
  | false =>
    rw [c] at et
    refine (xs_nx ((x_if et).trans ?_)).trans xs_nil
    rw [if_pos (show (!false) = true from rfl), if_neg (by decide)]
    have hn : ∀ q, q ∈ rs → low q ≠ l := fun q hq z => by
      rw [head_iff.mpr ⟨q, hq, z⟩] at c
      cases c
    have w := with_lc R n S.length k l rs (some a) (some (.int (H : Int))) (some (.ref S0.length)) (some (.int (l : Int))) x6 S hLS h1
    have vo := vec_or hF hn
    have oi := or_int (2 ^ l) (((rs.filter fun r => r.testBit l).map hd).sum)
    rw [vo] at oi
    obtain ⟨p, hp⟩ : ∃ p : Nat, p = 2 ^ l := ⟨_, rfl⟩
    obtain ⟨s, hs⟩ : ∃ s : Nat, s = ((rs.filter fun r => r.testBit l).map hd).sum := ⟨_, rfl⟩
    obtain ⟨v, hv⟩ : ∃ v : Nat, v = vec rs l := ⟨_, rfl⟩
    rw [← hp, ← hs] at w
    rw [← hp, ← hs, ← hv] at oi
    rw [← hp, ← hv]
    have eb : evE (run T (n + 1)) base [some a, some (.ref k), some (.int (H : Int)), some (.ref S0.length), some (.int (l : Int)), some (.int (p : Int)), x6] (.bin .BitOr (.var 5) (.blt .sum (.cons (.lc [6] (.nm 6) (.ex (.var 1)) kkernel_1 kkernel_2) .nil))) S = some (.int (v : Int), S) := by
      rw [e_bin (x := .int (p : Int)) (S1 := S) (by rw [e_var]; rfl) w]
      show gc S.length (some (.int (Builtin.bitOr (p : Int) (s : Int)), S)) = _
      rw [oi]
      exact gc_intS
    have em : evE (run T (n + 1)) base [some a, some (.ref k), some (.int (H : Int)), some (.ref S0.length), some (.int (l : Int)), some (.int (p : Int)), x6] (.met .append (.var 3) (.cons (.bin .BitOr (.var 5) (.blt .sum (.cons (.lc [6] (.nm 6) (.ex (.var 1)) kkernel_1 kkernel_2) .nil))) .nil)) S = some (.non, S0 ++ [.lst (msk (vs ++ [v]))]) := by
      have hpm : metP .append (.ref S0.length) S = true := by
        unfold metP
        simp only [hS, at_new]
      have hes : evS (run T (n + 1)) base [some a, some (.ref k), some (.int (H : Int)), some (.ref S0.length), some (.int (l : Int)), some (.int (p : Int)), x6] (.cons (.bin .BitOr (.var 5) (.blt .sum (.cons (.lc [6] (.nm 6) (.ex (.var 1)) kkernel_1 kkernel_2) .nil))) .nil) S = some ([.int (v : Int)], S) := by
        simp only [evS, eb]
      rw [evE, e_var]
      show (if metP .append (.ref S0.length) S = true then (match evS (run T (n + 1)) base [some a, some (.ref k), some (.int (H : Int)), some (.ref S0.length), some (.int (l : Int)), some (.int (p : Int)), x6] (.cons (.bin .BitOr (.var 5) (.blt .sum (.cons (.lc [6] (.nm 6) (.ex (.var 1)) kkernel_1 kkernel_2) .nil))) .nil) S with
        | some (vs, S2) => metF base .append (.ref S0.length) vs S2
        | none => none) else none) = _
      rw [if_pos hpm, hes]
      simp only
      rw [hS]
      exact app_lst base S0 vs v h2
    exact (xs_nx (x_expr em)).trans xs_nil
theorem ker_loop (R : Rows T) (n base k : Nat) (rs : List Nat) (a : D) (S0 : Sto) (hL : LstAt S0 k (msk rs)) (hF : Red rs) (h1 : rs.length ≤ 1000) (hs : Option Nat) (ds : List D) (hn : hs = none) : ∀ (ls vs : List Nat) (x4 x5 x6 : Option D), (∀ l, l ∈ ls → l ≤ 1000) → vs.length + ls.length ≤ 1000 →
    ∃ y4 y5 y6, forF (frS (run T (n + 1)) base (.nm 4) kkernel_3) (fun S2 => Z.still S2 hs ds) (msk ls) [some a, some (.ref k), some (.int (((rs.map hd).sum : Nat) : Int)), some (.ref S0.length), x4, x5, x6] (S0 ++ [.lst (msk vs)]) =
      some (.nx, [some a, some (.ref k), some (.int (((rs.map hd).sum : Nat) : Int)), some (.ref S0.length), y4, y5, y6], S0 ++ [.lst (msk (vs ++ (ls.filter fun l => !isHead rs l).map (vec rs)))])
  | [], vs, x4, x5, x6, _, _ => ⟨x4, x5, x6, by rw [List.filter_nil, List.map_nil, List.append_nil]; exact for_nil (by rw [hn]; rfl)⟩
  | l :: ls, vs, x4, x5, x6, hl, h2 => by
    rw [List.length_cons] at h2
    obtain ⟨y6, q⟩ := ker_turn R n base k l rs vs a x4 x5 x6 S0 hL hF (hl l List.mem_cons_self) h1 (by omega)
    obtain ⟨z4, z5, z6, q2⟩ := ker_loop R n base k rs a S0 hL hF h1 hs ds hn ls (if isHead rs l = true then vs else vs ++ [vec rs l]) (some (.int (l : Int))) (some (.int ((2 ^ l : Nat) : Int))) y6 (fun m hm => hl m (List.mem_cons_of_mem _ hm)) (by
      split
      · omega
      · rw [List.length_append, List.length_singleton]
        omega)
    refine ⟨z4, z5, z6, (for_nx (by rw [hn]; rfl) q).trans (q2.trans ?_)⟩
    rw [List.filter_cons]
    cases c : isHead rs l with
    | true => simp
    | false => simp
theorem kernel (R : Rows T) (n k many : Nat) (rs : List Nat) (S : Sto) (hL : LstAt S k (msk rs)) (hF : Red rs) (h1 : rs.length ≤ 1000) (hm : many ≤ 24) (ht : S[1]? = some (.tbl "reduced")) :
    run T (n + 4) "kernel" [.int (many : Int), .ref k] S = some (.ref S.length, S ++ [.lst (msk (frm (ker many rs)))]) := by
  rw [R.kernel]
  have ht1 : 1 < S.length := (List.getElem?_eq_some_iff.mp ht).1
  have a1 := heads_lc R (n + 2) S.length k rs (some (.int (many : Int))) S hL h1
  obtain ⟨y4, y5, y6, a3⟩ := ker_loop R (n + 2) S.length k rs (.int (many : Int)) S hL hF h1 none (msk (List.range many)) rfl (List.range many) [] none none none (fun l hl => by have := List.mem_range.mp hl; omega) (by rw [List.length_range, List.length_nil]; omega)
  rw [List.nil_append] at a3
  rw [show ((List.range many).filter fun l => !isHead rs l).map (vec rs) = ker many rs from rfl] at a3
  obtain ⟨φ, hφ⟩ : ∃ φ, φ = run T (n + 3) := ⟨_, rfl⟩
  have hφ2 : run T (n + 2 + 1) = φ := hφ.symm
  rw [hφ2] at a1 a3
  obtain ⟨H, hH⟩ : ∃ H : Int, H = (((rs.map hd).sum : Nat) : Int) := ⟨_, rfl⟩
  rw [← hH] at a1 a3
  have a2 : evE φ S.length [some (.int (many : Int)), some (.ref k), some (.int H), none, none, none, none] (.lst .nil) S = some (.ref S.length, S ++ [.lst (msk [])]) := by
    have : evE φ S.length [some (.int (many : Int)), some (.ref k), some (.int H), none, none, none, none] (.lst .nil) S = gc S.length (new S (.lst [])) := by
      rw [evE]
      simp [evS, lim]
    rw [this]
    exact gc_new0 rfl
  have hi : evI φ S.length [some (.int (many : Int)), some (.ref k), some (.int H), some (.ref S.length), none, none, none] (.rng1 (.var 0)) (S ++ [.lst (msk [])]) = some (msk (List.range many), none, S ++ [.lst (msk [])]) := by
    rw [evI, e_var]
    show (if rgOk (many : Int) then some (rgI 0 (many : Int).toNat, none, S ++ [SO.lst (msk [])]) else none) = _
    have hr : rgOk (many : Int) = true := by
      unfold rgOk
      rw [decide_eq_true (by omega), decide_eq_true (by omega)]
      rfl
    rw [if_pos hr, Int.toNat_natCast, rgI_map, msk_ints (List.range many)]
    simp only [Int.zero_add]
  have hf := x_for (φ := φ) (base := S.length) (g := .nm 4) (b := kkernel_3) hi
  obtain ⟨vs, hvs⟩ : ∃ vs, vs = ker many rs := ⟨_, rfl⟩
  have hvl : vs.length ≤ 24 := by
    rw [hvs, ker, List.length_map]
    have := List.length_filter_le (fun l => !isHead rs l) (List.range many)
    rw [List.length_range] at this
    unfold free
    omega
  rw [← hvs] at a3 ⊢
  obtain ⟨S1, hS1⟩ : ∃ S1, S1 = S ++ [SO.lst (msk vs)] := ⟨_, rfl⟩
  have hk : LstAt S1 S.length (msk vs) := by rw [hS1]; exact LstAt.new
  have ht2 : S1[1]? = some (.tbl "reduced") := by
    rw [hS1, List.getElem?_append_left ht1]
    exact ht
  have hlen : S1.length = S.length + 1 := by rw [hS1]; simp
  have a4 : evE φ S.length [some (.int (many : Int)), some (.ref k), some (.int H), some (.ref S.length), y4, y5, y6] (.call "reduced" (.cons (.var 3) .nil)) S1 = some (.ref S1.length, S1 ++ [.lst (msk (frm vs))]) := by
    have q := reduced R n S.length vs S1 hk ht2 (by omega)
    rw [← hφ] at q
    rw [e_call (vs := [.ref S.length]) (S1 := S1) (by simp [evS, evE, getV]), q]
    exact gc_new0 (cl_msk _)
  rw [← hS1] at a3
  have hx : exs φ S.length kkernel [some (.int (many : Int)), some (.ref k), none, none, none, none, none] S = some (.ret (.ref S1.length), [some (.int (many : Int)), some (.ref k), some (.int H), some (.ref S.length), y4, y5, y6], S1 ++ [.lst (msk (frm vs))]) := by
    unfold kkernel
    refine (xs_nx (x_set (i := 2) a1)).trans ?_
    refine (xs_nx (x_set (i := 3) a2)).trans ?_
    refine (xs_nx (hf.trans a3)).trans ?_
    exact xs_ret (x_ret a4)
  rw [← hφ, run_ret (φ := φ) (c := ⟨2, 7, kkernel⟩) (vs := [.int (many : Int), .ref k]) (S := S) rfl hx, hlen, hS1, List.append_assoc]
  exact gc_new (t := [SO.lst (msk vs)]) (k := 1) rfl (cl_msk _)
end G
end
section
set_option Elab.async false
set_option linter.all false
set_option autoImplicit false
set_option maxHeartbeats 4000000
/-! carried, shared -/
namespace G
open PySem L2 Z M
variable {T : Txt}
theorem mod_int (r s : Nat) : Builtin.bitAnd (r : Int) (2 ^ s - 1) = ((r % 2 ^ s : Nat) : Int) := by
  rw [PySem.W.kbt_mask]
  simp
theorem low_part (R : Rows T) (n r : Nat) (S : Sto) : run T (n + 1) "low_part" [.int (r : Int)] S = some (.int ((r % 2 ^ 32 : Nat) : Int), S) := by
  rw [R.low_part]
  have q := mod_int r 32
  obtain ⟨x, hx⟩ : ∃ x : Int, x = ((r % 2 ^ 32 : Nat) : Int) := ⟨_, rfl⟩
  rw [← hx] at q ⊢
  have e1 : evE (run T n) S.length [some (.int (r : Int))] (.bin .Sub (.bin .LShift (.int 1) (.con 32)) (.int 1)) S = some (.int (2 ^ 32 - 1), S) := by
    simp [evE, getV, binF, gc_intS]
  have e2 : evE (run T n) S.length [some (.int (r : Int))] (.bin .BitAnd (.var 0) (.bin .Sub (.bin .LShift (.int 1) (.con 32)) (.int 1))) S = some (.int x, S) := by
    rw [e_bin (x := .int (r : Int)) (S1 := S) (by rw [e_var]; rfl) e1]
    show gc S.length (some (.int (Builtin.bitAnd (r : Int) (2 ^ 32 - 1)), S)) = _
    rw [q]
    exact gc_intS
  have hx2 : exs (run T n) S.length klow_part [some (.int (r : Int))] S = some (.ret (.int x), [some (.int (r : Int))], S) := by
    unfold klow_part
    exact xs_ret (x_ret e2)
  rw [run_ret (φ := run T n) (c := ⟨1, 1, klow_part⟩) (vs := [.int (r : Int)]) (S := S) rfl hx2]
  exact gc_intS
theorem shr_int (φ : Phi) (base r : Nat) (a : Option D) (S : Sto) : evE φ base [a, some (.int (r : Int))] (.bin .RShift (.var 1) (.con 32)) S = some (.int ((r >>> 32 : Nat) : Int), S) := by
  have e : ((r >>> 32 : Nat) : Int) = (r : Int) / 2 ^ 32 := by
    rw [Nat.shiftRight_eq_div_pow]
    simp
  rw [e]
  simp [evE, getV, binF, gc_intS]
theorem car_elt (R : Rows T) (n base : Nat) (a g : Option D) (r : Nat) (S : Sto) (hr : r ≠ 0) : lcS (run T (n + 1)) base [a, g] [1] (.nm 1) kcarried_1 kcarried_2 (.int (r : Int)) S = some (if isTop 32 r = true then some (.int ((r >>> 32 : Nat) : Int)) else none, S) := by
  have q := low_part R n r S
  have q2 := shr_int (run T (n + 1)) base r a S
  have q3 : isTop 32 r = decide (r % 2 ^ 32 = 0) := by
    unfold isTop
    by_cases c : 32 ≤ low r
    · rw [decide_eq_true c, decide_eq_true ((top_iff hr).mpr c)]
    · rw [decide_eq_false c, decide_eq_false fun z => c ((top_iff hr).mp z)]
  rw [q3]
  obtain ⟨x, hx⟩ : ∃ x : Nat, x = r % 2 ^ 32 := ⟨_, rfl⟩
  obtain ⟨y, hy⟩ : ∃ y : Int, y = ((r >>> 32 : Nat) : Int) := ⟨_, rfl⟩
  rw [← hx] at q ⊢
  rw [← hy] at q2 ⊢
  have ec : evO (run T (n + 1)) base [a, some (.int (r : Int))] kcarried_1 S = some (some (.bl (decide (x = 0))), S) := by
    unfold kcarried_1
    have e1 : evE (run T (n + 1)) base [a, some (.int (r : Int))] (.call "low_part" (.cons (.var 1) .nil)) S = some (.int (x : Int), S) := by
      rw [e_call (vs := [.int (r : Int)]) (S1 := S) (by simp [evS, evE, getV]), q]
      exact gc_intS
    rw [evO, evE, e1]
    by_cases z : x = 0 <;> simp [truF, z]
  unfold lcS kcarried_2
  simp only [tgF, wipeE, List.foldl_cons, List.foldl_nil]
  by_cases z : x = 0
  · simp [ec, truF, q2, z]
  · simp [ec, truF, z]
theorem carried (R : Rows T) (n k : Nat) (ms : List Nat) (S : Sto) (hL : LstAt S k (msk ms)) (hl : ms.length ≤ 1000) (ht : S[1]? = some (.tbl "reduced")) : run T (n + 4) "carried" [.ref k] S = some (.ref S.length, S ++ [.lst (msk (car 32 (frm ms)))]) := by
  rw [R.carried]
  have q := reduced R n k ms S hL ht hl
  obtain ⟨fs, hfs⟩ : ∃ fs, fs = frm ms := ⟨_, rfl⟩
  have hfl : fs.length ≤ 1000 := by
    rw [hfs]
    exact Nat.le_trans (frm_le ms) hl
  have hf0 : ∀ r, r ∈ fs → r ≠ 0 := by
    rw [hfs]
    exact (frm_spec ms).1.1.1
  rw [← hfs] at q ⊢
  obtain ⟨S1, hS1⟩ : ∃ S1, S1 = S ++ [SO.lst (msk fs)] := ⟨_, rfl⟩
  have hk : LstAt S1 S.length (msk fs) := by rw [hS1]; exact LstAt.new
  have hlen : S1.length = S.length + 1 := by rw [hS1]; simp
  have hi : evI (run T (n + 3)) S.length [some (.ref k), none] (.ex (.call "reduced" (.cons (.var 0) .nil))) S = some (msk fs, some S.length, S1) := by
    rw [evI, e_call (vs := [.ref k]) (S1 := S) (by simp [evS, evE, getV]), q, gc_new0 (o := .lst (msk fs)) (cl_msk _)]
    show (itV (S ++ [SO.lst (msk fs)]) (.ref S.length)).map (fun p => (p.1, p.2, S ++ [SO.lst (msk fs)])) = _
    rw [← hS1, hk.it]
    rfl
  have key : ∀ (xs acc : List Nat), acc.length + xs.length ≤ 1000 → (∀ r, r ∈ xs → r ≠ 0) → lcF (lcS (run T (n + 3)) S.length [some (.ref k), none] [1] (.nm 1) kcarried_1 kcarried_2) (fun S2 => Z.still S2 (some S.length) (msk fs)) (msk xs) (msk acc) S1 = some (msk (acc ++ car 32 xs), S1) := by
    intro xs
    induction xs with
    | nil => intro acc _ _; rw [show msk (acc ++ car 32 []) = msk acc by simp [car]]; exact lc_nil hk.still
    | cons r xs ih =>
      intro acc ha h0
      rw [List.length_cons] at ha
      have hb : lcS (run T (n + 3)) S.length [some (.ref k), none] [1] (.nm 1) kcarried_1 kcarried_2 (.int (r : Int)) S1 = some (if isTop 32 r = true then some (.int ((r >>> 32 : Nat) : Int)) else none, S1) := car_elt R (n + 2) S.length (some (.ref k)) none r S1 (h0 r List.mem_cons_self)
      cases c : isTop 32 r with
      | true =>
        rw [c, if_pos rfl] at hb
        have := (lc_put (ok := fun S2 => Z.still S2 (some S.length) (msk fs)) (ds := msk xs) (acc := msk acc) hk.still (by show _ < 100000; simp [msk]; omega) hb)
        refine this.trans ?_
        have e : msk acc ++ [D.int ((r >>> 32 : Nat) : Int)] = msk (acc ++ [r >>> 32]) := by simp [msk]
        rw [e, ih (acc ++ [r >>> 32]) (by simp; omega) fun z hz => h0 z (List.mem_cons_of_mem _ hz)]
        simp [car, c]
      | false =>
        rw [c, if_neg (by decide)] at hb
        have := (lc_skip (ok := fun S2 => Z.still S2 (some S.length) (msk fs)) (ds := msk xs) (acc := msk acc) hk.still (by show _ < 100000; simp [msk]; omega) hb)
        refine this.trans ?_
        rw [ih acc (by omega) fun z hz => h0 z (List.mem_cons_of_mem _ hz)]
        simp [car, c]
  have hc := e_lc (φ := run T (n + 3)) (base := S.length) (own := [1]) (g := .nm 1) (c := kcarried_1) (e := kcarried_2) rfl hi (key fs [] (by simpa using hfl) hf0)
  rw [List.nil_append] at hc
  have hc2 : evE (run T (n + 3)) S.length [some (.ref k), none] (.lc [1] (.nm 1) (.ex (.call "reduced" (.cons (.var 0) .nil))) kcarried_1 kcarried_2) S = some (.ref S.length, S ++ [.lst (msk (car 32 fs))]) := by
    rw [hc]
    show gc S.length (some (.ref S1.length, S1 ++ [SO.lst (msk (car 32 fs))])) = _
    rw [hlen, hS1, List.append_assoc]
    exact gc_new (t := [SO.lst (msk fs)]) (k := 1) rfl (cl_msk _)
  have hx : exs (run T (n + 3)) S.length kcarried [some (.ref k), none] S = some (.ret (.ref S.length), [some (.ref k), none], S ++ [.lst (msk (car 32 fs))]) := by
    unfold kcarried
    exact xs_ret (x_ret hc2)
  rw [run_ret (φ := run T (n + 3)) (c := ⟨1, 2, kcarried⟩) (vs := [.ref k]) (S := S) rfl hx]
  exact gc_new0 (cl_msk _)
end G
end
section
set_option Elab.async false
set_option linter.all false
set_option autoImplicit false
set_option maxHeartbeats 4000000
/-! shared -/
namespace G
open PySem L2 Z M
variable {T : Txt}
/-- two lists just made, joined -/
theorem add_two {φ : Phi} {base : Nat} {env : Ev} {a b : Ex} {xs ys : List D} {S : Sto} (e1 : evE φ S.length env a S = some (.ref S.length, S ++ [.lst xs])) (e2 : evE φ S.length env b (S ++ [.lst xs]) = some (.ref (S.length + 1), S ++ [.lst xs, .lst ys]))
    (hl : xs.length + ys.length ≤ lim) (hc : clL S.length (xs ++ ys) = true) : evE φ base env (.bin .Add a b) S = some (.ref S.length, S ++ [.lst (xs ++ ys)]) := by
  rw [e_bin e1 e2]
  have a1 : (S ++ [SO.lst xs, .lst ys])[S.length]? = some (.lst xs) := by
    rw [List.getElem?_append_right (Nat.le_refl _), Nat.sub_self]
    rfl
  have a2 : (S ++ [SO.lst xs, .lst ys])[S.length + 1]? = some (.lst ys) := by
    rw [List.getElem?_append_right (by omega), show S.length + 1 - S.length = 1 by omega]
    rfl
  have hb : binF .Add (.ref S.length) (.ref (S.length + 1)) (S ++ [SO.lst xs, .lst ys]) = some (.ref (S.length + 2), S ++ ([SO.lst xs, .lst ys] ++ [.lst (xs ++ ys)])) := by
    unfold binF
    simp only [a1, a2]
    rw [if_pos hl]
    show some (D.ref (S ++ [SO.lst xs, .lst ys]).length, (S ++ [SO.lst xs, .lst ys]) ++ [SO.lst (xs ++ ys)]) = _
    rw [List.append_assoc]
    simp
  rw [hb]
  exact gc_new (t := [SO.lst xs, .lst ys]) (k := 2) rfl hc
theorem dbl_or {r : Nat} (h : r < 2 ^ 32) : r ||| r <<< 32 = dbl 32 r := Nat.eq_of_testBit_eq fun i => by
  unfold dbl
  rw [Nat.testBit_or, Nat.testBit_xor, Nat.testBit_shiftLeft]
  by_cases c : i < 32
  · have : ¬ i ≥ 32 := by omega
    simp [this]
  · rw [Nat.testBit_lt_two_pow (Nat.lt_of_lt_of_le h (Nat.pow_le_pow_right (by decide) (Nat.le_of_not_lt c)))]
    simp
theorem dbl_elt (φ : Phi) (base r : Nat) (a b g : Option D) (S : Sto) (h : Low r) : lcS φ base [a, b, g] [2] (.nm 2) .no kshared_1 (.int (r : Int)) S = some (some (.int ((dbl 32 r : Nat) : Int)), S) := by
  have h32 : r < 2 ^ 32 := Nat.lt_of_lt_of_le h (by decide)
  have q := or_int r (r <<< 32)
  rw [dbl_or h32] at q
  have e : ((r <<< 32 : Nat) : Int) = (r : Int) * 2 ^ 32 := by
    rw [Nat.shiftLeft_eq]
    simp
  rw [e] at q
  have ha : ((r : Int)).natAbs < 2 ^ 64 := by
    rw [Int.natAbs_natCast]
    exact Nat.lt_of_lt_of_le h (by decide)
  obtain ⟨x, hx⟩ : ∃ x : Int, x = ((dbl 32 r : Nat) : Int) := ⟨_, rfl⟩
  obtain ⟨y, hy⟩ : ∃ y : Int, y = (r : Int) * 2 ^ 32 := ⟨_, rfl⟩
  have e1 : evE φ S.length [a, b, some (.int (r : Int))] (.bin .LShift (.var 2) (.con 32)) S = some (.int y, S) := by
    rw [e_bin (x := .int (r : Int)) (y := .int 32) (S1 := S) (S2 := S) (by rw [e_var]; rfl) (by rw [e_con])]
    show gc S.length (if 0 ≤ (32 : Int) ∧ (32 : Int) ≤ 1000000 ∧ ((r : Int)).natAbs < 2 ^ 64 then some (D.int ((r : Int) * 2 ^ (32 : Int).toNat), S) else none) = _
    rw [if_pos ⟨by decide, by decide, ha⟩, hy]
    exact gc_intS
  rw [← hx, ← hy] at q
  rw [← hx]
  have e2 : evE φ base [a, b, some (.int (r : Int))] kshared_1 S = some (.int x, S) := by
    unfold kshared_1
    rw [e_bin (x := .int (r : Int)) (S1 := S) (by rw [e_var]; rfl) e1]
    show gc S.length (some (.int (Builtin.bitOr (r : Int) y), S)) = _
    rw [q]
    exact gc_intS
  unfold lcS
  simp [tgF, wipeE, evO, e2]
theorem shared (R : Rows T) (n i j : Nat) (rows more : List Nat) (S : Sto) (h1 : LstAt S i (msk rows)) (h2 : LstAt S j (msk more)) (hl : ∀ r, r ∈ rows → Low r) (hn : rows.length + more.length ≤ 1000) (ht : S[1]? = some (.tbl "reduced")) :
    run T (n + 5) "shared" [.ref i, .ref j] S = some (.ref S.length, S ++ [.lst (msk (car 32 (frm (rows.map (dbl 32) ++ more))))]) := by
  rw [R.shared]
  have ht1 : 1 < S.length := (List.getElem?_eq_some_iff.mp ht).1
  obtain ⟨φ, hφ⟩ : ∃ φ, φ = run T (n + 4) := ⟨_, rfl⟩
  obtain ⟨ds, hds⟩ : ∃ ds, ds = rows.map (dbl 32) := ⟨_, rfl⟩
  have hdl : ds.length = rows.length := by rw [hds, List.length_map]
  have e1 : evE φ S.length [some (.ref i), some (.ref j), none] (.lc [2] (.nm 2) (.ex (.var 0)) .no kshared_1) S = some (.ref S.length, S ++ [.lst (msk ds)]) := by
    have hi := h1.walk (φ := φ) (base := S.length) (j := 0) (env := [some (.ref i), some (.ref j), none]) rfl
    have hm := lc_map (step := lcS φ S.length [some (.ref i), some (.ref j), none] [2] (.nm 2) .no kshared_1) (ok := fun S2 => Z.still S2 (some i) (msk rows)) (S := S) (fun m : Nat => D.int (m : Int)) (fun m => D.int (dbl 32 m : Nat)) h1.still rows [] (by show _ ≤ 100000; simp; omega) fun r hr => dbl_elt φ S.length r _ _ _ S (hl r hr)
    have hc := e_lc (φ := φ) (base := S.length) (own := [2]) (g := .nm 2) (c := .no) (e := kshared_1) rfl hi hm
    have e : [] ++ rows.map (fun m => D.int (dbl 32 m : Nat)) = msk ds := by
      rw [hds]
      unfold msk
      rw [List.map_map]
      rfl
    rw [e] at hc
    exact hc.trans (gc_new0 (cl_msk _))
  have e2 : evE φ S.length [some (.ref i), some (.ref j), none] (.blt .list (.cons (.var 1) .nil)) (S ++ [.lst (msk ds)]) = some (.ref (S.length + 1), S ++ [.lst (msk ds), .lst (msk more)]) := by
    obtain ⟨S1, hS1⟩ : ∃ S1, S1 = S ++ [SO.lst (msk ds)] := ⟨_, rfl⟩
    have hlen : S1.length = S.length + 1 := by rw [hS1]; simp
    have hj : LstAt S1 j (msk more) := by rw [hS1]; exact h2.app
    rw [← hS1, e_blt (vs := [.ref j]) (S1 := S1) (by simp [evS, evE, getV])]
    have hb : bltF .list [.ref j] S1 = some (.ref S1.length, S1 ++ [.lst (msk more)]) := by
      show (itemsOf S1 (.ref j)).bind (fun xs => new S1 (.lst xs)) = _
      have : itemsOf S1 (.ref j) = some (msk more) := by
        show (S1[j]?).bind SO.seq? = _
        rw [show S1[j]? = some (.lst (msk more)) from hj]
        rfl
      rw [this]
      rfl
    rw [hb, gc_new0 (o := .lst (msk more)) (cl_msk _), hlen, hS1, List.append_assoc]
    rfl
  have e3 := add_two (base := S.length) e1 e2 (by show _ ≤ 100000; simp [msk]; omega) (by
    have : msk ds ++ msk more = msk (ds ++ more) := by simp [msk]
    rw [this]
    exact cl_msk _)
  have em : msk ds ++ msk more = msk (ds ++ more) := by simp [msk]
  rw [em] at e3
  obtain ⟨S2, hS2⟩ : ∃ S2, S2 = S ++ [SO.lst (msk (ds ++ more))] := ⟨_, rfl⟩
  have hk : LstAt S2 S.length (msk (ds ++ more)) := by rw [hS2]; exact LstAt.new
  have ht2 : S2[1]? = some (.tbl "reduced") := by
    rw [hS2, List.getElem?_append_left ht1]
    exact ht
  have hlen : S2.length = S.length + 1 := by rw [hS2]; simp
  have q := carried R n S.length (ds ++ more) S2 hk (by rw [List.length_append]; omega) ht2
  rw [← hφ] at q
  have e4 : evE φ S.length [some (.ref i), some (.ref j), none] (.call "carried" (.cons (.bin .Add (.lc [2] (.nm 2) (.ex (.var 0)) .no kshared_1) (.blt .list (.cons (.var 1) .nil))) .nil)) S = some (.ref S.length, S ++ [.lst (msk (car 32 (frm (ds ++ more))))]) := by
    rw [e_call (vs := [.ref S.length]) (S1 := S2) (by rw [evS, e3, hS2]; simp [evS]), q, hlen, hS2, List.append_assoc]
    exact gc_new (t := [SO.lst (msk (ds ++ more))]) (k := 1) rfl (cl_msk _)
  have hx : exs φ S.length kshared [some (.ref i), some (.ref j), none] S = some (.ret (.ref S.length), [some (.ref i), some (.ref j), none], S ++ [.lst (msk (car 32 (frm (ds ++ more))))]) := by
    unfold kshared
    exact xs_ret (x_ret e4)
  rw [← hφ, ← hds, run_ret (φ := φ) (c := ⟨2, 3, kshared⟩) (vs := [.ref i, .ref j]) (S := S) rfl hx]
  exact gc_new0 (cl_msk _)
end G
end
section
set_option Elab.async false
set_option linter.all false
set_option autoImplicit false
set_option maxHeartbeats 4000000
/-! opposite forms, common forms -/
namespace G
open PySem L2 Z M
variable {T : Txt}
theorem mask_below {l : List Int} {k : Nat} (h : Lot l) (hk : ∀ i, i ∈ l → i < (k : Int)) : maskN l < 2 ^ k := by
  refine Nat.lt_pow_two_of_testBit _ fun i hi => ?_
  rw [mask_bit h.asc (fun i hi => (h.lo i hi).1)]
  refine decide_eq_false fun z => ?_
  have := hk _ z
  omega
theorem masks_at (R : Rows T) (n base : Nat) (env : Ev) (j : Nat) (ls : List (List Int)) (S : Sto) (hv : getV env j = some (lotsD ls)) (h : ∀ l, l ∈ ls → Lot l) (hl : ls.length ≤ 64) : evE (run T (n + 2)) base env (.call "masks_of" (.cons (.var j) .nil)) S = some (.ref S.length, S ++ [.lst (msk (ls.map maskN))]) := by
  have q := masks_of R n ls S h (by omega)
  rw [e_call (vs := [lotsD ls]) (S1 := S) (by simp [evS, evE, hv]), q]
  exact gc_new0 (cl_msk _)
theorem demand_at (L : Lots T) (n base : Nat) (env : Ev) (j : Nat) (ls : List (List Int)) (S : Sto) (hv : getV env j = some (lotsD ls)) (h : ∀ l, l ∈ ls → Lot l) (hl : ls.length ≤ 64) : evE (run T (n + 5)) base env (.call "_demand_lots" (.cons (.var j) .nil)) S = some (.non, S) := by
  have q := demand_lots L n ls S h hl
  rw [e_call (vs := [lotsD ls]) (S1 := S) (by simp [evS, evE, hv]), q, gc_self cl_non]
theorem lots_at (R : Rows T) (n base : Nat) (env : Ev) (e : Ex) (ms : List Nat) (S : Sto) (he : evE (run T (n + 2)) S.length env e S = some (.ref S.length, S ++ [.lst (msk ms)])) (h : ∀ m, m ∈ ms → Low m) (hl : ms.length ≤ 1000) : evE (run T (n + 2)) base env (.call "lots_of" (.cons e .nil)) S = some (lotsD (ms.map lotI), S) := by
  have q := lots_of R n S.length ms (S ++ [.lst (msk ms)]) LstAt.new h hl
  rw [e_call (vs := [.ref S.length]) (S1 := S ++ [.lst (msk ms)]) (by simp only [evS, he]), q]
  exact gc_app (show D.cl S.length (lotsD (ms.map lotI)) = true from cl_lots _)
theorem below_elt (L : Lots T) (n many : Nat) (v g : Option D) (l : List Int) (S : Sto) (h : Lot l) (hb : ∀ i, i ∈ l → i < (many : Int)) : lcS (run T (n + 3)) S.length [some (.int (many : Int)), v, g] [2] (.nm 2) .no kopposite_form_1 (lotD l) S = some (some (.bl true), S) := by
  have q := is_ascending L.toBits n (lotD l) (many : Int) S (okT_ints l)
  rw [asc_below h hb] at q
  unfold lcS kopposite_form_1
  simp [tgF, wipeE, evO, evE, evS, getV, q, gc_blS]
theorem opposite_form (L : Lots T) (n many : Nat) (ls : List (List Int)) (S : Sto) (hm : 1 ≤ many ∧ many ≤ 24) (h : ∀ l, l ∈ ls → Lot l) (hb : ∀ l, l ∈ ls → ∀ i, i ∈ l → i < (many : Int)) (hl : ls.length ≤ 64) (ht : S[1]? = some (.tbl "reduced")) :
    run T (n + 6) "opposite_form" [.int (many : Int), lotsD ls] S = some (lotsD ((frm (ker many (frm (ls.map maskN)))).map lotI), S) := by
  rw [L.opposite_form]
  have ht1 : 1 < S.length := (List.getElem?_eq_some_iff.mp ht).1
  obtain ⟨ms, hms⟩ : ∃ ms, ms = ls.map maskN := ⟨_, rfl⟩
  have hml : ms.length ≤ 64 := by rw [hms, List.length_map]; exact hl
  have hlt : ∀ m, m ∈ ms → m < 2 ^ many := fun m hm2 => by
    rw [hms] at hm2
    obtain ⟨l, hl2, rfl⟩ := List.mem_map.mp hm2
    exact mask_below (h l hl2) (hb l hl2)
  obtain ⟨hF, hSm⟩ := frm_spec ms
  have hflt : ∀ r, r ∈ frm ms → r < 2 ^ many := fun r hr => spn_lt hlt ((hSm r).mp (spn_mem hr))
  have hfl : (frm ms).length ≤ 64 := Nat.le_trans (frm_le ms) hml
  have hklow : ∀ m, m ∈ frm (ker many (frm ms)) → Low m := fun m hm2 => by
    have q := ((ker_spec hF.1 hflt m).mp (((frm_spec _).2 m).mp (spn_mem hm2))).1
    exact Nat.lt_of_lt_of_le q (Nat.pow_le_pow_right (by decide) hm.2)
  have hkl : (frm (ker many (frm ms))).length ≤ 1000 := by
    refine Nat.le_trans (frm_le _) ?_
    rw [ker, List.length_map]
    have := List.length_filter_le (fun l => !isHead (frm ms) l) (List.range many)
    rw [List.length_range] at this
    unfold free
    omega
  have a1 : evE (run T (n + 5)) S.length [some (.int (many : Int)), some (lotsD ls), none] (.call "_demand_many" (.cons (.var 0) .nil)) S = some (.non, S) := by
    have q := demand_many L (n + 2) (many : Int) S ⟨by omega, by omega⟩
    rw [e_call (vs := [.int (many : Int)]) (S1 := S) (by simp [evS, evE, getV]), q, gc_self cl_non]
  have a2 := demand_at L n S.length [some (.int (many : Int)), some (lotsD ls), none] 1 ls S rfl h hl
  have a3 : evT (run T (n + 5)) S.length [some (.int (many : Int)), some (lotsD ls), none] (.not (.blt .all (.cons (.lc [2] (.nm 2) (.ex (.var 1)) .no kopposite_form_1) .nil))) S = some (false, S) := by
    have hi : evI (run T (n + 5)) S.length [some (.int (many : Int)), some (lotsD ls), none] (.ex (.var 1)) S = some (ls.map lotD, none, S) := by
      simp [evI, evE, getV, itV]
    have hmm := lc_map (step := lcS (run T (n + 5)) S.length [some (.int (many : Int)), some (lotsD ls), none] [2] (.nm 2) .no kopposite_form_1) (ok := fun S2 => Z.still S2 none (ls.map lotD)) (S := S) lotD (fun _ => D.bl true) rfl ls [] (by show _ ≤ 100000; simp; omega) fun l hl2 => below_elt L (n + 2) many _ _ l S (h l hl2) (hb l hl2)
    have hc := e_lc (φ := run T (n + 5)) (base := S.length) (own := [2]) (g := .nm 2) (c := .no) (e := kopposite_form_1) rfl hi hmm
    obtain ⟨bs, hbs⟩ : ∃ bs : List Bool, bs = ls.map fun _ => true := ⟨_, rfl⟩
    have e : [] ++ ls.map (fun _ => D.bl true) = bs.map D.bl := by
      rw [hbs, List.map_map]
      rfl
    rw [e] at hc
    have hs := e_blt (φ := run T (n + 5)) (base := S.length) (env := [some (.int (many : Int)), some (lotsD ls), none]) (S := S) (b := .all) (es := .cons (.lc [2] (.nm 2) (.ex (.var 1)) .no kopposite_form_1) .nil) (vs := [.ref S.length]) (S1 := S ++ [.lst (bs.map D.bl)]) (by simp [evS, hc, new, gc_new0 (o := .lst (bs.map D.bl)) (cl_bls _)])
    have hs2 : evE (run T (n + 5)) S.length [some (.int (many : Int)), some (lotsD ls), none] (.blt .all (.cons (.lc [2] (.nm 2) (.ex (.var 1)) .no kopposite_form_1) .nil)) S = some (.bl (bs.all id), S) := by
      rw [hs]
      simp [bltF, lst_new, boolsOf_bls, gc_blA]
    have hb2 : bs.all id = true := by
      rw [hbs]
      exact all_true ls
    rw [hb2] at hs2
    unfold evT
    rw [evE, hs2]
    rfl
  have a4 : evE (run T (n + 5)) S.length [some (.int (many : Int)), some (lotsD ls), none] (.call "reduced" (.cons (.call "masks_of" (.cons (.var 1) .nil)) .nil)) S = some (.ref S.length, S ++ [.lst (msk (frm ms))]) := by
    have q0 := masks_at L.toRows (n + 3) S.length [some (.int (many : Int)), some (lotsD ls), none] 1 ls S rfl h hl
    rw [← hms] at q0
    obtain ⟨S1, hS1⟩ : ∃ S1, S1 = S ++ [SO.lst (msk ms)] := ⟨_, rfl⟩
    have hk : LstAt S1 S.length (msk ms) := by rw [hS1]; exact LstAt.new
    have ht2 : S1[1]? = some (.tbl "reduced") := by
      rw [hS1, List.getElem?_append_left ht1]
      exact ht
    have hlen : S1.length = S.length + 1 := by rw [hS1]; simp
    have q := reduced L.toRows (n + 2) S.length ms S1 hk ht2 (by omega)
    rw [e_call (vs := [.ref S.length]) (S1 := S1) (by rw [evS, q0, hS1]; simp [evS]), q, hlen, hS1, List.append_assoc]
    exact gc_new (t := [SO.lst (msk ms)]) (k := 1) rfl (cl_msk _)
  have a5 : evE (run T (n + 5)) S.length [some (.int (many : Int)), some (lotsD ls), none] (.call "kernel" (.cons (.var 0) (.cons (.call "reduced" (.cons (.call "masks_of" (.cons (.var 1) .nil)) .nil)) .nil))) S = some (.ref S.length, S ++ [.lst (msk (frm (ker many (frm ms))))]) := by
    obtain ⟨S1, hS1⟩ : ∃ S1, S1 = S ++ [SO.lst (msk (frm ms))] := ⟨_, rfl⟩
    have hk : LstAt S1 S.length (msk (frm ms)) := by rw [hS1]; exact LstAt.new
    have ht2 : S1[1]? = some (.tbl "reduced") := by
      rw [hS1, List.getElem?_append_left ht1]
      exact ht
    have hlen : S1.length = S.length + 1 := by rw [hS1]; simp
    have q := kernel L.toRows (n + 1) S.length many (frm ms) S1 hk hF.1 (by omega) hm.2 ht2
    rw [e_call (vs := [.int (many : Int), .ref S.length]) (S1 := S1) (by rw [evS, e_var]; simp [getV, evS, a4, hS1]), q, hlen, hS1, List.append_assoc]
    exact gc_new (t := [SO.lst (msk (frm ms))]) (k := 1) rfl (cl_msk _)
  have a6 := lots_at L.toRows (n + 3) S.length _ _ _ S a5 hklow hkl
  rw [← hms]
  have hx : exs (run T (n + 5)) S.length kopposite_form [some (.int (many : Int)), some (lotsD ls), none] S = some (.ret (lotsD ((frm (ker many (frm ms))).map lotI)), [some (.int (many : Int)), some (lotsD ls), none], S) := by
    unfold kopposite_form
    refine (xs_nx (x_expr a1)).trans ?_
    refine (xs_nx (x_expr a2)).trans ?_
    refine (xs_nx ((x_if a3).trans xs_nil)).trans ?_
    exact xs_ret (x_ret a6)
  rw [run_ret (φ := run T (n + 5)) (c := ⟨2, 3, kopposite_form⟩) (vs := [.int (many : Int), lotsD ls]) (S := S) rfl hx]
  exact gc_self (show D.cl S.length (lotsD ((frm (ker many (frm ms))).map lotI)) = true from cl_lots _)
theorem common_form (L : Lots T) (n : Nat) (ls ns : List (List Int)) (S : Sto) (h : ∀ l, l ∈ ls → Lot l) (h2 : ∀ l, l ∈ ns → Lot l) (hl : ls.length ≤ 64) (hl2 : ns.length ≤ 64) (ht : S[1]? = some (.tbl "reduced")) :
    run T (n + 6) "common_form" [lotsD ls, lotsD ns] S = some (lotsD ((car 32 (frm ((ls.map maskN).map (dbl 32) ++ ns.map maskN))).map lotI), S) := by
  rw [L.common_form]
  have ht1 : 1 < S.length := (List.getElem?_eq_some_iff.mp ht).1
  obtain ⟨ms, hms⟩ : ∃ ms, ms = ls.map maskN := ⟨_, rfl⟩
  obtain ⟨os, hos⟩ : ∃ os, os = ns.map maskN := ⟨_, rfl⟩
  have hml : ms.length ≤ 64 := by rw [hms, List.length_map]; exact hl
  have hol : os.length ≤ 64 := by rw [hos, List.length_map]; exact hl2
  have m1 : ∀ m, m ∈ ms → Low m := fun m hm => by
    rw [hms] at hm
    obtain ⟨l, hl2, rfl⟩ := List.mem_map.mp hm
    exact lot_low (h l hl2)
  have m2 : ∀ m, m ∈ os → Low m := fun m hm => by
    rw [hos] at hm
    obtain ⟨l, hl2, rfl⟩ := List.mem_map.mp hm
    exact lot_low (h2 l hl2)
  have up : ∀ {m : Nat}, Low m → m < 2 ^ 32 := fun h => Nat.lt_of_lt_of_le h (by decide)
  obtain ⟨cs, hcs⟩ : ∃ cs, cs = car 32 (frm (ms.map (dbl 32) ++ os)) := ⟨_, rfl⟩
  have hclow : ∀ m, m ∈ cs → Low m := fun m hm => by
    rw [hcs] at hm
    obtain ⟨f1, f2⟩ := frm_spec (ms.map (dbl 32) ++ os)
    exact spn_low m1 ((car_spn f1 f2 (fun r hr => up (m1 r hr)) (fun r hr => up (m2 r hr)) m).mp (spn_mem hm)).1
  have hcl : cs.length ≤ 1000 := by
    rw [hcs, car, List.length_map]
    have a := List.length_filter_le (isTop 32) (frm (ms.map (dbl 32) ++ os))
    have b := frm_le (ms.map (dbl 32) ++ os)
    rw [List.length_append, List.length_map] at b
    omega
  have a1 := demand_at L n S.length [some (lotsD ls), some (lotsD ns)] 0 ls S rfl h hl
  have a2 := demand_at L n S.length [some (lotsD ls), some (lotsD ns)] 1 ns S rfl h2 hl2
  obtain ⟨S1, hS1⟩ : ∃ S1, S1 = S ++ [SO.lst (msk ms)] := ⟨_, rfl⟩
  have b1 : evE (run T (n + 5)) S.length [some (lotsD ls), some (lotsD ns)] (.call "masks_of" (.cons (.var 0) .nil)) S = some (.ref S.length, S1) := by
    have := masks_at L.toRows (n + 3) S.length [some (lotsD ls), some (lotsD ns)] 0 ls S rfl h hl
    rw [← hms, ← hS1] at this
    exact this
  have hlen : S1.length = S.length + 1 := by rw [hS1]; simp
  obtain ⟨S2, hS2⟩ : ∃ S2, S2 = S1 ++ [SO.lst (msk os)] := ⟨_, rfl⟩
  have b2 : evE (run T (n + 5)) S.length [some (lotsD ls), some (lotsD ns)] (.call "masks_of" (.cons (.var 1) .nil)) S1 = some (.ref S1.length, S2) := by
    have := masks_at L.toRows (n + 3) S.length [some (lotsD ls), some (lotsD ns)] 1 ns S1 rfl h2 hl2
    rw [← hos, ← hS2] at this
    exact this
  have hlen2 : S2.length = S.length + 2 := by rw [hS2]; simp [hlen]
  have k1 : LstAt S2 S.length (msk ms) := by
    rw [hS2, hS1]
    exact LstAt.new.app
  have k2 : LstAt S2 S1.length (msk os) := by
    rw [hS2]
    exact LstAt.new
  have ht2 : S2[1]? = some (.tbl "reduced") := by
    rw [hS2, hS1, List.append_assoc, List.getElem?_append_left ht1]
    exact ht
  have q := shared L.toRows n S.length S1.length ms os S2 k1 k2 m1 (by omega) ht2
  rw [← hcs] at q
  have a5 : evE (run T (n + 5)) S.length [some (lotsD ls), some (lotsD ns)] (.call "shared" (.cons (.call "masks_of" (.cons (.var 0) .nil)) (.cons (.call "masks_of" (.cons (.var 1) .nil)) .nil))) S = some (.ref S.length, S ++ [.lst (msk cs)]) := by
    rw [e_call (vs := [.ref S.length, .ref S1.length]) (S1 := S2) (by simp only [evS, b1, b2]), q, hlen2, hS2, hS1, List.append_assoc, List.append_assoc]
    exact gc_new (t := [SO.lst (msk ms), SO.lst (msk os)]) (k := 2) rfl (cl_msk _)
  have a6 := lots_at L.toRows (n + 3) S.length _ _ _ S a5 hclow hcl
  rw [← hms, ← hos, ← hcs]
  have hx : exs (run T (n + 5)) S.length kcommon_form [some (lotsD ls), some (lotsD ns)] S = some (.ret (lotsD (cs.map lotI)), [some (lotsD ls), some (lotsD ns)], S) := by
    unfold kcommon_form
    refine (xs_nx (x_expr a1)).trans ?_
    refine (xs_nx (x_expr a2)).trans ?_
    exact xs_ret (x_ret a6)
  rw [run_ret (φ := run T (n + 5)) (c := ⟨2, 2, kcommon_form⟩) (vs := [lotsD ls, lotsD ns]) (S := S) rfl hx]
  exact gc_self (show D.cl S.length (lotsD (cs.map lotI)) = true from cl_lots _)
end G
end
section
set_option Elab.async false
set_option linter.all false
set_option autoImplicit false
set_option maxHeartbeats 4000000
/-! dice -/
namespace G
open PySem L2 Z M
variable {T : Txt}
/-! ### dice -/
def Dice (S : Sto) (i : Nat) (g s k : Int) : Prop := S[i]? = some (.lst [.int g, .int s, .int k])
section
variable {S : Sto} {i : Nat} {g s k : Int}
theorem Dice.ix0 (h : Dice S i g s k) : ixF (.ref i) (.int 0) S = some (.int g) := by
  unfold Dice at h
  simp [ixF, itemsOf, h, SO.seq?, atI, ixN]
theorem Dice.ix1 (h : Dice S i g s k) : ixF (.ref i) (.int 1) S = some (.int s) := by
  unfold Dice at h
  simp [ixF, itemsOf, h, SO.seq?, atI, ixN]
theorem Dice.ix2 (h : Dice S i g s k) : ixF (.ref i) (.int 2) S = some (.int k) := by
  unfold Dice at h
  simp [ixF, itemsOf, h, SO.seq?, atI, ixN]
theorem Dice.lt (h : Dice S i g s k) : i < S.length := (List.getElem?_eq_some_iff.mp h).1
theorem Dice.put0 {b : Nat} (h : Dice S i g s k) (v : Int) : sixF b (.ref i) (.int 0) (.int v) S = some (S.set i (.lst [.int v, .int s, .int k])) := by
  unfold Dice at h
  simp [sixF, h, ixN, wr, D.cl]
theorem Dice.put2 {b : Nat} (h : Dice S i g s k) (v : Int) : sixF b (.ref i) (.int 2) (.int v) S = some (S.set i (.lst [.int g, .int s, .int v])) := by
  unfold Dice at h
  simp [sixF, h, ixN, wr, D.cl]
theorem Dice.set (h : Dice S i g s k) (g' s' k' : Int) : Dice (S.set i (.lst [.int g', .int s', .int k'])) i g' s' k' := by
  unfold Dice
  rw [List.getElem?_set_self h.lt]
end
theorem x_six {φ : Phi} {base : Nat} {env : Ev} {S S1 S2 S3 S4 : Sto} {o i e : Ex} {x y z : D} (h1 : evE φ base env e S = some (x, S1)) (h2 : evE φ base env o S1 = some (y, S2)) (h3 : evE φ base env i S2 = some (z, S3)) (h4 : sixF base y z x S3 = some S4) : ex1 φ base (.six o i e) env S = some (.nx, env, S4) := by
  rw [ex1, h1]
  simp only [h2, h3, h4]
  rfl
theorem roll_great (W : Drw T) (n i : Nat) (g s k most : Int) (S : Sto) (h : Dice S i g s k) (hm : 1 ≤ most) (hl : most.natAbs.log2 < 9000) (hg : 0 < g) : run T (n + 1) "_law_roll" [.ref i, .int most] S = some (.int (g % most), S.set i (.lst [.int (g / most), .int s, .int k])) := by
  rw [W.law_roll]
  have h0 := h.ix0
  have hm0 : 0 < most := by omega
  have e1 : evT (run T n) S.length [some (.ref i), some (.int most), none, none, none] (.cmp .Gt (.ix (.var 0) (.int 0)) (.int 0)) S = some (true, S) := by
    simp [evT, evE, getV, h0, gc_intS, gc_blS, cmpF, truF, hg]
  have e2 : evE (run T n) S.length [some (.ref i), some (.int most), none, none, none] (.bin .Mod (.blt .int (.cons (.ix (.var 0) (.int 0)) .nil)) (.var 1)) S = some (.int (g % most), S) := by
    simp [evE, evS, getV, h0, gc_intS, binF, bltF, hm0]
  have e3 : evE (run T n) S.length [some (.ref i), some (.int most), none, none, some (.int (g % most))] (.bin .FloorDiv (.ix (.var 0) (.int 0)) (.var 1)) S = some (.int (g / most), S) := by
    simp [evE, evS, getV, h0, gc_intS, binF, hm0, hl]
  have e4 := x_six (φ := run T n) (base := S.length) (env := [some (.ref i), some (.int most), none, none, some (.int (g % most))]) (o := .var 0) (i := .int 0) e3 (by rw [e_var]; rfl) e_int (h.put0 (b := S.length) (g / most))
  refine (run_ret (c := ⟨2, 5, klaw_roll⟩) rfl (xs_ret ((x_if e1).trans ((xs_nx (x_set e2)).trans ((xs_nx e4).trans (xs_ret (x_ret (by rw [e_var]; rfl)))))))).trans ?_
  have := gc_self (d := .int (g % most)) (S := S.set i (.lst [.int (g / most), .int s, .int k])) rfl
  rw [List.length_set] at this
  exact this
theorem log_lt {a : Nat} (h : a < 2 ^ 200) : a.log2 < 200 := by
  by_cases h0 : a = 0
  · subst h0
    decide
  · exact (Nat.log2_lt h0).mpr h
theorem logs {a b : Int} (ha : a.natAbs < 2 ^ 200) (hb : b.natAbs < 2 ^ 200) : a.natAbs.log2 + b.natAbs.log2 < 1000000 := by
  have := log_lt ha
  have := log_lt hb
  omega
def one (s k : Int) : Int := (s + 49979687 * k) % 2305843009213693487
def two (s k : Int) : Int := (one s k * one s k + 113 * k) % 2305843009213693669 * 6700417 + one s k
theorem one_lt (s k : Int) : 0 ≤ one s k ∧ one s k < 2305843009213693487 := ⟨Int.emod_nonneg _ (by decide), Int.emod_lt_of_pos _ (by decide)⟩
theorem roll_small (W : Drw T) (n i : Nat) (g s k most : Int) (S : Sto) (h : Dice S i g s k) (hm : 1 ≤ most) (hg : ¬ 0 < g) (hk : 0 ≤ k) (hk2 : k < 2 ^ 64) : run T (n + 1) "_law_roll" [.ref i, .int most] S = some (.int (two s (k + 1) / 65539 % most), S.set i (.lst [.int g, .int s, .int (k + 1)])) := by
  rw [W.law_roll]
  have hm0 : 0 < most := by omega
  have h' := h.set g s (k + 1)
  obtain ⟨S', hS'⟩ : ∃ S', S' = S.set i (.lst [.int g, .int s, .int (k + 1)]) := ⟨_, rfl⟩
  have hlen : S'.length = S.length := by rw [hS', List.length_set]
  rw [← hS'] at h' ⊢
  have g1 : ∀ j : Int, gc S'.length (some (.int j, S')) = some (.int j, S') := fun j => gc_intS
  have o1 := one_lt s (k + 1)
  have m1 := logs (a := 49979687) (b := k + 1) (by decide) (by omega)
  have m2 := logs (a := one s (k + 1)) (b := one s (k + 1)) (by omega) (by omega)
  have m3 := logs (a := 113) (b := k + 1) (by decide) (by omega)
  have m4 := logs (a := (one s (k + 1) * one s (k + 1) + 113 * (k + 1)) % 2305843009213693669) (b := 6700417) (by
    have := Int.emod_nonneg (one s (k + 1) * one s (k + 1) + 113 * (k + 1)) (show (2305843009213693669 : Int) ≠ 0 by decide)
    have := Int.emod_lt_of_pos (one s (k + 1) * one s (k + 1) + 113 * (k + 1)) (show (0 : Int) < 2305843009213693669 by decide)
    omega) (by decide)
  have e1 : evT (run T n) S.length [some (.ref i), some (.int most), none, none, none] (.cmp .Gt (.ix (.var 0) (.int 0)) (.int 0)) S = some (false, S) := by
    simp [evT, evE, getV, h.ix0, gc_intS, gc_blS, cmpF, truF, hg]
  have e2 : evE (run T n) S.length [some (.ref i), some (.int most), none, none, none] (.bin .Add (.ix (.var 0) (.int 2)) (.int 1)) S = some (.int (k + 1), S) := by
    simp [evE, evS, getV, h.ix2, gc_intS, binF]
  have e3 := x_six (φ := run T n) (base := S.length) (env := [some (.ref i), some (.int most), none, none, none]) (o := .var 0) (i := .int 2) e2 (by rw [e_var]; rfl) e_int (h.put2 (b := S.length) (k + 1))
  rw [← hS'] at e3
  have e4 : evE (run T n) S.length [some (.ref i), some (.int most), none, none, none] (.bin .Mod (.blt .int (.cons (.bin .Add (.ix (.var 0) (.int 1)) (.bin .Mult (.int 49979687) (.ix (.var 0) (.int 2)))) .nil)) (.int 2305843009213693487)) S' = some (.int (one s (k + 1)), S') := by
    simp only [evE, evS, getV, h'.ix1, h'.ix2, g1, binF, bltF, List.getElem?_cons_zero, Option.join_some, Option.map_some, if_pos m1]
    rw [if_pos (by decide), g1]
    rfl
  have e5 : evE (run T n) S.length [some (.ref i), some (.int most), some (.int (one s (k + 1))), none, none] (.bin .Add (.bin .Mult (.bin .Mod (.blt .int (.cons (.bin .Add (.bin .Mult (.var 2) (.var 2)) (.bin .Mult (.int 113) (.ix (.var 0) (.int 2)))) .nil)) (.int 2305843009213693669)) (.int 6700417)) (.var 2)) S' = some (.int (two s (k + 1)), S') := by
    simp only [evE, evS, getV, h'.ix2, g1, binF, bltF, List.getElem?_cons_zero, List.getElem?_cons_succ, Option.join_some, Option.map_some, if_pos m2, if_pos m3]
    rw [if_pos (by decide)]
    simp only [g1, if_pos m4]
    rfl
  have e6 : evE (run T n) S.length [some (.ref i), some (.int most), some (.int (one s (k + 1))), some (.int (two s (k + 1))), none] (.bin .Mod (.blt .int (.cons (.bin .FloorDiv (.var 3) (.int 65539)) .nil)) (.var 1)) S' = some (.int (two s (k + 1) / 65539 % most), S') := by
    have c : (0 : Int) < 65539 ∧ (65539 : Int).natAbs.log2 < 9000 := by decide
    simp only [evE, evS, getV, g1, binF, bltF, List.getElem?_cons_zero, List.getElem?_cons_succ, Option.join_some, Option.map_some, if_pos c, if_pos hm0]
  refine (run_ret (c := ⟨2, 5, klaw_roll⟩) rfl ((xs_nx ((x_if e1).trans xs_nil)).trans ((xs_nx e3).trans ((xs_nx (x_set (i := 2) e4)).trans ((xs_nx (x_set (i := 3) e5)).trans (xs_ret (x_ret e6))))))).trans ?_
  rw [← hlen]
  exact g1 _
/-- a roll, whatever it is -/
theorem roll (W : Drw T) (n i : Nat) (g s k most : Int) (S : Sto) (h : Dice S i g s k) (hm : 1 ≤ most) (hl : most < 2 ^ 64) (hk : 0 ≤ k) (hk2 : k < 2 ^ 64) : ∃ r g' k', run T (n + 1) "_law_roll" [.ref i, .int most] S = some (.int r, S.set i (.lst [.int g', .int s, .int k'])) ∧ 0 ≤ r ∧ r < most ∧ k ≤ k' ∧ k' ≤ k + 1 := by
  by_cases hg : 0 < g
  · refine ⟨_, _, _, roll_great W n i g s k most S h hm ?_ hg, Int.emod_nonneg _ (by omega), Int.emod_lt_of_pos _ (by omega), Int.le_refl _, by omega⟩
    have := log_lt (a := most.natAbs) (by omega)
    omega
  · exact ⟨_, _, _, roll_small W n i g s k most S h hm hg hk hk2, Int.emod_nonneg _ (by omega), Int.emod_lt_of_pos _ (by omega), by omega, by omega⟩
end G
end
section
set_option Elab.async false
set_option linter.all false
set_option autoImplicit false
set_option maxHeartbeats 4000000
/-! the law's sums -/
namespace G
open PySem L2 Z M
variable {T : Txt}
/-! ### the law's own lots -/
theorem odd_turn (n : Nat) (x y : D) (ms : List Int) (z : Option D) (i : Int) (S : Sto) (hy : y = .tup (ms.map .int)) : lcS (run T n) S.length [some x, some y, z] [2] (.nm 2) klaw_lo_is_odd_1 (.var 2) (.int i) S = some (if i ∈ ms then some (.int i) else none, S) := by
  unfold lcS klaw_lo_is_odd_1
  subst hy
  simp [tgF, wipeE, evO, evE, getV, cmpF, inD_ints, gc_blS, truF]
  by_cases h : i ∈ ms <;> simp [h]
theorem fm_filter {p : Int → Bool} : ∀ l : List Int, (l.filterMap fun i => if p i = true then some (D.int i) else none) = (l.filter p).map D.int := filterMap_if
theorem is_oddL (W : LoB T) (n : Nat) (x y : D) (ns ms : List Int) (S : Sto) (hx : x = .tup (ns.map .int)) (hy : y = .tup (ms.map .int)) (hl : ns.length ≤ 1000) : run T (n + 1) "_law_lo_is_odd" [x, y] S = some (.bl (decide (((ns.filter fun i => decide (i ∈ ms)).length : Int) % 2 = 1)), S) := by
  rw [W.law_lo_is_odd]
  have hi : evI (run T n) S.length [some x, some y, none] (.ex (.var 0)) S = some (ns.map .int, none, S) := by
    subst hx
    simp [evI, evE, getV, itV]
  have hc := e_lc (φ := run T n) (base := S.length) (own := [2]) (g := .nm 2) (c := klaw_lo_is_odd_1) (e := .var 2) rfl hi (lc_ints (fun i => if i ∈ ms then some (.int i) else none) rfl ns (by show _ ≤ 100000; omega) fun i hi => odd_turn n x y ms none i S hy)
  obtain ⟨ps, hps⟩ : ∃ ps : List Int, ps = ns.filter fun i => decide (i ∈ ms) := ⟨_, rfl⟩
  have e : (ns.filterMap fun i => if i ∈ ms then some (D.int i) else none) = ps.map D.int := by
    rw [hps, ← filterMap_if]
    congr 1
    funext i
    by_cases h : i ∈ ms <;> simp [h]
  rw [e] at hc
  rw [← hps]
  have hs := e_blt (φ := run T n) (base := S.length) (env := [some x, some y, none]) (S := S) (b := .len) (es := .cons (.lc [2] (.nm 2) (.ex (.var 0)) klaw_lo_is_odd_1 (.var 2)) .nil) (vs := [.ref S.length]) (S1 := S ++ [.lst (ps.map D.int)]) (by simp [evS, hc, new, gc_new0 (o := .lst (ps.map D.int)) (cl_ints _)])
  have hs2 : evE (run T n) S.length [some x, some y, none] (.blt .len (.cons (.lc [2] (.nm 2) (.ex (.var 0)) klaw_lo_is_odd_1 (.var 2)) .nil)) S = some (.int (ps.length : Int), S) := by
    rw [hs]
    simp [bltF, items_new, gc_intA]
  have a1 : evE (run T n) S.length [some x, some y, none] (.bin .Mod (.blt .len (.cons (.lc [2] (.nm 2) (.ex (.var 0)) klaw_lo_is_odd_1 (.var 2)) .nil)) (.int 2)) S = some (.int ((ps.length : Int) % 2), S) := by
    rw [e_bin hs2 e_int]
    simp [binF, gc_intS]
  have a2 : evE (run T n) S.length [some x, some y, none] (.cmp .Eq (.bin .Mod (.blt .len (.cons (.lc [2] (.nm 2) (.ex (.var 0)) klaw_lo_is_odd_1 (.var 2)) .nil)) (.int 2)) (.int 1)) S = some (.bl (decide ((ps.length : Int) % 2 = 1)), S) := by
    rw [e_cmp a1 e_int]
    simp [cmpF, eqD_int, gc_blS]
  have hx : exs (run T n) S.length klaw_lo_is_odd [some x, some y, none] S = some (.ret (.bl (decide ((ps.length : Int) % 2 = 1))), [some x, some y, none], S) := xs_ret (x_ret a2)
  rw [run_ret (φ := run T n) (c := ⟨2, 3, klaw_lo_is_odd⟩) (vs := [x, y]) (S := S) rfl hx, gc_blS]
/-- the sum of two lots -/
theorem sum_turn1 (n : Nat) (x y : D) (ms : List Int) (z : Option D) (i : Int) (S : Sto) (hy : y = .tup (ms.map .int)) : lcS (run T n) S.length [some x, some y, z] [2] (.nm 2) klaw_lo_sum_1 (.var 2) (.int i) S = some (if i ∈ ms then none else some (.int i), S) := by
  unfold lcS klaw_lo_sum_1
  subst hy
  simp [tgF, wipeE, evO, evE, getV, cmpF, inD_ints, gc_blS, truF]
  by_cases h : i ∈ ms <;> simp [h]
theorem sum_turn2 (n : Nat) (x y : D) (ns : List Int) (z : Option D) (i : Int) (S : Sto) (hx : x = .tup (ns.map .int)) : lcS (run T n) S.length [some x, some y, z] [2] (.nm 2) klaw_lo_sum_2 (.var 2) (.int i) S = some (if i ∈ ns then none else some (.int i), S) := by
  unfold lcS klaw_lo_sum_2
  subst hx
  simp [tgF, wipeE, evO, evE, getV, cmpF, inD_ints, gc_blS, truF]
  by_cases h : i ∈ ns <;> simp [h]
theorem fm_not (ns ms : List Int) : (ns.filterMap fun i => if i ∈ ms then none else some (D.int i)) = (ns.filter fun i => !decide (i ∈ ms)).map D.int := by
  rw [← filterMap_if]
  congr 1
  funext i
  by_cases h : i ∈ ms <;> simp [h]
theorem sum_a (n base : Nat) (x y : D) (ns ms ps : List Int) (S : Sto) (hx : x = .tup (ns.map .int)) (hy : y = .tup (ms.map .int)) (hl : ns.length ≤ lim) (hps : ps = ns.filter fun i => !decide (i ∈ ms)) :
    evE (run T n) base [some x, some y, none] (.lc [2] (.nm 2) (.ex (.var 0)) klaw_lo_sum_1 (.var 2)) S = some (.ref S.length, S ++ [.lst (ps.map .int)]) := by
  have hi : evI (run T n) S.length [some x, some y, none] (.ex (.var 0)) S = some (ns.map .int, none, S) := by
    subst hx
    simp [evI, evE, getV, itV]
  have h2 : lcF (lcS (run T n) S.length [some x, some y, none] [2] (.nm 2) klaw_lo_sum_1 (.var 2)) (fun S2 => still S2 none (ns.map .int)) (ns.map .int) [] S = some (ps.map D.int, S) := by
    rw [lc_ints (fun i => if i ∈ ms then none else some (.int i)) rfl ns hl fun i hi => sum_turn1 n x y ms none i S hy, fm_not, hps]
  rw [e_lc rfl hi h2]
  exact gc_new0 (cl_ints _)
theorem sum_b (n base : Nat) (x y : D) (ns ms ps : List Int) (S : Sto) (hx : x = .tup (ns.map .int)) (hy : y = .tup (ms.map .int)) (hl : ms.length ≤ lim) (hps : ps = ms.filter fun i => !decide (i ∈ ns)) :
    evE (run T n) base [some x, some y, none] (.lc [2] (.nm 2) (.ex (.var 1)) klaw_lo_sum_2 (.var 2)) S = some (.ref S.length, S ++ [.lst (ps.map .int)]) := by
  have hi : evI (run T n) S.length [some x, some y, none] (.ex (.var 1)) S = some (ms.map .int, none, S) := by
    subst hy
    simp [evI, evE, getV, itV]
  have h2 : lcF (lcS (run T n) S.length [some x, some y, none] [2] (.nm 2) klaw_lo_sum_2 (.var 2)) (fun S2 => still S2 none (ms.map .int)) (ms.map .int) [] S = some (ps.map D.int, S) := by
    rw [lc_ints (fun i => if i ∈ ns then none else some (.int i)) rfl ms hl fun i hi => sum_turn2 n x y ns none i S hx, fm_not, hps]
  rw [e_lc rfl hi h2]
  exact gc_new0 (cl_ints _)
theorem add_new {S : Sto} {a b : List D} (hl : a.length + b.length ≤ lim) : binF .Add (.ref S.length) (.ref (S ++ [SO.lst a]).length) (S ++ [SO.lst a] ++ [SO.lst b]) = some (.ref (S.length + 2), S ++ ([SO.lst a, SO.lst b] ++ [SO.lst (a ++ b)])) := by
  have e1 : (S ++ [SO.lst a] ++ [SO.lst b])[S.length]? = some (SO.lst a) := by simp
  have e2 : (S ++ [SO.lst a] ++ [SO.lst b])[(S ++ [SO.lst a]).length]? = some (SO.lst b) := by simp
  unfold binF
  simp only [e1, e2, if_pos hl]
  unfold new
  simp
theorem lo_sumL (W : LoB T) (n : Nat) (x y : D) (ns ms ps qs : List Int) (S : Sto) (hx : x = .tup (ns.map .int)) (hy : y = .tup (ms.map .int)) (hl : ns.length ≤ lim) (hl2 : ms.length ≤ lim) (hps : ps = ns.filter fun i => !decide (i ∈ ms)) (hqs : qs = ms.filter fun i => !decide (i ∈ ns)) (hpq : ps.length + qs.length ≤ lim) :
    run T (n + 1) "_law_lo_sum" [x, y] S = some (.tup ((sortI (ps ++ qs)).map .int), S) := by
  rw [W.law_lo_sum]
  have a1 : evE (run T n) S.length [some x, some y, none] (.bin .Add (.lc [2] (.nm 2) (.ex (.var 0)) klaw_lo_sum_1 (.var 2)) (.lc [2] (.nm 2) (.ex (.var 1)) klaw_lo_sum_2 (.var 2))) S = some (.ref S.length, S ++ [.lst ((ps ++ qs).map .int)]) := by
    rw [e_bin (sum_a n _ x y ns ms ps S hx hy hl hps) (sum_b n _ x y ns ms qs _ hx hy hl2 hqs), add_new (by simpa using hpq), List.map_append]
    exact gc_new (k := 2) rfl (by rw [← List.map_append]; exact cl_ints _)
  obtain ⟨rs, hrs⟩ : ∃ rs : List Int, rs = ps ++ qs := ⟨_, rfl⟩
  rw [← hrs] at a1 ⊢
  have a2 : evE (run T n) S.length [some x, some y, none] (.blt .sorted (.cons (.bin .Add (.lc [2] (.nm 2) (.ex (.var 0)) klaw_lo_sum_1 (.var 2)) (.lc [2] (.nm 2) (.ex (.var 1)) klaw_lo_sum_2 (.var 2))) .nil)) S = some (.ref S.length, S ++ [.lst ((sortI rs).map .int)]) := by
    rw [e_blt (vs := [.ref S.length]) (S1 := S ++ [.lst (rs.map .int)]) (by rw [evS, a1]; rfl)]
    show gc S.length (((lstOf (S ++ [.lst (rs.map .int)]) (.ref S.length)).bind intsOf).bind fun ns => new (S ++ [.lst (rs.map .int)]) (.lst ((sortI ns).map .int))) = _
    rw [lst_new, Option.bind_some, intsOf_ints, Option.bind_some]
    have := gc_new (S := S) (t := [.lst (rs.map .int)]) (o := .lst ((sortI rs).map .int)) (k := 1) rfl (cl_ints _)
    rw [← List.append_assoc] at this
    rw [← this]
    unfold new
    simp
  have a3 : evE (run T n) S.length [some x, some y, none] (.blt .tuple (.cons (.blt .sorted (.cons (.bin .Add (.lc [2] (.nm 2) (.ex (.var 0)) klaw_lo_sum_1 (.var 2)) (.lc [2] (.nm 2) (.ex (.var 1)) klaw_lo_sum_2 (.var 2))) .nil)) .nil)) S = some (.tup ((sortI rs).map .int), S) := by
    rw [e_blt (vs := [.ref S.length]) (S1 := S ++ [.lst ((sortI rs).map .int)]) (by rw [evS, a2]; rfl)]
    simp [bltF, items_new, gc_intsA]
  have hx : exs (run T n) S.length klaw_lo_sum [some x, some y, none] S = some (.ret (.tup ((sortI rs).map .int)), [some x, some y, none], S) := xs_ret (x_ret a3)
  rw [run_ret (φ := run T n) (c := ⟨2, 3, klaw_lo_sum⟩) (vs := [x, y]) (S := S) rfl hx, gc_ints]
end G
end
section
set_option Elab.async false
set_option linter.all false
set_option autoImplicit false
set_option maxHeartbeats 4000000
/-! the dice made -/
namespace G
open PySem L2 Z M
variable {T : Txt}
theorem cell25 (n p : Nat) (ns : List Int) (spot : Nat) (z1 z2 : Option D) (S : Sto) (h : itemsOf S (.ref p) = some (ns.map .int)) (hs : spot ≤ 100) : ∃ c : Int, evE (run T n) S.length [some (.ref p), some (.int (spot : Int)), z1, z2] (.ite (.cmp .Lt (.var 1) (.blt .len (.cons (.var 0) .nil))) (.blt .int (.cons (.ix (.var 0) (.var 1)) .nil)) (.bin .Add (.bin .Mult (.int 127) (.var 1)) (.int 71))) S = some (.int c, S) := by
  have a1 : evE (run T n) S.length [some (.ref p), some (.int (spot : Int)), z1, z2] (.cmp .Lt (.var 1) (.blt .len (.cons (.var 0) .nil))) S = some (.bl (decide ((spot : Int) < (ns.length : Int))), S) := by
    simp [evE, evS, getV, bltF, h, gc_intS, cmpF, gc_blS]
  by_cases c : spot < ns.length
  · refine ⟨ns[spot], ?_⟩
    have hat : atI (ns.map D.int) (spot : Int) = some (.int ns[spot]) := by
      simp [atI, ixN, c]
    have hix : ixF (.ref p) (.int (spot : Int)) S = some (.int ns[spot]) := by
      show (itemsOf S (.ref p)).bind _ = _
      rw [h]
      exact hat
    rw [evE, a1]
    simp [truF, c, evE, evS, getV, hix, gc_intS, bltF]
  · have hm : (127 : Int).natAbs.log2 + ((spot : Int)).natAbs.log2 < 1000000 := logs (by decide) (by omega)
    refine ⟨127 * (spot : Int) + 71, ?_⟩
    rw [evE, a1]
    have c' : ¬ ((spot : Int) < (ns.length : Int)) := by omega
    simp only [truF, c', decide_false, evE, evS, getV, List.getElem?_cons_zero, List.getElem?_cons_succ, Option.join_some, Option.map_some, binF, if_pos hm, gc_intS]
theorem pow25 (n : Nat) (base : Nat) (env : Ev) (S : Sto) (i : Int) (e : Nat) (hi : i = (e : Int)) (he : e ≤ 100) : evE (run T n) base env (.bin .Pow (.int 10) (.int i)) S = some (.int (10 ^ e), S) := by
  subst hi
  rw [e_bin e_int e_int]
  have c : (0 : Int) ≤ (e : Int) ∧ (e : Int) ≤ 1000000 ∧ (10 : Int).natAbs < 2 ^ 64 := ⟨by omega, by omega, by decide⟩
  show gc S.length (if (0 : Int) ≤ (e : Int) ∧ (e : Int) ≤ 1000000 ∧ (10 : Int).natAbs < 2 ^ 64 then some (D.int (10 ^ (e : Int).toNat), S) else none) = _
  rw [if_pos c, Int.toNat_natCast]
  exact gc_intS
theorem great25 (n : Nat) (x y : Option D) (z : Option D) (c : Int) (S : Sto) : ∃ g : Int, evE (run T n) S.length [x, y, some (.int c), z] (.bin .Mod (.blt .max2 (.cons (.int 0) (.cons (.bin .Sub (.blt .abs (.cons (.var 2) .nil)) (.bin .Pow (.int 10) (.int 16))) .nil))) (.bin .Mult (.bin .Pow (.int 10) (.int 57)) (.bin .Pow (.int 10) (.int 60)))) S = some (.int g, S) := by
  have a1 : evE (run T n) S.length [x, y, some (.int c), z] (.bin .Sub (.blt .abs (.cons (.var 2) .nil)) (.bin .Pow (.int 10) (.int 16))) S = some (.int ((if c < 0 then -c else c) - 10 ^ 16), S) := by
    rw [e_bin (x := .int (if c < 0 then -c else c)) (S1 := S) (by simp [evE, evS, getV, bltF, gc_intS]) (pow25 n _ _ S 16 16 rfl (by decide))]
    exact gc_intS
  have a2 : evE (run T n) S.length [x, y, some (.int c), z] (.bin .Mult (.bin .Pow (.int 10) (.int 57)) (.bin .Pow (.int 10) (.int 60))) S = some (.int (10 ^ 57 * 10 ^ 60), S) := by
    rw [e_bin (pow25 n _ _ S 57 57 rfl (by decide)) (pow25 n _ _ S 60 60 rfl (by decide))]
    have c : ((10 : Int) ^ 57).natAbs.log2 + ((10 : Int) ^ 60).natAbs.log2 < 1000000 := by decide +kernel
    show gc S.length (if ((10 : Int) ^ 57).natAbs.log2 + ((10 : Int) ^ 60).natAbs.log2 < 1000000 then some (D.int (10 ^ 57 * 10 ^ 60), S) else none) = _
    rw [if_pos c]
    exact gc_intS
  obtain ⟨m, hm⟩ : ∃ m : Int, evE (run T n) S.length [x, y, some (.int c), z] (.blt .max2 (.cons (.int 0) (.cons (.bin .Sub (.blt .abs (.cons (.var 2) .nil)) (.bin .Pow (.int 10) (.int 16))) .nil))) S = some (.int m, S) := by
    rw [e_blt (vs := [.int 0, .int ((if c < 0 then -c else c) - 10 ^ 16)]) (S1 := S) (by rw [evS, e_int]; simp only [evS, a1])]
    exact ⟨_, gc_intS⟩
  refine ⟨m % (10 ^ 57 * 10 ^ 60), ?_⟩
  rw [e_bin hm a2]
  have c : (0 : Int) < 10 ^ 57 * 10 ^ 60 := by decide +kernel
  show gc S.length (if (0 : Int) < 10 ^ 57 * 10 ^ 60 then some (D.int (m % (10 ^ 57 * 10 ^ 60)), S) else none) = _
  rw [if_pos c]
  exact gc_intS
theorem seed25 (n : Nat) (x z : Option D) (spot : Nat) (c : Int) (S : Sto) (hs : spot ≤ 100) : ∃ s : Int, evE (run T n) S.length [x, some (.int (spot : Int)), some (.int c), z] (.bin .Add (.bin .Add (.bin .Add (.bin .Mult (.bin .Mod (.blt .abs (.cons (.var 2) .nil)) (.int 1152921504606846697)) (.int 109)) (.bin .Mult (.int 1031) (.var 1))) (.bin .Mult (.int 67) (.blt .int (.cons (.cmp .Lt (.var 2) (.int 0)) .nil)))) (.int 53)) S = some (.int s, S) := by
  obtain ⟨A, hA⟩ : ∃ A : Int, A = if c < 0 then -c else c := ⟨_, rfl⟩
  have a1 : evE (run T n) S.length [x, some (.int (spot : Int)), some (.int c), z] (.bin .Mod (.blt .abs (.cons (.var 2) .nil)) (.int 1152921504606846697)) S = some (.int (A % 1152921504606846697), S) := by
    rw [e_bin (x := .int A) (S1 := S) (by simp [evE, evS, getV, bltF, gc_intS, hA]) e_int]
    exact gc_intS
  have b1 := Int.emod_nonneg A (show (1152921504606846697 : Int) ≠ 0 by decide)
  have b2 := Int.emod_lt_of_pos A (show (0 : Int) < 1152921504606846697 by decide)
  obtain ⟨B, hB⟩ : ∃ B : Int, B = A % 1152921504606846697 := ⟨_, rfl⟩
  rw [← hB] at a1 b1 b2
  have m1 := logs (a := B) (b := 109) (by omega) (by decide)
  have m2 := logs (a := 1031) (b := (spot : Int)) (by decide) (by omega)
  have a2 : evE (run T n) S.length [x, some (.int (spot : Int)), some (.int c), z] (.bin .Mult (.bin .Mod (.blt .abs (.cons (.var 2) .nil)) (.int 1152921504606846697)) (.int 109)) S = some (.int (B * 109), S) := by
    rw [e_bin a1 e_int]
    simp only [binF, if_pos m1]
    exact gc_intS
  have a3 : evE (run T n) S.length [x, some (.int (spot : Int)), some (.int c), z] (.bin .Mult (.int 1031) (.var 1)) S = some (.int (1031 * (spot : Int)), S) := by
    rw [e_bin (y := .int (spot : Int)) (S2 := S) e_int (by rw [e_var]; rfl)]
    simp only [binF, if_pos m2]
    exact gc_intS
  obtain ⟨q, hq, hq2⟩ : ∃ q : Int, evE (run T n) S.length [x, some (.int (spot : Int)), some (.int c), z] (.blt .int (.cons (.cmp .Lt (.var 2) (.int 0)) .nil)) S = some (.int q, S) ∧ (q = 0 ∨ q = 1) := by
    by_cases h : c < 0
    · exact ⟨1, by simp [evE, evS, getV, cmpF, h, gc_blS, bltF, gc_intS], .inr rfl⟩
    · exact ⟨0, by simp [evE, evS, getV, cmpF, h, gc_blS, bltF, gc_intS], .inl rfl⟩
  have m3 := logs (a := 67) (b := q) (by decide) (by rcases hq2 with e | e <;> rw [e] <;> decide)
  have a4 : evE (run T n) S.length [x, some (.int (spot : Int)), some (.int c), z] (.bin .Mult (.int 67) (.blt .int (.cons (.cmp .Lt (.var 2) (.int 0)) .nil))) S = some (.int (67 * q), S) := by
    rw [e_bin e_int hq]
    simp only [binF, if_pos m3]
    exact gc_intS
  have a5 : evE (run T n) S.length [x, some (.int (spot : Int)), some (.int c), z] (.bin .Add (.bin .Mult (.bin .Mod (.blt .abs (.cons (.var 2) .nil)) (.int 1152921504606846697)) (.int 109)) (.bin .Mult (.int 1031) (.var 1))) S = some (.int (B * 109 + 1031 * (spot : Int)), S) := by
    rw [e_bin a2 a3]
    exact gc_intS
  have a6 : evE (run T n) S.length [x, some (.int (spot : Int)), some (.int c), z] (.bin .Add (.bin .Add (.bin .Mult (.bin .Mod (.blt .abs (.cons (.var 2) .nil)) (.int 1152921504606846697)) (.int 109)) (.bin .Mult (.int 1031) (.var 1))) (.bin .Mult (.int 67) (.blt .int (.cons (.cmp .Lt (.var 2) (.int 0)) .nil)))) S = some (.int (B * 109 + 1031 * (spot : Int) + 67 * q), S) := by
    rw [e_bin a5 a4]
    exact gc_intS
  refine ⟨B * 109 + 1031 * (spot : Int) + 67 * q + 53, ?_⟩
  rw [e_bin a6 e_int]
  exact gc_intS
/-- the dice of a cell: three numbers, the last one 0 -/
theorem dice (W : Drw T) (n p : Nat) (ns : List Int) (spot : Nat) (S : Sto) (h : itemsOf S (.ref p) = some (ns.map .int)) (hs : spot ≤ 100) : ∃ g s : Int, run T (n + 1) "_law_dice" [.ref p, .int (spot : Int)] S = some (.ref S.length, S ++ [.lst [.int g, .int s, .int 0]]) := by
  obtain ⟨c, hc⟩ := cell25 (T := T) n p ns spot none none S h hs
  obtain ⟨g, hg⟩ := great25 (T := T) n (some (.ref p)) (some (.int (spot : Int))) none c S
  obtain ⟨s, hs2⟩ := seed25 (T := T) n (some (.ref p)) (some (.int g)) spot c S hs
  refine ⟨g, s, ?_⟩
  have a : evE (run T n) S.length [some (.ref p), some (.int (spot : Int)), some (.int c), some (.int g)] (.lst (.cons (.var 3) (.cons (.bin .Add (.bin .Add (.bin .Add (.bin .Mult (.bin .Mod (.blt .abs (.cons (.var 2) .nil)) (.int 1152921504606846697)) (.int 109)) (.bin .Mult (.int 1031) (.var 1))) (.bin .Mult (.int 67) (.blt .int (.cons (.cmp .Lt (.var 2) (.int 0)) .nil)))) (.int 53)) (.cons (.int 0) .nil)))) S = some (.ref S.length, S ++ [.lst [.int g, .int s, .int 0]]) := by
    rw [evE, evS, e_var]
    simp only [getV, List.getElem?_cons_zero, List.getElem?_cons_succ, Option.join_some, Option.map_some, evS, hs2, e_int]
    exact gc_new0 (o := .lst [.int g, .int s, .int 0]) rfl
  have hx : exs (run T n) S.length klaw_dice [some (.ref p), some (.int (spot : Int)), none, none] S = some (.ret (.ref S.length), [some (.ref p), some (.int (spot : Int)), some (.int c), some (.int g)], S ++ [.lst [.int g, .int s, .int 0]]) := (xs_nx (x_set (i := 2) hc)).trans ((xs_nx (x_set (i := 3) hg)).trans (xs_ret (x_ret a)))
  rw [W.law_dice, run_ret (φ := run T n) (c := ⟨2, 4, klaw_dice⟩) (vs := [.ref p, .int (spot : Int)]) (S := S) rfl hx]
  exact gc_new0 (o := .lst [.int g, .int s, .int 0]) rfl
end G
end
section
set_option Elab.async false
set_option linter.all false
set_option autoImplicit false
set_option maxHeartbeats 4000000
/-! a drawn lot -/
namespace G
open PySem L2 Z M
variable {T : Txt}
def klaw_lo_any_1 : Ox := (.yes (.cmp .Lt (.call "_law_roll" (.cons (.var 0) (.cons (.int 4) .nil))) (.var 2)))
def klaw_lo_any : Ss := (.cons (.set 2 (.bin .Add (.int 1) (.call "_law_roll" (.cons (.var 0) (.cons (.int 3) .nil))))) (.cons (.ret (.blt .tuple (.cons (.lc [3] (.nm 3) (.rng1 (.var 1)) klaw_lo_any_1 (.var 3)) .nil))) .nil))
structure LoA (T : Txt) : Prop extends Drw T where
  law_lo_any : Is T "_law_lo_any" ⟨2, 4, klaw_lo_any⟩
theorem gc_set {S : Sto} {i : Nat} {o : SO} {d : D} (h : d.cl S.length = true) : gc S.length (some (d, S.set i o)) = some (d, S.set i o) := by
  have := gc_self (d := d) (S := S.set i o) (by rw [List.length_set]; exact h)
  rwa [List.length_set] at this
theorem set_same {S : Sto} {i : Nat} {o : SO} (h : S[i]? = some o) : S.set i o = S := by
  apply List.ext_getElem?
  intro j
  by_cases hj : i = j
  · subst hj
    rw [List.getElem?_set_self (List.getElem?_eq_some_iff.mp h).1, h]
  · rw [List.getElem?_set_ne hj]
/-- a drawn line is taken or not -/
theorem any_turn (W : LoA T) (n i : Nat) (g s k : Int) (m sh : Int) (z : Option D) (j : Int) (S : Sto) (h : Dice S i g s k) (hk : 0 ≤ k) (hk2 : k < 2 ^ 40) : ∃ (b : Bool) (g' k' : Int), lcS (run T (n + 1)) S.length [some (.ref i), some (.int m), some (.int sh), z] [3] (.nm 3) klaw_lo_any_1 (.var 3) (.int j) S = some (if b = true then some (.int j) else none, S.set i (.lst [.int g', .int s, .int k'])) ∧ k ≤ k' ∧ k' ≤ k + 1 := by
  obtain ⟨r, g', k', e, _, _, h1, h2⟩ := roll W.toDrw n i g s k 4 S h (by decide) (by decide) hk (by omega)
  refine ⟨decide (r < sh), g', k', ?_, h1, h2⟩
  have a1 : evE (run T (n + 1)) S.length [some (.ref i), some (.int m), some (.int sh), some (.int j)] (.call "_law_roll" (.cons (.var 0) (.cons (.int 4) .nil))) S = some (.int r, S.set i (.lst [.int g', .int s, .int k'])) := by
    rw [e_call (vs := [.ref i, .int 4]) (S1 := S) (by simp [evS, evE, getV]), e]
    exact gc_set rfl
  have a2 : evE (run T (n + 1)) S.length [some (.ref i), some (.int m), some (.int sh), some (.int j)] (.cmp .Lt (.call "_law_roll" (.cons (.var 0) (.cons (.int 4) .nil))) (.var 2)) S = some (.bl (decide (r < sh)), S.set i (.lst [.int g', .int s, .int k'])) := by
    rw [e_cmp a1 (by rw [e_var]; rfl)]
    exact gc_set rfl
  unfold lcS klaw_lo_any_1
  simp [tgF, wipeE, evO, a2, truF, e_var, getV]
  by_cases hr : r < sh <;> simp [hr]
theorem any_loop (W : LoA T) (n i : Nat) (s m sh : Int) (z : Option D) (ok : Sto → Bool) (hok : ∀ S, ok S = true) (L : Nat) : ∀ (js : List Int) (acc : List D) (g k : Int) (S : Sto), S.length = L → Dice S i g s k → 0 ≤ k → k + js.length < 2 ^ 40 → acc.length + js.length ≤ lim →
    ∃ (ns : List Int) (g' k' : Int), lcF (lcS (run T (n + 1)) L [some (.ref i), some (.int m), some (.int sh), z] [3] (.nm 3) klaw_lo_any_1 (.var 3)) ok (js.map .int) acc S = some (acc ++ ns.map .int, S.set i (.lst [.int g', .int s, .int k'])) ∧ ns.Sublist js ∧ k ≤ k' ∧ k' ≤ k + js.length
  | [], acc, g, k, S, hL, h, hk, hb, hl => by
    refine ⟨[], g, k, ?_, List.Sublist.slnil, Int.le_refl _, by simp⟩
    have : S.set i (.lst [.int g, .int s, .int k]) = S := set_same h
    rw [this, List.map_nil, lc_nil (hok S), List.append_nil]
  | j :: js, acc, g, k, S, hL, h, hk, hb, hl => by
    rw [List.length_cons] at hb hl
    obtain ⟨b, g1, k1, e, h1, h2⟩ := any_turn W n i g s k m sh z j S h hk (by omega)
    rw [hL] at e
    have h' := h.set g1 s k1
    cases b with
    | true =>
      obtain ⟨ns, g2, k2, e2, sb, h3, h4⟩ := any_loop W n i s m sh z ok hok L js (acc ++ [.int j]) g1 k1 _ (by rw [List.length_set]; exact hL) h' (by omega) (by omega) (by rw [List.length_append, List.length_singleton]; omega)
      refine ⟨j :: ns, g2, k2, ?_, sb.cons₂ j, by omega, by rw [List.length_cons]; omega⟩
      rw [List.map_cons, lc_put (hok S) (by omega) e, e2, List.set_set, List.append_assoc]
      rfl
    | false =>
      obtain ⟨ns, g2, k2, e2, sb, h3, h4⟩ := any_loop W n i s m sh z ok hok L js acc g1 k1 _ (by rw [List.length_set]; exact hL) h' (by omega) (by omega) (by omega)
      refine ⟨ns, g2, k2, ?_, sb.cons j, by omega, by rw [List.length_cons]; omega⟩
      rw [List.map_cons, lc_skip (hok S) (by omega) e, e2, List.set_set]
theorem lo_any (W : LoA T) (n i : Nat) (g s k : Int) (m : Nat) (S : Sto) (h : Dice S i g s k) (hk : 0 ≤ k) (hk2 : k < 2 ^ 36) (hm : m ≤ 24) : ∃ (ns : List Int) (g' k' : Int), run T (n + 2) "_law_lo_any" [.ref i, .int (m : Int)] S = some (.tup (ns.map .int), S.set i (.lst [.int g', .int s, .int k'])) ∧ ns.Pairwise (· < ·) ∧ (∀ j, j ∈ ns → 0 ≤ j ∧ j < m) ∧ k ≤ k' ∧ k' ≤ k + 25 := by
  obtain ⟨r, g1, k1, e, _, _, h1, h2⟩ := roll W.toDrw n i g s k 3 S h (by decide) (by decide) hk (by omega)
  obtain ⟨S1, hS1⟩ : ∃ S1, S1 = S.set i (.lst [.int g1, .int s, .int k1]) := ⟨_, rfl⟩
  have hL : S1.length = S.length := by rw [hS1, List.length_set]
  have d1 : Dice S1 i g1 s k1 := by rw [hS1]; exact h.set g1 s k1
  rw [← hS1] at e
  have a1 : evE (run T (n + 1)) S.length [some (.ref i), some (.int (m : Int)), none, none] (.bin .Add (.int 1) (.call "_law_roll" (.cons (.var 0) (.cons (.int 3) .nil)))) S = some (.int (1 + r), S1) := by
    have c1 : evE (run T (n + 1)) S.length [some (.ref i), some (.int (m : Int)), none, none] (.call "_law_roll" (.cons (.var 0) (.cons (.int 3) .nil))) S = some (.int r, S1) := by
      rw [e_call (vs := [.ref i, .int 3]) (S1 := S) (by simp [evS, evE, getV]), e, hS1]
      exact gc_set rfl
    rw [e_bin e_int c1, hS1]
    exact gc_set rfl
  have hi : evI (run T (n + 1)) S1.length [some (.ref i), some (.int (m : Int)), some (.int (1 + r)), none] (.rng1 (.var 1)) S1 = some (((List.range m).map fun k : Nat => (k : Int)).map .int, none, S1) := by
    have hr : rgOk (m : Int) = true := by
      unfold rgOk
      rw [decide_eq_true (by omega), decide_eq_true (by omega)]
      rfl
    rw [evI, e_var]
    simp only [getV, List.getElem?_cons_zero, List.getElem?_cons_succ, Option.join_some, Option.map_some, hr, if_true, rgI_map, Int.zero_add, Int.toNat_natCast]
  obtain ⟨ns, g2, k2, e2, sb, h3, h4⟩ := any_loop W n i s (m : Int) (1 + r) none (fun S2 => still S2 none (((List.range m).map fun k : Nat => (k : Int)).map .int)) (fun _ => rfl) S1.length ((List.range m).map fun k : Nat => (k : Int)) [] g1 k1 S1 rfl d1 (by omega) (by simp; omega) (by simp; show _ ≤ 100000; omega)
  obtain ⟨S2, hS2⟩ : ∃ S2, S2 = S1.set i (.lst [.int g2, .int s, .int k2]) := ⟨_, rfl⟩
  have hL2 : S2.length = S1.length := by rw [hS2, List.length_set]
  have hS : S2 = S.set i (.lst [.int g2, .int s, .int k2]) := by rw [hS2, hS1, List.set_set]
  rw [← hS2, List.nil_append] at e2
  have b1 : evE (run T (n + 1)) S1.length [some (.ref i), some (.int (m : Int)), some (.int (1 + r)), none] (.lc [3] (.nm 3) (.rng1 (.var 1)) klaw_lo_any_1 (.var 3)) S1 = some (.ref S2.length, S2 ++ [.lst (ns.map .int)]) := by
    rw [e_lc rfl hi e2, ← hL2]
    exact gc_new0 (cl_ints _)
  have b2 : evE (run T (n + 1)) S.length [some (.ref i), some (.int (m : Int)), some (.int (1 + r)), none] (.blt .tuple (.cons (.lc [3] (.nm 3) (.rng1 (.var 1)) klaw_lo_any_1 (.var 3)) .nil)) S1 = some (.tup (ns.map .int), S2) := by
    rw [e_blt (vs := [.ref S2.length]) (S1 := S2 ++ [.lst (ns.map .int)]) (by rw [evS, b1]; rfl)]
    show gc S1.length ((itemsOf (S2 ++ [.lst (ns.map .int)]) (.ref S2.length)).map fun xs => (.tup xs, S2 ++ [.lst (ns.map .int)])) = _
    rw [items_new, ← hL2]
    exact gc_intsA
  have hx : exs (run T (n + 1)) S.length klaw_lo_any [some (.ref i), some (.int (m : Int)), none, none] S = some (.ret (.tup (ns.map .int)), [some (.ref i), some (.int (m : Int)), some (.int (1 + r)), none], S2) := (xs_nx (x_set (i := 2) a1)).trans (xs_ret (x_ret b2))
  have asc : ns.Pairwise (· < ·) := (cast_asc List.pairwise_lt_range).sublist sb
  refine ⟨ns, g2, k2, ?_, asc, fun j hj => ?_, by omega, by simp at h4; omega⟩
  · rw [W.law_lo_any, run_ret (φ := run T (n + 1)) (c := ⟨2, 4, klaw_lo_any⟩) (vs := [.ref i, .int (m : Int)]) (S := S) rfl hx, hS]
    exact gc_set (cl_ints _)
  · obtain ⟨q, hq, rfl⟩ := List.mem_map.mp (sb.subset hj)
    have := List.mem_range.mp hq
    omega
end G
end
section
set_option Elab.async false
set_option linter.all false
set_option autoImplicit false
set_option maxHeartbeats 4000000
/-! a drawn item -/
namespace G
open PySem L2 Z M
variable {T : Txt}
theorem at_of {ds : List D} {r : Int} (h0 : 0 ≤ r) (h1 : r < (ds.length : Int)) : ∃ d, d ∈ ds ∧ atI ds r = some d := by
  have hi : r.toNat < ds.length := by omega
  refine ⟨ds[r.toNat], List.getElem_mem hi, ?_⟩
  have e : ixN ds.length r = some r.toNat := by
    unfold ixN
    simp [h0, h1]
  unfold atI
  rw [e]
  exact List.getElem?_eq_getElem hi
theorem pick (W : Drw T) (n i : Nat) (g s k : Int) (x : D) (ds : List D) (S : Sto) (h : Dice S i g s k) (hk : 0 ≤ k) (hk2 : k < 2 ^ 40) (hx : ∀ o, itemsOf (S.set i o) x = some ds) (hx0 : itemsOf S x = some ds) (hn : ds ≠ []) (hl : ds.length < 2 ^ 40) (hc : clL S.length ds = true) :
    ∃ (d : D) (g' k' : Int), d ∈ ds ∧ run T (n + 2) "_law_pick" [.ref i, x] S = some (d, S.set i (.lst [.int g', .int s, .int k'])) ∧ k ≤ k' ∧ k' ≤ k + 1 := by
  have hpos : 1 ≤ (ds.length : Int) := by
    have := List.length_pos_iff.mpr hn
    omega
  obtain ⟨r, g', k', e, r0, r1, h1, h2⟩ := roll W n i g s k (ds.length : Int) S h hpos (by omega) hk (by omega)
  obtain ⟨d, hd, ha⟩ := at_of r0 r1
  refine ⟨d, g', k', hd, ?_, h1, h2⟩
  rw [W.law_pick]
  have hcd : d.cl S.length = true := clL_mem hc d hd
  have a1 : evE (run T (n + 1)) S.length [some (.ref i), some x] (.blt .len (.cons (.var 1) .nil)) S = some (.int ds.length, S) := by
    rw [e_blt (vs := [x]) (S1 := S) (by simp [evS, evE, getV])]
    show gc S.length ((itemsOf S x).map fun xs => (D.int xs.length, S)) = _
    rw [hx0]
    exact gc_intS
  have a2 : evE (run T (n + 1)) S.length [some (.ref i), some x] (.call "_law_roll" (.cons (.var 0) (.cons (.blt .len (.cons (.var 1) .nil)) .nil))) S = some (.int r, S.set i (.lst [.int g', .int s, .int k'])) := by
    rw [e_call (vs := [.ref i, .int ds.length]) (S1 := S) (by rw [evS, e_var]; simp [getV, evS, a1]), e]
    exact gc_set rfl
  have a3 : evE (run T (n + 1)) S.length [some (.ref i), some x] (.ix (.var 1) (.call "_law_roll" (.cons (.var 0) (.cons (.blt .len (.cons (.var 1) .nil)) .nil)))) S = some (d, S.set i (.lst [.int g', .int s, .int k'])) := by
    rw [evE, e_var]
    show gc S.length (match evE (run T (n + 1)) S.length [some (.ref i), some x] (.call "_law_roll" (.cons (.var 0) (.cons (.blt .len (.cons (.var 1) .nil)) .nil))) S with
      | some (y, S2) => (ixF x y S2).map fun z => (z, S2)
      | none => none) = _
    rw [a2]
    have hix : ixF x (.int r) (S.set i (.lst [.int g', .int s, .int k'])) = some d := by
      show (itemsOf (S.set i (.lst [.int g', .int s, .int k'])) x).bind (fun xs => atI xs r) = _
      rw [hx]
      exact ha
    simp only [hix, Option.map_some]
    exact gc_set hcd
  have hx2 : exs (run T (n + 1)) S.length klaw_pick [some (.ref i), some x] S = some (.ret d, [some (.ref i), some x], S.set i (.lst [.int g', .int s, .int k'])) := by
    unfold klaw_pick
    exact xs_ret (x_ret a3)
  rw [run_ret (φ := run T (n + 1)) (c := ⟨2, 2, klaw_pick⟩) (vs := [.ref i, x]) (S := S) rfl hx2]
  exact gc_set hcd
end G
end
section
set_option Elab.async false
set_option linter.all false
set_option autoImplicit false
set_option maxHeartbeats 4000000
/-! equal lots, equal tuples and lists of lots -/
namespace G
open PySem L2 Z M
abbrev lotP (l : List Int) : PyData := .tuple (l.map PyData.int)
theorem pyL_lots {f : Nat → Option PyData} : ∀ ls : List (List Int), pyL f (ls.map lotD) = some (ls.map lotP)
  | [] => rfl
  | l :: ls => by
    rw [List.map_cons, pyL, pyL_lots ls]
    have : pyD f (lotD l) = some (lotP l) := by
      rw [pyD, pyL_ints]
      rfl
    rw [this]
    rfl
theorem lay_lots : ∀ ls : List (List Int), PyData.canLayAll0 (ls.map lotP) = true
  | [] => rfl
  | l :: ls => by
    have h1 : PyData.canLay0 (lotP l) = true := SeqAt.canLay_of_shaped (shaped_ints l)
    show (PyData.canLay0 (lotP l) && PyData.canLayAll0 (ls.map lotP)) = true
    rw [h1, lay_lots ls]
    rfl
theorem depth_lots : ∀ ls : List (List Int), PyData.depthAll (ls.map lotP) ≤ 63
  | [] => by decide
  | l :: ls => by
    have h1 : PyData.depth (lotP l) ≤ 63 := by
      simp [PyData.depth, PySem.W.ke_depthAll]
    have h2 := depth_lots ls
    show max (PyData.depth (lotP l)) (PyData.depthAll (ls.map lotP)) ≤ 63
    omega
theorem shaped_lots (ls : List (List Int)) : SeqAt.shaped (.tuple (ls.map lotP)) = true := by
  have h := depth_lots ls
  unfold SeqAt.shaped
  rw [Bool.and_eq_true]
  refine ⟨lay_lots ls, decide_eq_true ?_⟩
  show PyData.depthAll (ls.map lotP) + 1 ≤ 64
  omega
theorem shaped_lotsL (ls : List (List Int)) : SeqAt.shaped (.list (ls.map lotP)) = true := by
  have h := depth_lots ls
  unfold SeqAt.shaped
  rw [Bool.and_eq_true]
  refine ⟨lay_lots ls, decide_eq_true ?_⟩
  show PyData.depthAll (ls.map lotP) + 1 ≤ 64
  omega
theorem eqvAll_lots : ∀ xs ys : List (List Int), PyData.eqvAll (xs.map lotP) (ys.map lotP) = decide (xs = ys)
  | [], [] => rfl
  | [], _ :: _ => rfl
  | _ :: _, [] => rfl
  | x :: xs, y :: ys => by
    show (PyData.eqvAll (x.map PyData.int) (y.map PyData.int) && PyData.eqvAll (xs.map lotP) (ys.map lotP)) = _
    rw [eqvAll_ints, eqvAll_lots xs ys]
    by_cases h : x = y <;> by_cases h2 : xs = ys <;> simp [h, h2]
/-- tuples of lots -/
theorem eqD_lots {S : Sto} {xs ys : List (List Int)} : eqD S (lotsD xs) (lotsD ys) = some (decide (xs = ys)) := by
  unfold eqD py
  simp only [pyD, pyL_lots, Option.map_some]
  rw [shaped_lots, shaped_lots]
  show some (PyData.eqvAll (xs.map lotP) (ys.map lotP)) = _
  rw [eqvAll_lots]
theorem rdS_lots {S : Sto} {i : Nat} {xs : List (List Int)} (h : (S[i]?).bind SO.seq? = some (xs.map lotD)) : rdS S 8 i = some (.list (xs.map lotP)) := by
  rw [rdS, h, Option.bind_some, pyL_lots]
  rfl
/-- lists of lots -/
theorem eqD_lotsL {S : Sto} {i j : Nat} {xs ys : List (List Int)} (h1 : (S[i]?).bind SO.seq? = some (xs.map lotD)) (h2 : (S[j]?).bind SO.seq? = some (ys.map lotD)) : eqD S (.ref i) (.ref j) = some (decide (xs = ys)) := by
  unfold eqD py
  simp only [pyD, rdS_lots h1, rdS_lots h2]
  rw [shaped_lotsL, shaped_lotsL]
  show some (PyData.eqvAll (xs.map lotP) (ys.map lotP)) = _
  rw [eqvAll_lots]
end G
end
section
set_option Elab.async false
set_option linter.all false
set_option autoImplicit false
set_option maxHeartbeats 4000000
/-! lots, mixed by the dice -/
namespace G
open PySem L2 Z M
variable {T : Txt}
abbrev twoL (Sd : Sto) (w f : List (List Int)) : Sto := Sd ++ [SO.lst (w.map lotD), SO.lst (f.map lotD)]
theorem two_w {Sd : Sto} {w f : List (List Int)} {t : Sto} : (twoL Sd w f ++ t)[Sd.length]? = some (.lst (w.map lotD)) := by simp [twoL]
theorem two_f {Sd : Sto} {w f : List (List Int)} {t : Sto} : (twoL Sd w f ++ t)[Sd.length + 1]? = some (.lst (f.map lotD)) := by
  rw [twoL, List.append_assoc, List.getElem?_append_right (by omega)]
  rw [show Sd.length + 1 - Sd.length = 1 by omega]
  rfl
theorem mix_test (n base : Nat) (x y : Option D) (Sd : Sto) (w f : List (List Int)) : evT (run T n) base [x, y, some (.ref Sd.length), some (.ref (Sd.length + 1))] klaw_mixed_1 (twoL Sd w f) = some (!decide (w = []), twoL Sd w f) := by
  have h2 : evE (run T n) (twoL Sd w f).length [x, y, some (.ref Sd.length), some (.ref (Sd.length + 1))] (.lst .nil) (twoL Sd w f) = some (.ref (twoL Sd w f).length, twoL Sd w f ++ [.lst []]) := by
    rw [evE, evS]
    exact gc_new0 rfl
  have e : eqD (twoL Sd w f ++ [SO.lst []]) (.ref Sd.length) (.ref (twoL Sd w f).length) = some (decide (w = [])) := eqD_lotsL (xs := w) (ys := []) (by rw [two_w]; rfl) (by rw [at_new]; rfl)
  have a : evE (run T n) base [x, y, some (.ref Sd.length), some (.ref (Sd.length + 1))] klaw_mixed_1 (twoL Sd w f) = some (.bl (!decide (w = [])), twoL Sd w f) := by
    unfold klaw_mixed_1
    rw [e_cmp (x := .ref Sd.length) (S1 := twoL Sd w f) (by rw [e_var]; rfl) h2]
    show gc _ (((eqD (twoL Sd w f ++ [SO.lst []]) (.ref Sd.length) (.ref (twoL Sd w f).length)).map (!·)).map fun z => (.bl z, twoL Sd w f ++ [SO.lst []])) = _
    rw [e]
    exact gc_blA
  unfold evT
  rw [a]
  rfl
theorem two_set {Sd : Sto} {w f : List (List Int)} {i : Nat} {o : SO} (hi : i < Sd.length) : (twoL Sd w f).set i o = twoL (Sd.set i o) w f := by
  rw [twoL, List.set_append_left _ _ hi]
theorem two_setW {Sd : Sto} {w f w' : List (List Int)} : (twoL Sd w f).set Sd.length (.lst (w'.map lotD)) = twoL Sd w' f := by
  rw [twoL, List.set_append_right _ _ (Nat.le_refl _), Nat.sub_self]
  rfl
theorem two_setF {Sd : Sto} {w f f' : List (List Int)} : (twoL Sd w f).set (Sd.length + 1) (.lst (f'.map lotD)) = twoL Sd w f' := by
  rw [twoL, List.set_append_right _ _ (by omega), show Sd.length + 1 - Sd.length = 1 by omega]
  rfl
theorem two_w0 {Sd : Sto} {w f : List (List Int)} : (twoL Sd w f)[Sd.length]? = some (.lst (w.map lotD)) := by
  have := two_w (Sd := Sd) (w := w) (f := f) (t := [])
  rwa [List.append_nil] at this
theorem two_f0 {Sd : Sto} {w f : List (List Int)} : (twoL Sd w f)[Sd.length + 1]? = some (.lst (f.map lotD)) := by
  have := two_f (Sd := Sd) (w := w) (f := f) (t := [])
  rwa [List.append_nil] at this
theorem erase_map {α β : Type} {f : α → β} : ∀ (l : List α) (j : Nat), (l.map f).eraseIdx j = (l.eraseIdx j).map f
  | [], _ => rfl
  | a :: l, 0 => rfl
  | a :: l, j + 1 => by
    rw [List.map_cons, List.eraseIdx_cons_succ, List.eraseIdx_cons_succ, List.map_cons, erase_map l j]
theorem mix_pop (base : Nat) (Sd : Sto) (w f : List (List Int)) (j : Nat) (hj : j < w.length) (hl : w.length ≤ 1000) : metF base .popAt (.ref Sd.length) [.int (j : Int)] (twoL Sd w f) = some (lotD w[j], twoL Sd (w.eraseIdx j) f) := by
  have h1 : ixN (w.map lotD).length (j : Int) = some j := by simp [ixN, hj]
  have h2 : (w.map lotD)[j]? = some (lotD w[j]) := by simp [hj]
  have h3 : rgOk (j : Int) = true := by
    unfold rgOk
    rw [decide_eq_true (by omega), decide_eq_true (by omega)]
    rfl
  have h4 : (w.map lotD).eraseIdx j = (w.eraseIdx j).map lotD := by
    exact erase_map w j
  unfold metF
  simp only [two_w0, h1, h2, h3, if_true, h4, two_setW]
theorem mix_app (base : Nat) (Sd : Sto) (w f : List (List Int)) (y : List Int) (hl : f.length ≤ 1000) : metF base .append (.ref (Sd.length + 1)) [lotD y] (twoL Sd w f) = some (.non, twoL Sd w (f ++ [y])) := by
  have h1 : (wr base (Sd.length + 1) (lotD y) && decide ((f.map lotD).length < lim)) = true := by
    rw [List.length_map, decide_eq_true (show f.length < 100000 by omega)]
    have hc : ∀ n, D.cl n (lotD y) = true := fun n => cl_ints y
    unfold wr
    simp [hc]
  have h2 : f.map lotD ++ [lotD y] = (f ++ [y]).map lotD := by rw [List.map_append]; rfl
  unfold metF
  simp only [two_f0, h1, if_true, h2, two_setF]
theorem mix_step (W : Drw T) (n base i : Nat) (g s k : Int) (y : Option D) (Sd : Sto) (w f : List (List Int)) (h : Dice Sd i g s k) (hk : 0 ≤ k) (hk2 : k < 2 ^ 40) (hw : w ≠ []) (hl : w.length ≤ 1000) (hl2 : f.length ≤ 1000) : ∃ (j : Nat) (hj : j < w.length) (g' k' : Int),
    exs (run T (n + 1)) base klaw_mixed_2 [some (.ref i), y, some (.ref Sd.length), some (.ref (Sd.length + 1))] (twoL Sd w f) = some (.nx, [some (.ref i), y, some (.ref Sd.length), some (.ref (Sd.length + 1))], twoL (Sd.set i (.lst [.int g', .int s, .int k'])) (w.eraseIdx j) (f ++ [w[j]])) ∧ k ≤ k' ∧ k' ≤ k + 1 := by
  have hd : Dice (twoL Sd w f) i g s k := by
    unfold Dice at h ⊢
    rw [twoL, List.getElem?_append_left (List.getElem?_eq_some_iff.mp h).1]
    exact h
  have hlen : 0 < w.length := List.length_pos_iff.mpr hw
  obtain ⟨r, g', k', e, hr0, hr1, h1, h2⟩ := roll W n i g s k (w.length : Int) (twoL Sd w f) hd (by omega) (by omega) hk (by omega)
  obtain ⟨j, rfl⟩ : ∃ j : Nat, r = (j : Int) := ⟨r.toNat, by omega⟩
  have hj : j < w.length := by omega
  obtain ⟨Sd', hSd'⟩ : ∃ Sd', Sd' = Sd.set i (.lst [.int g', .int s, .int k']) := ⟨_, rfl⟩
  have hL : Sd'.length = Sd.length := by rw [hSd', List.length_set]
  rw [two_set h.lt, ← hSd'] at e
  have c1 : ∀ b, evE (run T (n + 1)) b [some (.ref i), y, some (.ref Sd.length), some (.ref (Sd.length + 1))] (.blt .len (.cons (.var 2) .nil)) (twoL Sd w f) = some (.int (w.length : Int), twoL Sd w f) := fun b => by
    rw [e_blt (vs := [.ref Sd.length]) (S1 := twoL Sd w f) (by simp [evS, evE, getV])]
    show gc _ ((((twoL Sd w f)[Sd.length]?).bind SO.seq?).map fun xs => (.int (xs.length : Int), twoL Sd w f)) = _
    rw [two_w0]
    show gc _ (some (D.int ((w.map lotD).length : Int), twoL Sd w f)) = _
    rw [List.length_map]
    exact gc_intS
  have c2 : ∀ b, evE (run T (n + 1)) b [some (.ref i), y, some (.ref Sd.length), some (.ref (Sd.length + 1))] (.call "_law_roll" (.cons (.var 0) (.cons (.blt .len (.cons (.var 2) .nil)) .nil))) (twoL Sd w f) = some (.int (j : Int), twoL Sd' w f) := fun b => by
    rw [e_call (vs := [.ref i, .int (w.length : Int)]) (S1 := twoL Sd w f) (by simp only [evS, e_var, getV, List.getElem?_cons_zero, Option.join_some, Option.map_some, c1]), e]
    have : (twoL Sd w f).length = (twoL Sd' w f).length := by simp [twoL, hL]
    rw [this]
    exact gc_intS
  have c3 : evE (run T (n + 1)) base [some (.ref i), y, some (.ref Sd.length), some (.ref (Sd.length + 1))] (.met .popAt (.var 2) (.cons (.call "_law_roll" (.cons (.var 0) (.cons (.blt .len (.cons (.var 2) .nil)) .nil))) .nil)) (twoL Sd w f) = some (lotD w[j], twoL Sd' (w.eraseIdx j) f) := by
    have hp : metP .popAt (.ref Sd.length) (twoL Sd w f) = true := by
      unfold metP
      simp only [two_w0]
    have := mix_pop base Sd' w f j hj hl
    rw [hL] at this
    rw [evE, e_var]
    simp only [getV, List.getElem?_cons_zero, List.getElem?_cons_succ, Option.join_some, Option.map_some, hp, if_true, evS, c2, this]
  have c4 : evE (run T (n + 1)) base [some (.ref i), y, some (.ref Sd.length), some (.ref (Sd.length + 1))] (.met .append (.var 3) (.cons (.met .popAt (.var 2) (.cons (.call "_law_roll" (.cons (.var 0) (.cons (.blt .len (.cons (.var 2) .nil)) .nil))) .nil)) .nil)) (twoL Sd w f) = some (.non, twoL Sd' (w.eraseIdx j) (f ++ [w[j]])) := by
    have hp : metP .append (.ref (Sd.length + 1)) (twoL Sd w f) = true := by
      unfold metP
      simp only [two_f0]
    have := mix_app base Sd' (w.eraseIdx j) f w[j] hl2
    rw [hL] at this
    rw [evE, e_var]
    simp only [getV, List.getElem?_cons_zero, List.getElem?_cons_succ, Option.join_some, Option.map_some, hp, if_true, evS, c3, this]
  refine ⟨j, hj, g', k', ?_, h1, h2⟩
  rw [← hSd']
  exact (xs_nx (x_expr c4)).trans xs_nil
theorem perm_erase : ∀ (l : List (List Int)) (j : Nat) (hj : j < l.length), (l[j] :: l.eraseIdx j).Perm l
  | a :: l, 0, _ => List.Perm.refl _
  | a :: l, j + 1, h => by
    show (l[j]'(Nat.lt_of_succ_lt_succ h) :: a :: l.eraseIdx j).Perm (a :: l)
    exact (List.Perm.swap _ _ _).trans (List.Perm.cons a (perm_erase l j (Nat.lt_of_succ_lt_succ h)))
theorem mix_loop (W : Drw T) (n base i : Nat) (s : Int) (y : Option D) (L : Nat) : ∀ (m fu : Nat) (w f : List (List Int)) (g k : Int) (Sd : Sto), w.length = m → m < fu → Sd.length = L → Dice Sd i g s k → 0 ≤ k → k + m < 2 ^ 40 → f.length + m ≤ 1000 →
    ∃ (r : List (List Int)) (g' k' : Int), whF (fun env1 S1 => evT (run T (n + 1)) base env1 klaw_mixed_1 S1) (fun env1 S1 => exs (run T (n + 1)) base klaw_mixed_2 env1 S1) fu [some (.ref i), y, some (.ref L), some (.ref (L + 1))] (twoL Sd w f) = some (.nx, [some (.ref i), y, some (.ref L), some (.ref (L + 1))], twoL (Sd.set i (.lst [.int g', .int s, .int k'])) [] r) ∧ r.Perm (f ++ w) ∧ k ≤ k' ∧ k' ≤ k + m
  | 0, fu + 1, w, f, g, k, Sd, hm, hfu, hL, h, hk, hb, hl => by
    have hw : w = [] := List.eq_nil_of_length_eq_zero hm
    subst hw
    subst hL
    refine ⟨f, g, k, ?_, by rw [List.append_nil], Int.le_refl _, by omega⟩
    rw [whF, mix_test, set_same h]
    rfl
  | m + 1, fu + 1, w, f, g, k, Sd, hm, hfu, hL, h, hk, hb, hl => by
    have hw : w ≠ [] := fun q => by rw [q] at hm; cases hm
    subst hL
    obtain ⟨j, hj, g1, k1, e, h1, h2⟩ := mix_step W n base i g s k y Sd w f h hk (by omega) hw (by omega) (by omega)
    have h' := h.set g1 s k1
    obtain ⟨r, g2, k2, e2, pm, h3, h4⟩ := mix_loop W n base i s y Sd.length m fu (w.eraseIdx j) (f ++ [w[j]]) g1 k1 _ (by rw [List.length_eraseIdx_of_lt hj]; omega) (by omega) (by rw [List.length_set]) h' (by omega) (by omega) (by rw [List.length_append, List.length_singleton]; omega)
    refine ⟨r, g2, k2, ?_, ?_, by omega, by omega⟩
    · rw [whF, mix_test]
      have hd : (!decide (w = [])) = true := by rw [decide_eq_false hw]; rfl
      rw [hd]
      simp only [e, e2, List.set_set]
    · refine pm.trans ?_
      rw [List.append_assoc]
      refine List.Perm.append_left f ?_
      exact perm_erase w j hj
/-- items, mixed by the dice: a new list, the same items in some sequence -/
theorem mixed (W : Drw T) (n i p : Nat) (g s k : Int) (ns : List (List Int)) (S : Sto) (h : Dice S i g s k) (hp : itemsOf S (.ref p) = some (ns.map lotD)) (hk : 0 ≤ k) (hb : k + ns.length < 2 ^ 40) (hl : ns.length ≤ 1000) :
    ∃ (r : List (List Int)) (g' k' : Int), run T (n + 2) "_law_mixed" [.ref i, .ref p] S = some (.ref S.length, S.set i (.lst [.int g', .int s, .int k']) ++ [.lst (r.map lotD)]) ∧ r.Perm ns ∧ k ≤ k' ∧ k' ≤ k + ns.length := by
  have a1 : evE (run T (n + 1)) S.length [some (.ref i), some (.ref p), none, none] (.blt .list (.cons (.var 1) .nil)) S = some (.ref S.length, S ++ [.lst (ns.map lotD)]) := by
    rw [e_blt (vs := [.ref p]) (S1 := S) (by simp [evS, evE, getV])]
    show gc _ ((itemsOf S (.ref p)).bind fun xs => new S (.lst xs)) = _
    rw [hp]
    exact gc_new0 (cl_lots _)
  have a2 : evE (run T (n + 1)) S.length [some (.ref i), some (.ref p), none, none] (.lst .nil) (S ++ [.lst (ns.map lotD)]) = some (.ref (S.length + 1), twoL S ns []) := by
    rw [evE, evS]
    refine (gc_new0 (S := S ++ [SO.lst (ns.map lotD)]) (o := .lst []) rfl).trans ?_
    rw [List.length_append, List.length_singleton, List.append_assoc]
    rfl
  have x1 : ex1 (run T (n + 1)) S.length (.par 2 3 (.blt .list (.cons (.var 1) .nil)) (.lst .nil)) [some (.ref i), some (.ref p), none, none] S = some (.nx, [some (.ref i), some (.ref p), some (.ref S.length), some (.ref (S.length + 1))], twoL S ns []) := by
    rw [ex1, a1]
    simp only [a2]
    rfl
  obtain ⟨r, g', k', e, pm, h1, h2⟩ := mix_loop W n S.length i s (some (.ref p)) S.length ns.length fuel ns [] g k S rfl (by show ns.length < 1000000; omega) rfl h hk hb (by simp; omega)
  have x2 : ex1 (run T (n + 1)) S.length (.while klaw_mixed_1 klaw_mixed_2) [some (.ref i), some (.ref p), some (.ref S.length), some (.ref (S.length + 1))] (twoL S ns []) = some (.nx, [some (.ref i), some (.ref p), some (.ref S.length), some (.ref (S.length + 1))], twoL (S.set i (.lst [.int g', .int s, .int k'])) [] r) := by
    rw [ex1]
    exact e
  have hx : exs (run T (n + 1)) S.length klaw_mixed [some (.ref i), some (.ref p), none, none] S = some (.ret (.ref (S.length + 1)), [some (.ref i), some (.ref p), some (.ref S.length), some (.ref (S.length + 1))], twoL (S.set i (.lst [.int g', .int s, .int k'])) [] r) := (xs_nx x1).trans ((xs_nx x2).trans (xs_ret (x_ret (by rw [e_var]; rfl))))
  refine ⟨r, g', k', ?_, by simpa using pm, h1, h2⟩
  rw [W.law_mixed, run_ret (φ := run T (n + 1)) (c := ⟨2, 4, klaw_mixed⟩) (vs := [.ref i, .ref p]) (S := S) rfl hx]
  have := gc_new (S := S.set i (.lst [.int g', .int s, .int k'])) (t := [.lst []]) (o := .lst (r.map lotD)) (k := 1) rfl (cl_lots _)
  rw [List.length_set] at this
  exact this
end G
end
section
set_option Elab.async false
set_option linter.all false
set_option autoImplicit false
set_option maxHeartbeats 4000000
/-! the law's lots as masks -/
namespace G
open PySem L2 Z M
variable {T : Txt}
/-- both sums are one -/
theorem sum_same {ns ms : List Int} (h1 : Lot ns) (h2 : Lot ms) : sortI ((ns.filter fun i => !decide (i ∈ ms)) ++ (ms.filter fun i => !decide (i ∈ ns))) = lotI (maskN ns ^^^ maskN ms) := by
  have nd : ((ns.filter fun i => !decide (i ∈ ms)) ++ (ms.filter fun i => !decide (i ∈ ns))).Nodup := by
    refine List.nodup_append.mpr ⟨(h1.asc.imp fun h => by omega).filter _, (h2.asc.imp fun h => by omega).filter _, fun i hi j hj q => ?_⟩
    subst q
    simp at hi hj
    exact hj.2 hi.1
  refine asc_same (lt_of_le_nodup _ (sortI_sorted _) ((sortI_perm _).nodup_iff.mpr nd)) (lotI_asc _) fun i => ?_
  rw [(sortI_perm _).mem_iff, lotI_mem, Nat.testBit_xor, mask_bit h1.asc (fun i hi => (h1.lo i hi).1), mask_bit h2.asc (fun i hi => (h2.lo i hi).1)]
  simp only [List.mem_append, List.mem_filter, Bool.not_eq_true', decide_eq_false_iff_not]
  constructor
  · rintro (⟨a, b⟩ | ⟨a, b⟩)
    · have := h1.lo i a
      have e : ((i.toNat : Nat) : Int) = i := Int.toNat_of_nonneg this.1
      exact ⟨this.1, this.2, by rw [e]; simp [a, b]⟩
    · have := h2.lo i a
      have e : ((i.toNat : Nat) : Int) = i := Int.toNat_of_nonneg this.1
      exact ⟨this.1, this.2, by rw [e]; simp [a, b]⟩
  · rintro ⟨a, b, c⟩
    rw [Int.toNat_of_nonneg a] at c
    by_cases p : i ∈ ns <;> by_cases q : i ∈ ms <;> simp [p, q] at c ⊢
theorem mask_lot {m : Nat} (h : Low m) : maskN (lotI m) = m := Nat.eq_of_testBit_eq fun i => by
  have L := Z.Lot.of m
  rw [mask_bit L.asc (fun i hi => (L.lo i hi).1), Bool.eq_iff_iff, decide_eq_true_eq, lotI_mem, Int.toNat_natCast]
  constructor
  · exact fun q => q.2.2
  · intro q
    refine ⟨Int.natCast_nonneg i, ?_, q⟩
    have : i < 24 := Nat.lt_of_not_le fun c => by
      rw [Nat.testBit_lt_two_pow (Nat.lt_of_lt_of_le h (Nat.pow_le_pow_right (by decide) c))] at q
      cases q
    omega
/-- the law's sum of two lots -/
theorem lo_sum (W : LoB T) (n a b : Nat) (S : Sto) (ha : Low a) (hb : Low b) : run T (n + 1) "_law_lo_sum" [lotD (lotI a), lotD (lotI b)] S = some (lotD (lotI (a ^^^ b)), S) := by
  have la := lotI_len a
  have lb := lotI_len b
  have f1 := List.length_filter_le (fun i => !decide (i ∈ lotI b)) (lotI a)
  have f2 := List.length_filter_le (fun i => !decide (i ∈ lotI a)) (lotI b)
  have q := lo_sumL W n (lotD (lotI a)) (lotD (lotI b)) (lotI a) (lotI b) _ _ S rfl rfl (by show _ ≤ 100000; omega) (by show _ ≤ 100000; omega) rfl rfl (by show _ ≤ 100000; omega)
  rw [sum_same (Z.Lot.of a) (Z.Lot.of b), mask_lot ha, mask_lot hb] at q
  exact q
/-- a line in a lot -/
theorem in_bit {S : Sto} {m l : Nat} (h : Low m) : inD S (.int (l : Int)) (lotD (lotI m)) = some (m.testBit l) := by
  rw [inD_ints]
  congr 1
  rw [Bool.eq_iff_iff, decide_eq_true_eq, lotI_mem, Int.toNat_natCast]
  constructor
  · exact fun q => q.2.2
  · intro q
    refine ⟨Int.natCast_nonneg l, ?_, q⟩
    have : l < 24 := Nat.lt_of_not_le fun c => by
      rw [Nat.testBit_lt_two_pow (Nat.lt_of_lt_of_le h (Nat.pow_le_pow_right (by decide) c))] at q
      cases q
    omega
theorem lotI_nil {m : Nat} (h : Low m) : lotI m = [] ↔ m = 0 := by
  constructor
  · intro e
    have := mask_lot h
    rw [e] at this
    exact this.symm
  · intro e
    rw [e]
    unfold lotI
    simp
/-- lot != () -/
theorem ne_nil {S : Sto} {m : Nat} (h : Low m) : cmpF .NotEq (lotD (lotI m)) (.tup []) S = some (decide (m ≠ 0)) := by
  show (eqD S (lotD (lotI m)) (lotD [])).map (!·) = _
  rw [eqD_ints, Option.map_some]
  congr 1
  by_cases c : m = 0
  · rw [decide_eq_true ((lotI_nil h).mpr c)]
    simp [c]
  · rw [decide_eq_false fun z => c ((lotI_nil h).mp z)]
    simp [c]
end G
end
section
set_option Elab.async false
set_option linter.all false
set_option autoImplicit false
set_option maxHeartbeats 4000000
/-! the law's form, line by line -/
namespace G
open PySem L2 Z M
variable {T : Txt}
def klo_form_1 : Ex := (.ite (.cmp .In (.var 1) (.var 6)) (.call "_law_lo_sum" (.cons (.var 6) (.cons (.var 5) .nil))) (.var 6))
def klo_form_2 : Ox := (.yes (.cmp .NotEq (.var 6) (.tup .nil)))
def klo_form_3 : Ex := (.ite (.cmp .In (.var 1) (.var 6)) (.call "_law_lo_sum" (.cons (.var 6) (.cons (.var 5) .nil))) (.var 6))
def klo_form_4 : Ox := (.yes (.cmp .In (.var 1) (.var 6)))
def klo_form_5 : Ss := (.cons (.set 4 (.lc [6] (.nm 6) (.ex (.var 3)) klo_form_4 (.var 6))) (.cons (.ifs (.cmp .NotEq (.var 4) (.lst .nil)) (.cons (.set 5 (.ix (.var 4) (.int 0))) (.cons (.set 3 (.lc [6] (.nm 6) (.ex (.var 3)) .no klo_form_3)) (.cons (.set 3 (.lc [6] (.nm 6) (.ex (.var 3)) klo_form_2 (.var 6))) (.cons (.set 2 (.bin .Add (.lc [6] (.nm 6) (.ex (.var 2)) .no klo_form_1) (.lst (.cons (.var 5) .nil)))) .nil)))) .nil) .nil))
def klo_form_6 : Ox := (.yes (.cmp .NotEq (.var 6) (.tup .nil)))
def klo_form : Ss := (.cons (.par 2 3 (.lst .nil) (.lc [6] (.nm 6) (.ex (.var 0)) klo_form_6 (.var 6))) (.cons (.for (.nm 1) (.rng1 (.int 25)) klo_form_5) (.cons (.ret (.var 2)) .nil)))
structure LoF (T : Txt) : Prop extends LoB T where
  law_lo_form : Is T "_law_lo_form" ⟨1, 7, klo_form⟩
abbrev lts (ms : List Nat) : List D := (ms.map lotI).map lotD
theorem cl_lts {n : Nat} (ms : List Nat) : clL n (lts ms) = true := cl_lots _
/-- a comprehension over lots -/
theorem lc_lots {φ : Phi} {base j v : Nat} {env : Ev} {own : List Nat} {g : Tg} {c : Ox} {e : Ex} {ms : List Nat} {S : Sto} (p : Nat → Bool) (f : Nat → Nat) (hg : tgIn own g = true) (hL : LstAt S j (lts ms)) (hv : getV env v = some (.ref j)) (hl : ms.length ≤ 1000)
    (h : ∀ m, m ∈ ms → lcS φ S.length env own g c e (lotD (lotI m)) S = some (if p m = true then some (lotD (lotI (f m))) else none, S)) : evE φ base env (.lc own g (.ex (.var v)) c e) S = some (.ref S.length, S ++ [.lst (lts ((ms.filter p).map f))]) := by
  have key : ∀ (xs acc : List Nat), acc.length + xs.length ≤ 1000 → (∀ m, m ∈ xs → m ∈ ms) → lcF (lcS φ S.length env own g c e) (fun S2 => Z.still S2 (some j) (lts ms)) (lts xs) (lts acc) S = some (lts (acc ++ (xs.filter p).map f), S) := by
    intro xs
    induction xs with
    | nil => intro acc _ _; rw [show lts (acc ++ (([] : List Nat).filter p).map f) = lts acc by simp]; exact lc_nil hL.still
    | cons m xs ih =>
      intro acc ha hx
      rw [List.length_cons] at ha
      have hb := h m (hx m List.mem_cons_self)
      cases q : p m with
      | true =>
        rw [q, if_pos rfl] at hb
        refine (lc_put (ok := fun S2 => Z.still S2 (some j) (lts ms)) (ds := lts xs) (acc := lts acc) hL.still (by show _ < 100000; simp [lts]; omega) hb).trans ?_
        have e1 : lts acc ++ [lotD (lotI (f m))] = lts (acc ++ [f m]) := by simp [lts]
        rw [e1, ih (acc ++ [f m]) (by rw [List.length_append, List.length_singleton]; omega) fun z hz => hx z (List.mem_cons_of_mem _ hz)]
        simp [q]
      | false =>
        rw [q, if_neg (by decide)] at hb
        refine (lc_skip (ok := fun S2 => Z.still S2 (some j) (lts ms)) (ds := lts xs) (acc := lts acc) hL.still (by show _ < 100000; simp [lts]; omega) hb).trans ?_
        rw [ih acc (by omega) fun z hz => hx z (List.mem_cons_of_mem _ hz)]
        simp [q]
  have hc := e_lc (φ := φ) (base := base) hg (hL.walk (φ := φ) (base := S.length) (j := v) (env := env) hv) (key ms [] (by simpa using hl) fun _ h => h)
  rw [List.nil_append] at hc
  exact hc.trans (gc_new0 (cl_lts _))
section
variable {φ : Phi} {base l h m : Nat} {x0 x2 x3 x4 x6 : Option D} {S : Sto}
theorem has_elt (x5 : Option D) (hm : Low m) : lcS φ base [x0, some (.int (l : Int)), x2, x3, x4, x5, x6] [6] (.nm 6) klo_form_4 (.var 6) (lotD (lotI m)) S = some (if m.testBit l = true then some (lotD (lotI m)) else none, S) := by
  have q := in_bit (S := S) (l := l) hm
  obtain ⟨d, hd⟩ : ∃ d, d = lotD (lotI m) := ⟨_, rfl⟩
  rw [← hd] at q ⊢
  unfold lcS klo_form_4
  cases c : m.testBit l with
  | true =>
    rw [c] at q
    simp [tgF, wipeE, evO, evE, getV, cmpF, q, gc_blS, truF]
  | false =>
    rw [c] at q
    simp [tgF, wipeE, evO, evE, getV, cmpF, q, gc_blS, truF]
theorem ne_elt (x1 x5 : Option D) (hm : Low m) : lcS φ base [x0, x1, x2, x3, x4, x5, x6] [6] (.nm 6) klo_form_2 (.var 6) (lotD (lotI m)) S = some (if decide (m ≠ 0) = true then some (lotD (lotI m)) else none, S) := by
  have q := ne_nil (S := S) hm
  obtain ⟨d, hd⟩ : ∃ d, d = lotD (lotI m) := ⟨_, rfl⟩
  rw [← hd] at q ⊢
  have e1 : evE φ S.length [x0, x1, x2, x3, x4, x5, some d] (.tup .nil) S = some (.tup [], S) := by
    rw [evE, evS]
    exact gc_self rfl
  have e2 : evE φ base [x0, x1, x2, x3, x4, x5, some d] (.cmp .NotEq (.var 6) (.tup .nil)) S = some (.bl (decide (m ≠ 0)), S) := by
    rw [e_cmp (x := d) (S1 := S) (by rw [e_var]; rfl) e1, q]
    exact gc_blS
  unfold lcS klo_form_2
  by_cases c : m = 0
  · simp [tgF, wipeE, evO, e2, truF, e_var, getV, c]
  · simp [tgF, wipeE, evO, e2, truF, e_var, getV, c]
theorem sum_elt (W : LoB T) (n : Nat) (hm : Low m) (hh : Low h) : lcS (run T (n + 1)) base [x0, some (.int (l : Int)), x2, x3, x4, some (lotD (lotI h)), x6] [6] (.nm 6) .no klo_form_3 (lotD (lotI m)) S = some (if true = true then some (lotD (lotI (if m.testBit l = true then m ^^^ h else m))) else none, S) := by
  have q := in_bit (S := S) (l := l) hm
  have q2 := lo_sum W n m h S hm hh
  obtain ⟨d, hd⟩ : ∃ d, d = lotD (lotI m) := ⟨_, rfl⟩
  obtain ⟨d2, hd2⟩ : ∃ d2, d2 = lotD (lotI h) := ⟨_, rfl⟩
  obtain ⟨d3, hd3⟩ : ∃ d3, d3 = lotD (lotI (m ^^^ h)) := ⟨_, rfl⟩
  have c3 : d3.cl S.length = true := by rw [hd3]; exact cl_ints _
  rw [← hd] at q
  rw [← hd, ← hd2, ← hd3] at q2
  rw [if_pos rfl]
  unfold lcS klo_form_3
  cases c : m.testBit l with
  | true =>
    rw [c] at q
    rw [if_pos rfl, ← hd, ← hd2, ← hd3]
    simp [tgF, wipeE, evO, evT, evE, evS, getV, cmpF, q, gc_blS, truF, q2, gc_self c3]
  | false =>
    rw [c] at q
    rw [if_neg (by decide), ← hd]
    simp [tgF, wipeE, evO, evT, evE, evS, getV, cmpF, q, gc_blS, truF]
end
end G
end
section
set_option Elab.async false
set_option linter.all false
set_option autoImplicit false
set_option maxHeartbeats 4000000
/-! the law's form: a line's turn -/
namespace G
open PySem L2 Z M
variable {T : Txt}
theorem lts_app (a b : List Nat) : lts a ++ lts b = lts (a ++ b) := by simp [lts]
theorem one_lst {φ : Phi} {base v : Nat} {env : Ev} {h : Nat} {S : Sto} (hv : getV env v = some (lotD (lotI h))) : evE φ base env (.lst (.cons (.var v) .nil)) S = some (.ref S.length, S ++ [.lst (lts [h])]) := by
  have : evE φ base env (.lst (.cons (.var v) .nil)) S = gc S.length (new S (.lst (lts [h]))) := by
    rw [evE]
    simp [evS, evE, hv, lim]
  rw [this]
  exact gc_new0 (cl_lts _)
theorem lo_turn (W : LoB T) (n base l i j : Nat) (fs ls : List Nat) (x0 x1 x4 x5 x6 : Option D) (S : Sto) (h1 : LstAt S i (lts fs)) (h2 : LstAt S j (lts ls)) (l1 : ∀ m, m ∈ fs → Low m) (l2 : ∀ m, m ∈ ls → Low m) (n1 : fs.length ≤ 500) (n2 : ls.length ≤ 500) :
    ∃ (y4 y5 y6 : Option D) (i' j' : Nat) (t : Sto), frS (run T (n + 1)) base (.nm 1) klo_form_5 (.int (l : Int)) [x0, x1, some (.ref i), some (.ref j), x4, x5, x6] S = some (.nx, [x0, some (.int (l : Int)), some (.ref i'), some (.ref j'), y4, y5, y6], S ++ t) ∧
      LstAt (S ++ t) i' (lts (stp l (fs, ls)).1) ∧ LstAt (S ++ t) j' (lts (stp l (fs, ls)).2) ∧ (i' = i ∨ S.length ≤ i') := by
  obtain ⟨hv, hhv⟩ : ∃ hv, hv = ls.filter fun r => r.testBit l := ⟨_, rfl⟩
  have hfind : ls.find? (fun r => r.testBit l) = hv.head? := by rw [hhv, List.head?_filter]
  obtain ⟨S1, hS1⟩ : ∃ S1, S1 = S ++ [SO.lst (lts hv)] := ⟨_, rfl⟩
  have a1 : evE (run T (n + 1)) base [x0, some (.int (l : Int)), some (.ref i), some (.ref j), x4, x5, x6] (.lc [6] (.nm 6) (.ex (.var 3)) klo_form_4 (.var 6)) S = some (.ref S.length, S1) := by
    have q := lc_lots (φ := run T (n + 1)) (base := base) (env := [x0, some (.int (l : Int)), some (.ref i), some (.ref j), x4, x5, x6]) (own := [6]) (g := .nm 6) (c := klo_form_4) (e := .var 6) (fun r => r.testBit l) (fun m => m) rfl h2 (v := 3) rfl (by omega) fun m hm => has_elt x5 (l2 m hm)
    rw [List.map_id', ← hhv, ← hS1] at q
    exact q
  have k4 : LstAt S1 S.length (lts hv) := by rw [hS1]; exact LstAt.new
  have k2 : LstAt S1 j (lts ls) := by rw [hS1]; exact h2.app
  have k1 : LstAt S1 i (lts fs) := by rw [hS1]; exact h1.app
  have a2 : evT (run T (n + 1)) base [x0, some (.int (l : Int)), some (.ref i), some (.ref j), some (.ref S.length), x5, x6] (.cmp .NotEq (.var 4) (.lst .nil)) S1 = some (!decide (hv = []), S1) := by
    have e1 : evE (run T (n + 1)) S1.length [x0, some (.int (l : Int)), some (.ref i), some (.ref j), some (.ref S.length), x5, x6] (.lst .nil) S1 = some (.ref S1.length, S1 ++ [.lst []]) := by
      have : evE (run T (n + 1)) S1.length [x0, some (.int (l : Int)), some (.ref i), some (.ref j), some (.ref S.length), x5, x6] (.lst .nil) S1 = gc S1.length (new S1 (.lst [])) := by
        rw [evE]
        simp [evS, lim]
      rw [this]
      exact gc_new0 rfl
    have e : eqD (S1 ++ [SO.lst []]) (.ref S.length) (.ref S1.length) = some (decide (hv.map lotI = [])) := eqD_lotsL (xs := hv.map lotI) (ys := []) (by
      have := k4.app (t := [SO.lst []])
      rw [show (S1 ++ [SO.lst []])[S.length]? = some (.lst (lts hv)) from this]
      rfl) (by rw [at_new]; rfl)
    unfold evT
    rw [e_cmp (x := .ref S.length) (S1 := S1) (by rw [e_var]; rfl) e1]
    have ec : cmpF .NotEq (.ref S.length) (.ref S1.length) (S1 ++ [SO.lst []]) = some (!decide (hv = [])) := by
      show (eqD (S1 ++ [SO.lst []]) (.ref S.length) (.ref S1.length)).map (!·) = _
      rw [e, Option.map_some]
      congr 2
      cases hv <;> simp
    rw [ec]
    show (match gc S1.length (some (D.bl (!decide (hv = [])), S1 ++ [SO.lst []])) with
      | some (x, S1) => (truF S1 x).map fun k => (k, S1)
      | none => none) = _
    rw [gc_blA]
    rfl
  unfold frS
  simp only [tgF, List.set_cons_succ, List.set_cons_zero]
  unfold klo_form_5
  have hstp : stp l (fs, ls) = match hv.head? with
    | none => (fs, ls)
    | some h => (fs.map (fun r => if r.testBit l then r ^^^ h else r) ++ [h], (ls.map fun r => if r.testBit l then r ^^^ h else r).filter fun r => decide (r ≠ 0)) := by
    unfold stp
    simp only [hfind]
    all_goals (cases hv.head? <;> rfl)
  rw [hstp]
  cases hc : hv with
  | nil =>
    rw [hc] at a2
    refine ⟨some (.ref S.length), x5, x6, i, j, [.lst (lts hv)], ?_, ?_, ?_, .inl rfl⟩
    · rw [← hS1]
      refine (xs_nx (x_set (i := 4) a1)).trans ?_
      refine (xs_nx ((x_if a2).trans ?_)).trans xs_nil
      exact xs_nil
    · rw [← hS1]
      exact k1
    · rw [← hS1]
      exact k2
  | cons h hs =>
    rw [hc] at a2
    have hm : h ∈ ls := by
      have : h ∈ hv := by rw [hc]; exact List.mem_cons_self
      rw [hhv] at this
      exact (List.mem_filter.mp this).1
    have hl := l2 h hm
    obtain ⟨ls1, hls1⟩ : ∃ ls1, ls1 = ls.map fun r => if r.testBit l = true then r ^^^ h else r := ⟨_, rfl⟩
    obtain ⟨ls2, hls2⟩ : ∃ ls2, ls2 = ls1.filter fun r => decide (r ≠ 0) := ⟨_, rfl⟩
    obtain ⟨fs1, hfs1⟩ : ∃ fs1, fs1 = fs.map fun r => if r.testBit l = true then r ^^^ h else r := ⟨_, rfl⟩
    have low1 : ∀ m, m ∈ ls1 → Low m := fun m hm2 => by
      rw [hls1] at hm2
      obtain ⟨r, hr, rfl⟩ := List.mem_map.mp hm2
      split
      · exact low_xor (l2 r hr) hl
      · exact l2 r hr
    have a3 : evE (run T (n + 1)) base [x0, some (.int (l : Int)), some (.ref i), some (.ref j), some (.ref S.length), x5, x6] (.ix (.var 4) (.int 0)) S1 = some (lotD (lotI h), S1) := by
      have hi : ixF (.ref S.length) (.int 0) S1 = some (lotD (lotI h)) := by
        show ((S1[S.length]?).bind SO.seq?).bind (fun xs => atI xs 0) = _
        rw [show S1[S.length]? = some (.lst (lts hv)) from k4, hc]
        have hp : (0 : Int) < ((lts (h :: hs)).length : Int) := by simp [lts]
        show atI (lts (h :: hs)) 0 = _
        unfold atI ixN
        rw [if_pos (Int.le_refl 0), if_pos hp]
        rfl
      rw [evE, e_var]
      show gc S1.length (match evE (run T (n + 1)) S1.length [x0, some (.int (l : Int)), some (.ref i), some (.ref j), some (.ref S.length), x5, x6] (.int 0) S1 with
        | some (y, S2) => (ixF (.ref S.length) y S2).map fun z => (z, S2)
        | none => none) = _
      rw [e_int]
      simp only [hi, Option.map_some]
      exact gc_self (cl_ints _)
    obtain ⟨S2, hS2⟩ : ∃ S2, S2 = S1 ++ [SO.lst (lts ls1)] := ⟨_, rfl⟩
    have a4 : evE (run T (n + 1)) base [x0, some (.int (l : Int)), some (.ref i), some (.ref j), some (.ref S.length), some (lotD (lotI h)), x6] (.lc [6] (.nm 6) (.ex (.var 3)) .no klo_form_3) S1 = some (.ref S1.length, S2) := by
      have q := lc_lots (φ := run T (n + 1)) (base := base) (env := [x0, some (.int (l : Int)), some (.ref i), some (.ref j), some (.ref S.length), some (lotD (lotI h)), x6]) (own := [6]) (g := .nm 6) (c := .no) (e := klo_form_3) (fun _ => true) (fun r => if r.testBit l = true then r ^^^ h else r) rfl k2 (v := 3) rfl (by omega) fun m hm => sum_elt W n (l2 m hm) hl
      have e : ls.filter (fun _ => true) = ls := by simp
      rw [e, ← hls1, ← hS2] at q
      exact q
    have k5 : LstAt S2 S1.length (lts ls1) := by rw [hS2]; exact LstAt.new
    obtain ⟨S3, hS3⟩ : ∃ S3, S3 = S2 ++ [SO.lst (lts ls2)] := ⟨_, rfl⟩
    have n3 : ls1.length ≤ 500 := by rw [hls1, List.length_map]; exact n2
    have a5 : evE (run T (n + 1)) base [x0, some (.int (l : Int)), some (.ref i), some (.ref S1.length), some (.ref S.length), some (lotD (lotI h)), x6] (.lc [6] (.nm 6) (.ex (.var 3)) klo_form_2 (.var 6)) S2 = some (.ref S2.length, S3) := by
      have q := lc_lots (φ := run T (n + 1)) (base := base) (env := [x0, some (.int (l : Int)), some (.ref i), some (.ref S1.length), some (.ref S.length), some (lotD (lotI h)), x6]) (own := [6]) (g := .nm 6) (c := klo_form_2) (e := .var 6) (fun r => decide (r ≠ 0)) (fun m => m) rfl k5 (v := 3) rfl (by omega) fun m hm => ne_elt _ _ (low1 m hm)
      rw [List.map_id', ← hls2, ← hS3] at q
      exact q
    have k6 : LstAt S3 S2.length (lts ls2) := by rw [hS3]; exact LstAt.new
    have k7 : LstAt S3 i (lts fs) := by
      rw [hS3, hS2]
      exact k1.app.app
    have a6 : evE (run T (n + 1)) base [x0, some (.int (l : Int)), some (.ref i), some (.ref S2.length), some (.ref S.length), some (lotD (lotI h)), x6] (.bin .Add (.lc [6] (.nm 6) (.ex (.var 2)) .no klo_form_1) (.lst (.cons (.var 5) .nil))) S3 = some (.ref S3.length, S3 ++ [.lst (lts (fs1 ++ [h]))]) := by
      have q := lc_lots (φ := run T (n + 1)) (base := S3.length) (env := [x0, some (.int (l : Int)), some (.ref i), some (.ref S2.length), some (.ref S.length), some (lotD (lotI h)), x6]) (own := [6]) (g := .nm 6) (c := .no) (e := klo_form_1) (fun _ => true) (fun r => if r.testBit l = true then r ^^^ h else r) rfl k7 (v := 2) rfl (by omega) fun m hm => sum_elt W n (l1 m hm) hl
      have e : fs.filter (fun _ => true) = fs := by simp
      rw [e, ← hfs1] at q
      have q2 := one_lst (φ := run T (n + 1)) (base := S3.length) (v := 5) (env := [x0, some (.int (l : Int)), some (.ref i), some (.ref S2.length), some (.ref S.length), some (lotD (lotI h)), x6]) (h := h) (S := S3 ++ [SO.lst (lts fs1)]) rfl
      have hlen : (S3 ++ [SO.lst (lts fs1)]).length = S3.length + 1 := by simp
      rw [hlen, List.append_assoc] at q2
      have n4 : fs1.length ≤ 500 := by rw [hfs1, List.length_map]; exact n1
      have q3 := add_two (base := base) q q2 (by show _ ≤ 100000; simp [lts]; omega) (by rw [lts_app]; exact cl_lts _)
      rw [lts_app] at q3
      exact q3
    refine ⟨some (.ref S.length), some (lotD (lotI h)), x6, S3.length, S2.length, [.lst (lts hv), .lst (lts ls1), .lst (lts ls2), .lst (lts (fs1 ++ [h]))], ?_, ?_, ?_, .inr (by rw [hS3, hS2, hS1]; simp)⟩
    · have hfin : S ++ [SO.lst (lts hv), .lst (lts ls1), .lst (lts ls2), .lst (lts (fs1 ++ [h]))] = S3 ++ [SO.lst (lts (fs1 ++ [h]))] := by
        rw [hS3, hS2, hS1]
        simp
      rw [hfin]
      refine (xs_nx (x_set (i := 4) a1)).trans ?_
      refine (xs_nx ((x_if a2).trans ?_)).trans xs_nil
      refine (xs_nx (x_set (i := 5) a3)).trans ?_
      refine (xs_nx (x_set (i := 3) a4)).trans ?_
      refine (xs_nx (x_set (i := 3) a5)).trans ?_
      exact (xs_nx (x_set (i := 2) a6)).trans xs_nil
    · have hfin : S ++ [SO.lst (lts hv), .lst (lts ls1), .lst (lts ls2), .lst (lts (fs1 ++ [h]))] = S3 ++ [SO.lst (lts (fs1 ++ [h]))] := by
        rw [hS3, hS2, hS1]
        simp
      rw [hfin]
      simp only [List.head?_cons]
      rw [← hfs1]
      exact LstAt.new
    · have hfin : S ++ [SO.lst (lts hv), .lst (lts ls1), .lst (lts ls2), .lst (lts (fs1 ++ [h]))] = S3 ++ [SO.lst (lts (fs1 ++ [h]))] := by
        rw [hS3, hS2, hS1]
        simp
      rw [hfin]
      simp only [List.head?_cons]
      rw [← hls1, ← hls2]
      exact k6.app
end G
end
section
set_option Elab.async false
set_option linter.all false
set_option autoImplicit false
set_option maxHeartbeats 4000000
/-! the law's form is the form -/
namespace G
open PySem L2 Z M
variable {T : Txt}
theorem stp_low {l : Nat} {fs ls : List Nat} (l1 : ∀ m, m ∈ fs → Low m) (l2 : ∀ m, m ∈ ls → Low m) : (∀ m, m ∈ (stp l (fs, ls)).1 → Low m) ∧ ∀ m, m ∈ (stp l (fs, ls)).2 → Low m := by
  unfold stp
  cases q : (ls.find? fun r => r.testBit l) with
  | none => exact ⟨l1, l2⟩
  | some h =>
    have hl := l2 h (List.mem_of_find?_eq_some q)
    refine ⟨fun m hm => ?_, fun m hm => ?_⟩
    · rcases List.mem_append.mp hm with hm | hm
      · obtain ⟨r, hr, rfl⟩ := List.mem_map.mp hm
        split
        · exact low_xor (l1 r hr) hl
        · exact l1 r hr
      · rw [List.mem_singleton.mp hm]
        exact hl
    · obtain ⟨r, hr, rfl⟩ := List.mem_map.mp (List.mem_filter.mp hm).1
      split
      · exact low_xor (l2 r hr) hl
      · exact l2 r hr
theorem stp_len {l : Nat} {fs ls : List Nat} : (stp l (fs, ls)).1.length ≤ fs.length + 1 ∧ (stp l (fs, ls)).2.length ≤ ls.length := by
  unfold stp
  cases q : (ls.find? fun r => r.testBit l) with
  | none => exact ⟨Nat.le_succ _, Nat.le_refl _⟩
  | some h =>
    refine ⟨by simp, ?_⟩
    refine Nat.le_trans (List.length_filter_le _ _) ?_
    rw [List.length_map]
    exact Nat.le_refl _
theorem lo_loop (W : LoB T) (n base : Nat) (x0 : Option D) (hs : Option Nat) (ds : List D) (hn : hs = none) : ∀ (js : List Nat) (fs ls : List Nat) (i j : Nat) (x1 x4 x5 x6 : Option D) (S : Sto), LstAt S i (lts fs) → LstAt S j (lts ls) → (∀ m, m ∈ fs → Low m) → (∀ m, m ∈ ls → Low m) → fs.length + js.length ≤ 500 → ls.length ≤ 500 →
    ∃ (y1 y4 y5 y6 : Option D) (i' j' : Nat) (t : Sto), forF (frS (run T (n + 1)) base (.nm 1) klo_form_5) (fun S2 => Z.still S2 hs ds) (msk js) [x0, x1, some (.ref i), some (.ref j), x4, x5, x6] S = some (.nx, [x0, y1, some (.ref i'), some (.ref j'), y4, y5, y6], S ++ t) ∧
      LstAt (S ++ t) i' (lts (js.foldl (fun p l => stp l p) (fs, ls)).1) ∧ ∀ L, L ≤ i → L ≤ S.length → L ≤ i'
  | [], fs, ls, i, j, x1, x4, x5, x6, S, h1, _, _, _, _, _ => ⟨x1, x4, x5, x6, i, j, [], by rw [List.append_nil]; exact for_nil (by rw [hn]; rfl), by rw [List.append_nil]; exact h1, fun L h _ => h⟩
  | l :: js, fs, ls, i, j, x1, x4, x5, x6, S, h1, h2, l1, l2, n1, n2 => by
    rw [List.length_cons] at n1
    obtain ⟨y4, y5, y6, i1, j1, t1, e1, k1, k2, hi1⟩ := lo_turn W n base l i j fs ls x0 x1 x4 x5 x6 S h1 h2 l1 l2 (by omega) n2
    obtain ⟨p, hp⟩ : ∃ p, p = stp l (fs, ls) := ⟨_, rfl⟩
    have hl := stp_low (l := l) l1 l2
    have hlen := stp_len (l := l) (fs := fs) (ls := ls)
    rw [← hp] at k1 k2 hl hlen
    obtain ⟨a, b⟩ := p
    obtain ⟨z1, z4, z5, z6, i2, j2, t2, e2, k3, k4⟩ := lo_loop W n base x0 hs ds hn js a b i1 j1 (some (.int (l : Int))) y4 y5 y6 (S ++ t1) k1 k2 hl.1 hl.2 (by have := hlen.1; simp only at this; omega) (by have := hlen.2; simp only at this; omega)
    refine ⟨z1, z4, z5, z6, i2, j2, t1 ++ t2, ?_, ?_, fun L hL1 hL2 => k4 L (by rcases hi1 with e | e <;> omega) (by rw [List.length_append]; omega)⟩
    · rw [← List.append_assoc]
      exact (for_nx (by rw [hn]; rfl) e1).trans e2
    · rw [← List.append_assoc, List.foldl_cons, ← hp]
      exact k3
theorem fold_steps (p : List Nat × List Nat) : ∀ k, (List.range k).foldl (fun p l => stp l p) p = steps k p
  | 0 => rfl
  | k + 1 => by
    rw [List.range_succ, List.foldl_append, fold_steps p k]
    rfl
theorem lc_lotsT {φ : Phi} {base v : Nat} {env : Ev} {own : List Nat} {g : Tg} {c : Ox} {e : Ex} {ms : List Nat} {S : Sto} (p : Nat → Bool) (f : Nat → Nat) (hg : tgIn own g = true) (hv : getV env v = some (.tup (lts ms))) (hl : ms.length ≤ 1000)
    (h : ∀ m, m ∈ ms → lcS φ S.length env own g c e (lotD (lotI m)) S = some (if p m = true then some (lotD (lotI (f m))) else none, S)) : evE φ base env (.lc own g (.ex (.var v)) c e) S = some (.ref S.length, S ++ [.lst (lts ((ms.filter p).map f))]) := by
  have key : ∀ (xs acc : List Nat), acc.length + xs.length ≤ 1000 → (∀ m, m ∈ xs → m ∈ ms) → lcF (lcS φ S.length env own g c e) (fun S2 => Z.still S2 none (lts ms)) (lts xs) (lts acc) S = some (lts (acc ++ (xs.filter p).map f), S) := by
    intro xs
    induction xs with
    | nil => intro acc _ _; rw [show lts (acc ++ (([] : List Nat).filter p).map f) = lts acc by simp]; exact lc_nil rfl
    | cons m xs ih =>
      intro acc ha hx
      rw [List.length_cons] at ha
      have hb := h m (hx m List.mem_cons_self)
      cases q : p m with
      | true =>
        rw [q, if_pos rfl] at hb
        refine (lc_put (ok := fun S2 => Z.still S2 none (lts ms)) (ds := lts xs) (acc := lts acc) rfl (by show _ < 100000; simp [lts]; omega) hb).trans ?_
        have e1 : lts acc ++ [lotD (lotI (f m))] = lts (acc ++ [f m]) := by simp [lts]
        rw [e1, ih (acc ++ [f m]) (by rw [List.length_append, List.length_singleton]; omega) fun z hz => hx z (List.mem_cons_of_mem _ hz)]
        simp [q]
      | false =>
        rw [q, if_neg (by decide)] at hb
        refine (lc_skip (ok := fun S2 => Z.still S2 none (lts ms)) (ds := lts xs) (acc := lts acc) rfl (by show _ < 100000; simp [lts]; omega) hb).trans ?_
        rw [ih acc (by omega) fun z hz => hx z (List.mem_cons_of_mem _ hz)]
        simp [q]
  have hi : evI φ S.length env (.ex (.var v)) S = some (lts ms, none, S) := by
    rw [evI, e_var, hv]
    rfl
  have hc := e_lc (φ := φ) (base := base) hg hi (key ms [] (by simpa using hl) fun _ h => h)
  rw [List.nil_append] at hc
  exact hc.trans (gc_new0 (cl_lts _))
theorem lo_form (F : LoF T) (n : Nat) (ms : List Nat) (S : Sto) (hm : ∀ m, m ∈ ms → Low m) (hl : ms.length ≤ 400) : run T (n + 2) "_law_lo_form" [.tup (lts ms)] S = some (.ref S.length, S ++ [.lst (lts (frm ms))]) := by
  rw [F.law_lo_form]
  obtain ⟨ls, hls⟩ : ∃ ls, ls = ms.filter fun r => decide (r ≠ 0) := ⟨_, rfl⟩
  have e1 : evE (run T (n + 1)) S.length [some (.tup (lts ms)), none, none, none, none, none, none] (.lst .nil) S = some (.ref S.length, S ++ [.lst (lts [])]) := by
    have : evE (run T (n + 1)) S.length [some (.tup (lts ms)), none, none, none, none, none, none] (.lst .nil) S = gc S.length (new S (.lst [])) := by
      rw [evE]
      simp [evS, lim]
    rw [this]
    exact gc_new0 rfl
  obtain ⟨S1, hS1⟩ : ∃ S1, S1 = S ++ [SO.lst (lts [])] := ⟨_, rfl⟩
  rw [← hS1] at e1
  have hlen1 : S1.length = S.length + 1 := by rw [hS1]; simp
  have e2 : evE (run T (n + 1)) S.length [some (.tup (lts ms)), none, none, none, none, none, none] (.lc [6] (.nm 6) (.ex (.var 0)) klo_form_6 (.var 6)) S1 = some (.ref S1.length, S1 ++ [.lst (lts ls)]) := by
    have q := lc_lotsT (φ := run T (n + 1)) (base := S.length) (env := [some (.tup (lts ms)), none, none, none, none, none, none]) (own := [6]) (g := .nm 6) (c := klo_form_6) (e := .var 6) (S := S1) (fun r => decide (r ≠ 0)) (fun m => m) rfl (v := 0) rfl (by omega) fun m hm2 => ne_elt _ _ (hm m hm2)
    rw [List.map_id', ← hls] at q
    exact q
  obtain ⟨S2, hS2⟩ : ∃ S2, S2 = S1 ++ [SO.lst (lts ls)] := ⟨_, rfl⟩
  rw [← hS2] at e2
  have x1 : ex1 (run T (n + 1)) S.length (.par 2 3 (.lst .nil) (.lc [6] (.nm 6) (.ex (.var 0)) klo_form_6 (.var 6))) [some (.tup (lts ms)), none, none, none, none, none, none] S = some (.nx, [some (.tup (lts ms)), none, some (.ref S.length), some (.ref S1.length), none, none, none], S2) := by
    rw [ex1, e1]
    simp only [e2]
    rfl
  have k1 : LstAt S2 S.length (lts []) := by
    rw [hS2, hS1]
    exact LstAt.new.app
  have k2 : LstAt S2 S1.length (lts ls) := by rw [hS2]; exact LstAt.new
  have lowl : ∀ m, m ∈ ls → Low m := fun m hm2 => by
    rw [hls] at hm2
    exact hm m (List.mem_filter.mp hm2).1
  have lenl : ls.length ≤ 400 := by
    rw [hls]
    exact Nat.le_trans (List.length_filter_le _ _) hl
  obtain ⟨y1, y4, y5, y6, i', j', t, q, k3, k4⟩ := lo_loop F.toLoB n S.length (some (.tup (lts ms))) none (msk (List.range 25)) rfl (List.range 25) [] ls S.length S1.length none none none none S2 k1 k2 (fun m hm2 => by cases hm2) lowl (by simp) (by omega)
  rw [fold_steps, hls, steps_form (n := 24) (by decide) hm] at k3
  have hi : evI (run T (n + 1)) S.length [some (.tup (lts ms)), none, some (.ref S.length), some (.ref S1.length), none, none, none] (.rng1 (.int 25)) S2 = some (msk (List.range 25), none, S2) := by
    rw [evI, e_int]
    rfl
  have hf := x_for (φ := run T (n + 1)) (base := S.length) (g := .nm 1) (b := klo_form_5) hi
  have hx : exs (run T (n + 1)) S.length klo_form [some (.tup (lts ms)), none, none, none, none, none, none] S = some (.ret (.ref i'), [some (.tup (lts ms)), y1, some (.ref i'), some (.ref j'), y4, y5, y6], S2 ++ t) := by
    unfold klo_form
    refine (xs_nx x1).trans ?_
    refine (xs_nx (hf.trans q)).trans ?_
    exact xs_ret (x_ret (by rw [e_var]; rfl))
  rw [run_ret (φ := run T (n + 1)) (c := ⟨1, 7, klo_form⟩) (vs := [.tup (lts ms)]) (S := S) rfl hx]
  have hle : S.length ≤ i' := k4 S.length (Nat.le_refl _) (by rw [hS2, hS1]; simp)
  have hst : S2 ++ t = S ++ ([SO.lst (lts []), SO.lst (lts ls)] ++ t) := by
    rw [hS2, hS1]
    simp
  have hcl : D.cl S.length (.ref i') = false := decide_eq_false (by omega)
  unfold gc
  simp only [hcl]
  rw [if_neg (by decide), show (S2 ++ t)[i']? = some (.lst (lts (frm ms))) from k3]
  simp only
  have ho : (SO.lst (lts (frm ms))).cl S.length = true := cl_lts _
  rw [if_pos ho, hst, List.take_left']
  rfl
end G
end
section
set_option Elab.async false
set_option linter.all false
set_option autoImplicit false
set_option maxHeartbeats 4000000
/-! all sums, listed by the law -/
namespace G
open PySem L2 Z M
variable {T : Txt}
def klo_all_1 : Ex := (.call "_law_lo_sum" (.cons (.var 3) (.cons (.var 2) .nil)))
def klo_all_2 : Ss := (.cons (.set 1 (.bin .Add (.var 1) (.lc [3] (.nm 3) (.ex (.var 1)) .no klo_all_1))) .nil)
def klo_all : Ss := (.cons (.set 1 (.lst (.cons (.tup .nil) .nil))) (.cons (.for (.nm 2) (.ex (.call "_law_lo_form" (.cons (.var 0) .nil))) klo_all_2) (.cons (.ret (.blt .sortedT (.cons (.var 1) .nil))) .nil)))
structure LoL (T : Txt) : Prop extends LoF T where
  law_lo_all : Is T "_law_lo_all" ⟨1, 4, klo_all⟩
theorem add_var {φ : Phi} {base v i : Nat} {env : Ev} {b : Ex} {xs ys : List D} {S : Sto} (hv : getV env v = some (.ref i)) (hi : LstAt S i xs) (e2 : evE φ S.length env b S = some (.ref S.length, S ++ [.lst ys])) (hl : xs.length + ys.length ≤ lim) (hc : clL S.length (xs ++ ys) = true) :
    evE φ base env (.bin .Add (.var v) b) S = some (.ref S.length, S ++ [.lst (xs ++ ys)]) := by
  rw [e_bin (x := .ref i) (S1 := S) (by rw [e_var, hv]; rfl) e2]
  have a1 : (S ++ [SO.lst ys])[i]? = some (.lst xs) := hi.app
  have a2 : (S ++ [SO.lst ys])[S.length]? = some (.lst ys) := at_new
  have hb : binF .Add (.ref i) (.ref S.length) (S ++ [SO.lst ys]) = some (.ref (S.length + 1), S ++ ([SO.lst ys] ++ [.lst (xs ++ ys)])) := by
    unfold binF
    simp only [a1, a2]
    rw [if_pos hl]
    show some (D.ref (S ++ [SO.lst ys]).length, (S ++ [SO.lst ys]) ++ [SO.lst (xs ++ ys)]) = _
    rw [List.append_assoc]
    simp
  rw [hb]
  exact gc_new (t := [SO.lst ys]) (k := 1) rfl hc
theorem all_elt (W : LoB T) (n base m r : Nat) (x0 x1 x3 : Option D) (S : Sto) (hm : Low m) (hr : Low r) : lcS (run T (n + 1)) base [x0, x1, some (lotD (lotI r)), x3] [3] (.nm 3) .no klo_all_1 (lotD (lotI m)) S = some (if true = true then some (lotD (lotI (m ^^^ r))) else none, S) := by
  have q2 := lo_sum W n m r S hm hr
  obtain ⟨d, hd⟩ : ∃ d, d = lotD (lotI m) := ⟨_, rfl⟩
  obtain ⟨d2, hd2⟩ : ∃ d2, d2 = lotD (lotI r) := ⟨_, rfl⟩
  obtain ⟨d3, hd3⟩ : ∃ d3, d3 = lotD (lotI (m ^^^ r)) := ⟨_, rfl⟩
  have c3 : d3.cl S.length = true := by rw [hd3]; exact cl_ints _
  rw [← hd, ← hd2, ← hd3] at q2
  rw [if_pos rfl, ← hd, ← hd2, ← hd3]
  unfold lcS klo_all_1
  simp [tgF, wipeE, evO, evE, evS, getV, q2, gc_self c3]
theorem all_loop (W : LoB T) (n base k : Nat) (x0 : Option D) (all : List D) : ∀ (rs acc : List Nat) (i : Nat) (x2 x3 : Option D) (S : Sto), LstAt S i (lts acc) → LstAt S k all → (∀ m, m ∈ acc → Low m) → (∀ m, m ∈ rs → Low m) → acc.length * 2 ^ rs.length ≤ 1000 →
    ∃ (y2 y3 : Option D) (i' : Nat) (t : Sto), forF (frS (run T (n + 1)) base (.nm 2) klo_all_2) (fun S2 => Z.still S2 (some k) all) (lts rs) [x0, some (.ref i), x2, x3] S = some (.nx, [x0, some (.ref i'), y2, y3], S ++ t) ∧ LstAt (S ++ t) i' (lts (allS acc rs))
  | [], acc, i, x2, x3, S, h1, hk, _, _, _ => ⟨x2, x3, i, [], by rw [List.append_nil]; exact for_nil hk.still, by rw [List.append_nil]; exact h1⟩
  | r :: rs, acc, i, x2, x3, S, h1, hk, l1, l2, hn => by
    rw [List.length_cons, Nat.pow_succ] at hn
    have hr := l2 r List.mem_cons_self
    have hp : 1 ≤ 2 ^ rs.length := Nat.two_pow_pos _
    have hacc : acc.length * 2 ≤ 1000 := by
      refine Nat.le_trans ?_ hn
      rw [Nat.mul_comm (2 ^ rs.length) 2, ← Nat.mul_assoc]
      exact Nat.le_mul_of_pos_right _ hp
    have e2 : evE (run T (n + 1)) S.length [x0, some (.ref i), some (lotD (lotI r)), x3] (.lc [3] (.nm 3) (.ex (.var 1)) .no klo_all_1) S = some (.ref S.length, S ++ [.lst (lts (acc.map fun x => x ^^^ r))]) := by
      have q := lc_lots (φ := run T (n + 1)) (base := S.length) (env := [x0, some (.ref i), some (lotD (lotI r)), x3]) (own := [3]) (g := .nm 3) (c := .no) (e := klo_all_1) (fun _ => true) (fun x => x ^^^ r) rfl h1 (v := 1) rfl (by omega) fun m hm => all_elt W n S.length m r _ _ _ S (l1 m hm) hr
      have e : acc.filter (fun _ => true) = acc := by simp
      rw [e] at q
      exact q
    have e3 := add_var (φ := run T (n + 1)) (base := base) (v := 1) (env := [x0, some (.ref i), some (lotD (lotI r)), x3]) rfl h1 e2 (by show _ ≤ 100000; simp [lts]; omega) (by rw [lts_app]; exact cl_lts _)
    rw [lts_app] at e3
    obtain ⟨a2, ha2⟩ : ∃ a2, a2 = acc ++ acc.map fun x => x ^^^ r := ⟨_, rfl⟩
    rw [← ha2] at e3
    have low2 : ∀ m, m ∈ a2 → Low m := fun m hm => by
      rw [ha2] at hm
      rcases List.mem_append.mp hm with hm | hm
      · exact l1 m hm
      · obtain ⟨x, hx, rfl⟩ := List.mem_map.mp hm
        exact low_xor (l1 x hx) hr
    have len2 : a2.length = acc.length * 2 := by rw [ha2, List.length_append, List.length_map]; omega
    obtain ⟨y2, y3, i', t, q, k3⟩ := all_loop W n base k x0 all rs a2 S.length (some (lotD (lotI r))) x3 (S ++ [.lst (lts a2)]) LstAt.new hk.app low2 (fun m hm => l2 m (List.mem_cons_of_mem _ hm)) (by rw [len2, Nat.mul_assoc, Nat.mul_comm 2]; exact hn)
    have ht : frS (run T (n + 1)) base (.nm 2) klo_all_2 (lotD (lotI r)) [x0, some (.ref i), x2, x3] S = some (.nx, [x0, some (.ref S.length), some (lotD (lotI r)), x3], S ++ [.lst (lts a2)]) := by
      unfold frS klo_all_2
      simp only [tgF, List.set_cons_succ, List.set_cons_zero]
      exact (xs_nx (x_set (i := 1) e3)).trans xs_nil
    refine ⟨y2, y3, i', [.lst (lts a2)] ++ t, ?_, ?_⟩
    · rw [← List.append_assoc]
      exact (for_nx hk.still ht).trans q
    · rw [← List.append_assoc]
      show LstAt _ i' (lts (allS (acc ++ acc.map fun x => x ^^^ r) rs))
      rw [← ha2]
      exact k3
theorem nss_lots : ∀ ls : List (List Int), nssOf (ls.map lotD) = some ls
  | [] => rfl
  | l :: ls => by
    rw [List.map_cons, nssOf, intsOf_ints, nss_lots ls]
theorem allS_head : ∀ (rs : List Nat) (a : Nat) (acc : List Nat), ∃ r, allS (a :: acc) rs = a :: r
  | [], a, acc => ⟨acc, rfl⟩
  | r :: rs, a, acc => allS_head rs a (acc ++ (a :: acc).map fun x => x ^^^ r)
end G
end
section
set_option Elab.async false
set_option linter.all false
set_option autoImplicit false
set_option maxHeartbeats 4000000
/-! all sums, sorted -/
namespace G
open PySem L2 Z M
variable {T : Txt}
theorem low0 : Low 0 := by
  unfold Low
  decide
theorem lts_zero : lts [0] = [D.tup []] := by
  have : lotI 0 = [] := (lotI_nil low0).mpr rfl
  simp [lts, this]
theorem lo_all (F : LoL T) (n : Nat) (ms : List Nat) (S : Sto) (hm : ∀ m, m ∈ ms → Low m) (hl : ms.length ≤ 400) (h2 : 2 ^ (frm ms).length ≤ 1000) :
    run T (n + 3) "_law_lo_all" [.tup (lts ms)] S = some (.ref S.length, S ++ [.lst ((sortL ((allS [0] (frm ms)).map lotI)).map lotD)]) := by
  rw [F.law_lo_all]
  obtain ⟨S1, hS1⟩ : ∃ S1, S1 = S ++ [SO.lst (lts [0])] := ⟨_, rfl⟩
  have hlen1 : S1.length = S.length + 1 := by rw [hS1]; simp
  have e1 : evE (run T (n + 2)) S.length [some (.tup (lts ms)), none, none, none] (.lst (.cons (.tup .nil) .nil)) S = some (.ref S.length, S1) := by
    have e0 : evE (run T (n + 2)) S.length [some (.tup (lts ms)), none, none, none] (.tup .nil) S = some (.tup [], S) := by
      rw [evE, evS]
      exact gc_self rfl
    have : evE (run T (n + 2)) S.length [some (.tup (lts ms)), none, none, none] (.lst (.cons (.tup .nil) .nil)) S = gc S.length (new S (.lst [D.tup []])) := by
      have hes : evS (run T (n + 2)) S.length [some (.tup (lts ms)), none, none, none] (.cons (.tup .nil) .nil) S = some ([.tup []], S) := by
        simp only [evS, e0]
      rw [evE, hes]
      rfl
    rw [this, hS1, lts_zero]
    exact gc_new0 rfl
  obtain ⟨fs, hfs⟩ : ∃ fs, fs = frm ms := ⟨_, rfl⟩
  obtain ⟨S2, hS2⟩ : ∃ S2, S2 = S1 ++ [SO.lst (lts fs)] := ⟨_, rfl⟩
  have hk : LstAt S2 S1.length (lts fs) := by rw [hS2]; exact LstAt.new
  have hi1 : LstAt S2 S.length (lts [0]) := by
    rw [hS2, hS1]
    exact LstAt.new.app
  have hi : evI (run T (n + 2)) S.length [some (.tup (lts ms)), some (.ref S.length), none, none] (.ex (.call "_law_lo_form" (.cons (.var 0) .nil))) S1 = some (lts fs, some S1.length, S2) := by
    have q := lo_form F.toLoF n ms S1 hm hl
    rw [← hfs, ← hS2] at q
    rw [evI, e_call (vs := [.tup (lts ms)]) (S1 := S1) (by simp [evS, evE, getV]), q]
    have g : gc S1.length (some (.ref S1.length, S2)) = some (.ref S1.length, S2) := by
      rw [hS2]
      exact gc_new0 (cl_lts _)
    rw [g]
    show (itV S2 (.ref S1.length)).map (fun p => (p.1, p.2, S2)) = _
    rw [hk.it]
    rfl
  have flow : ∀ m, m ∈ fs → Low m := by
    rw [hfs]
    exact frm_low hm
  rw [← hfs] at h2 ⊢
  obtain ⟨y2, y3, i', t, q, k3⟩ := all_loop F.toLoB (n + 1) S.length S1.length (some (.tup (lts ms))) (lts fs) fs [0] S.length none none S2 hi1 hk (fun m hm2 => by rw [List.mem_singleton.mp hm2]; exact low0) flow (by simpa using h2)
  have hf := x_for (φ := run T (n + 2)) (base := S.length) (g := .nm 2) (b := klo_all_2) hi
  obtain ⟨as, has⟩ : ∃ as, as = allS [0] fs := ⟨_, rfl⟩
  obtain ⟨r0, hr0⟩ := allS_head fs 0 []
  rw [← has] at k3 hr0 ⊢
  obtain ⟨S3, hS3⟩ : ∃ S3, S3 = S2 ++ t := ⟨_, rfl⟩
  rw [← hS3] at q k3
  have e4 : evE (run T (n + 2)) S.length [some (.tup (lts ms)), some (.ref i'), y2, y3] (.blt .sortedT (.cons (.var 1) .nil)) S3 = some (.ref S3.length, S3 ++ [.lst ((sortL (as.map lotI)).map lotD)]) := by
    rw [e_blt (vs := [.ref i']) (S1 := S3) (by simp [evS, evE, getV])]
    have hb : bltF .sortedT [.ref i'] S3 = some (.ref S3.length, S3 ++ [.lst ((sortL (as.map lotI)).map lotD)]) := by
      show ((lstOf S3 (.ref i')).bind nssOf).bind (fun nss => if fineL nss = true then new S3 (.lst ((sortL nss).map fun ns => .tup (ns.map .int))) else none) = _
      have hlo : lstOf S3 (.ref i') = some (lts as) := by
        show (S3[i']?).bind SO.seq? = _
        rw [show S3[i']? = some (.lst (lts as)) from k3]
        rfl
      rw [hlo, Option.bind_some, nss_lots, Option.bind_some]
      have hfine : fineL (as.map lotI) = true := by
        rw [hr0]
        have : lotI 0 = [] := (lotI_nil low0).mpr rfl
        simp [fineL, this]
      rw [if_pos hfine]
      rfl
    rw [hb]
    exact gc_new0 (cl_lots _)
  have hx : exs (run T (n + 2)) S.length klo_all [some (.tup (lts ms)), none, none, none] S = some (.ret (.ref S3.length), [some (.tup (lts ms)), some (.ref i'), y2, y3], S3 ++ [.lst ((sortL (as.map lotI)).map lotD)]) := by
    unfold klo_all
    refine (xs_nx (x_set (i := 1) e1)).trans ?_
    refine (xs_nx (hf.trans q)).trans ?_
    exact xs_ret (x_ret e4)
  rw [run_ret (φ := run T (n + 2)) (c := ⟨1, 4, klo_all⟩) (vs := [.tup (lts ms)]) (S := S) rfl hx]
  have hst : S3 ++ [SO.lst ((sortL (as.map lotI)).map lotD)] = S ++ (([SO.lst (lts [0]), SO.lst (lts fs)] ++ t) ++ [SO.lst ((sortL (as.map lotI)).map lotD)]) := by
    rw [hS3, hS2, hS1]
    simp
  have hln : S3.length = S.length + ([SO.lst (lts [0]), SO.lst (lts fs)] ++ t).length := by
    rw [hS3, hS2, hS1]
    simp
  rw [hst, hln]
  exact gc_new rfl (cl_lots _)
end G
end
section
set_option Elab.async false
set_option linter.all false
set_option autoImplicit false
set_option maxHeartbeats 4000000
/-! is a lot a sum? -/
namespace G
open PySem L2 Z M
variable {T : Txt}
def klo_made_1 : Ss := (.cons (.ifs (.cmp .In (.ix (.var 3) (.int 0)) (.var 2)) (.cons (.set 2 (.call "_law_lo_sum" (.cons (.var 2) (.cons (.var 3) .nil)))) .nil) .nil) .nil)
def klo_made : Ss := (.cons (.set 2 (.var 1)) (.cons (.for (.nm 3) (.ex (.call "_law_lo_form" (.cons (.var 0) .nil))) klo_made_1) (.cons (.ret (.cmp .Eq (.var 2) (.tup .nil))) .nil)))
structure LoM (T : Txt) : Prop extends LoL T where
  law_lo_is_made : Is T "_law_lo_is_made" ⟨2, 4, klo_made⟩
theorem lotI_head {r : Nat} (h : Low r) (h0 : r ≠ 0) : ∃ q, lotI r = (low r : Int) :: q := by
  have hm : (low r : Int) ∈ lotI r := (lotI_mem r _).mpr ⟨Int.natCast_nonneg _, by have := low_lt_of h0 h; omega, by rw [Int.toNat_natCast]; exact low_bit h0⟩
  have ha := lotI_asc r
  cases e : lotI r with
  | nil =>
    rw [e] at hm
    cases hm
  | cons a q =>
    rw [e] at hm ha
    have hp := (List.pairwise_cons.mp ha).1
    have hin : a ∈ lotI r := by rw [e]; exact List.mem_cons_self
    obtain ⟨b1, b2, b3⟩ := (lotI_mem r a).mp hin
    have hge : low r ≤ a.toNat := Nat.le_of_not_lt fun c => by
      rw [low_lt c] at b3
      cases b3
    refine ⟨q, ?_⟩
    rcases List.mem_cons.mp hm with e2 | e2
    · rw [e2]
    · have := hp _ e2
      omega
theorem made_turn (W : LoB T) (n base a r : Nat) (x0 x1 x3 : Option D) (S : Sto) (ha : Low a) (hr : Low r) (h0 : r ≠ 0) : frS (run T (n + 1)) base (.nm 3) klo_made_1 (lotD (lotI r)) [x0, x1, some (lotD (lotI a)), x3] S =
    some (.nx, [x0, x1, some (lotD (lotI (if a.testBit (low r) = true then a ^^^ r else a))), some (lotD (lotI r))], S) := by
  obtain ⟨q, hq⟩ := lotI_head hr h0
  have hb := in_bit (S := S) (l := low r) ha
  have hs := lo_sum W n a r S ha hr
  have hix : ixF (lotD (lotI r)) (.int 0) S = some (.int (low r : Int)) := by
    rw [hq]
    show atI (D.int (low r : Int) :: q.map D.int) 0 = _
    have hp : (0 : Int) < ((D.int (low r : Int) :: q.map D.int).length : Int) := by simp
    unfold atI ixN
    rw [if_pos (Int.le_refl 0), if_pos hp]
    rfl
  obtain ⟨d, hd⟩ : ∃ d, d = lotD (lotI a) := ⟨_, rfl⟩
  obtain ⟨d2, hd2⟩ : ∃ d2, d2 = lotD (lotI r) := ⟨_, rfl⟩
  obtain ⟨d3, hd3⟩ : ∃ d3, d3 = lotD (lotI (a ^^^ r)) := ⟨_, rfl⟩
  have c3 : d3.cl S.length = true := by rw [hd3]; exact cl_ints _
  rw [← hd] at hb
  rw [← hd, ← hd2, ← hd3] at hs
  rw [← hd2] at hix
  have e1 : ∀ b, evE (run T (n + 1)) b [x0, x1, some d, some d2] (.ix (.var 3) (.int 0)) S = some (.int (low r : Int), S) := fun b => by
    rw [evE, e_var]
    show gc S.length (match evE (run T (n + 1)) S.length [x0, x1, some d, some d2] (.int 0) S with
      | some (y, S2) => (ixF d2 y S2).map fun z => (z, S2)
      | none => none) = _
    rw [e_int]
    simp only [hix, Option.map_some]
    exact gc_intS
  have e2 : evT (run T (n + 1)) base [x0, x1, some d, some d2] (.cmp .In (.ix (.var 3) (.int 0)) (.var 2)) S = some (a.testBit (low r), S) := by
    unfold evT
    rw [e_cmp (e1 _) (by rw [e_var]; rfl)]
    have : cmpF .In (.int (low r : Int)) d S = some (a.testBit (low r)) := hb
    rw [this]
    show (match gc S.length (some (D.bl (a.testBit (low r)), S)) with
      | some (x, S1) => (truF S1 x).map fun k => (k, S1)
      | none => none) = _
    rw [gc_blS]
    rfl
  have e3 : evE (run T (n + 1)) base [x0, x1, some d, some d2] (.call "_law_lo_sum" (.cons (.var 2) (.cons (.var 3) .nil))) S = some (d3, S) := by
    rw [e_call (vs := [d, d2]) (S1 := S) (by simp [evS, evE, getV]), hs]
    exact gc_self c3
  rw [← hd, ← hd2]
  unfold frS klo_made_1
  simp only [tgF, List.set_cons_succ, List.set_cons_zero]
  refine (xs_nx ((x_if e2).trans ?_)).trans xs_nil
  cases c : a.testBit (low r) with
  | true =>
    rw [if_pos rfl, if_pos rfl, ← hd3]
    exact (xs_nx (x_set (i := 2) e3)).trans xs_nil
  | false =>
    rw [if_neg (by decide), if_neg (by decide), ← hd]
    exact xs_nil
theorem made_loop (W : LoB T) (n base k : Nat) (x0 x1 : Option D) (all : List D) (S : Sto) (hk : LstAt S k all) : ∀ (rs : List Nat) (a : Nat) (x3 : Option D), Low a → (∀ m, m ∈ rs → Low m ∧ m ≠ 0) →
    ∃ (y3 : Option D), forF (frS (run T (n + 1)) base (.nm 3) klo_made_1) (fun S2 => Z.still S2 (some k) all) (lts rs) [x0, x1, some (lotD (lotI a)), x3] S = some (.nx, [x0, x1, some (lotD (lotI (clr rs a))), y3], S)
  | [], a, x3, _, _ => ⟨x3, for_nil hk.still⟩
  | r :: rs, a, x3, ha, h => by
    obtain ⟨hr, h0⟩ := h r List.mem_cons_self
    have ht := made_turn W n base a r x0 x1 x3 S ha hr h0
    obtain ⟨b, hb⟩ : ∃ b, b = if a.testBit (low r) = true then a ^^^ r else a := ⟨_, rfl⟩
    rw [← hb] at ht
    have lb : Low b := by
      rw [hb]
      split
      · exact low_xor ha hr
      · exact ha
    obtain ⟨y3, q⟩ := made_loop W n base k x0 x1 all S hk rs b (some (lotD (lotI r))) lb fun m hm => h m (List.mem_cons_of_mem _ hm)
    refine ⟨y3, (for_nx hk.still ht).trans ?_⟩
    rw [q, hb]
    rfl
theorem clr_low : ∀ {rs : List Nat} {a : Nat}, Low a → (∀ m, m ∈ rs → Low m) → Low (clr rs a)
  | [], _, h, _ => h
  | r :: rs, a, h, hr => by
    refine clr_low (rs := rs) ?_ fun m hm => hr m (List.mem_cons_of_mem _ hm)
    split
    · exact low_xor h (hr r List.mem_cons_self)
    · exact h
/-- just the sums are made -/
theorem lo_is_made (F : LoM T) (n m : Nat) (ms : List Nat) (S : Sto) (hm : ∀ m, m ∈ ms → Low m) (hl : ms.length ≤ 400) (h : Low m) : ∃ b : Bool, run T (n + 3) "_law_lo_is_made" [.tup (lts ms), lotD (lotI m)] S = some (.bl b, S) ∧ (b = true ↔ spn ms m) := by
  obtain ⟨fF, fS⟩ := frm_spec ms
  obtain ⟨fs, hfs⟩ : ∃ fs, fs = frm ms := ⟨_, rfl⟩
  refine ⟨decide (clr fs m = 0), ?_, by rw [decide_eq_true_eq, hfs, clr_zero fF.1]; exact fS m⟩
  rw [F.law_lo_is_made]
  have flow : ∀ r, r ∈ fs → Low r ∧ r ≠ 0 := fun r hr => by
    rw [hfs] at hr
    exact ⟨frm_low hm r hr, fF.1.1 r hr⟩
  obtain ⟨S2, hS2⟩ : ∃ S2, S2 = S ++ [SO.lst (lts fs)] := ⟨_, rfl⟩
  have hk : LstAt S2 S.length (lts fs) := by rw [hS2]; exact LstAt.new
  have hi : evI (run T (n + 2)) S.length [some (.tup (lts ms)), some (lotD (lotI m)), some (lotD (lotI m)), none] (.ex (.call "_law_lo_form" (.cons (.var 0) .nil))) S = some (lts fs, some S.length, S2) := by
    have q := lo_form F.toLoF n ms S hm hl
    rw [← hfs, ← hS2] at q
    rw [evI, e_call (vs := [.tup (lts ms)]) (S1 := S) (by simp [evS, evE, getV]), q]
    have g : gc S.length (some (.ref S.length, S2)) = some (.ref S.length, S2) := by
      rw [hS2]
      exact gc_new0 (cl_lts _)
    rw [g]
    show (itV S2 (.ref S.length)).map (fun p => (p.1, p.2, S2)) = _
    rw [hk.it]
    rfl
  obtain ⟨y3, q⟩ := made_loop F.toLoB (n + 1) S.length S.length (some (.tup (lts ms))) (some (lotD (lotI m))) (lts fs) S2 hk fs m none h flow
  have hf := x_for (φ := run T (n + 2)) (base := S.length) (g := .nm 3) (b := klo_made_1) hi
  have lc := clr_low h fun r hr => (flow r hr).1
  obtain ⟨c, hc⟩ : ∃ c, c = clr fs m := ⟨_, rfl⟩
  rw [← hc] at q lc ⊢
  have e4 : evE (run T (n + 2)) S.length [some (.tup (lts ms)), some (lotD (lotI m)), some (lotD (lotI c)), y3] (.cmp .Eq (.var 2) (.tup .nil)) S2 = some (.bl (decide (c = 0)), S2) := by
    have e0 : evE (run T (n + 2)) S2.length [some (.tup (lts ms)), some (lotD (lotI m)), some (lotD (lotI c)), y3] (.tup .nil) S2 = some (.tup [], S2) := by
      rw [evE, evS]
      exact gc_self rfl
    rw [e_cmp (x := lotD (lotI c)) (S1 := S2) (by rw [e_var]; rfl) e0]
    have : cmpF .Eq (lotD (lotI c)) (.tup []) S2 = some (decide (c = 0)) := by
      show eqD S2 (lotD (lotI c)) (lotD []) = _
      rw [eqD_ints]
      congr 1
      rw [Bool.eq_iff_iff, decide_eq_true_eq, decide_eq_true_eq]
      exact lotI_nil lc
    rw [this]
    exact gc_blS
  have hx : exs (run T (n + 2)) S.length klo_made [some (.tup (lts ms)), some (lotD (lotI m)), none, none] S = some (.ret (.bl (decide (c = 0))), [some (.tup (lts ms)), some (lotD (lotI m)), some (lotD (lotI c)), y3], S2) := by
    unfold klo_made
    refine (xs_nx (x_set (i := 2) (x := lotD (lotI m)) (by rw [e_var]; rfl))).trans ?_
    refine (xs_nx (hf.trans q)).trans ?_
    exact xs_ret (x_ret e4)
  rw [run_ret (φ := run T (n + 2)) (c := ⟨2, 4, klo_made⟩) (vs := [.tup (lts ms), lotD (lotI m)]) (S := S) rfl hx, hS2]
  exact gc_blA
end G
end
section
set_option Elab.async false
set_option linter.all false
set_option autoImplicit false
set_option maxHeartbeats 4000000
/-! forms have their shape -/
namespace G
open PySem L2 Z M
variable {T : Txt}
def kshape_1 : Ox := (.yes (.cmp .In (.var 3) (.var 2)))
def kshape_2 : Ox := (.yes (.cmp .NotEq (.blt .len (.cons (.lc [2] (.nm 2) (.ex (.var 0)) kshape_1 (.var 2)) .nil)) (.int 1)))
def kshape_3 : Ex := (.ix (.var 2) (.int 0))
def kshape : Ss := (.cons (.set 1 (.lc [2] (.nm 2) (.ex (.var 0)) .no kshape_3)) (.cons (.ifs (.cmp .NotEq (.var 1) (.srs (.var 1))) (.cons (.ret (.bl false)) .nil) .nil) (.cons (.ret (.cmp .Eq (.lc [3] (.nm 3) (.ex (.var 1)) kshape_2 (.var 3)) (.lst .nil))) .nil)))
def HasShape (T : Txt) : Prop := Is T "_law_has_shape" ⟨1, 4, kshape⟩
theorem one_row : ∀ {fs : List Nat} {r : Nat}, Red fs → r ∈ fs → fs.filter (fun q => q.testBit (low r)) = [r]
  | q :: fs, r, hR, hr => by
    have hp := (List.pairwise_cons.mp hR.2).1
    rw [List.filter_cons]
    rcases List.mem_cons.mp hr with rfl | hr
    · have e : fs.filter (fun q => q.testBit (low r)) = [] := List.filter_eq_nil_iff.mpr fun s hs => by rw [(hp s hs).2]; decide
      rw [if_pos (low_bit (hR.1 r List.mem_cons_self)), e]
    · rw [if_neg (by rw [(hp r hr).1]; decide)]
      exact one_row hR.tail hr
theorem srtU_self {ns : List Int} (h : ns.Pairwise (· < ·)) : srtU ns = ns := asc_same (srtU_asc ns) h fun k => srtU_mem k ns
theorem head_elt (φ : Phi) (base m : Nat) (x0 x1 x2 x3 : Option D) (S : Sto) (hm : Low m) (h0 : m ≠ 0) : lcS φ base [x0, x1, x2, x3] [2] (.nm 2) .no kshape_3 (lotD (lotI m)) S = some (some (.int (low m : Int)), S) := by
  obtain ⟨q, hq⟩ := lotI_head hm h0
  have hix : ixF (lotD (lotI m)) (.int 0) S = some (.int (low m : Int)) := by
    rw [hq]
    show atI (D.int (low m : Int) :: q.map D.int) 0 = _
    have hp : (0 : Int) < ((D.int (low m : Int) :: q.map D.int).length : Int) := by simp
    unfold atI ixN
    rw [if_pos (Int.le_refl 0), if_pos hp]
    rfl
  obtain ⟨d, hd⟩ : ∃ d, d = lotD (lotI m) := ⟨_, rfl⟩
  rw [← hd] at hix ⊢
  have e1 : evE φ base [x0, x1, some d, x3] kshape_3 S = some (.int (low m : Int), S) := by
    unfold kshape_3
    rw [evE, e_var]
    show gc S.length (match evE φ S.length [x0, x1, some d, x3] (.int 0) S with
      | some (y, S2) => (ixF d y S2).map fun z => (z, S2)
      | none => none) = _
    rw [e_int]
    simp only [hix, Option.map_some]
    exact gc_intS
  unfold lcS
  simp [tgF, wipeE, evO, e1]
theorem row_elt (φ : Phi) (base m l : Nat) (x0 x1 x2 : Option D) (S : Sto) (hm : Low m) : lcS φ base [x0, x1, x2, some (.int (l : Int))] [2] (.nm 2) kshape_1 (.var 2) (lotD (lotI m)) S = some (if m.testBit l = true then some (lotD (lotI m)) else none, S) := by
  have q := in_bit (S := S) (l := l) hm
  obtain ⟨d, hd⟩ : ∃ d, d = lotD (lotI m) := ⟨_, rfl⟩
  rw [← hd] at q ⊢
  unfold lcS kshape_1
  cases c : m.testBit l with
  | true =>
    rw [c] at q
    simp [tgF, wipeE, evO, evE, getV, cmpF, q, gc_blS, truF]
  | false =>
    rw [c] at q
    simp [tgF, wipeE, evO, evE, getV, cmpF, q, gc_blS, truF]
theorem alone_elt (φ : Phi) (base r : Nat) (fs : List Nat) (x1 x2 x3 : Option D) (S : Sto) (hF : Red fs) (hr : r ∈ fs) (hm : ∀ m, m ∈ fs → Low m) (hl : fs.length ≤ 1000) : lcS φ base [some (.tup (lts fs)), x1, x2, x3] [3] (.nm 3) kshape_2 (.var 3) (.int (low r : Int)) S = some (none, S) := by
  have q := lc_lotsT (φ := φ) (base := S.length) (env := [some (.tup (lts fs)), x1, x2, some (.int (low r : Int))]) (own := [2]) (g := .nm 2) (c := kshape_1) (e := .var 2) (S := S) (fun m => m.testBit (low r)) (fun m => m) rfl (v := 0) rfl hl fun m hm2 => row_elt φ S.length m (low r) _ _ _ S (hm m hm2)
  rw [List.map_id', one_row hF hr] at q
  obtain ⟨x, hx⟩ : ∃ x, x = D.tup (lts fs) := ⟨_, rfl⟩
  rw [← hx] at q ⊢
  have e1 : evE φ S.length [some x, x1, x2, some (.int (low r : Int))] (.blt .len (.cons (.lc [2] (.nm 2) (.ex (.var 0)) kshape_1 (.var 2)) .nil)) S = some (.int 1, S) := by
    rw [e_blt (vs := [.ref S.length]) (S1 := S ++ [.lst (lts [r])]) (by simp only [evS, q])]
    show gc S.length ((itemsOf (S ++ [SO.lst (lts [r])]) (.ref S.length)).map fun xs => (D.int xs.length, S ++ [SO.lst (lts [r])])) = _
    rw [items_new]
    exact gc_intA
  have e2 : evO φ base [some x, x1, x2, some (.int (low r : Int))] kshape_2 S = some (some (.bl false), S) := by
    unfold kshape_2
    have e3 : evE φ base [some x, x1, x2, some (.int (low r : Int))] (.cmp .NotEq (.blt .len (.cons (.lc [2] (.nm 2) (.ex (.var 0)) kshape_1 (.var 2)) .nil)) (.int 1)) S = some (.bl false, S) := by
      rw [e_cmp e1 e_int]
      have : cmpF .NotEq (.int 1) (.int 1) S = some false := by
        show (eqD S (.int 1) (.int 1)).map (!·) = _
        rw [eqD_int]
        rfl
      rw [this]
      exact gc_blS
    rw [evO, e3]
  unfold lcS
  simp [tgF, wipeE, e2, truF]
theorem has_shape (h : HasShape T) (n : Nat) (fs : List Nat) (S : Sto) (hF : Form fs) (hm : ∀ m, m ∈ fs → Low m) (hl : fs.length < 64) : run T (n + 1) "_law_has_shape" [.tup (lts fs)] S = some (.bl true, S) := by
  rw [h]
  have hasc : ((fs.map low).map fun m : Nat => (m : Int)).Pairwise (· < ·) := by
    rw [List.map_map]
    exact List.pairwise_map.mpr (hF.2.imp fun {a b} q => by show (low a : Int) < (low b : Int); omega)
  have key : ∀ (x1 x2 x3 : Option D), evE (run T n) S.length [some (.tup (lts fs)), x1, x2, x3] (.lc [2] (.nm 2) (.ex (.var 0)) .no kshape_3) S = some (.ref S.length, S ++ [.lst (msk (fs.map low))]) := fun x1 x2 x3 => by
    have hi : evI (run T n) S.length [some (.tup (lts fs)), x1, x2, x3] (.ex (.var 0)) S = some (fs.map (fun m => lotD (lotI m)), none, S) := by
      rw [evI, e_var]
      show some (lts fs, none, S) = _
      simp [lts]
    have hmm := lc_map (step := lcS (run T n) S.length [some (.tup (lts fs)), x1, x2, x3] [2] (.nm 2) .no kshape_3) (ok := fun S2 => Z.still S2 none (fs.map fun m => lotD (lotI m))) (S := S) (fun m => lotD (lotI m)) (fun m => D.int (low m : Int)) rfl fs [] (by show _ ≤ 100000; simp; omega) fun m hm2 => head_elt (run T n) S.length m _ _ _ _ S (hm m hm2) (hF.1.1 m hm2)
    have hc := e_lc (φ := run T n) (base := S.length) (own := [2]) (g := .nm 2) (c := .no) (e := kshape_3) rfl hi hmm
    have e : [] ++ fs.map (fun m => D.int (low m : Int)) = msk (fs.map low) := by
      unfold msk
      rw [List.map_map]
      rfl
    rw [e] at hc
    exact hc.trans (gc_new0 (cl_msk _))
  have e1 := key none none none
  obtain ⟨S1, hS1⟩ : ∃ S1, S1 = S ++ [SO.lst (msk (fs.map low))] := ⟨_, rfl⟩
  rw [← hS1] at e1
  have hk : LstAt S1 S.length (msk (fs.map low)) := by rw [hS1]; exact LstAt.new
  obtain ⟨ns, hns⟩ : ∃ ns : List Int, ns = (fs.map low).map fun m : Nat => (m : Int) := ⟨_, rfl⟩
  have hmsk : msk (fs.map low) = ns.map D.int := by rw [msk_ints, hns]
  rw [← hns] at hasc
  have hnl : ns.length < 64 := by
    rw [hns]
    simpa using hl
  have hseq : (S1[S.length]?).bind SO.seq? = some (ns.map D.int) := by
    rw [show S1[S.length]? = some (.lst (msk (fs.map low))) from hk, hmsk]
    rfl
  have e2 : evE (run T n) S1.length [some (.tup (lts fs)), some (.ref S.length), none, none] (.srs (.var 1)) S1 = some (.ref S1.length, S1 ++ [.lst (ns.map D.int)]) := by
    rw [evE, e_var]
    show gc S1.length ((((S1[S.length]?).bind SO.seq?).bind intsOf).bind fun ns => if ns.length < 64 then new S1 (.lst ((srtU ns).map .int)) else none) = _
    rw [hseq, Option.bind_some, intsOf_ints, Option.bind_some, if_pos hnl, srtU_self hasc]
    exact gc_new0 (cl_ints _)
  have e3 : evT (run T n) S.length [some (.tup (lts fs)), some (.ref S.length), none, none] (.cmp .NotEq (.var 1) (.srs (.var 1))) S1 = some (false, S1) := by
    have e : eqD (S1 ++ [SO.lst (ns.map D.int)]) (.ref S.length) (.ref S1.length) = some (decide (ns = ns)) := eqD_intsL (by
      have := hk.app (t := [SO.lst (ns.map D.int)])
      rw [show (S1 ++ [SO.lst (ns.map D.int)])[S.length]? = some (.lst (msk (fs.map low))) from this, hmsk]
      rfl) (by rw [at_new]; rfl)
    unfold evT
    rw [e_cmp (x := .ref S.length) (S1 := S1) (by rw [e_var]; rfl) e2]
    have ec : cmpF .NotEq (.ref S.length) (.ref S1.length) (S1 ++ [SO.lst (ns.map D.int)]) = some false := by
      show (eqD (S1 ++ [SO.lst (ns.map D.int)]) (.ref S.length) (.ref S1.length)).map (!·) = _
      rw [e]
      simp
    rw [ec]
    show (match gc S1.length (some (D.bl false, S1 ++ [SO.lst (ns.map D.int)])) with
      | some (x, S1) => (truF S1 x).map fun k => (k, S1)
      | none => none) = _
    rw [gc_blA]
    rfl
  have e4 : evE (run T n) S1.length [some (.tup (lts fs)), some (.ref S.length), none, none] (.lc [3] (.nm 3) (.ex (.var 1)) kshape_2 (.var 3)) S1 = some (.ref S1.length, S1 ++ [.lst []]) := by
    have hi := hk.walk (φ := run T n) (base := S1.length) (j := 1) (env := [some (.tup (lts fs)), some (.ref S.length), none, none]) rfl
    have hz : lcF (lcS (run T n) S1.length [some (.tup (lts fs)), some (.ref S.length), none, none] [3] (.nm 3) kshape_2 (.var 3)) (fun S2 => Z.still S2 (some S.length) (msk (fs.map low))) (msk (fs.map low)) [] S1 = some ([], S1) := by
      have := lc_ints (step := lcS (run T n) S1.length [some (.tup (lts fs)), some (.ref S.length), none, none] [3] (.nm 3) kshape_2 (.var 3)) (ok := fun S2 => Z.still S2 (some S.length) (msk (fs.map low))) (S := S1) (fun _ => none) hk.still ns (by show _ ≤ 100000; omega) fun z hz2 => by
        rw [hns] at hz2
        obtain ⟨l, hl2, rfl⟩ := List.mem_map.mp hz2
        obtain ⟨r, hr, rfl⟩ := List.mem_map.mp hl2
        exact alone_elt (run T n) S1.length r fs _ _ _ S1 hF.1 hr hm (by omega)
      rw [← hmsk] at this
      rw [this]
      simp
    have hc := e_lc (φ := run T n) (base := S1.length) (own := [3]) (g := .nm 3) (c := kshape_2) (e := .var 3) rfl hi hz
    exact hc.trans (gc_new0 rfl)
  have e5 : evE (run T n) S.length [some (.tup (lts fs)), some (.ref S.length), none, none] (.cmp .Eq (.lc [3] (.nm 3) (.ex (.var 1)) kshape_2 (.var 3)) (.lst .nil)) S1 = some (.bl true, S1) := by
    obtain ⟨S2, hS2⟩ : ∃ S2, S2 = S1 ++ [SO.lst ([] : List D)] := ⟨_, rfl⟩
    rw [← hS2] at e4
    have e6 : evE (run T n) S1.length [some (.tup (lts fs)), some (.ref S.length), none, none] (.lst .nil) S2 = some (.ref S2.length, S2 ++ [.lst []]) := by
      have : evE (run T n) S1.length [some (.tup (lts fs)), some (.ref S.length), none, none] (.lst .nil) S2 = gc S2.length (new S2 (.lst [])) := by
        rw [evE]
        simp [evS, lim]
      rw [this]
      exact gc_new0 rfl
    rw [e_cmp e4 e6]
    have ec : cmpF .Eq (.ref S1.length) (.ref S2.length) (S2 ++ [SO.lst []]) = some true := by
      show eqD (S2 ++ [SO.lst []]) (.ref S1.length) (.ref S2.length) = _
      have k2 : LstAt S2 S1.length [] := by rw [hS2]; exact LstAt.new
      rw [eqD_intsL (ns := []) (ms := []) (by
        rw [show (S2 ++ [SO.lst []])[S1.length]? = some (.lst []) from k2.app]
        rfl) (by rw [at_new]; rfl)]
      rfl
    rw [ec, hS2, List.append_assoc]
    exact gc_blA
  have hx : exs (run T n) S.length kshape [some (.tup (lts fs)), none, none, none] S = some (.ret (.bl true), [some (.tup (lts fs)), some (.ref S.length), none, none], S1) := by
    unfold kshape
    refine (xs_nx (x_set (i := 1) e1)).trans ?_
    exact (xs_nx ((x_if e3).trans xs_nil)).trans (xs_ret (x_ret e5))
  rw [run_ret (φ := run T n) (c := ⟨1, 4, kshape⟩) (vs := [.tup (lts fs)]) (S := S) rfl hx, hS1]
  exact gc_blA
end G
end
section
set_option Elab.async false
set_option linter.all false
set_option autoImplicit false
set_option maxHeartbeats 4000000
/-! dice that move; values that refer to nothing; new lists -/
namespace G
open PySem L2 Z M
variable {T : Txt} {S S1 S2 S3 : Sto} {i : Nat} {s K : Int}
/-- dice at i, rolled at most K times -/
def DD (S : Sto) (i : Nat) (s K : Int) : Prop := ∃ g k, Dice S i g s k ∧ 0 ≤ k ∧ k ≤ K
/-- all but the dice at i is as it was -/
def To (i : Nat) (S S' : Sto) : Prop := ∃ o, S' = S.set i o
theorem To.trans (a : To i S S1) (b : To i S1 S2) : To i S S2 := by
  obtain ⟨o, rfl⟩ := a
  obtain ⟨p, rfl⟩ := b
  exact ⟨p, List.set_set ..⟩
theorem To.len (a : To i S S1) : S1.length = S.length := by
  obtain ⟨o, rfl⟩ := a
  exact List.length_set ..
theorem To.at (a : To i S S1) {j : Nat} (h : j ≠ i) : S1[j]? = S[j]? := by
  obtain ⟨o, rfl⟩ := a
  exact List.getElem?_set_ne (Ne.symm h)
theorem To.app (a : To i S S1) (hi : i < S.length) {t : Sto} : To i (S ++ t) (S1 ++ t) := by
  obtain ⟨o, rfl⟩ := a
  exact ⟨o, by rw [List.set_append_left _ _ hi]⟩
theorem DD.self (h : DD S i s K) : To i S S := by
  obtain ⟨g, k, d, _⟩ := h
  exact ⟨_, (set_same d).symm⟩
theorem DD.lt (h : DD S i s K) : i < S.length := by
  obtain ⟨g, k, d, _⟩ := h
  exact d.lt
theorem DD.app (h : DD S i s K) {t : Sto} : DD (S ++ t) i s K := by
  obtain ⟨g, k, d, q⟩ := h
  have hl := d.lt
  exact ⟨g, k, by unfold Dice at *; rw [List.getElem?_append_left hl]; exact d, q⟩
theorem DD.mono (h : DD S i s K) {L : Int} (q : K ≤ L) : DD S i s L := by
  obtain ⟨g, k, d, a, b⟩ := h
  exact ⟨g, k, d, a, by omega⟩
theorem DD.tab (h : DD S i s K) {j : Nat} {f : Str} (ht : S[j]? = some (.tbl f)) : j ≠ i := fun z => by
  obtain ⟨g, k, d, _⟩ := h
  rw [z, d] at ht
  cases ht
theorem To.tab (a : To i S S1) (h : DD S i s K) {j : Nat} {f : Str} (ht : S[j]? = some (.tbl f)) : S1[j]? = some (.tbl f) := by rw [a.at (h.tab ht)]; exact ht
theorem dd_set {g k g' k' : Int} (h : Dice S i g s k) (a : 0 ≤ k') (b : k' ≤ K) : DD (S.set i (.lst [.int g', .int s, .int k'])) i s K := ⟨g', k', h.set g' s k', a, b⟩
/-- the dice stand at a place that no list is at -/
theorem To.lst (a : To i S S1) (h : DD S i s K) {j : Nat} {xs : List D} (hj : LstAt S j xs) (n : j ≠ i) : LstAt S1 j xs := by
  unfold LstAt at *
  rw [a.at n]
  exact hj

theorem rollD (W : Drw T) (n : Nat) {most : Int} (h : DD S i s K) (hK : K < 2 ^ 36) (h1 : 1 ≤ most) (h2 : most < 2 ^ 40) : ∃ (r : Int) (S' : Sto), run T (n + 1) "_law_roll" [.ref i, .int most] S = some (.int r, S') ∧ 0 ≤ r ∧ r < most ∧ To i S S' ∧ DD S' i s (K + 1) := by
  obtain ⟨g, k, d, a, b⟩ := h
  obtain ⟨r, g', k', e, r0, r1, q1, q2⟩ := roll W n i g s k most S d h1 (by omega) a (by omega)
  exact ⟨r, _, e, r0, r1, ⟨_, rfl⟩, dd_set d (by omega) (by omega)⟩
theorem pickD (W : Drw T) (n : Nat) {x : D} {ds : List D} (h : DD S i s K) (hK : K < 2 ^ 36) (hx : ∀ S', To i S S' → itemsOf S' x = some ds) (hn : ds ≠ []) (hl : ds.length < 2 ^ 40) (hc : clL S.length ds = true) :
    ∃ (d : D) (S' : Sto), run T (n + 2) "_law_pick" [.ref i, x] S = some (d, S') ∧ d ∈ ds ∧ To i S S' ∧ DD S' i s (K + 1) := by
  have h0 := h
  obtain ⟨g, k, d, a, b⟩ := h
  obtain ⟨y, g', k', m, e, q1, q2⟩ := pick W n i g s k x ds S d a (by omega) (fun o => hx _ ⟨o, rfl⟩) (hx _ h0.self) hn hl hc
  exact ⟨y, _, e, m, ⟨_, rfl⟩, dd_set d (by omega) (by omega)⟩
theorem anyD (W : LoA T) (n m : Nat) (h : DD S i s K) (hK : K < 2 ^ 35) (hm : m ≤ 24) : ∃ (ns : List Int) (S' : Sto), run T (n + 2) "_law_lo_any" [.ref i, .int (m : Int)] S = some (lotD ns, S') ∧ (Lot ns ∧ ∀ j, j ∈ ns → j < (m : Int)) ∧ To i S S' ∧ DD S' i s (K + 25) := by
  obtain ⟨g, k, d, a, b⟩ := h
  obtain ⟨ns, g', k', e, p1, p2, q1, q2⟩ := lo_any W n i g s k m S d a (by omega) hm
  exact ⟨ns, _, e, ⟨⟨p1, fun j hj => ⟨(p2 j hj).1, by have := (p2 j hj).2; omega⟩⟩, fun j hj => (p2 j hj).2⟩, ⟨_, rfl⟩, dd_set d (by omega) (by omega)⟩
theorem mixedD (W : Drw T) (n p : Nat) (ls : List (List Int)) (h : DD S i s K) (hK : K < 2 ^ 36) (hp : itemsOf S (.ref p) = some (ls.map lotD)) (hl : ls.length ≤ 1000) :
    ∃ (r : List (List Int)) (S' : Sto), run T (n + 2) "_law_mixed" [.ref i, .ref p] S = some (.ref S.length, S' ++ [.lst (r.map lotD)]) ∧ r.Perm ls ∧ To i S S' ∧ DD S' i s (K + ls.length) := by
  obtain ⟨g, k, d, a, b⟩ := h
  obtain ⟨r, g', k', e, pr, q1, q2⟩ := mixed W n i p g s k ls S d hp a (by omega) hl
  exact ⟨r, _, e, pr, ⟨_, rfl⟩, dd_set d (by omega) (by omega)⟩
theorem diceD (W : Drw T) (n p : Nat) (ns : List Int) (spot : Nat) (S : Sto) (h : itemsOf S (.ref p) = some (ns.map .int)) (hs : spot ≤ 100) : ∃ (s : Int) (S' : Sto), run T (n + 1) "_law_dice" [.ref p, .int (spot : Int)] S = some (.ref S.length, S') ∧ (∃ o, S' = S ++ [o]) ∧ DD S' S.length s 0 := by
  obtain ⟨g, s, e⟩ := dice W n p ns spot S h hs
  exact ⟨s, _, e, ⟨_, rfl⟩, g, 0, by unfold Dice; exact at_new, by omega, by omega⟩

/-! ### values that refer to nothing -/
section
variable {φ : Phi} {env : Ev} {a b e : Ex} {es : Es} {v x y z : D} {vs : List D} {xs ys : List D}
/-- the expression's value refers to nothing; the store behind it is as long -/
structure Vd (φ : Phi) (env : Ev) (e : Ex) (S : Sto) (v : D) (S' : Sto) : Prop where
  ev : ∀ base, evE φ base env e S = some (v, S')
  cl : v.cl 0 = true
  len : S'.length = S.length
/-- the expression's value is a new list of such -/
structure Vl (φ : Phi) (env : Ev) (e : Ex) (S : Sto) (xs : List D) (S' : Sto) : Prop where
  ev : ∀ base, evE φ base env e S = some (.ref S'.length, S' ++ [.lst xs])
  cl : clL 0 xs = true
  len : S'.length = S.length
theorem up0 {n : Nat} {d : D} (h : d.cl 0 = true) : d.cl n = true := D.cl_mono (Nat.zero_le _) _ h
theorem upL {n : Nat} {ds : List D} (h : clL 0 ds = true) : clL n ds = true := clL_mono (Nat.zero_le _) _ h
theorem gc_len {d : D} (h : d.cl 0 = true) (hl : S1.length = S.length) : gc S.length (some (d, S1)) = some (d, S1) := by
  rw [← hl]
  exact gc_self (up0 h)
theorem gc_lenA {d : D} {t : Sto} (h : d.cl 0 = true) (hl : S1.length = S.length) : gc S.length (some (d, S1 ++ t)) = some (d, S1) := by
  rw [← hl]
  exact gc_app (up0 h)
theorem gc_lenN {t : Sto} (h : clL 0 xs = true) (hl : S1.length = S.length) : gc S.length (some (.ref (S1 ++ t).length, S1 ++ t ++ [.lst xs])) = some (.ref S1.length, S1 ++ [.lst xs]) := by
  rw [← hl, List.length_append, List.append_assoc]
  exact gc_new (t := t) (k := t.length) rfl (upL h)
theorem vd_of {v : D} {S' : Sto} (h : ∀ base, evE φ base env e S = some (v, S')) (c : v.cl 0 = true) (l : S'.length = S.length) : Vd φ env e S v S' := ⟨h, c, l⟩
theorem vd_var {j : Nat} (h : getV env j = some v) (c : v.cl 0 = true) : Vd φ env (.var j) S v S := ⟨fun base => by rw [e_var, h]; rfl, c, rfl⟩
theorem vd_int {k : Int} : Vd φ env (.int k) S (.int k) S := ⟨fun _ => e_int, rfl, rfl⟩
theorem vd_bin {op : Operator} (h1 : Vd φ env a S x S1) (h2 : Vd φ env b S1 y S2) (hb : binF op x y S2 = some (z, S2)) (c : z.cl 0 = true) : Vd φ env (.bin op a b) S z S2 :=
  ⟨fun base => by rw [e_bin (h1.ev _) (h2.ev _), hb]; exact gc_len c (h2.len.trans h1.len), c, h2.len.trans h1.len⟩
theorem vd_cmp {op : CmpOp} {k : Bool} (h1 : Vd φ env a S x S1) (h2 : Vd φ env b S1 y S2) (hb : cmpF op x y S2 = some k) : Vd φ env (.cmp op a b) S (.bl k) S2 :=
  ⟨fun base => by rw [e_cmp (h1.ev _) (h2.ev _), hb]; exact gc_len rfl (h2.len.trans h1.len), rfl, h2.len.trans h1.len⟩
/-- a call whose arguments leave the store as it is -/
theorem vd_call {f : Str} (h : evS φ S.length env es S = some (vs, S)) (hc : φ f vs S = some (v, S1)) (c : v.cl 0 = true) (l : S1.length = S.length) : Vd φ env (.call f es) S v S1 :=
  ⟨fun base => by rw [e_call h, hc]; exact gc_len c l, c, l⟩
/-- a call whose arguments lay temporaries and move the store -/
theorem vd_callT {f : Str} {t : Sto} (h : evS φ S.length env es S = some (vs, S1)) (hc : φ f vs S1 = some (v, S2 ++ t)) (c : v.cl 0 = true) (l : S2.length = S.length) : Vd φ env (.call f es) S v S2 :=
  ⟨fun base => by rw [e_call h, hc]; exact gc_lenA c l, c, l⟩
/-- a call that lays a new list -/
theorem vl_call {f : Str} {t : Sto} (h : evS φ S.length env es S = some (vs, S1)) (hc : φ f vs S1 = some (.ref (S2 ++ t).length, S2 ++ t ++ [.lst xs])) (c : clL 0 xs = true) (l : S2.length = S.length) : Vl φ env (.call f es) S xs S2 :=
  ⟨fun base => by rw [e_call h, hc]; exact gc_lenN c l, c, l⟩
theorem vl_call0 {f : Str} (h : evS φ S.length env es S = some (vs, S1)) (hc : φ f vs S1 = some (.ref S2.length, S2 ++ [.lst xs])) (c : clL 0 xs = true) (l : S2.length = S.length) : Vl φ env (.call f es) S xs S2 := by
  refine vl_call (t := []) h ?_ c l
  rw [List.append_nil]
  exact hc
theorem as_nil : evS φ S.length env .nil S = some ([], S) := by rw [evS]
theorem as1 {base : Nat} (h : evE φ base env e S = some (v, S1)) : evS φ base env (.cons e .nil) S = some ([v], S1) := by rw [evS, h]; simp only [evS]
theorem as2 {base : Nat} (h : evE φ base env a S = some (x, S1)) (h2 : evE φ base env b S1 = some (y, S2)) : evS φ base env (.cons a (.cons b .nil)) S = some ([x, y], S2) := by rw [evS, h]; simp only [evS, h2]
theorem as3 {base : Nat} {c : Ex} (h : evE φ base env a S = some (x, S1)) (h2 : evE φ base env b S1 = some (y, S2)) (h3 : evE φ base env c S2 = some (z, S3)) : evS φ base env (.cons a (.cons b (.cons c .nil))) S = some ([x, y, z], S3) := by rw [evS, h]; simp only [evS, h2, h3]
theorem ev_var {base j : Nat} (h : getV env j = some v) : evE φ base env (.var j) S = some (v, S) := by rw [e_var, h]; rfl
theorem vd_tuple (h : Vl φ env e S xs S1) : Vd φ env (.blt .tuple (.cons e .nil)) S (.tup xs) S1 := by
  refine ⟨fun base => ?_, h.cl, h.len⟩
  rw [e_blt (as1 (h.ev _))]
  show gc S.length ((itemsOf (S1 ++ [.lst xs]) (.ref S1.length)).map fun ws => (.tup ws, S1 ++ [.lst xs])) = _
  rw [items_new]
  exact gc_lenA h.cl h.len
theorem vd_lenL (h : Vl φ env e S xs S1) : Vd φ env (.blt .len (.cons e .nil)) S (.int xs.length) S1 := by
  refine ⟨fun base => ?_, rfl, h.len⟩
  rw [e_blt (as1 (h.ev _))]
  show gc S.length ((itemsOf (S1 ++ [.lst xs]) (.ref S1.length)).map fun ws => (.int ws.length, S1 ++ [.lst xs])) = _
  rw [items_new]
  exact gc_lenA rfl h.len
theorem vd_lenT (h : Vd φ env e S (.tup xs) S1) : Vd φ env (.blt .len (.cons e .nil)) S (.int xs.length) S1 := by
  refine ⟨fun base => ?_, rfl, h.len⟩
  rw [e_blt (as1 (h.ev _))]
  exact gc_len rfl h.len
theorem lc_vl {own : List Nat} {g : Tg} {it : Z.It} {c : Ox} {h : Option Nat} (hg : tgIn own g = true) (h1 : evI φ S.length env it S = some (xs, h, S1)) (l1 : S1.length = S.length)
    (h2 : lcF (lcS φ S.length env own g c e) (fun S2 => Z.still S2 h xs) xs [] S1 = some (ys, S2)) (cl : clL 0 ys = true) (l2 : S2.length = S1.length) : Vl φ env (.lc own g it c e) S ys S2 := by
  refine ⟨fun base => ?_, cl, l2.trans l1⟩
  rw [e_lc hg h1 h2]
  have := gc_lenN (S := S) (S1 := S2) (t := []) (xs := ys) cl (l2.trans l1)
  rw [List.append_nil] at this
  exact this
/-- two new lists compared -/
theorem vd_cmpL {op : CmpOp} {k : Bool} (h1 : Vl φ env a S xs S1) (h2 : ∀ base, evE φ base env b (S1 ++ [.lst xs]) = some (.ref (S1.length + 1), S1 ++ [.lst xs, .lst ys])) (hb : cmpF op (.ref S1.length) (.ref (S1.length + 1)) (S1 ++ [.lst xs, .lst ys]) = some k) : Vd φ env (.cmp op a b) S (.bl k) S1 :=
  ⟨fun base => by rw [e_cmp (h1.ev _) (h2 _), hb]; exact gc_lenA rfl h1.len, rfl, h1.len⟩
theorem ev_nilL {base : Nat} : evE φ base env (.lst .nil) S = some (.ref S.length, S ++ [.lst []]) := by
  have : evE φ base env (.lst .nil) S = gc S.length (new S (.lst [])) := by
    rw [evE]
    simp [evS]
  rw [this]
  exact gc_new0 rfl
theorem eqD_ref (op : CmpOp) {xs ys : List (List Int)} (h1 : (S[i]?).bind SO.seq? = some (xs.map lotD)) {j : Nat} (h2 : (S[j]?).bind SO.seq? = some (ys.map lotD)) : cmpF .Eq (.ref i) (.ref j) S = some (decide (xs = ys)) ∧ cmpF .NotEq (.ref i) (.ref j) S = some (!decide (xs = ys)) := by
  refine ⟨eqD_lotsL h1 h2, ?_⟩
  show (eqD S (.ref i) (.ref j)).map (!·) = _
  rw [eqD_lotsL h1 h2]
  rfl
/-- a new list of lots against [] -/
theorem vd_isnil {ls : List (List Int)} (h1 : Vl φ env a S (ls.map lotD) S1) : Vd φ env (.cmp .Eq a (.lst .nil)) S (.bl (decide (ls = []))) S1 ∧ Vd φ env (.cmp .NotEq a (.lst .nil)) S (.bl (!decide (ls = []))) S1 := by
  have hb : ∀ base, evE φ base env (.lst .nil) (S1 ++ [.lst (ls.map lotD)]) = some (.ref (S1.length + 1), S1 ++ [.lst (ls.map lotD), .lst []]) := fun base => by
    rw [ev_nilL, List.length_append, List.append_assoc]
    rfl
  have q1 : ((S1 ++ [SO.lst (ls.map lotD), .lst []])[S1.length]?).bind SO.seq? = some (ls.map lotD) := by simp [SO.seq?]
  have q2 : ((S1 ++ [SO.lst (ls.map lotD), .lst []])[S1.length + 1]?).bind SO.seq? = some (([] : List (List Int)).map lotD) := by
    rw [List.getElem?_append_right (by omega), show S1.length + 1 - S1.length = 1 by omega]
    rfl
  obtain ⟨c1, c2⟩ := eqD_ref (S := S1 ++ [SO.lst (ls.map lotD), .lst []]) .Eq q1 q2
  exact ⟨vd_cmpL h1 hb c1, vd_cmpL h1 hb c2⟩
theorem vt {k : Bool} {base : Nat} (h : Vd φ env e S (.bl k) S1) : evT φ base env e S = some (k, S1) := by
  unfold evT
  rw [h.ev]
  rfl
theorem vd_not {k : Bool} (h : Vd φ env e S (.bl k) S1) : Vd φ env (.not e) S (.bl (!k)) S1 := ⟨fun base => by rw [evE, h.ev]; rfl, rfl, h.len⟩
/-- an «or» of tests that fail -/
theorem vd_or0 {k : Bool} (h1 : Vd φ env a S (.bl false) S1) (h2 : Vd φ env b S1 (.bl k) S2) : Vd φ env (.or a b) S (.bl k) S2 := ⟨fun base => by rw [evE, h1.ev]; simp only [truF]; exact h2.ev base, rfl, h2.len.trans h1.len⟩
theorem vd_and1 {k : Bool} (h1 : Vd φ env a S (.bl true) S1) (h2 : Vd φ env b S1 (.bl k) S2) : Vd φ env (.and a b) S (.bl k) S2 := ⟨fun base => by rw [evE, h1.ev]; simp only [truF]; exact h2.ev base, rfl, h2.len.trans h1.len⟩
theorem cmp_lots (op : CmpOp) {xs ys : List (List Int)} : cmpF .Eq (lotsD xs) (lotsD ys) S = some (decide (xs = ys)) ∧ cmpF .NotEq (lotsD xs) (lotsD ys) S = some (!decide (xs = ys)) := by
  refine ⟨eqD_lots (S := S), ?_⟩
  show (eqD S (lotsD xs) (lotsD ys)).map (!·) = _
  rw [eqD_lots]
  rfl
theorem cmp_ints {p q : Int} : cmpF .Eq (.int p) (.int q) S = some (decide (p = q)) ∧ cmpF .NotEq (.int p) (.int q) S = some (!decide (p = q)) := by
  refine ⟨eqD_int (S := S), ?_⟩
  show (eqD S (.int p) (.int q)).map (!·) = _
  rw [eqD_int]
  rfl
end
/-- turns that each draw a lot -/
theorem draw_lc {α : Type} {step : D → Sto → Option (Option D × Sto)} {ok : Sto → Bool} (hok : ∀ S, ok S = true) (f : α → D) (P : α → List Int → Prop) (L : Nat) (c : Int) (hc : 0 ≤ c) (M : Int) :
    ∀ (js : List α) (acc : List (List Int)) (S : Sto) (K : Int), (∀ x, x ∈ js → ∀ S K, S.length = L → DD S i s K → K < M → ∃ l S', step (f x) S = some (some (lotD l), S') ∧ P x l ∧ To i S S' ∧ DD S' i s (K + c)) → S.length = L → DD S i s K → K + c * js.length < M → acc.length + js.length ≤ 1000 →
    ∃ (ls : List (List Int)) (S' : Sto), lcF step ok (js.map f) (acc.map lotD) S = some ((acc ++ ls).map lotD, S') ∧ To i S S' ∧ DD S' i s (K + c * js.length) ∧ ls.length = js.length ∧ ∀ p, p ∈ js.zip ls → P p.1 p.2
  | [], acc, S, K, hs, hL, h, hK, hl => by
    refine ⟨[], S, ?_, h.self, by simpa using h, rfl, fun p hp => by cases hp⟩
    rw [List.map_nil, lc_nil (hok S), List.append_nil]
  | j :: js, acc, S, K, hs, hL, h, hK, hl => by
    rw [List.length_cons] at hK hl
    have hcl : (0 : Int) ≤ c * (js.length : Int) := Int.mul_nonneg hc (by omega)
    have hmul : c * ((js.length + 1 : Nat) : Int) = c + c * (js.length : Int) := by
      rw [Int.natCast_add, Int.mul_add, Int.add_comm]
      simp
    rw [hmul] at hK
    obtain ⟨l, S1, e, p, t, d⟩ := hs j List.mem_cons_self S K hL h (by omega)
    obtain ⟨ls, S2, e2, t2, d2, n2, q2⟩ := draw_lc hok f P L c hc M js (acc ++ [l]) S1 (K + c) (fun x hx => hs x (List.mem_cons_of_mem _ hx)) (t.len.trans hL) d (by omega) (by rw [List.length_append, List.length_singleton]; omega)
    refine ⟨l :: ls, S2, ?_, t.trans t2, ?_, by rw [List.length_cons, List.length_cons, n2], fun p' hp' => ?_⟩
    · rw [List.map_cons, lc_put (hok S) (by rw [List.length_map]; show _ < 100000; omega) e]
      have : acc.map lotD ++ [lotD l] = (acc ++ [l]).map lotD := by simp
      rw [this, e2, List.append_assoc]
      rfl
    · rw [List.length_cons, hmul, ← Int.add_assoc]
      exact d2
    · rw [List.zip_cons_cons] at hp'
      rcases List.mem_cons.mp hp' with rfl | hp'
      · exact p
      · exact q2 p' hp'
theorem To.unapp {t : Sto} (a : To i (S ++ t) S1) (hi : i < S.length) : ∃ S2, S1 = S2 ++ t ∧ To i S S2 := by
  obtain ⟨o, rfl⟩ := a
  exact ⟨_, List.set_append_left _ _ hi, o, rfl⟩
theorem DD.unapp {t : Sto} (h : DD (S ++ t) i s K) (hi : i < S.length) : DD S i s K := by
  obtain ⟨g, k, d, q⟩ := h
  exact ⟨g, k, by unfold Dice at *; rw [List.getElem?_append_left hi] at d; exact d, q⟩
theorem ev_rng1 {φ : Phi} {base : Nat} {env : Ev} {a : Ex} {j : Int} (h : Vd φ env a S (.int j) S1) (hj : rgOk j = true) : evI φ base env (.rng1 a) S = some (rgI 0 j.toNat, none, S1) := by
  rw [evI, h.ev]
  simp only
  rw [if_pos hj]
theorem rg_small {j : Int} (h0 : 0 ≤ j) (h1 : j < 1000000) : rgOk j = true := by
  unfold rgOk
  rw [decide_eq_true (by omega), decide_eq_true (by omega)]
  rfl
theorem rgI_len : ∀ (n : Nat) (lo : Int), (rgI lo n).length = n
  | 0, _ => rfl
  | n + 1, lo => by
    show (rgI (lo + 1) n).length + 1 = _
    rw [rgI_len n]
/-- a loop's turns by an invariant -/
theorem for_inv {step : D → Ev → Sto → Rs} {ok : Sto → Bool} (hok : ∀ S, ok S = true) (I : Nat → Ev → Sto → Prop) (N : Nat) (hs : ∀ d k env S, k < N → I k env S → ∃ env' S', step d env S = some (.nx, env', S') ∧ I (k + 1) env' S') : ∀ (ds : List D) (k : Nat) (env : Ev) (S : Sto), k + ds.length ≤ N → I k env S →
    ∃ env' S', forF step ok ds env S = some (.nx, env', S') ∧ I (k + ds.length) env' S'
  | [], k, env, S, _, h => ⟨env, S, for_nil (hok S), h⟩
  | d :: ds, k, env, S, hk, h => by
    rw [List.length_cons] at hk
    obtain ⟨env1, S1, e1, h1⟩ := hs d k env S (by omega) h
    obtain ⟨env2, S2, e2, h2⟩ := for_inv hok I N hs ds (k + 1) env1 S1 (by omega) h1
    exact ⟨env2, S2, by rw [for_nx (hok S) e1, e2], by rw [List.length_cons, Nat.add_comm ds.length, ← Nat.add_assoc]; exact h2⟩
/-! ### a comprehension's turn -/
theorem turn_no {φ : Phi} {base j : Nat} {env E : Ev} {own : List Nat} {e : Ex} {d y : D} (hE : (wipeE env own).set j (some d) = E) (he : evE φ base E e S = some (y, S1)) : lcS φ base env own (.nm j) .no e d S = some (some y, S1) := by
  unfold lcS
  simp only [tgF, hE, evO, he]
theorem turn_yes {φ : Phi} {base j : Nat} {env E : Ev} {own : List Nat} {c e : Ex} {d y : D} {k : Bool} (hE : (wipeE env own).set j (some d) = E) (hc : evE φ base E c S = some (.bl k, S1)) (he : evE φ base E e S1 = some (y, S1)) : lcS φ base env own (.nm j) (.yes c) e d S = some (if k = true then some y else none, S1) := by
  unfold lcS
  simp only [tgF, hE, evO, hc, truF]
  cases k
  · rfl
  · simp only [he, if_true]
theorem filt_none (F : List Nat) : F.filter (fun _ => false) = [] := by
  induction F with
  | nil => rfl
  | cons f r ih => rw [List.filter_cons]; simpa using ih
theorem lts_none (F : List Nat) : lts ((F.filter (fun _ => false)).map fun f => f) = [] := by rw [filt_none]; rfl
end G
end
section
set_option Elab.async false
set_option linter.all false
set_option autoImplicit false
set_option maxHeartbeats 4000000
/-! drawn tuples of lots, some summed of others -/
namespace G
open PySem L2 Z M
variable {T : Txt}
def klots_1 : Ss := (.cons (.ifs (.cmp .NotEq (.var 2) (.lst .nil)) (.cons (.expr (.met .append (.var 2) (.cons (.call "_law_lo_sum" (.cons (.call "_law_pick" (.cons (.var 0) (.cons (.var 2) .nil))) (.cons (.call "_law_pick" (.cons (.var 0) (.cons (.var 2) .nil))) .nil))) .nil))) .nil) .nil) .nil)
def klots_2 : Ex := (.call "_law_lo_any" (.cons (.var 0) (.cons (.var 1) .nil)))
def klots : Ss := (.cons (.set 2 (.lc [3] (.nm 3) (.rng1 (.call "_law_roll" (.cons (.var 0) (.cons (.int 7) .nil)))) .no klots_2)) (.cons (.for (.nm 3) (.rng1 (.call "_law_roll" (.cons (.var 0) (.cons (.int 3) .nil)))) klots_1) (.cons (.ret (.blt .tuple (.cons (.call "_law_mixed" (.cons (.var 0) (.cons (.var 2) .nil))) .nil))) .nil)))
structure LoT (T : Txt) : Prop extends LoA T, LoB T where
  law_lots : Is T "_law_lots" ⟨2, 4, klots⟩
/-- a lot of lines below m -/
def Bel (m : Nat) (l : List Int) : Prop := Lot l ∧ ∀ j, j ∈ l → j < (m : Int)
theorem Bel.low {m : Nat} {l : List Int} (h : Bel m l) : maskN l < 2 ^ m := mask_below h.1 h.2
theorem bel_of {m a : Nat} (h : a < 2 ^ m) (hm : m ≤ 24) : Bel m (lotI a) := ⟨Lot.of a, fun j hj => by
  obtain ⟨h0, _, hb⟩ := (lotI_mem a j).mp hj
  have : j.toNat < m := Nat.lt_of_not_le fun c => by
    rw [Nat.testBit_lt_two_pow (Nat.lt_of_lt_of_le h (Nat.pow_le_pow_right (by decide) c))] at hb
    cases hb
  omega⟩
theorem bel_xor {m : Nat} {a b : List Int} (ha : Bel m a) (hb : Bel m b) (hm : m ≤ 24) : Bel m (lotI (maskN a ^^^ maskN b)) := bel_of (Nat.xor_lt_two_pow ha.low hb.low) hm
/-- a drawn one of the lots at j -/
theorem ev_pick (W : Drw T) (n base j : Nat) (env : Ev) {i : Nat} {s K : Int} {S : Sto} {ls : List (List Int)} (h : DD S i s K) (hK : K < 2 ^ 36) (hv : getV env 0 = some (.ref i)) (hv2 : getV env 2 = some (.ref j)) (hj : LstAt S j (ls.map lotD)) (hn : ls ≠ []) (hl : ls.length ≤ 1000) (hij : j ≠ i) :
    ∃ (l : List Int) (S' : Sto), evE (run T (n + 2)) base env (.call "_law_pick" (.cons (.var 0) (.cons (.var 2) .nil))) S = some (lotD l, S') ∧ l ∈ ls ∧ To i S S' ∧ DD S' i s (K + 1) := by
  obtain ⟨d, S', e, m, t, h'⟩ := pickD W n (x := .ref j) (ds := ls.map lotD) h hK (fun S2 t2 => by
    have := t2.lst h hj hij
    show (S2[j]?).bind SO.seq? = _
    rw [this]
    rfl) (fun z => hn (List.map_eq_nil_iff.mp z)) (by rw [List.length_map]; omega) (upL (cl_lots _))
  obtain ⟨l, hl2, rfl⟩ := List.mem_map.mp m
  exact ⟨l, S', (vd_call (as2 (ev_var hv) (ev_var hv2)) e (show D.cl 0 (lotD l) = true from cl_ints l) t.len).ev base, hl2, t, h'⟩
theorem lots_turn (W : LoT T) (n m : Nat) (hm : m ≤ 24) {i L : Nat} {s K : Int} {S0 : Sto} (hL : S0.length = L) (x3 : Option D) (ls : List (List Int)) (d : D) (h : DD S0 i s K) (hK : K < 2 ^ 35) (hb : ∀ l, l ∈ ls → Bel m l) (hl : ls.length ≤ 900) :
    ∃ (S1 : Sto) (ns : List (List Int)), frS (run T (n + 2)) L (.nm 3) klots_1 d [some (.ref i), some (.int (m : Int)), some (.ref L), x3] (S0 ++ [.lst (ls.map lotD)]) = some (.nx, [some (.ref i), some (.int (m : Int)), some (.ref L), some d], S1 ++ [.lst (ns.map lotD)]) ∧ To i S0 S1 ∧ DD S1 i s (K + 2) ∧ (∀ l, l ∈ ns → Bel m l) ∧ ns.length ≤ ls.length + 1 := by
  have hi := h.lt
  have hLi : L ≠ i := by omega
  obtain ⟨E, hE⟩ : ∃ E : Ev, E = [some (.ref i), some (.int (m : Int)), some (.ref L), some d] := ⟨_, rfl⟩
  have g0 : getV E 0 = some (.ref i) := by rw [hE]; rfl
  have g2 : getV E 2 = some (.ref L) := by rw [hE]; rfl
  have hfr : frS (run T (n + 2)) L (.nm 3) klots_1 d [some (.ref i), some (.int (m : Int)), some (.ref L), x3] (S0 ++ [.lst (ls.map lotD)]) = exs (run T (n + 2)) L klots_1 E (S0 ++ [.lst (ls.map lotD)]) := by rw [hE]; rfl
  rw [hfr, ← hE]
  have hat : LstAt (S0 ++ [SO.lst (ls.map lotD)]) L (ls.map lotD) := by subst hL; exact LstAt.new
  have test : ∀ base, evE (run T (n + 2)) base E (.cmp .NotEq (.var 2) (.lst .nil)) (S0 ++ [.lst (ls.map lotD)]) = some (.bl (!decide (ls = [])), S0 ++ [.lst (ls.map lotD)]) := fun base => by
    rw [e_cmp (ev_var g2) ev_nilL]
    have q1 : ((S0 ++ [SO.lst (ls.map lotD)] ++ [SO.lst []])[L]?).bind SO.seq? = some (ls.map lotD) := by
      have := hat.app (t := [SO.lst []])
      unfold LstAt at this
      rw [this]
      rfl
    have q2 : ((S0 ++ [SO.lst (ls.map lotD)] ++ [SO.lst []])[(S0 ++ [SO.lst (ls.map lotD)]).length]?).bind SO.seq? = some (([] : List (List Int)).map lotD) := by
      rw [at_new]
      rfl
    rw [(eqD_ref .NotEq q1 q2).2]
    exact gc_blA
  by_cases hn : ls = []
  · refine ⟨S0, ls, ?_, h.self, h.mono (by omega), hb, by omega⟩
    unfold klots_1
    have hif : ex1 (run T (n + 2)) L (.ifs (.cmp .NotEq (.var 2) (.lst .nil)) (.cons (.expr (.met .append (.var 2) (.cons (.call "_law_lo_sum" (.cons (.call "_law_pick" (.cons (.var 0) (.cons (.var 2) .nil))) (.cons (.call "_law_pick" (.cons (.var 0) (.cons (.var 2) .nil))) .nil))) .nil))) .nil) .nil) E (S0 ++ [.lst (ls.map lotD)]) = some (.nx, E, S0 ++ [SO.lst (ls.map lotD)]) := by
      rw [x_if (k := false) (S1 := S0 ++ [.lst (ls.map lotD)]) (by unfold evT; rw [test]; simp [truF, hn]), if_neg (by decide), xs_nil]
    rw [xs_nx hif, xs_nil]
  · obtain ⟨l1, S1, e1, m1, t1, h1⟩ := ev_pick W.toDrw n (S0 ++ [SO.lst (ls.map lotD)]).length L E h.app (by omega) g0 g2 hat hn (by omega) hLi
    obtain ⟨S1', rfl, t1'⟩ := t1.unapp hi
    have hL1 : S1'.length = L := t1'.len.trans hL
    have hat1 : LstAt (S1' ++ [SO.lst (ls.map lotD)]) L (ls.map lotD) := by rw [← hL1]; exact LstAt.new
    obtain ⟨l2, S2, e2, m2, t2, h2⟩ := ev_pick W.toDrw n (S0 ++ [SO.lst (ls.map lotD)]).length L E h1 (by omega) g0 g2 hat1 hn (by omega) hLi
    obtain ⟨S2', rfl, t2'⟩ := t2.unapp (by omega)
    have hL2 : S2'.length = L := t2'.len.trans hL1
    obtain ⟨y, hy⟩ : ∃ y, y = lotI (maskN l1 ^^^ maskN l2) := ⟨_, rfl⟩
    have hby : Bel m y := by rw [hy]; exact bel_xor (hb _ m1) (hb _ m2) hm
    have es : run T (n + 2) "_law_lo_sum" [lotD l1, lotD l2] (S2' ++ [.lst (ls.map lotD)]) = some (lotD y, S2' ++ [.lst (ls.map lotD)]) := by
      have := lo_sum W.toLoB (n + 1) (maskN l1) (maskN l2) (S2' ++ [.lst (ls.map lotD)]) (lot_low (hb _ m1).1) (lot_low (hb _ m2).1)
      rw [lot_mask (hb _ m1).1, lot_mask (hb _ m2).1, ← hy] at this
      exact this
    have ea : evE (run T (n + 2)) L E (.call "_law_lo_sum" (.cons (.call "_law_pick" (.cons (.var 0) (.cons (.var 2) .nil))) (.cons (.call "_law_pick" (.cons (.var 0) (.cons (.var 2) .nil))) .nil))) (S0 ++ [.lst (ls.map lotD)]) = some (lotD y, S2' ++ [.lst (ls.map lotD)]) := by
      rw [e_call (as2 e1 e2), es]
      exact gc_len (show D.cl 0 (lotD y) = true from cl_ints y) (by rw [List.length_append, List.length_append, hL2, hL])
    have hat2 : LstAt (S2' ++ [SO.lst (ls.map lotD)]) L (ls.map lotD) := by rw [← hL2]; exact LstAt.new
    have em : metF L .append (.ref L) [lotD y] (S2' ++ [SO.lst (ls.map lotD)]) = some (.non, S2' ++ [SO.lst ((ls ++ [y]).map lotD)]) := by
      show (match (S2' ++ [SO.lst (ls.map lotD)])[L]? with
        | some (.lst xs) => if (wr L L (lotD y) && decide (xs.length < lim)) = true then some (D.non, (S2' ++ [SO.lst (ls.map lotD)]).set L (.lst (xs ++ [lotD y]))) else none
        | _ => none) = _
      have hat2' : (S2' ++ [SO.lst (ls.map lotD)])[L]? = some (.lst (ls.map lotD)) := hat2
      have hw : (wr L L (lotD y) && decide ((ls.map lotD).length < lim)) = true := by
        have hlt : (ls.map lotD).length < lim := by rw [List.length_map]; show _ < 100000; omega
        unfold wr
        rw [decide_eq_true (Nat.le_refl L), decide_eq_true hlt]
        rfl
      rw [hat2']
      simp only
      rw [if_pos hw, ← hL2]
      simp
    have ex : ex1 (run T (n + 2)) L (.expr (.met .append (.var 2) (.cons (.call "_law_lo_sum" (.cons (.call "_law_pick" (.cons (.var 0) (.cons (.var 2) .nil))) (.cons (.call "_law_pick" (.cons (.var 0) (.cons (.var 2) .nil))) .nil))) .nil))) E (S0 ++ [.lst (ls.map lotD)]) = some (.nx, E, S2' ++ [SO.lst ((ls ++ [y]).map lotD)]) := by
      refine x_expr (x := .non) ?_
      rw [evE, ev_var g2]
      have hp : metP .append (.ref L) (S0 ++ [SO.lst (ls.map lotD)]) = true := by
        show (match (S0 ++ [SO.lst (ls.map lotD)])[L]? with
          | some (.lst _) => true
          | _ => false) = true
        have hat' : (S0 ++ [SO.lst (ls.map lotD)])[L]? = some (.lst (ls.map lotD)) := hat
        rw [hat']
      simp only [hp, if_true, as1 ea]
      exact em
    refine ⟨S2', ls ++ [y], ?_, t1'.trans t2', (h2.unapp (by omega)).mono (by omega), fun l hl2 => ?_, by simp⟩
    · unfold klots_1
      have hif : ex1 (run T (n + 2)) L (.ifs (.cmp .NotEq (.var 2) (.lst .nil)) (.cons (.expr (.met .append (.var 2) (.cons (.call "_law_lo_sum" (.cons (.call "_law_pick" (.cons (.var 0) (.cons (.var 2) .nil))) (.cons (.call "_law_pick" (.cons (.var 0) (.cons (.var 2) .nil))) .nil))) .nil))) .nil) .nil) E (S0 ++ [.lst (ls.map lotD)]) = some (.nx, E, S2' ++ [SO.lst ((ls ++ [y]).map lotD)]) := by
        rw [x_if (k := true) (S1 := S0 ++ [.lst (ls.map lotD)]) (by unfold evT; rw [test]; simp [truF, hn]), if_pos rfl, xs_nx ex, xs_nil]
      rw [xs_nx hif, xs_nil]
    · rcases List.mem_append.mp hl2 with q | q
      · exact hb l q
      · rw [List.mem_singleton.mp q]
        exact hby
theorem law_lots (W : LoT T) (n m : Nat) {i : Nat} {s K : Int} {S : Sto} (h : DD S i s K) (hK : K < 2 ^ 30) (hm : m ≤ 24) :
    ∃ (ls : List (List Int)) (S' : Sto), run T (n + 3) "_law_lots" [.ref i, .int (m : Int)] S = some (lotsD ls, S') ∧ (∀ l, l ∈ ls → Bel m l) ∧ ls.length ≤ 8 ∧ To i S S' ∧ DD S' i s (K + 400) := by
  rw [W.law_lots]
  have hi := h.lt
  obtain ⟨E, hE⟩ : ∃ E : Ev, E = [some (.ref i), some (.int (m : Int)), none, none] := ⟨_, rfl⟩
  -- how many
  obtain ⟨r, S1, e1, r0, r1, t1, h1⟩ := rollD W.toDrw (n + 1) (most := 7) h (by omega) (by decide) (by decide)
  have v1 : Vd (run T (n + 2)) E (.call "_law_roll" (.cons (.var 0) (.cons (.int 7) .nil))) S (.int r) S1 := vd_call (as2 (ev_var (by rw [hE]; rfl)) e_int) e1 rfl t1.len
  have it1 := ev_rng1 (base := S.length) v1 (rg_small r0 (by omega))
  obtain ⟨ls, S2, e2, t2, h2, n2, p2⟩ := draw_lc (i := i) (s := s) (step := lcS (run T (n + 2)) S.length E [3] (.nm 3) .no klots_2) (ok := fun S2 => Z.still S2 none (rgI 0 r.toNat)) (fun _ => rfl) (fun d : D => d) (fun _ l => Bel m l) S.length 25 (by decide) (2 ^ 35) (rgI 0 r.toNat) [] S1 (K + 1) (fun d _ S K hL h hK => by
      obtain ⟨ns, S', e, q, t, h'⟩ := anyD W.toLoA n m h hK hm
      refine ⟨ns, S', ?_, q, t, h'⟩
      have e0 : evE (run T (n + 2)) S.length [some (.ref i), some (.int (m : Int)), none, some d] klots_2 S = some (lotD ns, S') := (vd_call (as2 (ev_var rfl) (ev_var rfl)) e (show D.cl 0 (lotD ns) = true from cl_ints ns) t.len).ev _
      rw [← hL]
      subst hE
      exact turn_no rfl e0) t1.len h1 (by rw [rgI_len]; omega) (by rw [rgI_len, List.length_nil]; omega)
  rw [List.map_id', List.map_nil, List.nil_append] at e2
  have hb2 : ∀ l, l ∈ ls → Bel m l := fun l hl => by
    obtain ⟨k, hk, rfl⟩ := List.mem_iff_getElem.mp hl
    have hk2 : k < (rgI 0 r.toNat).length := by omega
    exact p2 ((rgI 0 r.toNat)[k], ls[k]) (by
      rw [List.mem_iff_getElem]
      exact ⟨k, by rw [List.length_zip]; omega, List.getElem_zip⟩)
  rw [rgI_len] at h2 n2
  have hS2 : S2.length = S.length := t2.len.trans t1.len
  have vl : Vl (run T (n + 2)) E (.lc [3] (.nm 3) (.rng1 (.call "_law_roll" (.cons (.var 0) (.cons (.int 7) .nil)))) .no klots_2) S (ls.map lotD) S2 := lc_vl rfl it1 t1.len e2 (cl_lots _) t2.len
  have x1 : ex1 (run T (n + 2)) S.length (.set 2 (.lc [3] (.nm 3) (.rng1 (.call "_law_roll" (.cons (.var 0) (.cons (.int 7) .nil)))) .no klots_2)) E S = some (.nx, [some (.ref i), some (.int (m : Int)), some (.ref S.length), none], S2 ++ [.lst (ls.map lotD)]) := by
    rw [x_set (vl.ev _), hE, hS2]
    rfl
  -- the sums
  obtain ⟨E2, hE2⟩ : ∃ E : Ev, E = [some (.ref i), some (.int (m : Int)), some (.ref S.length), none] := ⟨_, rfl⟩
  obtain ⟨q, S3, e3, q0, q1, t3, h3⟩ := rollD W.toDrw (n + 1) (most := 3) (h2.app (t := [SO.lst (ls.map lotD)])) (by omega) (by decide) (by decide)
  have v3 : Vd (run T (n + 2)) E2 (.call "_law_roll" (.cons (.var 0) (.cons (.int 3) .nil))) (S2 ++ [SO.lst (ls.map lotD)]) (.int q) S3 := vd_call (as2 (ev_var (by rw [hE2]; rfl)) e_int) e3 rfl t3.len
  obtain ⟨S3', rfl, t3'⟩ := t3.unapp (by omega)
  have it3 := ev_rng1 (base := S.length) v3 (rg_small q0 (by omega))
  obtain ⟨E4, S4, e4, x4, S4', ns, rfl, rfl, t4, h4, hb4, l4⟩ := for_inv (step := frS (run T (n + 2)) S.length (.nm 3) klots_1) (ok := fun S2 => Z.still S2 none (rgI 0 q.toNat)) (fun _ => rfl)
    (fun k env St => ∃ (x3 : Option D) (S' : Sto) (ns : List (List Int)), env = [some (.ref i), some (.int (m : Int)), some (.ref S.length), x3] ∧ St = S' ++ [.lst (ns.map lotD)] ∧ To i S S' ∧ DD S' i s (K + 300 + 2 * k) ∧ (∀ l, l ∈ ns → Bel m l) ∧ ns.length ≤ 6 + k) 2
    (fun d k env St hk ⟨x3, S', ns, z1, z2, t, h, hb, hl⟩ => by
      subst z1 z2
      obtain ⟨S5, n5, e5, t5, h5, b5, l5⟩ := lots_turn W n m hm (L := S.length) t.len x3 ns d h (by omega) hb (by omega)
      exact ⟨_, _, e5, some d, S5, n5, rfl, rfl, t.trans t5, h5.mono (by omega), b5, by omega⟩) (rgI 0 q.toNat) 0 E2 (S3' ++ [SO.lst (ls.map lotD)]) (by rw [rgI_len]; omega)
    ⟨none, S3', ls, hE2, rfl, (t1.trans t2).trans t3', (h3.unapp (by rw [t3'.len]; omega)).mono (by omega), hb2, by omega⟩
  have x2 : ex1 (run T (n + 2)) S.length (.for (.nm 3) (.rng1 (.call "_law_roll" (.cons (.var 0) (.cons (.int 3) .nil)))) klots_1) E2 (S2 ++ [SO.lst (ls.map lotD)]) = some (.nx, [some (.ref i), some (.int (m : Int)), some (.ref S.length), x4], S4' ++ [.lst (ns.map lotD)]) := by
    rw [x_for it3, e4]
  rw [rgI_len] at h4 l4
  -- mixed
  obtain ⟨E5, hE5⟩ : ∃ E : Ev, E = [some (.ref i), some (.int (m : Int)), some (.ref S.length), x4] := ⟨_, rfl⟩
  have hL4 : S4'.length = S.length := t4.len
  obtain ⟨os, S5, e5, pr, t5, h5⟩ := mixedD W.toDrw n S.length ns (h4.app (t := [SO.lst (ns.map lotD)])) (by omega) (by rw [← hL4]; exact items_new) (by omega)
  obtain ⟨S5', rfl, t5'⟩ := t5.unapp (by omega)
  have v5 : Vl (run T (n + 2)) E5 (.call "_law_mixed" (.cons (.var 0) (.cons (.var 2) .nil))) (S4' ++ [SO.lst (ns.map lotD)]) (os.map lotD) (S5' ++ [SO.lst (ns.map lotD)]) := by
    refine vl_call0 (as2 (ev_var (by rw [hE5]; rfl)) (ev_var (by rw [hE5]; rfl))) ?_ (cl_lots _) (by rw [List.length_append, List.length_append, t5'.len])
    rw [e5, List.length_append, List.length_append, t5'.len]
  have hx : exs (run T (n + 2)) S.length klots ([D.ref i, .int (m : Int)].map some ++ List.replicate 2 none) S = some (.ret (lotsD os), E5, S5' ++ [SO.lst (ns.map lotD)]) := by
    show exs (run T (n + 2)) S.length klots [some (.ref i), some (.int (m : Int)), none, none] S = _
    rw [← hE]
    unfold klots
    rw [xs_nx x1, ← hE2, xs_nx x2, ← hE5]
    exact xs_ret (x_ret ((vd_tuple v5).ev _))
  refine ⟨os, S5', ?_, fun l hl => hb4 l (pr.mem_iff.mp hl), by rw [pr.length_eq]; omega, t4.trans t5', (h5.unapp (by rw [t5'.len]; omega)).mono (by omega)⟩
  rw [run_ret (φ := run T (n + 2)) (c := ⟨2, 4, klots⟩) (vs := [.ref i, .int (m : Int)]) (S := S) rfl hx]
  exact gc_lenA (show D.cl 0 (lotsD os) = true from cl_lots os) (t4.trans t5').len
end G
end
section
set_option Elab.async false
set_option linter.all false
set_option autoImplicit false
set_option maxHeartbeats 4000000
/-! form and opposite of some lots are told -/
namespace G
open PySem L2 Z M
variable {T : Txt}
/-! ### odd numbers of common lines -/
theorem xs_count (f : Nat → Bool) : ∀ k : Nat, xs f k = decide (((List.range k).filter f).length % 2 = 1)
  | 0 => rfl
  | k + 1 => by
    rw [xs, xs_count f k, List.range_succ, List.filter_append, List.length_append]
    cases c : f k with
    | true =>
      have e : ([k].filter f).length = 1 := by simp [c]
      rw [e]
      rcases Nat.mod_two_eq_zero_or_one ((List.range k).filter f).length with q | q
      · rw [q, show (((List.range k).filter f).length + 1) % 2 = 1 by omega]
        rfl
      · rw [q, show (((List.range k).filter f).length + 1) % 2 = 0 by omega]
        rfl
    | false =>
      have e : ([k].filter f).length = 0 := by simp [c]
      rw [e, Nat.add_zero]
      simp
theorem odd_dot {a b : Nat} (hb : Low b) : decide (((((lotI a).filter fun i => decide (i ∈ lotI b)).length : Nat) : Int) % 2 = 1) = dot 24 a b := by
  have e : (lotI a).filter (fun i => decide (i ∈ lotI b)) = ((List.range 24).filter fun k => a.testBit k && b.testBit k).map fun k : Nat => (k : Int) := by
    unfold lotI
    rw [List.filter_map, List.filter_filter]
    congr 1
    refine List.filter_congr fun k hk => ?_
    have hk24 := List.mem_range.mp hk
    have : decide ((k : Int) ∈ lotI b) = b.testBit k := by
      rw [Bool.eq_iff_iff, decide_eq_true_eq, lotI_mem]
      refine ⟨fun h => by simpa using h.2.2, fun h => ⟨by omega, by omega, by simpa using h⟩⟩
    show (decide ((k : Int) ∈ lotI b) && a.testBit k) = _
    rw [this, Bool.and_comm]
  rw [e, List.length_map]
  unfold dot
  rw [xs_count]
  congr 1
  refine propext ⟨fun h => by omega, fun h => by omega⟩
theorem dot_up {m k a b : Nat} (h : b < 2 ^ m) (hk : m ≤ k) : dot k a b = dot m a b := by
  obtain ⟨d, rfl⟩ := Nat.exists_eq_add_of_le hk
  induction d with
  | zero => rfl
  | succ d ih =>
    have hb : b.testBit (m + d) = false := Nat.testBit_lt_two_pow (Nat.lt_of_lt_of_le h (Nat.pow_le_pow_right (by decide) (Nat.le_add_right _ _)))
    have ih' := ih (by omega)
    show xor (xs (fun i => a.testBit i && b.testBit i) (m + d)) (a.testBit (m + d) && b.testBit (m + d)) = _
    rw [hb, Bool.and_false, Bool.xor_false]
    exact ih'
theorem lo_odd (W : LoB T) (n a b : Nat) (S : Sto) (ha : Low a) (hb : Low b) : run T (n + 1) "_law_lo_is_odd" [lotD (lotI a), lotD (lotI b)] S = some (.bl (dot 24 a b), S) := by
  rw [is_oddL W n _ _ (lotI a) (lotI b) S rfl rfl (Nat.le_trans (lotI_len a) (by decide)), odd_dot hb]
/-! ### in, of lots -/
theorem pyL_nil {f : Nat → Option PyData} : pyL f ([] : List D) = some [] := by rw [pyL]
theorem in_lots {S : Sto} (l : List Int) (ls : List (List Int)) : inD S (lotD l) (lotsD ls) = some (decide (l ∈ ls)) := by
  have p1 : py S (lotD l) = some (lotP l) := by
    show (pyL (rdS S 8) (l.map .int)).map PyData.tuple = _
    rw [pyL_ints]
    rfl
  have p2 : py S (lotsD ls) = some (.tuple (ls.map lotP)) := by
    show (pyL (rdS S 8) (ls.map lotD)).map PyData.tuple = _
    rw [pyL_lots]
    rfl
  unfold inD
  have hi : itemsOf S (lotsD ls) = some (ls.map lotD) := rfl
  rw [hi]
  simp only [Option.bind_some]
  have hf : (flatD (lotD l) && (ls.map lotD).all flatD) = false := rfl
  rw [if_neg (by rw [hf]; decide), p1, p2]
  simp only
  rw [shaped_lots, shaped_ints, if_pos (by rfl)]
  have key : ∀ ls : List (List Int), ((ls.map lotP).any fun z => PyData.eqv z (lotP l)) = decide (l ∈ ls) := fun ls => by
    induction ls with
    | nil => simp
    | cons x r ih =>
      rw [List.map_cons, List.any_cons, ih]
      have : PyData.eqv (lotP x) (lotP l) = decide (x = l) := by
        have := eqvAll_ints x l
        rw [PyData.eqv]
        exact this
      rw [this]
      by_cases q : x = l
      · subst q
        simp
      · simp [q, Ne.symm q]
  rw [key]
theorem vd_in {φ : Phi} {env : Ev} {a b : Ex} {S S1 S2 : Sto} {l : List Int} {ls : List (List Int)} (h1 : Vd φ env a S (lotD l) S1) (h2 : Vd φ env b S1 (lotsD ls) S2) : Vd φ env (.cmp .In a b) S (.bl (decide (l ∈ ls))) S2 := vd_cmp h1 h2 (in_lots l ls)
theorem vd_nilT {φ : Phi} {env : Ev} {S : Sto} : Vd φ env (.tup .nil) S (lotD []) S := ⟨fun base => by
  rw [evE]
  simp only [evS]
  rw [if_pos (by show ([] : List D).length ≤ 100000; decide)]
  exact gc_self rfl, rfl, rfl⟩
theorem no_nil {fs : List Nat} (h0 : ∀ m, m ∈ fs → m ≠ 0) (hl : ∀ m, m ∈ fs → Low m) : decide (([] : List Int) ∈ fs.map lotI) = false := decide_eq_false fun z => by
  obtain ⟨m, hm, e⟩ := List.mem_map.mp z
  exact h0 m hm ((lotI_nil (hl m hm)).mp e)
theorem vd_isiT {φ : Phi} {env : Ev} {a : Ex} {S S1 : Sto} {xs : List D} (h : Vd φ env a S (.tup xs) S1) : Vd φ env (.isi a .tuple) S (.bl true) S1 := ⟨fun base => by
  rw [evE, h.ev]
  exact gc_len rfl h.len, rfl, h.len⟩
/-- what a line by line summed tuple spans -/
theorem other_same : ∀ (ms os : List Nat), os.length = ms.length → (∀ k (h1 : k < ms.length) (h2 : k < os.length), ∃ p, (p = 0 ∨ p ∈ ms.take k) ∧ os[k] = ms[k] ^^^ p) → Same os ms := fun ms os hl h => by
  have up : ∀ k (h2 : k < os.length), spn ms os[k] := fun k h2 => by
    obtain ⟨p, hp, e⟩ := h k (by omega) h2
    rw [e]
    refine spn_xor (spn_mem (List.getElem_mem _)) ?_
    rcases hp with rfl | hp
    · exact spn_zero _
    · exact spn_mem (List.mem_of_mem_take hp)
  have down : ∀ n k (h1 : k < ms.length), k < n → spn os ms[k] := fun n => by
    induction n with
    | zero => intro k _ c; omega
    | succ n ih =>
      intro k h1 _
      obtain ⟨p, hp, e⟩ := h k h1 (by omega)
      have e2 : ms[k] = os[k] ^^^ p := by rw [e, xor_r]
      rw [e2]
      refine spn_xor (spn_mem (List.getElem_mem _)) ?_
      rcases hp with rfl | hp
      · exact spn_zero _
      · obtain ⟨j, hj, rfl⟩ := List.mem_iff_getElem.mp hp
        rw [List.length_take] at hj
        rw [List.getElem_take]
        exact ih j (by omega) (by omega)
  refine same_of (fun r hr => ?_) fun r hr => ?_
  · obtain ⟨k, hk, rfl⟩ := List.mem_iff_getElem.mp hr
    exact up k hk
  · obtain ⟨k, hk, rfl⟩ := List.mem_iff_getElem.mp hr
    exact down (k + 1) k hk (by omega)
theorem masks_lots {ls : List (List Int)} (h : ∀ l, l ∈ ls → Lot l) : (ls.map maskN).map lotI = ls := by
  rw [List.map_map]
  have : ∀ l, l ∈ ls → (lotI ∘ maskN) l = l := fun l hl => lot_mask (h l hl)
  rw [List.map_congr_left this, List.map_id']
theorem lots_masks {ms : List Nat} (h : ∀ m, m ∈ ms → Low m) : (ms.map lotI).map maskN = ms := by
  rw [List.map_map]
  have : ∀ m, m ∈ ms → (maskN ∘ lotI) m = m := fun m hm => mask_lot (h m hm)
  rw [List.map_congr_left this, List.map_id']
/-- the opposite's form -/
def opp (m : Nat) (ms : List Nat) : List Nat := frm (ker m (frm ms))
theorem frm_lt {m : Nat} {ms : List Nat} (h : ∀ r, r ∈ ms → r < 2 ^ m) : ∀ r, r ∈ frm ms → r < 2 ^ m := fun r hr => spn_lt h (((frm_spec ms).2 r).mp (spn_mem hr))
theorem opp_spn {m : Nat} {ms : List Nat} (h : ∀ r, r ∈ ms → r < 2 ^ m) (x : Nat) : spn (opp m ms) x ↔ x < 2 ^ m ∧ ∀ r, r ∈ frm ms → dot m r x = false :=
  ((frm_spec _).2 x).trans (ker_spec (frm_spec ms).1.1 (frm_lt h) x)
theorem opp_lt {m : Nat} {ms : List Nat} (h : ∀ r, r ∈ ms → r < 2 ^ m) : ∀ r, r ∈ opp m ms → r < 2 ^ m := fun r hr => ((opp_spn h r).mp (spn_mem hr)).1
theorem opp_len {m : Nat} {ms : List Nat} (h : ∀ r, r ∈ ms → r < 2 ^ m) : (opp m ms).length + (frm ms).length = m := ker_len (frm_spec ms).1.1 (frm_lt h) (srt_perm _)
theorem opp_opp {m : Nat} {ms : List Nat} (h : ∀ r, r ∈ ms → r < 2 ^ m) : opp m (opp m ms) = frm ms := by
  have hF := (frm_spec ms).1
  have hB := (frm_spec (ker m (frm ms)))
  unfold opp
  rw [frm_self hB.1]
  exact (frm_uniq hF (ker_ker hF.1 (frm_lt h) hB.1.1 hB.2).symm).symm
/-! ### calls at any place -/
section
variable {n : Nat} {env : Ev} {a b : Ex} {S S1 S2 : Sto} {ls : List (List Int)} {ms : List Nat}
theorem vd_form (L : Lots T) (h : Vd (run T (n + 6)) env a S (lotsD ls) S1) (hl : ∀ l, l ∈ ls → Lot l) (hn : ls.length ≤ 64) (ht : S1[1]? = some (.tbl "reduced")) : Vd (run T (n + 6)) env (.call "form_of" (.cons a .nil)) S (lotsD ((frm (ls.map maskN)).map lotI)) S1 :=
  ⟨fun base => by rw [e_call (as1 (h.ev _)), form_of L n ls S1 hl hn ht]; exact gc_len (cl_lots _) h.len, cl_lots _, h.len⟩
theorem vd_shape (W : HasShape T) (h : Vd (run T (n + 1)) env a S (.tup (lts ms)) S1) (hF : Form ms) (hm : ∀ m, m ∈ ms → Low m) (hl : ms.length < 64) : Vd (run T (n + 1)) env (.call "_law_has_shape" (.cons a .nil)) S (.bl true) S1 :=
  ⟨fun base => by rw [e_call (as1 (h.ev _)), has_shape W n ms S1 hF hm hl]; exact gc_len rfl h.len, rfl, h.len⟩
theorem vl_lform (F : LoF T) (h : Vd (run T (n + 2)) env a S (.tup (lts ms)) S1) (hm : ∀ m, m ∈ ms → Low m) (hl : ms.length ≤ 400) : Vl (run T (n + 2)) env (.call "_law_lo_form" (.cons a .nil)) S (lts (frm ms)) S1 :=
  vl_call0 (as1 (h.ev _)) (lo_form F n ms S1 hm hl) (cl_lts _) h.len
theorem vd_opp (L : Lots T) {m : Nat} (h1 : Vd (run T (n + 6)) env a S (.int (m : Int)) S1) (h2 : Vd (run T (n + 6)) env b S1 (lotsD ls) S2) (hm : 1 ≤ m ∧ m ≤ 24) (hl : ∀ l, l ∈ ls → Bel m l) (hn : ls.length ≤ 64) (ht : S2[1]? = some (.tbl "reduced")) :
    Vd (run T (n + 6)) env (.call "opposite_form" (.cons a (.cons b .nil))) S (lotsD ((opp m (ls.map maskN)).map lotI)) S2 :=
  ⟨fun base => by rw [e_call (as2 (h1.ev _) (h2.ev _)), opposite_form L n m ls S2 hm (fun l q => (hl l q).1) (fun l q => (hl l q).2) hn ht]; exact gc_len (cl_lots _) (h2.len.trans h1.len), cl_lots _, h2.len.trans h1.len⟩
theorem vl_mixed (W : Drw T) {i p : Nat} {s K : Int} (h : DD S i s K) (hK : K < 2 ^ 36) (e1 : getV env 0 = some (.ref i)) (h2 : ∀ base, evE (run T (n + 2)) base env b S = some (.ref p, S)) (hp : itemsOf S (.ref p) = some (ls.map lotD)) (hl : ls.length ≤ 1000) :
    ∃ (r : List (List Int)) (S' : Sto), Vl (run T (n + 2)) env (.call "_law_mixed" (.cons (.var 0) (.cons b .nil))) S (r.map lotD) S' ∧ r.Perm ls ∧ To i S S' ∧ DD S' i s (K + ls.length) := by
  obtain ⟨r, S', e, pr, t, d⟩ := mixedD W n p ls h hK hp hl
  refine ⟨r, S', vl_call0 (as2 (ev_var e1) (h2 _)) ?_ (cl_lots _) t.len, pr, t, d⟩
  rw [e, t.len]
end
end G
end
section
set_option Elab.async false
set_option linter.all false
set_option autoImplicit false
set_option maxHeartbeats 4000000
/-! the judge of one tuple of lots -/
namespace G
open PySem L2 Z M
variable {T : Txt}
def ktold_1 : Ox := (.yes (.call "_law_lo_is_odd" (.cons (.var 8) (.cons (.var 7) .nil))))
def ktold_2 : Ox := (.yes (.cmp .NotEq (.lc [8] (.nm 8) (.ex (.var 3)) ktold_1 (.var 8)) (.lst .nil)))
def ktold_3 : Ex := (.call "lot_sum" (.cons (.ix (.var 2) (.var 6)) (.cons (.call "_law_pick" (.cons (.var 0) (.cons (.bin .Add (.blt .list (.cons (.sl (.var 2) .no (.yes (.var 6))) .nil)) (.lst (.cons (.tup .nil) .nil))) .nil))) .nil)))
def ktold : Ss := (.cons (.set 3 (.call "form_of" (.cons (.var 2) .nil))) (.cons (.ifs (.or (.not (.isi (.var 3) .tuple)) (.or (.cmp .In (.tup .nil) (.var 3)) (.or (.not (.call "_law_has_shape" (.cons (.var 3) .nil))) (.cmp .NotEq (.var 3) (.blt .tuple (.cons (.call "_law_lo_form" (.cons (.var 2) .nil)) .nil)))))) (.cons (.ret (.bl false)) .nil) .nil) (.cons (.set 4 (.lc [6] (.nm 6) (.rng1 (.blt .len (.cons (.var 2) .nil))) .no ktold_3)) (.cons (.ifs (.or (.cmp .NotEq (.call "form_of" (.cons (.blt .tuple (.cons (.call "_law_mixed" (.cons (.var 0) (.cons (.var 4) .nil))) .nil)) .nil)) (.var 3)) (.cmp .NotEq (.call "form_of" (.cons (.var 3) .nil)) (.var 3))) (.cons (.ret (.bl false)) .nil) .nil) (.cons (.set 5 (.call "opposite_form" (.cons (.var 1) (.cons (.var 2) .nil)))) (.cons (.ifs (.or (.not (.call "_law_has_shape" (.cons (.var 5) .nil))) (.or (.cmp .NotEq (.blt .len (.cons (.var 5) .nil)) (.bin .Sub (.var 1) (.blt .len (.cons (.var 3) .nil)))) (.cmp .NotEq (.call "opposite_form" (.cons (.var 1) (.cons (.var 5) .nil))) (.var 3)))) (.cons (.ret (.bl false)) .nil) .nil) (.cons (.ret (.cmp .Eq (.lc [7] (.nm 7) (.ex (.var 5)) ktold_2 (.var 7)) (.lst .nil))) .nil)))))))
structure LoR (T : Txt) : Prop extends LoT T, LoM T where
  shape : HasShape T
  law_told_right : Is T "_law_told_right" ⟨3, 9, ktold⟩
/-- list(lots[:at]) + [()] -/
theorem ev_heads {φ : Phi} {base at_ : Nat} {env : Ev} {S : Sto} {ls : List (List Int)} (h2 : getV env 2 = some (lotsD ls)) (h6 : getV env 6 = some (.int (at_ : Int))) (hl : ls.length ≤ 100) (ha : at_ ≤ ls.length) :
    evE φ base env (.bin .Add (.blt .list (.cons (.sl (.var 2) .no (.yes (.var 6))) .nil)) (.lst (.cons (.tup .nil) .nil))) S = some (.ref S.length, S ++ [.lst ((ls.take at_ ++ [[]]).map lotD)]) := by
  have e1 : evE φ S.length env (.sl (.var 2) .no (.yes (.var 6))) S = some (lotsD (ls.take at_), S) := by
    rw [evE, ev_var h2]
    simp only [evO, ev_var h6]
    have ho : optI (some (.int (at_ : Int))) = some (some (at_ : Int)) := by
      show (if _ then _ else _) = _
      rw [if_pos ⟨by omega, by omega⟩]
    have : slF (lotsD ls) none (some (.int (at_ : Int))) S = some (lotsD (ls.take at_), S) := by
      unfold slF
      rw [ho]
      show some (D.tup (cutL (ls.map lotD) none (some (at_ : Int))), S) = _
      congr 3
      unfold cutL
      have h0 : HT.sIx (ls.map lotD).length 0 none = 0 := rfl
      have h1 : HT.sIx (ls.map lotD).length (ls.map lotD).length (some (at_ : Int)) = at_ := by
        unfold HT.sIx
        rw [List.length_map]
        have : ¬ ((at_ : Int) < 0) := by omega
        simp [this]
        omega
      rw [h0, h1, List.drop_zero, Nat.sub_zero, List.map_take]
    rw [this]
    exact gc_len (cl_lots _) rfl
  have e2 : evE φ S.length env (.blt .list (.cons (.sl (.var 2) .no (.yes (.var 6))) .nil)) S = some (.ref S.length, S ++ [.lst ((ls.take at_).map lotD)]) := by
    rw [e_blt (as1 e1)]
    show gc S.length (some (.ref S.length, S ++ [.lst ((ls.take at_).map lotD)])) = _
    exact gc_new0 (cl_lots _)
  have e3 : evE φ S.length env (.lst (.cons (.tup .nil) .nil)) (S ++ [.lst ((ls.take at_).map lotD)]) = some (.ref (S.length + 1), S ++ [.lst ((ls.take at_).map lotD), .lst [lotD []]]) := by
    rw [evE, as1 (vd_nilT.ev _)]
    simp only
    rw [if_pos (by show 1 ≤ 100000; decide)]
    have : new (S ++ [SO.lst ((ls.take at_).map lotD)]) (.lst [lotD []]) = some (.ref (S ++ [SO.lst ((ls.take at_).map lotD)]).length, S ++ [SO.lst ((ls.take at_).map lotD)] ++ [.lst [lotD []]]) := rfl
    rw [this, gc_new0 rfl, List.length_append, List.append_assoc]
    rfl
  rw [add_two e2 e3 (by rw [List.length_map, List.length_take, List.length_singleton]; show _ ≤ 100000; omega) (clL_app (cl_lots _) rfl)]
  simp
theorem told_elt (W : LoR T) (L : Lots T) (n : Nat) {i at_ : Nat} {s K : Int} {S : Sto} {ls : List (List Int)} (x1 x3 x4 x5 x7 x8 : Option D) (h : DD S i s K) (hK : K < 2 ^ 35) (hl : ls.length ≤ 64) (ha : at_ < ls.length) (hb : ∀ l, l ∈ ls → Lot l) :
    ∃ l S', lcS (run T (n + 5)) S.length [some (.ref i), x1, some (lotsD ls), x3, x4, x5, none, x7, x8] [6] (.nm 6) .no ktold_3 (.int (at_ : Int)) S = some (some (lotD l), S') ∧ (∃ p, (p = 0 ∨ p ∈ (ls.map maskN).take at_) ∧ l = lotI (maskN ls[at_] ^^^ p)) ∧ To i S S' ∧ DD S' i s (K + 1) := by
  obtain ⟨E, hE⟩ : ∃ E : Ev, E = [some (.ref i), x1, some (lotsD ls), x3, x4, x5, some (.int (at_ : Int)), x7, x8] := ⟨_, rfl⟩
  have g0 : getV E 0 = some (.ref i) := by rw [hE]; rfl
  have g2 : getV E 2 = some (lotsD ls) := by rw [hE]; rfl
  have g6 : getV E 6 = some (.int (at_ : Int)) := by rw [hE]; rfl
  have hi := h.lt
  have e1 : Vd (run T (n + 5)) E (.ix (.var 2) (.var 6)) S (lotD ls[at_]) S := ⟨fun base => by
    rw [evE, ev_var g2]
    simp only [ev_var g6]
    have : ixF (lotsD ls) (.int (at_ : Int)) S = some (lotD ls[at_]) := by
      show atI (ls.map lotD) (at_ : Int) = _
      have hp : ((at_ : Int)) < ((ls.map lotD).length : Int) := by rw [List.length_map]; omega
      unfold atI ixN
      rw [if_pos (by omega), if_pos hp]
      simp [ha]
    rw [this]
    exact gc_len (show D.cl 0 (lotD ls[at_]) = true from cl_ints _) rfl, cl_ints _, rfl⟩
  -- the drawn one
  obtain ⟨d, S1, e2, m2, t2, h2⟩ := pickD W.toDrw (n + 3) (x := .ref S.length) (ds := (ls.take at_ ++ [[]]).map lotD) (h.app (t := [SO.lst ((ls.take at_ ++ [[]]).map lotD)])) (by omega)
    (fun S2 t => by
      have := t.lst h.app (LstAt.new (S := S) (xs := (ls.take at_ ++ [[]]).map lotD)) (by omega)
      show (S2[S.length]?).bind SO.seq? = _
      rw [this]
      rfl) (by simp) (by rw [List.length_map, List.length_append, List.length_take, List.length_singleton]; omega) (upL (cl_lots _))
  obtain ⟨S1', rfl, t2'⟩ := t2.unapp hi
  obtain ⟨q, hq, rfl⟩ := List.mem_map.mp m2
  have hql : Lot q := by
    rcases List.mem_append.mp hq with z | z
    · exact hb q (List.mem_of_mem_take z)
    · rw [List.mem_singleton.mp z]
      exact ⟨.nil, fun i hi => by cases hi⟩
  have e3 : Vd (run T (n + 5)) E (.call "_law_pick" (.cons (.var 0) (.cons (.bin .Add (.blt .list (.cons (.sl (.var 2) .no (.yes (.var 6))) .nil)) (.lst (.cons (.tup .nil) .nil))) .nil))) S (lotD q) S1' :=
    vd_callT (as2 (ev_var g0) (ev_heads g2 g6 (by omega) (by omega))) e2 (show D.cl 0 (lotD q) = true from cl_ints _) t2'.len
  have e4 : Vd (run T (n + 5)) E ktold_3 S (lotD (lotI (maskN ls[at_] ^^^ maskN q))) S1' := ⟨fun base => by
    unfold ktold_3
    rw [e_call (as2 (e1.ev _) (e3.ev _)), lot_sum L n _ _ S1' (hb _ (List.getElem_mem _)) hql]
    exact gc_len (show D.cl 0 (lotD _) = true from cl_ints _) t2'.len, cl_ints _, t2'.len⟩
  refine ⟨_, S1', ?_, ⟨maskN q, ?_, rfl⟩, t2', h2.unapp (by rw [t2'.len]; exact hi)⟩
  · have e5 := e4.ev S.length
    rw [hE] at e5
    exact turn_no rfl e5
  · rcases List.mem_append.mp hq with z | z
    · right
      rw [← List.map_take]
      exact List.mem_map_of_mem z
    · left
      rw [List.mem_singleton.mp z]
      rfl
end G
end
section
set_option Elab.async false
set_option linter.all false
set_option autoImplicit false
set_option maxHeartbeats 4000000
/-! the judge of one tuple of lots, its whole run -/
namespace G
open PySem L2 Z M
variable {T : Txt}
theorem vd_neF {φ : Phi} {env : Ev} {a b : Ex} {S S1 S2 : Sto} {ls ns : List (List Int)} (h1 : Vd φ env a S (lotsD ls) S1) (h2 : Vd φ env b S1 (lotsD ns) S2) (e : ls = ns) : Vd φ env (.cmp .NotEq a b) S (.bl false) S2 := vd_cmp h1 h2 (by rw [(cmp_lots .NotEq).2, decide_eq_true e]; rfl)
theorem vd_neI {φ : Phi} {env : Ev} {a b : Ex} {S S1 S2 : Sto} {p q : Int} (h1 : Vd φ env a S (.int p) S1) (h2 : Vd φ env b S1 (.int q) S2) (e : p = q) : Vd φ env (.cmp .NotEq a b) S (.bl false) S2 := vd_cmp h1 h2 (by rw [cmp_ints.2, decide_eq_true e]; rfl)
theorem lts_lots (ms : List Nat) : D.tup (lts ms) = lotsD (ms.map lotI) := rfl
/-- no lot of the opposite meets a lot of the form oddly -/
theorem evenly (W : LoR T) (n m : Nat) (hm : m ≤ 24) (F B : List Nat) (x0 x1 x2 x4 x6 : Option D) (S : Sto) (hF : ∀ f, f ∈ F → f < 2 ^ m) (hB : ∀ b, b ∈ B → b < 2 ^ m ∧ ∀ f, f ∈ F → dot m f b = false) (l1 : F.length ≤ 500) (l2 : B.length ≤ 500) :
    Vd (run T (n + 1)) [x0, x1, x2, some (.tup (lts F)), x4, some (.tup (lts B)), x6, none, none] (.cmp .Eq (.lc [7] (.nm 7) (.ex (.var 5)) ktold_2 (.var 7)) (.lst .nil)) S (.bl true) S := by
  have up : ∀ {b : Nat}, b < 2 ^ m → Low b := fun h => Nat.lt_of_lt_of_le h (Nat.pow_le_pow_right (by decide) hm)
  have turn : ∀ b, b ∈ B → lcS (run T (n + 1)) S.length [x0, x1, x2, some (.tup (lts F)), x4, some (.tup (lts B)), x6, none, none] [7] (.nm 7) ktold_2 (.var 7) (lotD (lotI b)) S = some (if false = true then some (lotD (lotI b)) else none, S) := fun b hb => by
    obtain ⟨hbm, hbd⟩ := hB b hb
    obtain ⟨E, hE⟩ : ∃ E : Ev, E = [x0, x1, x2, some (.tup (lts F)), x4, some (.tup (lts B)), x6, some (lotD (lotI b)), none] := ⟨_, rfl⟩
    have inner : ∀ f, f ∈ F → lcS (run T (n + 1)) S.length E [8] (.nm 8) ktold_1 (.var 8) (lotD (lotI f)) S = some (if false = true then some (lotD (lotI f)) else none, S) := fun f hf => by
      have e0 : evE (run T (n + 1)) S.length [x0, x1, x2, some (.tup (lts F)), x4, some (.tup (lts B)), x6, some (lotD (lotI b)), some (lotD (lotI f))] (.call "_law_lo_is_odd" (.cons (.var 8) (.cons (.var 7) .nil))) S = some (.bl false, S) := by
        rw [e_call (as2 (ev_var rfl) (ev_var rfl)), lo_odd W.toLoB n f b S (up (hF f hf)) (up hbm), dot_up hbm hm, hbd f hf]
        exact gc_blS
      subst hE
      exact turn_yes rfl e0 (ev_var rfl)
    have e1 : evE (run T (n + 1)) S.length E (.lc [8] (.nm 8) (.ex (.var 3)) ktold_1 (.var 8)) S = some (.ref S.length, S ++ [.lst (lts [])]) := by
      have := lc_lotsT (φ := run T (n + 1)) (base := S.length) (env := E) (own := [8]) (g := .nm 8) (c := ktold_1) (e := .var 8) (S := S) (ms := F) (v := 3) (fun _ => false) (fun f => f) rfl (by rw [hE]; rfl) (by omega) inner
      rw [lts_none] at this
      exact this
    have e2 : ∀ base, evE (run T (n + 1)) base E (.lc [8] (.nm 8) (.ex (.var 3)) ktold_1 (.var 8)) S = some (.ref S.length, S ++ [.lst (lts [])]) := fun base => by
      have := lc_lotsT (φ := run T (n + 1)) (base := base) (env := E) (own := [8]) (g := .nm 8) (c := ktold_1) (e := .var 8) (S := S) (ms := F) (v := 3) (fun _ => false) (fun f => f) rfl (by rw [hE]; rfl) (by omega) inner
      rw [lts_none] at this
      exact this
    have e3 := (vd_isnil (ls := []) ⟨e2, rfl, rfl⟩).2.ev S.length
    rw [decide_eq_true rfl] at e3
    subst hE
    exact turn_yes rfl e3 (ev_var rfl)
  obtain ⟨E, hE⟩ : ∃ E : Ev, E = [x0, x1, x2, some (.tup (lts F)), x4, some (.tup (lts B)), x6, none, none] := ⟨_, rfl⟩
  rw [← hE] at turn ⊢
  have e2 : ∀ base, evE (run T (n + 1)) base E (.lc [7] (.nm 7) (.ex (.var 5)) ktold_2 (.var 7)) S = some (.ref S.length, S ++ [.lst (lts [])]) := fun base => by
    have := lc_lotsT (φ := run T (n + 1)) (base := base) (env := E) (own := [7]) (g := .nm 7) (c := ktold_2) (e := .var 7) (S := S) (ms := B) (v := 5) (fun _ => false) (fun f => f) rfl (by rw [hE]; rfl) (by omega) turn
    rw [lts_none] at this
    exact this
  have e3 := (vd_isnil (ls := []) ⟨e2, rfl, rfl⟩).1
  rw [decide_eq_true rfl] at e3
  exact e3
theorem told_right (W : LoR T) (L : Lots T) (n m : Nat) {i : Nat} {s K : Int} {S : Sto} (ls : List (List Int)) (h : DD S i s K) (hK : K < 2 ^ 30) (hm : 1 ≤ m ∧ m ≤ 24) (hb : ∀ l, l ∈ ls → Bel m l) (hn : ls.length ≤ 20) (ht : S[1]? = some (.tbl "reduced")) :
    ∃ S', run T (n + 7) "_law_told_right" [.ref i, .int (m : Int), lotsD ls] S = some (.bl true, S') ∧ To i S S' ∧ DD S' i s (K + 40) := by
  rw [W.law_told_right]
  obtain ⟨ms, hms⟩ : ∃ ms, ms = ls.map maskN := ⟨_, rfl⟩
  obtain ⟨F, hF⟩ : ∃ F, F = frm ms := ⟨_, rfl⟩
  obtain ⟨B, hB⟩ : ∃ B, B = opp m ms := ⟨_, rfl⟩
  have hls : ls = ms.map lotI := by rw [hms, masks_lots fun l q => (hb l q).1]
  have hlt : ∀ r, r ∈ ms → r < 2 ^ m := fun r hr => by
    rw [hms] at hr
    obtain ⟨l, hl, rfl⟩ := List.mem_map.mp hr
    exact (hb l hl).low
  have up : ∀ {b : Nat}, b < 2 ^ m → Low b := fun h => Nat.lt_of_lt_of_le h (Nat.pow_le_pow_right (by decide) hm.2)
  have lms : ms.length ≤ 20 := by rw [hms, List.length_map]; exact hn
  have lF : F.length ≤ 20 := by have := frm_le ms; rw [hF]; omega
  have fF : Form F := by rw [hF]; exact (frm_spec ms).1
  have ltF : ∀ f, f ∈ F → f < 2 ^ m := by rw [hF]; exact frm_lt hlt
  have fB : Form B := by rw [hB]; exact (frm_spec _).1
  have ltB : ∀ f, f ∈ B → f < 2 ^ m := by rw [hB]; exact opp_lt hlt
  have lB : B.length + F.length = m := by rw [hB, hF]; exact opp_len hlt
  obtain ⟨φ, hφ⟩ : ∃ φ, φ = run T (n + 6) := ⟨_, rfl⟩
  obtain ⟨lt', hlt'⟩ : ∃ x, x = lotsD ls := ⟨_, rfl⟩
  rw [← hlt']
  -- the form
  obtain ⟨E0, hE0⟩ : ∃ E : Ev, E = [some (.ref i), some (.int (m : Int)), some lt', none, none, none, none, none, none] := ⟨_, rfl⟩
  have a1 : Vd φ E0 (.call "form_of" (.cons (.var 2) .nil)) S (.tup (lts F)) S := by
    rw [hφ, hF, hms]
    exact vd_form L (vd_var (by rw [hE0, hlt']; rfl) (cl_lots _)) (fun l q => (hb l q).1) (by omega) ht
  obtain ⟨E1, hE1⟩ : ∃ E : Ev, E = [some (.ref i), some (.int (m : Int)), some lt', some (.tup (lts F)), none, none, none, none, none] := ⟨_, rfl⟩
  have x1 : ex1 φ S.length (.set 3 (.call "form_of" (.cons (.var 2) .nil))) E0 S = some (.nx, E1, S) := by
    rw [x_set (a1.ev _), hE0, hE1]
    rfl
  have v3 : ∀ S, Vd φ E1 (.var 3) S (.tup (lts F)) S := fun S => vd_var (by rw [hE1]; rfl) (cl_lts _)
  have b1 : Vd φ E1 (.or (.not (.isi (.var 3) .tuple)) (.or (.cmp .In (.tup .nil) (.var 3)) (.or (.not (.call "_law_has_shape" (.cons (.var 3) .nil))) (.cmp .NotEq (.var 3) (.blt .tuple (.cons (.call "_law_lo_form" (.cons (.var 2) .nil)) .nil)))))) S (.bl false) S := by
    refine vd_or0 (S1 := S) (vd_not (vd_isiT (v3 S))) (vd_or0 (S1 := S) ?_ (vd_or0 (S1 := S) ?_ ?_))
    · have := vd_in (vd_nilT (φ := φ) (env := E1) (S := S)) (v3 S)
      rw [no_nil fF.1.1 fun f q => up (ltF f q)] at this
      exact this
    · rw [hφ] at v3 ⊢
      exact vd_not (vd_shape W.shape (v3 S) fF (fun f q => up (ltF f q)) (by omega))
    · refine vd_neF (S1 := S) (ns := F.map lotI) (v3 S) ?_ rfl
      have vl : Vl φ E1 (.call "_law_lo_form" (.cons (.var 2) .nil)) S (lts (frm ms)) S := by
        rw [hφ]
        refine vl_lform W.toLoF (n := n + 4) (vd_var (v := .tup (lts ms)) ?_ (cl_lts _)) (fun f q => up (hlt f q)) (by omega)
        rw [hE1, hlt', hls]
        rfl
      rw [← hF] at vl
      exact vd_tuple vl
  have x2 : ex1 φ S.length (.ifs (.or (.not (.isi (.var 3) .tuple)) (.or (.cmp .In (.tup .nil) (.var 3)) (.or (.not (.call "_law_has_shape" (.cons (.var 3) .nil))) (.cmp .NotEq (.var 3) (.blt .tuple (.cons (.call "_law_lo_form" (.cons (.var 2) .nil)) .nil)))))) (.cons (.ret (.bl false)) .nil) .nil) E1 S = some (.nx, E1, S) := by
    rw [x_if (vt b1), if_neg (by decide), xs_nil]
  -- the other tuple
  have hln : ls.length = ms.length := by rw [hms, List.length_map]
  have il : Vd φ E1 (.blt .len (.cons (.var 2) .nil)) S (.int ((ls.map lotD).length : Int)) S := vd_lenT (vd_var (by rw [hE1, hlt']; rfl) (cl_lots _))
  rw [List.length_map] at il
  have it3 := ev_rng1 (base := S.length) il (rg_small (by omega) (by omega))
  rw [Int.toNat_natCast, rgI_map] at it3
  obtain ⟨os, S3, e3, t3, h3, l3, p3⟩ := draw_lc (i := i) (s := s) (α := Nat) (step := lcS φ S.length E1 [6] (.nm 6) .no ktold_3) (ok := fun S2 => Z.still S2 none (((List.range ls.length).map fun k : Nat => (0 : Int) + (k : Int)).map D.int)) (fun _ => rfl) (fun k : Nat => D.int (k : Int))
    (fun k l => ∃ hk : k < ls.length, ∃ p, (p = 0 ∨ p ∈ (ls.map maskN).take k) ∧ l = lotI (maskN ls[k] ^^^ p)) S.length 1 (by decide) (2 ^ 35) (List.range ls.length) [] S K (fun k hk0 St K hL hd hK => by
      have hk := List.mem_range.mp hk0
      obtain ⟨l, S', e, p, t, d⟩ := told_elt W L (n + 1) (i := i) (at_ := k) (ls := ls) (some (.int (m : Int))) (some (.tup (lts F))) none none none none hd (by omega) (by omega) hk fun l q => (hb l q).1
      refine ⟨l, S', ?_, ⟨hk, p⟩, t, d⟩
      rw [hE1, hlt', hφ, ← hL]
      exact e) rfl h (by rw [List.length_range]; omega) (by rw [List.length_range, List.length_nil]; omega)
  have hrg : ((List.range ls.length).map fun k : Nat => (0 : Int) + (k : Int)).map D.int = (List.range ls.length).map fun k : Nat => D.int (k : Int) := by
    rw [List.map_map]
    refine List.map_congr_left fun k _ => ?_
    show D.int (0 + (k : Int)) = _
    rw [Int.zero_add]
  rw [List.map_nil, List.nil_append] at e3
  rw [List.length_range] at l3 h3
  obtain ⟨oms, homs⟩ : ∃ x, x = os.map maskN := ⟨_, rfl⟩
  have pk : ∀ k (hk : k < os.length), ∃ hk2 : k < ls.length, ∃ p, (p = 0 ∨ p ∈ ms.take k) ∧ os[k] = lotI (maskN ls[k] ^^^ p) := fun k hk => by
    rw [hms]
    exact p3 (k, os[k]) (by
      rw [List.mem_iff_getElem]
      refine ⟨k, by rw [List.length_zip, List.length_range]; omega, ?_⟩
      rw [List.getElem_zip, List.getElem_range])
  have lowp : ∀ k p, (p = 0 ∨ p ∈ ms.take k) → p < 2 ^ m := fun k p hp => by
    rcases hp with rfl | hp
    · exact Nat.two_pow_pos m
    · exact hlt p (List.mem_of_mem_take hp)
  have bo : ∀ l, l ∈ os → Bel m l := fun l hl => by
    obtain ⟨k, hk, rfl⟩ := List.mem_iff_getElem.mp hl
    obtain ⟨hk2, p, hp, e⟩ := pk k hk
    rw [e]
    exact bel_of (Nat.xor_lt_two_pow (hb _ (List.getElem_mem _)).low (lowp k p hp)) hm.2
  have so : Same oms ms := other_same ms oms (by rw [homs, List.length_map, l3, hln]) fun k h1 h2 => by
    have hk : k < os.length := by rw [homs, List.length_map] at h2; exact h2
    obtain ⟨hk2, p, hp, e⟩ := pk k hk
    refine ⟨p, hp, ?_⟩
    have e1 : oms[k] = maskN os[k] := by
      subst homs
      exact List.getElem_map _
    have e2 : ms[k] = maskN ls[k] := by
      subst hms
      exact List.getElem_map _
    rw [e1, e, e2]
    exact mask_lot (up (Nat.xor_lt_two_pow (hb _ (List.getElem_mem _)).low (lowp k p hp)))
  have vl3 : Vl φ E1 (.lc [6] (.nm 6) (.rng1 (.blt .len (.cons (.var 2) .nil))) .no ktold_3) S (os.map lotD) S3 := lc_vl rfl it3 rfl (by rw [hrg] at e3 ⊢; exact e3) (cl_lots _) t3.len
  obtain ⟨E2, hE2⟩ : ∃ E : Ev, E = [some (.ref i), some (.int (m : Int)), some lt', some (.tup (lts F)), some (.ref S.length), none, none, none, none] := ⟨_, rfl⟩
  have x3 : ex1 φ S.length (.set 4 (.lc [6] (.nm 6) (.rng1 (.blt .len (.cons (.var 2) .nil))) .no ktold_3)) E1 S = some (.nx, E2, S3 ++ [.lst (os.map lotD)]) := by
    rw [x_set (vl3.ev _), hE1, hE2, t3.len]
    rfl
  have ht3 : S3[1]? = some (.tbl "reduced") := t3.tab h ht
  have hL3 := t3.len
  have ht1 : 1 < S.length := (List.getElem?_eq_some_iff.mp ht).1
  have appt : ∀ {Q : Sto} {o : SO}, Q[1]? = some (.tbl "reduced") → (Q ++ [o])[1]? = some (.tbl "reduced") := fun {Q o} q => by
    rw [List.getElem?_append_left (List.getElem?_eq_some_iff.mp q).1]
    exact q
  -- mixed
  obtain ⟨r, S4, vm, pr, t4, h4⟩ := vl_mixed W.toDrw (n := n + 4) (env := E2) (b := .var 4) (p := S.length) (ls := os) (h3.app (t := [SO.lst (os.map lotD)])) (by omega) (by rw [hE2]; rfl) (fun base => ev_var (by rw [hE2]; rfl)) (by rw [← hL3]; exact items_new) (by omega)
  obtain ⟨S4', rfl, t4'⟩ := t4.unapp (by have := h.lt; omega)
  rw [← hφ] at vm
  have br : ∀ l, l ∈ r → Bel m l := fun l hl => bo l (pr.mem_iff.mp hl)
  have fr : frm (r.map maskN) = F := by
    rw [hF]
    refine frm_same ?_
    refine Same.trans ?_ so
    rw [homs]
    exact same_perm (pr.map _)
  have ht4 : S4'[1]? = some (.tbl "reduced") := t4'.tab h3 ht3
  have w3 : ∀ S, Vd φ E2 (.var 3) S (.tup (lts F)) S := fun S => vd_var (by rw [hE2]; rfl) (cl_lts _)
  have b4 : Vd φ E2 (.or (.cmp .NotEq (.call "form_of" (.cons (.blt .tuple (.cons (.call "_law_mixed" (.cons (.var 0) (.cons (.var 4) .nil))) .nil)) .nil)) (.var 3)) (.cmp .NotEq (.call "form_of" (.cons (.var 3) .nil)) (.var 3))) (S3 ++ [SO.lst (os.map lotD)]) (.bl false) (S4' ++ [SO.lst (os.map lotD)]) := by
    refine vd_or0 (S1 := S4' ++ [SO.lst (os.map lotD)]) (vd_neF (S1 := S4' ++ [SO.lst (os.map lotD)]) (ls := F.map lotI) (ns := F.map lotI) ?_ (w3 _) rfl) (vd_neF (S1 := S4' ++ [SO.lst (os.map lotD)]) (ls := F.map lotI) (ns := F.map lotI) ?_ (w3 _) rfl)
    · rw [hφ] at vm ⊢
      have := vd_form L (vd_tuple vm) (fun l q => (br l q).1) (by rw [pr.length_eq]; omega) (appt ht4)
      rw [fr] at this
      exact this
    · rw [hφ] at w3 ⊢
      have := vd_form L (ls := F.map lotI) (w3 (S4' ++ [SO.lst (os.map lotD)])) (fun l hl => by
        obtain ⟨f, _, rfl⟩ := List.mem_map.mp hl
        exact Lot.of f) (by rw [List.length_map]; omega) (appt ht4)
      rw [lots_masks fun f q => up (ltF f q), frm_self fF] at this
      exact this
  have x4 : ex1 φ S.length (.ifs (.or (.cmp .NotEq (.call "form_of" (.cons (.blt .tuple (.cons (.call "_law_mixed" (.cons (.var 0) (.cons (.var 4) .nil))) .nil)) .nil)) (.var 3)) (.cmp .NotEq (.call "form_of" (.cons (.var 3) .nil)) (.var 3))) (.cons (.ret (.bl false)) .nil) .nil) E2 (S3 ++ [SO.lst (os.map lotD)]) = some (.nx, E2, S4' ++ [SO.lst (os.map lotD)]) := by
    rw [x_if (vt b4), if_neg (by decide), xs_nil]
  -- the opposite
  obtain ⟨S5, hS5⟩ : ∃ x, x = S4' ++ [SO.lst (os.map lotD)] := ⟨_, rfl⟩
  rw [← hS5] at x4
  have ht5 : S5[1]? = some (.tbl "reduced") := by rw [hS5]; exact appt ht4
  obtain ⟨E3, hE3⟩ : ∃ E : Ev, E = [some (.ref i), some (.int (m : Int)), some lt', some (.tup (lts F)), some (.ref S.length), some (.tup (lts B)), none, none, none] := ⟨_, rfl⟩
  have x5 : ex1 φ S.length (.set 5 (.call "opposite_form" (.cons (.var 1) (.cons (.var 2) .nil)))) E2 S5 = some (.nx, E3, S5) := by
    have : Vd φ E2 (.call "opposite_form" (.cons (.var 1) (.cons (.var 2) .nil))) S5 (.tup (lts B)) S5 := by
      rw [hφ, hB, hms]
      exact vd_opp L (vd_var (by rw [hE2]; rfl) rfl) (vd_var (by rw [hE2, hlt']; rfl) (cl_lots _)) hm hb (by omega) ht5
    rw [x_set (this.ev _), hE2, hE3]
    rfl
  have u5 : ∀ S, Vd φ E3 (.var 5) S (.tup (lts B)) S := fun S => vd_var (by rw [hE3]; rfl) (cl_lts _)
  have u3 : ∀ S, Vd φ E3 (.var 3) S (.tup (lts F)) S := fun S => vd_var (by rw [hE3]; rfl) (cl_lts _)
  have u1 : ∀ S, Vd φ E3 (.var 1) S (.int (m : Int)) S := fun S => vd_var (by rw [hE3]; rfl) rfl
  have b6 : Vd φ E3 (.or (.not (.call "_law_has_shape" (.cons (.var 5) .nil))) (.or (.cmp .NotEq (.blt .len (.cons (.var 5) .nil)) (.bin .Sub (.var 1) (.blt .len (.cons (.var 3) .nil)))) (.cmp .NotEq (.call "opposite_form" (.cons (.var 1) (.cons (.var 5) .nil))) (.var 3)))) S5 (.bl false) S5 := by
    refine vd_or0 (S1 := S5) ?_ (vd_or0 (S1 := S5) ?_ ?_)
    · rw [hφ] at u5 ⊢
      exact vd_not (vd_shape W.shape (u5 S5) fB (fun f q => up (ltB f q)) (by omega))
    · refine vd_neI (S1 := S5) (vd_lenT (u5 S5)) (vd_bin (S1 := S5) (u1 S5) (vd_lenT (u3 S5)) rfl rfl) ?_
      simp only [lts, List.length_map]
      omega
    · refine vd_neF (S1 := S5) (ls := F.map lotI) (ns := F.map lotI) ?_ (u3 S5) rfl
      rw [hφ] at u1 u5 ⊢
      have := vd_opp L (ls := B.map lotI) (u1 S5) (u5 S5) hm (fun l hl => by
        obtain ⟨f, hf, rfl⟩ := List.mem_map.mp hl
        exact bel_of (ltB f hf) hm.2) (by rw [List.length_map]; omega) ht5
      rw [lots_masks fun f q => up (ltB f q), hB, opp_opp hlt, ← hF] at this
      exact this
  have x6 : ex1 φ S.length (.ifs (.or (.not (.call "_law_has_shape" (.cons (.var 5) .nil))) (.or (.cmp .NotEq (.blt .len (.cons (.var 5) .nil)) (.bin .Sub (.var 1) (.blt .len (.cons (.var 3) .nil)))) (.cmp .NotEq (.call "opposite_form" (.cons (.var 1) (.cons (.var 5) .nil))) (.var 3)))) (.cons (.ret (.bl false)) .nil) .nil) E3 S5 = some (.nx, E3, S5) := by
    rw [x_if (vt b6), if_neg (by decide), xs_nil]
  have b7 := evenly W (n + 5) m hm.2 F B (some (.ref i)) (some (.int (m : Int))) (some lt') (some (.ref S.length)) none S5 ltF (fun b hb' => ⟨ltB b hb', fun f hf => by
    rw [hB] at hb'
    rw [hF] at hf
    exact ((opp_spn hlt b).mp (spn_mem hb')).2 f hf⟩) (by omega) (by omega)
  rw [← hE3, ← hφ] at b7
  have hx : exs φ S.length ktold ([D.ref i, .int (m : Int), lt'].map some ++ List.replicate 6 none) S = some (.ret (.bl true), E3, S5) := by
    show exs φ S.length ktold [some (.ref i), some (.int (m : Int)), some lt', none, none, none, none, none, none] S = _
    rw [← hE0]
    unfold ktold
    rw [xs_nx x1, xs_nx x2, xs_nx x3, xs_nx x4, xs_nx x5, xs_nx x6]
    exact xs_ret (x_ret (b7.ev _))
  refine ⟨S4', ?_, t3.trans t4', (h4.unapp (by rw [t4'.len]; have := h.lt; omega)).mono (by omega)⟩
  rw [← hφ, run_ret (φ := φ) (c := ⟨3, 9, ktold⟩) (vs := [.ref i, .int (m : Int), lt']) (S := S) rfl hx, hS5]
  exact gc_lenA rfl (t4'.len.trans hL3)
end G
end
section
set_option Elab.async false
set_option linter.all false
set_option autoImplicit false
set_option maxHeartbeats 4000000
/-! the list of all sums: what is in it, when two are one -/
namespace G
open PySem L2 Z M
variable {T : Txt}
/-- all sums of some lots, as the law lists them -/
def aL (ms : List Nat) : List (List Int) := sortL ((allS [0] (frm ms)).map lotI)
def LowS (ms : List Nat) : Prop := ∀ m, m ∈ ms → Low m
def Srt (ls : List (List Int)) : Prop := ls.Pairwise (fun a b => HT.lexLt b a = false)
theorem aL_srt (ms : List Nat) : Srt (aL ms) := sortL_sorted _
theorem allS_low {ms : List Nat} (h : LowS ms) {x : Nat} (hx : x ∈ allS [0] (frm ms)) : Low x := spn_low (frm_low h) (all_iff.mp hx)
theorem aL_mem {ms : List Nat} {l : List Int} : l ∈ aL ms ↔ ∃ x, spn ms x ∧ l = lotI x := by
  unfold aL
  rw [(sortL_perm _).mem_iff, List.mem_map]
  refine ⟨fun ⟨x, hx, e⟩ => ⟨x, ((frm_spec ms).2 x).mp (all_iff.mp hx), e.symm⟩, fun ⟨x, hx, e⟩ => ⟨x, all_iff.mpr (((frm_spec ms).2 x).mpr hx), e.symm⟩⟩
theorem lotI_inj {a b : Nat} (ha : Low a) (hb : Low b) (e : lotI a = lotI b) : a = b := by rw [← mask_lot ha, e, mask_lot hb]
theorem aL_nodup {ms : List Nat} (h : LowS ms) : (aL ms).Nodup := by
  unfold aL
  refine (sortL_perm _).nodup_iff.mpr (List.pairwise_map.mpr ?_)
  exact (all_nodup (frm_spec ms).1).imp_of_mem fun {a b} ha hb q z => q (lotI_inj (allS_low h ha) (allS_low h hb) z)
theorem aL_len (ms : List Nat) : (aL ms).length = 2 ^ (frm ms).length := by
  unfold aL
  rw [(sortL_perm _).length_eq, List.length_map, allS_len, List.length_singleton, Nat.one_mul]
theorem srt_same {xs ys : List (List Int)} (h1 : Srt xs) (h2 : Srt ys) (n1 : xs.Nodup) (n2 : ys.Nodup) (e : ∀ l, l ∈ xs ↔ l ∈ ys) : xs = ys :=
  sortL_eq ((List.perm_ext_iff_of_nodup n1 n2).mpr e) h1 h2
theorem aL_lot {ms : List Nat} {l : List Int} (h : l ∈ aL ms) : Lot l := by
  obtain ⟨x, _, rfl⟩ := aL_mem.mp h
  exact Lot.of x
/-- these sums as masks -/
def aM (ms : List Nat) : List Nat := (aL ms).map maskN
theorem aM_lots (ms : List Nat) : (aM ms).map lotI = aL ms := masks_lots fun _ h => aL_lot h
theorem aM_lts (ms : List Nat) : lts (aM ms) = (aL ms).map lotD := by
  show ((aM ms).map lotI).map lotD = _
  rw [aM_lots]
theorem aM_mem {ms : List Nat} (h : LowS ms) {x : Nat} : x ∈ aM ms ↔ spn ms x := by
  unfold aM
  rw [List.mem_map]
  refine ⟨fun ⟨l, hl, e⟩ => ?_, fun hx => ⟨lotI x, aL_mem.mpr ⟨x, hx, rfl⟩, mask_lot (spn_low h hx)⟩⟩
  obtain ⟨y, hy, rfl⟩ := aL_mem.mp hl
  rw [mask_lot (spn_low h hy)] at e
  rw [← e]
  exact hy
theorem aM_low {ms : List Nat} (h : LowS ms) {x : Nat} (hx : x ∈ aM ms) : Low x := spn_low h ((aM_mem h).mp hx)
theorem aL_iff {ms ns : List Nat} (h1 : LowS ms) (h2 : LowS ns) : aL ms = aL ns ↔ frm ms = frm ns := by
  refine ⟨fun e => frm_same fun x => ?_, fun e => by unfold aL; rw [e]⟩
  have key : ∀ {a b : List Nat}, LowS a → LowS b → aL a = aL b → spn a x → spn b x := fun ha hb e hx => by
    have : lotI x ∈ aL _ := aL_mem.mpr ⟨x, hx, rfl⟩
    rw [e] at this
    obtain ⟨y, hy, z⟩ := aL_mem.mp this
    rw [lotI_inj (spn_low ha hx) (spn_low hb hy) z]
    exact hy
  exact ⟨key h1 h2 e, key h2 h1 e.symm⟩
theorem aL_frm {ms : List Nat} : aL (frm ms) = aL ms := by
  unfold aL
  rw [frm_self (frm_spec ms).1]
/-- a part of such a list, by what it keeps -/
theorem part_same {ms ns : List Nat} (h1 : LowS ms) (h2 : LowS ns) (p : Nat → Bool) (e : ∀ x, spn ns x ↔ spn ms x ∧ p x = true) : ((aM ms).filter p).map lotI = aL ns := by
  have hs : (((aM ms).filter p).map lotI).Sublist (aL ms) := by
    rw [← aM_lots ms]
    exact List.filter_sublist.map _
  refine srt_same (List.Pairwise.sublist hs (aL_srt ms)) (aL_srt ns) (List.Pairwise.sublist hs (aL_nodup h1)) (aL_nodup h2) fun l => ?_
  rw [List.mem_map, aL_mem]
  refine ⟨fun ⟨x, hx, z⟩ => ?_, fun ⟨x, hx, z⟩ => ?_⟩
  · rw [List.mem_filter] at hx
    exact ⟨x, (e x).mpr ⟨(aM_mem h1).mp hx.1, hx.2⟩, z.symm⟩
  · obtain ⟨q1, q2⟩ := (e x).mp hx
    exact ⟨x, List.mem_filter.mpr ⟨(aM_mem h1).mpr q1, q2⟩, z.symm⟩
/-- all lines, one in a lot -/
def units (m : Nat) : List Nat := (List.range m).map fun k => 2 ^ k
theorem units_spn : ∀ (m x : Nat), spn (units m) x ↔ x < 2 ^ m := fun m => by
  induction m with
  | zero =>
    intro x
    show x = 0 ↔ x < 1
    omega
  | succ m ih =>
    intro x
    have e : units (m + 1) = units m ++ [2 ^ m] := by
      unfold units
      rw [List.range_succ, List.map_append]
      rfl
    rw [e, spn_app]
    have one : ∀ b, spn [2 ^ m] b ↔ b = 0 ∨ b = 2 ^ m := fun b => by
      show (b = 0 ∨ b ^^^ 2 ^ m = 0) ↔ _
      refine or_congr_right ⟨fun z => ?_, fun z => by rw [z, Nat.xor_self]⟩
      have := congrArg (· ^^^ 2 ^ m) z
      simp only [xor_r, Nat.zero_xor] at this
      exact this
    refine ⟨fun ⟨a, b, ha, hb, z⟩ => ?_, fun hx => ?_⟩
    · have h1 := (ih a).mp ha
      rw [z]
      refine Nat.xor_lt_two_pow (Nat.lt_of_lt_of_le h1 (Nat.pow_le_pow_right (by decide) (Nat.le_succ m))) ?_
      rcases (one b).mp hb with rfl | rfl
      · exact Nat.two_pow_pos _
      · exact Nat.pow_lt_pow_right (by decide) (Nat.lt_succ_self m)
    · by_cases c : x.testBit m = true
      · refine ⟨x ^^^ 2 ^ m, 2 ^ m, (ih _).mpr ?_, (one _).mpr (.inr rfl), (xor_r x _).symm⟩
        refine Nat.lt_pow_two_of_testBit _ fun i hi => ?_
        rw [Nat.testBit_xor, Nat.testBit_two_pow]
        by_cases q : m = i
        · subst q
          rw [c]
          simp
        · rw [decide_eq_false q, Bool.xor_false]
          exact Nat.testBit_lt_two_pow (Nat.lt_of_lt_of_le hx (Nat.pow_le_pow_right (by decide) (by omega)))
      · refine ⟨x, 0, (ih x).mpr ?_, (one _).mpr (.inl rfl), (Nat.xor_zero x).symm⟩
        refine Nat.lt_pow_two_of_testBit _ fun i hi => ?_
        by_cases q : m = i
        · subst q
          simpa using c
        · exact Nat.testBit_lt_two_pow (Nat.lt_of_lt_of_le hx (Nat.pow_le_pow_right (by decide) (by omega)))
theorem dot_all {m y : Nat} {rs : List Nat} : (∀ r, r ∈ rs → dot m r y = false) ↔ ∀ x, spn rs x → dot m x y = false := by
  refine ⟨fun h x hx => ?_, fun h r hr => h r (spn_mem hr)⟩
  rw [dot_comm]
  exact dot_spn (fun r hr => by rw [dot_comm]; exact h r hr) hx
theorem opp_all {m : Nat} {ms : List Nat} (hm : m ≤ 24) (h : ∀ r, r ∈ ms → r < 2 ^ m) (y : Nat) : spn (opp m ms) y ↔ y < 2 ^ m ∧ ∀ x, spn ms x → dot 24 x y = false := by
  rw [opp_spn h, dot_all]
  refine ⟨fun ⟨a, b⟩ => ⟨a, fun x hx => by rw [dot_up a hm]; exact b x (((frm_spec ms).2 x).mpr hx)⟩, fun ⟨a, b⟩ => ⟨a, fun x hx => by rw [← dot_up a hm]; exact b x (((frm_spec ms).2 x).mp hx)⟩⟩
/-! ### in a list of lots; lists that stand -/
theorem in_lotsL {S : Sto} {j : Nat} (l : List Int) {ls : List (List Int)} (hj : (S[j]?).bind SO.seq? = some (ls.map lotD)) : inD S (lotD l) (.ref j) = some (decide (l ∈ ls)) := by
  have p1 : py S (lotD l) = some (lotP l) := by
    show (pyL (rdS S 8) (l.map .int)).map PyData.tuple = _
    rw [pyL_ints]
    rfl
  have p2 : py S (.ref j) = some (.list (ls.map lotP)) := by
    show pyD (rdS S 8) (.ref j) = _
    rw [pyD]
    exact rdS_lots hj
  have key : ∀ ls : List (List Int), ((ls.map lotP).any fun z => PyData.eqv z (lotP l)) = decide (l ∈ ls) := fun ls => by
    induction ls with
    | nil => simp
    | cons x r ih =>
      rw [List.map_cons, List.any_cons, ih]
      have : PyData.eqv (lotP x) (lotP l) = decide (x = l) := by
        have := eqvAll_ints x l
        rw [PyData.eqv]
        exact this
      rw [this]
      by_cases q : x = l
      · subst q
        simp
      · simp [q, Ne.symm q]
  unfold inD
  have hi : itemsOf S (.ref j) = some (ls.map lotD) := hj
  rw [hi]
  simp only [Option.bind_some]
  have hf : (flatD (lotD l) && (ls.map lotD).all flatD) = false := rfl
  rw [if_neg (by rw [hf]; decide), p1, p2]
  simp only
  rw [shaped_lotsL, shaped_ints, if_pos (by rfl), key]
theorem vd_cmpV {φ : Phi} {env : Ev} {a : Ex} {S S1 : Sto} {xs ys : List (List Int)} {v j : Nat} (h1 : Vl φ env a S (xs.map lotD) S1) (hv : getV env v = some (.ref j)) (hj : LstAt S1 j (ys.map lotD)) :
    Vd φ env (.cmp .Eq a (.var v)) S (.bl (decide (xs = ys))) S1 ∧ Vd φ env (.cmp .NotEq a (.var v)) S (.bl (!decide (xs = ys))) S1 := by
  have q1 : ((S1 ++ [SO.lst (xs.map lotD)])[S1.length]?).bind SO.seq? = some (xs.map lotD) := by simp [SO.seq?]
  have q2 : ((S1 ++ [SO.lst (xs.map lotD)])[j]?).bind SO.seq? = some (ys.map lotD) := by
    have := hj.app (t := [SO.lst (xs.map lotD)])
    unfold LstAt at this
    rw [this]
    rfl
  obtain ⟨c1, c2⟩ := eqD_ref .Eq q1 q2
  exact ⟨⟨fun base => by rw [e_cmp (h1.ev _) (ev_var hv), c1]; exact gc_lenA rfl h1.len, rfl, h1.len⟩, ⟨fun base => by rw [e_cmp (h1.ev _) (ev_var hv), c2]; exact gc_lenA rfl h1.len, rfl, h1.len⟩⟩
theorem vd_cmpVV {φ : Phi} {env : Ev} {S : Sto} {xs ys : List (List Int)} {u v i j : Nat} (hu : getV env u = some (.ref i)) (hi : LstAt S i (xs.map lotD)) (hv : getV env v = some (.ref j)) (hj : LstAt S j (ys.map lotD)) :
    Vd φ env (.cmp .Eq (.var u) (.var v)) S (.bl (decide (xs = ys))) S := by
  have q : ∀ {k : Nat} {zs : List (List Int)}, LstAt S k (zs.map lotD) → (S[k]?).bind SO.seq? = some (zs.map lotD) := fun h => by
    unfold LstAt at h
    rw [h]
    rfl
  exact ⟨fun base => by rw [e_cmp (ev_var hu) (ev_var hv), (eqD_ref .Eq (q hi) (q hj)).1]; exact gc_len rfl rfl, rfl, rfl⟩
theorem vd_lenV {φ : Phi} {env : Ev} {S : Sto} {xs : List D} {v j : Nat} (hv : getV env v = some (.ref j)) (hj : LstAt S j xs) : Vd φ env (.blt .len (.cons (.var v) .nil)) S (.int xs.length) S := ⟨fun base => by
  rw [e_blt (as1 (ev_var hv))]
  have : itemsOf S (.ref j) = some xs := by
    show (S[j]?).bind SO.seq? = _
    unfold LstAt at hj
    rw [hj]
    rfl
  show gc S.length ((itemsOf S (.ref j)).map fun xs => (.int xs.length, S)) = _
  rw [this]
  exact gc_len rfl rfl, rfl, rfl⟩
theorem vl_all {n : Nat} {env : Ev} {a : Ex} {S S1 : Sto} {ms : List Nat} (F : LoL T) (h : Vd (run T (n + 3)) env a S (.tup (lts ms)) S1) (hm : LowS ms) (hl : ms.length ≤ 400) (h2 : 2 ^ (frm ms).length ≤ 1000) : Vl (run T (n + 3)) env (.call "_law_lo_all" (.cons a .nil)) S ((aL ms).map lotD) S1 :=
  vl_call0 (as1 (h.ev _)) (lo_all F n ms S1 hm hl h2) (cl_lots _) h.len
end G
end
section
set_option Elab.async false
set_option linter.all false
set_option autoImplicit false
set_option maxHeartbeats 4000000
/-! the judge of two tuples of few lines -/
namespace G
open PySem L2 Z M
variable {T : Txt}
def kall_1 : Ox := (.yes (.cmp .In (.var 9) (.var 7)))
def kall_2 : Ox := (.yes (.call "_law_lo_is_odd" (.cons (.var 11) (.cons (.var 9) .nil))))
def kall_3 : Ox := (.yes (.cmp .Eq (.lc [11] (.nm 11) (.ex (.var 6)) kall_2 (.var 11)) (.lst .nil)))
def kall_4 : Ex := (.tup (.cons (.var 10) .nil))
def kall : Ss := (.cons (.set 1 (.bin .Add (.int 1) (.call "_law_roll" (.cons (.var 0) (.cons (.int 7) .nil))))) (.cons (.par 4 5 (.call "_law_lots" (.cons (.var 0) (.cons (.var 1) .nil))) (.call "_law_lots" (.cons (.var 0) (.cons (.var 1) .nil)))) (.cons (.unp [6, 7, 8] (.tup (.cons (.call "_law_lo_all" (.cons (.var 4) .nil)) (.cons (.call "_law_lo_all" (.cons (.var 5) .nil)) (.cons (.call "_law_lo_all" (.cons (.blt .tuple (.cons (.lc [10] (.nm 10) (.rng1 (.var 1)) .no kall_4) .nil)) .nil)) .nil))))) (.cons (.ifs (.or (.cmp .NotEq (.call "_law_lo_all" (.cons (.call "form_of" (.cons (.var 4) .nil)) .nil)) (.var 6)) (.cmp .NotEq (.blt .len (.cons (.var 6) .nil)) (.blt .len (.cons (.call "_law_lo_all" (.cons (.call "form_of" (.cons (.var 4) .nil)) .nil)) .nil)))) (.cons (.ret (.bl false)) .nil) .nil) (.cons (.set 2 (.lc [9] (.nm 9) (.ex (.var 8)) kall_3 (.var 9))) (.cons (.ifs (.or (.cmp .NotEq (.call "_law_lo_all" (.cons (.call "opposite_form" (.cons (.var 1) (.cons (.var 4) .nil))) .nil)) (.var 2)) (.cmp .NotEq (.cmp .Eq (.call "form_of" (.cons (.var 4) .nil)) (.call "form_of" (.cons (.var 5) .nil))) (.cmp .Eq (.var 6) (.var 7)))) (.cons (.ret (.bl false)) .nil) .nil) (.cons (.set 3 (.call "common_form" (.cons (.var 4) (.cons (.var 5) .nil)))) (.cons (.ifs (.or (.not (.call "_law_has_shape" (.cons (.var 3) .nil))) (.cmp .NotEq (.call "_law_lo_all" (.cons (.var 3) .nil)) (.lc [9] (.nm 9) (.ex (.var 6)) kall_1 (.var 9)))) (.cons (.ret (.bl false)) .nil) .nil) (.cons (.ret (.cmp .Eq (.bin .Add (.blt .len (.cons (.var 3) .nil)) (.blt .len (.cons (.call "form_of" (.cons (.bin .Add (.var 4) (.var 5)) .nil)) .nil))) (.bin .Add (.blt .len (.cons (.call "form_of" (.cons (.var 4) .nil)) .nil)) (.blt .len (.cons (.call "form_of" (.cons (.var 5) .nil)) .nil))))) .nil)))))))))
structure LoW (T : Txt) : Prop extends LoR T where
  law_all_right : Is T "_law_all_right" ⟨1, 12, kall⟩
/-- each line alone -/
theorem ev_units {φ : Phi} {env : Ev} {S : Sto} {m : Nat} (x0 x2 x3 x4 x5 x6 x7 x8 x9 x11 : Option D) (hE : env = [x0, some (.int (m : Int)), x2, x3, x4, x5, x6, x7, x8, x9, none, x11]) (hm : m ≤ 24) :
    Vd φ env (.blt .tuple (.cons (.lc [10] (.nm 10) (.rng1 (.var 1)) .no kall_4) .nil)) S (.tup (lts (units m))) S := by
  have g1 : getV env 1 = some (.int (m : Int)) := by rw [hE]; rfl
  have it := ev_rng1 (φ := φ) (base := S.length) (env := env) (S := S) (vd_var g1 rfl) (rg_small (by omega) (by omega))
  rw [Int.toNat_natCast, rgI_map, List.map_map] at it
  have hm2 := lc_map (step := lcS φ S.length env [10] (.nm 10) .no kall_4) (ok := fun S2 => Z.still S2 none ((List.range m).map (D.int ∘ fun k : Nat => (0 : Int) + (k : Int)))) (S := S) (D.int ∘ fun k : Nat => (0 : Int) + (k : Int)) (fun k : Nat => lotD (lotI (2 ^ k))) rfl (List.range m) [] (by rw [List.length_range, List.length_nil]; show _ ≤ 100000; omega) fun k hk => by
    have hk24 : k < 24 := by have := List.mem_range.mp hk; omega
    have e0 : evE φ S.length [x0, some (.int (m : Int)), x2, x3, x4, x5, x6, x7, x8, x9, some (.int (k : Int)), x11] kall_4 S = some (lotD [(k : Int)], S) := by
      unfold kall_4
      rw [evE, as1 (ev_var rfl)]
      simp only
      rw [if_pos (by show 1 ≤ 100000; decide)]
      exact gc_len rfl rfl
    have eL : lotI (2 ^ k) = [(k : Int)] := asc_same (lotI_asc _) (by simp) fun i => by
      rw [lotI_mem, Nat.testBit_two_pow, List.mem_singleton]
      refine ⟨fun ⟨a, b, c⟩ => ?_, fun z => ?_⟩
      · have := of_decide_eq_true c
        omega
      · subst z
        exact ⟨by omega, by omega, by simp⟩
    rw [eL, hE]
    simp only [Function.comp_apply, Int.zero_add]
    exact turn_no rfl e0
  rw [List.nil_append] at hm2
  have e : (List.range m).map (fun k : Nat => lotD (lotI (2 ^ k))) = lts (units m) := by
    unfold lts units
    rw [List.map_map, List.map_map]
    rfl
  rw [e] at hm2
  exact vd_tuple (lc_vl (φ := φ) rfl it rfl hm2 (cl_lts _) rfl)
theorem units_low {m : Nat} (hm : m ≤ 24) : LowS (units m) := fun x hx => Nat.lt_of_lt_of_le ((units_spn m x).mp (spn_mem hx)) (Nat.pow_le_pow_right (by decide) hm)
/-- what meets all sums evenly -/
theorem ev_evenly (W : LoB T) (n : Nat) {S : Sto} {i6 i8 : Nat} {A U : List Nat} (x0 x1 x3 x4 x5 x7 x10 : Option D) (h6 : LstAt S i6 (lts A)) (h8 : LstAt S i8 (lts U)) (hA : LowS A) (hU : LowS U) (l1 : A.length ≤ 500) (l2 : U.length ≤ 500) :
    Vl (run T (n + 1)) [x0, x1, none, x3, x4, x5, some (.ref i6), x7, some (.ref i8), none, x10, none] (.lc [9] (.nm 9) (.ex (.var 8)) kall_3 (.var 9)) S (lts (U.filter fun y => decide (A.filter (fun x => dot 24 x y) = []))) S := by
  refine ⟨fun base => ?_, cl_lts _, rfl⟩
  have := lc_lots (φ := run T (n + 1)) (base := base) (j := i8) (v := 8) (env := [x0, x1, none, x3, x4, x5, some (.ref i6), x7, some (.ref i8), none, x10, none]) (own := [9]) (g := .nm 9) (c := kall_3) (e := .var 9) (ms := U) (S := S) (fun y => decide (A.filter (fun x => dot 24 x y) = [])) (fun y => y) rfl h8 rfl (by omega) fun y hy => ?_
  · rw [this, List.map_id']
  · obtain ⟨E, hE⟩ : ∃ E : Ev, E = [x0, x1, none, x3, x4, x5, some (.ref i6), x7, some (.ref i8), some (lotD (lotI y)), x10, none] := ⟨_, rfl⟩
    have e2 : ∀ base, evE (run T (n + 1)) base E (.lc [11] (.nm 11) (.ex (.var 6)) kall_2 (.var 11)) S = some (.ref S.length, S ++ [.lst (((A.filter fun x => dot 24 x y).map lotI).map lotD)]) := fun base => by
      have := lc_lots (φ := run T (n + 1)) (base := base) (j := i6) (v := 6) (env := E) (own := [11]) (g := .nm 11) (c := kall_2) (e := .var 11) (ms := A) (S := S) (fun x => dot 24 x y) (fun y => y) rfl h6 (by rw [hE]; rfl) (by omega) fun x hx => ?_
      · rw [this, List.map_id']
      · have e0 : evE (run T (n + 1)) S.length [x0, x1, none, x3, x4, x5, some (.ref i6), x7, some (.ref i8), some (lotD (lotI y)), x10, some (lotD (lotI x))] (.call "_law_lo_is_odd" (.cons (.var 11) (.cons (.var 9) .nil))) S = some (.bl (dot 24 x y), S) := by
          rw [e_call (as2 (ev_var rfl) (ev_var rfl)), lo_odd W n x y S (hA x hx) (hU y hy)]
          exact gc_blS
        rw [hE]
        exact turn_yes rfl e0 (ev_var rfl)
    have e3 := (vd_isnil ⟨e2, cl_lots _, rfl⟩).1.ev S.length
    have hq : decide ((A.filter fun x => dot 24 x y).map lotI = []) = decide (A.filter (fun x => dot 24 x y) = []) := by
      rw [Bool.eq_iff_iff, decide_eq_true_eq, decide_eq_true_eq, List.map_eq_nil_iff]
    rw [hq, hE] at e3
    exact turn_yes rfl e3 (ev_var rfl)
/-- what is in the other list, too -/
theorem ev_both {φ : Phi} {S : Sto} {i6 i7 : Nat} {A : List Nat} {ns : List (List Int)} (x0 x1 x2 x3 x4 x5 x8 x10 x11 : Option D) (h6 : LstAt S i6 (lts A)) (h7 : LstAt S i7 (ns.map lotD)) (l1 : A.length ≤ 500) :
    ∀ base, evE φ base [x0, x1, x2, x3, x4, x5, some (.ref i6), some (.ref i7), x8, none, x10, x11] (.lc [9] (.nm 9) (.ex (.var 6)) kall_1 (.var 9)) S = some (.ref S.length, S ++ [.lst (lts (A.filter fun x => decide (lotI x ∈ ns)))]) := fun base => by
  have := lc_lots (φ := φ) (base := base) (j := i6) (v := 6) (env := [x0, x1, x2, x3, x4, x5, some (.ref i6), some (.ref i7), x8, none, x10, x11]) (own := [9]) (g := .nm 9) (c := kall_1) (e := .var 9) (ms := A) (S := S) (fun x => decide (lotI x ∈ ns)) (fun y => y) rfl h6 rfl (by omega) fun x hx => ?_
  · rw [this, List.map_id']
  · have hj : (S[i7]?).bind SO.seq? = some (ns.map lotD) := by
      unfold LstAt at h7
      rw [h7]
      rfl
    have q := in_lotsL (S := S) (lotI x) hj
    obtain ⟨d, hd⟩ : ∃ d, d = lotD (lotI x) := ⟨_, rfl⟩
    rw [← hd] at q ⊢
    refine turn_yes (k := decide (lotI x ∈ ns)) rfl ?_ (ev_var rfl)
    rw [e_cmp (ev_var rfl) (ev_var rfl)]
    show gc S.length ((inD S d (.ref i7)).map fun z => (.bl z, S)) = _
    rw [q]
    exact gc_blS
end G
end
section
set_option Elab.async false
set_option linter.all false
set_option autoImplicit false
set_option maxHeartbeats 4000000
/-! the judge of two tuples of few lines, its whole run -/
namespace G
open PySem L2 Z M
variable {T : Txt}
theorem cmp_bls {S : Sto} {a b : Bool} : cmpF .NotEq (.bl a) (.bl b) S = some (!decide (a = b)) := by
  show (eqD S (.bl a) (.bl b)).map (!·) = _
  rw [eqD_bl]
  rfl
theorem lstAt2 {S : Sto} {a b c : List D} : LstAt (S ++ [SO.lst a, .lst b, .lst c]) S.length a ∧ LstAt (S ++ [SO.lst a, .lst b, .lst c]) (S.length + 1) b ∧ LstAt (S ++ [SO.lst a, .lst b, .lst c]) (S.length + 2) c := by
  refine ⟨?_, ?_, ?_⟩ <;> (unfold LstAt; rw [List.getElem?_append_right (by omega)])
  · rw [Nat.sub_self]; rfl
  · rw [show S.length + 1 - S.length = 1 by omega]; rfl
  · rw [show S.length + 2 - S.length = 2 by omega]; rfl
theorem bel_maskS {m : Nat} {ls : List (List Int)} (h : ∀ l, l ∈ ls → Bel m l) : ∀ r, r ∈ ls.map maskN → r < 2 ^ m := fun r hr => by
  obtain ⟨l, hl, rfl⟩ := List.mem_map.mp hr
  exact (h l hl).low
theorem lowS_of {m : Nat} {ms : List Nat} (h : ∀ r, r ∈ ms → r < 2 ^ m) (hm : m ≤ 24) : LowS ms := fun r hr => Nat.lt_of_lt_of_le (h r hr) (Nat.pow_le_pow_right (by decide) hm)
theorem frm_le_m {m : Nat} {ms : List Nat} (h : ∀ r, r ∈ ms → r < 2 ^ m) : (frm ms).length ≤ m := by
  have := opp_len h
  omega
theorem com_spn {ms ns : List Nat} (h1 : LowS ms) (h2 : LowS ns) : Form (car 32 (frm (ms.map (dbl 32) ++ ns))) ∧ (∀ x, spn (car 32 (frm (ms.map (dbl 32) ++ ns))) x ↔ spn ms x ∧ spn ns x) ∧ (car 32 (frm (ms.map (dbl 32) ++ ns))).length + (frm (ms ++ ns)).length = (frm ms).length + (frm ns).length := by
  have f := frm_spec (ms.map (dbl 32) ++ ns)
  have up : ∀ {m : Nat}, Low m → m < 2 ^ 32 := fun h => Nat.lt_of_lt_of_le h (by decide)
  exact ⟨car_form f.1, car_spn f.1 f.2 (fun r hr => up (h1 r hr)) (fun r hr => up (h2 r hr)), dim f.1 f.2 (fun r hr => up (h1 r hr)) (fun r hr => up (h2 r hr))⟩
theorem vd_com {n : Nat} {env : Ev} {a b : Ex} {S S1 S2 : Sto} {ls ns : List (List Int)} (L : Lots T) (h1 : Vd (run T (n + 6)) env a S (lotsD ls) S1) (h2 : Vd (run T (n + 6)) env b S1 (lotsD ns) S2) (q1 : ∀ l, l ∈ ls → Lot l) (q2 : ∀ l, l ∈ ns → Lot l) (l1 : ls.length ≤ 64) (l2 : ns.length ≤ 64) (ht : S2[1]? = some (.tbl "reduced")) :
    Vd (run T (n + 6)) env (.call "common_form" (.cons a (.cons b .nil))) S (.tup (lts (car 32 (frm ((ls.map maskN).map (dbl 32) ++ ns.map maskN))))) S2 :=
  ⟨fun base => by rw [e_call (as2 (h1.ev _) (h2.ev _)), common_form L n ls ns S2 q1 q2 l1 l2 ht]; exact gc_len (cl_lots _) (h2.len.trans h1.len), cl_lots _, h2.len.trans h1.len⟩
theorem vd_catT {φ : Phi} {env : Ev} {a b : Ex} {S S1 S2 : Sto} {ls ns : List (List Int)} (h1 : Vd φ env a S (lotsD ls) S1) (h2 : Vd φ env b S1 (lotsD ns) S2) (l : ls.length + ns.length ≤ 1000) : Vd φ env (.bin .Add a b) S (lotsD (ls ++ ns)) S2 := by
  refine vd_bin h1 h2 ?_ (cl_lots _)
  show (if (ls.map lotD).length + (ns.map lotD).length ≤ lim then some (D.tup (ls.map lotD ++ ns.map lotD), S2) else none) = _
  rw [if_pos (by rw [List.length_map, List.length_map]; show _ ≤ 100000; omega), ← List.map_append]
theorem all_right (W : LoW T) (L : Lots T) (n : Nat) {i : Nat} {s K : Int} {S : Sto} (h : DD S i s K) (hK : K < 2 ^ 29) (ht : S[1]? = some (.tbl "reduced")) :
    ∃ S', run T (n + 7) "_law_all_right" [.ref i] S = some (.bl true, S') ∧ To i S S' ∧ DD S' i s (K + 900) := by
  rw [W.law_all_right]
  have hi := h.lt
  obtain ⟨φ, hφ⟩ : ∃ φ, φ = run T (n + 6) := ⟨_, rfl⟩
  obtain ⟨E0, hE0⟩ : ∃ E : Ev, E = [some (.ref i), none, none, none, none, none, none, none, none, none, none, none] := ⟨_, rfl⟩
  -- how many lines
  obtain ⟨r, S1, e1, r0, r1, t1, h1⟩ := rollD W.toDrw (n + 5) (most := 7) h (by omega) (by decide) (by decide)
  rw [← hφ] at e1
  obtain ⟨m, hm⟩ : ∃ m : Nat, (m : Int) = 1 + r := ⟨(1 + r).toNat, by omega⟩
  have hm7 : 1 ≤ m ∧ m ≤ 7 := by omega
  have v1 : Vd φ E0 (.bin .Add (.int 1) (.call "_law_roll" (.cons (.var 0) (.cons (.int 7) .nil)))) S (.int (m : Int)) S1 := by
    rw [hm]
    exact vd_bin vd_int (vd_call (as2 (ev_var (by rw [hE0]; rfl)) e_int) e1 rfl t1.len) rfl rfl
  obtain ⟨E1, hE1⟩ : ∃ E : Ev, E = [some (.ref i), some (.int (m : Int)), none, none, none, none, none, none, none, none, none, none] := ⟨_, rfl⟩
  have x1 : ex1 φ S.length (.set 1 (.bin .Add (.int 1) (.call "_law_roll" (.cons (.var 0) (.cons (.int 7) .nil))))) E0 S = some (.nx, E1, S1) := by
    rw [x_set (v1.ev _), hE0, hE1]
    rfl
  -- two tuples
  obtain ⟨ls, S2, e2, b2, l2, t2, h2⟩ := law_lots W.toLoT (n + 3) m h1 (by omega) (by omega)
  obtain ⟨ns, S3, e3, b3, l3, t3, h3⟩ := law_lots W.toLoT (n + 3) m h2 (by omega) (by omega)
  rw [← hφ] at e2 e3
  have g0 : getV E1 0 = some (.ref i) := by rw [hE1]; rfl
  have g1 : getV E1 1 = some (.int (m : Int)) := by rw [hE1]; rfl
  have v2 : Vd φ E1 (.call "_law_lots" (.cons (.var 0) (.cons (.var 1) .nil))) S1 (lotsD ls) S2 := vd_call (as2 (ev_var g0) (ev_var g1)) e2 (cl_lots _) t2.len
  have v3 : Vd φ E1 (.call "_law_lots" (.cons (.var 0) (.cons (.var 1) .nil))) S2 (lotsD ns) S3 := vd_call (as2 (ev_var g0) (ev_var g1)) e3 (cl_lots _) t3.len
  obtain ⟨p, hp⟩ : ∃ p, p = lotsD ls := ⟨_, rfl⟩
  obtain ⟨q, hq⟩ : ∃ q, q = lotsD ns := ⟨_, rfl⟩
  obtain ⟨E2, hE2⟩ : ∃ E : Ev, E = [some (.ref i), some (.int (m : Int)), none, none, some p, some q, none, none, none, none, none, none] := ⟨_, rfl⟩
  have x2 : ex1 φ S.length (.par 4 5 (.call "_law_lots" (.cons (.var 0) (.cons (.var 1) .nil))) (.call "_law_lots" (.cons (.var 0) (.cons (.var 1) .nil)))) E1 S1 = some (.nx, E2, S3) := by
    rw [ex1, v2.ev]
    simp only [v3.ev]
    rw [hE1, hE2, hp, hq]
    rfl
  obtain ⟨ms, hms⟩ : ∃ x, x = ls.map maskN := ⟨_, rfl⟩
  obtain ⟨os, hos⟩ : ∃ x, x = ns.map maskN := ⟨_, rfl⟩
  have hls : ls = ms.map lotI := by rw [hms, masks_lots fun l z => (b2 l z).1]
  have hns : ns = os.map lotI := by rw [hos, masks_lots fun l z => (b3 l z).1]
  have km : ∀ r, r ∈ ms → r < 2 ^ m := by rw [hms]; exact bel_maskS b2
  have ko : ∀ r, r ∈ os → r < 2 ^ m := by rw [hos]; exact bel_maskS b3
  have lm := lowS_of km (by omega)
  have lo := lowS_of ko (by omega)
  have lu := units_low (m := m) (by omega)
  have pow7 : ∀ {k : Nat}, k ≤ 7 → 2 ^ k ≤ 128 := fun h => Nat.pow_le_pow_right (by decide) h
  have fm := frm_le_m km
  have fo := frm_le_m ko
  have fu : (frm (units m)).length ≤ m := frm_le_m fun r hr => (units_spn m r).mp (spn_mem hr)
  have em : ms.length ≤ 8 := by rw [hms, List.length_map]; exact l2
  have eo : os.length ≤ 8 := by rw [hos, List.length_map]; exact l3
  have hL3 : S3.length = S.length := t3.len.trans (t2.len.trans t1.len)
  have ht3 : S3[1]? = some (.tbl "reduced") := t3.tab h2 (t2.tab h1 (t1.tab h ht))
  have pl : p = .tup (lts ms) := by rw [hp, hls]
  have ql : q = .tup (lts os) := by rw [hq, hns]
  -- all sums
  have c4 : ∀ S, Vl φ E2 (.call "_law_lo_all" (.cons (.var 4) .nil)) S ((aL ms).map lotD) S := fun S => by
    rw [hφ]
    exact vl_all W.toLoL (n := n + 3) (vd_var (by rw [hE2, pl]; rfl) (cl_lts _)) lm (by omega) (by have := pow7 (show (frm ms).length ≤ 7 by omega); omega)
  have c5 : ∀ S, Vl φ E2 (.call "_law_lo_all" (.cons (.var 5) .nil)) S ((aL os).map lotD) S := fun S => by
    rw [hφ]
    exact vl_all W.toLoL (n := n + 3) (vd_var (by rw [hE2, ql]; rfl) (cl_lts _)) lo (by omega) (by have := pow7 (show (frm os).length ≤ 7 by omega); omega)
  have c6 : ∀ S, Vl φ E2 (.call "_law_lo_all" (.cons (.blt .tuple (.cons (.lc [10] (.nm 10) (.rng1 (.var 1)) .no kall_4) .nil)) .nil)) S ((aL (units m)).map lotD) S := fun S => by
    have hu := ev_units (φ := φ) (S := S) (m := m) (some (.ref i)) none none (some p) (some q) none none none none none hE2 (by omega)
    rw [hφ] at hu ⊢
    exact vl_all W.toLoL (n := n + 3) hu lu (by unfold units; rw [List.length_map, List.length_range]; omega) (by have := pow7 (show (frm (units m)).length ≤ 7 by omega); omega)
  obtain ⟨A, hA⟩ : ∃ x, x = (aL ms).map lotD := ⟨_, rfl⟩
  obtain ⟨B, hB⟩ : ∃ x, x = (aL os).map lotD := ⟨_, rfl⟩
  obtain ⟨U, hU⟩ : ∃ x, x = (aL (units m)).map lotD := ⟨_, rfl⟩
  obtain ⟨S4, hS4⟩ : ∃ x, x = S3 ++ [SO.lst A, .lst B, .lst U] := ⟨_, rfl⟩
  obtain ⟨E3, hE3⟩ : ∃ E : Ev, E = [some (.ref i), some (.int (m : Int)), none, none, some p, some q, some (.ref S.length), some (.ref (S.length + 1)), some (.ref (S.length + 2)), none, none, none] := ⟨_, rfl⟩
  have x3 : ex1 φ S.length (.unp [6, 7, 8] (.tup (.cons (.call "_law_lo_all" (.cons (.var 4) .nil)) (.cons (.call "_law_lo_all" (.cons (.var 5) .nil)) (.cons (.call "_law_lo_all" (.cons (.blt .tuple (.cons (.lc [10] (.nm 10) (.rng1 (.var 1)) .no kall_4) .nil)) .nil)) .nil))))) E2 S3 = some (.nx, E3, S4) := by
    have d1 := (c4 S3).ev S3.length
    have d2 := (c5 (S3 ++ [.lst A])).ev S3.length
    have d3 := (c6 (S3 ++ [.lst A] ++ [.lst B])).ev S3.length
    rw [← hA] at d1
    rw [← hB] at d2
    rw [← hU] at d3
    have ea : evE φ S.length E2 (.tup (.cons (.call "_law_lo_all" (.cons (.var 4) .nil)) (.cons (.call "_law_lo_all" (.cons (.var 5) .nil)) (.cons (.call "_law_lo_all" (.cons (.blt .tuple (.cons (.lc [10] (.nm 10) (.rng1 (.var 1)) .no kall_4) .nil)) .nil)) .nil)))) S3 = some (.tup [.ref S.length, .ref (S.length + 1), .ref (S.length + 2)], S4) := by
      rw [evE, as3 d1 d2 d3]
      simp only
      rw [if_pos (by show 3 ≤ 100000; decide)]
      have hw : S3 ++ [SO.lst A] ++ [SO.lst B] ++ [SO.lst U] = S4 := by rw [hS4]; simp
      rw [hw]
      have hr : [D.ref S3.length, .ref (S3 ++ [SO.lst A]).length, .ref (S3 ++ [SO.lst A] ++ [SO.lst B]).length] = [D.ref S.length, .ref (S.length + 1), .ref (S.length + 2)] := by
        simp [hL3]
      rw [hr]
      unfold gc
      have hc : D.cl S3.length (.tup [.ref S.length, .ref (S.length + 1), .ref (S.length + 2)]) = false := by
        show (decide (S.length < S3.length) && _) = false
        rw [decide_eq_false (by omega)]
        rfl
      simp only [hc]
      rfl
    rw [ex1, ea]
    simp only
    rw [hE2, hE3]
    rfl
  obtain ⟨la, lb, lc⟩ := lstAt2 (S := S3) (a := A) (b := B) (c := U)
  rw [← hS4, hL3] at la lb lc
  have ht4 : S4[1]? = some (.tbl "reduced") := by
    rw [hS4, List.getElem?_append_left (List.getElem?_eq_some_iff.mp ht3).1]
    exact ht3
  -- what stands in the names
  have y1 : ∀ E : Ev, getV E 1 = some (.int (m : Int)) → ∀ S, Vd φ E (.var 1) S (.int (m : Int)) S := fun E hv S => vd_var hv rfl
  have y4 : ∀ E : Ev, getV E 4 = some p → ∀ S, Vd φ E (.var 4) S (lotsD ls) S := fun E hv S => vd_var (by rw [hv, hp]) (cl_lots _)
  have y5 : ∀ E : Ev, getV E 5 = some q → ∀ S, Vd φ E (.var 5) S (lotsD ns) S := fun E hv S => vd_var (by rw [hv, hq]) (cl_lots _)
  have z4 : ∀ E : Ev, getV E 4 = some p → ∀ S, S[1]? = some (.tbl "reduced") → Vd φ E (.call "form_of" (.cons (.var 4) .nil)) S (.tup (lts (frm ms))) S := fun E hv S hS => by
    have := y4 E hv S
    rw [hφ] at this ⊢
    rw [hms]
    exact vd_form L this (fun l z => (b2 l z).1) (by omega) hS
  have z5 : ∀ E : Ev, getV E 5 = some q → ∀ S, S[1]? = some (.tbl "reduced") → Vd φ E (.call "form_of" (.cons (.var 5) .nil)) S (.tup (lts (frm os))) S := fun E hv S hS => by
    have := y5 E hv S
    rw [hφ] at this ⊢
    rw [hos]
    exact vd_form L this (fun l z => (b3 l z).1) (by omega) hS
  have w4 : ∀ E : Ev, getV E 4 = some p → ∀ S, S[1]? = some (.tbl "reduced") → Vl φ E (.call "_law_lo_all" (.cons (.call "form_of" (.cons (.var 4) .nil)) .nil)) S ((aL ms).map lotD) S := fun E hv S hS => by
    have := z4 E hv S hS
    rw [hφ] at this ⊢
    rw [← aL_frm]
    refine vl_all W.toLoL (n := n + 3) this (frm_low lm) (by omega) ?_
    rw [frm_self (frm_spec ms).1]
    have := pow7 (show (frm ms).length ≤ 7 by omega)
    omega
  have f6 : getV E3 6 = some (.ref S.length) := by rw [hE3]; rfl
  have f7 : getV E3 7 = some (.ref (S.length + 1)) := by rw [hE3]; rfl
  rw [hA] at la
  rw [hB] at lb
  rw [hU] at lc
  have b4 : Vd φ E3 (.or (.cmp .NotEq (.call "_law_lo_all" (.cons (.call "form_of" (.cons (.var 4) .nil)) .nil)) (.var 6)) (.cmp .NotEq (.blt .len (.cons (.var 6) .nil)) (.blt .len (.cons (.call "_law_lo_all" (.cons (.call "form_of" (.cons (.var 4) .nil)) .nil)) .nil)))) S4 (.bl false) S4 := by
    have w := w4 E3 (by rw [hE3]; rfl) S4 ht4
    refine vd_or0 (S1 := S4) ?_ (vd_neI (S1 := S4) (vd_lenV f6 la) (vd_lenL w) rfl)
    have := (vd_cmpV w f6 la).2
    rw [decide_eq_true rfl] at this
    exact this
  have x4 : ex1 φ S.length (.ifs (.or (.cmp .NotEq (.call "_law_lo_all" (.cons (.call "form_of" (.cons (.var 4) .nil)) .nil)) (.var 6)) (.cmp .NotEq (.blt .len (.cons (.var 6) .nil)) (.blt .len (.cons (.call "_law_lo_all" (.cons (.call "form_of" (.cons (.var 4) .nil)) .nil)) .nil)))) (.cons (.ret (.bl false)) .nil) .nil) E3 S4 = some (.nx, E3, S4) := by
    rw [x_if (vt b4), if_neg (by decide), xs_nil]
  -- what meets all evenly
  have laM : LstAt S4 S.length (lts (aM ms)) := by rw [aM_lts]; exact la
  have lcM : LstAt S4 (S.length + 2) (lts (aM (units m))) := by rw [aM_lts]; exact lc
  have len_aM : ∀ {xs : List Nat}, (frm xs).length ≤ 7 → (aM xs).length ≤ 128 := fun h => by
    unfold aM
    rw [List.length_map, aL_len]
    exact pow7 h
  have vE := ev_evenly W.toLoB (n + 5) (S := S4) (i6 := S.length) (i8 := S.length + 2) (A := aM ms) (U := aM (units m)) (some (.ref i)) (some (.int (m : Int))) none (some p) (some q) (some (.ref (S.length + 1))) none laM lcM (fun x hx => aM_low lm hx) (fun x hx => aM_low lu hx) (by have := len_aM (xs := ms) (by omega); omega) (by have := len_aM (xs := units m) (by omega); omega)
  rw [← hE3, ← hφ] at vE
  have evEq : ((aM (units m)).filter fun y => decide ((aM ms).filter (fun x => dot 24 x y) = [])).map lotI = aL (opp m ms) := by
    refine part_same lu (lowS_of (opp_lt km) (by omega)) _ fun y => ?_
    rw [opp_all (by omega) km y, units_spn, decide_eq_true_eq]
    refine and_congr_right fun _ => ?_
    rw [List.filter_eq_nil_iff]
    refine ⟨fun hq x hx => ?_, fun hq x hx => ?_⟩
    · have := hq x ((aM_mem lm).mp hx)
      rw [this]
      decide
    · have := hq x ((aM_mem lm).mpr hx)
      simpa using this
  obtain ⟨E4, hE4⟩ : ∃ E : Ev, E = [some (.ref i), some (.int (m : Int)), some (.ref S4.length), none, some p, some q, some (.ref S.length), some (.ref (S.length + 1)), some (.ref (S.length + 2)), none, none, none] := ⟨_, rfl⟩
  obtain ⟨S5, hS5⟩ : ∃ x, x = S4 ++ [SO.lst ((aL (opp m ms)).map lotD)] := ⟨_, rfl⟩
  have x5 : ex1 φ S.length (.set 2 (.lc [9] (.nm 9) (.ex (.var 8)) kall_3 (.var 9))) E3 S4 = some (.nx, E4, S5) := by
    rw [x_set (vE.ev _), hE3, hE4, hS5, ← evEq]
    rfl
  have le5 : LstAt S5 S4.length ((aL (opp m ms)).map lotD) := by rw [hS5]; exact LstAt.new
  have la5 : LstAt S5 S.length ((aL ms).map lotD) := by rw [hS5]; exact la.app
  have lb5 : LstAt S5 (S.length + 1) ((aL os).map lotD) := by rw [hS5]; exact lb.app
  have ht5 : S5[1]? = some (.tbl "reduced") := by
    rw [hS5, List.getElem?_append_left (List.getElem?_eq_some_iff.mp ht4).1]
    exact ht4
  have r4 : getV E4 4 = some p := by rw [hE4]; rfl
  have r5 : getV E4 5 = some q := by rw [hE4]; rfl
  have r6 : getV E4 6 = some (.ref S.length) := by rw [hE4]; rfl
  have r7 : getV E4 7 = some (.ref (S.length + 1)) := by rw [hE4]; rfl
  have r1' : getV E4 1 = some (.int (m : Int)) := by rw [hE4]; rfl
  have r2 : getV E4 2 = some (.ref S4.length) := by rw [hE4]; rfl
  have oppl : (opp m ms).length ≤ 7 := by have := opp_len km; omega
  have vO : Vl φ E4 (.call "_law_lo_all" (.cons (.call "opposite_form" (.cons (.var 1) (.cons (.var 4) .nil))) .nil)) S5 ((aL (opp m ms)).map lotD) S5 := by
    have c1 := y1 E4 r1' S5
    have c2 := y4 E4 r4 S5
    rw [hφ] at c1 c2 ⊢
    have := vd_opp L c1 c2 (by omega) b2 (by omega) ht5
    rw [← hms] at this
    refine vl_all W.toLoL (n := n + 3) this (lowS_of (opp_lt km) (by omega)) (by omega) ?_
    have f : frm (opp m ms) = opp m ms := frm_self (frm_spec _).1
    rw [f]
    have := pow7 oppl
    omega
  have b6 : Vd φ E4 (.or (.cmp .NotEq (.call "_law_lo_all" (.cons (.call "opposite_form" (.cons (.var 1) (.cons (.var 4) .nil))) .nil)) (.var 2)) (.cmp .NotEq (.cmp .Eq (.call "form_of" (.cons (.var 4) .nil)) (.call "form_of" (.cons (.var 5) .nil))) (.cmp .Eq (.var 6) (.var 7)))) S5 (.bl false) S5 := by
    refine vd_or0 (S1 := S5) ?_ ?_
    · have := (vd_cmpV vO r2 le5).2
      rw [decide_eq_true rfl] at this
      exact this
    · have d1 : Vd φ E4 (.cmp .Eq (.call "form_of" (.cons (.var 4) .nil)) (.call "form_of" (.cons (.var 5) .nil))) S5 (.bl (decide ((frm ms).map lotI = (frm os).map lotI))) S5 := vd_cmp (z4 E4 r4 S5 ht5) (z5 E4 r5 S5 ht5) (cmp_lots .Eq).1
      have d2 := vd_cmpVV r6 la5 r7 lb5 (φ := φ)
      refine vd_cmp d1 d2 ?_
      rw [cmp_bls]
      have : decide ((frm ms).map lotI = (frm os).map lotI) = decide (aL ms = aL os) := by
        rw [Bool.eq_iff_iff, decide_eq_true_eq, decide_eq_true_eq, aL_iff lm lo]
        refine ⟨fun e => ?_, fun e => by rw [e]⟩
        rw [← lots_masks (frm_low lm), e, lots_masks (frm_low lo)]
      rw [this, decide_eq_true rfl]
      rfl
  have x6 : ex1 φ S.length (.ifs (.or (.cmp .NotEq (.call "_law_lo_all" (.cons (.call "opposite_form" (.cons (.var 1) (.cons (.var 4) .nil))) .nil)) (.var 2)) (.cmp .NotEq (.cmp .Eq (.call "form_of" (.cons (.var 4) .nil)) (.call "form_of" (.cons (.var 5) .nil))) (.cmp .Eq (.var 6) (.var 7)))) (.cons (.ret (.bl false)) .nil) .nil) E4 S5 = some (.nx, E4, S5) := by
    rw [x_if (vt b6), if_neg (by decide), xs_nil]
  -- the common form
  obtain ⟨C, hC⟩ : ∃ x, x = car 32 (frm (ms.map (dbl 32) ++ os)) := ⟨_, rfl⟩
  obtain ⟨cf, cs, cd⟩ := com_spn lm lo
  rw [← hC] at cf cs cd
  have cl : LowS C := fun x hx => spn_low lm ((cs x).mp (spn_mem hx)).1
  have cm : ∀ x, x ∈ C → x < 2 ^ m := fun x hx => spn_lt km ((cs x).mp (spn_mem hx)).1
  have cn : C.length ≤ 7 := by
    have := frm_le_m cm
    rw [frm_self cf] at this
    omega
  obtain ⟨E5, hE5⟩ : ∃ E : Ev, E = [some (.ref i), some (.int (m : Int)), some (.ref S4.length), some (.tup (lts C)), some p, some q, some (.ref S.length), some (.ref (S.length + 1)), some (.ref (S.length + 2)), none, none, none] := ⟨_, rfl⟩
  have x7 : ex1 φ S.length (.set 3 (.call "common_form" (.cons (.var 4) (.cons (.var 5) .nil)))) E4 S5 = some (.nx, E5, S5) := by
    have c1 := y4 E4 r4 S5
    have c2 := y5 E4 r5 S5
    have : Vd φ E4 (.call "common_form" (.cons (.var 4) (.cons (.var 5) .nil))) S5 (.tup (lts C)) S5 := by
      rw [hφ] at c1 c2 ⊢
      have := vd_com L c1 c2 (fun l z => (b2 l z).1) (fun l z => (b3 l z).1) (by omega) (by omega) ht5
      rw [← hms, ← hos, ← hC] at this
      exact this
    rw [x_set (this.ev _), hE4, hE5]
    rfl
  have s3 : ∀ S, Vd φ E5 (.var 3) S (.tup (lts C)) S := fun S => vd_var (by rw [hE5]; rfl) (cl_lts _)
  have s4 : getV E5 4 = some p := by rw [hE5]; rfl
  have s5 : getV E5 5 = some q := by rw [hE5]; rfl
  have vC : Vl φ E5 (.call "_law_lo_all" (.cons (.var 3) .nil)) S5 ((aL C).map lotD) S5 := by
    have := s3 S5
    rw [hφ] at this ⊢
    refine vl_all W.toLoL (n := n + 3) this cl (by omega) ?_
    rw [frm_self cf]
    have := pow7 cn
    omega
  have bothEq : ((aM ms).filter fun x => decide (lotI x ∈ aL os)).map lotI = aL C := by
    refine part_same lm cl _ fun x => ?_
    rw [cs x, decide_eq_true_eq, aL_mem]
    refine and_congr_right fun hx => ⟨fun z => ⟨x, z, rfl⟩, fun ⟨y, hy, z⟩ => ?_⟩
    rw [lotI_inj (spn_low lm hx) (spn_low lo hy) z]
    exact hy
  have la5M : LstAt (S5 ++ [SO.lst ((aL C).map lotD)]) S.length (lts (aM ms)) := by rw [aM_lts]; exact la5.app
  have vB := ev_both (φ := φ) (S := S5 ++ [SO.lst ((aL C).map lotD)]) (i6 := S.length) (i7 := S.length + 1) (A := aM ms) (ns := aL os) (some (.ref i)) (some (.int (m : Int))) (some (.ref S4.length)) (some (.tup (lts C))) (some p) (some q) (some (.ref (S.length + 2))) none none la5M lb5.app (by have := len_aM (xs := ms) (by omega); omega)
  rw [← hE5] at vB
  have lts_eq : lts ((aM ms).filter fun x => decide (lotI x ∈ aL os)) = (aL C).map lotD := by rw [← bothEq]
  rw [lts_eq] at vB
  have b8 : Vd φ E5 (.or (.not (.call "_law_has_shape" (.cons (.var 3) .nil))) (.cmp .NotEq (.call "_law_lo_all" (.cons (.var 3) .nil)) (.lc [9] (.nm 9) (.ex (.var 6)) kall_1 (.var 9)))) S5 (.bl false) S5 := by
    refine vd_or0 (S1 := S5) ?_ ?_
    · have := s3 S5
      rw [hφ] at this ⊢
      exact vd_not (vd_shape W.shape this cf cl (by omega))
    · refine vd_cmpL vC (ys := (aL C).map lotD) (fun base => ?_) ?_
      · rw [vB, List.length_append, List.append_assoc]
        rfl
      · have q1 : ((S5 ++ [SO.lst ((aL C).map lotD), .lst ((aL C).map lotD)])[S5.length]?).bind SO.seq? = some ((aL C).map lotD) := by simp [SO.seq?]
        have q2 : ((S5 ++ [SO.lst ((aL C).map lotD), .lst ((aL C).map lotD)])[S5.length + 1]?).bind SO.seq? = some ((aL C).map lotD) := by
          rw [List.getElem?_append_right (by omega), show S5.length + 1 - S5.length = 1 by omega]
          rfl
        rw [(eqD_ref .NotEq q1 q2).2, decide_eq_true rfl]
        rfl
  have x8 : ex1 φ S.length (.ifs (.or (.not (.call "_law_has_shape" (.cons (.var 3) .nil))) (.cmp .NotEq (.call "_law_lo_all" (.cons (.var 3) .nil)) (.lc [9] (.nm 9) (.ex (.var 6)) kall_1 (.var 9)))) (.cons (.ret (.bl false)) .nil) .nil) E5 S5 = some (.nx, E5, S5) := by
    rw [x_if (vt b8), if_neg (by decide), xs_nil]
  -- sizes
  have zc : Vd φ E5 (.call "form_of" (.cons (.bin .Add (.var 4) (.var 5)) .nil)) S5 (.tup (lts (frm (ms ++ os)))) S5 := by
    have := vd_catT (y4 E5 s4 S5) (y5 E5 s5 S5) (by omega)
    rw [hφ] at this ⊢
    have := vd_form L this (fun l z => by
      rcases List.mem_append.mp z with z | z
      · exact (b2 l z).1
      · exact (b3 l z).1) (by rw [List.length_append]; omega) ht5
    rw [List.map_append, ← hms, ← hos] at this
    exact this
  have b9 : Vd φ E5 (.cmp .Eq (.bin .Add (.blt .len (.cons (.var 3) .nil)) (.blt .len (.cons (.call "form_of" (.cons (.bin .Add (.var 4) (.var 5)) .nil)) .nil))) (.bin .Add (.blt .len (.cons (.call "form_of" (.cons (.var 4) .nil)) .nil)) (.blt .len (.cons (.call "form_of" (.cons (.var 5) .nil)) .nil)))) S5 (.bl true) S5 := by
    refine vd_cmp (vd_bin (vd_lenT (s3 S5)) (vd_lenT zc) rfl rfl) (vd_bin (vd_lenT (z4 E5 s4 S5 ht5)) (vd_lenT (z5 E5 s5 S5 ht5)) rfl rfl) ?_
    rw [cmp_ints.1]
    simp only [lts, List.length_map]
    rw [decide_eq_true (by omega)]
  have hx : exs φ S.length kall ([D.ref i].map some ++ List.replicate 11 none) S = some (.ret (.bl true), E5, S5) := by
    show exs φ S.length kall [some (.ref i), none, none, none, none, none, none, none, none, none, none, none] S = _
    rw [← hE0]
    unfold kall
    rw [xs_nx x1, xs_nx x2, xs_nx x3, xs_nx x4, xs_nx x5, xs_nx x6, xs_nx x7, xs_nx x8]
    exact xs_ret (x_ret (b9.ev _))
  refine ⟨S3, ?_, t1.trans (t2.trans t3), h3.mono (by omega)⟩
  rw [← hφ, run_ret (φ := φ) (c := ⟨1, 12, kall⟩) (vs := [.ref i]) (S := S) rfl hx, hS5, hS4, List.append_assoc]
  exact gc_lenA rfl hL3
end G
end
section
set_option Elab.async false
set_option linter.all false
set_option autoImplicit false
set_option maxHeartbeats 4000000
/-! the judge of two tuples of many lines -/
namespace G
open PySem L2 Z M
variable {T : Txt}
def kwide_1 : Ox := (.yes (.or (.not (.call "_law_lo_is_made" (.cons (.var 2) (.cons (.var 6) .nil)))) (.not (.call "_law_lo_is_made" (.cons (.var 3) (.cons (.var 6) .nil))))))
def kwide_2 : Ex := (.call "_law_lo_any" (.cons (.var 0) (.cons (.var 1) .nil)))
def kwide_3 : Ex := (.call "_law_lo_any" (.cons (.var 0) (.cons (.var 1) .nil)))
def kwide : Ss := (.cons (.set 1 (.bin .Add (.int 12) (.call "_law_roll" (.cons (.var 0) (.cons (.int 13) .nil))))) (.cons (.set 2 (.blt .tuple (.cons (.lc [5] (.nm 5) (.rng1 (.bin .Add (.int 1) (.call "_law_roll" (.cons (.var 0) (.cons (.int 9) .nil))))) .no kwide_3) .nil))) (.cons (.set 3 (.bin .Add (.blt .tuple (.cons (.lc [5] (.nm 5) (.rng1 (.call "_law_roll" (.cons (.var 0) (.cons (.int 5) .nil)))) .no kwide_2) .nil)) (.tup (.cons (.call "lot_sum" (.cons (.ix (.var 2) (.int 0)) (.cons (.ix (.var 2) (.un .USub (.int 1))) .nil))) (.cons (.ix (.var 2) (.int 0)) .nil))))) (.cons (.set 4 (.call "common_form" (.cons (.var 2) (.cons (.var 3) .nil)))) (.cons (.ifs (.or (.cmp .NotEq (.lc [6] (.nm 6) (.ex (.var 4)) kwide_1 (.var 6)) (.lst .nil)) (.not (.call "_law_lo_is_made" (.cons (.var 4) (.cons (.ix (.var 2) (.int 0)) .nil))))) (.cons (.ret (.bl false)) .nil) .nil) (.cons (.ifs (.cmp .NotEq (.bin .Add (.blt .len (.cons (.var 4) .nil)) (.blt .len (.cons (.call "form_of" (.cons (.bin .Add (.var 2) (.var 3)) .nil)) .nil))) (.bin .Add (.blt .len (.cons (.call "form_of" (.cons (.var 2) .nil)) .nil)) (.blt .len (.cons (.call "form_of" (.cons (.var 3) .nil)) .nil)))) (.cons (.ret (.bl false)) .nil) .nil) (.cons (.ret (.call "_law_told_right" (.cons (.var 0) (.cons (.var 1) (.cons (.var 2) .nil))))) .nil)))))))
structure LoX (T : Txt) : Prop extends LoW T where
  law_wide_right : Is T "_law_wide_right" ⟨1, 7, kwide⟩
/-- drawn lots as a list -/
theorem vl_anys (W : LoA T) (n m : Nat) {i : Nat} {s K r : Int} {S S1 : Sto} {env : Ev} {e : Ex} (x2 x3 x4 x6 : Option D) (hE : env = [some (.ref i), some (.int (m : Int)), x2, x3, x4, none, x6]) (h : DD S i s K) (t1 : To i S S1) (h1 : DD S1 i s (K + 1)) (hK : K < 2 ^ 30) (hm : m ≤ 24) (v : Vd (run T (n + 2)) env e S (.int r) S1) (r0 : 0 ≤ r) (r1 : r < 20) :
    ∃ (ls : List (List Int)) (S' : Sto), Vl (run T (n + 2)) env (.lc [5] (.nm 5) (.rng1 e) .no (.call "_law_lo_any" (.cons (.var 0) (.cons (.var 1) .nil)))) S (ls.map lotD) S' ∧ (∀ l, l ∈ ls → Bel m l) ∧ ls.length = r.toNat ∧ To i S S' ∧ DD S' i s (K + 501) := by
  have it := ev_rng1 (base := S.length) v (rg_small r0 (by omega))
  obtain ⟨ls, S2, e2, t2, h2, n2, p2⟩ := draw_lc (i := i) (s := s) (step := lcS (run T (n + 2)) S.length env [5] (.nm 5) .no (.call "_law_lo_any" (.cons (.var 0) (.cons (.var 1) .nil)))) (ok := fun S2 => Z.still S2 none (rgI 0 r.toNat)) (fun _ => rfl) (fun d : D => d) (fun _ l => Bel m l) S.length 25 (by decide) (2 ^ 35) (rgI 0 r.toNat) [] S1 (K + 1) (fun d _ S K hL h hK => by
      obtain ⟨ns, S', e, q, t, h'⟩ := anyD W n m h hK hm
      refine ⟨ns, S', ?_, q, t, h'⟩
      have e0 : evE (run T (n + 2)) S.length [some (.ref i), some (.int (m : Int)), x2, x3, x4, some d, x6] (.call "_law_lo_any" (.cons (.var 0) (.cons (.var 1) .nil))) S = some (lotD ns, S') := (vd_call (as2 (ev_var rfl) (ev_var rfl)) e (show D.cl 0 (lotD ns) = true from cl_ints ns) t.len).ev _
      rw [← hL, hE]
      exact turn_no rfl e0) t1.len h1 (by rw [rgI_len]; omega) (by rw [rgI_len, List.length_nil]; omega)
  rw [List.map_id', List.map_nil, List.nil_append] at e2
  rw [rgI_len] at h2 n2
  refine ⟨ls, S2, lc_vl rfl it t1.len e2 (cl_lots _) t2.len, fun l hl => ?_, n2, t1.trans t2, h2.mono (by omega)⟩
  obtain ⟨k, hk, rfl⟩ := List.mem_iff_getElem.mp hl
  have hk2 : k < (rgI 0 r.toNat).length := by rw [rgI_len]; omega
  exact p2 ((rgI 0 r.toNat)[k], ls[k]) (by
    rw [List.mem_iff_getElem]
    exact ⟨k, by rw [List.length_zip]; omega, List.getElem_zip⟩)
theorem vd_made {n : Nat} {env : Ev} {a b : Ex} {S S1 S2 : Sto} {ms : List Nat} {m : Nat} (F : LoM T) (h1 : Vd (run T (n + 3)) env a S (.tup (lts ms)) S1) (h2 : Vd (run T (n + 3)) env b S1 (lotD (lotI m)) S2) (hm : LowS ms) (hl : ms.length ≤ 400) (h : Low m) (hs : spn ms m) : Vd (run T (n + 3)) env (.call "_law_lo_is_made" (.cons a (.cons b .nil))) S (.bl true) S2 := by
  obtain ⟨b, e, q⟩ := lo_is_made F n m ms S2 hm hl h
  rw [q.mpr hs] at e
  exact ⟨fun base => by rw [e_call (as2 (h1.ev _) (h2.ev _)), e]; exact gc_len rfl (h2.len.trans h1.len), rfl, h2.len.trans h1.len⟩
theorem vd_ix {φ : Phi} {env : Ev} {a b : Ex} {S S1 S2 : Sto} {ls : List (List Int)} {k : Int} {l : List Int} (h1 : Vd φ env a S (lotsD ls) S1) (h2 : Vd φ env b S1 (.int k) S2) (hk : atI (ls.map lotD) k = some (lotD l)) : Vd φ env (.ix a b) S (lotD l) S2 := ⟨fun base => by
  rw [evE, h1.ev]
  simp only [h2.ev]
  have : ixF (lotsD ls) (.int k) S2 = some (lotD l) := hk
  rw [this]
  exact gc_len (show D.cl 0 (lotD l) = true from cl_ints l) (h2.len.trans h1.len), cl_ints l, h2.len.trans h1.len⟩
theorem vd_un {φ : Phi} {env : Ev} {S : Sto} {k : Int} : Vd φ env (.un .USub (.int k)) S (.int (-k)) S := ⟨fun base => by
  rw [evE, e_int]
  exact gc_len rfl rfl, rfl, rfl⟩
theorem vd_lsum {n : Nat} {env : Ev} {a b : Ex} {S S1 S2 : Sto} {x y : List Int} (L : Lots T) (h1 : Vd (run T (n + 5)) env a S (lotD x) S1) (h2 : Vd (run T (n + 5)) env b S1 (lotD y) S2) (q1 : Lot x) (q2 : Lot y) : Vd (run T (n + 5)) env (.call "lot_sum" (.cons a (.cons b .nil))) S (lotD (lotI (maskN x ^^^ maskN y))) S2 :=
  ⟨fun base => by rw [e_call (as2 (h1.ev _) (h2.ev _)), lot_sum L n x y S2 q1 q2]; exact gc_len (show D.cl 0 (lotD _) = true from cl_ints _) (h2.len.trans h1.len), cl_ints _, h2.len.trans h1.len⟩
theorem vd_pair {φ : Phi} {env : Ev} {a b : Ex} {S S1 S2 : Sto} {x y : List Int} (h1 : Vd φ env a S (lotD x) S1) (h2 : Vd φ env b S1 (lotD y) S2) : Vd φ env (.tup (.cons a (.cons b .nil))) S (lotsD [x, y]) S2 := by
  refine ⟨fun base => ?_, cl_lots [x, y], h2.len.trans h1.len⟩
  rw [evE, as2 (h1.ev _) (h2.ev _)]
  simp only
  rw [if_pos (by show 2 ≤ 100000; decide)]
  exact gc_len (show D.cl 0 (lotsD [x, y]) = true from cl_lots [x, y]) (h2.len.trans h1.len)
theorem wide_right (W : LoX T) (L : Lots T) (n : Nat) {i : Nat} {s K : Int} {S : Sto} (h : DD S i s K) (hK : K < 2 ^ 29) (ht : S[1]? = some (.tbl "reduced")) :
    ∃ S', run T (n + 8) "_law_wide_right" [.ref i] S = some (.bl true, S') ∧ To i S S' ∧ DD S' i s (K + 1100) := by
  rw [W.law_wide_right]
  obtain ⟨φ, hφ⟩ : ∃ φ, φ = run T (n + 7) := ⟨_, rfl⟩
  obtain ⟨E0, hE0⟩ : ∃ E : Ev, E = [some (.ref i), none, none, none, none, none, none] := ⟨_, rfl⟩
  obtain ⟨r, S1, e1, r0, r1, t1, h1⟩ := rollD W.toDrw (n + 6) (most := 13) h (by omega) (by decide) (by decide)
  rw [← hφ] at e1
  obtain ⟨m, hm⟩ : ∃ m : Nat, (m : Int) = 12 + r := ⟨(12 + r).toNat, by omega⟩
  have hm24 : 1 ≤ m ∧ m ≤ 24 := by omega
  have v1 : Vd φ E0 (.bin .Add (.int 12) (.call "_law_roll" (.cons (.var 0) (.cons (.int 13) .nil)))) S (.int (m : Int)) S1 := by
    rw [hm]
    exact vd_bin vd_int (vd_call (as2 (ev_var (by rw [hE0]; rfl)) e_int) e1 rfl t1.len) rfl rfl
  obtain ⟨E1, hE1⟩ : ∃ E : Ev, E = [some (.ref i), some (.int (m : Int)), none, none, none, none, none] := ⟨_, rfl⟩
  have x1 : ex1 φ S.length (.set 1 (.bin .Add (.int 12) (.call "_law_roll" (.cons (.var 0) (.cons (.int 13) .nil))))) E0 S = some (.nx, E1, S1) := by
    rw [x_set (v1.ev _), hE0, hE1]
    rfl
  -- the lots
  obtain ⟨a, S2, e2, a0, a1, t2, h2⟩ := rollD W.toDrw (n + 6) (most := 9) h1 (by omega) (by decide) (by decide)
  rw [← hφ] at e2
  have g0 : getV E1 0 = some (.ref i) := by rw [hE1]; rfl
  have v2 : Vd φ E1 (.bin .Add (.int 1) (.call "_law_roll" (.cons (.var 0) (.cons (.int 9) .nil)))) S1 (.int (1 + a)) S2 := vd_bin vd_int (vd_call (as2 (ev_var g0) e_int) e2 rfl t2.len) rfl rfl
  rw [hφ] at v2
  obtain ⟨ls, S3, vl2, b2, l2, t3, h3⟩ := vl_anys W.toLoA (n + 5) m none none none none hE1 h1 t2 h2 (by omega) (by omega) v2 (by omega) (by omega)
  rw [← hφ] at vl2
  obtain ⟨p, hp⟩ : ∃ p, p = lotsD ls := ⟨_, rfl⟩
  obtain ⟨E2, hE2⟩ : ∃ E : Ev, E = [some (.ref i), some (.int (m : Int)), some p, none, none, none, none] := ⟨_, rfl⟩
  have x2 : ex1 φ S.length (.set 2 (.blt .tuple (.cons (.lc [5] (.nm 5) (.rng1 (.bin .Add (.int 1) (.call "_law_roll" (.cons (.var 0) (.cons (.int 9) .nil))))) .no kwide_3) .nil))) E1 S1 = some (.nx, E2, S3) := by
    refine (x_set ((vd_tuple vl2).ev _)).trans ?_
    rw [hE1, hE2, hp]
    rfl
  -- further ones
  obtain ⟨b, S4, e4, b0, b1, t4, h4⟩ := rollD W.toDrw (n + 6) (most := 5) h3 (by omega) (by decide) (by decide)
  rw [← hφ] at e4
  have g0' : getV E2 0 = some (.ref i) := by rw [hE2]; rfl
  have g2' : getV E2 2 = some p := by rw [hE2]; rfl
  have v4 : Vd φ E2 (.call "_law_roll" (.cons (.var 0) (.cons (.int 5) .nil))) S3 (.int b) S4 := vd_call (as2 (ev_var g0') e_int) e4 rfl t4.len
  rw [hφ] at v4
  obtain ⟨ks, S5, vl5, b5, l5, t5, h5⟩ := vl_anys W.toLoA (n + 5) m (some p) none none none hE2 h3 t4 h4 (by omega) (by omega) v4 (by omega) (by omega)
  rw [← hφ] at vl5
  have hne : 0 < ls.length := by omega
  have hfirst : atI (ls.map lotD) 0 = some (lotD ls[0]) := by
    have hp : ((0 : Int)) < ((ls.map lotD).length : Int) := by rw [List.length_map]; omega
    unfold atI ixN
    rw [if_pos (by omega), if_pos hp]
    simp [hne]
  obtain ⟨z, hz⟩ : ∃ z, z = ls[ls.length - 1] := ⟨_, rfl⟩
  have hlast : atI (ls.map lotD) (-1) = some (lotD z) := by
    have h1 : (((ls.map lotD).length : Nat) : Int) = (ls.length : Int) := by rw [List.length_map]
    unfold atI ixN
    rw [if_neg (by omega), h1]
    have h3 : (-1 + (ls.length : Int)).toNat = ls.length - 1 := by omega
    rw [if_pos (by omega)]
    simp only [Option.bind_some]
    rw [h3, List.getElem?_map, List.getElem?_eq_getElem (by omega), hz]
    rfl
  have hzm : z ∈ ls := by rw [hz]; exact List.getElem_mem _
  have v2' : ∀ S, Vd φ E2 (.var 2) S (lotsD ls) S := fun S => vd_var (by rw [g2', hp]) (cl_lots _)
  obtain ⟨w, hw⟩ : ∃ w, w = lotI (maskN ls[0] ^^^ maskN z) := ⟨_, rfl⟩
  have hw1 : Bel m w := by rw [hw]; exact bel_xor (b2 _ (List.getElem_mem _)) (b2 z hzm) hm24.2
  have i0 : ∀ S, Vd φ E2 (.ix (.var 2) (.int 0)) S (lotD ls[0]) S := fun S => vd_ix (v2' S) vd_int hfirst
  have vt2 : Vd φ E2 (.tup (.cons (.call "lot_sum" (.cons (.ix (.var 2) (.int 0)) (.cons (.ix (.var 2) (.un .USub (.int 1))) .nil))) (.cons (.ix (.var 2) (.int 0)) .nil))) S5 (lotsD [w, ls[0]]) S5 := by
    refine vd_pair ?_ (i0 S5)
    have q1 := i0 S5
    have q2 := vd_ix (v2' S5) (vd_un (k := 1)) hlast
    rw [hφ] at q1 q2 ⊢
    rw [hw]
    exact vd_lsum L q1 q2 (b2 _ (List.getElem_mem _)).1 (b2 z hzm).1
  obtain ⟨ns, hns⟩ : ∃ ns, ns = ks ++ [w, ls[0]] := ⟨_, rfl⟩
  have v3 : Vd φ E2 (.bin .Add (.blt .tuple (.cons (.lc [5] (.nm 5) (.rng1 (.call "_law_roll" (.cons (.var 0) (.cons (.int 5) .nil)))) .no kwide_2) .nil)) (.tup (.cons (.call "lot_sum" (.cons (.ix (.var 2) (.int 0)) (.cons (.ix (.var 2) (.un .USub (.int 1))) .nil))) (.cons (.ix (.var 2) (.int 0)) .nil)))) S3 (lotsD ns) S5 := by
    rw [hns]
    exact vd_catT (vd_tuple vl5) vt2 (by show ks.length + 2 ≤ 1000; omega)
  have bn : ∀ l, l ∈ ns → Bel m l := fun l hl => by
    rw [hns] at hl
    rcases List.mem_append.mp hl with q | q
    · exact b5 l q
    · rcases List.mem_cons.mp q with rfl | q
      · exact hw1
      · rw [List.mem_singleton.mp q]
        exact b2 _ (List.getElem_mem _)
  have ln : ns.length ≤ 8 := by rw [hns, List.length_append]; show ks.length + 2 ≤ 8; omega
  obtain ⟨q, hq⟩ : ∃ q, q = lotsD ns := ⟨_, rfl⟩
  obtain ⟨E3, hE3⟩ : ∃ E : Ev, E = [some (.ref i), some (.int (m : Int)), some p, some q, none, none, none] := ⟨_, rfl⟩
  have x3 : ex1 φ S.length (.set 3 (.bin .Add (.blt .tuple (.cons (.lc [5] (.nm 5) (.rng1 (.call "_law_roll" (.cons (.var 0) (.cons (.int 5) .nil)))) .no kwide_2) .nil)) (.tup (.cons (.call "lot_sum" (.cons (.ix (.var 2) (.int 0)) (.cons (.ix (.var 2) (.un .USub (.int 1))) .nil))) (.cons (.ix (.var 2) (.int 0)) .nil))))) E2 S3 = some (.nx, E3, S5) := by
    rw [x_set (v3.ev _), hE2, hE3, hq]
    rfl
  -- the common form
  obtain ⟨ms, hms⟩ : ∃ x, x = ls.map maskN := ⟨_, rfl⟩
  obtain ⟨os, hos⟩ : ∃ x, x = ns.map maskN := ⟨_, rfl⟩
  have km : ∀ r, r ∈ ms → r < 2 ^ m := by rw [hms]; exact bel_maskS b2
  have ko : ∀ r, r ∈ os → r < 2 ^ m := by rw [hos]; exact bel_maskS bn
  have lm := lowS_of km (by omega)
  have lo := lowS_of ko (by omega)
  have hls : ls = ms.map lotI := by rw [hms, masks_lots fun l z => (b2 l z).1]
  have hnl : ns = os.map lotI := by rw [hos, masks_lots fun l z => (bn l z).1]
  have lms : ms.length ≤ 9 := by rw [hms, List.length_map]; omega
  have los : os.length ≤ 8 := by rw [hos, List.length_map]; omega
  obtain ⟨C, hC⟩ : ∃ x, x = car 32 (frm (ms.map (dbl 32) ++ os)) := ⟨_, rfl⟩
  obtain ⟨cf, cs, cd⟩ := com_spn lm lo
  rw [← hC] at cf cs cd
  have cl : LowS C := fun x hx => spn_low lm ((cs x).mp (spn_mem hx)).1
  have cm : ∀ x, x ∈ C → x < 2 ^ m := fun x hx => spn_lt km ((cs x).mp (spn_mem hx)).1
  have cn : C.length ≤ 24 := by
    have := frm_le_m cm
    rw [frm_self cf] at this
    omega
  have ht5 : S5[1]? = some (.tbl "reduced") := t5.tab h3 (t3.tab h1 (t1.tab h ht))
  have hL5 : S5.length = S.length := t5.len.trans (t3.len.trans t1.len)
  obtain ⟨E4, hE4⟩ : ∃ E : Ev, E = [some (.ref i), some (.int (m : Int)), some p, some q, some (.tup (lts C)), none, none] := ⟨_, rfl⟩
  have x4 : ex1 φ S.length (.set 4 (.call "common_form" (.cons (.var 2) (.cons (.var 3) .nil)))) E3 S5 = some (.nx, E4, S5) := by
    have c1 : Vd φ E3 (.var 2) S5 (lotsD ls) S5 := vd_var (by rw [hE3, hp]; rfl) (cl_lots _)
    have c2 : Vd φ E3 (.var 3) S5 (lotsD ns) S5 := vd_var (by rw [hE3, hq]; rfl) (cl_lots _)
    have : Vd φ E3 (.call "common_form" (.cons (.var 2) (.cons (.var 3) .nil))) S5 (.tup (lts C)) S5 := by
      rw [hφ] at c1 c2 ⊢
      have := vd_com L c1 c2 (fun l z => (b2 l z).1) (fun l z => (bn l z).1) (by omega) (by omega) ht5
      rw [← hms, ← hos, ← hC] at this
      exact this
    rw [x_set (this.ev _), hE3, hE4]
    rfl
  -- its lots are sums of both; the first lot is a sum of it
  have pl : p = .tup (lts ms) := by rw [hp, hls]
  have ql : q = .tup (lts os) := by rw [hq, hnl]
  have u2 : ∀ S, Vd φ E4 (.var 2) S (lotsD ls) S := fun S => vd_var (by rw [hE4, hp]; rfl) (cl_lots _)
  have u3 : ∀ S, Vd φ E4 (.var 3) S (lotsD ns) S := fun S => vd_var (by rw [hE4, hq]; rfl) (cl_lots _)
  have u4 : ∀ S, Vd φ E4 (.var 4) S (.tup (lts C)) S := fun S => vd_var (by rw [hE4]; rfl) (cl_lts _)
  have turn : ∀ x, x ∈ C → lcS φ S5.length E4 [6] (.nm 6) kwide_1 (.var 6) (lotD (lotI x)) S5 = some (if false = true then some (lotD (lotI x)) else none, S5) := fun x hx => by
    obtain ⟨hs1, hs2⟩ := (cs x).mp (spn_mem hx)
    obtain ⟨E, hE⟩ : ∃ E : Ev, E = [some (.ref i), some (.int (m : Int)), some p, some q, some (.tup (lts C)), none, some (lotD (lotI x))] := ⟨_, rfl⟩
    have c6 : Vd φ E (.var 6) S5 (lotD (lotI x)) S5 := vd_var (by rw [hE]; rfl) (cl_ints _)
    have c2 : Vd φ E (.var 2) S5 (.tup (lts ms)) S5 := vd_var (by rw [hE, pl]; rfl) (cl_lts _)
    have c3 : Vd φ E (.var 3) S5 (.tup (lts os)) S5 := vd_var (by rw [hE, ql]; rfl) (cl_lts _)
    have e0 : Vd φ E (.or (.not (.call "_law_lo_is_made" (.cons (.var 2) (.cons (.var 6) .nil)))) (.not (.call "_law_lo_is_made" (.cons (.var 3) (.cons (.var 6) .nil))))) S5 (.bl false) S5 := by
      rw [hφ] at c2 c3 c6 ⊢
      exact vd_or0 (vd_not (vd_made W.toLoM c2 c6 lm (by omega) (cl x hx) hs1)) (vd_not (vd_made W.toLoM c3 c6 lo (by omega) (cl x hx) hs2))
    have e1 := e0.ev S5.length
    rw [hE] at e1
    rw [hE4]
    exact turn_yes rfl e1 (ev_var rfl)
  have e2 : ∀ base, evE φ base E4 (.lc [6] (.nm 6) (.ex (.var 4)) kwide_1 (.var 6)) S5 = some (.ref S5.length, S5 ++ [.lst (lts [])]) := fun base => by
    have := lc_lotsT (φ := φ) (base := base) (env := E4) (own := [6]) (g := .nm 6) (c := kwide_1) (e := .var 6) (S := S5) (ms := C) (v := 4) (fun _ => false) (fun f => f) rfl (by rw [hE4]; rfl) (by omega) turn
    rw [lts_none] at this
    exact this
  have b5' : Vd φ E4 (.or (.cmp .NotEq (.lc [6] (.nm 6) (.ex (.var 4)) kwide_1 (.var 6)) (.lst .nil)) (.not (.call "_law_lo_is_made" (.cons (.var 4) (.cons (.ix (.var 2) (.int 0)) .nil))))) S5 (.bl false) S5 := by
    refine vd_or0 (S1 := S5) ?_ (vd_not (k := true) ?_)
    · have e3 := (vd_isnil (ls := []) ⟨e2, rfl, rfl⟩).2
      rw [decide_eq_true rfl] at e3
      exact e3
    · have q1 := vd_ix (u2 S5) (vd_int (k := 0)) hfirst
      have q2 := u4 S5
      have hb0 := b2 ls[0] (List.getElem_mem _)
      have f0 : maskN ls[0] ∈ ms := by rw [hms]; exact List.mem_map_of_mem (List.getElem_mem _)
      have f1 : maskN ls[0] ∈ os := by
        rw [hos, hns]
        exact List.mem_map_of_mem (List.mem_append_right _ (by simp))
      have q3 : lotD ls[0] = lotD (lotI (maskN ls[0])) := by rw [lot_mask hb0.1]
      rw [q3] at q1
      rw [hφ] at q1 q2 ⊢
      exact vd_made W.toLoM q2 q1 cl (by omega) (lot_low hb0.1) ((cs _).mpr ⟨spn_mem f0, spn_mem f1⟩)
  have x5 : ex1 φ S.length (.ifs (.or (.cmp .NotEq (.lc [6] (.nm 6) (.ex (.var 4)) kwide_1 (.var 6)) (.lst .nil)) (.not (.call "_law_lo_is_made" (.cons (.var 4) (.cons (.ix (.var 2) (.int 0)) .nil))))) (.cons (.ret (.bl false)) .nil) .nil) E4 S5 = some (.nx, E4, S5) := by
    rw [x_if (vt b5'), if_neg (by decide), xs_nil]
  -- sizes
  have z2 : Vd φ E4 (.call "form_of" (.cons (.var 2) .nil)) S5 (.tup (lts (frm ms))) S5 := by
    have := u2 S5
    rw [hφ] at this ⊢
    rw [hms]
    exact vd_form L this (fun l z => (b2 l z).1) (by omega) ht5
  have z3 : Vd φ E4 (.call "form_of" (.cons (.var 3) .nil)) S5 (.tup (lts (frm os))) S5 := by
    have := u3 S5
    rw [hφ] at this ⊢
    rw [hos]
    exact vd_form L this (fun l z => (bn l z).1) (by omega) ht5
  have z4 : Vd φ E4 (.call "form_of" (.cons (.bin .Add (.var 2) (.var 3)) .nil)) S5 (.tup (lts (frm (ms ++ os)))) S5 := by
    have := vd_catT (u2 S5) (u3 S5) (by omega)
    rw [hφ] at this ⊢
    have := vd_form L this (fun l z => by
      rcases List.mem_append.mp z with z | z
      · exact (b2 l z).1
      · exact (bn l z).1) (by rw [List.length_append]; omega) ht5
    rw [List.map_append, ← hms, ← hos] at this
    exact this
  have b6 : Vd φ E4 (.cmp .NotEq (.bin .Add (.blt .len (.cons (.var 4) .nil)) (.blt .len (.cons (.call "form_of" (.cons (.bin .Add (.var 2) (.var 3)) .nil)) .nil))) (.bin .Add (.blt .len (.cons (.call "form_of" (.cons (.var 2) .nil)) .nil)) (.blt .len (.cons (.call "form_of" (.cons (.var 3) .nil)) .nil)))) S5 (.bl false) S5 := by
    refine vd_neI (vd_bin (vd_lenT (u4 S5)) (vd_lenT z4) rfl rfl) (vd_bin (vd_lenT z2) (vd_lenT z3) rfl rfl) ?_
    simp only [lts, List.length_map]
    omega
  have x6 : ex1 φ S.length (.ifs (.cmp .NotEq (.bin .Add (.blt .len (.cons (.var 4) .nil)) (.blt .len (.cons (.call "form_of" (.cons (.bin .Add (.var 2) (.var 3)) .nil)) .nil))) (.bin .Add (.blt .len (.cons (.call "form_of" (.cons (.var 2) .nil)) .nil)) (.blt .len (.cons (.call "form_of" (.cons (.var 3) .nil)) .nil)))) (.cons (.ret (.bl false)) .nil) .nil) E4 S5 = some (.nx, E4, S5) := by
    rw [x_if (vt b6), if_neg (by decide), xs_nil]
  -- the judge of one
  obtain ⟨S7, e7, t7, h7⟩ := told_right W.toLoR L n m ls (h5.mono (L := K + 1060) (by omega)) (by omega) hm24 b2 (by omega) ht5
  have v7 : Vd φ E4 (.call "_law_told_right" (.cons (.var 0) (.cons (.var 1) (.cons (.var 2) .nil)))) S5 (.bl true) S7 := by
    rw [hφ]
    exact vd_call (as3 (ev_var (by rw [hE4]; rfl)) (ev_var (by rw [hE4]; rfl)) (ev_var (by rw [hE4, hp]; rfl))) e7 rfl t7.len
  have hx : exs φ S.length kwide ([D.ref i].map some ++ List.replicate 6 none) S = some (.ret (.bl true), E4, S7) := by
    show exs φ S.length kwide [some (.ref i), none, none, none, none, none, none] S = _
    rw [← hE0]
    unfold kwide
    rw [xs_nx x1, xs_nx x2, xs_nx x3, xs_nx x4, xs_nx x5, xs_nx x6]
    exact xs_ret (x_ret (v7.ev _))
  refine ⟨S7, ?_, t1.trans (t3.trans (t5.trans t7)), h7.mono (by omega)⟩
  rw [← hφ, run_ret (φ := φ) (c := ⟨1, 7, kwide⟩) (vs := [.ref i]) (S := S) rfl hx]
  exact gc_len rfl (t7.len.trans hL5)
end G
end
section
set_option Elab.async false
set_option linter.all false
set_option autoImplicit false
set_option maxHeartbeats 4000000
/-! written values; loops with known items -/
namespace G
open PySem L2 Z M
variable {T : Txt}
section
variable {φ : Phi} {env : Ev} {S : Sto} {e : Ex} {es : Es} {v : D} {vs : List D}
def Lits (φ : Phi) (env : Ev) (es : Es) (S : Sto) (vs : List D) : Prop := (∀ base, evS φ base env es S = some (vs, S)) ∧ clL 0 vs = true
theorem lit_nil : Lits φ env .nil S [] := ⟨fun _ => as_nil' , rfl⟩
where as_nil' {φ : Phi} {env : Ev} {S : Sto} {base : Nat} : evS φ base env .nil S = some ([], S) := by rw [evS]
theorem lit_cons (h : Vd φ env e S v S) (hs : Lits φ env es S vs) : Lits φ env (.cons e es) S (v :: vs) := ⟨fun base => by
  rw [evS, h.ev]
  simp only [hs.1], by
  show (v.cl 0 && clL 0 vs) = true
  rw [h.cl, hs.2]
  rfl⟩
theorem vd_lits (h : Lits φ env es S vs) (l : vs.length ≤ 1000) : Vd φ env (.tup es) S (.tup vs) S := ⟨fun base => by
  rw [evE, h.1]
  simp only
  rw [if_pos (by show _ ≤ 100000; omega)]
  exact gc_len (show D.cl 0 (.tup vs) = true from h.2) rfl, h.2, rfl⟩
theorem vl_lits (h : Lits φ env es S vs) (l : vs.length ≤ 1000) : Vl φ env (.lst es) S vs S := ⟨fun base => by
  rw [evE, h.1]
  simp only
  rw [if_pos (by show _ ≤ 100000; omega)]
  exact gc_new0 (upL h.2), h.2, rfl⟩
def intsE : List Int → Es
  | [] => .nil
  | i :: r => .cons (.int i) (intsE r)
theorem lit_ints : ∀ ns : List Int, Lits φ env (intsE ns) S (ns.map .int)
  | [] => lit_nil
  | i :: r => lit_cons vd_int (lit_ints r)
theorem vd_lot (ns : List Int) (l : ns.length ≤ 1000) : Vd φ env (.tup (intsE ns)) S (lotD ns) S := vd_lits (lit_ints ns) (by rw [List.length_map]; exact l)
def lotsE : List (List Int) → Es
  | [] => .nil
  | l :: r => .cons (.tup (intsE l)) (lotsE r)
theorem lit_lots : ∀ ls : List (List Int), (∀ l, l ∈ ls → l.length ≤ 1000) → Lits φ env (lotsE ls) S (ls.map lotD)
  | [], _ => lit_nil
  | l :: r, h => lit_cons (vd_lot l (h l List.mem_cons_self)) (lit_lots r fun x hx => h x (List.mem_cons_of_mem _ hx))
theorem vd_lots (ls : List (List Int)) (h : ∀ l, l ∈ ls → l.length ≤ 1000) (l : ls.length ≤ 1000) : Vd φ env (.tup (lotsE ls)) S (lotsD ls) S := vd_lits (lit_lots ls h) (by rw [List.length_map]; exact l)
end
theorem for_invQ {step : D → Ev → Sto → Rs} {ok : Sto → Bool} (I : Nat → Ev → Sto → Prop) (hok : ∀ k env S, I k env S → ok S = true) (Q : D → Prop) (N : Nat) (hs : ∀ d k env S, Q d → k < N → I k env S → ∃ env' S', step d env S = some (.nx, env', S') ∧ I (k + 1) env' S') : ∀ (ds : List D) (k : Nat) (env : Ev) (S : Sto), (∀ d, d ∈ ds → Q d) → k + ds.length ≤ N → I k env S →
    ∃ env' S', forF step ok ds env S = some (.nx, env', S') ∧ I (k + ds.length) env' S'
  | [], k, env, S, _, _, h => ⟨env, S, for_nil (hok _ _ _ h), h⟩
  | d :: ds, k, env, S, hq, hk, h => by
    rw [List.length_cons] at hk
    obtain ⟨env1, S1, e1, h1⟩ := hs d k env S (hq d List.mem_cons_self) (by omega) h
    obtain ⟨env2, S2, e2, h2⟩ := for_invQ I hok Q N hs ds (k + 1) env1 S1 (fun x hx => hq x (List.mem_cons_of_mem _ hx)) (by omega) h1
    exact ⟨env2, S2, by rw [for_nx (hok _ _ _ h) e1, e2], by rw [List.length_cons, Nat.add_comm ds.length, ← Nat.add_assoc]; exact h2⟩
theorem rgI_mem : ∀ (n : Nat) (lo : Int) (d : D), d ∈ rgI lo n → ∃ k : Nat, k < n ∧ d = .int (lo + k)
  | 0, lo, d, h => by cases h
  | n + 1, lo, d, h => by
    rcases List.mem_cons.mp (show d ∈ D.int lo :: rgI (lo + 1) n from h) with rfl | h
    · exact ⟨0, by omega, by simp⟩
    · obtain ⟨k, hk, rfl⟩ := rgI_mem n (lo + 1) d h
      exact ⟨k + 1, by omega, by congr 1; omega⟩
abbrev lotsP (ls : List (List Int)) : PyData := .tuple (ls.map lotP)
theorem pyL_lotss {f : Nat → Option PyData} : ∀ lss : List (List (List Int)), pyL f (lss.map lotsD) = some (lss.map lotsP)
  | [] => by rw [List.map_nil, pyL]; rfl
  | ls :: r => by
    rw [List.map_cons, pyL, pyL_lotss r]
    have : pyD f (lotsD ls) = some (lotsP ls) := by
      rw [pyD, pyL_lots]
      rfl
    rw [this]
    rfl
theorem py_lotss {S : Sto} {i : Nat} {lss : List (List (List Int))} (h : (S[i]?).bind SO.seq? = some (lss.map lotsD)) : py S (.ref i) = some (.list (lss.map lotsP)) := by
  show pyD (rdS S 8) (.ref i) = _
  rw [pyD, rdS, h]
  simp only [Option.bind_some]
  rw [pyL_lotss]
  rfl
end G
end
section
set_option Elab.async false
set_option linter.all false
set_option autoImplicit false
/-! k01's text has the shared defs -/
namespace K01
open PySem L2 Z G
theorem lots : Lots T where
  is_whole := fun n vs S => u2 n vs S
  is_between := fun n vs S => u3 n vs S
  is_ascending := fun n vs S => u4 n vs S
  mask_of := fun n vs S => u5 n vs S
  lot_of := fun n vs S => u6 n vs S
  masks_of := fun n vs S => u7 n vs S
  lots_of := fun n vs S => u8 n vs S
  head_of := fun n vs S => u9 n vs S
  low_part := fun n vs S => u10 n vs S
  cleared := fun n vs S => u11 n vs S
  reduced := fun n vs S => u12 n vs S
  kernel := fun n vs S => u13 n vs S
  carried := fun n vs S => u14 n vs S
  shared := fun n vs S => u15 n vs S
  are_lots := fun n vs S => u24 n vs S
  lot_sum := fun n vs S => u25 n vs S
  form_of := fun n vs S => u26 n vs S
  opposite_form := fun n vs S => u27 n vs S
  common_form := fun n vs S => u28 n vs S
  demand_many := fun n vs S => u29 n vs S
  demand_lot := fun n vs S => u30 n vs S
  demand_lots := fun n vs S => u31 n vs S
theorem drw : LoA T where
  law_dice := fun n vs S => u33 n vs S
  law_roll := fun n vs S => u34 n vs S
  law_pick := fun n vs S => u35 n vs S
  law_mixed := fun n vs S => u36 n vs S
  law_lo_any := fun n vs S => u42 n vs S
theorem lob : LoB T where
  law_lo_sum := fun n vs S => u37 n vs S
  law_lo_is_odd := fun n vs S => u38 n vs S
theorem lom : LoM T where
  law_lo_sum := fun n vs S => u37 n vs S
  law_lo_is_odd := fun n vs S => u38 n vs S
  law_lo_form := fun n vs S => u39 n vs S
  law_lo_all := fun n vs S => u41 n vs S
  law_lo_is_made := fun n vs S => u40 n vs S
/-- where the tables stand at the start -/
theorem tab0 (ns : List Int) : (scrL ns lams)[1]? = some (.tbl "reduced") := rfl
end K01
end
section
set_option Elab.async false
set_option linter.all false
set_option autoImplicit false
set_option maxHeartbeats 4000000
/-! k01: the law holds at every script -/
namespace K01
open PySem L2 Z G M
theorem lox : LoX T where
  law_dice := fun n vs S => u33 n vs S
  law_roll := fun n vs S => u34 n vs S
  law_pick := fun n vs S => u35 n vs S
  law_mixed := fun n vs S => u36 n vs S
  law_lo_any := fun n vs S => u42 n vs S
  law_lo_sum := fun n vs S => u37 n vs S
  law_lo_is_odd := fun n vs S => u38 n vs S
  law_lo_form := fun n vs S => u39 n vs S
  law_lo_all := fun n vs S => u41 n vs S
  law_lo_is_made := fun n vs S => u40 n vs S
  shape := fun n vs S => u43 n vs S
  law_lots := fun n vs S => u44 n vs S
  law_told_right := fun n vs S => u45 n vs S
  law_all_right := fun n vs S => u46 n vs S
  law_wide_right := fun n vs S => u47 n vs S
/-- one turn of a draw -/
theorem turn1 {i : Nat} {s : Int} {S : Sto} {k : Nat} (x1 x5 x6 : Option D) (d : D) (h : DD S i s (2600 * k)) (hk : k < 4) (ht : S[1]? = some (.tbl "reduced")) :
    ∃ (y : D) (S' : Sto), frS (run T 39) 2 (.nm 5) c48_1 d [some (.ref 0), x1, none, none, some (.ref i), x5, x6] S = some (.nx, [some (.ref 0), x1, none, none, some (.ref i), some d, some y], S') ∧ To i S S' ∧ DD S' i s (2600 * (k + 1 : Nat)) := by
  obtain ⟨φ, hφ⟩ : ∃ φ, φ = run T 39 := ⟨_, rfl⟩
  obtain ⟨E0, hE0⟩ : ∃ E : Ev, E = [some (.ref 0), x1, none, none, some (.ref i), some d, x6] := ⟨_, rfl⟩
  obtain ⟨r, S1, e1, r0, r1, t1, h1⟩ := rollD lox.toDrw 38 (most := 24) h (by omega) (by decide) (by decide)
  rw [show 38 + 1 = 39 from rfl, ← hφ] at e1
  obtain ⟨m, hm⟩ : ∃ m : Nat, (m : Int) = 1 + r := ⟨(1 + r).toNat, by omega⟩
  have hm24 : 1 ≤ m ∧ m ≤ 24 := by omega
  have v1 : Vd φ E0 (.bin .Add (.int 1) (.call "_law_roll" (.cons (.var 4) (.cons (.int 24) .nil)))) S (.int (m : Int)) S1 := by
    rw [hm]
    exact vd_bin vd_int (vd_call (as2 (ev_var (by rw [hE0]; rfl)) e_int) e1 rfl t1.len) rfl rfl
  obtain ⟨E1, hE1⟩ : ∃ E : Ev, E = [some (.ref 0), x1, none, none, some (.ref i), some d, some (.int (m : Int))] := ⟨_, rfl⟩
  have x1' : ex1 φ 2 (.set 6 (.bin .Add (.int 1) (.call "_law_roll" (.cons (.var 4) (.cons (.int 24) .nil))))) E0 S = some (.nx, E1, S1) := by
    rw [x_set (v1.ev _), hE0, hE1]
    rfl
  have ht1 := t1.tab h ht
  have g4 : getV E1 4 = some (.ref i) := by rw [hE1]; rfl
  have g6 : getV E1 6 = some (.int (m : Int)) := by rw [hE1]; rfl
  obtain ⟨ls, S2, e2, b2, l2, t2, h2⟩ := law_lots lox.toLoT 36 m h1 (by omega) hm24.2
  rw [show 36 + 3 = 39 from rfl, ← hφ] at e2
  have v2 : Vd φ E1 (.call "_law_lots" (.cons (.var 4) (.cons (.var 6) .nil))) S1 (lotsD ls) S2 := vd_call (as2 (ev_var g4) (ev_var g6)) e2 (cl_lots _) t2.len
  have ht2 := t2.tab h1 ht1
  obtain ⟨S3, e3, t3, h3⟩ := told_right lox.toLoR lots 32 m ls h2 (by omega) hm24 b2 (by omega) ht2
  rw [show 32 + 7 = 39 from rfl, ← hφ] at e3
  have v3 : Vd φ E1 (.call "_law_told_right" (.cons (.var 4) (.cons (.var 6) (.cons (.call "_law_lots" (.cons (.var 4) (.cons (.var 6) .nil))) .nil)))) S1 (.bl true) S3 :=
    ⟨fun base => by rw [e_call (as3 (ev_var g4) (ev_var g6) (v2.ev _)), e3]; exact gc_len rfl (t3.len.trans t2.len), rfl, t3.len.trans t2.len⟩
  have ht3 := t3.tab h2 ht2
  obtain ⟨S4, e4, t4, h4⟩ := all_right lox.toLoW lots 32 h3 (by omega) ht3
  rw [show 32 + 7 = 39 from rfl, ← hφ] at e4
  have v4 : Vd φ E1 (.call "_law_all_right" (.cons (.var 4) .nil)) S3 (.bl true) S4 := vd_call (as1 (ev_var g4)) e4 rfl t4.len
  have ht4 := t4.tab h3 ht3
  obtain ⟨S5, e5, t5, h5⟩ := wide_right lox lots 31 h4 (by omega) ht4
  rw [show 31 + 8 = 39 from rfl, ← hφ] at e5
  have v5 : Vd φ E1 (.call "_law_wide_right" (.cons (.var 4) .nil)) S4 (.bl true) S5 := vd_call (as1 (ev_var g4)) e5 rfl t5.len
  have vo : Vd φ E1 (.or (.not (.call "_law_told_right" (.cons (.var 4) (.cons (.var 6) (.cons (.call "_law_lots" (.cons (.var 4) (.cons (.var 6) .nil))) .nil))))) (.or (.not (.call "_law_all_right" (.cons (.var 4) .nil))) (.not (.call "_law_wide_right" (.cons (.var 4) .nil))))) S1 (.bl false) S5 :=
    vd_or0 (vd_not v3) (vd_or0 (vd_not v4) (vd_not v5))
  refine ⟨.int (m : Int), S5, ?_, t1.trans (t2.trans (t3.trans (t4.trans t5))), h5.mono (by omega)⟩
  have hfr : frS φ 2 (.nm 5) c48_1 d [some (.ref 0), x1, none, none, some (.ref i), x5, x6] S = exs φ 2 c48_1 E0 S := by rw [hE0]; rfl
  rw [← hφ, hfr, ← hE1]
  unfold c48_1
  have hif := x_if (a := (.cons (.ret (.bl false)) .nil)) (b := .nil) (vt (base := 2) vo)
  rw [if_neg (by decide), xs_nil] at hif
  rw [xs_nx x1', xs_nx hif, xs_nil]
end K01
end
section
set_option Elab.async false
set_option linter.all false
set_option autoImplicit false
set_option maxHeartbeats 4000000
/-! k01: the law holds at every script, its end -/
namespace K01
open PySem L2 Z G M
/-- one place of the script -/
theorem spot1 (ns : List Int) {S : Sto} (x1 x4 x5 x6 : Option D) (k : Nat) (hk : k < 3) (h0 : S[0]? = some (.fro (ns.map .int))) (ht : S[1]? = some (.tbl "reduced")) :
    ∃ (y4 y5 y6 : Option D) (S' : Sto), frS (run T 39) 2 (.nm 1) c48_2 (.int (k : Int)) [some (.ref 0), x1, none, none, x4, x5, x6] S = some (.nx, [some (.ref 0), some (.int (k : Int)), none, none, y4, y5, y6], S') ∧ S'[0]? = some (.fro (ns.map .int)) ∧ S'[1]? = some (.tbl "reduced") ∧ 2 ≤ S'.length := by
  have hl : 2 ≤ S.length := by have := (List.getElem?_eq_some_iff.mp ht).1; omega
  obtain ⟨E0, hE0⟩ : ∃ E : Ev, E = [some (.ref 0), some (.int (k : Int)), none, none, x4, x5, x6] := ⟨_, rfl⟩
  have hi : itemsOf S (.ref 0) = some (ns.map .int) := by
    show (S[0]?).bind SO.seq? = _
    rw [h0]
    rfl
  obtain ⟨g, s, e1⟩ := dice lox.toDrw 38 0 ns k S hi (by omega)
  obtain ⟨S1, hS1⟩ : ∃ x, x = S ++ [SO.lst [.int g, .int s, .int 0]] := ⟨_, rfl⟩
  have a1 : evE (run T 39) 2 E0 (.call "_law_dice" (.cons (.var 0) (.cons (.var 1) .nil))) S = some (.ref S.length, S1) := by
    rw [e_call (as2 (ev_var (by rw [hE0]; rfl)) (ev_var (by rw [hE0]; rfl))), show (39 : Nat) = 38 + 1 from rfl, e1, hS1]
    exact gc_new0 rfl
  obtain ⟨E1, hE1⟩ : ∃ E : Ev, E = [some (.ref 0), some (.int (k : Int)), none, none, some (.ref S.length), x5, x6] := ⟨_, rfl⟩
  have x1' : ex1 (run T 39) 2 (.set 4 (.call "_law_dice" (.cons (.var 0) (.cons (.var 1) .nil)))) E0 S = some (.nx, E1, S1) := by
    rw [x_set a1, hE0, hE1]
    rfl
  have d1 : DD S1 S.length s (2600 * (0 : Nat)) := ⟨g, 0, by unfold Dice; rw [hS1]; exact at_new, by omega, by omega⟩
  have app : ∀ {j : Nat} {o : SO}, S[j]? = some o → S1[j]? = some o := fun q => by
    rw [hS1, List.getElem?_append_left (List.getElem?_eq_some_iff.mp q).1]
    exact q
  have it : evI (run T 39) 2 E1 (.rng1 (.int 4)) S1 = some (rgI 0 4, none, S1) := ev_rng1 vd_int (by decide)
  obtain ⟨E2, S2, e2, z5, z6, rfl, d2, t2⟩ := for_invQ (step := frS (run T 39) 2 (.nm 5) c48_1) (ok := fun S2 => Z.still S2 none (rgI 0 4))
    (fun k' env St => ∃ x5 x6, env = [some (.ref 0), some (.int (k : Int)), none, none, some (.ref S.length), x5, x6] ∧ DD St S.length s (2600 * (k' : Nat)) ∧ To S.length S1 St) (fun _ _ _ _ => rfl) (fun _ => True) 4
    (fun d k' env St _ hk ⟨x5, x6, z, dd, t⟩ => by
      subst z
      obtain ⟨y, S', e, t', d'⟩ := turn1 (some (.int (k : Int))) x5 x6 d dd hk (t.tab d1 (app ht))
      exact ⟨_, S', e, _, _, rfl, d', t.trans t'⟩) (rgI 0 4) 0 E1 S1 (fun _ _ => True.intro) (by decide) ⟨x5, x6, hE1, d1, d1.self⟩
  refine ⟨some (.ref S.length), z5, z6, S2, ?_, ?_, t2.tab d1 (app ht), ?_⟩
  · have hfr : frS (run T 39) 2 (.nm 1) c48_2 (.int (k : Int)) [some (.ref 0), x1, none, none, x4, x5, x6] S = exs (run T 39) 2 c48_2 E0 S := by rw [hE0]; rfl
    rw [hfr]
    unfold c48_2
    have xf : ex1 (run T 39) 2 (.for (.nm 5) (.rng1 (.int 4)) c48_1) E1 S1 = some (.nx, [some (.ref 0), some (.int (k : Int)), none, none, some (.ref S.length), z5, z6], S2) := by rw [x_for it, e2]
    rw [xs_nx x1', xs_nx xf, xs_nil]
  · rw [t2.at (by omega)]
    exact app h0
  · rw [t2.len, hS1, List.length_append]
    omega
theorem two_le {S : Sto} (ht : S[1]? = some (.tbl "reduced")) : 2 ≤ S.length := by have := (List.getElem?_eq_some_iff.mp ht).1; omega
theorem bel6 : ∀ l, l ∈ [[0, 1, 3], [0, 2, 4], [1, 2, 5]] → Bel 6 l := fun l hl => by
  have key : ∀ l ∈ ([[0, 1, 3], [0, 2, 4], [1, 2, 5]] : List (List Int)), l.Pairwise (· < ·) ∧ (∀ i ∈ l, 0 ≤ i ∧ i < 24) ∧ ∀ j ∈ l, j < ((6 : Nat) : Int) := by decide
  obtain ⟨a, b, c⟩ := key l hl
  exact ⟨⟨a, b⟩, c⟩
theorem bels {m : Nat} {ls : List (List Int)} (h : ∀ l ∈ ls, l.Pairwise (· < ·) ∧ (∀ i ∈ l, 0 ≤ i ∧ i < 24) ∧ ∀ j ∈ l, j < ((m : Nat) : Int)) : ∀ l, l ∈ ls → Bel m l := fun l hl => by
  obtain ⟨a, b, c⟩ := h l hl
  exact ⟨⟨a, b⟩, c⟩
theorem law_ok (ns : List Int) (hn : ns.length ≤ 63) : ∃ S', run T 40 "law" [.ref 0] (scrL ns lams) = some (.bl true, S') := by
  obtain ⟨S0, hS0⟩ : ∃ x, x = scrL ns lams := ⟨_, rfl⟩
  have h0 : S0[0]? = some (.fro (ns.map .int)) := by rw [hS0]; rfl
  have ht0 : S0[1]? = some (.tbl "reduced") := by rw [hS0]; rfl
  have hl0 : S0.length = 2 := by rw [hS0]; rfl
  rw [← hS0, show (40 : Nat) = 39 + 1 from rfl, u48]
  obtain ⟨φ, hφ⟩ : ∃ φ, φ = run T 39 := ⟨_, rfl⟩
  obtain ⟨E0, hE0⟩ : ∃ E : Ev, E = [some (.ref 0), none, none, none, none, none, none] := ⟨_, rfl⟩
  have vl : Vd φ E0 (.blt .len (.cons (.var 0) .nil)) S0 (.int (ns.length : Int)) S0 := ⟨fun base => by
    rw [e_blt (as1 (ev_var (by rw [hE0]; rfl)))]
    have : itemsOf S0 (.ref 0) = some (ns.map D.int) := by
      show (S0[0]?).bind SO.seq? = _
      rw [h0]
      rfl
    show gc S0.length ((itemsOf S0 (.ref 0)).map fun ws => (.int ws.length, S0)) = _
    rw [this, Option.map_some, List.length_map]
    exact gc_len rfl rfl, rfl, rfl⟩
  obtain ⟨N, hN1, hN3, vN⟩ : ∃ N : Nat, 1 ≤ N ∧ N ≤ 3 ∧ Vd φ E0 (.blt .max2 (.cons (.int 1) (.cons (.blt .min2 (.cons (.int 3) (.cons (.blt .len (.cons (.var 0) .nil)) .nil))) .nil))) S0 (.int (N : Int)) S0 := by
    have v2 : ∀ x y z : Int, ∀ b1 b2 : Ex, ∀ w : Bl, Vd φ E0 b1 S0 (.int x) S0 → Vd φ E0 b2 S0 (.int y) S0 → bltF w [.int x, .int y] S0 = some (.int z, S0) → Vd φ E0 (.blt w (.cons b1 (.cons b2 .nil))) S0 (.int z) S0 := fun x y z b1 b2 w q1 q2 q3 => ⟨fun base => by
      rw [e_blt (as2 (q1.ev _) (q2.ev _)), q3]
      exact gc_len rfl rfl, rfl, rfl⟩
    have m1 := v2 3 (ns.length : Int) _ _ _ .min2 vd_int vl rfl
    have m2 := v2 1 _ _ _ _ .max2 vd_int m1 rfl
    refine ⟨(if (if (ns.length : Int) < 3 then (ns.length : Int) else 3) > 1 then (if (ns.length : Int) < 3 then (ns.length : Int) else 3) else 1).toNat, ?_, ?_, ?_⟩
    · split <;> split <;> omega
    · split <;> split <;> omega
    · have e : (((if (if (ns.length : Int) < 3 then (ns.length : Int) else 3) > 1 then (if (ns.length : Int) < 3 then (ns.length : Int) else 3) else 1).toNat : Nat) : Int) = (if (if (ns.length : Int) < 3 then (ns.length : Int) else 3) > 1 then (if (ns.length : Int) < 3 then (ns.length : Int) else 3) else 1) := by
        split <;> split <;> omega
      rw [e]
      exact m2
  have it := ev_rng1 (base := S0.length) vN (rg_small (by omega) (by omega))
  rw [Int.toNat_natCast, hφ] at it
  obtain ⟨E1, S1, e1, y1, y4, y5, y6, rfl, q0, q1, q2⟩ := for_invQ (step := frS (run T 39) S0.length (.nm 1) c48_2) (ok := fun S2 => Z.still S2 none (rgI 0 N))
    (fun _ env St => ∃ x1 x4 x5 x6, env = [some (.ref 0), x1, none, none, x4, x5, x6] ∧ St[0]? = some (.fro (ns.map .int)) ∧ St[1]? = some (.tbl "reduced") ∧ 2 ≤ St.length) (fun _ _ _ _ => rfl) (fun d => ∃ k : Nat, k < 3 ∧ d = .int (k : Int)) N
    (fun d k' env St ⟨k, hk, hd⟩ _ ⟨x1, x4, x5, x6, z, a, b, c⟩ => by
      subst z hd
      rw [hl0]
      obtain ⟨z4, z5, z6, S', e, a', b', c'⟩ := spot1 ns x1 x4 x5 x6 k hk a b
      exact ⟨_, S', e, _, _, _, _, rfl, a', b', c'⟩) (rgI 0 N) 0 E0 S0 (fun d hd => by
        obtain ⟨k, hk, rfl⟩ := rgI_mem N 0 d hd
        exact ⟨k, by omega, by rw [Int.zero_add]⟩) (by rw [rgI_len]; omega) ⟨_, _, _, _, hE0, h0, ht0, by omega⟩
  have x1' : ex1 φ S0.length (.for (.nm 1) (.rng1 (.blt .max2 (.cons (.int 1) (.cons (.blt .min2 (.cons (.int 3) (.cons (.blt .len (.cons (.var 0) .nil)) .nil))) .nil)))) c48_2) E0 S0 = some (.nx, [some (.ref 0), y1, none, none, y4, y5, y6], S1) := by
    rw [hφ, x_for it, e1]
  -- written lots
  obtain ⟨E2, hE2⟩ : ∃ E : Ev, E = [some (.ref 0), y1, some (lotsD [[0, 1, 3], [0, 2, 4], [1, 2, 5]]), none, y4, y5, y6] := ⟨_, rfl⟩
  have v2 : Vd φ [some (.ref 0), y1, none, none, y4, y5, y6] (.tup (lotsE [[0, 1, 3], [0, 2, 4], [1, 2, 5]])) S1 (lotsD [[0, 1, 3], [0, 2, 4], [1, 2, 5]]) S1 := vd_lots _ (by decide) (by decide)
  have x2' : ex1 φ S0.length (.set 2 (.tup (lotsE [[0, 1, 3], [0, 2, 4], [1, 2, 5]]))) [some (.ref 0), y1, none, none, y4, y5, y6] S1 = some (.nx, E2, S1) := by
    rw [x_set (v2.ev _), hE2]
    rfl
  have w2 : ∀ S, Vd φ E2 (.var 2) S (lotsD [[0, 1, 3], [0, 2, 4], [1, 2, 5]]) S := fun S => vd_var (by rw [hE2]; rfl) (cl_lots _)
  have fr1 : (frm (([[0, 1, 3], [0, 2, 4], [1, 2, 5]] : List (List Int)).map maskN)).map lotI = [[0, 2, 4], [1, 2, 5], [3, 4, 5]] := by decide +kernel
  have fr2 : (opp 6 (([[0, 1, 3], [0, 2, 4], [1, 2, 5]] : List (List Int)).map maskN)).map lotI = [[0, 3, 4], [1, 3, 5], [2, 4, 5]] := by decide +kernel
  have b3 : Vd φ E2 (.or (.cmp .NotEq (.call "form_of" (.cons (.var 2) .nil)) (.tup (lotsE [[0, 2, 4], [1, 2, 5], [3, 4, 5]]))) (.cmp .NotEq (.call "opposite_form" (.cons (.int 6) (.cons (.var 2) .nil))) (.tup (lotsE [[0, 3, 4], [1, 3, 5], [2, 4, 5]])))) S1 (.bl false) S1 := by
    refine vd_or0 (S1 := S1) (vd_neF (S1 := S1) (ls := [[0, 2, 4], [1, 2, 5], [3, 4, 5]]) (ns := [[0, 2, 4], [1, 2, 5], [3, 4, 5]]) ?_ (vd_lots _ (by decide) (by decide)) rfl) (vd_neF (S1 := S1) (ls := [[0, 3, 4], [1, 3, 5], [2, 4, 5]]) (ns := [[0, 3, 4], [1, 3, 5], [2, 4, 5]]) ?_ (vd_lots _ (by decide) (by decide)) rfl)
    · have := w2 S1
      rw [hφ] at this ⊢
      have := vd_form lots (n := 33) this (fun l z => (bel6 l z).1) (by decide) q1
      rw [fr1] at this
      exact this
    · have := w2 S1
      rw [hφ] at this ⊢
      have := vd_opp lots (n := 33) (m := 6) (vd_int (k := 6)) this (by decide) bel6 (by decide) q1
      rw [fr2] at this
      exact this
  have hif := x_if (a := (.cons (.ret (.bl false)) .nil)) (b := .nil) (vt (base := S0.length) b3)
  rw [if_neg (by decide), xs_nil] at hif
  -- the list of four
  have c1 : (opp 2 (([] : List (List Int)).map maskN)).map lotI = [[0], [1]] := by decide +kernel
  have c2 : (car 32 (frm ((([[0, 1], [2]] : List (List Int)).map maskN).map (dbl 32) ++ ([[0, 1, 2], [3]] : List (List Int)).map maskN))).map lotI = [[0, 1, 2]] := by decide +kernel
  have c3 : (frm (([[], [2], [2]] : List (List Int)).map maskN)).map lotI = [[2]] := by decide +kernel
  have c4 : (opp 1 (([[0]] : List (List Int)).map maskN)).map lotI = [] := by decide +kernel
  have c5 : (car 32 (frm ((([] : List (List Int)).map maskN).map (dbl 32) ++ ([[0]] : List (List Int)).map maskN))).map lotI = [] := by decide +kernel
  have f1 : ∀ S, S[1]? = some (.tbl "reduced") → Vd φ E2 (.call "opposite_form" (.cons (.int 2) (.cons (.tup (lotsE [])) .nil))) S (lotsD [[0], [1]]) S := fun S hS => by
    rw [hφ]
    have := vd_opp lots (env := E2) (n := 33) (m := 2) (vd_int (k := 2)) (vd_lots [] (by decide) (by decide)) (by decide) (bels (by decide)) (by decide) hS
    rw [c1] at this
    exact this
  have f2 : ∀ S, S[1]? = some (.tbl "reduced") → Vd φ E2 (.call "common_form" (.cons (.tup (lotsE [[0, 1], [2]])) (.cons (.tup (lotsE [[0, 1, 2], [3]])) .nil))) S (lotsD [[0, 1, 2]]) S := fun S hS => by
    rw [hφ]
    have := vd_com lots (env := E2) (n := 33) (vd_lots [[0, 1], [2]] (by decide) (by decide)) (vd_lots [[0, 1, 2], [3]] (by decide) (by decide)) (fun l z => (bels (m := 24) (by decide) l z).1) (fun l z => (bels (m := 24) (by decide) l z).1) (by decide) (by decide) hS
    rw [lts_lots, c2] at this
    exact this
  have f3 : ∀ S, S[1]? = some (.tbl "reduced") → Vd φ E2 (.call "form_of" (.cons (.tup (lotsE [[], [2], [2]])) .nil)) S (lotsD [[2]]) S := fun S hS => by
    rw [hφ]
    have := vd_form lots (env := E2) (n := 33) (vd_lots [[], [2], [2]] (by decide) (by decide)) (fun l z => (bels (m := 24) (by decide) l z).1) (by decide) hS
    rw [c3] at this
    exact this
  have f4 : ∀ S, S[1]? = some (.tbl "reduced") → Vd φ E2 (.call "opposite_form" (.cons (.int 1) (.cons (.tup (lotsE [[0]])) .nil))) S (lotsD []) S := fun S hS => by
    rw [hφ]
    have := vd_opp lots (env := E2) (n := 33) (m := 1) (vd_int (k := 1)) (vd_lots [[0]] (by decide) (by decide)) (by decide) (bels (by decide)) (by decide) hS
    rw [c4] at this
    exact this
  have f5 : ∀ E S, S[1]? = some (.tbl "reduced") → Vd φ E (.call "common_form" (.cons (.tup (lotsE [])) (.cons (.tup (lotsE [[0]])) .nil))) S (lotsD []) S := fun E S hS => by
    rw [hφ]
    have := vd_com lots (env := E) (n := 33) (vd_lots [] (by decide) (by decide)) (vd_lots [[0]] (by decide) (by decide)) (fun l z => (bels (m := 24) (by decide) l z).1) (fun l z => (bels (m := 24) (by decide) l z).1) (by decide) (by decide) hS
    rw [lts_lots, c5] at this
    exact this
  obtain ⟨X, hX⟩ : ∃ X : List (List (List Int)), X = [[[0], [1]], [[0, 1, 2]], [[2]], []] := ⟨_, rfl⟩
  have l4 : Lits φ E2 (.cons (.call "opposite_form" (.cons (.int 2) (.cons (.tup (lotsE [])) .nil))) (.cons (.call "common_form" (.cons (.tup (lotsE [[0, 1], [2]])) (.cons (.tup (lotsE [[0, 1, 2], [3]])) .nil))) (.cons (.call "form_of" (.cons (.tup (lotsE [[], [2], [2]])) .nil)) (.cons (.call "opposite_form" (.cons (.int 1) (.cons (.tup (lotsE [[0]])) .nil))) .nil)))) S1 (X.map lotsD) := by
    rw [hX]
    exact lit_cons (f1 S1 q1) (lit_cons (f2 S1 q1) (lit_cons (f3 S1 q1) (lit_cons (f4 S1 q1) lit_nil)))
  have v4 := vl_lits l4 (by rw [hX]; decide)
  obtain ⟨E3, hE3⟩ : ∃ E : Ev, E = [some (.ref 0), y1, some (lotsD [[0, 1, 3], [0, 2, 4], [1, 2, 5]]), some (.ref S1.length), y4, y5, y6] := ⟨_, rfl⟩
  obtain ⟨S2, hS2⟩ : ∃ x, x = S1 ++ [SO.lst (X.map lotsD)] := ⟨_, rfl⟩
  have x4' : ex1 φ S0.length (.set 3 (.lst (.cons (.call "opposite_form" (.cons (.int 2) (.cons (.tup (lotsE [])) .nil))) (.cons (.call "common_form" (.cons (.tup (lotsE [[0, 1], [2]])) (.cons (.tup (lotsE [[0, 1, 2], [3]])) .nil))) (.cons (.call "form_of" (.cons (.tup (lotsE [[], [2], [2]])) .nil)) (.cons (.call "opposite_form" (.cons (.int 1) (.cons (.tup (lotsE [[0]])) .nil))) .nil)))))) E2 S1 = some (.nx, E3, S2) := by
    rw [x_set (v4.ev _), hE2, hE3, hS2]
    rfl
  have ht2 : S2[1]? = some (.tbl "reduced") := by
    rw [hS2, List.getElem?_append_left (List.getElem?_eq_some_iff.mp q1).1]
    exact q1
  have l5 : Lits φ E3 (.cons (.tup (lotsE [[0], [1]])) (.cons (.tup (lotsE [[0, 1, 2]])) (.cons (.tup (lotsE [[2]])) (.cons (.tup (lotsE [])) .nil)))) S2 (X.map lotsD) := by
    rw [hX]
    exact lit_cons (vd_lots _ (by decide) (by decide)) (lit_cons (vd_lots _ (by decide) (by decide)) (lit_cons (vd_lots _ (by decide) (by decide)) (lit_cons (vd_lots _ (by decide) (by decide)) lit_nil)))
  have v5 := vl_lits l5 (by rw [hX]; decide)
  have hat : ((S2 ++ [SO.lst (X.map lotsD)])[S1.length]?).bind SO.seq? = some (X.map lotsD) := by
    rw [hS2, List.append_assoc, List.getElem?_append_right (by omega), Nat.sub_self]
    rfl
  have hat2 : ((S2 ++ [SO.lst (X.map lotsD)])[S2.length]?).bind SO.seq? = some (X.map lotsD) := by
    rw [at_new]
    rfl
  have b6 : Vd φ E3 (.cmp .Eq (.var 3) (.lst (.cons (.tup (lotsE [[0], [1]])) (.cons (.tup (lotsE [[0, 1, 2]])) (.cons (.tup (lotsE [[2]])) (.cons (.tup (lotsE [])) .nil)))))) S2 (.bl true) S2 := ⟨fun base => by
    rw [e_cmp (ev_var (v := .ref S1.length) (by rw [hE3]; rfl)) (v5.ev _)]
    have : cmpF .Eq (.ref S1.length) (.ref S2.length) (S2 ++ [SO.lst (X.map lotsD)]) = some true := by
      show (match py (S2 ++ [SO.lst (X.map lotsD)]) (.ref S1.length), py (S2 ++ [SO.lst (X.map lotsD)]) (.ref S2.length) with
        | some a, some b => if (SeqAt.shaped a && SeqAt.shaped b) = true then some (PyData.eqv a b) else none
        | _, _ => none) = some true
      rw [py_lotss hat, py_lotss hat2, hX]
      decide +kernel
    rw [this]
    exact gc_lenA rfl rfl, rfl, rfl⟩
  have b7 : Vd φ E3 (.and (.cmp .Eq (.var 3) (.lst (.cons (.tup (lotsE [[0], [1]])) (.cons (.tup (lotsE [[0, 1, 2]])) (.cons (.tup (lotsE [[2]])) (.cons (.tup (lotsE [])) .nil)))))) (.cmp .Eq (.call "common_form" (.cons (.tup (lotsE [])) (.cons (.tup (lotsE [[0]])) .nil))) (.tup (lotsE [])))) S2 (.bl true) S2 :=
    vd_and1 b6 (vd_cmp (f5 E3 S2 ht2) (vd_lots [] (by decide) (by decide)) (by rw [(cmp_lots .Eq).1]; rfl))
  have hx : exs φ S0.length c48 ([D.ref 0].map some ++ List.replicate 6 none) S0 = some (.ret (.bl true), E3, S2) := by
    show exs φ S0.length c48 [some (.ref 0), none, none, none, none, none, none] S0 = _
    rw [← hE0]
    unfold c48
    exact (xs_nx x1').trans ((xs_nx x2').trans ((xs_nx hif).trans ((xs_nx x4').trans (xs_ret (x_ret (b7.ev _))))))
  refine ⟨S2.take S0.length, ?_⟩
  rw [← hφ, run_ret (φ := φ) (c := ⟨1, 7, c48⟩) (vs := [.ref 0]) (S := S0) rfl hx]
  exact gc_cl rfl
end K01
end
set_option maxRecDepth 100000 in
set_option maxHeartbeats 8000000 in
theorem PySem.Challenge.cw_ringtables_k01_whole_forms_and_opposites_holds : PySem.Challenge.rw_ringtables_k01_whole_forms_and_opposites.Holds :=
  K01.holds fun ns hn _ => K01.law_ok ns hn
