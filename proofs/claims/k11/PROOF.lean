import PyProof.Rows.All
import Wide.All
import OpenK.AllK
import Wide.FinOn
import HandS.Base
import HandS.Call
import HandS.List
import HandS.Set
import HandS.SetKeys
import HandS.TupSets
import KE.KDictWalk
import HandS.Iter
import HandS.Walk
import HandS.Strs
import HandS.SetFor
import HandS.Comp
import HandS.Ends
import HandS.Dict
import HandS.Text
import HandS.Words
import HandS.WordsList
import HandS.IsInst
import HandS.Codes
import HandS.TupLen
import HandS.Replace
import KE.KDictCopyH
import KE.KDictPairs
import PyProof.DictMoreH
import HandS.DictTup
import HandS.Deep
import HandS.Conv
import HandS.SortRule
import HandS.More
import HandS.ForExc
import HandS.CallSlots
import HandS.TryMany
import HandS.SetTxt0
import KE.KMinBuiltin
import HandS.Sort
import HandS.SortKw
import HandS.FStr
import HandS.FStrTup
import HandS.ExcOwn
import HandS.RaiseMore
import HandS.WordsDict
import PyProof.InstEq
import HandS.DeepEq
import HandS.HotCalls
import HandS.ExcIs
import KE.KUnpackStar
import KE.KIsAll
import HandS.Exc
import PyProof.ReprHeads
import HandS.StrMore
import HandS.ReplaceLit
import HandS.ReplaceDef
import HandS.ReplaceList
import HandS.TryOnly
import HandS.WordsExc
import PySem.Challenge.RW_twonests_k11_whole_notes
import HandS.ExcInitHot
set_option Elab.async false
set_option linter.all false
set_option maxRecDepth 100000
set_option maxHeartbeats 4000000
namespace TS2
open PySem PySem.Spec PyProof.Rows L2
section
variable {P : Program} {w : World} {A : Around} {E : Value → Shared → Prop} {s : Shared} {a : Addr} {L : List (Addr × List Int)} {es : Array (Int × Value)} {ep : Nat} {t : SetTable}
abbrev start0 (t : SetTable) (h : Int) : SetTable.Probe := runAt t.mask (SetTable.bits h % (t.mask + 1)) (SetTable.bits h)
theorem nodummy (m : Nat) : ∀ (n : Nat) (p : SetTable.Probe), p.dummy = none → (nth m p n).dummy = none
  | 0, _, h => h
  | n + 1, p, h => nodummy m n (adv m p) (by unfold adv; split <;> exact h)
/-- looking for a tuple, from the c-th step on; K is the first empty slot on its way -/
theorem look_from (R : SetTR P w s.heap a L es ep t) {x : Addr} {k : List Int} (hx : IsT P w s.heap k x) (hu : A.units < cLine) {K : Nat} (hKf : K < 10 * SetTable.turns t.mask)
    (hK : way t.mask (thash P w k) K ∉ t.place.toList) (hKb : ∀ c, c < K → way t.mask (thash P w k) c ∈ t.place.toList) {Q : SetFound → Shared → Prop}
    (hin : k ∈ L.map (·.2) → ∀ i, Q (.there (some i)) s) (hout : k ∉ L.map (·.2) → Q (.free (way t.mask (thash P w k) K) false) s) :
    ∀ (f c : Nat) (stand : Option SetTable.Probe), stand.getD (t.probeStart (thash P w k)) = nth t.mask (start0 t (thash P w k)) c → c ≤ K → K - c < f →
      (∀ (i : Nat) p, L[i]? = some p → p.2 = k → ∃ c', c ≤ c' ∧ c' < K ∧ t.place.toList[i]? = some (way t.mask (thash P w k) c')) →
      wpAny (model P w) A (setSearchFrom a (.ref x) (thash P w k) false f stand) Q E s := by
  intro f
  induction f with
  | zero => intro c _ _ _ h _; exact absurd h (Nat.not_lt_zero _)
  | succ f ih =>
    intro c stand hst hc hf hre
    obtain ⟨o, ho, hex, hd⟩ := R.ob
    rw [setSearchFrom_succ]
    refine wpAny_bind (wpAny_setState_of ho hd R.fits ?_)
    dsimp only
    refine wp_if_neg R.gw ?_
    try refine wpAny_bind (wpAny_pure ?_)
    have jq : ∀ q, (nth t.mask (nth t.mask (start0 t (thash P w k)) c) q).j = way t.mask (thash P w k) (c + q) := fun q => congrArg SetTable.Probe.j (nth_add t.mask c _ q).symm
    have hat : ∀ (i : Nat) p, L[i]? = some p → (fun i => (es[i]?.map (·.1)).getD 0) i = thash P w p.2 := fun i p hp => by
      show (es[i]?.map (·.1)).getD 0 = _
      rw [R.entry hp] <;> rfl
    rcases go_spec t R.tab.ris R.tab.dm (fun i => (es[i]?.map (·.1)).getD 0) (thash P w k) (10 * SetTable.turns t.mask) (K - c) (nth t.mask (start0 t (thash P w k)) c) (nodummy _ _ _ rfl) (by omega)
      (fun q hq => by rw [jq]; exact hKb (c + q) (by omega)) (by rw [jq, show c + (K - c) = K by omega]; exact hK) with ⟨q, i, hq, hi, hh, hno, hpr⟩ | ⟨hno, hpr⟩
    · have hpr2 : t.probe (fun i => (es[i]?.map (·.1)).getD 0) (thash P w k) (stand.getD (t.probeStart (thash P w k))) = some (.candidate (way t.mask (thash P w k) (c + q)) i (nth t.mask (start0 t (thash P w k)) (c + (q + 1)))) := by
        rw [hst, ← jq, nth_add t.mask c _ (q + 1)]
        exact hpr
      rw [hpr2]
      dsimp only
      rw [jq] at hi
      have hil : i < L.length := by
        have h1 := (List.getElem?_eq_some_iff.mp hi).1
        have h2 := R.tab.sz
        rw [List.length_map] at h2
        rw [Array.length_toList] at h1
        omega
      obtain ⟨p, hp⟩ : ∃ p, L[i]? = some p := ⟨_, List.getElem?_eq_getElem hil⟩
      have hpm : p ∈ L := List.mem_of_getElem? hp
      have hsl : t.slot (way t.mask (thash P w k) (c + q)) = .live i := slot_live R.tab.ris hi
      have tail : wpAny (model P w) A (searchRest a (.ref x) (thash P w k) false f es t (way t.mask (thash P w k) (c + q)) i (nth t.mask (start0 t (thash P w k)) (c + (q + 1)))) Q E s := by
        unfold searchRest
        rw [R.entry hp]
        dsimp only
        refine wpAny_bind (wpAny_holding (wpAny_eqBool_tuple hu (R.tup p hpm) hx ?_))
        refine wpAny_bind (wpAny_setState_of ho hd R.fits ?_)
        dsimp only
        refine wp_if_neg (by simp) ?_
        try refine wpAny_bind (wpAny_pure ?_)
        rw [sameMem]
        dsimp only
        simp only [if_true, hsl, R.entry hp]
        refine wpAny_bind (wpAny_isSame_ref_self (wpAny_bind (wpAny_pure ?_)))
        simp only [if_true]
        by_cases hkk : p.2 = k
        · refine wp_if_pos (by simp [hkk]) ?_
          exact wpAny_pure (hin (List.mem_map.mpr ⟨p, hpm, hkk⟩) _)
        · refine wp_if_neg (by simp [hkk]) ?_
          refine ih (c + (q + 1)) _ rfl (by omega) (by omega) fun i0 p0 h0 hk0 => ?_
          obtain ⟨c', a1, a2, a3⟩ := hre i0 p0 h0 hk0
          refine ⟨c', ?_, a2, a3⟩
          by_cases z : c' < c + q
          · exfalso
            refine hno (c' - c) i0 (by omega) (by rw [jq, show c + (c' - c) = c' by omega]; exact a3) ?_
            exact (hat i0 p0 h0).trans (congrArg (thash P w) hk0)
          · by_cases y : c' = c + q
            · exfalso
              rw [y] at a3
              have s0 := slot_live R.tab.ris a3
              rw [hsl] at s0
              injection s0 with s0
              rw [← s0, hp] at h0
              exact hkk ((congrArg Prod.snd (Option.some.inj h0)).trans hk0)
            · omega
      by_cases hl : t.led = true
      · refine wp_if_neg (by simp [hl]) ?_
        try refine wpAny_bind (wpAny_pure ?_)
        exact tail
      · refine wp_if_pos (by simp [hl]) ?_
        refine wpAny_bind (seen_tup hx (fun y hy => ?_) ?_)
        · obtain ⟨e, he, ee⟩ := List.mem_map.mp hy
          have he1 : e ∈ es ∧ e.1 = thash P w k := by simpa using he
          have he2 : e ∈ es.toList := by simpa using he1.1
          rw [R.rows] at he2
          obtain ⟨p2, hp2, e2⟩ := List.mem_map.mp he2
          exact ⟨p2.2, p2.1, by rw [← ee, ← e2], R.tup p2 hp2⟩
        · refine wp_if_neg (by decide) ?_
          try refine wpAny_bind (wpAny_pure ?_)
          exact tail
    · have hpr2 : t.probe (fun i => (es[i]?.map (·.1)).getD 0) (thash P w k) (stand.getD (t.probeStart (thash P w k))) = some (.empty (way t.mask (thash P w k) K) none) := by
        rw [hst, show way t.mask (thash P w k) K = way t.mask (thash P w k) (c + (K - c)) by rw [show c + (K - c) = K by omega], ← jq]
        exact hpr
      rw [hpr2]
      dsimp only
      refine wpAny_pure (hout fun hm => ?_)
      obtain ⟨p0, h0, hk0⟩ := List.mem_map.mp hm
      obtain ⟨i0, hi0, e0⟩ := List.getElem_of_mem h0
      have h00 : L[i0]? = some p0 := by rw [List.getElem?_eq_getElem hi0, e0]
      obtain ⟨c', a1, a2, a3⟩ := hre i0 p0 h00 hk0
      exact hno (c' - c) i0 (by omega) (by rw [jq, show c + (c' - c) = c' by omega]; exact a3) ((hat i0 p0 h00).trans (congrArg (thash P w) hk0))
theorem look_at (R : SetTR P w s.heap a L es ep t) {x : Addr} {k : List Int} (hx : IsT P w s.heap k x) (hu : A.units < cLine) {Q : Option Nat → Shared → Prop}
    (h : ∀ r : Option Nat, r.isSome = decide (k ∈ L.map (·.2)) → Q r s) : wpAny (model P w) A (setFind a (.ref x) (thash P w k)) Q E s := by
  obtain ⟨o, ho, hex, hd⟩ := R.ob
  have hroom := R.room
  obtain ⟨K, hKf, hK, hKb⟩ := R.tab.first (by rw [List.length_map]; omega) (thash P w k)
  have hbig : K < 100000 := by
    have : 10 * SetTable.turns t.mask ≤ 1420 := by
      unfold SetTable.turns
      rcases R.tab.mok with e | e | e <;> omega
    omega
  unfold setFind
  rw [show (100000 : Nat) = 99999 + 1 from rfl]
  unfold setFindIn
  refine wpAny_bind (wpAny_setState_of ho hd R.fits ?_)
  dsimp only
  refine wp_if_neg (by simp [byScan, Value.scannable]) ?_
  try refine wpAny_bind (wpAny_pure ?_)
  refine wpAny_bind ?_
  unfold setSearch
  refine look_from R hx hu hKf hK hKb (fun hn i => ?_) (fun hn => ?_) 100000 0 none rfl (Nat.zero_le _) (by omega) fun i p hp hk => ?_
  · dsimp only
    exact wpAny_pure (h (some i) (by rw [decide_eq_true hn]; rfl))
  · dsimp only
    exact wpAny_pure (h none (by rw [decide_eq_false hn]; rfl))
  · have hi : (L.map fun p => thash P w p.2)[i]? = some (thash P w k) := by rw [List.getElem?_map, hp, ← hk] <;> rfl
    have hil : i < t.place.toList.length := by
      have h1 := (List.getElem?_eq_some_iff.mp hp).1
      have h2 := R.tab.sz
      rw [List.length_map] at h2
      rw [Array.length_toList]
      omega
    have hj := List.getElem?_eq_getElem hil
    obtain ⟨c, hc, e⟩ := R.tab.before hK hi hj
    exact ⟨c, Nat.zero_le _, hc, by rw [hj, e]⟩
theorem rtyp (R : SetTR P w s.heap a L es ep t) : s.TypeIs (.ref a) "set" := by
  obtain ⟨o, ho, hex, _⟩ := R.ob
  exact ⟨o, ho, hex.1⟩
theorem rnoD (R : SetTR P w s.heap a L es ep t) : ∀ b, Value.ref a = .ref b → ∃ ob, s.heap.get? b = some ob ∧ ob.dict = none := by
  obtain ⟨o, ho, hex, _⟩ := R.ob
  intro b e
  injection e with e
  subst e
  exact ⟨o, ho, hex.2.1⟩
theorem in_tup (R : SetTR P w s.heap a L es ep t) {x : Addr} {k : List Int} (hx : IsT P w s.heap k x) (hu : A.units + 8 < cLine) {Q : Value → Shared → Prop}
    (h : ∀ tk, Q (.bool (decide (k ∈ L.map (·.2)))) { s with toks := tk }) : wpAny (model P w) A (compareOp .In (.ref x) (.ref a)) Q E s := by
  show wpAny _ _ (do return .bool (← contains (.ref a) (.ref x))) Q E s
  refine wpAny_bind ?_
  unfold contains
  try with_reducible refine wpAny_holding ?_
  refine wpAny_bind (wpAny_specialOf (rtyp R) F.slot_set_contains.lookup ?_)
  show wpAny _ _ (if (some (Value.builtin "set.__contains__") == some Value.none) = true then _ else _) _ E s
  rw [if_neg (by rw [beq_builtin_none]; exact Bool.false_ne_true)]
  refine wpAny_bind (wpAny_callSpecialUnlessNone?_slot (name := Str.ofString "__contains__") (rtyp R) F.slot_set_contains
    (wpAny_call_entry F.slot_set_contains (rtyp R) entry_set_contains ?_ (F.args_set_contains_2 _ _)))
  unfold Builtin.«frozenset.__contains__» Builtin.Frozenset.oneOther
  simp only [List.isEmpty_nil, bind_assoc]
  unfold Builtin.Frozenset.addrOf Builtin.Frozenset.withSetAsKey setContains
  refine wpAny_bind (wpAny_pure ?_)
  try dsimp only
  refine wpAny_bind (wpAny_pure ?_)
  try dsimp only
  refine wpAny_bind (wpAny_tryCatch ?_)
  refine wpAny_holding ?_
  refine wpAny_bind (wpAny_pyHash_tuple (by show A.units + 1 < cLine; omega) hx ?_)
  refine wpAny_bind (look_at (s := { s with toks := s.toks + (k.length + 1) }) R hx (by show A.units + 1 < cLine; omega) fun r hr => ?_)
  refine wpAny_pure ?_
  show wpAny _ _ (ret (Value.bool r.isSome)) _ _ _
  rw [hr]
  exact wpAny_pure ⟨_, rfl, wpAny_truthy_bool (wpAny_pure (h _))⟩
theorem notin_tup (R : SetTR P w s.heap a L es ep t) {x : Addr} {k : List Int} (hx : IsT P w s.heap k x) (hu : A.units + 8 < cLine) {Q : Value → Shared → Prop}
    (h : ∀ tk, Q (.bool (!decide (k ∈ L.map (·.2)))) { s with toks := tk }) : wpAny (model P w) A (compareOp .NotIn (.ref x) (.ref a)) Q E s := by
  show wpAny _ _ (do return .bool (!(← contains (.ref a) (.ref x)))) Q E s
  refine wpAny_bind ?_
  unfold contains
  try with_reducible refine wpAny_holding ?_
  refine wpAny_bind (wpAny_specialOf (rtyp R) F.slot_set_contains.lookup ?_)
  show wpAny _ _ (if (some (Value.builtin "set.__contains__") == some Value.none) = true then _ else _) _ E s
  rw [if_neg (by rw [beq_builtin_none]; exact Bool.false_ne_true)]
  refine wpAny_bind (wpAny_callSpecialUnlessNone?_slot (name := Str.ofString "__contains__") (rtyp R) F.slot_set_contains
    (wpAny_call_entry F.slot_set_contains (rtyp R) entry_set_contains ?_ (F.args_set_contains_2 _ _)))
  unfold Builtin.«frozenset.__contains__» Builtin.Frozenset.oneOther
  simp only [List.isEmpty_nil, bind_assoc]
  unfold Builtin.Frozenset.addrOf Builtin.Frozenset.withSetAsKey setContains
  refine wpAny_bind (wpAny_pure ?_)
  try dsimp only
  refine wpAny_bind (wpAny_pure ?_)
  try dsimp only
  refine wpAny_bind (wpAny_tryCatch ?_)
  refine wpAny_holding ?_
  refine wpAny_bind (wpAny_pyHash_tuple (by show A.units + 1 < cLine; omega) hx ?_)
  refine wpAny_bind (look_at (s := { s with toks := s.toks + (k.length + 1) }) R hx (by show A.units + 1 < cLine; omega) fun r hr => ?_)
  refine wpAny_pure ?_
  show wpAny _ _ (ret (Value.bool r.isSome)) _ _ _
  rw [hr]
  exact wpAny_pure ⟨_, rfl, wpAny_truthy_bool (wpAny_pure (h _))⟩
/-- a set that bears how it was led -/
theorem newSet_led {Q : Value → Shared → Prop}
    (h : Q (.ref s.heap.objs.size) { s with heap := s.heap.push { cls := .type "set", dict := none, data := .set #[] 0 (.fresh 0 0 (!w.params.followText "set-order")) } }) : wpAny (model P w) A (newSet (.type "set")) Q E s := by
  unfold newSet setsByText
  refine wpAny_bind (wpAny_bind (wpAny_askSetting (wpAny_pure ?_)))
  dsimp only
  simp only [newObj]
  exact wpAny_bind (wpAny_alloc (wpAny_pure h))
/-- set.add of a tuple, at the model's own word -/
theorem add_tup (R : SetTR P w s.heap a L es ep t) {x : Addr} {k : List Int} (hx : IsT P w s.heap k x) (hu : A.units + 1 < cLine) (hfew : L.length + 1 < 64) {Q : Bool → Shared → Prop}
    (hQ : ∀ b tk h' L' es' ep' t', Heap.SameBut a s.heap h' → SetTR P w h' a L' es' ep' t' → (k ∈ L.map (·.2) → L' = L) → (k ∉ L.map (·.2) → L'.Perm ((x, k) :: L)) → Q b { s with heap := h', toks := tk }) :
    wpAny (model P w) A (setAdd a (.ref x)) Q E s := by
  unfold setAdd
  refine wpAny_holding ?_
  refine wpAny_bind (wpAny_pyHash_tuple (by omega) hx ?_)
  exact add_at (s := { s with toks := s.toks + (k.length + 1) }) R hx (by omega) hfew fun b h' L' es' ep' t' sb r c1 c2 => hQ b _ h' L' es' ep' t' sb r c1 c2
end
/-! ### the rules of the layer -/
/-- the set at a holds the tuples of L (address, ints), each tuple tracked -/
def TSet (K : PySem.W.Frag) (P : Program) (w : World) (H : Hp) (a : Addr) (L : List (Addr × List Int)) : Prop := H a = some (SetTO P w a L) ∧ (∀ p ∈ L, SqT K H p.1 (p.2.map V.int))
section
variable {X : Cx} {pins : List (Addr × Obj)} {σ : L2.St} {H : Hp} {s : Shared}
theorem full_of (I : Inv X pins σ H s) {a : Addr} {L : List (Addr × List Int)} (T : TSet X.K X.prog X.w H a L) : ∃ es ep t, SetTR X.prog X.w s.heap a L es ep t :=
  (show SetT0 X.prog X.w s.heap a L from (I.hok a _ T.1).1).full fun p hp => I.isT (T.2 p hp)
def rTIn (K : PySem.W.Frag) (P : Program) (w : World) (neg : Bool) : R2 := fun x y H Q => ∃ (b a : Addr) (k : List Int) (L : List (Addr × List Int)), x = .ref b ∧ y = .ref a ∧ SqT K H b (k.map V.int) ∧ TSet K P w H a L ∧ Q (.bl (if neg then !decide (k ∈ L.map (·.2)) else decide (k ∈ L.map (·.2)))) H
theorem or_tin (hu : X.A.units + 8 < cLine) : OpR X (compareOp .In) (rTIn X.K X.prog X.w false) := by
  intro pins s σ H x y v u Q I rx ry h
  obtain ⟨b, a, k, L, rfl, rfl, hb, ha, q⟩ := h
  cases rx
  cases ry
  obtain ⟨es, ep, t, R⟩ := full_of I ha
  exact in_tup R (I.isT hb) hu fun tk => ⟨.bl _, H, I.tok _, rfl, q⟩
theorem or_tnotin (hu : X.A.units + 8 < cLine) : OpR X (compareOp .NotIn) (rTIn X.K X.prog X.w true) := by
  intro pins s σ H x y v u Q I rx ry h
  obtain ⟨b, a, k, L, rfl, rfl, hb, ha, q⟩ := h
  cases rx
  cases ry
  obtain ⟨es, ep, t, R⟩ := full_of I ha
  exact notin_tup R (I.isT hb) hu fun tk => ⟨.bl _, H, I.tok _, rfl, q⟩
/-- s.add(t) -/
def rTAdd (K : PySem.W.Frag) (P : Program) (w : World) : V → List V → Hp → VK → Prop := fun x xs H Q => ∃ (b a : Addr) (k : List Int) (L : List (Addr × List Int)), x = .ref a ∧ xs = [.ref b] ∧ SqT K H b (k.map V.int) ∧ TSet K P w H a L ∧ L.length + 1 < 64 ∧
  ∀ L', (k ∈ L.map (·.2) → L' = L) → (k ∉ L.map (·.2) → L'.Perm ((b, k) :: L)) → Q .non (upd H a (SetTO P w a L'))
theorem mt_tadd (hu : X.A.units + 8 < cLine) : MtR X "set.add" (rTAdd X.K X.prog X.w) := by
  intro pins s σ H x xs v us Q I rx rxs h
  obtain ⟨b, a, k, L, rfl, rfl, hb, ha, few, q⟩ := h
  cases rx
  cases rxs with
  | cons ry rt =>
    cases rt
    cases ry
    obtain ⟨es, ep, t, R⟩ := full_of I ha
    refine wpAny_call_entry F.slot_set_add (rtyp R) F.entry_set_add ?_ (F.args_set_add_2 _ _)
    unfold Builtin.«set.add» Builtin.Frozenset.oneOther
    simp only [List.isEmpty_nil, bind_assoc]
    unfold Builtin.Frozenset.addrOf
    refine wpAny_bind (wpAny_pure ?_)
    try dsimp only
    refine wpAny_bind (wpAny_pure ?_)
    try dsimp only
    refine wpAny_bind ?_
    refine add_tup R (I.isT hb) (by show X.A.units + 1 + 1 < cLine; omega) few fun r tk h' L' es' ep' t' sb R' c1 c2 => ?_
    show wpAny _ _ (ret Value.none) _ _ _
    have he : ∃ u, h'.get? a = some u := by
      obtain ⟨o, ho, _⟩ := R'.ob
      exact ⟨o, ho⟩
    refine wpAny_pure ⟨_, rfl, .non, upd H a (SetTO X.prog X.w a L'), I.write (e := a) (t' := tk) (by rw [ha.1]; trivial) (.inl rfl) (fun b u hb hu => (sb.2 b hb).trans hu) he (setTO_new R'.t0), rfl, q L' c1 c2⟩
def tTAdd (K : PySem.W.Frag) (P : Program) (w : World) (to : TE) (t : TA) : TE := fun σ H Q => to σ H fun x H1 => (∃ a L, x = V.ref a ∧ TSet K P w H1 a L) ∧ t σ H1 fun xs H2 => rTAdd K P w x xs H2 Q
variable {o e : Expr} {es : List Expr} {to te : TE} {t : TA} {apos cpos : Pos}
theorem pe_tadd (hu : X.A.units + 8 < cLine) (ho : PE X o to) (ha : PA X (e :: es) t)
    (hbase : attributeBase o "add" X.env (eval o X.env) = eval o X.env := by rfl)
    (hfew : ((backTo cpos (starEach (e :: es) X.env)).all (fun x => !x.1) && (backToKw cpos (keywordEach [] X.env)).all (fun x => x.1.isSome)
      && decide ((e :: es).length + ([] : List Keyword).length + (if ([] : List Keyword).isEmpty then 0 else 1) < 30)) = true := by rfl)
    (hline : (apos.endLine == cpos.line) = true := by rfl) (hs : starEach (e :: es) X.env = (false, eval e X.env) :: starEach es X.env := by rfl) (hplain : (backTo cpos (starEach es X.env)).any (·.1) = false := by rfl) :
    PE X (.Call (.Attribute o "add" apos) (e :: es) [] cpos) (tTAdd X.K X.prog X.w to t) := by
  refine ⟨fun pins s σ H Q I h => ?_⟩
  refine wpAny_Call_method_late hbase hfew hline rfl (thn (ho.run pins s σ H _ I h) fun v s1 ⟨x, H1, I1, r1, ty, q1⟩ => ?_)
  obtain ⟨a, L, rfl, hka⟩ := ty
  obtain ⟨es0, ep0, t0, R⟩ := full_of I1 hka
  cases r1
  refine ⟨"set", "set.add", F.plainAttrs_set, F.slot_set_add, F.type_set_add, rtyp R, rnoD R, ?_⟩
  have hA := ha.run cpos pins s1 σ H1 _ I1 q1
  rw [hs] at hA ⊢
  refine Calls.callWith_builtin (by show (false || (backTo cpos (starEach es X.env)).any (·.1)) = false; rw [hplain] <;> rfl) (Calls.evalArgs_plain ?_)
  exact thn hA fun us s2 ⟨vs, H2, I2, r2, q2⟩ => mt_tadd hu pins s2 σ H2 (.ref a) vs (.ref a) us Q I2 rfl r2 q2
/-- {t}, a set display of one tuple -/
def tSet1 (K : PySem.W.Frag) (P : Program) (w : World) (te : TE) : TE := fun σ H Q => ∀ p, H p = none → te σ (upd H p (SetTO P w p [])) fun x H1 => H1 p = some (SetTO P w p []) ∧ ∃ (b : Addr) (k : List Int), x = .ref b ∧ SqT K H1 b (k.map V.int) ∧ Q (.ref p) (upd H1 p (SetTO P w p [(b, k)]))
theorem code_of {K : PySem.W.Frag} {cd : Value} {q : Str} (h : PySem.W.codeIn K cd q = true) : PySem.W.kdsCode K cd = true := by
  unfold PySem.W.codeIn at h
  unfold PySem.W.kdsCode
  cases cd with
  | ref c =>
    dsimp only at h ⊢
    cases e : K.lookup c with
    | none => rw [e] at h; cases h
    | some o =>
      rw [e] at h
      obtain ⟨oc, od, dt, sl⟩ := o
      cases dt <;> first | rfl | cases h
  | _ => cases h
theorem pe_set1 {pos : Pos} (hu : X.A.units + 8 < cLine) (hcd : PySem.W.kdsCode X.K X.env.code = true) (he : PE X e te) (hp : PySem.W.kdsPlain e = true := by rfl) : PE X (.Set [e] 0 pos) (tSet1 X.K X.prog X.w te) := by
  refine ⟨fun pins s σ H Q I h => ?_⟩
  rw [arm_eval_Set]
  refine wpAny_bind (wpAny_standAt ?_)
  refine wpAny_bind (PySem.W.kds_main I.kIn hcd fun b => ?_)
  rw [PySem.W.kds_star [e] (by rw [List.all_cons, hp]; rfl), List.map_map]
  have hroad : (displayRoad 0 [e] == DisplayRoad.constants) = false := by
    unfold displayRoad
    rfl
  have hroad2 : (displayRoad 0 [e] == DisplayRoad.unsure) = false := by
    unfold displayRoad
    rfl
  unfold setDisplay
  rw [hroad, hroad2]
  simp only [Bool.false_eq_true, if_false]
  refine wpAny_bind (newSet_led ?_)
  dsimp only
  rw [arm_evalEach_cons, arm_evalEach_nil]
  simp only [List.map_cons, List.map_nil, List.length_cons, List.length_nil, Function.comp, List.findIdx?_cons, List.findIdx?_nil, Option.map_none, Option.getD_none, Nat.zero_add, gt_iff_lt, Nat.not_lt, show ¬ (30 < 1) by decide, if_false, List.take_succ_cons, List.take_zero, List.drop_succ_cons, List.drop_zero, List.forIn_nil, Bool.false_eq_true, List.take_nil, List.drop_nil]
  have hget : (s.heap.push { cls := .type "set", dict := none, data := .set #[] 0 (.fresh 0 0 (!X.w.params.followText "set-order")) }).get? s.heap.objs.size = some { cls := .type "set", dict := none, data := .set #[] 0 (.fresh 0 0 (!X.w.params.followText "set-order")) } := Heap.get?_push_size _ rfl
  have R0 : SetTR X.prog X.w (s.heap.push { cls := .type "set", dict := none, data := .set #[] 0 (.fresh 0 0 (!X.w.params.followText "set-order")) }) s.heap.objs.size [] #[] 0 (.fresh 0 0 (!X.w.params.followText "set-order")) := setTR_fresh hget
  have I0 := I.laid (a := s.heap.objs.size) (t' := s.toks) (fun b u e => Heap.get?_push_of_some _ e) (Nat.le_refl _) (setTO_new (H := upd H s.heap.objs.size (SetTO X.prog X.w s.heap.objs.size [])) R0.t0)
  refine wpAny_bind (wpAny_holding ?_)
  refine wpAny_bind (wpAny_evalAll_cons ?_)
  refine wpAny_bind (thn (he.run pins _ σ _ _ I0 (h s.heap.objs.size (I.hok.fresh (Nat.le_refl _)))) fun v s1 ⟨x, H1, I1, r1, hp1, b, k, ex, hb, q⟩ => ?_)
  subst ex
  cases r1
  refine wpAny_bind (wpAny_standAt (wpAny_pure ?_))
  refine wpAny_evalAll_nil ?_
  refine wpAny_bind (wpAny_holding ?_)
  rw [List.forIn_cons]
  obtain ⟨es1, ep1, t1, R1⟩ := full_of I1 (L := []) ⟨hp1, fun p hp => by cases hp⟩
  refine wpAny_bind (wpAny_bind (wpAny_bind (add_tup R1 (I1.isT hb) (by omega) (by decide) fun r tk h' L' es' ep' t' sb R' c1 c2 => ?_)))
  refine wpAny_pure ?_
  dsimp only
  rw [List.forIn_nil]
  have eL : L' = [(b, k)] := List.perm_singleton.mp (c2 (by simp))
  subst eL
  have hex : ∃ u, h'.get? s.heap.objs.size = some u := by
    obtain ⟨o, ho, _⟩ := R'.ob
    exact ⟨o, ho⟩
  have I2 := I1.write (e := s.heap.objs.size) (t' := tk) (by rw [hp1]; trivial) (.inl rfl) (fun b u hb hu => (sb.2 b hb).trans hu) hex (setTO_new R'.t0)
  refine wpAny_pure ?_
  refine wpAny_pure ?_
  refine wpAny_bind (wpAny_pure ?_)
  refine wpAny_pure ?_
  exact wpAny_pure ⟨.ref s.heap.objs.size, _, I2, rfl, q⟩
end
end TS2

namespace TS2
open PySem PySem.Spec PyProof.Rows L2
/-! ### for k, v in d.items(), the keys of d tuples: each turn a new pair of the key's own tuple and the value -/
def ItiT (d : Addr) (o : Obj) (kvs : List (List Key × V)) : It :=
  ⟨fun i H => H d = some (.frz o (.dT kvs)) ∧ i < kvs.length,
   fun i H x H' => ∃ (T : Addr) (k : List Key) (v : V) (q : Addr), kvs[i]? = some (k, v) ∧ x = .ref T ∧ H T = none ∧ H q = some (.tup (k.map kV)) ∧ H' = upd H T (.tup [.ref q, v]),
   fun i H => H d = some (.frz o (.dT kvs)) ∧ kvs.length ≤ i⟩
section
variable {P : Program} {w : World} {K : PySem.W.Frag} {d : Addr} {o : Obj}
theorem frzV {X : Cx} {pins : List (Addr × Obj)} {σ : L2.St} {H : Hp} {s : Shared} {kvs : List (List Key × V)} (I : L2.Inv X pins σ H s) (h : H d = some (.frz o (.dT kvs))) :
    (d == sysModules) = false ∧ ∃ (es : Array DictEntry) (ep : Nat), s.heap.DictRaw d es ep ∧ o.data = .dict es ep ∧ es.size = kvs.length ∧
      ∀ (i : Nat) (k : List Key) (v : V), kvs[i]? = some (k, v) → ∃ (en : DictEntry) (q : Addr), es[i]? = some en ∧ en.key = .ref q ∧ RelV v en.val ∧ H q = some (.tup (k.map kV)) := by
  obtain ⟨hd, z, hs, xs, pr, o', es, ep, ho, hx, hdt, he, _⟩ := I.hok d _ h
  rw [hd] at ho
  cases ho
  refine ⟨hs, es, ep, ⟨o, hd, hx, hdt⟩, hdt, (size_of_entries he).trans (Paired.length pr).symm, fun i k v e => ?_⟩
  obtain ⟨b, hb, e1, e2, e3⟩ := L2.paired_get pr e
  have q := entry_at he i
  rw [hb] at q
  exact ⟨_, b.2.1, q, rfl, e3, e2⟩
theorem turn_itemsT {es : Array DictEntry} {ep : Nat} {kvs : List (List Key × V)} {elts : List Expr} {kk : Nat} {tpos : Pos} (it : Addr) (hod : o.data = .dict es ep) :
    Turn P w K (.Tuple elts kk tpos) (ItiT d o kvs) [it] it (fun i h => ∃ ok ov, IsItemIter h it d i kvs.length ep ok ov) where
  mem := List.mem_singleton.mpr rfl
  obj := fun i h ⟨ok, ov, e⟩ b hb => by
    cases List.mem_singleton.mp hb
    exact ⟨_, e, fun v z => nomatch z⟩
  keep := fun i h h' ⟨ok, ov, e⟩ k => ⟨ok, ov, k it (List.mem_singleton.mpr rfl) _ e⟩
  item := by
    intro X hP hw hK hc i pins s σ H E I hf ⟨ok, ov, he⟩ ⟨hd, hi⟩
    subst hP hw hK
    obtain ⟨hs, es', ep', hm, hdt, hsz, ent⟩ := frzV I hd
    obtain ⟨rfl, rfl⟩ := dict_ep hod hdt
    obtain ⟨⟨k, v⟩, hkv⟩ : ∃ p, kvs[i]? = some p := ⟨_, List.getElem?_eq_getElem hi⟩
    obtain ⟨en, q, hen, hkey, rv, hq⟩ := ent i k v hkv
    rw [← hsz] at he hi
    have eE : es'[i] = en := by
      rw [Array.getElem?_eq_getElem hi] at hen
      exact Option.some.inj hen
    have hlt : it < s.heap.objs.size := Heap.lt_size he
    refine wpAny_pyNext_items_item_raw he hm hi fun h' ho hT hz hk => ⟨_, rfl, wpAny_letOwnedTupleGo_items (s := { s with heap := h' }) ho fun h2 he2 sb => ?_⟩
    rw [eE, hkey] at hT
    have hT2 : h2.get? s.heap.objs.size = some { cls := .type "tuple", data := .seq #[.ref q, en.val] } := (sb.2 _ (Nat.ne_of_gt hlt)).trans hT
    have new : ObjOk X.prog X.w (upd H s.heap.objs.size (.tup [.ref q, v])) h2 s.heap.objs.size (.tup [.ref q, v]) :=
      ⟨by show 2 ≤ sizeLine; decide, [.ref q, en.val], .cons rfl (.cons rv .nil), ⟨_, hT2, rfl, _, rfl⟩⟩
    have I1 : L2.Inv X pins σ (upd H s.heap.objs.size (.tup [.ref q, v])) { s with heap := h2 } :=
      I.turnedNew (t' := s.toks) (ch := [it]) (fun b ob hb e => (sb.2 b (fun z => hb (List.mem_singleton.mpr z))).trans (hk b ob (fun z => hb (List.mem_singleton.mpr z)) e)) hf (Nat.le_refl _) new
    refine ⟨.ref s.heap.objs.size, _, I1, rfl, ⟨_, k, v, q, hkv, rfl, I.hok.fresh (Nat.le_refl _), hq, rfl⟩, ⟨en.key, en.val, ?_⟩, fun b hb => ?_⟩
    · rw [← hsz]
      rw [eE] at he2
      exact he2
    · cases List.mem_singleton.mp hb
      rw [upd_ne (Nat.ne_of_lt hlt)]
      exact (hf it (List.mem_singleton.mpr rfl)).1
  done := by
    intro X hP hw hK hc i pins s σ H E I hf ⟨ok, ov, he⟩ ⟨hd, hi⟩
    subst hP hw hK
    obtain ⟨f0, f1, f2, f3, f4, f5⟩ := hf it (List.mem_singleton.mpr rfl)
    obtain ⟨hs, es', ep', hm, hdt, hsz, ent⟩ := frzV I hd
    obtain ⟨rfl, rfl⟩ := dict_ep hod hdt
    rw [← hsz] at he hi
    exact wpAny_pyNext_items_end_raw (I.ok.hd hc) he hm hi fun h' eb => ⟨rfl, I.turned (t' := s.toks) (fun b ob hb e => eb b ob hb e) f0 f1 f3 f4 f5⟩
  self := fun A i s Q E ⟨_, _, e⟩ h => PySem.W.kcp_self e h
end
/-- d.items(), the dict locked -/
def iItemsT (td : TE) : TI := fun σ H R => td σ H fun x H1 => ∃ d o kvs, x = .ref d ∧ H1 d = some (.frz o (.dT kvs)) ∧ R (ItiT d o kvs) H1
theorem pi_itemsT {X : Cx} {e : Expr} {td : TE} {apos cpos : Pos} {elts : List Expr} {kk : Nat} {tpos : Pos} (he : PE X e td) (hbase : attributeBase e "items" X.env (eval e X.env) = eval e X.env := by rfl) (hline : (apos.endLine == cpos.line) = true := by rfl) :
    PI X (.Tuple elts kk tpos) (.Call (.Attribute e "items" apos) [] [] cpos) (iItemsT td) := by
  refine ⟨fun pins s σ H R I h => ?_⟩
  refine wpAny_Call_method (T := "dict") (id := "dict.items") hbase rfl hline F.plainAttrs_dict F.slot_dict_items F.type_dict_items (thn (he.run pins s σ H _ I h) fun u s1 ⟨x, H1, I1, rx, d, o, kvs, ex, hd, q⟩ => ?_)
  subst ex
  obtain rfl : u = Value.ref d := rx
  obtain ⟨hs, es, ep, hm, hdt, hsz, ent⟩ := frzV I1 hd
  obtain ⟨o1, g1, x1, d1⟩ := id hm
  refine ⟨hm.typeIs, fun b e => (by injection e with e; subst e; exact ⟨o1, g1, x1.2.1⟩), ?_⟩
  have I2 : L2.Inv X pins σ H1 { s1 with heap := s1.heap.push { cls := .type "dict_items", data := .fields #[.ref d] } } := I1.kept (t' := s1.toks) fun b ob q => Heap.get?_push_of_some _ q
  have hm2 : (s1.heap.push { cls := .type "dict_items", data := .fields #[.ref d] }).DictRaw d es ep := ⟨o1, Heap.get?_push_of_some _ g1, x1, d1⟩
  have fin : wpAny (model X.prog X.w) X.A (pyIter (.ref s1.heap.objs.size)) (PIE X pins σ (.Tuple elts kk tpos) R) X.xe { s1 with heap := s1.heap.push { cls := .type "dict_items", data := .fields #[.ref d] } } := by
    refine wpAny_pyIter_items_raw (d := d) ⟨_, Heap.get?_push_size _ rfl, rfl, rfl⟩ hm2 (pi_one (tk := s1.toks) I2 _ (turn_itemsT _ hdt) ⟨.none, .none, ?_⟩ q)
    rw [← hsz]
    exact Heap.get?_push_size _ rfl
  show wpAny _ _ (callWith cpos (.builtin "dict.items") [.ref d] [] []) _ X.xe s1
  exact method_meetsIn F.slot_dict_items F.entry_dict_items rfl (PySem.evalArgs_none ⟨rfl, hm.typeIs, F.args_dict_items_1 _, _, meets_dict_items_raw d hs, ⟨⟨es, ep, hm⟩, fin⟩⟩)
theorem walk_itemsT {d : Addr} {o : Obj} {kvs : List (List Key × V)} : Walk (ItiT d o kvs) kvs.length (fun H => H d = some (.frz o (.dT kvs)))
    (fun i H x H' => ∃ (T : Addr) (k : List Key) (v : V) (q : Addr), kvs[i]? = some (k, v) ∧ x = .ref T ∧ H T = none ∧ H q = some (.tup (k.map kV)) ∧ H' = upd H T (.tup [.ref q, v])) :=
  ⟨fun _ _ hi q => ⟨q, hi⟩, fun _ q => ⟨q, Nat.le_refl _⟩, fun _ _ _ _ _ _ y => y⟩
/-! ### set(list of tuples): its members are unlike; len of such a set -/
section
variable {X : Cx}
def rSetT (K : PySem.W.Frag) (P : Program) (w : World) : List V → Hp → VK → Prop := fun xs H Q => ∃ (l : Addr) (ks : List (Addr × List Int)), xs = [V.ref l] ∧ SqL K H l (ks.map fun p => V.ref p.1) ∧ (∀ p ∈ ks, SqT K H p.1 (p.2.map V.int)) ∧ ks.length < 64 ∧
  ∀ a L, H a = none → (∀ p ∈ L, p ∈ ks) → (∀ p ∈ ks, p.2 ∈ L.map (·.2)) → (L.map (·.2)).Nodup → Q (.ref a) (upd H a (SetTO P w a L))
theorem cr_setT (hc : X.calm = true) (hu : X.A.units + 64 < cLine) : CallR X (.type "set") (rSetT X.K X.prog X.w) := by
  intro pins s σ H xs us Q I r h
  obtain ⟨l, ks, rfl, hl, hk, hf, q⟩ := h
  rw [Vals.ref1 r]
  obtain ⟨its, rv, pl, hz⟩ := I.list hl
  have hn : H s.heap.objs.size = none := I.hok.fresh (Nat.le_refl _)
  refine call_set_tups (P := X.prog) (w := X.w) ks (I.ok.hd hc) pl.isList (by simpa using refs_of_vals rv) (fun p hp => I.isT (hk p hp)) hf (by omega) fun h' tk L es ep t R g k => ?_
  exact ⟨.ref s.heap.objs.size, upd H s.heap.objs.size (SetTO X.prog X.w s.heap.objs.size L), I.laid (t' := tk) k (Nat.le_refl _) (setTO_new R.t0), rfl,
    q _ L hn (fun p hp => List.mem_of_mem_take (g.sub p hp)) (fun p hp => g.all p (by rw [List.take_length]; exact hp)) R.nd⟩
def rLenTS (P : Program) (w : World) : List V → Hp → VK → Prop := fun xs H Q => ∃ (a : Addr) (L : List (Addr × List Int)), xs = [.ref a] ∧ H a = some (SetTO P w a L) ∧ Q (.int (L.length : Nat)) H
theorem cr_lenTS : CallR X (.builtin "len") (rLenTS X.prog X.w) := by
  intro pins s σ H xs us Q I r h
  obtain ⟨a, L, rfl, ha, q⟩ := h
  rw [Vals.ref1 r]
  obtain ⟨es, ep, t, ⟨o, ho, hex, hd⟩, rows, tab, nd, pl, ld, room, few⟩ := (show SetT0 X.prog X.w s.heap a L from (I.hok a _ ha).1).ex
  have hl : es.size = L.length := by
    have z := congrArg List.length rows
    unfold rowsOf at z
    rw [Array.length_toList, List.length_map] at z
    exact z
  have hf : t.fits es.size = true := by
    have h1 := tab.sz
    rw [List.length_map] at h1
    unfold SetTable.fits SetTable.fill
    rw [tab.dm, Bool.and_eq_true, beq_iff_eq, decide_eq_true_eq]
    show t.place.size = es.size ∧ t.place.size + 0 ≤ t.mask
    omega
  exact call_len_set ho hex hd hf (by rw [hl]; omega) ⟨.int (L.length : Nat), H, I.tok _, ⟨_, by rw [hl]⟩, q⟩
end
end TS2

namespace TS2
open PySem PySem.Spec PyProof.Rows L2
/-- an empty set as it is made -/
abbrev emptyO (w : World) : Obj := { cls := .type "set", dict := none, data := .set #[] 0 (.fresh 0 0 (!w.params.followText "set-order")) }
section
variable {P : Program} {w : World} {A : Around} {E : Value → Shared → Prop} {s : Shared}
/-- the loop of set's __init__ over a list of ints -/
theorem init_ints {l : Addr} {items : Array Value} (ns : List Int) {R : Result → Shared → Prop} (hh : A.handled = none) (hl : s.heap.IsList l items) (hit : IntsAre items.toList ns) (hb : ns.length + 1 < scanBound)
    (hR : ∀ h' tk c, SetR w h' s.heap.objs.size (fun j => decide (j ∈ ns)) c → c ≤ ns.length → (∀ b o, s.heap.get? b = some o → h'.get? b = some o) → R (.ok (.ret .none)) { s with heap := h', toks := tk }) :
    codeAny (model P w) A (.builtin "set.update.loop" ⟨[.ref s.heap.objs.size, .ref (s.heap.objs.size + 1)], []⟩) R { s with heap := (s.heap.push (emptyO w)).push { cls := .type "list_iterator", data := .fields #[.ref l, .int 0 0] } } := by
  have hisz : items.size = ns.length := by
    have q := IntsAre.length hit
    rwa [Array.length_toList] at q
  have hlS : l < s.heap.objs.size := by
    obtain ⟨o, ho, _⟩ := hl
    exact Heap.lt_size ho
  have z1 : (s.heap.push (emptyO w)).objs.size = s.heap.objs.size + 1 := Heap.size_push ..
  have hl1 : (s.heap.push (emptyO w)).IsList l items := hl.push _
  have hval : ∀ (i : Nat) (v : Value), items[i]? = some v → ∃ k t, ns[i]? = some k ∧ v = .int k t := fun i v hv => by
    have hi : i < ns.length := by rw [← hisz]; exact (Array.getElem?_eq_some_iff.mp hv).1
    obtain ⟨t, e⟩ := PyProof.Rows.IntsAre.int_at hit i v (by rw [Array.getElem?_toList]; exact hv)
    refine ⟨ns[i], t, List.getElem?_eq_getElem hi, ?_⟩
    rw [e, List.getD_eq_getElem?_getD, List.getElem?_eq_getElem hi] <;> rfl
  refine set_update_ints ((Walks.list (I := s.heap.objs.size + 1) (by simp [hh]) l (Nat.ne_of_lt (Nat.lt_succ_of_lt hlS)) items).toS) s.heap.objs.size (by
    simp only [List.mem_cons, List.not_mem_nil, or_false, not_or]
    exact ⟨Nat.ne_of_lt (Nat.lt_succ_self _), Nat.ne_of_gt hlS⟩) ns hisz hb hval (items.size - 0) 0 _ (by omega) (Nat.zero_le _) ⟨⟨_, by rw [← z1]; exact Heap.get?_push_size _ rfl, rfl, rfl⟩, hl1.push _⟩
    ⟨0, Nat.le_refl 0, setR_new_at (Heap.get?_push_of_some _ (Heap.get?_push_size _ rfl))⟩ fun s' c hm hc hS => ?_
  obtain ⟨h', g2, d', tk', os'⟩ := s'
  cases (show g2 = s.gens from hm.gens)
  cases (show d' = s.drawn from hm.drawn)
  cases (show os' = s.os from hm.os)
  rw [hisz] at hc
  refine hR h' tk' c hS hc fun b o e => ?_
  have hb0 : b < s.heap.objs.size := Heap.lt_size e
  refine hm.heap b o ?_ (Heap.get?_push_of_some _ (Heap.get?_push_of_some _ e))
  simp only [List.mem_cons, List.not_mem_nil, or_false, not_or]
  exact ⟨Nat.ne_of_lt hb0, Nat.ne_of_lt (Nat.lt_succ_of_lt hb0)⟩
set_option maxHeartbeats 8000000 in
/-- set(xs), xs a list of ints -/
theorem call_set_intsL {l : Addr} {items : Array Value} (ns : List Int) {Q : Value → Shared → Prop} (hh : A.handled = none) (hl : s.heap.IsList l items) (hit : IntsAre items.toList ns) (hb : ns.length + 1 < scanBound)
    (h : ∀ (h' : Heap) (tk c : Nat), SetR w h' s.heap.objs.size (fun j => decide (j ∈ ns)) c → c ≤ ns.length → (∀ b o, s.heap.get? b = some o → h'.get? b = some o) → Q (.ref s.heap.objs.size) { s with heap := h', toks := tk }) :
    wpAny (model P w) A (call (.type "set") [.ref l]) Q E s := by
  obtain ⟨c, tl, hmro⟩ := F.called_set.mro
  have hmade := F.called_set.made
  have hsub := F.called_set.sub
  refine wpAny_call (codeAny_of_tree ?_)
  show wpAny _ _ (callAny (.type "set") _) _ _ _
  refine wpAny_pure ⟨Code.quiet_builtin _ (by decide +kernel), codeAny_builtin F.entry_type_call ?_⟩
  rw [Around.under_plain (weight_type_call_type "set" [.ref l] []) rfl]
  have k1 := F.called_set.notType
  have k2 := F.called_set.canCreate
  have k3 := F.typeCall_set_1 (.ref l)
  repeat (any_goals (first | assumption | wp_step))
  refine codeAny_mono (code_set_led1 (.ref l) (E := E) (Q₁ := fun obj s1 => obj = .ref s.heap.objs.size ∧ s1 = { s with heap := s.heap.push (emptyO w) }) ⟨rfl, rfl⟩) fun r s1 hr => ?_
  match r, hr with
  | .error e, hr => exact hr
  | .ok (.ret obj), hr =>
    obtain ⟨rfl, rfl⟩ := hr
    have hS : (s.heap.push (emptyO w)).get? s.heap.objs.size = some (emptyO w) := Heap.get?_push_size _ rfl
    have hT : Shared.TypeIs { s with heap := s.heap.push (emptyO w) } (.ref s.heap.objs.size) "set" := ⟨_, hS, rfl⟩
    have k4 := F.called_set.init.lookup
    have k5 := F.called_set.init.bind (.ref s.heap.objs.size)
    repeat (any_goals (first | assumption | wp_step))
    refine codeAny_mono (codeAny_call_builtin (R := wants (fun r s2 => r = .none ∧ ∃ h' tk c, s2 = { s with heap := h', toks := tk } ∧ SetR w h' s.heap.objs.size (fun j => decide (j ∈ ns)) c ∧ c ≤ ns.length ∧
        (∀ b o, s.heap.get? b = some o → h'.get? b = some o)) E) F.called_set.init.plain F.entry_set_init (check_set_init_1 hT ?_)) fun r2 s2 hr2 => ?_
    · obtain ⟨ol, hol, hcl, nl, hdl⟩ := id hl
      obtain ⟨ocls, odict, odata, oslots⟩ := ol
      simp only at hcl hdl
      subst hcl
      subst hdl
      have k6 : (s.heap.push (emptyO w)).get? l = some { cls := .type "list", dict := odict, data := .seq items nl, slots := oslots } := Heap.get?_push_of_some _ hol
      have k7 := F.sub_list_set
      have k8 := F.sub_list_frozenset
      have k9 : (Value.type "list" == Value.type "dict") = false := by decide
      have hl1 : (s.heap.push (emptyO w)).IsList l items := hl.push _
      unfold Builtin.«set.__init__» noKeywords Builtin.Frozenset.updateFrom
      generalize hPI : pyIter = PI
      wp_walk
      subst hPI
      refine wpAny_pyIter_list hl1 ?_
      refine wpAny_bind (wpAny_runValue ?_)
      rw [show (s.heap.push (emptyO w)).objs.size = s.heap.objs.size + 1 from Heap.size_push ..]
      refine init_ints (A := A.in1.in1) ns (by simp [hh]) hl hit hb fun h' tk c a1 a2 a3 => ?_
      refine wpAny_pure ?_
      show wpAny _ _ (ret Value.none) _ _ _
      exact wpAny_pure ⟨rfl, h', tk, c, rfl, a1, a2, a3⟩
    · match r2, hr2 with
      | .error e, hr2 => exact hr2
      | .ok (.ret r), hr2 =>
        obtain ⟨rfl, h', tk, c, rfl, a1, a2, a3⟩ := hr2
        repeat (any_goals (first | assumption | wp_step))
        exact h _ _ _ a1 a2 a3
end
end TS2

namespace TS2
open PySem PySem.Spec PyProof.Rows L2
/-- set(xs), xs a list of ints: which, not in what order; how many, no more than items -/
def rSetL (K : PySem.W.Frag) (w : World) : List V → Hp → VK → Prop := fun xs H Q => ∃ (l : Addr) (ns : List Int), xs = [V.ref l] ∧ SqL K H l (ns.map V.int) ∧ ns.length ≤ 1000 ∧
  ∀ (a : Addr) (ds : List Int), H a = none → ds.Nodup → (∀ k, k ∈ ds ↔ k ∈ ns) → Q (.ref a) (upd H a (SetO w a (fun j => decide (j ∈ ns)) ds.length))
theorem setR_card {w : World} {h : Heap} {a : Addr} {ns : List Int} {c : Nat} (R : SetR w h a (fun j => decide (j ∈ ns)) c) : ∃ ds : List Int, ds.Nodup ∧ ds.length = c ∧ ∀ k, k ∈ ds ↔ k ∈ ns := by
  obtain ⟨o, es, ep, t, ho, hex, hd, hg, nd, hm, _, _, hn, _⟩ := R
  refine ⟨es.toList.map keyOf, nd, ?_, fun k => ?_⟩
  · rw [List.length_map, Array.length_toList, hn]
  · rw [← hm k, decide_eq_true_eq]
section
variable {X : Cx}
theorem cr_setL (hc : X.calm = true) : CallR X (.type "set") (rSetL X.K X.w) := by
  intro pins s σ H xs us Q I r h
  obtain ⟨l, ns, rfl, hl, hz, q⟩ := h
  rw [Vals.ref1 r]
  obtain ⟨its, rv, pl, _⟩ := I.list hl
  have hn : H s.heap.objs.size = none := I.hok.fresh (Nat.le_refl _)
  refine call_set_intsL ns (I.ok.hd hc) pl.isList (by simpa using rv.ints) (by unfold scanBound; omega) fun h' tk c R hcl k => ?_
  obtain ⟨ds, d1, d2, d3⟩ := setR_card R
  refine ⟨.ref s.heap.objs.size, upd H s.heap.objs.size (SetO X.w s.heap.objs.size (fun j => decide (j ∈ ns)) ds.length), ?_, rfl, q _ ds hn d1 d3⟩
  rw [d2]
  exact I.laid (t' := tk) k (Nat.le_refl _) (setO_new R)
end
end TS2

/-! Ways among seats: plain mathematics. -/
namespace Ck
theorem nodup_len {α : Type} [DecidableEq α] : ∀ (l D : List α), l.Nodup → (∀ x ∈ l, x ∈ D) → l.length ≤ D.length
  | [], _, _, _ => Nat.zero_le _
  | a :: l, D, hn, hs => by
    obtain ⟨h1, h2⟩ := List.nodup_cons.mp hn
    have ha : a ∈ D := hs a List.mem_cons_self
    have ih := nodup_len l (D.erase a) h2 fun x hx => by
      have hne : x ≠ a := fun e => h1 (e ▸ hx)
      exact (List.mem_erase_of_ne hne).mpr (hs x (List.mem_cons_of_mem _ hx))
    rw [List.length_erase_of_mem ha] at ih
    have hp : 0 < D.length := List.length_pos_of_mem ha
    rw [List.length_cons]
    omega
/-- a map that is one to one on a list without twins, into D -/
theorem nodup_map_len {α β : Type} [DecidableEq β] (f : α → β) (l : List α) (D : List β) (hn : l.Nodup) (hi : ∀ x ∈ l, ∀ y ∈ l, f x = f y → x = y) (hs : ∀ x ∈ l, f x ∈ D) : l.length ≤ D.length := by
  have h : (l.map f).Nodup := by
    refine List.pairwise_map.mpr ?_
    refine List.Pairwise.imp_of_mem ?_ hn
    intro a b ha hb hab e
    exact hab (hi a ha b hb e)
  have q := nodup_len (l.map f) D h fun x hx => by
    obtain ⟨y, hy, rfl⟩ := List.mem_map.mp hx
    exact hs y hy
  rwa [List.length_map] at q
section
variable {S : Type} [DecidableEq S]
/-- ws begins with s and goes on by nx, without twins -/
structure Chain (nx : S → Option S) (s : S) (ws : List S) : Prop where
  head : ws.head? = some s
  step : ∀ (t : Nat) x y, ws[t]? = some x → ws[t + 1]? = some y → nx x = some y
  nd : ws.Nodup
/-- .. and can't go on -/
structure IsWay (nx : S → Option S) (s : S) (ws : List S) : Prop where
  ch : Chain nx s ws
  stop : ∀ x y, ws.getLast? = some x → nx x = some y → y ∈ ws
theorem Chain.one (nx : S → Option S) (s : S) : Chain nx s [s] where
  head := rfl
  step := fun t x y _ h2 => by simp at h2
  nd := by simp
theorem Chain.ne {nx : S → Option S} {s : S} {ws : List S} (c : Chain nx s ws) : ws ≠ [] := fun e => by
  have := c.head
  rw [e] at this
  cases this
theorem Chain.more {nx : S → Option S} {s : S} {ws : List S} {x y : S} (c : Chain nx s ws) (hl : ws.getLast? = some x) (hx : nx x = some y) (hy : y ∉ ws) : Chain nx s (ws ++ [y]) where
  head := by
    cases ws with
    | nil => cases hl
    | cons a r => exact c.head
  step := fun t a b h1 h2 => by
    by_cases ht : t + 1 < ws.length
    · rw [List.getElem?_append_left (by omega)] at h1
      rw [List.getElem?_append_left ht] at h2
      exact c.step t a b h1 h2
    · have hlt : t + 1 < (ws ++ [y]).length := (List.getElem?_eq_some_iff.mp h2).1
      rw [List.length_append, List.length_singleton] at hlt
      have e : t + 1 = ws.length := by omega
      rw [List.getElem?_append_right (by omega), e, Nat.sub_self] at h2
      have e2 : y = b := by simpa using h2
      rw [List.getElem?_append_left (by omega)] at h1
      have e3 : ws.getLast? = ws[t]? := by
        rw [List.getLast?_eq_getElem?]
        congr 1
        omega
      rw [e3, h1] at hl
      have e4 : a = x := Option.some.inj hl
      rw [e4, ← e2]
      exact hx
  nd := by
    rw [List.nodup_append]
    refine ⟨c.nd, by simp, fun a ha b hb => ?_⟩
    rw [List.mem_singleton.mp hb]
    exact fun e => hy (e ▸ ha)
/-- all but the last go on -/
theorem Chain.goes {nx : S → Option S} {s : S} {ws : List S} (c : Chain nx s ws) {t : Nat} {x : S} (h : ws[t]? = some x) (ht : t + 1 < ws.length) : ∃ y, ws[t + 1]? = some y ∧ nx x = some y := by
  have e : ws[t + 1]? = some ws[t + 1] := List.getElem?_eq_getElem ht
  exact ⟨_, e, c.step t _ _ h e⟩
theorem Chain.len {nx : S → Option S} {s : S} {ws : List S} {α : Type} [DecidableEq α] {f : S → Option α} (c : Chain nx s ws) (D : List α) (hf : ∀ x y, nx x = some y → ∃ n, f x = some n ∧ n ∈ D)
    (inj : ∀ x y n, f x = some n → f y = some n → x = y) : ws.length ≤ D.length + 1 := by
  have h1 : ∀ x ∈ ws.dropLast, ∃ n, f x = some n ∧ n ∈ D := by
    intro x hx
    obtain ⟨t, ht, e⟩ := List.getElem_of_mem hx
    rw [List.length_dropLast] at ht
    have e2 : ws[t]? = some x := by
      rw [← e, List.getElem_dropLast, List.getElem?_eq_getElem]
    obtain ⟨y, _, hy⟩ := c.goes e2 (by omega)
    exact hf x y hy
  have nd : ws.dropLast.Nodup := c.nd.sublist (List.dropLast_sublist ws)
  have q := nodup_map_len f ws.dropLast (D.map some) nd (fun x hx y hy e => by
    obtain ⟨n, hn, _⟩ := h1 x hx
    exact inj x y n hn (by rw [← e]; exact hn)) fun x hx => by
    obtain ⟨n, hn, hd⟩ := h1 x hx
    rw [hn]
    exact List.mem_map.mpr ⟨n, hd, rfl⟩
  rw [List.length_dropLast, List.length_map] at q
  omega
theorem Chain.pre {nx : S → Option S} {s : S} {ws : List S} (c : Chain nx s ws) {vs : List S} (d : Chain nx s vs) : ∀ t, t < ws.length → t < vs.length → ws[t]? = vs[t]? := by
  intro t
  induction t with
  | zero =>
    intro _ _
    rw [← List.head?_eq_getElem?, ← List.head?_eq_getElem?, c.head, d.head]
  | succ t ih =>
    intro h1 h2
    have e := ih (by omega) (by omega)
    obtain ⟨y, hy, ny⟩ := c.goes (List.getElem?_eq_getElem (show t < ws.length by omega)) h1
    obtain ⟨z, hz, nz⟩ := d.goes (List.getElem?_eq_getElem (show t < vs.length by omega)) h2
    rw [List.getElem?_eq_getElem (show t < ws.length by omega), List.getElem?_eq_getElem (show t < vs.length by omega)] at e
    rw [Option.some.inj e, nz] at ny
    rw [hy, hz, Option.some.inj ny]
theorem IsWay.uniq {nx : S → Option S} {s : S} {ws vs : List S} (c : IsWay nx s ws) (d : IsWay nx s vs) : ws = vs := by
  have key : ∀ {ws vs : List S}, IsWay nx s ws → IsWay nx s vs → vs.length ≤ ws.length := by
    intro ws vs c d
    rcases Nat.lt_or_ge ws.length vs.length with h | h
    · exfalso
      have hne : 0 < ws.length := List.length_pos_iff.mpr c.ch.ne
      have hl : ws.getLast? = ws[ws.length - 1]? := List.getLast?_eq_getElem?
      have e0 : ws[ws.length - 1]? = vs[ws.length - 1]? := c.ch.pre d.ch _ (by omega) (by omega)
      obtain ⟨y, hy, ny⟩ := d.ch.goes (List.getElem?_eq_getElem (show ws.length - 1 < vs.length by omega)) (by omega)
      rw [List.getElem?_eq_getElem (show ws.length - 1 < vs.length by omega)] at e0
      have hin := c.stop _ y (hl.trans e0) ny
      obtain ⟨u, hu, eu⟩ := List.getElem_of_mem hin
      have e1 : vs[u]? = some y := by
        rw [← c.ch.pre d.ch u hu (by omega), List.getElem?_eq_getElem hu, eu]
      have e2 : ws.length - 1 + 1 = ws.length := by omega
      rw [e2] at hy
      have hlt := (List.getElem?_eq_some_iff.mp hy).1
      have hult := (List.getElem?_eq_some_iff.mp e1).1
      have a1 := (List.getElem?_eq_some_iff.mp hy).2
      have a2 := (List.getElem?_eq_some_iff.mp e1).2
      have := (List.getElem_inj d.ch.nd (h₀ := hult) (h₁ := hlt)).mp (a2.trans a1.symm)
      omega
    · exact h
  have hl := Nat.le_antisymm (key d c) (key c d)
  refine List.ext_getElem? fun t => ?_
  rcases Nat.lt_or_ge t ws.length with h | h
  · exact c.ch.pre d.ch t h (by omega)
  · rw [List.getElem?_eq_none h, List.getElem?_eq_none (by omega)]
/-! ### moving all on a way one seat on -/
section
variable {α : Type} [DecidableEq α]
/-- what stood at v goes on to the next one -/
def shiftF (f : S → Option α) : List S → Option α → S → Option α
  | [], _ => f
  | v :: r, o => fun s => if s = v then o else shiftF f r (f v) s
theorem shiftF_out (f : S → Option α) : ∀ (ws : List S) (o : Option α) (s : S), s ∉ ws → shiftF f ws o s = f s
  | [], _, _, _ => rfl
  | v :: r, o, s, h => by
    have h1 : s ≠ v := fun e => h (e ▸ List.mem_cons_self)
    have h2 : s ∉ r := fun q => h (List.mem_cons_of_mem _ q)
    show (if s = v then o else shiftF f r (f v) s) = f s
    rw [if_neg h1]
    exact shiftF_out f r (f v) s h2
theorem shiftF_head (f : S → Option α) (v : S) (r : List S) (o : Option α) : shiftF f (v :: r) o v = o := if_pos rfl
theorem shiftF_succ (f : S → Option α) : ∀ (ws : List S) (o : Option α), ws.Nodup → ∀ (t : Nat) x y, ws[t]? = some x → ws[t + 1]? = some y → shiftF f ws o y = f x
  | [], _, _, t, x, y, h, _ => by simp at h
  | v :: r, o, hn, t, x, y, h1, h2 => by
    obtain ⟨n1, n2⟩ := List.nodup_cons.mp hn
    have h2' : r[t]? = some y := by simpa using h2
    have hy : y ∈ r := List.mem_of_getElem? h2'
    have hne : y ≠ v := fun e => n1 (e ▸ hy)
    show (if y = v then o else shiftF f r (f v) y) = f x
    rw [if_neg hne]
    cases t with
    | zero =>
      have e1 : v = x := by simpa using h1
      cases r with
      | nil => cases hy
      | cons b q =>
        have e2 : b = y := by simpa using h2'
        rw [← e2, shiftF_head, e1]
    | succ t =>
      exact shiftF_succ f r (f v) n2 t x y (by simpa using h1) h2'
/-- putting one at a time, from the end: the lists as the loop does them -/
theorem shiftF_set (f : S → Option α) (ws : List S) (hn : ws.Nodup) (n : Nat) (x y : S) (h1 : ws[n]? = some x) (h2 : ws[n + 1]? = some y) :
    (fun s => if s = y then f x else shiftF f (ws.drop (n + 2)) (f y) s) = shiftF f (ws.drop (n + 1)) (f x) := by
  have e : ws.drop (n + 1) = y :: ws.drop (n + 2) := by
    have hlt := (List.getElem?_eq_some_iff.mp h2).1
    rw [List.drop_eq_getElem_cons hlt, (List.getElem?_eq_some_iff.mp h2).2]
  rw [e]
  rfl
end
end
end Ck

/-! Pairs and their seats: plain mathematics. -/
namespace Ck
abbrev Seat := Int × Int
def rowP (p : Int × Int) (r : Int) : Int := if r = 0 then p.1 else p.2
/-- the seat of a pair in a row -/
def seatP (p : Int × Int) (r : Int) : Seat := (r, rowP p r)
theorem seatP0 (p : Int × Int) : seatP p 0 = (0, p.1) := rfl
theorem seatP1 (p : Int × Int) : seatP p 1 = (1, p.2) := rfl
def getP (P : List (Int × Int)) (n : Nat) : Int × Int := P.getD n (0, 0)
/-- the seats are handed out to the first i pairs by f -/
structure Good (P : List (Int × Int)) (i : Nat) (f : Seat → Option Nat) : Prop where
  own : ∀ s n, f s = some n → n < i ∧ (s = seatP (getP P n) 0 ∨ s = seatP (getP P n) 1)
  all : ∀ n, n < i → ∃ s, f s = some n
  inj : ∀ s t n, f s = some n → f t = some n → s = t
/-- the other seat of the pair that has a seat -/
def nxP (P : List (Int × Int)) (f : Seat → Option Nat) (s : Seat) : Option Seat := (f s).map fun n => seatP (getP P n) (1 - s.1)
theorem Good.zero (P : List (Int × Int)) : Good P 0 (fun _ => none) :=
  ⟨fun _ _ h => (by cases h), fun n h => (by omega), fun _ _ _ h => (by cases h)⟩
theorem nxP_some {P : List (Int × Int)} {f : Seat → Option Nat} {s t : Seat} (h : nxP P f s = some t) : ∃ n, f s = some n ∧ t = seatP (getP P n) (1 - s.1) := by
  unfold nxP at h
  cases e : f s with
  | none => rw [e] at h; cases h
  | some n =>
    rw [e] at h
    exact ⟨n, rfl, (Option.some.inj h).symm⟩
theorem Good.rows {P : List (Int × Int)} {i : Nat} {f : Seat → Option Nat} (g : Good P i f) {s : Seat} {n : Nat} (h : f s = some n) : s.1 = 0 ∨ s.1 = 1 := by
  rcases (g.own s n h).2 with e | e <;> rw [e]
  · exact .inl rfl
  · exact .inr rfl
theorem Good.self {P : List (Int × Int)} {i : Nat} {f : Seat → Option Nat} (g : Good P i f) {s : Seat} {n : Nat} (h : f s = some n) : s = seatP (getP P n) s.1 := by
  rcases (g.own s n h).2 with e | e <;> rw [e] <;> rfl
/-- a way is no longer than the pairs that have seats, and one -/
theorem Good.len {P : List (Int × Int)} {i : Nat} {f : Seat → Option Nat} (g : Good P i f) {s : Seat} {ws : List Seat} (c : Chain (nxP P f) s ws) : ws.length ≤ i + 1 := by
  have q := c.len (f := f) (List.range i) (fun x y h => by
    obtain ⟨n, h1, _⟩ := nxP_some h
    exact ⟨n, h1, List.mem_range.mpr (g.own x n h1).1⟩) g.inj
  rwa [List.length_range] at q
theorem getL {α : Type} {l : List α} {x : α} (h : l.getLast? = some x) : ∃ k, l.length = k + 1 ∧ l[k]? = some x := by
  cases hl : l.length with
  | zero =>
    rw [List.length_eq_zero_iff.mp hl] at h
    cases h
  | succ k =>
    rw [List.getLast?_eq_getElem?, hl] at h
    exact ⟨k, rfl, h⟩
/-- the pair i takes the head of an open way -/
theorem Good.take {P : List (Int × Int)} {i : Nat} {f : Seat → Option Nat} (g : Good P i f) {r : Int} (hr : r = 0 ∨ r = 1) {ws : List Seat} (c : Chain (nxP P f) (seatP (getP P i) r) ws) {x : Seat} (hl : ws.getLast? = some x) (hx : f x = none) :
    Good P (i + 1) (shiftF f ws (some i)) := by
  have hd : ws[0]? = some (seatP (getP P i) r) := by rw [← List.head?_eq_getElem?]; exact c.head
  obtain ⟨k, hk, hkx⟩ := getL hl
  -- what stands at each place of the way
  have at0 : shiftF f ws (some i) (seatP (getP P i) r) = some i := by
    cases ws with
    | nil => cases hd
    | cons v q =>
      have e : v = seatP (getP P i) r := by simpa using hd
      rw [← e]
      exact shiftF_head f v q _
  have cases_ : ∀ s n, shiftF f ws (some i) s = some n → (s = seatP (getP P i) r ∧ n = i) ∨ (∃ t y, ws[t]? = some y ∧ ws[t + 1]? = some s ∧ f y = some n) ∨ (s ∉ ws ∧ f s = some n) := by
    intro s n h
    by_cases hs : s ∈ ws
    · obtain ⟨t, ht, e⟩ := List.getElem_of_mem hs
      have es : ws[t]? = some s := by rw [List.getElem?_eq_getElem ht, e]
      cases t with
      | zero =>
        rw [es] at hd
        have e2 : s = seatP (getP P i) r := Option.some.inj hd
        rw [e2, at0] at h
        exact .inl ⟨e2, (Option.some.inj h).symm⟩
      | succ t =>
        have ey : ws[t]? = some ws[t] := List.getElem?_eq_getElem (by omega)
        rw [shiftF_succ f ws _ c.nd t _ s ey es] at h
        exact .inr (.inl ⟨t, _, ey, es, h⟩)
    · rw [shiftF_out f ws _ s hs] at h
      exact .inr (.inr ⟨hs, h⟩)
  refine ⟨fun s n h => ?_, fun n hn => ?_, fun s t n h1 h2 => ?_⟩
  · rcases cases_ s n h with ⟨e, rfl⟩ | ⟨t, y, hy, hs, hf⟩ | ⟨_, hf⟩
    · refine ⟨Nat.lt_succ_self _, ?_⟩
      rcases hr with q | q <;> rw [e, q]
      · exact .inl rfl
      · exact .inr rfl
    · obtain ⟨h1, _⟩ := g.own y n hf
      have e := c.step t y s hy hs
      obtain ⟨m, hm, es⟩ := nxP_some e
      rw [hf] at hm
      cases hm
      refine ⟨by omega, ?_⟩
      rcases g.rows hf with q | q <;> rw [es, q]
      · exact .inr rfl
      · exact .inl rfl
    · obtain ⟨h1, h2⟩ := g.own s n hf
      exact ⟨by omega, h2⟩
  · by_cases e : n = i
    · refine ⟨seatP (getP P i) r, ?_⟩
      rw [e]
      exact at0
    · obtain ⟨s, hs⟩ := g.all n (by omega)
      by_cases hm : s ∈ ws
      · obtain ⟨t, ht, es⟩ := List.getElem_of_mem hm
        have e1 : ws[t]? = some s := by rw [List.getElem?_eq_getElem ht, es]
        have hlt : t + 1 < ws.length := by
          rcases Nat.lt_or_ge (t + 1) ws.length with q | q
          · exact q
          · exfalso
            have : t = k := by omega
            rw [this, hkx] at e1
            rw [← Option.some.inj e1, hx] at hs
            cases hs
        have e2 : ws[t + 1]? = some ws[t + 1] := List.getElem?_eq_getElem hlt
        exact ⟨_, (shiftF_succ f ws _ c.nd t s _ e1 e2).trans hs⟩
      · exact ⟨s, (shiftF_out f ws _ s hm).trans hs⟩
  · have big : ∀ y, f y = some i → False := fun y hy => by
      have := (g.own y i hy).1
      omega
    rcases cases_ s n h1 with ⟨e, rfl⟩ | ⟨a, y, hy, hs, hf⟩ | ⟨hs, hf⟩
    · rcases cases_ t n h2 with ⟨e', _⟩ | ⟨_, y, _, _, hf⟩ | ⟨_, hf⟩
      · rw [e, e']
      · exact (big y hf).elim
      · exact (big t hf).elim
    · rcases cases_ t n h2 with ⟨_, rfl⟩ | ⟨b, z, hz, ht, hf'⟩ | ⟨ht, hf'⟩
      · exact (big y hf).elim
      · have eyz := g.inj y z n hf hf'
        have ha := (List.getElem?_eq_some_iff.mp hy).1
        have hb := (List.getElem?_eq_some_iff.mp hz).1
        have a1 := (List.getElem?_eq_some_iff.mp hy).2
        have b1 := (List.getElem?_eq_some_iff.mp hz).2
        have eab := (List.getElem_inj c.nd (h₀ := ha) (h₁ := hb)).mp (a1.trans (eyz.trans b1.symm))
        rw [eab, ht] at hs
        exact (Option.some.inj hs).symm
      · exfalso
        have := g.inj y t n hf hf'
        exact ht (this ▸ List.mem_of_getElem? hy)
    · rcases cases_ t n h2 with ⟨_, rfl⟩ | ⟨b, z, hz, ht, hf'⟩ | ⟨ht, hf'⟩
      · exact (big s hf).elim
      · exfalso
        have := g.inj s z n hf hf'
        exact hs (this ▸ List.mem_of_getElem? hz)
      · exact g.inj s t n hf hf'
/-- a way that ends in a circle: all its seats are held, and all seats of the pairs on it stand on it -/
theorem closed_held {P : List (Int × Int)} {f : Seat → Option Nat} {s : Seat} {ws : List Seat} (c : Chain (nxP P f) s ws) {x : Seat} (hl : ws.getLast? = some x) {y : Seat} (hx : nxP P f x = some y) (hy : y ∈ ws) : ∀ v ∈ ws, ∃ z, nxP P f v = some z ∧ z ∈ ws := by
  obtain ⟨k, hk, hkx⟩ := getL hl
  intro v hv
  obtain ⟨t, ht, e⟩ := List.getElem_of_mem hv
  have e1 : ws[t]? = some v := by rw [List.getElem?_eq_getElem ht, e]
  rcases Nat.lt_or_ge (t + 1) ws.length with q | q
  · obtain ⟨z, hz, nz⟩ := c.goes e1 q
    exact ⟨z, nz, List.mem_of_getElem? hz⟩
  · have : t = k := by omega
    rw [this, hkx] at e1
    rw [← Option.some.inj e1]
    exact ⟨y, hx, hy⟩
/-- more pairs than places -/
def Crowd (P : List (Int × Int)) (zs : List Int) : Prop :=
  zs.Pairwise (· < ·) ∧ (∀ z ∈ zs, 0 ≤ z ∧ z < P.length) ∧ ∀ D : List Seat, D.Nodup → (∀ d ∈ D, ∃ z ∈ zs, d = seatP (getP P z.toNat) 0 ∨ d = seatP (getP P z.toNat) 1) → D.length < zs.length
/-- rows that seat all pairs -/
def Seated (P : List (Int × Int)) (rs : List Int) : Prop :=
  rs.length = P.length ∧ (∀ r ∈ rs, r = 0 ∨ r = 1) ∧ ∀ i j : Nat, i < P.length → j < P.length → seatP (getP P i) (rs.getD i 0) = seatP (getP P j) (rs.getD j 0) → i = j
/-- the crowd of a pair that finds no seat -/
theorem crowd_of {P : List (Int × Int)} {i : Nat} (hi : i < P.length) {f : Seat → Option Nat} (g : Good P i f) {a b : List Seat} (ca : Chain (nxP P f) (seatP (getP P i) 0) a) (cb : Chain (nxP P f) (seatP (getP P i) 1) b)
    (ha : ∀ v ∈ a, ∃ z, nxP P f v = some z ∧ z ∈ a) (hb : ∀ v ∈ b, ∃ z, nxP P f v = some z ∧ z ∈ b) {zs : List Int} (hz : zs.Pairwise (· < ·)) (hm : ∀ k : Int, k ∈ zs ↔ k = (i : Int) ∨ ∃ v ∈ a ++ b, ∃ n : Nat, f v = some n ∧ k = (n : Int)) : Crowd P zs := by
  have own : ∀ v ∈ a ++ b, ∃ n, f v = some n ∧ n < i ∧ ∃ z, z ∈ a ++ b ∧ z = seatP (getP P n) (1 - v.1) := by
    intro v hv
    rcases List.mem_append.mp hv with h | h
    · obtain ⟨z, nz, hz⟩ := ha v h
      obtain ⟨n, hn, ez⟩ := nxP_some nz
      exact ⟨n, hn, (g.own v n hn).1, z, List.mem_append_left _ hz, ez⟩
    · obtain ⟨z, nz, hz⟩ := hb v h
      obtain ⟨n, hn, ez⟩ := nxP_some nz
      exact ⟨n, hn, (g.own v n hn).1, z, List.mem_append_right _ hz, ez⟩
  have hlt : ∀ z ∈ zs, 0 ≤ z ∧ z < P.length := by
    intro z h
    rcases (hm z).mp h with e | ⟨v, hv, n, hn, e⟩
    · omega
    · obtain ⟨m, hm', hmi, _⟩ := own v hv
      rw [hn] at hm'
      cases hm'
      omega
  refine ⟨hz, hlt, fun D hD hs => ?_⟩
  -- all places of these pairs stand on the two ways
  have inS : ∀ d ∈ D, d ∈ a ++ b := by
    intro d hd
    obtain ⟨z, hzm, ed⟩ := hs d hd
    rcases (hm z).mp hzm with e | ⟨v, hv, n, hn, e⟩
    · have e2 : z.toNat = i := by omega
      rw [e2] at ed
      rcases ed with q | q <;> rw [q]
      · exact List.mem_append_left _ (List.mem_of_getElem? (by rw [← List.head?_eq_getElem?]; exact ca.head))
      · exact List.mem_append_right _ (List.mem_of_getElem? (by rw [← List.head?_eq_getElem?]; exact cb.head))
    · obtain ⟨m, hm', _, y, hy, ey⟩ := own v hv
      rw [hn] at hm'
      cases hm'
      have e2 : z.toNat = n := by omega
      have es := g.self hn
      rw [e2] at ed
      rcases g.rows hn with r0 | r0 <;> rw [r0] at es ey <;> rcases ed with q | q <;> rw [q]
      · exact es ▸ hv
      · exact ey ▸ hy
      · exact ey ▸ hy
      · exact es ▸ hv
  have nd : zs.Nodup := hz.imp (fun h => by omega)
  have hi_in : (i : Int) ∈ zs := (hm _).mpr (.inl rfl)
  have q := nodup_map_len (fun d => (f d).map fun n => (n : Int)) D ((zs.erase (i : Int)).map some) hD (fun x hx y hy e => by
      obtain ⟨n, hn, _⟩ := own x (inS x hx)
      obtain ⟨m, hm', _⟩ := own y (inS y hy)
      have e1 : some (n : Int) = some (m : Int) := by
        have e0 : (f x).map (fun n => (n : Int)) = (f y).map (fun n => (n : Int)) := e
        rw [hn, hm'] at e0
        exact e0
      have e2 := Option.some.inj e1
      have : n = m := by omega
      exact g.inj x y n hn (this ▸ hm')) fun x hx => by
    obtain ⟨n, hn, hni, _⟩ := own x (inS x hx)
    simp only [hn, Option.map_some]
    refine List.mem_map.mpr ⟨(n : Int), ?_, rfl⟩
    refine (List.mem_erase_of_ne (by omega)).mpr ((hm _).mpr (.inr ⟨x, inS x hx, n, hn, rfl⟩))
  rw [List.length_map, List.length_erase_of_mem hi_in] at q
  have hp := List.length_pos_of_mem hi_in
  omega
/-- never both -/
theorem not_both {P : List (Int × Int)} {zs rs : List Int} (c : Crowd P zs) (s : Seated P rs) : False := by
  obtain ⟨hz, hlt, few⟩ := c
  obtain ⟨hl, h01, inj⟩ := s
  have nd : zs.Nodup := hz.imp (fun h => by omega)
  have key : ∀ z ∈ zs, ∀ y ∈ zs, seatP (getP P z.toNat) (rs.getD z.toNat 0) = seatP (getP P y.toNat) (rs.getD y.toNat 0) → z = y := by
    intro z h1 y h2 e
    have q1 := hlt z h1
    have q2 := hlt y h2
    have := inj z.toNat y.toNat (by omega) (by omega) e
    omega
  have hD : (zs.map fun z => seatP (getP P z.toNat) (rs.getD z.toNat 0)).Nodup := by
    refine List.pairwise_map.mpr ?_
    refine List.Pairwise.imp_of_mem ?_ nd
    intro x y hx hy hne e
    exact hne (key x hx y hy e)
  have q := few _ hD fun d hd => by
    obtain ⟨z, h1, rfl⟩ := List.mem_map.mp hd
    have hlz := hlt z h1
    refine ⟨z, h1, ?_⟩
    have hr : rs.getD z.toNat 0 ∈ rs := by
      rw [List.getD_eq_getElem?_getD, List.getElem?_eq_getElem (show z.toNat < rs.length by omega)]
      exact List.getElem_mem _
    rcases h01 _ hr with e | e <;> rw [e]
    · exact .inl rfl
    · exact .inr rfl
  rw [List.length_map] at q
  omega
/-- the rows as they are told -/
theorem seated_of {P : List (Int × Int)} {f : Seat → Option Nat} (g : Good P P.length f) {rs : List Int} (hl : rs.length = P.length) (hr : ∀ s n, f s = some n → rs.getD n 0 = s.1) : Seated P rs := by
  have at_ : ∀ n, n < P.length → ∃ s, f s = some n ∧ s = seatP (getP P n) (rs.getD n 0) := by
    intro n hn
    obtain ⟨s, hs⟩ := g.all n hn
    exact ⟨s, hs, by rw [hr s n hs]; exact g.self hs⟩
  refine ⟨hl, fun r h => ?_, fun i j hi hj e => ?_⟩
  · obtain ⟨t, ht, e⟩ := List.getElem_of_mem h
    obtain ⟨s, hs, _⟩ := at_ t (by omega)
    have e2 := hr s t hs
    rw [List.getD_eq_getElem?_getD, List.getElem?_eq_getElem ht, e] at e2
    have e3 : r = s.1 := e2
    rw [e3]
    exact g.rows hs
  · obtain ⟨s, hs, es⟩ := at_ i hi
    obtain ⟨t, ht, et⟩ := at_ j hj
    have : s = t := es.trans (e.trans et.symm)
    rw [this, ht] at hs
    exact (Option.some.inj hs).symm
end Ck

/-! How seats, pairs and the dict of seats stand in the heap. -/
namespace TS2
open PySem L2 Ck
theorem hu8 {A : Around} {k : Nat} (hr : Room k A) : A.units + 8 < cLine := Nat.lt_of_le_of_lt (Nat.add_le_add_left (by decide : 8 ≤ 64) _) hr.units
theorem hcd {K : PySem.W.Frag} {cd : Value} {q : Str} (h : PySem.W.codeIn K cd q = true) : PySem.W.kdsCode K cd = true := code_of h
/-- a def whose code object is asked for, too -/
theorem okC {P : Program} {w : World} {K : PySem.W.Frag} {mg : Str → Option Value} {base : Heap} {x qual : Str} {st : Stmt} {f : Addr} {fd : FuncData} {N ps : List Str} {k : Nat} {sp : Sp} (F : Fun K x qual st f fd) (S : FnScope N ps (defScope st)) (len : ∀ vs H Q E, sp vs H Q E → vs.length = ps.length)
    (hbody : ∀ (cdv : Value) (A : Around) (outer : List Env) (s : Shared) (H : Hp) (vs : List V) (Q : VK) (E : XK), PySem.W.codeIn K cdv qual = true → Room k (A.deeper (PyProof.Rows.envOfC qual (defScope st) s.heap.objs.size f cdv)) → sp vs H Q E →
      ∃ t, PSs (cxOf CX0 P w K mg base N qual (defScope st) f cdv A outer s H E).nox (defBody st) t ∧ t { nx := fun _ H' => Q .non H', rt := Q } (start N vs) H) : FnOk P w K mg base CX0 (k + 1) f fd ps sp := by
  obtain ⟨oc, od, kV, doc, pm, an, cdv, ct, osl, rfl, lk, hcd⟩ := F.ex
  refine fn_of lk hcd S len fun A outer s H vs Q E hr hsp => ?_
  obtain ⟨t, h, q⟩ := hbody cdv A outer s H vs Q E hcd hr hsp
  exact ⟨t, h.nox, q⟩
def sk (s : Seat) : List Key := [.inl s.1, .inl s.2]
def sv (s : Seat) : List V := [.int s.1, .int s.2]
def sl (s : Seat) : List Int := [s.1, s.2]
theorem sk_inj {s t : Seat} (h : sk s = sk t) : s = t := by
  obtain ⟨a, b⟩ := s
  obtain ⟨c, d⟩ := t
  simp only [sk, List.cons.injEq, Sum.inl.injEq, and_true] at h
  rw [h.1, h.2]
theorem sl_inj {s t : Seat} (h : sl s = sl t) : s = t := by
  obtain ⟨a, b⟩ := s
  obtain ⟨c, d⟩ := t
  simp only [sl, List.cons.injEq, and_true] at h
  rw [h.1, h.2]
/-- the dict's pairs tell f -/
structure HeldIs (kvs : List (List Key × V)) (f : Seat → Option Nat) : Prop where
  val : ∀ s, valV kvs (sk s) = (f s).map fun n => V.int (n : Int)
  ent : ∀ e ∈ kvs, ∃ s n, e = (sk s, V.int ((n : Nat) : Int)) ∧ f s = some n
  nd : (kvs.map (·.1)).Nodup
theorem HeldIs.nil : HeldIs [] (fun _ => none) := ⟨fun _ => rfl, fun _ h => (by cases h), List.nodup_nil⟩
theorem keys_putK {κ : Type} [DecidableEq κ] (kvs : List (κ × V)) (k : κ) (v : V) : ((putK kvs k v).map (·.1)).Nodup ↔ (kvs.map (·.1)).Nodup := by
  unfold putK
  split
  · rename_i h
    rw [List.map_map]
    have e : (kvs.map ((fun x => x.1) ∘ fun kv => if kv.1 = k then (kv.1, v) else kv)) = kvs.map (·.1) := by
      refine List.map_congr_left fun x _ => ?_
      show (if x.1 = k then (x.1, v) else x).1 = x.1
      split <;> rfl
    rw [e]
  · rename_i h
    rw [List.map_append, List.nodup_append]
    refine ⟨fun q => q.1, fun q => ⟨q, by simp, fun a ha b hb => ?_⟩⟩
    have hb2 : b = k := by simpa using hb
    rw [hb2]
    intro e
    obtain ⟨x, hx, ex⟩ := List.mem_map.mp ha
    exact h (List.any_eq_true.mpr ⟨x, hx, decide_eq_true (ex.trans e)⟩)
theorem mem_putK {κ : Type} [DecidableEq κ] {kvs : List (κ × V)} {k : κ} {v : V} {e : κ × V} (h : e ∈ putK kvs k v) : e = (k, v) ∨ (e ∈ kvs ∧ e.1 ≠ k) := by
  unfold putK at h
  split at h
  · obtain ⟨x, hx, ex⟩ := List.mem_map.mp h
    by_cases q : x.1 = k
    · rw [if_pos q] at ex
      exact .inl (by rw [← ex, q])
    · rw [if_neg q] at ex
      exact .inr (ex ▸ ⟨hx, q⟩)
  · rename_i hn
    rcases List.mem_append.mp h with q | q
    · refine .inr ⟨q, fun z => hn (List.any_eq_true.mpr ⟨e, q, decide_eq_true z⟩)⟩
    · exact .inl (List.mem_singleton.mp q)
theorem HeldIs.put {kvs : List (List Key × V)} {f : Seat → Option Nat} (h : HeldIs kvs f) (s : Seat) (n : Nat) : HeldIs (putK kvs (sk s) (.int (n : Int))) (fun t => if t = s then some n else f t) where
  val := fun t => by
    rw [valV_put]
    by_cases e : t = s
    · rw [if_pos (by rw [e]), if_pos e]
      rfl
    · rw [if_neg (fun q => e (sk_inj q)), if_neg e]
      exact h.val t
  ent := fun e he => by
    rcases mem_putK he with q | ⟨q, hk⟩
    · exact ⟨s, n, q, if_pos rfl⟩
    · obtain ⟨t, m, rfl, hm⟩ := h.ent e q
      refine ⟨t, m, rfl, ?_⟩
      rw [if_neg (fun z => hk (by rw [z]))]
      exact hm
  nd := (keys_putK _ _ _).mpr h.nd
theorem HeldIs.len {kvs : List (List Key × V)} {P : List (Int × Int)} {i : Nat} {f : Seat → Option Nat} (h : HeldIs kvs f) (g : Good P i f) : kvs.length ≤ i := by
  have q := nodup_map_len (fun k : List Key => (kvs.find? fun kv => decide (kv.1 = k)).map (·.2)) (kvs.map (·.1)) ((List.range i).map fun n => some (V.int ((n : Nat) : Int))) h.nd (fun x hx y hy e => by
      obtain ⟨e1, h1, rfl⟩ := List.mem_map.mp hx
      obtain ⟨e2, h2, rfl⟩ := List.mem_map.mp hy
      obtain ⟨s, n, rfl, hs⟩ := h.ent e1 h1
      obtain ⟨t, m, rfl, ht⟩ := h.ent e2 h2
      have a1 := h.val s
      have a2 := h.val t
      rw [hs] at a1
      rw [ht] at a2
      have e3 : valV kvs (sk s) = valV kvs (sk t) := e
      rw [a1, a2] at e3
      have e4 : ((n : Nat) : Int) = (m : Int) := V.int.inj (Option.some.inj e3)
      have e5 : n = m := by omega
      rw [g.inj s t n hs (e5 ▸ ht)]) fun x hx => by
    obtain ⟨e1, h1, rfl⟩ := List.mem_map.mp hx
    obtain ⟨s, n, rfl, hs⟩ := h.ent e1 h1
    have a1 := h.val s
    rw [hs] at a1
    exact List.mem_map.mpr ⟨n, List.mem_range.mpr (g.own s n hs).1, a1.symm⟩
  rwa [List.length_map, List.length_map, List.length_range] at q
section
variable {K : PySem.W.Frag} {H H' : Hp} {a d : Addr}
theorem same_t {xs : List V} (e : Same H H') (h : SqT K H a xs) : SqT K H' a xs := by
  rcases h with (h | ⟨o, h⟩) | h
  · exact .inl (.inl (e _ _ h))
  · exact .inl (.inr ⟨o, e _ _ h⟩)
  · exact .inr h
theorem same_new {p : Addr} {o : HO} (h : H p = none) : Same H (upd H p o) := fun b x e => by
  rw [upd_ne (ne_of_none e h)]
  exact e
/-- what H does not know may change behind it -/
theorem same_mut {p : Addr} {o : HO} (e : Same H H') (h : H p = none) : Same H (upd H' p o) := fun b x z => by
  rw [upd_ne (ne_of_none z h)]
  exact e b x z
/-- all but the object at d stands -/
def But (d : Addr) (H H' : Hp) : Prop := ∀ b o, b ≠ d → H b = some o → H' b = some o
theorem But.refl (d : Addr) (H : Hp) : But d H H := fun _ _ _ h => h
theorem But.trans {H1 : Hp} (x : But d H H1) (y : But d H1 H') : But d H H' := fun b o n h => y b o n (x b o n h)
theorem Same.but (e : Same H H') : But d H H' := fun b o _ h => e b o h
theorem but_upd {o : HO} : But d H (upd H d o) := fun b x n h => by
  rw [upd_ne n]
  exact h
theorem but_l {xs : List V} {kvs : List (List Key × V)} (e : But d H H') (hd : H d = some (.dT kvs)) (h : SqL K H a xs) : SqL K H' a xs := by
  rcases h with (h | ⟨o, h⟩) | h
  · exact .inl (.inl (e _ _ (ne_of h hd (by intro z; cases z)) h))
  · exact .inl (.inr ⟨o, e _ _ (ne_of h hd (by intro z; cases z)) h⟩)
  · exact .inr h
theorem but_t {xs : List V} {kvs : List (List Key × V)} (e : But d H H') (hd : H d = some (.dT kvs)) (h : SqT K H a xs) : SqT K H' a xs := by
  rcases h with (h | ⟨o, h⟩) | h
  · exact .inl (.inl (e _ _ (ne_of h hd (by intro z; cases z)) h))
  · exact .inl (.inr ⟨o, e _ _ (ne_of h hd (by intro z; cases z)) h⟩)
  · exact .inr h
/-- the list of pairs at a -/
def PairsAt (K : PySem.W.Frag) (H : Hp) (a : Addr) (P : List (Int × Int)) : Prop := ∃ ts : List Addr, SqL K H a (ts.map V.ref) ∧ ts.length = P.length ∧ ∀ (n : Nat) t, ts[n]? = some t → SqT K H t [.int (getP P n).1, .int (getP P n).2]
theorem PairsAt.same {P : List (Int × Int)} (x : PairsAt K H a P) (e : Same H H') : PairsAt K H' a P := by
  obtain ⟨ts, h1, h2, h3⟩ := x
  exact ⟨ts, e.seq h1, h2, fun n t h => same_t e (h3 n t h)⟩
theorem PairsAt.but {P : List (Int × Int)} {kvs : List (List Key × V)} (x : PairsAt K H a P) (e : But d H H') (hd : H d = some (.dT kvs)) : PairsAt K H' a P := by
  obtain ⟨ts, h1, h2, h3⟩ := x
  exact ⟨ts, but_l e hd h1, h2, fun n t h => but_t e hd (h3 n t h)⟩
/-- tuples of seats -/
def TupsAt (H : Hp) (L : List (Addr × Seat)) : Prop := ∀ p ∈ L, H p.1 = some (.tup (sv p.2))
theorem TupsAt.same {L : List (Addr × Seat)} (x : TupsAt H L) (e : Same H H') : TupsAt H' L := fun p h => e _ _ (x p h)
theorem TupsAt.but {L : List (Addr × Seat)} {kvs : List (List Key × V)} (x : TupsAt H L) (e : But d H H') (hd : H d = some (.dT kvs)) : TupsAt H' L := fun p h => e _ _ (ne_of (x p h) hd (by intro z; cases z)) (x p h)
abbrev refs (L : List (Addr × Seat)) : List V := L.map fun p => V.ref p.1
theorem tset_same {P : Program} {w : World} {L : List (Addr × List Int)} (x : TSet K P w H a L) (e : Same H H') : TSet K P w H' a L := ⟨e _ _ x.1, fun p h => same_t e (x.2 p h)⟩
end
theorem atI_end {α : Type} {l : List α} {x : α} (h : l.getLast? = some x) : atI l (-1) = some x := by
  have e : l = l.dropLast ++ [x] := by
    cases l with
    | nil => cases h
    | cons a r =>
      have h2 := List.getLast?_eq_some_getLast (List.cons_ne_nil a r)
      rw [h2] at h
      rw [← Option.some.inj h]
      exact (List.dropLast_concat_getLast (List.cons_ne_nil a r)).symm
  rw [e]
  exact atI_last _ _
/-- a comprehension's element where there is no test -/
theorem lc_yes {σ : L2.St} {H : Hp} {te : TE} {k : V → Hp → Prop} {B : Hp → Prop} (h : te σ H k) : tYes σ H (fun b H3 => if b = true then te σ H3 k else B H3) := by
  show (if true = true then te σ H k else B H)
  exact iteT h
end TS2

/-! texts as lists of signs; names; homes -/
namespace TX
open PySem L2
abbrev tx (l : List Nat) : Str := ⟨l.toArray⟩
def alph : List Nat := [97, 98, 99, 100, 101, 102, 103, 104, 105, 106, 107, 108, 109, 110, 111, 112, 113, 114, 115, 116, 117, 118, 119, 120, 121, 122, 48, 49, 50, 51, 52, 53, 54, 55, 56, 57]
theorem alph_tx : ("abcdefghijklmnopqrstuvwxyz0123456789" : Str) = tx alph := by decide +kernel
theorem nil_tx : ("" : Str) = tx [] := by decide +kernel
theorem tx_len (l : List Nat) : (tx l).length = l.length := by
  show l.toArray.size = l.length
  simp
theorem tx_app (a b : List Nat) : tx a ++ tx b = tx (a ++ b) := by
  show (⟨a.toArray ++ b.toArray⟩ : Str) = _
  simp [tx]
theorem tx_inj {a b : List Nat} (h : tx a = tx b) : a = b := by
  have e : a.toArray = b.toArray := congrArg Str.cps h
  simpa using e
def idx (c : Nat) : Nat := alph.findIdx (· == c)
theorem occ_all : (alph.all fun c => decide (Builtin.Str.occurrences (tx alph) ⟨#[c]⟩ 0 (tx alph).length 1 = [idx c])) = true := by decide +kernel
theorem occ_at {c : Nat} (h : c ∈ alph) : Builtin.Str.occurrences (tx alph) ⟨#[c]⟩ 0 (tx alph).length 1 = [idx c] :=
  of_decide_eq_true (List.all_eq_true.mp occ_all c h)
def isN (l : List Nat) : Bool := decide (l ≠ []) && (decide (l.length ≤ 12) && l.all fun c => decide (c ∈ alph))
def homeN (t m : Int) : List Nat → Int → Int
  | [], n => n
  | c :: r, n => homeN t m r ((n * t + (idx c : Int) + 1) % m)
def mixed (c k : Int) : Int :=
  ((c + 7919 * k + 11) * 48271 % 2147483647 * ((c + 7919 * k + 11) * 48271 % 2147483647) + 40692 * ((c + 7919 * k + 11) * 48271 % 2147483647)) % 2147483399
def sign (c : Int) (k : Nat) : Nat := alph.getD (mixed c k / 31 % 36).toNat 0
def text (c : Int) (n : Nat) : List Nat := (List.range n).map (sign c)
theorem alph_len : alph.length = 36 := rfl
theorem sign_at (c : Int) (k : Nat) : alph[(mixed c k / 31 % 36).toNat]? = some (sign c k) := by
  have h0 : 0 ≤ mixed c k / 31 % 36 := Int.emod_nonneg _ (by decide)
  have h1 : mixed c k / 31 % 36 < 36 := Int.emod_lt_of_pos _ (by decide)
  have h2 : (mixed c k / 31 % 36).toNat < alph.length := by rw [alph_len]; omega
  unfold sign
  rw [List.getD_eq_getElem?_getD, List.getElem?_eq_getElem h2]
  rfl
theorem sign_in (c : Int) (k : Nat) : sign c k ∈ alph := List.mem_of_getElem? (sign_at c k)
theorem text_len (c : Int) (n : Nat) : (text c n).length = n := by simp [text]
theorem text_in (c : Int) (n : Nat) : ∀ x ∈ text c n, x ∈ alph := by
  intro x h
  obtain ⟨k, _, rfl⟩ := List.mem_map.mp h
  exact sign_in c k
theorem text_succ (c : Int) (n : Nat) : text c (n + 1) = text c n ++ [sign c n] := by
  simp [text, List.range_succ]
theorem homeN_in (t m : Int) (hm : 0 < m) : ∀ (l : List Nat) (n : Int), 0 ≤ n → n < m → 0 ≤ homeN t m l n ∧ homeN t m l n < m
  | [], _, h0, h1 => ⟨h0, h1⟩
  | c :: r, n, _, _ => homeN_in t m hm r _ (Int.emod_nonneg _ (by omega)) (Int.emod_lt_of_pos _ hm)
theorem homeN_snoc (t m : Int) : ∀ (l : List Nat) (n : Int) (c : Nat), homeN t m (l ++ [c]) n = (homeN t m l n * t + (idx c : Int) + 1) % m
  | [], _, _ => rfl
  | d :: r, n, c => homeN_snoc t m r _ c
theorem take_snoc {l : List Nat} {i : Nat} {c : Nat} (h : l.toArray[i]? = some c) : l.take (i + 1) = l.take i ++ [c] := by
  have h' : l[i]? = some c := by simpa using h
  rw [List.take_add_one, h']
  rfl
theorem mem_at {l : List Nat} {i : Nat} {c : Nat} (h : l.toArray[i]? = some c) : c ∈ l := by
  have h' : l[i]? = some c := by simpa using h
  exact List.mem_of_getElem? h'
theorem mixed_lo (c k : Int) : 0 ≤ mixed c k := Int.emod_nonneg _ (by decide)
theorem mixed_hi (c k : Int) : mixed c k < 2147483399 := Int.emod_lt_of_pos _ (by decide)
theorem isN_eq (l : List Nat) : isN l = ((decide ((1 : Int) ≤ l.length) && decide ((l.length : Int) ≤ 12)) && l.all fun c => decide (c ∈ alph)) := by
  unfold isN
  cases l with
  | nil => rfl
  | cons a r =>
    have h1 : decide ((a :: r) ≠ []) = true := decide_eq_true (List.cons_ne_nil a r)
    have h2 : decide ((1 : Int) ≤ ((a :: r).length : Int)) = true := decide_eq_true (by rw [List.length_cons]; omega)
    have h3 : decide (((a :: r).length : Int) ≤ 12) = decide ((a :: r).length ≤ 12) := by
      by_cases h : (a :: r).length ≤ 12
      · rw [decide_eq_true h, decide_eq_true (by omega)]
      · rw [decide_eq_false h, decide_eq_false (by omega)]
    rw [h1, h2, h3]
    simp
theorem cut_lo (l : List Nat) (k : Nat) : cutS (tx l) none (some (k : Int)) = tx (l.take k) := by
  unfold cutS
  rw [HT.sIx_none, HT.sIx_nat, tx_len]
  simp only [tx]
  congr 2
  simp
theorem cut_hi (l : List Nat) (k : Nat) : cutS (tx l) (some (k : Int)) none = tx (l.drop k) := by
  unfold cutS
  rw [HT.sIx_none, HT.sIx_nat, tx_len]
  simp only [tx]
  congr 1
  by_cases h : k ≤ l.length
  · rw [Nat.min_eq_left h]
    exact congrArg List.toArray (List.take_of_length_le (l := List.drop k l) (i := l.length - k) (by rw [List.length_drop]; exact Nat.le_refl _))
  · rw [Nat.min_eq_right (by omega)]
    rw [List.drop_length, List.drop_eq_nil_of_le (by omega)]
    simp
theorem sg_tx (c : Nat) : (⟨#[c]⟩ : Str) = tx [c] := rfl
/-- a sign drawn by a number -/
def one (i : Int) : Nat := alph.getD (i % 36).toNat 0
theorem one_get (i : Int) : alph[(i % 36).toNat]? = some (one i) := by
  have h0 : 0 ≤ i % 36 := Int.emod_nonneg _ (by decide)
  have h1 : i % 36 < 36 := Int.emod_lt_of_pos _ (by decide)
  have h2 : (i % 36).toNat < alph.length := by rw [alph_len]; omega
  unfold one
  rw [List.getD_eq_getElem?_getD, List.getElem?_eq_getElem h2]
  rfl
theorem one_in (i : Int) : one i ∈ alph := List.mem_of_getElem? (one_get i)
theorem one_at (i : Int) : atI (tx alph).cps.toList (i % 36) = some (one i) := by
  have h0 : 0 ≤ i % 36 := Int.emod_nonneg _ (by decide)
  have e : (i % 36) = (((i % 36).toNat : Nat) : Int) := by omega
  rw [e]
  exact atI_nat (by simpa using one_get i)
/-- what a name is -/
structure NameOk (l : List Nat) : Prop where
  ne : l ≠ []
  len : l.length ≤ 12
  al : ∀ c ∈ l, c ∈ alph
theorem NameOk.isN {l : List Nat} (h : NameOk l) : TX.isN l = true := by
  unfold TX.isN
  rw [decide_eq_true h.ne, decide_eq_true h.len, List.all_eq_true.mpr fun c hc => decide_eq_true (h.al c hc)]
  rfl
theorem isN_iff {l : List Nat} : TX.isN l = true ↔ NameOk l := by
  refine ⟨fun h => ?_, NameOk.isN⟩
  unfold TX.isN at h
  rw [Bool.and_eq_true, Bool.and_eq_true] at h
  exact ⟨of_decide_eq_true h.1, of_decide_eq_true h.2.1, fun c hc => of_decide_eq_true (List.all_eq_true.mp h.2.2 c hc)⟩
/-- the names of a law: a sign, or three, put into a text -/
def mid (c : Int) (k : Nat) : List Nat := (if 0 < c / 3960 % 3 then [one (mixed c (50 + (k : Int)) / 7), one (mixed c (50 + (k : Int)) / 301)] else []) ++ [one (c / 110 + (k : Int))]
def nameL (c : Int) (k : Nat) : List Nat := (text c (c % 10).toNat).take (c / 10 % 11).toNat ++ mid c k ++ (text c (c % 10).toNat).drop (c / 10 % 11).toNat
theorem mid_in (c : Int) (k : Nat) : ∀ x ∈ mid c k, x ∈ alph := by
  intro x hx
  unfold mid at hx
  rcases List.mem_append.mp hx with h | h
  · split at h
    · rcases List.mem_cons.mp h with e | h
      · exact e ▸ one_in _
      · exact (List.mem_singleton.mp h) ▸ one_in _
    · cases h
  · exact (List.mem_singleton.mp h) ▸ one_in _
theorem mid_len (c : Int) (k : Nat) : 1 ≤ (mid c k).length ∧ (mid c k).length ≤ 3 := by
  unfold mid
  rw [List.length_append]
  split <;> exact ⟨by simp, by simp⟩
theorem nameL_ok (c : Int) (k : Nat) : NameOk (nameL c k) := by
  have hm := mid_len c k
  have hl : (nameL c k).length = (mid c k).length + (c % 10).toNat := by
    have e := congrArg List.length (List.take_append_drop (c / 10 % 11).toNat (text c (c % 10).toNat))
    rw [List.length_append, text_len] at e
    unfold nameL
    rw [List.length_append, List.length_append]
    omega
  refine ⟨fun e => ?_, by omega, fun x hx => ?_⟩
  · rw [e] at hl
    simp at hl
    omega
  · unfold nameL at hx
    rcases List.mem_append.mp hx with h | h
    · rcases List.mem_append.mp h with h | h
      · exact text_in _ _ _ (List.mem_of_mem_take h)
      · exact mid_in _ _ _ h
    · exact text_in _ _ _ (List.mem_of_mem_drop h)
end TX

namespace TS6
open PySem PySem.Spec PyProof.Rows L2
def h2 (r p : Int) : Int := reduceHash (Builtin.Tuple.tupleHashOf [hashInt r, hashInt p])
/-- back from the hash: the place, for what stood ahead of it -/
def un (a : Nat) (h : Int) : Nat :=
  let m : Nat := 2 ^ 64
  let c := (h % (m : Int)).toNat
  let b := (c + m - 2870177450013471924) % m
  let y := b * 614540362697595703 % m
  let x := y / 2 ^ 31 + y % 2 ^ 31 * 2 ^ 33
  (x + m - a) % m * 839798700976720815 % m
def key (h : Int) : Int × Int := if un 6823068795704846497 h < 1000 then (0, (un 6823068795704846497 h : Nat)) else (1, (un 8932352168822476794 h : Nat))
theorem key_0 : ((List.range 1000).all fun p => decide (key (h2 0 (p : Nat)) = (0, ((p : Nat) : Int)))) = true := by decide +kernel
theorem key_1 : ((List.range 1000).all fun p => decide (key (h2 1 (p : Nat)) = (1, ((p : Nat) : Int)))) = true := by decide +kernel
theorem nest_back {r p : Int} (hr : r = 0 ∨ r = 1) (h0 : 0 ≤ p) (h1 : p < 1000) : key (h2 r p) = (r, p) := by
  obtain ⟨n, rfl⟩ : ∃ n : Nat, p = (n : Int) := ⟨p.toNat, by omega⟩
  have hn : n ∈ List.range 1000 := List.mem_range.mpr (by omega)
  rcases hr with rfl | rfl
  · exact of_decide_eq_true (List.all_eq_true.mp key_0 n hn)
  · exact of_decide_eq_true (List.all_eq_true.mp key_1 n hn)
/-- a nest's key -/
def NestKey (k : List Key) : Prop := ∃ r p : Int, k = [.inl r, .inl p] ∧ (r = 0 ∨ r = 1) ∧ 0 ≤ p ∧ p < 1000
theorem hash_is {P : Program} {w : World} (r p : Int) : (tupleKind (mixKind P w)).hash [.inl r, .inl p] = h2 r p := rfl
theorem hash_nd {P : Program} {w : World} {ks : List (List Key)} (hk : ∀ k ∈ ks, NestKey k) (hn : ks.Nodup) : (ks.map (tupleKind (mixKind P w)).hash).Nodup := by
  refine List.pairwise_map.mpr (List.Pairwise.imp_of_mem ?_ hn)
  intro a b ha hb hne e
  obtain ⟨r, p, rfl, hr, h0, h1⟩ := hk a ha
  obtain ⟨r', p', rfl, hr', h0', h1'⟩ := hk b hb
  rw [hash_is, hash_is] at e
  have q := (nest_back hr h0 h1).symm.trans ((congrArg key e).trans (nest_back hr' h0' h1'))
  cases q
  exact hne rfl
end TS6

/-! dicts with tuple keys: pop(k), del d[k], dict(d), dict(pairs) -/
namespace TS6
open PySem PySem.Spec PyProof.Rows L2
section
variable {X : Cx}
theorem drop_eq {κ : Type} [DecidableEq κ] (xs : List (κ × Addr × Value)) (k : κ) : withoutH xs k = DT.dropH xs k := rfl
theorem val_at {H : Hp} {kvs : List (List Key × V)} {xs : List (List Key × Addr × Value)} {k : List Key} {v : V} (rel : KT H kvs xs) (e : valV kvs k = some v) : ∃ p, atKey xs k = some p ∧ RelV v p.2 := by
  have r := rel.val k
  rw [e] at r
  cases ep : atKey xs k with
  | none =>
    rw [ep] at r
    exact (show False from r).elim
  | some p =>
    rw [ep] at r
    exact ⟨p, rfl, r⟩
/-- what is left behind a key taken out -/
theorem inv_drop {pins : List (Addr × Obj)} {σ : L2.St} {H : Hp} {s : Shared} {h' : Heap} {tk : Nat} {a : Addr} {kvs : List (List Key × V)} {xs : List (List Key × Addr × Value)} {k : List Key} (I : Inv X pins σ H s) (ha : H a = some (.dT kvs)) (z : kvs.length ≤ sizeLine) (hd : (a == sysModules) = false) (rel : KT H kvs xs)
    (dd' : h'.DictOfH (tupleKind (mixKind X.prog X.w)) a (withoutH xs k)) (hs : Heap.SameBut a s.heap h') : Inv X pins σ (upd H a (.dT (dropK kvs k))) { s with heap := h', toks := tk } := by
  obtain ⟨o, es, ep, hq, h2, h3, h4, _, h5⟩ := dd'
  rw [drop_eq] at h4 h5
  exact d_write I (by rw [ha]; exact True.intro) hs ⟨o, hq⟩ ⟨Nat.le_trans (dropK_le kvs k) z, hd, _, (L2.DX.KT_drop k rel).keeps (fun c ys ec => (by rw [upd_ne (ne_of ec ha (fun z => nomatch z))]; exact ec)), o, es, ep, hq, h2, h3, h4, h5⟩
/-- d.pop(k), there -/
def rPop1 : V → List V → Hp → VK → Prop := fun x xs H Q => ∃ (a : Addr) (kvs : List (List Key × V)) (k : List Key) (b : Addr) (v : V), x = .ref a ∧ xs = [.ref b] ∧ H a = some (.dT kvs) ∧ H b = some (.tup (k.map kV)) ∧ valV kvs k = some v ∧ Q v (upd H a (.dT (dropK kvs k)))
theorem mt_pop1 (hu : X.A.units + 1 < cLine) : MtR X "dict.pop" rPop1 := by
  intro pins s σ H x xs v us Q I rx rxs h
  obtain ⟨a, kvs, k, b, w0, rfl, rfl, ha, hb, hv, q⟩ := h
  cases rx
  obtain ⟨u1, rfl, r1⟩ := vals1 rxs
  cases r1
  obtain ⟨z, hd, xs', rel, dd⟩ := dt_of I.hok ha
  have hz : xs'.length ≤ sizeLine := by rw [← Paired.length rel]; exact z
  obtain ⟨p, hp, rv⟩ := val_at rel hv
  refine call_pop_heap (more := []) (knd := tupleKind (mixKind X.prog X.w)) (k := k) (.inl rfl) (PySem.F.args_dict_pop_2 _ _) (tupleKind_room_in1 hu) (key_of I.hok hb) hd dd hp (fun h' dd' hs => ?_) hz
  exact ⟨w0, _, inv_drop I ha z hd rel dd' hs, rv, q⟩
/-- del d[k], there -/
def sDelT (td ty : TE) : TS := fun D σ H => td σ H fun x H1 => ty σ H1 fun y H2 => ∃ (a : Addr) (kvs : List (List Key × V)) (k : List Key) (b : Addr) (v : V), x = .ref a ∧ y = .ref b ∧ H2 a = some (.dT kvs) ∧ H2 b = some (.tup (k.map kV)) ∧ valV kvs k = some v ∧ D.nx σ (upd H2 a (.dT (dropK kvs k)))
theorem ps_delT {o i : Expr} {td ty : TE} {tpos pos : Pos} (hu : X.A.units + 1 < cLine) (ho : PE X o td) (hi : PE X i ty) : PS X (.Delete [.Subscript o i tpos] pos) (sDelT td ty) := by
  refine ⟨fun pins s σ H D I h => ?_⟩
  refine wpAny_Delete (wpAny_deleteEach_cons (wpAny_delete_Subscript (thn (ho.run pins s σ H _ I h) fun u s1 ⟨x, H1, I1, rx, q1⟩ => thn (hi.run pins s1 σ H1 _ I1 q1) fun iv s2 ⟨y, H2, I2, ry, a, kvs, k, b, v, ex, ey, ha, hb, hv, q2⟩ => ?_)))
  subst ex ey
  obtain rfl : u = Value.ref a := rx
  obtain rfl : iv = Value.ref b := ry
  obtain ⟨z, hd, xs', rel, dd⟩ := dt_of I2.hok ha
  have hz : xs'.length ≤ sizeLine := by rw [← Paired.length rel]; exact z
  obtain ⟨p, hp, rv⟩ := val_at rel hv
  refine wpAny_delItem_heap (knd := tupleKind (mixKind X.prog X.w)) (k := k) (tupleKind_room_in1 hu) (key_of I2.hok hb) hd dd hp (fun h' dd' hs => ?_) hz
  exact wpAny_deleteEach_nil ⟨σ, _, inv_drop I2 ha z hd rel dd' hs, q2⟩
/-- a new dict of that -/
theorem inv_new {pins : List (Addr × Obj)} {σ : L2.St} {H : Hp} {s : Shared} {h' : Heap} {tk : Nat} {kvs : List (List Key × V)} {xs : List (List Key × Addr × Value)} (I : Inv X pins σ H s) (z : kvs.length ≤ sizeLine) (rel : KT H kvs xs)
    (dd' : h'.DictOfH (tupleKind (mixKind X.prog X.w)) s.heap.objs.size xs) (hk : ∀ b o, s.heap.get? b = some o → h'.get? b = some o) : Inv X pins σ (upd H s.heap.objs.size (.dT kvs)) { s with heap := h', toks := tk } := by
  obtain ⟨o, es, ep, hq, h2, h3, h4, _, h5⟩ := dd'
  have hf : H s.heap.objs.size = none := I.hok.fresh (Nat.le_refl _)
  have hm : (s.heap.objs.size == sysModules) = false := beq_eq_false_iff_ne.mpr (Nat.ne_of_gt I.big)
  exact I.laid (t' := tk) hk (Nat.le_refl _) (show ObjOk X.prog X.w _ _ _ (.dT kvs) from ⟨z, hm, xs, rel.keeps (fun c ys ec => (by rw [upd_ne (ne_of_none ec hf)]; exact ec)), o, es, ep, hq, h2, h3, h4, h5⟩)
theorem keys_eq {H : Hp} {kvs : List (List Key × V)} {xs : List (List Key × Addr × Value)} (r : KT H kvs xs) : kvs.map (·.1) = xs.map (·.1) := by
  induction r with
  | nil => rfl
  | cons h t ih => rw [List.map_cons, List.map_cons, h.1, ih]
/-- dict(d), the keys nests -/
def rDictOf : List V → Hp → VK → Prop := fun xs H Q => ∃ (a : Addr) (kvs : List (List Key × V)), xs = [.ref a] ∧ H a = some (.dT kvs) ∧ (∀ k ∈ kvs.map (·.1), NestKey k) ∧ ∀ q, H q = none → Q (.ref q) (upd H q (.dT kvs))
theorem call_dictT (hu : X.A.units + 64 < cLine) : CallR X (.type "dict") rDictOf := by
  intro pins s σ H xs us Q I r h
  obtain ⟨a, kvs, rfl, ha, hk, q⟩ := h
  obtain ⟨u, eu, rx⟩ := vals1 r
  subst eu
  cases rx
  obtain ⟨z, hd, xs', rel, dd⟩ := dt_of I.hok ha
  have hz : xs'.length ≤ sizeLine := by rw [← Paired.length rel]; exact z
  have hnd := dd.nodup
  have hlt : a < s.heap.objs.size := by
    obtain ⟨o, _, _, ho, _⟩ := id dd
    exact Heap.lt_size ho
  have hne : s.heap.objs.size ≠ a := Nat.ne_of_gt hlt
  refine callType_codes (Q₁ := fun obj s₁ => obj = .ref s.heap.objs.size ∧ s₁ = { s with heap := s.heap.push { cls := .type "dict", data := .dict #[] } }) PySem.F.kt_called_dict (PySem.F.kt_typeCall_dict_1 _) PySem.F.entry_dict_init (kt_code_dict_new _ ⟨rfl, rfl⟩) ?_
  rintro obj s₁ ⟨rfl, rfl⟩
  have k0 : ∀ b o, s.heap.get? b = some o → (s.heap.push { cls := .type "dict", data := .dict #[] }).get? b = some o := fun b o e => Heap.get?_push_of_some _ e
  have hnew : (s.heap.push { cls := .type "dict", data := .dict #[] }).DictOfH (tupleKind (mixKind X.prog X.w)) s.heap.objs.size [] := Heap.DictOfH.new s.heap
  refine ⟨hnew.typeIs, PySem.F.args_dict_init_2 _ _, ?_⟩
  unfold Builtin.«dict.__init__»
  refine wpAny_bind ?_
  unfold Builtin.Dict.selfAndRest
  refine wpAny_bind (wpAny_notOrdered_dict hnew.typeIs ?_)
  show wpAny _ _ (pure (s.heap.objs.size, [Value.ref a])) _ _ _
  refine wpAny_pure ?_
  have keep : ∀ x ∈ xs', (tupleKind (mixKind X.prog X.w)).is (s.heap.push { cls := .type "dict", data := .dict #[] }) x.1 x.2.1 := by
    intro x hx
    obtain ⟨o, es, ep, hq, h2, h3, h4, h5, h6⟩ := id dd
    obtain ⟨o', its, n, e1, e2, e3, e4⟩ := h5 x hx
    exact ⟨o', its, n, k0 _ _ e1, e2, e3, e4⟩
  have dd1 : (s.heap.push { cls := .type "dict", data := .dict #[] }).DictOfH (tupleKind (mixKind X.prog X.w)) a xs' := by
    obtain ⟨o, es, ep, hq, h2, h3, h4, h5, h6⟩ := id dd
    exact ⟨o, es, ep, k0 _ _ hq, h2, h3, h4, keep, h6⟩
  have hty : ∀ x ∈ xs', Shared.TypeIs { s with heap := s.heap.push { cls := .type "dict", data := .dict #[] } } (.ref x.2.1) "tuple" := fun x hx => by
    obtain ⟨o', its, n, e1, e2, _⟩ := keep x hx
    exact ⟨o', e1, e2⟩
  have hap : (xs'.map fun x => (tupleKind (mixKind X.prog X.w)).hash x.1).Nodup := by
    have e : (xs'.map fun x => (tupleKind (mixKind X.prog X.w)).hash x.1) = (xs'.map (·.1)).map (tupleKind (mixKind X.prog X.w)).hash := by rw [List.map_map]; rfl
    rw [e]
    exact hash_nd (fun k hk' => hk k (by rw [keys_eq rel]; exact hk')) hnd
  have room : (tupleKind (mixKind X.prog X.w)).room X.A.in1.in1 := tupleKind_room_in1 (show X.A.in1.units + 1 < cLine from by
    have e : X.A.in1.units ≤ X.A.units + 1 := by first | exact Nat.le_refl _ | (show X.A.units + _ ≤ _; omega)
    omega)
  refine updateFrom_dictH (A := X.A.in1) (knd := tupleKind (mixKind X.prog X.w)) (kvs := []) (more := xs') (R := _) .none room hne hd hnew dd1 (.inr ⟨hty, hap⟩) (by simpa using hz) fun h' d1 d2 hs => ?_
  rw [storedAllH_nil_of_nodup xs' hnd] at d1
  refine ⟨rfl, ⟨.ref s.heap.objs.size, _, inv_new (s := s) (tk := s.toks) I z rel d1 (fun b o (e : s.heap.get? b = some o) => (hs.2 b (Nat.ne_of_lt (Heap.lt_size e))).trans (k0 _ _ e)), rfl, q _ (I.hok.fresh (Nat.le_refl _))⟩⟩
end
end TS6

/-! dict(pairs) whose keys are tuples -/
namespace TS6
open PySem PySem.Spec PyProof.Rows L2
section
variable {X : Cx}
theorem pairsT {pins : List (Addr × Obj)} {σ : L2.St} {H : Hp} {s : Shared} (I : Inv X pins σ H s) : ∀ {ps : List Addr} {kvs : List (List Key × V)}, Paired (fun p (kv : List Key × V) => ∃ b, SqT X.K H p [.ref b, kv.2] ∧ H b = some (.tup (kv.1.map kV))) ps kvs →
    ∃ prs : List (List Key × Addr × Value), KT H kvs prs ∧ prs.length = ps.length ∧ ∀ (j : Nat) (q : List Key × Addr × Value), prs[j]? = some q → ∃ p : Addr, ps[j]? = some p ∧ IsTup s.heap p #[.ref q.2.1, q.2.2] ∧ H q.2.1 = some (.tup (q.1.map kV))
  | _, _, .nil => ⟨[], .nil, rfl, fun j q e => by simp at e⟩
  | _, _, .cons (a := p) (b := kv) h t => by
    obtain ⟨prs, r, hl, hp⟩ := pairsT I t
    obtain ⟨b, hs, hb⟩ := h
    obtain ⟨its, rv, ht, _⟩ := I.tuple hs
    obtain ⟨u, y, ei, ru, ry⟩ := vals2 rv
    subst ei
    obtain rfl : u = Value.ref b := ru
    refine ⟨(kv.1, b, y) :: prs, .cons ⟨rfl, hb, ry⟩ r, by rw [List.length_cons, List.length_cons, hl], fun j q e => ?_⟩
    cases j with
    | zero =>
      have e' : (kv.1, b, y) = q := Option.some.inj e
      subst e'
      exact ⟨p, rfl, ht, hb⟩
    | succ j =>
      obtain ⟨p', e1, e2, e3⟩ := hp j q (by simpa using e)
      exact ⟨p', by simpa using e1, e2, e3⟩
def rDictPairs (K : PySem.W.Frag) : List V → Hp → VK → Prop := fun xs H Q => ∃ (a : Addr) (ps : List Addr) (kvs : List (List Key × V)), xs = [.ref a] ∧ SqL K H a (ps.map V.ref) ∧ Paired (fun p (kv : List Key × V) => ∃ b, SqT K H p [.ref b, kv.2] ∧ H b = some (.tup (kv.1.map kV))) ps kvs ∧
  (kvs.map (·.1)).Nodup ∧ ∀ q, H q = none → Q (.ref q) (upd H q (.dT kvs))
theorem call_dictPT (hc : X.calm = true) (hu : X.A.units + 64 < cLine) : CallR X (.type "dict") (rDictPairs X.K) := by
  intro pins s σ H xs us Q I r h
  obtain ⟨a, ps, kvs, rfl, hq, hp, hn, q⟩ := h
  obtain ⟨u, eu, rx⟩ := vals1 r
  subst eu
  cases rx
  obtain ⟨its, rv, pl, hz⟩ := I.list hq
  have ei := refs_at rv
  subst ei
  rw [List.length_map] at hz
  obtain ⟨prs, rel, hl, hpr⟩ := pairsT I hp
  obtain ⟨o, n, ho, hcl, hd, hdat⟩ := pl
  have room : (tupleKind (mixKind X.prog X.w)).room X.A.in1.in1 := tupleKind_room_in1 (show X.A.in1.units + 1 < cLine from by
    have e : X.A.in1.units ≤ X.A.units + 1 := by first | exact Nat.le_refl _ | (show X.A.units + _ ≤ _; omega)
    omega)
  have hlen : prs.length = (prs.map fun x => ((Value.ref x.2.1, x.2.2) : Value × Value)).length := (List.length_map ..).symm
  have P := PairArg.list (prog := X.prog) (w := X.w) a (ps.map Value.ref).toArray (fun j => ps.getD j 0) (prs.map fun x => (Value.ref x.2.1, x.2.2))
  refine call_dict_pairsH (knd := tupleKind (mixKind X.prog X.w)) (ps := prs) P (I.ok.hd hc) room ⟨⟨o, n, ho, hcl, hd, hdat⟩, by simp [hl], fun j k v e => ?_⟩ ⟨hlen, fun i key v e => ?_⟩ (fun h' hk x hx => ?_) (by rw [← hlen, hl]; exact hz) fun h' tk d1 hk => ?_
  · rw [List.getElem?_map] at e
    cases ej : prs[j]? with
    | none => rw [ej] at e; cases e
    | some x =>
      rw [ej] at e
      cases e
      obtain ⟨p, e1, e2, _⟩ := hpr j x ej
      have e3 : ps.getD j 0 = p := by rw [List.getD_eq_getElem?_getD, e1]; rfl
      refine ⟨?_, .inl ?_⟩
      · show (ps.map Value.ref).toArray[j]? = some (Value.ref (ps.getD j 0))
        rw [e3]
        simp [e1]
      · show s.heap.IsTuple (ps.getD j 0) _
        rw [e3]
        exact e2
  · have e' : (prs.map fun x => ((Value.ref x.2.1, x.2.2) : Value × Value))[i]? = some (key, v) := e
    rw [List.getElem?_map] at e'
    cases ej : prs[i]? with
    | none => rw [ej] at e'; cases e'
    | some x =>
      rw [ej] at e'
      cases e'
      exact ⟨x.1, x.2.1, rfl, rfl⟩
  · obtain ⟨j, hj, rfl⟩ := List.mem_iff_getElem.mp hx
    obtain ⟨p, _, _, e3⟩ := hpr j prs[j] (List.getElem?_eq_getElem hj)
    obtain ⟨o', its', n', e1, e2, e4, e5⟩ := key_of (P := X.prog) (w := X.w) I.hok e3
    exact ⟨o', its', n', hk _ _ (Nat.ne_of_lt (Heap.lt_size e1)) (by simp) e1, e2, e4, e5⟩
  · have hnd : (prs.map (·.1)).Nodup := by rw [← keys_eq rel]; exact hn
    rw [storedAllH_nil_of_nodup prs hnd] at d1
    have z : kvs.length ≤ sizeLine := by rw [Paired.length rel, hl]; exact hz
    exact ⟨.ref s.heap.objs.size, _, inv_new (s := s) (tk := tk) I z rel d1 (fun b o (e : s.heap.get? b = some o) => hk b o (by simp) e), rfl, q _ (I.hok.fresh (Nat.le_refl _))⟩
end
end TS6

/-! a table as the laws keep it: which name stands in which nest -/
namespace TB
open PySem L2 Ck TS2 TX
theorem hu64 {A : Around} {k : Nat} (hr : Room k A) : A.units + 64 < cLine := hr.units
theorem hu65 {A : Around} {k : Nat} (hr : Room k A) : A.units + 65 < cLine := by
  have := hr.un
  omega
abbrev Name := List Nat
abbrev Held := List (Seat × Name)
def getN (L : Held) (s : Seat) : Option Name := (L.find? fun x => decide (x.1 = s)).map (·.2)
def hk (L : Held) : List (List Key × V) := L.map fun x => (sk x.1, V.str (tx x.2))
theorem getN_cons (x : Seat × Name) (L : Held) (s : Seat) : getN (x :: L) s = if x.1 = s then some x.2 else getN L s := by
  unfold getN
  rw [List.find?_cons]
  by_cases e : x.1 = s
  · rw [if_pos e]
    simp [e]
  · rw [if_neg e]
    simp [e]
theorem hk_val : ∀ (L : Held) (s : Seat), valV (hk L) (sk s) = (getN L s).map fun n => V.str (tx n)
  | [], s => rfl
  | x :: L, s => by
    rw [getN_cons]
    by_cases e : x.1 = s
    · rw [if_pos e]
      exact valV_pos (show (sk x.1) = sk s by rw [e])
    · rw [if_neg e, ← hk_val L s]
      exact valV_neg (fun q => e (sk_inj q))
theorem hk_none {L : Held} {s : Seat} (h : getN L s = none) : valV (hk L) (sk s) = none := by rw [hk_val, h]; rfl
theorem hk_some {L : Held} {s : Seat} {n : Name} (h : getN L s = some n) : valV (hk L) (sk s) = some (.str (tx n)) := by rw [hk_val, h]; rfl
theorem getN_mem {L : Held} {s : Seat} {n : Name} (h : getN L s = some n) : (s, n) ∈ L := by
  unfold getN at h
  cases e : L.find? fun x => decide (x.1 = s) with
  | none => rw [e] at h; cases h
  | some x =>
    rw [e] at h
    cases h
    have h1 := List.mem_of_find?_eq_some e
    have h2 : x.1 = s := by
      have q := List.find?_some e
      simpa using q
    rw [← h2]
    exact h1
theorem getN_none {L : Held} {s : Seat} : getN L s = none ↔ s ∉ L.map (·.1) := by
  unfold getN
  rw [Option.map_eq_none_iff, List.find?_eq_none]
  constructor
  · intro h hs
    obtain ⟨x, hx, e⟩ := List.mem_map.mp hs
    exact h x hx (decide_eq_true e)
  · intro h x hx e
    exact h (List.mem_map.mpr ⟨x, hx, of_decide_eq_true e⟩)
theorem getN_of_mem {L : Held} (hn : (L.map (·.1)).Nodup) {s : Seat} {n : Name} (h : (s, n) ∈ L) : getN L s = some n := by
  induction L with
  | nil => cases h
  | cons x L ih =>
    rw [List.map_cons, List.nodup_cons] at hn
    rw [getN_cons]
    rcases List.mem_cons.mp h with e | e
    · rw [← e, if_pos rfl]
    · rw [if_neg (fun q => hn.1 (List.mem_map.mpr ⟨_, e, q.symm⟩))]
      exact ih hn.2 e
theorem hk_keys (L : Held) : (hk L).map (·.1) = (L.map (·.1)).map sk := by
  unfold hk
  rw [List.map_map, List.map_map]
  rfl
theorem hk_len (L : Held) : (hk L).length = L.length := List.length_map ..
theorem hk_app (L M : Held) : hk L ++ hk M = hk (L ++ M) := (List.map_append ..).symm
theorem hk_put {L : Held} {s : Seat} (n : Name) (h : getN L s = none) : putK (hk L) (sk s) (.str (tx n)) = hk (L ++ [(s, n)]) := by
  rw [putK_new _ (hk_none h), ← hk_app]
  rfl
theorem hk_drop (L : Held) (s : Seat) : dropK (hk L) (sk s) = hk (L.filter fun x => decide (x.1 ≠ s)) := by
  unfold dropK hk
  rw [List.filter_map]
  congr 1
  refine List.filter_congr fun x _ => ?_
  show decide (sk x.1 ≠ sk s) = decide (x.1 ≠ s)
  by_cases e : x.1 = s
  · rw [e]
    simp
  · have e1 : x.1 ≠ s := e
    have e2 : sk x.1 ≠ sk s := fun q => e (sk_inj q)
    rw [decide_eq_true e1, decide_eq_true e2]
/-- both homes of a name -/
def hmN (c t1 t2 : Int) (n : Name) : Int × Int := (homeN t1 c n 0, homeN t2 c n 0)
theorem hmN_in {c t1 t2 : Int} (hc : 0 < c) (n : Name) : (0 ≤ (hmN c t1 t2 n).1 ∧ (hmN c t1 t2 n).1 < c) ∧ 0 ≤ (hmN c t1 t2 n).2 ∧ (hmN c t1 t2 n).2 < c :=
  ⟨homeN_in t1 c hc n 0 (by omega) hc, homeN_in t2 c hc n 0 (by omega) hc⟩
/-- the dict of homes, of the names ns -/
def HomesAt (H : Hp) (d : Addr) (ns : List Name) (hm : Name → Int × Int) : Prop := ∃ kvs : List (Key × V), H d = some (.dK kvs) ∧
  ∀ n ∈ ns, ∃ t a b, valV kvs (.inr (tx n)) = some (.ref t) ∧ H t = some (.tup [.ref a, .ref b]) ∧ H a = some (.tup (sv (seatP (hm n) 0))) ∧ H b = some (.tup (sv (seatP (hm n) 1)))
theorem HomesAt.same {H H' : Hp} {d : Addr} {ns : List Name} {hm : Name → Int × Int} (h : HomesAt H d ns hm) (e : Same H H') : HomesAt H' d ns hm := by
  obtain ⟨kvs, hd, hn⟩ := h
  refine ⟨kvs, e _ _ hd, fun n hm' => ?_⟩
  obtain ⟨t, a, b, h1, h2, h3, h4⟩ := hn n hm'
  exact ⟨t, a, b, h1, e _ _ h2, e _ _ h3, e _ _ h4⟩
/-- the other home of who stands in a nest -/
def nxN (hm : Name → Int × Int) (f : Seat → Option Name) (s : Seat) : Option Seat := (f s).map fun n => seatP (hm n) (1 - s.1)
theorem way_len {hm : Name → Int × Int} {L : Held} {s : Seat} {ws : List Seat} (c : Chain (nxN hm (getN L)) s ws) : ws.length ≤ L.length + 1 := by
  have q := c.len (f := fun x => if (getN L x).isSome = true then some x else none) (L.map (·.1)) (fun x y h => ?_) (fun x y n hx hy => ?_)
  · rwa [List.length_map] at q
  · unfold nxN at h
    cases e : getN L x with
    | none => rw [e] at h; cases h
    | some n => exact ⟨x, by simp, List.mem_map.mpr ⟨_, getN_mem e, rfl⟩⟩
  · split at hx
    · split at hy
      · exact (Option.some.inj hx).trans (Option.some.inj hy).symm
      · cases hy
    · cases hx
/-- data: nests and names as they are compared -/
def dS (s : Seat) : PyData := .tuple [.int s.1, .int s.2]
theorem dp_seat {K : PySem.W.Frag} {H : Hp} {q : Addr} {s : Seat} (h : SqT K H q (sv s)) : Dp K H (.ref q) (dS s) := .tup h (.cons (.int _) (.cons (.int _) .nil))
def dSs (L : List Seat) : List PyData := L.map dS
theorem dp_seats {K : PySem.W.Frag} {H : Hp} {l : Addr} {L : List (Addr × Seat)} (h : SqL K H l (refs L)) (ht : TupsAt H L) : Dp K H (.ref l) (.list (dSs (L.map (·.2)))) := by
  refine .lst h ?_
  have key : ∀ M : List (Addr × Seat), TupsAt H M → DpAll K H (refs M) (dSs (M.map (·.2))) := by
    intro M
    induction M with
    | nil => intro _; exact .nil
    | cons p r ih =>
      intro hM
      exact .cons (dp_seat (SqT.of (hM p List.mem_cons_self))) (ih fun q hq => hM q (List.mem_cons_of_mem _ hq))
  exact key L ht
theorem dS_lay : ∀ M : List Seat, PyData.canLayAll0 (dSs M) = true := by
  intro M
  induction M with
  | nil => rfl
  | cons p r ih =>
    show PyData.canLayAll0 (dS p :: dSs r) = true
    unfold PyData.canLayAll0
    rw [ih]
    rfl
theorem dS_depth : ∀ M : List Seat, PyData.depthAll (dSs M) ≤ 1 := by
  intro M
  induction M with
  | nil => exact Nat.zero_le _
  | cons p r ih =>
    show PyData.depthAll (dS p :: dSs r) ≤ 1
    unfold PyData.depthAll
    have : PyData.depth (dS p) = 1 := rfl
    omega
theorem shaped_seats (M : List Seat) : SeqAt.shaped (.list (dSs M)) = true := by
  unfold SeqAt.shaped
  rw [Bool.and_eq_true, decide_eq_true_eq]
  refine ⟨dS_lay M, ?_⟩
  have := dS_depth M
  unfold PyData.depth
  omega
theorem shaped_seat (s : Seat) : SeqAt.shaped (dS s) = true := rfl
theorem eqv_seat (s t : Seat) : PyData.eqv (dS s) (dS t) = decide (s = t) := by
  obtain ⟨a, b⟩ := s
  obtain ⟨c, d⟩ := t
  have e : PyData.eqv (dS (a, b)) (dS (c, d)) = (decide (a = c) && (decide (b = d) && true)) := rfl
  rw [e]
  by_cases h1 : a = c
  · by_cases h2 : b = d
    · subst h1 h2
      simp
    · have : ((a, b) : Seat) ≠ (c, d) := fun q => h2 (congrArg Prod.snd q)
      simp [h2]
  · have : ((a, b) : Seat) ≠ (c, d) := fun q => h1 (congrArg Prod.fst q)
    simp [h1]
theorem any_seats (M : List Seat) (s : Seat) : ((dSs M).any fun z => PyData.eqv z (dS s)) = decide (s ∈ M) := by
  induction M with
  | nil => rfl
  | cons p r ih =>
    show (PyData.eqv (dS p) (dS s) || ((dSs r).any fun z => PyData.eqv z (dS s))) = _
    rw [ih, eqv_seat]
    by_cases e : p = s
    · subst e
      simp
    · have e' : ¬ s = p := fun q => e q.symm
      by_cases h : s ∈ r <;> simp [e, e', h]
end TB

/-! nests in their order; lists of names -/
namespace TB
open PySem PyProof.Rows L2 Ck TS2 TX
def LtS (s t : Seat) : Prop := s.1 < t.1 ∨ (s.1 = t.1 ∧ s.2 < t.2)
theorem ltS_irr (s : Seat) : ¬ LtS s s := by unfold LtS; omega
theorem ltS_asym {s t : Seat} (h : LtS s t) : ¬ LtS t s := by unfold LtS at *; omega
theorem sorted_nd {A : List Seat} (h : A.Pairwise LtS) : A.Nodup := by
  refine List.Pairwise.imp ?_ h
  intro a b h e
  rw [e] at h
  exact ltS_irr b h
/-- just one rising list of the same nests -/
theorem sorted_uniq : ∀ {A B : List Seat}, A.Pairwise LtS → B.Pairwise LtS → (∀ x, x ∈ A ↔ x ∈ B) → A = B
  | [], [], _, _, _ => rfl
  | [], b :: B, _, _, h => absurd ((h b).mpr List.mem_cons_self) (by simp)
  | a :: A, [], _, _, h => absurd ((h a).mp List.mem_cons_self) (by simp)
  | a :: A, b :: B, hA, hB, h => by
    obtain ⟨a1, a2⟩ := List.pairwise_cons.mp hA
    obtain ⟨b1, b2⟩ := List.pairwise_cons.mp hB
    have e : a = b := by
      rcases List.mem_cons.mp ((h a).mp List.mem_cons_self) with q | q
      · exact q
      · rcases List.mem_cons.mp ((h b).mpr List.mem_cons_self) with p | p
        · exact p.symm
        · exact (ltS_asym (b1 a q) (a1 b p)).elim
    subst e
    rw [sorted_uniq a2 b2 fun x => ?_]
    have hx := h x
    rw [List.mem_cons, List.mem_cons] at hx
    constructor
    · intro q
      rcases hx.mp (.inr q) with p | p
      · rw [p] at q
        exact (ltS_irr _ (a1 _ q)).elim
      · exact p
    · intro q
      rcases hx.mpr (.inr q) with p | p
      · rw [p] at q
        exact (ltS_irr _ (b1 _ q)).elim
      · exact p
/-- where an address holds a pair, the pair -/
def kOf (H : Hp) (x : V) : Int × Int := match x with
  | .ref t => match H t with
    | some (.tup [.int i, .int j]) => (i, j)
    | _ => (0, 0)
  | _ => (0, 0)
theorem kOf_at {H : Hp} {t : Addr} {s : Seat} (h : H t = some (.tup (sv s))) : kOf H (.ref t) = s := by
  unfold kOf
  simp only [h, sv]
theorem keys_tup {H : Hp} : ∀ {L : Held} {bs : List Addr}, IsKeys H (hk L) bs → (∀ b ∈ bs, ∃ s ∈ L.map (·.1), H b = some (.tup (sv s))) ∧ bs.map (fun b => kOf H (.ref b)) = L.map (·.1)
  | [], _, h => by
    cases h
    exact ⟨fun b hb => (by cases hb), rfl⟩
  | x :: L, _, h => by
    cases h with
    | @cons _ b _ bs h1 h2 =>
      obtain ⟨i1, i2⟩ := keys_tup (L := L) h2
      have e : H b = some (.tup (sv x.1)) := h1
      refine ⟨fun c hc => ?_, ?_⟩
      · rcases List.mem_cons.mp hc with q | q
        · exact ⟨x.1, List.mem_cons_self, q ▸ e⟩
        · obtain ⟨s, hs, hq⟩ := i1 c q
          exact ⟨s, List.mem_cons_of_mem _ hs, hq⟩
      · rw [List.map_cons, List.map_cons, i2, kOf_at e]
/-- the nests of a dict, sorted -/
theorem sorted_keys {H : Hp} {L : Held} (hn : (L.map (·.1)).Nodup) {bs : List Addr} (hb : IsKeys H (hk L) bs) {ys : List V} (h1 : SrtO.Srtd (ltP (kOf H)) ys) (h2 : SrtO.Stb (ltP (kOf H)) ys (bs.map V.ref)) :
    ∃ M : List (Addr × Seat), ys = refs M ∧ TupsAt H M ∧ (M.map (·.2)).Pairwise LtS ∧ ∀ s, s ∈ M.map (·.2) ↔ s ∈ L.map (·.1) := by
  obtain ⟨i1, i2⟩ := keys_tup hb
  have hall : ∀ y ∈ ys, ∃ b ∈ bs, y = V.ref b := fun y hy => by
    obtain ⟨b, hb, e⟩ := List.mem_map.mp (h2.perm.mem_iff.mp hy)
    exact ⟨b, hb, e.symm⟩
  have key : ∀ zs : List V, (∀ y ∈ zs, ∃ b ∈ bs, y = V.ref b) → ∃ M : List (Addr × Seat), zs = refs M ∧ TupsAt H M ∧ M.map (·.2) = zs.map (kOf H) := by
    intro zs
    induction zs with
    | nil => intro _; exact ⟨[], rfl, fun _ h => (by cases h), rfl⟩
    | cons y r ih =>
      intro h
      obtain ⟨M, e1, e2, e3⟩ := ih fun z hz => h z (List.mem_cons_of_mem _ hz)
      obtain ⟨b, hb, rfl⟩ := h y List.mem_cons_self
      obtain ⟨s, _, hs⟩ := i1 b hb
      refine ⟨(b, s) :: M, by rw [e1]; rfl, fun p hp => ?_, by rw [List.map_cons, List.map_cons, e3, kOf_at hs]⟩
      rcases List.mem_cons.mp hp with q | q
      · rw [q]
        exact hs
      · exact e2 p q
  obtain ⟨M, e1, e2, e3⟩ := key ys hall
  have hp : (M.map (·.2)).Perm (L.map (·.1)) := by
    rw [e3, ← i2]
    have q := h2.perm.map (kOf H)
    rwa [List.map_map] at q
  refine ⟨M, e1, e2, ?_, fun s => hp.mem_iff⟩
  have hnd : (ys.map (kOf H)).Nodup := by
    rw [← e3]
    exact hp.nodup_iff.mpr hn
  rw [e3]
  refine List.pairwise_map.mpr (List.Pairwise.imp ?_ (h1.and (List.pairwise_map.mp hnd)))
  rintro x y ⟨a, b⟩
  have a' := SrtO.lexB_no.mp a
  unfold LtS
  rcases Int.lt_trichotomy (kOf H x).1 (kOf H y).1 with q | q | q
  · exact .inl q
  · rcases Int.lt_trichotomy (kOf H x).2 (kOf H y).2 with p | p | p
    · exact .inr ⟨q, p⟩
    · exact (b (Prod.ext q p)).elim
    · exact (a' (.inr ⟨q.symm, p⟩)).elim
  · exact (a' (.inl q)).elim
/-- who stands in a nest -/
def whoN (L : Held) (s : Seat) : Name := (getN L s).getD []
def vNames (L : Held) (S : List Seat) : List V := S.map fun s => V.str (tx (whoN L s))
theorem who_of {L : Held} {s : Seat} {n : Name} (h : getN L s = some n) : whoN L s = n := by
  unfold whoN
  rw [h]
  rfl
theorem alph_lt : ∀ c ∈ alph, c < 0x110000 := by decide +kernel
theorem strOk_name {n : Name} (h : ∀ c ∈ n, c ∈ alph) : (PyData.str (tx n)).canLay0 = true := by
  unfold PyData.canLay0
  show (tx n).cps.all (fun c => decide (c < 0x110000)) = true
  rw [Array.all_eq_true]
  intro i hi
  refine decide_eq_true (alph_lt _ (h _ ?_))
  have e : (tx n).cps[i] ∈ (tx n).cps := Array.getElem_mem hi
  simpa using e
/-- lists of texts, as they are compared -/
def dNs (ns : List Name) : List PyData := ns.map fun n => PyData.str (tx n)
theorem dp_names {K : PySem.W.Frag} {H : Hp} {l : Addr} {ns : List Name} (h : SqL K H l (ns.map fun n => V.str (tx n))) : Dp K H (.ref l) (.list (dNs ns)) := by
  refine .lst h ?_
  have key : ∀ M : List Name, DpAll K H (M.map fun n => V.str (tx n)) (dNs M) := by
    intro M
    induction M with
    | nil => exact .nil
    | cons p r ih => exact .cons (.str _) ih
  exact key ns
theorem shaped_names {ns : List Name} (hs : ∀ n ∈ ns, ∀ c ∈ n, c ∈ alph) : SeqAt.shaped (.list (dNs ns)) = true := by
  have h1 : ∀ M : List Name, (∀ n ∈ M, ∀ c ∈ n, c ∈ alph) → PyData.canLayAll0 (dNs M) = true := by
    intro M
    induction M with
    | nil => intro _; rfl
    | cons p r ih =>
      intro hM
      show PyData.canLayAll0 (PyData.str (tx p) :: dNs r) = true
      unfold PyData.canLayAll0
      rw [ih fun n hn => hM n (List.mem_cons_of_mem _ hn), Bool.and_true]
      exact strOk_name (hM p List.mem_cons_self)
  have h2 : ∀ M : List Name, PyData.depthAll (dNs M) = 0 := by
    intro M
    induction M with
    | nil => rfl
    | cons p r ih =>
      show PyData.depthAll (PyData.str (tx p) :: dNs r) = 0
      unfold PyData.depthAll
      rw [ih]
      rfl
  unfold SeqAt.shaped
  rw [Bool.and_eq_true, decide_eq_true_eq]
  refine ⟨h1 ns hs, ?_⟩
  unfold PyData.depth
  rw [h2]
  decide
end TB

/-! a table, whatever it is made of: what its callers may lean on -/
namespace TB
open PySem L2 Ck TS2 TX
/-- things that stand in their homes -/
structure GoodT (c t1 t2 : Int) (L : Held) : Prop where
  ns : (L.map (·.1)).Nodup
  nn : (L.map (·.2)).Nodup
  ok : ∀ x ∈ L, NameOk x.2
  home : ∀ x ∈ L, x.1 = seatP (hmN c t1 t2 x.2) 0 ∨ x.1 = seatP (hmN c t1 t2 x.2) 1
  c0 : 1 ≤ c
  c1 : c ≤ 1000
  a0 : 1 ≤ t1
  a1 : t1 ≤ 1000000
  b0 : 1 ≤ t2
  b1 : t2 ≤ 1000000
theorem GoodT.nil {c t1 t2 : Int} (c0 : 1 ≤ c) (c1 : c ≤ 1000) (a0 : 1 ≤ t1) (a1 : t1 ≤ 1000000) (b0 : 1 ≤ t2) (b1 : t2 ≤ 1000000) : GoodT c t1 t2 [] :=
  ⟨List.nodup_nil, List.nodup_nil, fun _ h => (by cases h), fun _ h => (by cases h), c0, c1, a0, a1, b0, b1⟩
theorem GoodT.add {c t1 t2 : Int} {L : Held} (g : GoodT c t1 t2 L) {s : Seat} {n : Name} (hs : getN L s = none) (hn : n ∉ L.map (·.2)) (ho : NameOk n) (hh : s = seatP (hmN c t1 t2 n) 0 ∨ s = seatP (hmN c t1 t2 n) 1) : GoodT c t1 t2 (L ++ [(s, n)]) := by
  have h1 := getN_none.mp hs
  refine ⟨?_, ?_, fun x hx => ?_, fun x hx => ?_, g.c0, g.c1, g.a0, g.a1, g.b0, g.b1⟩
  · rw [List.map_append, List.nodup_append]
    refine ⟨g.ns, by simp, fun a ha b hb => ?_⟩
    have hb2 : b = s := by simpa using hb
    rw [hb2]
    intro e
    exact h1 (e ▸ ha)
  · rw [List.map_append, List.nodup_append]
    refine ⟨g.nn, by simp, fun a ha b hb => ?_⟩
    have hb2 : b = n := by simpa using hb
    rw [hb2]
    intro e
    exact hn (e ▸ ha)
  · rcases List.mem_append.mp hx with q | q
    · exact g.ok x q
    · rw [List.mem_singleton.mp q]
      exact ho
  · rcases List.mem_append.mp hx with q | q
    · exact g.home x q
    · rw [List.mem_singleton.mp q]
      exact hh
theorem GoodT.row {c t1 t2 : Int} {L : Held} (g : GoodT c t1 t2 L) : ∀ x ∈ L, x.1.1 = 0 ∨ x.1.1 = 1 := fun x hx => by
  rcases g.home x hx with e | e <;> rw [e]
  · exact .inl rfl
  · exact .inr rfl
/-- a nest of the table -/
def InT (c : Int) (s : Seat) : Prop := (s.1 = 0 ∨ s.1 = 1) ∧ 0 ≤ s.2 ∧ s.2 < c
theorem home_in {c t1 t2 : Int} (hc : 1 ≤ c) (n : Name) {r : Int} (hr : r = 0 ∨ r = 1) : InT c (seatP (hmN c t1 t2 n) r) := by
  obtain ⟨⟨a, b⟩, d, e⟩ := hmN_in (t1 := t1) (t2 := t2) (show 0 < c by omega) n
  rcases hr with rfl | rfl
  · exact ⟨.inl rfl, a, b⟩
  · exact ⟨.inr rfl, d, e⟩
theorem GoodT.inT {c t1 t2 : Int} {L : Held} (g : GoodT c t1 t2 L) : ∀ x ∈ L, InT c x.1 := fun x hx => by
  rcases g.home x hx with e | e <;> rw [e]
  · exact home_in g.c0 _ (.inl rfl)
  · exact home_in g.c0 _ (.inr rfl)
theorem GoodT.inj {c t1 t2 : Int} {L : Held} (g : GoodT c t1 t2 L) {s t : Seat} {n : Name} (h1 : getN L s = some n) (h2 : getN L t = some n) : s = t := by
  have a := getN_mem h1
  have b := getN_mem h2
  have key : ∀ M : Held, (M.map (·.2)).Nodup → (s, n) ∈ M → (t, n) ∈ M → s = t := by
    intro M
    induction M with
    | nil => intro _ h; cases h
    | cons x M ih =>
      intro hn h3 h4
      rw [List.map_cons, List.nodup_cons] at hn
      rcases List.mem_cons.mp h3 with e3 | e3
      · rcases List.mem_cons.mp h4 with e4 | e4
        · exact congrArg Prod.fst (e3.trans e4.symm)
        · exact (hn.1 (List.mem_map.mpr ⟨_, e4, by rw [← e3]⟩)).elim
      · rcases List.mem_cons.mp h4 with e4 | e4
        · exact (hn.1 (List.mem_map.mpr ⟨_, e3, by rw [← e4]⟩)).elim
        · exact ih hn.2 e3 e4
  exact key L g.nn a b
theorem GoodT.nestKey {c t1 t2 : Int} {L : Held} (g : GoodT c t1 t2 L) : ∀ k ∈ (hk L).map (·.1), TS6.NestKey k := fun k hk' => by
  rw [hk_keys] at hk'
  obtain ⟨s, hs, rfl⟩ := List.mem_map.mp hk'
  obtain ⟨x, hx, rfl⟩ := List.mem_map.mp hs
  obtain ⟨h1, h2, h3⟩ := g.inT x hx
  have := g.c1
  exact ⟨x.1.1, x.1.2, rfl, h1, h2, by omega⟩
/-- all but the objects of F stand -/
def KeepF (F : List Addr) (H H' : Hp) : Prop := ∀ b o, b ∉ F → H b = some o → H' b = some o
theorem KeepF.of {F : List Addr} {H H' : Hp} (e : Same H H') : KeepF F H H' := fun b o _ h => e b o h
theorem KeepF.trans {F G : List Addr} {H H1 H2 : Hp} (e : KeepF F H H1) (e2 : KeepF G H1 H2) (hG : ∀ b ∈ G, b ∈ F ∨ H b = none) : KeepF F H H2 := fun b o hb h =>
  e2 b o (fun q => by
    rcases hG b q with z | z
    · exact hb z
    · rw [h] at z; cases z) (e b o hb h)
/-- what a law looks up of a list of lists of nests -/
def WaysAt (H : Hp) (l : Addr) (ps : List (Addr × List Seat)) : Prop := H l = some (.lst (ps.map fun p => V.ref p.1)) ∧ ∀ p ∈ ps, ∃ M : List (Addr × Seat), H p.1 = some (.lst (refs M)) ∧ TupsAt H M ∧ M.map (·.2) = p.2
theorem WaysAt.keep {H H' : Hp} {l : Addr} {ps : List (Addr × List Seat)} (h : WaysAt H l ps) (h1 : H' l = H l) (h2 : ∀ p ∈ ps, H' p.1 = H p.1) (h3 : ∀ b ys, H b = some (.tup ys) → H' b = some (.tup ys)) : WaysAt H' l ps := by
  refine ⟨h1.trans h.1, fun p hp => ?_⟩
  obtain ⟨M, e1, e2, e3⟩ := h.2 p hp
  exact ⟨M, (h2 p hp).trans e1, fun q hq => h3 _ _ (e2 q hq), e3⟩
def dWs (ws : List (List Seat)) : List PyData := ws.map fun w => PyData.list (dSs w)
theorem dp_ways {K : PySem.W.Frag} {H : Hp} {l : Addr} {ps : List (Addr × List Seat)} (h : WaysAt H l ps) : Dp K H (.ref l) (.list (dWs (ps.map (·.2)))) := by
  refine .lst (SqL.of h.1) ?_
  have key : ∀ M : List (Addr × List Seat), (∀ p ∈ M, ∃ N : List (Addr × Seat), H p.1 = some (.lst (refs N)) ∧ TupsAt H N ∧ N.map (·.2) = p.2) → DpAll K H (M.map fun p => V.ref p.1) (dWs (M.map (·.2))) := by
    intro M
    induction M with
    | nil => intro _; exact .nil
    | cons p r ih =>
      intro hM
      obtain ⟨N, e1, e2, e3⟩ := hM p List.mem_cons_self
      refine .cons ?_ (ih fun q hq => hM q (List.mem_cons_of_mem _ hq))
      show Dp K H (V.ref p.1) (PyData.list (dSs p.2))
      rw [← e3]
      exact dp_seats (SqL.of e1) e2
  exact key ps h.2
theorem shaped_ways (ws : List (List Seat)) : SeqAt.shaped (.list (dWs ws)) = true := by
  have h1 : ∀ M : List (List Seat), PyData.canLayAll0 (dWs M) = true := by
    intro M
    induction M with
    | nil => rfl
    | cons p r ih =>
      show PyData.canLayAll0 (PyData.list (dSs p) :: dWs r) = true
      unfold PyData.canLayAll0
      rw [ih, Bool.and_true]
      exact dS_lay p
  have h2 : ∀ M : List (List Seat), PyData.depthAll (dWs M) ≤ 2 := by
    intro M
    induction M with
    | nil => exact Nat.zero_le _
    | cons p r ih =>
      show PyData.depthAll (PyData.list (dSs p) :: dWs r) ≤ 2
      unfold PyData.depthAll
      have e : PyData.depth (PyData.list (dSs p)) ≤ 2 := by
        unfold PyData.depth
        have := dS_depth p
        omega
      omega
  unfold SeqAt.shaped
  rw [Bool.and_eq_true, decide_eq_true_eq]
  refine ⟨h1 ws, ?_⟩
  have := h2 ws
  unfold PyData.depth
  omega
theorem eqv_shaped {d : PyData} (h : SeqAt.shaped d = true) : PyData.eqv d d = true := SeqAt.eqv_refl d (SeqAt.canLay_of_shaped h)
end TB

/-! what the laws over tables look up again and again -/
namespace TB
open PySem L2 Ck TS2 TX
theorem cut_ints (ns : List Int) (i j : Nat) : ∃ ms : List Int, cutV (ns.map V.int) (some (i : Int)) (some (j : Int)) = ms.map V.int ∧ ms.length ≤ j - i := by
  unfold cutV
  rw [HT.sIx_nat, HT.sIx_nat, List.length_map]
  refine ⟨(ns.drop (min i ns.length)).take (min j ns.length - min i ns.length), by rw [List.map_take, List.map_drop], ?_⟩
  rw [List.length_take]
  omega
theorem inV_names (n : Name) (ms : List Name) : inV (.str (tx n)) (ms.map fun m => V.str (tx m)) = decide (n ∈ ms) := by
  unfold inV
  induction ms with
  | nil => rfl
  | cons m r ih =>
    rw [List.map_cons, List.any_cons, ih]
    have e : eqV (V.str (tx m)) (V.str (tx n)) = decide (n = m) := by
      by_cases h : n = m
      · subst h
        simp [eqV]
      · have h2 : ¬ tx m = tx n := fun q => h (tx_inj q).symm
        simp [eqV, h, h2]
    rw [e]
    by_cases h : n = m
    · simp [h]
    · by_cases h2 : n ∈ r <;> simp [h, h2]
theorem flat_names (ms : List Name) : (ms.map fun m => V.str (tx m)).all flatV = true := by
  rw [List.all_eq_true]
  intro x hx
  obtain ⟨m, _, rfl⟩ := List.mem_map.mp hx
  rfl
/-- a name drawn by a number -/
theorem name_at {ns : List Name} {x : Int} {k : Int} (hk : (ns.length : Int) = k) (h0 : 0 < k) : ∃ n ∈ ns, atI (ns.map fun n => V.str (tx n)) (x % k) = some (.str (tx n)) := by
  have h1 : 0 ≤ x % k := Int.emod_nonneg _ (by omega)
  have h2 : x % k < k := Int.emod_lt_of_pos _ h0
  obtain ⟨j, e⟩ : ∃ j : Nat, x % k = (j : Int) := ⟨(x % k).toNat, by omega⟩
  have h3 : j < ns.length := by omega
  refine ⟨ns[j], List.getElem_mem h3, ?_⟩
  rw [e]
  refine atI_nat ?_
  rw [List.getElem?_map, List.getElem?_eq_getElem h3]
  rfl
/-- one of two, by a number -/
theorem two_of (u v : V) (x : Int) : (x % 2 = 0 ∧ atI [u, v] (x % 2) = some u) ∨ (x % 2 = 1 ∧ atI [u, v] (x % 2) = some v) := by
  rcases (show x % 2 = 0 ∨ x % 2 = 1 by omega) with e | e <;> rw [e]
  · exact .inl ⟨rfl, atI_nat (j := 0) rfl⟩
  · exact .inr ⟨rfl, atI_nat (j := 1) rfl⟩
/-- a home of a name, drawn -/
theorem home_at {H : Hp} {hd : Addr} {ns : List Name} {hm : Name → Int × Int} (h : HomesAt H hd ns hm) {n : Name} (hn : n ∈ ns) : ∃ th qa qb, DGet H hd (.str (tx n)) (some (.ref th)) ∧ H th = some (.tup [.ref qa, .ref qb]) ∧ H qa = some (.tup (sv (seatP (hm n) 0))) ∧ H qb = some (.tup (sv (seatP (hm n) 1))) := by
  obtain ⟨kvs, h1, h2⟩ := h
  obtain ⟨t, a, b, e1, e2, e3, e4⟩ := h2 n hn
  exact ⟨t, a, b, e1 ▸ DGet.k (k := Sum.inr (tx n)) h1, e2, e3, e4⟩
theorem getN_is {L : Held} {s : Seat} (h : s ∈ L.map (·.1)) : ∃ n, getN L s = some n := by
  cases e : getN L s with
  | none => exact (getN_none.mp e h).elim
  | some n => exact ⟨n, rfl⟩
theorem vNames_eq (L : Held) (S : List Seat) : vNames L S = (S.map (whoN L)).map fun n => V.str (tx n) := by
  unfold vNames
  rw [List.map_map]
  rfl
theorem vNames_al {c t1 t2 : Int} {L : Held} (g : GoodT c t1 t2 L) {S : List Seat} (h : ∀ s, s ∈ S → s ∈ L.map (·.1)) : ∀ n ∈ S.map (whoN L), ∀ c ∈ n, c ∈ alph := fun n hn => by
  obtain ⟨s, hs, rfl⟩ := List.mem_map.mp hn
  obtain ⟨n1, e⟩ := getN_is (h s hs)
  rw [who_of e]
  exact (g.ok _ (getN_mem e)).al
theorem WaysAt.same {H H' : Hp} {l : Addr} {ps : List (Addr × List Seat)} (h : WaysAt H l ps) (e : Same H H') : WaysAt H' l ps := by
  refine ⟨e _ _ h.1, fun p hp => ?_⟩
  obtain ⟨M, e1, e2, e3⟩ := h.2 p hp
  exact ⟨M, e _ _ e1, e2.same e, e3⟩
end TB

/-! putting: what stands where behind it -/
namespace TB
open PySem L2 Ck TS2 TX
section
variable {hm : Name → Int × Int} {L L' : Held} {n m : Name} {s0 s : Seat} {W : List Seat}
/-- who stands where behind a put along W -/
theorem shift_iff (hL : ∀ s, getN L' s = shiftF (getN L) W (some n) s) (ch : Chain (nxN hm (getN L)) s0 W) : getN L' s = some m ↔ (s = s0 ∧ m = n) ∨ (s ∉ W ∧ getN L s = some m) ∨ ∃ t x, W[t]? = some x ∧ W[t + 1]? = some s ∧ getN L x = some m := by
  rw [hL]
  obtain ⟨v, r, rfl⟩ : ∃ v r, W = v :: r := by
    cases W with
    | nil => exact absurd rfl ch.ne
    | cons v r => exact ⟨v, r, rfl⟩
  have ev : v = s0 := Option.some.inj ch.head
  subst ev
  constructor
  · intro h
    by_cases h1 : s ∈ v :: r
    · obtain ⟨t, ht, e⟩ := List.getElem_of_mem h1
      cases t with
      | zero =>
        have e' : v = s := e
        subst e'
        rw [shiftF_head] at h
        exact .inl ⟨rfl, (Option.some.inj h).symm⟩
      | succ t =>
        have e1 : (v :: r)[t + 1]? = some s := by rw [List.getElem?_eq_getElem ht, e]
        have e2 : (v :: r)[t]? = some (v :: r)[t] := List.getElem?_eq_getElem (by omega)
        rw [shiftF_succ _ _ _ ch.nd t _ _ e2 e1] at h
        exact .inr (.inr ⟨t, _, e2, e1, h⟩)
    · rw [shiftF_out _ _ _ _ h1] at h
      exact .inr (.inl ⟨h1, h⟩)
  · rintro (⟨rfl, rfl⟩ | ⟨h1, h⟩ | ⟨t, x, e1, e2, h⟩)
    · exact shiftF_head ..
    · rw [shiftF_out _ _ _ _ h1]
      exact h
    · rw [shiftF_succ _ _ _ ch.nd t _ _ e1 e2]
      exact h
theorem mem_names (hn : (L.map (·.1)).Nodup) : m ∈ L.map (·.2) ↔ ∃ s, getN L s = some m := by
  constructor
  · intro h
    obtain ⟨x, hx, rfl⟩ := List.mem_map.mp h
    exact ⟨x.1, getN_of_mem hn hx⟩
  · rintro ⟨s, h⟩
    exact List.mem_map.mpr ⟨_, getN_mem h, rfl⟩
theorem shift_names (hL : ∀ s, getN L' s = shiftF (getN L) W (some n) s) (ch : Chain (nxN hm (getN L)) s0 W) (free : ∀ z, W.getLast? = some z → getN L z = none) (h1 : (L.map (·.1)).Nodup) (h2 : (L'.map (·.1)).Nodup) : m ∈ L'.map (·.2) ↔ m = n ∨ m ∈ L.map (·.2) := by
  rw [mem_names h1, mem_names h2]
  constructor
  · rintro ⟨s, h⟩
    rcases (shift_iff hL ch).mp h with ⟨_, e⟩ | ⟨_, e⟩ | ⟨t, x, _, _, e⟩
    · exact .inl e
    · exact .inr ⟨s, e⟩
    · exact .inr ⟨x, e⟩
  · rintro (e | ⟨s, h⟩)
    · exact ⟨s0, (shift_iff hL ch).mpr (.inl ⟨rfl, e⟩)⟩
    · by_cases hs : s ∈ W
      · obtain ⟨t, ht, e⟩ := List.getElem_of_mem hs
        have e1 : W[t]? = some s := by rw [List.getElem?_eq_getElem ht, e]
        by_cases hl : t + 1 < W.length
        · exact ⟨W[t + 1], (shift_iff hL ch).mpr (.inr (.inr ⟨t, s, e1, List.getElem?_eq_getElem hl, h⟩))⟩
        · have e2 : W.getLast? = some s := by
            rw [List.getLast?_eq_getElem?]
            have : W.length - 1 = t := by omega
            rw [this, e1]
          rw [free s e2] at h
          cases h
      · exact ⟨s, (shift_iff hL ch).mpr (.inr (.inl ⟨hs, h⟩))⟩
theorem nodup_snd (hn : (L.map (·.1)).Nodup) (inj : ∀ s t n, getN L s = some n → getN L t = some n → s = t) : (L.map (·.2)).Nodup := by
  have key : ∀ M : Held, (M.map (·.1)).Nodup → (∀ x ∈ M, ∀ y ∈ M, x.2 = y.2 → x.1 = y.1) → (M.map (·.2)).Nodup := by
    intro M
    induction M with
    | nil => intro _ _; exact List.nodup_nil
    | cons x M ih =>
      intro h1 h2
      rw [List.map_cons, List.nodup_cons] at h1 ⊢
      refine ⟨fun q => ?_, ih h1.2 fun a ha b hb => h2 a (List.mem_cons_of_mem _ ha) b (List.mem_cons_of_mem _ hb)⟩
      obtain ⟨y, hy, e⟩ := List.mem_map.mp q
      exact h1.1 (List.mem_map.mpr ⟨y, hy, (h2 x List.mem_cons_self y (List.mem_cons_of_mem _ hy) e.symm).symm⟩)
  refine key L hn fun x hx y hy e => ?_
  refine inj x.1 y.1 x.2 (getN_of_mem hn hx) ?_
  rw [e]
  exact getN_of_mem hn hy
end
/-- a table behind a put -/
theorem GoodT.shift {c t1 t2 : Int} {L L' : Held} {n : Name} {s0 : Seat} {W : List Seat} (g : GoodT c t1 t2 L) (hn : n ∉ L.map (·.2)) (ho : NameOk n) (hh : s0 = seatP (hmN c t1 t2 n) 0 ∨ s0 = seatP (hmN c t1 t2 n) 1) (ch : Chain (nxN (hmN c t1 t2) (getN L)) s0 W)
    (hL : ∀ s, getN L' s = shiftF (getN L) W (some n) s) (hk : (L'.map (·.1)).Nodup) : GoodT c t1 t2 L' := by
  have at_ : ∀ x ∈ L', _ := fun x hx => (shift_iff hL ch).mp (getN_of_mem hk hx)
  have nin : ∀ s, getN L s ≠ some n := fun s e => hn ((mem_names g.ns).mpr ⟨s, e⟩)
  refine ⟨hk, nodup_snd hk fun s t m h1 h2 => ?_, fun x hx => ?_, fun x hx => ?_, g.c0, g.c1, g.a0, g.a1, g.b0, g.b1⟩
  · rcases (shift_iff hL ch).mp h1 with ⟨e1, e2⟩ | ⟨e1, e2⟩ | ⟨u, x, e1, e2, e3⟩
    · rcases (shift_iff hL ch).mp h2 with ⟨d1, d2⟩ | ⟨d1, d2⟩ | ⟨v, y, d1, d2, d3⟩
      · rw [e1, d1]
      · rw [e2] at d2
        exact (nin _ d2).elim
      · rw [e2] at d3
        exact (nin _ d3).elim
    · rcases (shift_iff hL ch).mp h2 with ⟨d1, d2⟩ | ⟨d1, d2⟩ | ⟨v, y, d1, d2, d3⟩
      · rw [d2] at e2
        exact (nin _ e2).elim
      · exact g.inj e2 d2
      · have q := g.inj e2 d3
        rw [q] at e1
        exact (e1 (List.mem_of_getElem? d1)).elim
    · rcases (shift_iff hL ch).mp h2 with ⟨d1, d2⟩ | ⟨d1, d2⟩ | ⟨v, y, d1, d2, d3⟩
      · rw [d2] at e3
        exact (nin _ e3).elim
      · have q := g.inj e3 d2
        rw [← q] at d1
        exact (d1 (List.mem_of_getElem? e1)).elim
      · have q := g.inj e3 d3
        rw [← q] at d1
        have hu := List.getElem?_eq_some_iff.mp e1
        have hv := List.getElem?_eq_some_iff.mp d1
        obtain ⟨hu1, hu2⟩ := hu
        obtain ⟨hv1, hv2⟩ := hv
        have := (List.getElem_inj ch.nd (h₀ := hu1) (h₁ := hv1)).mp (hu2.trans hv2.symm)
        subst this
        rw [e2] at d2
        exact Option.some.inj d2
  · rcases at_ x hx with ⟨_, e⟩ | ⟨_, e⟩ | ⟨u, y, _, _, e⟩
    · rw [e]
      exact ho
    · exact g.ok _ (getN_mem e)
    · exact g.ok (y, x.2) (getN_mem e)
  · rcases at_ x hx with ⟨e, e2⟩ | ⟨_, e⟩ | ⟨u, y, e1, e2, e⟩
    · rw [e, e2]
      exact hh
    · exact g.home _ (getN_mem e)
    · have h1 := ch.step u y x.1 e1 e2
      have h2 : nxN (hmN c t1 t2) (getN L) y = some (seatP (hmN c t1 t2 x.2) (1 - y.1)) := by unfold nxN; rw [e]; rfl
      rw [h2] at h1
      have h3 := Option.some.inj h1
      rcases g.home (y, x.2) (getN_mem e) with q | q
      · refine .inr ?_
        rw [← h3]
        have : y.1 = 0 := by rw [show y = seatP (hmN c t1 t2 x.2) 0 from q]; rfl
        rw [this]
        rfl
      · refine .inl ?_
        rw [← h3]
        have : y.1 = 1 := by rw [show y = seatP (hmN c t1 t2 x.2) 1 from q]; rfl
        rw [this]
        rfl
/-- every way is there -/
theorem way_is {hm : Name → Int × Int} (L : Held) (s : Seat) : ∃ W, IsWay (nxN hm (getN L)) s W := by
  have key : ∀ k : Nat, ∀ W, Chain (nxN hm (getN L)) s W → L.length + 2 ≤ k + W.length → ∃ W, IsWay (nxN hm (getN L)) s W := by
    intro k
    induction k with
    | zero =>
      intro W c h
      have := way_len c
      omega
    | succ k ih =>
      intro W c h
      obtain ⟨x, hx⟩ : ∃ x, W.getLast? = some x := by
        cases W with
        | nil => exact absurd rfl c.ne
        | cons p r => exact ⟨_, List.getLast?_eq_some_getLast (List.cons_ne_nil p r)⟩
      cases e : nxN hm (getN L) x with
      | none => exact ⟨W, c, fun a b ha hb => by rw [hx] at ha; cases ha; rw [e] at hb; cases hb⟩
      | some y =>
        by_cases hy : y ∈ W
        · exact ⟨W, c, fun a b ha hb => by rw [hx] at ha; cases ha; rw [e] at hb; cases hb; exact hy⟩
        · exact ih (W ++ [y]) (c.more hx e hy) (by rw [List.length_append, List.length_singleton]; omega)
  exact key (L.length + 2) [s] (Chain.one _ _) (by rw [List.length_singleton]; omega)
/-- the end of a way: free, or the next one stands in it already -/
def openW (L : Held) (W : List Seat) : Prop := ∀ z, W.getLast? = some z → getN L z = none
/-- which way is taken -/
def Taken (L : Held) (A B W : List Seat) : Prop := (W = A ∧ openW L A ∧ (openW L B → A.length ≤ B.length)) ∨ (W = B ∧ openW L B ∧ (openW L A → B.length < A.length))
end TB

/-! methods that may raise, called in a try: what is raised is wished for at the caller's slots -/
namespace TB
open PySem PySem.Spec PyProof.Rows L2
section
variable {X : Cx} {CX : CXT} {k : Nat} {g C : Addr} {fd : FuncData} {ps : List Str} {sp : Sp} {W : L2.St → XK} {x m : Str} {p pos apos : Pos} {e o : Expr} {es : List Expr} {ta : TE} {t : TA}
/-- a callee that raises nothing this time -/
theorem passF : Passes (L2.CX X.prog X.w) X E0 := fun _ _ _ _ _ _ _ ⟨_, _, _, _, _, _, _, _, _, _, _, _, z⟩ => z.elim
def tMethSD (m : Str) (C : Addr) (sp : Sp) (W : L2.St → XK) (ta : TE) (t : TA) : TE := fun σ H Q => ta σ H fun x H1 => ∃ a dx fs, x = .ref a ∧ H1 a = some (.ins C dx fs) ∧ fs.lookup m = none ∧ t σ H1 fun vs H2 => sp (x :: (vs ++ [])) H2 Q (W σ)
theorem pe_methSD {pl : Sem Bool} (he : PE X o ta) (c : Cls X.K C) (hm : Meth X.K C m g) (F : FnOk X.prog X.w X.K X.mg X.base CX k g fd ps sp) (hr : Room k X.A) (hb : Binds X.K fd ps []) (hx : ∀ σ, PassesAt CX X σ (W σ)) (ha : PA X (e :: es) t)
    (hst : starEach (e :: es) X.env = (false, eval e X.env) :: starEach es X.env := by rfl) (hpl : (backTo pos (starEach es X.env)).any (·.1) = false := by rfl)
    (ht : eval (.Call (.Attribute o m apos) (e :: es) [] pos) X.env = (do let w1 ← eval o X.env; standAt apos.atName; let (w2, w3) ← holding [w1] (getMethod w1 m pl); callWith pos w2 w3 (backTo pos (starEach (e :: es) X.env)) (backToKw pos (keywordEach [] X.env))) := by rfl) :
    PE X (.Call (.Attribute o m apos) (e :: es) [] pos) (tMethSD m C sp W ta t) := by
  refine ⟨fun pins s σ H Q I h => PySem.W.methodCall_KW (pl := pl) (thn (he.run pins s σ H _ I h) fun u s1 ⟨x, H1, I1, rx, a, dx, fs, ex, ea, l, q⟩ => ?_) ht⟩
  subst ex
  obtain rfl : u = Value.ref a := rx
  refine getmeth_ok I1 ea c hm l (PySem.W.callWith_K (first := [.ref a]) (h₀ := X.base) I1.ok.mod.kin hm.kp (thn (ha.run pos pins s1 σ H1 _ I1 q) fun us s2 ⟨vs, H2, I2, r, q2⟩ => ⟨I2.kIn, ?_⟩) hst hpl)
  exact run_fnSD (us := .ref a :: us) (vs := .ref a :: vs) F hr hb .nil (hx σ) I2 (.cons rfl r) q2
theorem pe_methSD0 {pl : Sem Bool} (he : PE X o ta) (c : Cls X.K C) (hm : Meth X.K C m g) (F : FnOk X.prog X.w X.K X.mg X.base CX k g fd ps sp) (hr : Room k X.A) (hb : Binds X.K fd ps []) (hx : ∀ σ, PassesAt CX X σ (W σ))
    (ht : eval (.Call (.Attribute o m apos) [] [] pos) X.env = (do let w1 ← eval o X.env; standAt apos.atName; let (w2, w3) ← holding [w1] (getMethod w1 m pl); callWith pos w2 w3 (backTo pos (starEach [] X.env)) (backToKw pos (keywordEach [] X.env))) := by rfl) :
    PE X (.Call (.Attribute o m apos) [] [] pos) (tMethSD m C sp W ta tNil) := by
  refine ⟨fun pins s σ H Q I h => PySem.W.methodCall_KW (pl := pl) (thn (he.run pins s σ H _ I h) fun u s1 ⟨x, H1, I1, rx, a, dx, fs, ex, ea, l, q⟩ => ?_) ht⟩
  subst ex
  obtain rfl : u = Value.ref a := rx
  exact getmeth_ok I1 ea c hm l (PySem.W.callWith_K0 (first := [.ref a]) I1.kIn hm.kp (run_fnSD (us := [.ref a]) (vs := [.ref a]) F hr hb .nil (hx σ) I1 (.cons rfl .nil) q))
/-- C(e, ..) whose __init__ may raise -/
def tMakeSD (C : Addr) (sp : Sp) (W : L2.St → XK) (t : TA) : TE := fun σ H Q => t σ H fun vs H1 => ∀ x dx, H1 x = none → H1 dx = none → dx ≠ x → sp (.ref x :: (vs ++ [])) (upd (upd H1 dx (.own x)) x (.ins C dx [])) (fun v H2 => v = .non ∧ Q (.ref x) H2) (W σ)
theorem pe_makeSD (M : Mk X.K C g) (F : FnOk X.prog X.w X.K X.mg X.base CX k g fd ps sp) (hr : Room (k + 1) X.A) (hg : Gl X x) (hm : X.mg x = some (.ref C)) (hb : Binds X.K fd ps []) (hx : ∀ σ, PassesAt CX X σ (W σ)) (ha : PA X (e :: es) t)
    (hdb : (x == ("__debug__" : Str)) = false := by decide) (hst : starEach (e :: es) X.env = (false, eval e X.env) :: starEach es X.env := by rfl) (hpl : (backTo pos (starEach es X.env)).any (·.1) = false := by rfl) :
    PE X (.Call (.Name x p) (e :: es) [] pos) (tMakeSD C sp W t) := by
  refine ⟨fun pins s σ H Q I h => wpAny_Call_Name_kw (ld_glob I hg hm (PySem.W.callWith_K (h₀ := X.base) I.ok.mod.kin M.kp (thn (ha.run pos pins s σ H _ I h) fun us s1 ⟨vs, H1, I1, r, q⟩ => ⟨I1.kIn, ?_⟩) hst hpl) hdb)⟩
  have hq := q (s1.heap.objs.size + 1) s1.heap.objs.size (I1.hok.fresh (Nat.le_succ _)) (I1.hok.fresh (Nat.le_refl _)) (Nat.ne_of_lt (Nat.lt_succ_self _))
  have I2 := Inv.made (C := C) I1
  have r2 : Vals (V.ref (s1.heap.objs.size + 1) :: (vs ++ [])) (Value.ref (s1.heap.objs.size + 1) :: (us ++ [])) := .cons rfl (r.append .nil)
  have hl : (Value.ref (s1.heap.objs.size + 1) :: us ++ []).length = ps.length := by
    have z := r2.length
    rw [F.len _ _ _ _ hq] at z
    exact z.symm
  have hb2 := hb _ (Value.ref (s1.heap.objs.size + 1) :: us) I2.kIn hl
  rw [List.cons_append] at hb2
  refine wpAny_call (make_map (f := g) I1.kIn M.makes M.init (beq_iff_eq.mp M.fn) (codeAny_mono (F.run _ X.stack _ _ ⟨Value.ref (s1.heap.objs.size + 1) :: us, []⟩ (Value.ref (s1.heap.objs.size + 1) :: (us ++ [])) _ _ (W σ) (hr.make C us []) (I2.env0.make C us []) hb2 r2 hq) fun r s' hq' => ?_))
  match r, hq' with
  | .error e, hq' => exact hx σ pins _ _ e s' I2 hq'
  | .ok (.ret u), hq' =>
    obtain ⟨v, H', I3, rv, ev, q3⟩ := I2.after hq'
    subst ev
    exact ⟨rv, ⟨V.ref (s1.heap.objs.size + 1), H', I3, rfl, q3⟩⟩
  | .ok .next, hq' => exact hq'.elim
  | .ok .brk, hq' => exact hq'.elim
  | .ok .cont, hq' => exact hq'.elim
end
/-- whether an error of a class is what a clause names -/
theorem exm_of {K : PySem.W.Frag} {r c : Addr} {b : Bool} (h1 : PySem.W.subIn K (.ref c) (.type "BaseException") = some true) (h2 : PySem.W.isClsIn K c = true) (h3 : PySem.W.typeIn K (.ref c) = some (.type "type")) (h4 : PySem.W.subIn K (.ref r) (.ref c) = some b) : PySem.W.exmOne K (.ref r) (.ref c) = some b := by
  have e1 : (PySem.W.subIn K (.ref c) (.type "BaseException") == some true) = true := by rw [h1]; rfl
  have e2 : ((PySem.W.clsIn K c).isSome && PySem.W.typeIn K (.ref c) == some (.type "type")) = true := by
    have h2' : (PySem.W.clsIn K c).isSome = true := h2
    rw [h2', h3]
    rfl
  unfold PySem.W.exmOne
  rw [if_pos e1]
  first
    | (rw [if_pos e2]; exact h4)
    | (simp only [e2, if_true]; exact h4)
    | (show (if ((PySem.W.clsIn K c).isSome && PySem.W.typeIn K (.ref c) == some (.type "type")) = true then _ else _) = _; rw [if_pos e2]; exact h4)
section
variable {X : Cx} {x : Str} {c : Value} {body suite : List Stmt} {b₀ : Stmt} {np pos pos' : Pos} {Wout : WX}
/-- a try's body, its derivation given where it is read -/
def tTryB (X : Cx) (body : List Stmt) (W : WX) : TS := fun D σ H => ∀ (pn : List (Addr × Obj)) (xe : Value → Shared → Prop), Takes (X.tr pn xe) W → PassesOwn (model X.prog X.w) X.A X.env xe → ∃ t, PSs (X.tr pn xe) body t ∧ t D σ H
theorem tryB {W : WX} {pn : List (Addr × Obj)} {xe : Value → Shared → Prop} (tk : Takes (X.tr pn xe) W) (po : PassesOwn (model X.prog X.w) X.A X.env xe) : PSs (X.tr pn xe) body (tTryB X body W) := by
  refine ⟨fun pins s σ H D I h => ?_⟩
  obtain ⟨t, ht, q⟩ := h pn xe tk po
  exact ht.run pins s σ H D I q
/-- a clause's suite likewise -/
def tSuiteB (X : Cx) (suite : List Stmt) (a : Addr) (cls : Value) (d : Option Addr) : TS := fun D σ H => ∀ (oe : Obj) (pn : List (Addr × Obj)), Zc cls d oe → (∃ vs, oe.data = .fields vs) → ∃ t, PSs (X.suite a ((a, oe) :: pn)) suite t ∧ t D σ H
theorem suiteB {a : Addr} {oe : Obj} {cls : Value} {d : Option Addr} {pn : List (Addr × Obj)} (hz : Zc cls d oe) (hf : ∃ vs, oe.data = .fields vs) : PSs (X.suite a ((a, oe) :: pn)) suite (tSuiteB X suite a cls d) := by
  refine ⟨fun pins s σ H D I h => ?_⟩
  obtain ⟨t, ht, q⟩ := h oe pn hz hf
  exact ht.run pins s σ H D I q
theorem ps_tryO (hs : X.stack = X.env :: X.outer) (hf : X.env.frame = some X.env.locals) (hc : Names X x c) :
    PS X (.Try body [.ExceptHandler (some (.Name x np)) none (b₀ :: suite) pos'] [] [] pos) (fun D σ H => tTryB X body (wOnly X.K c (tSuiteB X (b₀ :: suite)) (fun _ _ _ _ => False) D) D σ H) :=
  ps_try_only (tb := tTryB X body) (ts := tSuiteB X (b₀ :: suite)) hs hf hc takes_none5 (fun W pn xe tk po => tryB tk po) fun a oe cls d pn hz hf => suiteB hz hf
theorem ps_tryA {i : Nat} {n : Str} (hs : X.stack = X.env :: X.outer) (hf : X.env.frame = some X.env.locals) (hN : X.N.Nodup) (hi : X.N[i]? = some n) (hln : X.env.kindOf n = some .local) (hc : Names X x c) :
    PS X (.Try body [.ExceptHandler (some (.Name x np)) (some n) (b₀ :: suite) pos'] [] [] pos) (fun D σ H => tTryB X body (wAs X.K c i (tSuiteB X (b₀ :: suite)) (fun _ _ _ _ => False) D) D σ H) :=
  ps_try_as (tb := tTryB X body) (ts := tSuiteB X (b₀ :: suite)) hs hf hN hi hln hc takes_none5 (fun W pn xe tk po => tryB tk po) fun a oe cls d pn hz hf => suiteB hz hf
/-- several clauses, each by its class -/
inductive HdsB (X : Cx) : List ExceptHandler → List (Value × (Addr → Value → Option Addr → TS)) → Prop
  | nil : HdsB X [] []
  | cons {x : Str} {c : Value} {b₀ : Stmt} {suite : List Stmt} {np pos' : Pos} {hds : List ExceptHandler} {l : List (Value × (Addr → Value → Option Addr → TS))} (hc : Names X x c) (r : HdsB X hds l) :
      HdsB X (.ExceptHandler (some (.Name x np)) none (b₀ :: suite) pos' :: hds) ((c, tSuiteB X (b₀ :: suite)) :: l)
theorem HdsB.ok {hds : List ExceptHandler} {l : List (Value × (Addr → Value → Option Addr → TS))} (h : HdsB X hds l) : HdsOk X hds l := by
  induction h with
  | nil => exact .nil
  | cons hc r ih => exact .cons hc (fun a oe cls d pn hz hf => suiteB hz hf) ih
theorem ps_tryM {h₀ : ExceptHandler} {hds : List ExceptHandler} {l : List (Value × (Addr → Value → Option Addr → TS))} (hs : X.stack = X.env :: X.outer) (hf : X.env.frame = some X.env.locals) (hh : HdsB X (h₀ :: hds) l) :
    PS X (.Try body (h₀ :: hds) [] [] pos) (fun D σ H => tTryB X body (wMany X.K (fun _ _ _ _ => False) D l) D σ H) :=
  ps_try_many (tb := tTryB X body) hs hf takes_none5 (fun W pn xe tk po => tryB tk po) hh.ok
end
/-- list(xs), its reading by the written part -/
def rListOf (K : PySem.W.Frag) : List V → Hp → VK → Prop := fun vs H Q => ∃ p ys, vs = [.ref p] ∧ (SqL K H p ys ∨ SqT K H p ys) ∧ ∀ l, H l = none → Q (.ref l) (upd H l (.lst ys))
theorem call_list_ofR {X : Cx} : CallR X (.type "list") (rListOf X.K) := call_list_of
/-- len(xs), its reading by the written part -/
def rLenSeq (K : PySem.W.Frag) : List V → Hp → VK → Prop := fun vs H Q => ∃ p ys, vs = [.ref p] ∧ (SqL K H p ys ∨ SqT K H p ys) ∧ Q (.int (ys.length : Nat)) H
theorem call_len_seqR {X : Cx} : CallR X (.builtin "len") (rLenSeq X.K) := call_len_seq
end TB

/-! values that stay as they are; dicts of numbers by names; moves -/
namespace TB
open PySem L2 Ck TS2 TX
mutual
/-- data of scalars and tuples: no change of lists, dicts, objects reaches it -/
inductive FD (H : Hp) : V → PyData → Prop
  | int (i : Int) : FD H (.int i) (.int i)
  | str (n : Name) : FD H (.str (tx n)) (.str (tx n))
  | tup {q : Addr} {xs : List V} {ds : List PyData} : H q = some (.tup xs) → FDs H xs ds → FD H (.ref q) (.tuple ds)
inductive FDs (H : Hp) : List V → List PyData → Prop
  | nil : FDs H [] []
  | cons {x : V} {d : PyData} {xs : List V} {ds : List PyData} : FD H x d → FDs H xs ds → FDs H (x :: xs) (d :: ds)
end
mutual
theorem FD.keep {H H' : Hp} (k : ∀ b ys, H b = some (.tup ys) → H' b = some (.tup ys)) : ∀ {x : V} {d : PyData}, FD H x d → FD H' x d
  | _, _, .int i => .int i
  | _, _, .str n => .str n
  | _, _, .tup h r => .tup (k _ _ h) (FDs.keep k r)
theorem FDs.keep {H H' : Hp} (k : ∀ b ys, H b = some (.tup ys) → H' b = some (.tup ys)) : ∀ {xs : List V} {ds : List PyData}, FDs H xs ds → FDs H' xs ds
  | _, _, .nil => .nil
  | _, _, .cons h r => .cons (FD.keep k h) (FDs.keep k r)
end
mutual
theorem FD.dp {K : PySem.W.Frag} {H : Hp} : ∀ {x : V} {d : PyData}, FD H x d → Dp K H x d
  | _, _, .int i => .int i
  | _, _, .str n => .str _
  | _, _, .tup h r => .tup (SqT.of h) (FDs.dp r)
theorem FDs.dp {K : PySem.W.Frag} {H : Hp} : ∀ {xs : List V} {ds : List PyData}, FDs H xs ds → DpAll K H xs ds
  | _, _, .nil => .nil
  | _, _, .cons h r => .cons (FD.dp h) (FDs.dp r)
end
theorem FDs.app {H : Hp} : ∀ {xs ys : List V} {ds es : List PyData}, FDs H xs ds → FDs H ys es → FDs H (xs ++ ys) (ds ++ es)
  | _, _, _, _, .nil, b => b
  | _, _, _, _, .cons h r, b => .cons h (FDs.app r b)
theorem FD.seat {H : Hp} {q : Addr} {s : Seat} (h : H q = some (.tup (sv s))) : FD H (.ref q) (dS s) := .tup h (.cons (.int _) (.cons (.int _) .nil))
theorem FDs.names {H : Hp} : ∀ ns : List Name, FDs H (ns.map fun n => V.str (tx n)) (dNs ns)
  | [] => .nil
  | n :: r => .cons (.str n) (FDs.names r)
/-- a dict of numbers by names tells f -/
structure ValIs (kvs : List (Key × V)) (f : Name → Option Int) : Prop where
  val : ∀ n, valV kvs (.inr (tx n)) = (f n).map V.int
  ent : ∀ e ∈ kvs, ∃ n i, e = (.inr (tx n), V.int i) ∧ f n = some i
  nd : (kvs.map (·.1)).Nodup
theorem ValIs.nil : ValIs [] (fun _ => none) := ⟨fun _ => rfl, fun _ h => (by cases h), List.nodup_nil⟩
theorem ikey {a b : Name} (h : (Sum.inr (tx a) : Key) = .inr (tx b)) : a = b := tx_inj (Sum.inr.inj h)
theorem ValIs.put {kvs : List (Key × V)} {f : Name → Option Int} (h : ValIs kvs f) (n : Name) (i : Int) : ValIs (putK kvs (.inr (tx n)) (.int i)) (fun m => if m = n then some i else f m) where
  val := fun m => by
    rw [valV_put]
    by_cases e : m = n
    · rw [if_pos (by rw [e]), if_pos e]
      rfl
    · rw [if_neg (fun q => e (ikey q)), if_neg e]
      exact h.val m
  ent := fun e he => by
    rcases mem_putK he with q | ⟨q, hk⟩
    · exact ⟨n, i, q, if_pos rfl⟩
    · obtain ⟨m, j, rfl, hm⟩ := h.ent e q
      refine ⟨m, j, rfl, ?_⟩
      rw [if_neg (fun z => hk (by rw [z]))]
      exact hm
  nd := (keys_putK _ _ _).mpr h.nd
theorem ValIs.drop {kvs : List (Key × V)} {f : Name → Option Int} (h : ValIs kvs f) (n : Name) : ValIs (dropK kvs (.inr (tx n))) (fun m => if m = n then none else f m) where
  val := fun m => by
    by_cases e : m = n
    · rw [if_pos e, e]
      unfold valV dropK
      rw [Option.map_eq_none_iff.mpr]
      · rfl
      · rw [List.find?_eq_none]
        intro x hx hq
        have h1 := (List.mem_filter.mp hx).2
        simp at h1 hq
        exact h1 hq
    · rw [if_neg e, ← h.val m]
      unfold valV dropK
      rw [List.find?_filter]
      congr 1
      congr 1
      funext x
      by_cases q : x.1 = .inr (tx m)
      · have : x.1 ≠ .inr (tx n) := fun z => e (ikey (q.symm.trans z))
        simp [q]
        exact e
      · simp [q]
  ent := fun e he => by
    obtain ⟨h1, h2⟩ := List.mem_filter.mp he
    obtain ⟨m, j, rfl, hm⟩ := h.ent e h1
    refine ⟨m, j, rfl, ?_⟩
    have h3 : (Sum.inr (tx m) : Key) ≠ .inr (tx n) := of_decide_eq_true h2
    rw [if_neg (fun z => h3 (by rw [z]))]
    exact hm
  nd := h.nd.sublist (List.Sublist.map _ List.filter_sublist)
theorem valV_mem {κ : Type} [DecidableEq κ] {kvs : List (κ × V)} {k : κ} {v : V} (h : valV kvs k = some v) : ∃ x ∈ kvs, x.1 = k := by
  unfold valV at h
  cases e : kvs.find? fun kv => decide (kv.1 = k) with
  | none => rw [e] at h; cases h
  | some x =>
    have h1 := List.find?_some e
    exact ⟨x, List.mem_of_find?_eq_some e, by simpa using h1⟩
theorem ValIs.keys {kvs : List (Key × V)} {f : Name → Option Int} (h : ValIs kvs f) : ∃ ms : List Name, kvs.map (fun kv => kV kv.1) = ms.map (fun n => V.str (tx n)) ∧ ms.Nodup ∧ ms.length = kvs.length ∧ ∀ n, n ∈ ms ↔ ∃ i, f n = some i := by
  have key : ∀ M : List (Key × V), (∀ e ∈ M, ∃ n i, e = (.inr (tx n), V.int i) ∧ f n = some i) → ∃ ms : List Name, M.map (·.1) = ms.map (fun n => (Sum.inr (tx n) : Key)) := by
    intro M
    induction M with
    | nil => intro _; exact ⟨[], rfl⟩
    | cons e r ih =>
      intro hM
      obtain ⟨n, i, rfl, _⟩ := hM e List.mem_cons_self
      obtain ⟨ms, e2⟩ := ih fun x hx => hM x (List.mem_cons_of_mem _ hx)
      exact ⟨n :: ms, by rw [List.map_cons, List.map_cons, e2]⟩
  obtain ⟨ms, e⟩ := key kvs h.ent
  refine ⟨ms, ?_, ?_, ?_, fun n => ?_⟩
  · have q := congrArg (List.map kV) e
    rw [List.map_map, List.map_map] at q
    exact q
  · have q := h.nd
    rw [e] at q
    exact List.Pairwise.imp (fun hne heq => hne (by rw [heq])) (List.pairwise_map.mp q)
  · have q := congrArg List.length e
    rw [List.length_map, List.length_map] at q
    exact q.symm
  · have q : n ∈ ms ↔ (Sum.inr (tx n) : Key) ∈ kvs.map (·.1) := by
      rw [e]
      constructor
      · intro hn
        exact List.mem_map.mpr ⟨n, hn, rfl⟩
      · intro hn
        obtain ⟨m, hm, em⟩ := List.mem_map.mp hn
        exact ikey em ▸ hm
    rw [q]
    constructor
    · intro hn
      obtain ⟨x, hx, ex⟩ := List.mem_map.mp hn
      obtain ⟨m, i, rfl, hm⟩ := h.ent x hx
      exact ⟨i, ikey ex ▸ hm⟩
    · rintro ⟨i, hi⟩
      have z := h.val n
      rw [hi] at z
      obtain ⟨x, hx, ex⟩ := valV_mem z
      exact List.mem_map.mpr ⟨x, hx, ex⟩
/-- the moves of a put along W, as they are told: the last one first -/
def movesOf (L : Held) (W : List Seat) : List (Name × Seat × Seat) := ((W.zip W.tail).map fun p => (whoN L p.1, p.1, p.2)).reverse
def MoveAt (H : Hp) (x : V) (m : Name × Seat × Seat) : Prop := ∃ t q1 q2 : Addr, x = .ref t ∧ H t = some (.tup [.str (tx m.1), .ref q1, .ref q2]) ∧ H q1 = some (.tup (sv m.2.1)) ∧ H q2 = some (.tup (sv m.2.2))
def dM (m : Name × Seat × Seat) : PyData := .tuple [.str (tx m.1), dS m.2.1, dS m.2.2]
def MovesAt (H : Hp) (p : Addr) (ms : List (Name × Seat × Seat)) : Prop := ∃ xs : List V, H p = some (.lst xs) ∧ Paired (MoveAt H) xs ms
theorem MoveAt.fd {H : Hp} {x : V} {m : Name × Seat × Seat} (h : MoveAt H x m) : FD H x (dM m) := by
  obtain ⟨t, q1, q2, rfl, h1, h2, h3⟩ := h
  exact .tup h1 (.cons (.str _) (.cons (.seat h2) (.cons (.seat h3) .nil)))
theorem moves_fd {H : Hp} : ∀ {xs : List V} {ms : List (Name × Seat × Seat)}, Paired (MoveAt H) xs ms → FDs H xs (ms.map dM)
  | _, _, .nil => .nil
  | _, _, .cons h r => .cons h.fd (moves_fd r)
theorem movesOf_ok {c t1 t2 : Int} {L : Held} {W : List Seat} {s0 : Seat} (g : GoodT c t1 t2 L) (ch : Chain (nxN (hmN c t1 t2) (getN L)) s0 W) : ∀ y ∈ movesOf L W, NameOk y.1 := by
  intro y hy
  unfold movesOf at hy
  rw [List.mem_reverse] at hy
  obtain ⟨p, hp, rfl⟩ := List.mem_map.mp hy
  obtain ⟨t, ht, e⟩ := List.getElem_of_mem hp
  have e1 : (W.zip W.tail)[t]? = some p := by rw [List.getElem?_eq_getElem ht, e]
  rw [List.getElem?_zip_eq_some] at e1
  obtain ⟨h1, h2⟩ := e1
  rw [List.getElem?_tail] at h2
  have h3 := ch.step t _ _ h1 h2
  show NameOk (whoN L p.1)
  unfold nxN at h3
  cases e4 : getN L p.1 with
  | none => rw [e4] at h3; cases h3
  | some n =>
    rw [who_of e4]
    exact g.ok (p.1, n) (getN_mem e4)
/-- data that a list of lists may hold -/
def GoodD (ds : List PyData) : Prop := PyData.canLayAll0 ds = true ∧ PyData.depthAll ds ≤ 2
theorem GoodD.nil : GoodD [] := ⟨rfl, Nat.zero_le _⟩
theorem GoodD.moves {ms : List (Name × Seat × Seat)} (h : ∀ y ∈ ms, NameOk y.1) : GoodD (ms.map dM) := by
  have h1 : ∀ M : List (Name × Seat × Seat), (∀ y ∈ M, NameOk y.1) → PyData.canLayAll0 (M.map dM) = true := by
    intro M
    induction M with
    | nil => intro _; rfl
    | cons p r ih =>
      intro hM
      rw [List.map_cons]
      unfold PyData.canLayAll0
      rw [ih fun y hy => hM y (List.mem_cons_of_mem _ hy), Bool.and_true]
      have q := strOk_name (hM p List.mem_cons_self).al
      unfold dM PyData.canLay0
      unfold PyData.canLayAll0
      rw [q]
      rfl
  have h2 : ∀ M : List (Name × Seat × Seat), PyData.depthAll (M.map dM) ≤ 2 := by
    intro M
    induction M with
    | nil => exact Nat.zero_le _
    | cons p r ih =>
      rw [List.map_cons]
      unfold PyData.depthAll
      have : PyData.depth (dM p) = 2 := rfl
      omega
  exact ⟨h1 ms h, h2 ms⟩
theorem GoodD.names {ns : List Name} (h : ∀ n ∈ ns, ∀ c ∈ n, c ∈ alph) : GoodD (dNs ns) := by
  have q := shaped_names h
  unfold SeqAt.shaped at q
  rw [Bool.and_eq_true] at q
  refine ⟨q.1, ?_⟩
  have h2 : ∀ M : List Name, PyData.depthAll (dNs M) = 0 := by
    intro M
    induction M with
    | nil => rfl
    | cons p r ih =>
      show PyData.depthAll (PyData.str (tx p) :: dNs r) = 0
      unfold PyData.depthAll
      rw [ih]
      rfl
  rw [h2]
  decide
/-- a list that stays as it is: only frozen data in it -/
def LstFD (H : Hp) (p : Addr) (ds : List PyData) : Prop := ∃ zs : List V, H p = some (.lst zs) ∧ FDs H zs ds
theorem LstFD.keep {H H' : Hp} {p : Addr} {ds : List PyData} (h : LstFD H p ds) (e : H' p = H p) (k : ∀ b ys, H b = some (.tup ys) → H' b = some (.tup ys)) : LstFD H' p ds := by
  obtain ⟨zs, h1, h2⟩ := h
  exact ⟨zs, e.trans h1, h2.keep k⟩
/-- a list of such lists -/
structure LstsFD (H : Hp) (l : Addr) (ps : List (Addr × List PyData)) : Prop where
  at_ : H l = some (.lst (ps.map fun p => V.ref p.1))
  each : ∀ p ∈ ps, LstFD H p.1 p.2
  good : ∀ p ∈ ps, GoodD p.2
theorem LstsFD.keep {H H' : Hp} {l : Addr} {ps : List (Addr × List PyData)} (h : LstsFD H l ps) (e : H' l = H l) (e2 : ∀ p ∈ ps, H' p.1 = H p.1) (k : ∀ b ys, H b = some (.tup ys) → H' b = some (.tup ys)) : LstsFD H' l ps :=
  ⟨e.trans h.at_, fun p hp => (h.each p hp).keep (e2 p hp) k, h.good⟩
theorem LstsFD.same {H H' : Hp} {l : Addr} {ps : List (Addr × List PyData)} (h : LstsFD H l ps) (s : Same H H') : LstsFD H' l ps := by
  refine ⟨s _ _ h.at_, fun p hp => ?_, h.good⟩
  obtain ⟨zs, h1, h2⟩ := h.each p hp
  exact ⟨zs, s _ _ h1, h2.keep fun b ys hb => s _ _ hb⟩
def dLs (dss : List (List PyData)) : List PyData := dss.map PyData.list
theorem dp_lsts {K : PySem.W.Frag} {H : Hp} {l : Addr} {ps : List (Addr × List PyData)} (h : LstsFD H l ps) : Dp K H (.ref l) (.list (dLs (ps.map (·.2)))) := by
  refine .lst (SqL.of h.at_) ?_
  have key : ∀ M : List (Addr × List PyData), (∀ p ∈ M, LstFD H p.1 p.2) → DpAll K H (M.map fun p => V.ref p.1) (dLs (M.map (·.2))) := by
    intro M
    induction M with
    | nil => intro _; exact .nil
    | cons p r ih =>
      intro hM
      obtain ⟨zs, h1, h2⟩ := hM p List.mem_cons_self
      exact .cons (.lst (SqL.of h1) h2.dp) (ih fun q hq => hM q (List.mem_cons_of_mem _ hq))
  exact key ps h.each
theorem shaped_lsts {dss : List (List PyData)} (h : ∀ ds ∈ dss, GoodD ds) : SeqAt.shaped (.list (dLs dss)) = true := by
  have key : ∀ M : List (List PyData), (∀ ds ∈ M, GoodD ds) → PyData.canLayAll0 (dLs M) = true ∧ PyData.depthAll (dLs M) ≤ 3 := by
    intro M
    induction M with
    | nil => intro _; exact ⟨rfl, Nat.zero_le _⟩
    | cons p r ih =>
      intro hM
      obtain ⟨i1, i2⟩ := ih fun q hq => hM q (List.mem_cons_of_mem _ hq)
      obtain ⟨g1, g2⟩ := hM p List.mem_cons_self
      constructor
      · show PyData.canLayAll0 (PyData.list p :: dLs r) = true
        unfold PyData.canLayAll0
        rw [i1, Bool.and_true]
        exact g1
      · show PyData.depthAll (PyData.list p :: dLs r) ≤ 3
        unfold PyData.depthAll
        have e : PyData.depth (PyData.list p) ≤ 3 := by
          unfold PyData.depth
          omega
        omega
  obtain ⟨k1, k2⟩ := key dss h
  unfold SeqAt.shaped
  rw [Bool.and_eq_true, decide_eq_true_eq]
  refine ⟨k1, ?_⟩
  unfold PyData.depth
  omega
end TB

/-! sorted names -/
namespace TB
open PySem PySem.Spec PyProof.Rows L2 Ck TS2 TX
theorem lt_irr : ∀ a : List Nat, ltCps a a = false
  | [] => rfl
  | x :: r => by
    show (decide (x < x) || (x == x && ltCps r r)) = false
    rw [lt_irr r]
    simp
theorem lt_cons {x y : Nat} {r t : List Nat} : ltCps (x :: r) (y :: t) = true ↔ x < y ∨ (x = y ∧ ltCps r t = true) := by
  show (decide (x < y) || (x == y && ltCps r t)) = true ↔ _
  simp
theorem le_trans : ∀ a b c : List Nat, ltCps b a = false → ltCps c b = false → ltCps c a = false
  | a, b, [], h1, h2 => by
    cases a with
    | nil => rfl
    | cons x r =>
      cases b with
      | nil => cases h1
      | cons y t => cases h2
  | [], b, z :: s, h1, h2 => rfl
  | x :: r, [], z :: s, h1, h2 => by cases h1
  | x :: r, y :: t, z :: s, h1, h2 => by
    rw [Bool.eq_false_iff] at h1 h2 ⊢
    intro h
    rw [ne_eq, lt_cons] at h1 h2
    rcases lt_cons.mp h with q | ⟨q, p⟩
    · omega
    · have e1 : x = y := by omega
      subst e1
      subst q
      have h1' : ltCps t r = false := by rw [Bool.eq_false_iff]; exact fun z => h1 (.inr ⟨rfl, z⟩)
      have h2' : ltCps s t = false := by rw [Bool.eq_false_iff]; exact fun z => h2 (.inr ⟨rfl, z⟩)
      rw [le_trans r t s h1' h2'] at p
      cases p
theorem le_anti : ∀ a b : List Nat, ltCps a b = false → ltCps b a = false → a = b
  | [], [], _, _ => rfl
  | [], _ :: _, h, _ => by cases h
  | _ :: _, [], _, h => by cases h
  | x :: r, y :: t, h1, h2 => by
    rw [Bool.eq_false_iff, ne_eq, lt_cons] at h1 h2
    have e : x = y := by omega
    subst e
    rw [le_anti r t (by rw [Bool.eq_false_iff]; exact fun z => h1 (.inr ⟨rfl, z⟩)) (by rw [Bool.eq_false_iff]; exact fun z => h2 (.inr ⟨rfl, z⟩))]
theorem rising_le : ∀ (l : List Name) (p : Name), risingS (tx p) (l.map tx) = true → (∀ x ∈ l, ltCps x p = false) ∧ l.Pairwise (fun a b => ltCps b a = false)
  | [], p, _ => ⟨fun _ h => (by cases h), List.Pairwise.nil⟩
  | x :: r, p, h => by
    have h' : (!ltCps x p && risingS (tx x) (r.map tx)) = true := by simpa [risingS] using h
    rw [Bool.and_eq_true] at h'
    have h1 : ltCps x p = false := by simpa using h'.1
    obtain ⟨i1, i2⟩ := rising_le r x h'.2
    refine ⟨fun y hy => ?_, List.pairwise_cons.mpr ⟨fun y hy => i1 y hy, i2⟩⟩
    rcases List.mem_cons.mp hy with e | e
    · rw [e]
      exact h1
    · exact le_trans p x y h1 (i1 y e)
theorem sortedS_le {l : List Name} (h : sortedS (l.map tx) = true) : l.Pairwise (fun a b => ltCps b a = false) := by
  cases l with
  | nil => exact List.Pairwise.nil
  | cons x r =>
    obtain ⟨a, b⟩ := rising_le r x h
    exact List.pairwise_cons.mpr ⟨a, b⟩
theorem sortedN_uniq : ∀ {A B : List Name}, A.Pairwise (fun a b => ltCps b a = false) → B.Pairwise (fun a b => ltCps b a = false) → A.Perm B → A = B
  | [], B, _, _, h => (List.Perm.eq_nil h.symm).symm
  | a :: A, [], _, _, h => absurd h.length_eq (by simp)
  | a :: A, b :: B, hA, hB, h => by
    obtain ⟨a1, a2⟩ := List.pairwise_cons.mp hA
    obtain ⟨b1, b2⟩ := List.pairwise_cons.mp hB
    have e : a = b := by
      rcases List.mem_cons.mp (h.mem_iff.mp List.mem_cons_self) with q | q
      · exact q
      · rcases List.mem_cons.mp (h.mem_iff.mpr List.mem_cons_self) with p | p
        · exact p.symm
        · exact (le_anti _ _ (a1 b p) (b1 a q)).symm
    subst e
    rw [sortedN_uniq a2 b2 h.cons_inv]
/-- texts that are a rearrangement of names are names -/
theorem perm_names {ys : List Str} {ns : List Name} (h : ys.Perm (ns.map tx)) : ∃ ms : List Name, ys = ms.map tx ∧ ms.Perm ns := by
  have key : ∀ zs : List Str, (∀ y ∈ zs, ∃ n : Name, y = tx n) → ∃ ms : List Name, zs = ms.map tx := by
    intro zs
    induction zs with
    | nil => intro _; exact ⟨[], rfl⟩
    | cons y r ih =>
      intro hz
      obtain ⟨n, rfl⟩ := hz y List.mem_cons_self
      obtain ⟨ms, e⟩ := ih fun x hx => hz x (List.mem_cons_of_mem _ hx)
      exact ⟨n :: ms, by rw [e]; rfl⟩
  obtain ⟨ms, e⟩ := key ys fun y hy => by
    obtain ⟨n, _, e⟩ := List.mem_map.mp (h.mem_iff.mp hy)
    exact ⟨n, e.symm⟩
  refine ⟨ms, e, ?_⟩
  rw [e] at h
  have q := h.map (fun z : Str => z.cps.toList)
  rw [List.map_map, List.map_map] at q
  have f : ((fun z : Str => z.cps.toList) ∘ tx) = id := by
    funext n
    show n.toArray.toList = n
    simp
  rw [f, List.map_id, List.map_id] at q
  exact q
end TB

/-! set() of a list of unlike texts, and how many it has -/
namespace TS2
open PySem PySem.Spec PyProof.Rows L2
open PySem.Froz (TxOk sObj add_x add_ok addTx is_str get_upd)
structure SetX0 (P : Program) (w : World) (h : Heap) (a : Addr) (l : List Str) : Prop where
  ex : ∃ D, h.get? a = some (sObj "set" D) ∧ TxOk P w D l
def SetXO (P : Program) (w : World) (a : Addr) (l : List Str) : HO := .ext fun h => SetX0 P w h a l
theorem setXO_new {P : Program} {w : World} {H : Hp} {h : Heap} {a : Addr} {l : List Str} (R : SetX0 P w h a l) : ObjOk P w H h a (SetXO P w a l) := by
  obtain ⟨D, ho, r⟩ := R.ex
  refine ⟨R, ⟨_, ho⟩, fun h1 h2 p k => ?_⟩
  obtain ⟨D', ho', r'⟩ := SetX0.ex p
  exact ⟨D', k _ ho', r'⟩
theorem strs_val {us : List Value} {xs : List Str} (h : StrsAre us xs) : ∀ (i : Nat) (v : Value), us[i]? = some v → ∃ k t, xs[i]? = some k ∧ v = .str k t := by
  induction h with
  | nil => intro i v h; simp at h
  | cons n t hr ih =>
    intro i v h
    cases i with
    | zero => simp at h; exact ⟨_, _, rfl, h.symm⟩
    | succ i =>
      simp only [List.getElem?_cons_succ] at h ⊢
      exact ih i v h
section
variable {P : Program} {w : World} {A : Around} {E : Value → Shared → Prop} {s : Shared}
theorem set_update_txts {I : Addr} {fp wr : List Addr} {G : Array GenState → Array GenState → Prop} {n : Nat} {Pv : Nat → Value → Prop} {St : Nat → Shared → Prop} {R : Result → Shared → Prop}
    (W : WalksS P w A.in1 I fp wr G n Pv St) (S : Addr) (hSf : S ∉ fp) (ns : List Str) (hn : n = ns.length) (hnd : ns.Nodup) (hb : ns.length + 1 < scanBound) (hval : ∀ i v, Pv i v → ∃ k t, ns[i]? = some k ∧ v = .str k t) :
    ∀ (k i : Nat) (s : Shared), n - i = k → i ≤ n → St i s → SetX0 P w s.heap S (ns.take i).reverse →
      (∀ s', Moved (S :: wr) G s s' → SetX0 P w s'.heap S ns.reverse → R (.ok (.ret .none)) s') →
      codeAny (model P w) A (.builtin "set.update.loop" ⟨[.ref S, .ref I], []⟩) R s := by
  have hSw : S ∉ wr := fun h => hSf (W.sub _ h)
  have hsub : ∀ b ∈ wr, b ∈ S :: wr := fun b hb => List.mem_cons_of_mem _ hb
  intro k
  induction k with
  | zero =>
    intro i s hk' hi hst hS hR
    have hin : i = n := by omega
    subst hin
    refine codeAny_builtin F.entry_set_update_loop ?_
    rw [Around.under_plainId F.plain_set_update_loop _]
    show wpAny _ A.in1 (pyNext (.ref I) >>= _) _ _ s
    refine wpAny_bind (W.done s _ _ hst fun s' hm => ?_)
    show wpAny _ A.in1 (ret Value.none) _ _ s'
    have e : ns.take i = ns := List.take_of_length_le (by omega)
    rw [e] at hS
    obtain ⟨D, h1, h2⟩ := hS.ex
    exact wpAny_pure (hR s' (hm.mono hsub) ⟨D, hm.heap S _ hSw h1, h2⟩)
  | succ k ih =>
    intro i s hk' hi hst hS hR
    have hlt : i < n := by omega
    refine codeAny_builtin F.entry_set_update_loop ?_
    rw [Around.under_plainId F.plain_set_update_loop _]
    show wpAny _ A.in1 (pyNext (.ref I) >>= _) _ _ s
    refine wpAny_bind (W.item i s _ _ hlt hst fun v s' hP hst' hm => ?_)
    obtain ⟨z, t, hz, rfl⟩ := hval i v hP
    obtain ⟨D, h1, h2⟩ := hS.ex
    have ho := hm.heap S _ hSw h1
    have hzn : z ∉ (ns.take i).reverse := fun q => by
      obtain ⟨u, hu, e⟩ := List.getElem_of_mem (List.mem_reverse.mp q)
      rw [List.length_take] at hu
      have hi2 := List.getElem?_eq_some_iff.mp hz
      obtain ⟨hi3, hi4⟩ := hi2
      rw [List.getElem_take] at e
      have := (List.getElem_inj hnd (h₀ := by omega) (h₁ := hi3)).mp (e.trans hi4.symm)
      omega
    show wpAny _ A.in1 (holding [Value.str z t] (setAdd S (.str z t)) >>= _) _ _ s'
    refine wpAny_bind (wpAny_holding ?_)
    unfold setAdd
    refine wpAny_holding ?_
    refine wpAny_bind ((strKind P w).pyHash (k := z) (is_str _ _) ?_)
    refine add_x (l := (ns.take i).reverse) (D := D) (s := { s' with toks := s'.toks + 1 }) ho h2 hzn (by rw [List.length_reverse, List.length_take]; omega) ?_
    have hS3 : SetX0 P w (s'.heap.update S (fun _ => sObj "set" (addTx (hashStr w z) (.str z t) D))) S (ns.take (i + 1)).reverse := by
      refine ⟨_, get_upd _ ho rfl, ?_⟩
      rw [List.take_add_one, hz]
      show TxOk P w _ (ns.take i ++ [z]).reverse
      rw [List.reverse_append]
      exact add_ok t h2
    refine wpAny_pure ⟨plainId_quiet F.plain_set_update_loop _, ih (i + 1) _ (by omega) hlt (W.frame _ s' _ _ hst' (Nat.le_succ _) fun b hb o e => ?_) hS3 fun s'' hm'' hS'' => ?_⟩
    · exact PySem.Heap.get?_update_of_ne _ (fun h : S = b => hSf (by rw [h]; exact hb)) e
    · refine hR s'' (Moved.trans W.gtrans ((hm.mono hsub).then_heap (Nat.le_succ _) fun b o hb e => ?_) hm'') hS''
      exact PySem.Heap.get?_update_of_ne _ (fun h : S = b => hb (by rw [← h]; exact List.mem_cons_self)) e
/-- the loop of set's __init__ over a list of unlike texts -/
theorem init_txts {l : Addr} {items : Array Value} (ns : List Str) {R : Result → Shared → Prop} (hh : A.handled = none) (hl : s.heap.IsList l items) (hit : StrsAre items.toList ns) (hnd : ns.Nodup) (hb : ns.length + 1 < scanBound)
    (hR : ∀ h' tk, SetX0 P w h' s.heap.objs.size ns.reverse → (∀ b o, s.heap.get? b = some o → h'.get? b = some o) → R (.ok (.ret .none)) { s with heap := h', toks := tk }) :
    codeAny (model P w) A (.builtin "set.update.loop" ⟨[.ref s.heap.objs.size, .ref (s.heap.objs.size + 1)], []⟩) R { s with heap := (s.heap.push (emptyO w)).push { cls := .type "list_iterator", data := .fields #[.ref l, .int 0 0] } } := by
  have hisz : items.size = ns.length := by
    have q := StrsAre.len_eq hit
    rwa [Array.length_toList] at q
  have hlS : l < s.heap.objs.size := by
    obtain ⟨o, ho, _⟩ := hl
    exact Heap.lt_size ho
  have z1 : (s.heap.push (emptyO w)).objs.size = s.heap.objs.size + 1 := Heap.size_push ..
  have hl1 : (s.heap.push (emptyO w)).IsList l items := hl.push _
  have hval : ∀ (i : Nat) (v : Value), items[i]? = some v → ∃ k t, ns[i]? = some k ∧ v = .str k t := fun i v hv => strs_val hit i v (by rw [Array.getElem?_toList]; exact hv)
  refine set_update_txts ((Walks.list (I := s.heap.objs.size + 1) (by simp [hh]) l (Nat.ne_of_lt (Nat.lt_succ_of_lt hlS)) items).toS) s.heap.objs.size (by
    simp only [List.mem_cons, List.not_mem_nil, or_false, not_or]
    exact ⟨Nat.ne_of_lt (Nat.lt_succ_self _), Nat.ne_of_gt hlS⟩) ns hisz hnd hb hval (items.size - 0) 0 _ (by omega) (Nat.zero_le _) ⟨⟨_, by rw [← z1]; exact Heap.get?_push_size _ rfl, rfl, rfl⟩, hl1.push _⟩
    ⟨(#[], 0, .fresh 0 0 (!w.params.followText "set-order")), Heap.get?_push_of_some _ (Heap.get?_push_size _ rfl), TxOk.nil rfl⟩ fun s' hm hS => ?_
  obtain ⟨h', g2, d', tk', os'⟩ := s'
  cases (show g2 = s.gens from hm.gens)
  cases (show d' = s.drawn from hm.drawn)
  cases (show os' = s.os from hm.os)
  refine hR h' tk' hS fun b o e => ?_
  have hb0 : b < s.heap.objs.size := Heap.lt_size e
  refine hm.heap b o ?_ (Heap.get?_push_of_some _ (Heap.get?_push_of_some _ e))
  simp only [List.mem_cons, List.not_mem_nil, or_false, not_or]
  exact ⟨Nat.ne_of_lt hb0, Nat.ne_of_lt (Nat.lt_succ_of_lt hb0)⟩
set_option maxHeartbeats 8000000 in
/-- set(xs), xs a list of unlike texts -/
theorem call_set_txts {l : Addr} {items : Array Value} (ns : List Str) {Q : Value → Shared → Prop} (hh : A.handled = none) (hl : s.heap.IsList l items) (hit : StrsAre items.toList ns) (hnd : ns.Nodup) (hb : ns.length + 1 < scanBound)
    (h : ∀ (h' : Heap) (tk : Nat), SetX0 P w h' s.heap.objs.size ns.reverse → (∀ b o, s.heap.get? b = some o → h'.get? b = some o) → Q (.ref s.heap.objs.size) { s with heap := h', toks := tk }) :
    wpAny (model P w) A (call (.type "set") [.ref l]) Q E s := by
  obtain ⟨c, tl, hmro⟩ := F.called_set.mro
  have hmade := F.called_set.made
  have hsub := F.called_set.sub
  refine wpAny_call (codeAny_of_tree ?_)
  show wpAny _ _ (callAny (.type "set") _) _ _ _
  refine wpAny_pure ⟨Code.quiet_builtin _ (by decide +kernel), codeAny_builtin F.entry_type_call ?_⟩
  rw [Around.under_plain (weight_type_call_type "set" [.ref l] []) rfl]
  have k1 := F.called_set.notType
  have k2 := F.called_set.canCreate
  have k3 := F.typeCall_set_1 (.ref l)
  repeat (any_goals (first | assumption | wp_step))
  refine codeAny_mono (code_set_led1 (.ref l) (E := E) (Q₁ := fun obj s1 => obj = .ref s.heap.objs.size ∧ s1 = { s with heap := s.heap.push (emptyO w) }) ⟨rfl, rfl⟩) fun r s1 hr => ?_
  match r, hr with
  | .error e, hr => exact hr
  | .ok (.ret obj), hr =>
    obtain ⟨rfl, rfl⟩ := hr
    have hS : (s.heap.push (emptyO w)).get? s.heap.objs.size = some (emptyO w) := Heap.get?_push_size _ rfl
    have hT : Shared.TypeIs { s with heap := s.heap.push (emptyO w) } (.ref s.heap.objs.size) "set" := ⟨_, hS, rfl⟩
    have k4 := F.called_set.init.lookup
    have k5 := F.called_set.init.bind (.ref s.heap.objs.size)
    repeat (any_goals (first | assumption | wp_step))
    refine codeAny_mono (codeAny_call_builtin (R := wants (fun r s2 => r = .none ∧ ∃ h' tk, s2 = { s with heap := h', toks := tk } ∧ SetX0 P w h' s.heap.objs.size ns.reverse ∧
        (∀ b o, s.heap.get? b = some o → h'.get? b = some o)) E) F.called_set.init.plain F.entry_set_init (check_set_init_1 hT ?_)) fun r2 s2 hr2 => ?_
    · obtain ⟨ol, hol, hcl, nl, hdl⟩ := id hl
      obtain ⟨ocls, odict, odata, oslots⟩ := ol
      simp only at hcl hdl
      subst hcl
      subst hdl
      have k6 : (s.heap.push (emptyO w)).get? l = some { cls := .type "list", dict := odict, data := .seq items nl, slots := oslots } := Heap.get?_push_of_some _ hol
      have k7 := F.sub_list_set
      have k8 := F.sub_list_frozenset
      have k9 : (Value.type "list" == Value.type "dict") = false := by decide
      have hl1 : (s.heap.push (emptyO w)).IsList l items := hl.push _
      unfold Builtin.«set.__init__» noKeywords Builtin.Frozenset.updateFrom
      generalize hPI : pyIter = PI
      wp_walk
      subst hPI
      refine wpAny_pyIter_list hl1 ?_
      refine wpAny_bind (wpAny_runValue ?_)
      rw [show (s.heap.push (emptyO w)).objs.size = s.heap.objs.size + 1 from Heap.size_push ..]
      refine init_txts (A := A.in1.in1) ns (by simp [hh]) hl hit hnd hb fun h' tk a1 a3 => ?_
      refine wpAny_pure ?_
      show wpAny _ _ (ret Value.none) _ _ _
      exact wpAny_pure ⟨rfl, h', tk, rfl, a1, a3⟩
    · match r2, hr2 with
      | .error e, hr2 => exact hr2
      | .ok (.ret r), hr2 =>
        obtain ⟨rfl, h', tk, rfl, a1, a3⟩ := hr2
        repeat (any_goals (first | assumption | wp_step))
        exact h _ _ a1 a3
end
section
variable {X : Cx}
theorem strsAre_of : ∀ {ks : List Str} {us : List Value}, Vals (ks.map V.str) us → StrsAre us ks
  | [], _, .nil => .nil
  | k :: ks, _, .cons r t => by
    obtain ⟨tk, rfl⟩ := r
    exact .cons _ _ (strsAre_of t)
def rSetX (K : PySem.W.Frag) (P : Program) (w : World) : List V → Hp → VK → Prop := fun xs H Q => ∃ (l : Addr) (ks : List Str), xs = [V.ref l] ∧ SqL K H l (ks.map V.str) ∧ ks.Nodup ∧ ks.length < 64 ∧
  ∀ a, H a = none → Q (.ref a) (upd H a (SetXO P w a ks.reverse))
theorem cr_setX (hc : X.calm = true) : CallR X (.type "set") (rSetX X.K X.prog X.w) := by
  intro pins s σ H xs us Q I r h
  obtain ⟨l, ks, rfl, hl, hn, hf, q⟩ := h
  rw [Vals.ref1 r]
  obtain ⟨its, rv, pl, hz⟩ := I.list hl
  have hn0 : H s.heap.objs.size = none := I.hok.fresh (Nat.le_refl _)
  refine call_set_txts (P := X.prog) (w := X.w) ks (I.ok.hd hc) pl.isList (strsAre_of (by simpa using rv)) hn (by unfold scanBound; omega) fun h' tk R k => ?_
  exact ⟨.ref s.heap.objs.size, upd H s.heap.objs.size (SetXO X.prog X.w s.heap.objs.size ks.reverse), I.laid (t' := tk) k (Nat.le_refl _) (setXO_new R), rfl, q _ hn0⟩
def rLenXS (P : Program) (w : World) : List V → Hp → VK → Prop := fun xs H Q => ∃ (a : Addr) (L : List Str), xs = [.ref a] ∧ H a = some (SetXO P w a L) ∧ L.length < 64 ∧ Q (.int (L.length : Nat)) H
theorem cr_lenXS : CallR X (.builtin "len") (rLenXS X.prog X.w) := by
  intro pins s σ H xs us Q I r h
  obtain ⟨a, L, rfl, ha, few, q⟩ := h
  rw [Vals.ref1 r]
  obtain ⟨D, ho, R⟩ := (show SetX0 X.prog X.w s.heap a L from (I.hok a _ ha).1).ex
  have hl : D.1.size = L.length := R.sz
  exact call_len_set ho ⟨rfl, rfl, rfl⟩ rfl R.fit (by rw [hl]; omega) ⟨.int (L.length : Nat), H, I.tok _, ⟨_, by rw [hl]⟩, q⟩
end
end TS2

/-! x in a tuple whose items are data of any depth -/
namespace TB
open PySem PySem.Spec PyProof.Rows L2 Ck TS2 TX
section
variable {X : Cx}
def rInT (K : PySem.W.Frag) (neg : Bool) : R2 := fun x y H Q => ∃ d ds, Dp K H x d ∧ Dp K H y (.tuple ds) ∧ SeqAt.shaped d = true ∧ SeqAt.shaped (.tuple ds) = true ∧ Q (.bl (if neg = true then !ds.any fun z => PyData.eqv z d else ds.any fun z => PyData.eqv z d)) H
theorem op_inT (hu : X.A.units + 65 < cLine) : OpR X (compareOp .In) (rInT X.K false) := by
  intro pins s σ H x y v u Q I rx ry ⟨d, ds, hd, he, sd, se, q⟩
  obtain ⟨as, r1⟩ := Dp.reads I d x v hd rx
  obtain ⟨bs, r2⟩ := Dp.reads I (.tuple ds) y u he ry
  exact SeqAt.in_tuple_reads r2 r1 (SeqAt.canLay_of_shaped se) (SeqAt.canLay_of_shaped sd) (room_in_shaped sd hu) ⟨.bl _, H, I, rfl, q⟩
theorem op_notInT (hu : X.A.units + 65 < cLine) : OpR X (compareOp .NotIn) (rInT X.K true) := by
  intro pins s σ H x y v u Q I rx ry ⟨d, ds, hd, he, sd, se, q⟩
  obtain ⟨as, r1⟩ := Dp.reads I d x v hd rx
  obtain ⟨bs, r2⟩ := Dp.reads I (.tuple ds) y u he ry
  exact SeqAt.notIn_tuple_reads r2 r1 (SeqAt.canLay_of_shaped se) (SeqAt.canLay_of_shaped sd) (room_in_shaped sd hu) ⟨.bl _, H, I, rfl, q⟩
end
def dsI (ks : List Int) : PyData := .list (ks.map PyData.int)
theorem dp_ints {K : PySem.W.Frag} {H : Hp} {l : Addr} {ks : List Int} (h : SqL K H l (ks.map V.int)) : Dp K H (.ref l) (dsI ks) := by
  refine .lst h ?_
  have key : ∀ M : List Int, DpAll K H (M.map V.int) (M.map PyData.int) := by
    intro M
    induction M with
    | nil => exact .nil
    | cons p r ih => exact .cons (.int _) ih
  exact key ks
theorem shaped_ints (ks : List Int) : SeqAt.shaped (dsI ks) = true := by
  have h1 : ∀ M : List Int, PyData.canLayAll0 (M.map PyData.int) = true := by
    intro M
    induction M with
    | nil => rfl
    | cons p r ih =>
      rw [List.map_cons]
      unfold PyData.canLayAll0
      rw [ih]
      rfl
  have h2 : ∀ M : List Int, PyData.depthAll (M.map PyData.int) = 0 := by
    intro M
    induction M with
    | nil => rfl
    | cons p r ih =>
      rw [List.map_cons]
      unfold PyData.depthAll
      rw [ih]
      rfl
  unfold SeqAt.shaped dsI
  rw [Bool.and_eq_true, decide_eq_true_eq]
  refine ⟨h1 ks, ?_⟩
  unfold PyData.depth
  rw [h2]
  decide
theorem eqv_ints_nil {zs : List Int} (h : PyData.eqv (dsI zs) (.list []) = false) : 0 < zs.length := by
  cases zs with
  | nil => cases h
  | cons z r => exact Nat.succ_pos _
end TB

/-! moves, walked one by one -/
namespace TB
open PySem L2 Ck TS2 TX
theorem walk_step {f : Seat → Option Name} {W : List Seat} {j : Nat} {x y : Seat} (h1 : W[j]? = some x) (h2 : W[j + 1]? = some y) (s : Seat) : shiftF f (W.drop j) none s = if s = x then none else if s = y then f x else shiftF f (W.drop (j + 1)) none s := by
  obtain ⟨l1, e1⟩ := List.getElem?_eq_some_iff.mp h1
  obtain ⟨l2, e2⟩ := List.getElem?_eq_some_iff.mp h2
  have d1 : W.drop j = x :: W.drop (j + 1) := by rw [List.drop_eq_getElem_cons l1, e1]
  have d2 : W.drop (j + 1) = y :: W.drop (j + 2) := by rw [List.drop_eq_getElem_cons l2, e2]
  rw [d1, d2]
  show (if s = x then none else (if s = y then f x else shiftF f (W.drop (j + 2)) (f y) s)) = if s = x then none else if s = y then f x else (if s = y then none else shiftF f (W.drop (j + 2)) (f y) s)
  by_cases a : s = x
  · rw [if_pos a, if_pos a]
  · rw [if_neg a, if_neg a]
    by_cases b : s = y
    · rw [if_pos b, if_pos b]
    · rw [if_neg b, if_neg b, if_neg b]
theorem walk_last {f : Seat → Option Name} {W : List Seat} {z : Seat} (h : W.getLast? = some z) (hf : f z = none) (s : Seat) : shiftF f (W.drop (W.length - 1)) none s = f s := by
  rw [List.getLast?_eq_getElem?] at h
  obtain ⟨l1, e1⟩ := List.getElem?_eq_some_iff.mp h
  have d1 : W.drop (W.length - 1) = [z] := by
    rw [List.drop_eq_getElem_cons l1, e1, show W.length - 1 + 1 = W.length by omega, List.drop_length]
  rw [d1]
  show (if s = z then none else f s) = f s
  by_cases a : s = z
  · rw [if_pos a, a, hf]
  · rw [if_neg a]
theorem getN_filt (M : Held) (x s : Seat) : getN (M.filter fun z => decide (z.1 ≠ x)) s = if s = x then none else getN M s := by
  induction M with
  | nil =>
    show (none : Option Name) = if s = x then none else none
    by_cases a : s = x
    · rw [if_pos a]
    · rw [if_neg a]
  | cons m M ih =>
    rw [List.filter_cons]
    by_cases e : m.1 = x
    · rw [if_neg (by simpa using e), ih, getN_cons]
      by_cases a : s = x
      · rw [if_pos a, if_pos a]
      · rw [if_neg a, if_neg a, if_neg (fun q => a (q.symm.trans e))]
    · rw [if_pos (by simpa using e), getN_cons, ih, getN_cons]
      by_cases b : m.1 = s
      · rw [if_pos b, if_pos b, if_neg (fun q => e (b.trans q))]
      · rw [if_neg b, if_neg b]
theorem filt_len {M : Held} {s : Seat} {n : Name} (hn : (M.map (·.1)).Nodup) (h : getN M s = some n) : (M.filter fun x => decide (x.1 ≠ s)).length + 1 = M.length := by
  induction M with
  | nil => cases h
  | cons m M ih =>
    rw [List.map_cons, List.nodup_cons] at hn
    rw [getN_cons] at h
    rw [List.filter_cons]
    by_cases e : m.1 = s
    · rw [if_neg (by simpa using e)]
      have q : M.filter (fun x => decide (x.1 ≠ s)) = M := List.filter_eq_self.mpr fun x hx => decide_eq_true fun z => hn.1 (List.mem_map.mpr ⟨x, hx, z.trans e.symm⟩)
      rw [q]
      rfl
    · rw [if_neg e] at h
      rw [if_pos (by simpa using e), List.length_cons, List.length_cons, ih hn.2 h]
theorem getN_app1 {M : Held} {y : Seat} {n : Name} (h : getN M y = none) (s : Seat) : getN (M ++ [(y, n)]) s = if s = y then some n else getN M s := by
  induction M with
  | nil =>
    rw [List.nil_append, getN_cons]
    by_cases a : s = y
    · rw [if_pos a, if_pos a.symm]
    · rw [if_neg a, if_neg (fun q => a q.symm)]
  | cons m M ih =>
    rw [getN_cons] at h
    rw [List.cons_append, getN_cons, getN_cons]
    by_cases e : m.1 = y
    · rw [if_pos e] at h
      cases h
    · rw [if_neg e] at h
      rw [ih h]
      by_cases b : m.1 = s
      · rw [if_pos b, if_pos b, if_neg (fun q => e (b.trans q))]
      · rw [if_neg b, if_neg b]
theorem moves_len (L : Held) (W : List Seat) : (movesOf L W).length = W.length - 1 := by
  unfold movesOf
  rw [List.length_reverse, List.length_map, List.length_zip, List.length_tail]
  omega
theorem moves_at {L : Held} {W : List Seat} {i : Nat} {m : Name × Seat × Seat} (h : (movesOf L W)[i]? = some m) : ∃ j x y, j + 1 + i = W.length - 1 ∧ W[j]? = some x ∧ W[j + 1]? = some y ∧ m = (whoN L x, x, y) := by
  have hl := (List.getElem?_eq_some_iff.mp h).1
  rw [moves_len] at hl
  unfold movesOf at h
  have hz : ((W.zip W.tail).map fun p => (whoN L p.1, p.1, p.2)).length = W.length - 1 := by
    rw [List.length_map, List.length_zip, List.length_tail]
    omega
  rw [List.getElem?_reverse (by rw [hz]; exact hl), hz, List.getElem?_map, Option.map_eq_some_iff] at h
  obtain ⟨p, hp, rfl⟩ := h
  rw [List.getElem?_zip_eq_some] at hp
  obtain ⟨a, b⟩ := hp
  rw [List.getElem?_tail] at b
  exact ⟨W.length - 1 - 1 - i, p.1, p.2, by omega, a, b, rfl⟩
theorem nx_who {hm : Name → Int × Int} {L : Held} {x y : Seat} (h : nxN hm (getN L) x = some y) : ∃ n, getN L x = some n ∧ whoN L x = n ∧ y = seatP (hm n) (1 - x.1) := by
  unfold nxN at h
  cases e : getN L x with
  | none => rw [e] at h; cases h
  | some n =>
    rw [e] at h
    exact ⟨n, rfl, who_of e, (Option.some.inj h).symm⟩
theorem moves_names {hm : Name → Int × Int} {L : Held} {W : List Seat} {s0 : Seat} (ch : Chain (nxN hm (getN L)) s0 W) (inj : ∀ s t n, getN L s = some n → getN L t = some n → s = t) : ((movesOf L W).map (·.1)).Nodup := by
  refine List.pairwise_map.mpr (List.pairwise_iff_getElem.mpr fun i k hi hk hlt e => ?_)
  obtain ⟨j, x, y, e1, a1, b1, c1⟩ := moves_at (List.getElem?_eq_getElem hi)
  obtain ⟨j', x', y', e2, a2, b2, c2⟩ := moves_at (List.getElem?_eq_getElem hk)
  rw [c1, c2] at e
  obtain ⟨n, h1, h2, _⟩ := nx_who (ch.step j x y a1 b1)
  obtain ⟨n', h1', h2', _⟩ := nx_who (ch.step j' x' y' a2 b2)
  have e' : whoN L x = whoN L x' := e
  rw [h2, h2'] at e'
  have q := inj x x' n h1 (e' ▸ h1')
  obtain ⟨l1, g1⟩ := List.getElem?_eq_some_iff.mp a1
  obtain ⟨l2, g2⟩ := List.getElem?_eq_some_iff.mp a2
  have := (List.getElem_inj ch.nd (h₀ := l1) (h₁ := l2)).mp (by rw [g1, g2, q])
  omega
theorem moves_nests {W : List Seat} {L : Held} (nd : W.Nodup) : ((movesOf L W).map (·.2.2)).Nodup := by
  refine List.pairwise_map.mpr (List.pairwise_iff_getElem.mpr fun i k hi hk hlt e => ?_)
  obtain ⟨j, x, y, e1, a1, b1, c1⟩ := moves_at (List.getElem?_eq_getElem hi)
  obtain ⟨j', x', y', e2, a2, b2, c2⟩ := moves_at (List.getElem?_eq_getElem hk)
  rw [c1, c2] at e
  have e' : y = y' := e
  obtain ⟨l1, g1⟩ := List.getElem?_eq_some_iff.mp b1
  obtain ⟨l2, g2⟩ := List.getElem?_eq_some_iff.mp b2
  have := (List.getElem_inj nd (h₀ := l1) (h₁ := l2)).mp (by rw [g1, g2, e'])
  omega
end TB

/-! min(lists, key=len); ranges kept in a name; sorted(d) of tuple keys; places written into texts -/
namespace TS10
open PySem PySem.Spec PyProof.Rows L2
section
variable {prog : Program} {w : World} {A : Around} {E : Value → Shared → Prop} {s : Shared} {l I S : Addr} {vs : List Value} {kf : Nat → Int} {R : Result → Shared → Prop} {Q : Value → Shared → Prop}
abbrev Grown (g h : Heap) : Prop := ∀ b o, g.get? b = some o → h.get? b = some o
/-- what the key of each item is, wherever it is asked -/
def KeyIs (prog : Program) (w : World) (A : Around) (s : Shared) (vs : List Value) (kf : Nat → Int) : Prop :=
  ∀ (i : Nat) (v : Value), vs[i]? = some v → ∀ (h : Heap) (tk : Nat) (E : Value → Shared → Prop) (Q : Value → Shared → Prop), Grown s.heap h → (∀ t tk', Q (.int (kf i) t) { s with heap := h, toks := tk' }) →
    wpAny (model prog w) A (call (.builtin "len") [v]) Q E { s with heap := h, toks := tk }
theorem IsL.grown {g h : Heap} {vs : Array Value} (x : g.IsList l vs) (G : Grown g h) : h.IsList l vs := by
  obtain ⟨o, e, r⟩ := x
  exact ⟨o, G _ _ e, r⟩
def Best (kf : Nat → Int) (n i : Nat) : Prop := ∀ j, j < n → kf i ≤ kf j ∧ (j < i → kf i < kf j)
theorem loop (hh : A.handled = none) (hl : s.heap.IsList l vs.toArray) (key : KeyIs prog w A.in1 s vs kf) (hI : s.heap.objs.size ≤ I) (hS : s.heap.objs.size ≤ S) (hne : S ≠ I)
    (done : ∀ i v h tk, vs[i]? = some v → Best kf vs.length i → Grown s.heap h → R (.ok (.ret v)) { s with heap := h, toks := tk }) :
    ∀ (r j i : Nat) (h : Heap) (tk : Nat) (vb : Value) (tb : Tok) (c : Nat), vs.length = j + 1 + r → Grown s.heap h → h.get? S = some (seqObj "list" #[vb, .int (kf i) tb] c) → h.IsListIter I l (j + 1) → vs[i]? = some vb → i ≤ j → Best kf (j + 1) i →
      codeAny (model prog w) A (.builtin "min.loop" ⟨[.ref I, .builtin "len", .ref S], []⟩) R { s with heap := h, toks := tk } := by
  obtain ⟨ol, hol, _⟩ := id hl
  have old : ∀ b o, s.heap.get? b = some o → b ≠ I ∧ b ≠ S := fun b o e => ⟨Nat.ne_of_lt (Nat.lt_of_lt_of_le (Heap.lt_size e) hI), Nat.ne_of_lt (Nat.lt_of_lt_of_le (Heap.lt_size e) hS)⟩
  have W := Walks.list (prog := prog) (w := w) (A := A.in1) hh I l (old _ _ hol).1 vs.toArray
  have nm : (toString "min" ++ toString ".loop" : String) = "min.loop" := by decide
  have sz : vs.toArray.size = vs.length := by simp
  intro r
  induction r with
  | zero =>
    intro j i h tk vb tb c hr G hS1 it hv hij hb
    refine codeAny_builtin PySem.F.entry_min_loop (by
      rw [Around.under_plainId PySem.F.plain_min_loop _]
      show wpAny _ A.in1 (seqItems? (.ref S) >>= _) _ _ _
      refine wpAny_bind (wpAny_seqItems hS1 rfl ?_)
      show wpAny _ A.in1 (tryCatch (pyNext (.ref I)) _ >>= _) _ _ _
      refine wpAny_bind (wpAny_tryCatch (W.done _ _ _ ⟨(by rw [sz, hr]; exact it), IsL.grown hl G⟩ fun h' tk' hk => ?_))
      have hS2 := hk S _ (by simpa using hne) hS1
      show wpAny _ A.in1 (updateSeq S (fun _ => #[]) >>= _) _ _ _
      refine wpAny_bind (wpAny_updateSeq hS2 rfl (wpAny_bind (wpAny_letGo (wpAny_pure ?_))))
      refine done i vb _ _ hv (by rw [hr]; exact hb) fun b o e => ?_
      rw [Heap.get?_update_other _ _ (fun q : S = b => (old b o e).2 q.symm)]
      exact hk b o (by simpa using (old b o e).1) (G b o e))
  | succ r ih =>
    intro j i h tk vb tb c hr G hS1 it hv hij hb
    have lt : j + 1 < vs.length := by omega
    refine codeAny_builtin PySem.F.entry_min_loop (by
      rw [Around.under_plainId PySem.F.plain_min_loop _]
      show wpAny _ A.in1 (seqItems? (.ref S) >>= _) _ _ _
      refine wpAny_bind (wpAny_seqItems hS1 rfl ?_)
      show wpAny _ A.in1 (tryCatch (pyNext (.ref I)) _ >>= _) _ _ _
      refine wpAny_bind (wpAny_tryCatch (W.item (j + 1) _ _ _ (by rw [sz]; exact lt) ⟨it, IsL.grown hl G⟩ fun v h' tk' hP st hk => ?_))
      have hv2 : vs[j + 1]? = some v := by simpa using hP
      have hS2 := hk S _ (by simpa using hne) hS1
      have G2 : Grown s.heap h' := fun b o e => hk b o (by simpa using (old b o e).1) (G b o e)
      show wpAny _ A.in1 (tryCatch (holding [v] (call (.builtin "len") [v])) _ >>= _) _ _ _
      refine wpAny_bind (wpAny_tryCatch (wpAny_holding (key (j + 1) v hv2 h' tk' _ _ G2 fun t2 tk2 => ?_)))
      show wpAny _ A.in1 (tryCatch (holding [v, .int (kf (j + 1)) t2] (richCompare .Lt (.int (kf (j + 1)) t2) (.int (kf i) tb) >>= _)) _ >>= _) _ _ _
      refine wpAny_bind (wpAny_tryCatch (wpAny_holding (wpAny_bind (CmpOf.ints_lt (prog := prog) (w := w) (A := A.in1) (P := fun i v => ∃ t, v = .int (kf i) t) kf (fun _ _ e => e) (j + 1) i _ _ _ _ _ ⟨t2, rfl⟩ ⟨tb, rfl⟩ ?_))))
      refine wpAny_bind (wpAny_holding (wpAny_truthy_bool (wpAny_bind (wpAny_letGo (wpAny_pure ?_)))))
      by_cases q : kf (j + 1) < kf i
      · simp only [q, decide_true, if_true]
        refine wpAny_bind (wpAny_updateSeq hS2 rfl (wpAny_bind (wpAny_letGo ?_)))
        rw [nm]
        obtain ⟨c2, hc2⟩ : ∃ c2, (h'.update S (Obj.mapSeq fun _ => #[v, .int (kf (j + 1)) t2])).get? S = some (seqObj "list" #[v, .int (kf (j + 1)) t2] c2) := ⟨_, get?_update_seq hS2 fun _ => #[v, .int (kf (j + 1)) t2]⟩
        have oth : ∀ b, b ≠ S → (h'.update S (Obj.mapSeq fun _ => #[v, .int (kf (j + 1)) t2])).get? b = h'.get? b := fun b n => Heap.get?_update_other _ _ (fun z : S = b => n z.symm)
        obtain ⟨oI, hoI, hoc, hod⟩ := st.1
        refine wpAny_pure ⟨plainId_quiet PySem.F.plain_min_loop _, ih (j + 1) (j + 1) _ _ v t2 c2 (by omega) (fun b o e => ?_) hc2 ⟨oI, (oth I hne.symm).trans hoI, hoc, hod⟩ hv2 (Nat.le_refl _) fun k hk2 => ?_⟩
        · rw [oth b (old b o e).2]
          exact G2 b o e
        · by_cases z : k = j + 1
          · rw [z]
            exact ⟨Int.le_refl _, fun y => absurd y (Nat.lt_irrefl _)⟩
          · have b1 := (hb k (by omega)).1
            exact ⟨by omega, fun _ => by omega⟩
      · simp only [q, decide_false, Bool.false_eq_true, if_false]
        refine wpAny_bind (wpAny_letGo ?_)
        rw [nm]
        refine wpAny_pure ⟨plainId_quiet PySem.F.plain_min_loop _, ih (j + 1) i _ _ vb tb c (by omega) G2 hS2 st.1 hv (by omega) fun k hk2 => ?_⟩
        by_cases z : k = j + 1
        · rw [z]
          exact ⟨by omega, fun y => by omega⟩
        · exact hb k (by omega))
theorem min_len (hh : A.handled = none) (hl : s.heap.IsList l vs.toArray) (hne : 0 < vs.length) (key : KeyIs prog w A.in1 s vs kf)
    (done : ∀ i v h tk, vs[i]? = some v → Best kf vs.length i → Grown s.heap h → Q v { s with heap := h, toks := tk }) : wpAny (model prog w) A (call (.builtin "min") [.ref l] [(Str.ofString "key", .builtin "len")]) Q E s := by
  obtain ⟨ol, hol, _⟩ := id hl
  have nm : (toString "min" ++ toString ".loop" : String) = "min.loop" := by decide
  have sz : vs.toArray.size = vs.length := by simp
  refine kmb_tree PySem.F.kind_min PySem.F.plain_min PySem.F.entry_min (kmb_min_key _ _) (by
    show wpAny _ A.in1 (Builtin.Builtins.bindParams "min" ["key", "default"] 0 ⟨[], [(Str.ofString "key", .builtin "len")]⟩ >>= _) _ _ s
    refine wpAny_bind (wpAny_of_eq (show Builtin.Builtins.bindParams "min" ["key", "default"] 0 ⟨[], [(Str.ofString "key", .builtin "len")]⟩ = pure [some (.builtin "len"), none] from rfl) (wpAny_bind (wpAny_pure ?_)))
    refine wpAny_bind (wpAny_pyIter_list hl (wpAny_bind (wpAny_newList ?_ (Nat.zero_le _))))
    rw [nm]
    have lI : l ≠ s.heap.objs.size := Nat.ne_of_lt (Heap.lt_size hol)
    have eS : (s.heap.push { cls := .type "list_iterator", data := .fields #[.ref l, .int 0 0] }).objs.size = s.heap.objs.size + 1 := size_push' ..
    have G : Grown s.heap ((s.heap.push { cls := .type "list_iterator", data := .fields #[.ref l, .int 0 0] }).push (seqObj "list" #[] 0)) := fun b o e => Heap.get?_push_of_some _ (Heap.get?_push_of_some _ e)
    have gI : ((s.heap.push { cls := .type "list_iterator", data := .fields #[.ref l, .int 0 0] }).push (seqObj "list" #[] 0)).get? s.heap.objs.size = some { cls := .type "list_iterator", data := .fields #[.ref l, .int 0 0] } := Heap.get?_push_of_some _ (Heap.get?_push_size _ rfl)
    have gS : ((s.heap.push { cls := .type "list_iterator", data := .fields #[.ref l, .int 0 0] }).push (seqObj "list" #[] 0)).get? (s.heap.push { cls := .type "list_iterator", data := .fields #[.ref l, .int 0 0] }).objs.size = some (seqObj "list" #[] 0) := Heap.get?_push_size _ rfl
    rw [eS] at gS ⊢
    have nSI : s.heap.objs.size + 1 ≠ s.heap.objs.size := by omega
    refine wpAny_pure ⟨plainId_quiet PySem.F.plain_min_loop _, codeAny_builtin PySem.F.entry_min_loop ?_⟩
    rw [Around.under_plainId PySem.F.plain_min_loop _]
    show wpAny _ A.in1 (seqItems? (.ref _) >>= _) _ _ _
    have W := Walks.list (prog := prog) (w := w) (A := A.in1) hh s.heap.objs.size l lI vs.toArray
    refine wpAny_bind (wpAny_seqItems gS rfl ?_)
    show wpAny _ A.in1 (tryCatch (pyNext (.ref s.heap.objs.size)) _ >>= _) _ _ _
    refine wpAny_bind (wpAny_tryCatch (W.item 0 _ _ _ (by rw [sz]; exact hne) ⟨⟨_, gI, rfl, rfl⟩, IsL.grown hl G⟩ fun v h' tk' hP st hk => ?_))
    have hv : vs[0]? = some v := by simpa using hP
    have hS2 := hk (s.heap.objs.size + 1) _ (by simp) gS
    have G2 : Grown s.heap h' := fun b o e => hk b o (by simpa using Nat.ne_of_lt (Heap.lt_size e)) (G b o e)
    show wpAny _ A.in1 (tryCatch (holding [v] (call (.builtin "len") [v])) _ >>= _) _ _ _
    refine wpAny_bind (wpAny_tryCatch (wpAny_holding (key 0 v hv h' tk' _ _ G2 fun t2 tk2 => ?_)))
    show wpAny _ A.in1 (updateSeq (s.heap.objs.size + 1) (fun _ => #[v, .int (kf 0) t2]) >>= _) _ _ _
    refine wpAny_bind (wpAny_updateSeq hS2 rfl ?_)
    rw [nm]
    obtain ⟨c2, hc2⟩ : ∃ c2, (h'.update (s.heap.objs.size + 1) (Obj.mapSeq fun _ => #[v, .int (kf 0) t2])).get? (s.heap.objs.size + 1) = some (seqObj "list" #[v, .int (kf 0) t2] c2) := ⟨_, get?_update_seq hS2 fun _ => #[v, .int (kf 0) t2]⟩
    have oth : ∀ b, b ≠ s.heap.objs.size + 1 → (h'.update (s.heap.objs.size + 1) (Obj.mapSeq fun _ => #[v, .int (kf 0) t2])).get? b = h'.get? b := fun b n => Heap.get?_update_other _ _ (fun z : s.heap.objs.size + 1 = b => n z.symm)
    obtain ⟨oI, hoI, hoc, hod⟩ := st.1
    refine wpAny_pure ⟨plainId_quiet PySem.F.plain_min_loop _, loop hh hl key (Nat.le_refl _) (Nat.le_succ _) nSI done (vs.length - 1) 0 0 _ _ v t2 c2 (by omega) (fun b o e => ?_) hc2 ⟨oI, (oth _ nSI.symm).trans hoI, hoc, hod⟩ hv (Nat.le_refl _) fun k hk2 => ?_⟩
    · rw [oth b (Nat.ne_of_lt (Nat.lt_succ_of_lt (Heap.lt_size e)))]
      exact G2 b o e
    · have : k = 0 := by omega
      subst this
      exact ⟨Int.le_refl _, fun y => absurd y (Nat.lt_irrefl _)⟩)
end
section
variable {X : Cx}
/-- min(ways, key=len): the first one of the shortest; all of them lists -/
def rMinLen (K : PySem.W.Frag) : List V → Hp → VK → Prop := fun vs H Q => ∃ (a : Addr) (xs : List V) (yss : List (List V)), vs = [.ref a] ∧ SqL K H a xs ∧ 0 < xs.length ∧ Paired (fun x ys => ∃ p, x = V.ref p ∧ H p = some (.lst ys)) xs yss ∧
  ∀ (i : Nat) (y : V) (ys : List V), xs[i]? = some y → yss[i]? = some ys → (∀ (j : Nat) (zs : List V), yss[j]? = some zs → ys.length ≤ zs.length ∧ (j < i → ys.length < zs.length)) → Q y H
def tMinLen (K : PySem.W.Frag) (ta : TA) : TE := fun σ H Q => ta σ H fun vs H1 => rMinLen K vs H1 Q
theorem paired_at {α β : Type} {F : α → β → Prop} : ∀ {l : List α} {m : List β}, Paired F l m → ∀ (i : Nat) (a : α), l[i]? = some a → ∃ b, m[i]? = some b ∧ F a b
  | _, _, .nil, i, a, e => by simp at e
  | _, _, .cons r t, 0, a, e => by
    cases Option.some.inj e
    exact ⟨_, rfl, r⟩
  | _, _, .cons r t, i + 1, a, e => by
    obtain ⟨b, h1, h2⟩ := paired_at t i a (by simpa using e)
    exact ⟨b, by simpa using h1, h2⟩
theorem pe_minLen {p p2 pos kp : Pos} {e : Expr} {ta : TA} (hc : X.calm = true) (hg : Gl X "min") (hm : X.mg "min" = none) (hgl : Gl X "len") (hml : X.mg "len" = none) (he : PA X [e] ta)
    (h1 : backTo pos (starEach [e] X.env) = (false, eval e X.env) :: backTo pos (starEach [] X.env) := by rfl) (h2 : (backTo pos (starEach [e] X.env)).any (·.1) = false := by rfl)
    (h3 : (backToKw pos (keywordEach [⟨some "key", .Name "len" p2, kp⟩] X.env)).all (·.1.isSome) = true := by rfl) (h4 : (backToKw pos (keywordEach [⟨some "key", .Name "len" p2, kp⟩] X.env)).any (·.1.isNone) = false := by rfl)
    (h5 : (backToKw pos (keywordEach [⟨some "key", .Name "len" p2, kp⟩] X.env)).filterMap (·.1) = [Str.ofString "key"] := by rfl) : PE X (.Call (.Name "min" p) [e] [⟨some "key", .Name "len" p2, kp⟩] pos) (tMinLen X.K ta) := by
  refine ⟨fun pins s σ H Q I h => wpAny_Call_Name_kw (ld_blt (u := .builtin "min") I hg hm (by decide +kernel) (callWith_kw (thn (he.run pos pins s σ H (fun vs H1 => rMinLen X.K vs H1 Q) I h) fun us s1 hus => ?_) h1 h2 h3 h4))⟩
  obtain ⟨vs, H1, I1, rv, a, xs, yss, rfl, hs, hne, hp, q⟩ := hus
  obtain ⟨u, rfl, ru⟩ := vals1 rv
  obtain rfl : u = Value.ref a := ru
  show wpAny _ _ (evalAll ((do let v ← eval (.Name "len" p2) X.env; standAt pos; pure v) :: [])) _ _ s1
  refine wpAny_evalAll_cons (wpAny_bind (ld_blt (u := .builtin "len") I1 hgl hml (by decide +kernel) (wpAny_bind (wpAny_standAt (wpAny_pure (wpAny_evalAll_nil ?_))))))
  rw [h5]
  show wpAny _ _ (call (.builtin "min") [.ref a] [(Str.ofString "key", .builtin "len")]) _ _ s1
  obtain ⟨its, ri, hl, hz⟩ := I1.list hs
  have hlen := ri.length
  refine min_len (kf := fun i => ((yss.getD i []).length : Nat)) (I1.ok.hd hc) hl.isList (by omega) (fun i v hv h tk E Q2 G k => ?_) fun i v h tk hv hb G => ?_
  · have hx : i < xs.length := by
      have := (List.getElem?_eq_some_iff.mp hv).1
      omega
    obtain ⟨ys, hy, p1, e1, e2⟩ := paired_at hp i xs[i] (List.getElem?_eq_getElem hx)
    obtain ⟨u, hu, ru⟩ := ri.get (List.getElem?_eq_getElem hx)
    rw [hv] at hu
    cases hu
    rw [e1] at ru
    obtain rfl : v = Value.ref p1 := ru
    obtain ⟨zy, its2, n, r2, ho⟩ := I1.hok _ _ e2
    have e3 : yss.getD i [] = ys := by rw [List.getD_eq_getElem?_getD, hy]; rfl
    have hl2 : s1.heap.IsList p1 its2.toArray := ⟨_, ho, rfl, _, rfl⟩
    refine Calls.call_len_list (s := { s1 with heap := h, toks := tk }) (IsL.grown hl2 G) (by
      have : its2.toArray.size = ys.length := by rw [List.size_toArray, ← r2.length]
      rw [this]
      have := sizeLine_eq
      omega) ?_
    have e4 : (its2.toArray.size : Int) = (((yss.getD i []).length : Nat) : Int) := by rw [e3, List.size_toArray, ← r2.length]
    rw [e4]
    exact k _ _
  · have hx : i < xs.length := by
      have := (List.getElem?_eq_some_iff.mp hv).1
      omega
    obtain ⟨ys, hy, p1, e1, e2⟩ := paired_at hp i xs[i] (List.getElem?_eq_getElem hx)
    obtain ⟨u, hu, ru⟩ := ri.get (List.getElem?_eq_getElem hx)
    rw [hv] at hu
    cases hu
    have e3 : yss.getD i [] = ys := by rw [List.getD_eq_getElem?_getD, hy]; rfl
    refine ⟨xs[i], H1, I1.kept G, ru, q i _ ys (List.getElem?_eq_getElem hx) hy fun j zs hj => ?_⟩
    have hj2 : j < its.length := by
      have a1 := (List.getElem?_eq_some_iff.mp hj).1
      have a2 := Paired.length hp
      omega
    have e4 : yss.getD j [] = zs := by rw [List.getD_eq_getElem?_getD, hj]; rfl
    have b := hb j hj2
    simp only [e3, e4] at b
    exact ⟨by omega, fun z => by have := b.2 z; omega⟩
/-- a range with a step, kept -/
def RngO (p : Addr) (i j c : Int) : HO := .ext fun h => ∃ t u v, IsRange h p i j c t u v
theorem cr_range3 : CallR X (.type "range") (fun vs H Q => ∃ (i j c : Int), vs = [V.int i, V.int j, V.int c] ∧ c ≠ 0 ∧ c.natAbs < 1073741824 ∧ ∀ p, H p = none → Q (.ref p) (upd H p (RngO p i j c))) := by
  intro pins s σ H vs us Q I r h
  obtain ⟨i, j, c, rfl, c0, c1, q⟩ := h
  cases r with
  | cons r1 r =>
    cases r with
    | cons r2 r =>
      cases r with
      | cons r3 r =>
        cases r
        obtain ⟨t, rfl⟩ := r1
        obtain ⟨u, rfl⟩ := r2
        obtain ⟨v, rfl⟩ := r3
        refine call_range_3 c0 ⟨.ref s.heap.objs.size, upd H s.heap.objs.size (RngO s.heap.objs.size i j c), I.laid (t' := s.toks) (fun b o e => Heap.get?_push_of_some _ e) (Nat.le_refl _) ?_, rfl, q _ (I.hok.fresh (Nat.le_refl _))⟩ (.inl (PyProof.noPylong_small c1))
        exact ⟨⟨t, u, v, IsRange.new ..⟩, ⟨_, Heap.get?_push_size _ rfl⟩, fun h1 h2 ⟨t, u, v, e⟩ k => ⟨t, u, v, k _ e⟩⟩
theorem pi_rngV {tg e : Expr} {te : TE} (he : PE X e te) : PI X tg e (fun σ H R => te σ H fun x H1 => ∃ (p : Addr) (i j c : Int) (n : Nat), x = .ref p ∧ H1 p = some (RngO p i j c) ∧ RgC i j c n ∧ R (Itc i c n) H1) := by
  refine ⟨fun pins s σ H R I h => thn (he.run pins s σ H _ I h) fun v s1 ⟨x, H1, I1, r1, p, i, j, k, n, e1, hp, ⟨c0, c1, c2, c3⟩, q⟩ => ?_⟩
  subst e1
  obtain rfl : v = Value.ref p := r1
  obtain ⟨⟨t, u, w, hr⟩, _⟩ := I1.hok _ _ hp
  refine wpAny_pyIter_range hr c2 (pi_one (tk := s1.toks) I1 _ (turn_rangeC _ i k n) ?_ q)
  have e1 : i + ((0 : Nat) : Int) * k = i := by simp
  have e2 : (n : Int) - ((0 : Nat) : Int) = Builtin.Range.rangeSize i j k := by rw [c3]; simp
  show IsRangeIter _ _ (i + ((0 : Nat) : Int) * k) ((n : Int) - ((0 : Nat) : Int)) k
  rw [e1, e2]
  exact Heap.get?_push_size _ rfl
end
end TS10

/-! sorted(d) of tuple keys; tuples of numbers written into texts -/
namespace TS11
open PySem PySem.Spec PyProof.Rows L2
section
variable {X : Cx}
/-- {t}, t a tuple of whole numbers: some text -/
def tFmtTI (K : PySem.W.Frag) (te : TE) : TE := fun σ H Q => te σ H fun x H1 => ∃ (a : Addr) (l : List Int), x = .ref a ∧ SqT K H1 a (l.map V.int) ∧ l.length ≤ 9 ∧ (∀ i ∈ l, i.natAbs.log2 < 1920) ∧ ∀ m : Str, m.length ≤ 20000 → Q (.str m) H1
theorem repr_ints {prog : Program} {w : World} : ∀ {l : List Int} {its : List Value}, Vals (l.map V.int) its → (∀ i ∈ l, i.natAbs.log2 < 1920) → ReprAll prog w its (l.map fun i => (Str.ofString (toString i)))
  | [], _, r, _ => by
    cases r
    exact .nil
  | i :: l, _, r, h => by
    cases r with
    | cons r1 r2 =>
      obtain ⟨t, rfl⟩ := r1
      exact .cons (ReprIs.int t (h i List.mem_cons_self)) (repr_ints r2 fun j hj => h j (List.mem_cons_of_mem _ hj))
theorem piled_ints : ∀ l : List Int, (∀ i ∈ l, i.natAbs.log2 < 1920) → piled (l.map fun i => (Str.ofString (toString i))) ≤ 1923 * l.length
  | [], _ => Nat.zero_le _
  | i :: l, h => by
    have h1 := int_text_len_1921 (h i List.mem_cons_self)
    have h2 := piled_ints l fun j hj => h j (List.mem_cons_of_mem _ hj)
    rw [List.map_cons, piled_cons, List.length_cons]
    omega
theorem pe_fmtTI {e : Expr} {te : TE} {pos : Pos} {k : Nat} (hr : Room k X.A) (he : PE X e te) : PE X (.FormattedValue e (-1) none pos) (tFmtTI X.K te) := by
  refine ⟨fun pins s σ H Q I h => wpAny_FormattedValue_plain (thn (he.run pins s σ H _ I h) fun v s1 ⟨x, H1, I1, r1, q⟩ => ?_)⟩
  obtain ⟨a, l, rfl, ht, hn, hb, k⟩ := q
  cases r1
  obtain ⟨its, rv, ⟨o, ho, hcl, n, hd⟩, _⟩ := I1.tuple ht
  have hp := piled_ints l hb
  have htx := fmt_text (l.map fun i => (Str.ofString (toString i)))
  have hu := hr.units
  have hsz := sizeLine_eq
  exact fmt_tuple (ts := l.map fun i => (Str.ofString (toString i))) (by omega) ho hcl hd (repr_ints rv hb) (by omega) fun m u tk hm => ⟨.str m, H1, I1.tok _, ⟨u, rfl⟩, k m (by omega)⟩
/-- sorted(d), the keys pairs of whole numbers: k tells an address' pair -/
def rSortedD : List V → Hp → VK → Prop := fun vs H Q => ∃ (d : Addr) (kvs : List (List Key × V)) (k : V → Int × Int), vs = [V.ref d] ∧ H d = some (.dT kvs) ∧ (∀ bs, IsKeys H kvs bs → ∀ b ∈ bs, H b = some (.tup [.int (k (.ref b)).1, .int (k (.ref b)).2])) ∧
  ∀ p bs ys, H p = none → IsKeys H kvs bs → SrtO.Srtd (ltP k) ys → SrtO.Stb (ltP k) ys (bs.map V.ref) → Q (.ref p) (upd H p (.lst ys))
theorem refs_only : ∀ {us : List Value}, (∀ u ∈ us, ∃ a, u = Value.ref a) → us = (us.map fun u => match u with | .ref a => a | _ => 0).map Value.ref
  | [], _ => rfl
  | u :: us, h => by
    obtain ⟨a, rfl⟩ := h _ List.mem_cons_self
    show Value.ref a :: us = Value.ref a :: _
    rw [← refs_only fun u hu => h u (List.mem_cons_of_mem _ hu)]
theorem cr_sorted_dT (hc : X.calm = true) : CallR X (.builtin "sorted") rSortedD := by
  intro pins s σ H vs us Q I r h
  obtain ⟨d, kvs, k, rfl, hd, hk, q⟩ := h
  obtain ⟨u, rfl, ru⟩ := vals1 r
  obtain rfl : u = Value.ref d := ru
  obtain ⟨z, hsm, ks, pr, o, es, ep, ho, hx, hdt, he, hn⟩ := (show ObjOk X.prog X.w H s.heap d (.dT kvs) from I.hok d _ hd)
  have l1 : es.size = ks.length := size_of_entries he
  have l2 : kvs.length = ks.length := Paired.length pr
  have hsz := sizeLine_eq
  refine Calls.call_function_entry kind_sorted plain_sorted entry_sorted (args_sorted1 _) (by
    unfold Builtin.«sorted»
    refine wpAny_bind (m := checkCount "sorted" 1 1 _) (wpAny_pure (wpAny_bind (PySem.W.kdu_collect (A := X.A.in1) (kdl_raw hsm hx hdt) (I.ok.hd hc) ho (by omega) fun h' tk acc kp it => ?_)))
    have ea : acc.toList = (ks.map fun x => x.2.1).map Value.ref := by
      apply List.ext_getElem?
      intro j
      have hl : acc.toList.length = ks.length := by rw [Array.length_toList, it.1]; exact l1
      cases hj : acc.toList[j]? with
      | none =>
        have h1 := List.getElem?_eq_none_iff.mp hj
        exact (List.getElem?_eq_none (by rw [List.length_map, List.length_map]; omega)).symm
      | some v =>
        obtain ⟨en, hen, hv⟩ := it.2 j v (by rw [← Array.getElem?_toList]; exact hj)
        have qe := entry_at he j
        rw [hen] at qe
        cases hb : ks[j]? with
        | none =>
          rw [hb] at qe
          exact nomatch (show some en = none from qe)
        | some b =>
          rw [hb] at qe
          have e2 : en = entryOfKey (tupleKind (mixKind X.prog X.w)) b := Option.some.inj qe
          rw [hv, e2, List.getElem?_map, List.getElem?_map, hb]
          rfl
    have hK : IsKeys H kvs (ks.map fun x => x.2.1) := isKeys_of pr
    have hlen : acc.toList.length ≤ sizeLine := by rw [ea, List.length_map, List.length_map]; omega
    have I1 : Inv X pins σ H { s with heap := h', toks := tk } := I.kept kp
    refine wpAny_bind (wpAny_newList ?_ hlen)
    have hoL : (h'.push (seqObj "list" acc.toList.toArray 0)).get? h'.objs.size = some (seqObj "list" acc.toList.toArray 0) := Heap.get?_push_size _ rfl
    have hp : ∀ v ∈ acc.toList, Srt.IsPair h' v (k (backV v)).1 (k (backV v)).2 := by
      intro v hv
      rw [ea] at hv
      obtain ⟨b, hb, rfl⟩ := List.mem_map.mp hv
      have ht := hk _ hK b hb
      obtain ⟨_, its2, r2, o2, ho2, hc2, n2, hd2⟩ := I1.hok _ _ ht
      obtain ⟨u1, u2, rfl, ri, rj⟩ := vals2 r2
      obtain ⟨t1, rfl⟩ := ri
      obtain ⟨t2, rfl⟩ := rj
      exact ⟨b, o2, t1, t2, n2, rfl, ho2, hc2, hd2⟩
    show wpAny _ _ _ _ _ { s with heap := h'.push (seqObj "list" acc.toList.toArray 0), toks := tk }
    refine wpAny_bind (wpAny_holding (wpAny_call_entry slot_list_sort ⟨_, hoL, rfl⟩ entry_list_sort (SrtO.list_sort_ord (s := { s with heap := h'.push (seqObj "list" acc.toList.toArray 0), toks := tk }) (SrtO.swo_lex fun u => k (backV u)) hoL hlen (fun h2 => SrtO.pairs_sortableO (by omega) (fun v hm => (hp v hm).keeps fun b o e _ => Heap.get?_push_of_some _ e) fun o e c => ?_) fun out hs hb => ⟨_, rfl, ?_⟩) (args_list_sort _)))
    · have e' : some o = some (seqObj "list" acc.toList.toArray 0) := e.symm.trans hoL
      cases e'
      exact absurd (Value.type.inj c) (by decide)
    · obtain ⟨e1, he1⟩ := sortedHeap_at (vs := acc.toList) (out := out.toArray) hoL
      have h3 : ∀ u ∈ out, ∃ a, u = Value.ref a := fun u hu => by
        have hm := hb.perm.mem_iff.mp hu
        rw [ea] at hm
        obtain ⟨b, _, e⟩ := List.mem_map.mp hm
        exact ⟨b, e.symm⟩
      have hst : SrtO.Stb (ltP k) (out.map backV) ((ks.map fun x => x.2.1).map V.ref) := by
        have e2 : ((ks.map fun x => x.2.1).map V.ref) = acc.toList.map backV := by
          rw [ea]
          simp only [List.map_map]
          rfl
        rw [e2]
        exact SrtO.Stb.map (ltP_swo k) backV hb
      have hlo : (out.map backV).length ≤ sizeLine := by rw [hst.len, List.length_map, List.length_map]; omega
      refine wpAny_pure ⟨_, rfl, .ref h'.objs.size, upd H h'.objs.size (.lst (out.map backV)), I1.laid (t' := tk) (fun b o e => ?_) (Nat.le_refl _) (show ObjOk X.prog X.w _ _ _ (.lst (out.map backV)) from ⟨hlo, out, e1, vals_back h3, he1⟩), rfl, q _ _ _ (I1.hok.fresh (Nat.le_refl _)) hK (SrtO.srtd_map hs) hst⟩
      have hb2 : b < h'.objs.size := Heap.lt_size e
      rw [sortedHeap_old (Nat.ne_of_lt hb2) (by rw [size_push']; exact Nat.lt_succ_of_lt hb2)]
      exact Heap.get?_push_of_some _ e)
end
end TS11

/-! the table of the program: its two dicts -/
namespace TB
open PySem L2 Ck TS2 TX
/-- L with n at s -/
def putN (L : Held) (s : Seat) (n : Name) : Held := if (L.any fun x => decide (x.1 = s)) = true then L.map fun x => if x.1 = s then (x.1, n) else x else L ++ [(s, n)]
theorem hk_any (L : Held) (s : Seat) : ((hk L).any fun kv => decide (kv.1 = sk s)) = L.any fun x => decide (x.1 = s) := by
  unfold hk
  rw [List.any_map]
  congr 1
  funext x
  show decide (sk x.1 = sk s) = decide (x.1 = s)
  by_cases e : x.1 = s
  · rw [e]
    simp
  · have e2 : ¬ sk x.1 = sk s := fun q => e (sk_inj q)
    rw [decide_eq_false e, decide_eq_false e2]
theorem hk_putN (L : Held) (s : Seat) (n : Name) : putK (hk L) (sk s) (.str (tx n)) = hk (putN L s n) := by
  unfold putK putN
  rw [hk_any]
  by_cases h : (L.any fun x => decide (x.1 = s)) = true
  · rw [if_pos h, if_pos h]
    unfold hk
    rw [List.map_map, List.map_map]
    refine List.map_congr_left fun x _ => ?_
    show (if sk x.1 = sk s then (sk x.1, V.str (tx n)) else (sk x.1, V.str (tx x.2))) = (sk (if x.1 = s then (x.1, n) else x).1, V.str (tx (if x.1 = s then (x.1, n) else x).2))
    by_cases e : x.1 = s
    · rw [if_pos e, if_pos (by rw [e])]
    · rw [if_neg e, if_neg (fun q => e (sk_inj q))]
  · rw [if_neg h, if_neg h, ← hk_app]
    rfl
theorem putN_keys {L : Held} (s : Seat) (n : Name) (hn : (L.map (·.1)).Nodup) : ((putN L s n).map (·.1)).Nodup := by
  unfold putN
  by_cases h : (L.any fun x => decide (x.1 = s)) = true
  · rw [if_pos h, List.map_map]
    have e : L.map ((fun x => x.1) ∘ fun x : Seat × Name => if x.1 = s then (x.1, n) else x) = L.map (·.1) := by
      refine List.map_congr_left fun x _ => ?_
      show (if x.1 = s then (x.1, n) else x).1 = x.1
      split <;> rfl
    rw [e]
    exact hn
  · rw [if_neg h, List.map_append, List.nodup_append]
    refine ⟨hn, by simp, fun a ha b hb => ?_⟩
    have hb2 : b = s := by simpa using hb
    rw [hb2]
    intro e
    obtain ⟨x, hx, ex⟩ := List.mem_map.mp ha
    exact h (List.any_eq_true.mpr ⟨x, hx, decide_eq_true (ex.trans e)⟩)
theorem putN_len (L : Held) (s : Seat) (n : Name) : (putN L s n).length ≤ L.length + 1 := by
  unfold putN
  split
  · rw [List.length_map]
    omega
  · rw [List.length_append]
    exact Nat.le_refl _
theorem getN_putN (L : Held) (s : Seat) (n : Name) (t : Seat) : getN (putN L s n) t = if t = s then some n else getN L t := by
  unfold putN
  by_cases h : (L.any fun x => decide (x.1 = s)) = true
  · rw [if_pos h]
    have key : ∀ M : Held, getN (M.map fun x => if x.1 = s then (x.1, n) else x) t = if t = s then (if (M.any fun x => decide (x.1 = s)) = true then some n else none) else getN M t := by
      intro M
      induction M with
      | nil =>
        show (none : Option Name) = _
        by_cases e : t = s
        · rw [if_pos e]
          rfl
        · rw [if_neg e]
          rfl
      | cons x M ih =>
        rw [List.map_cons, getN_cons, ih, List.any_cons]
        by_cases e : x.1 = s
        · rw [if_pos e]
          by_cases q : t = s
          · rw [if_pos (show (x.1, n).1 = t from e.trans q.symm), if_pos q, if_pos (by simp [e])]
          · rw [if_neg (show ¬ (x.1, n).1 = t from fun z => q (z.symm.trans e)), if_neg q, if_neg q, getN_cons, if_neg (fun z => q (z.symm.trans e))]
        · rw [if_neg e]
          by_cases q : t = s
          · rw [if_neg (fun z => e (z.trans q)), if_pos q, if_pos q]
            rw [decide_eq_false e, Bool.false_or]
          · rw [if_neg q, if_neg q, getN_cons]
    rw [key, if_pos h]
  · rw [if_neg h, getN_app1 (getN_none.mpr fun hs => by
      obtain ⟨x, hx, ex⟩ := List.mem_map.mp hs
      exact h (List.any_eq_true.mpr ⟨x, hx, decide_eq_true ex⟩))]
/-- where each name stands and with which value -/
abbrev Thg := Name → Option (Seat × Int)
def ThAt (H : Hp) (o : Option V) : Option (Seat × Int) → Prop
  | none => o = none
  | some (s, v) => ∃ t q, o = some (.ref t) ∧ H t = some (.tup [.ref q, .int v]) ∧ H q = some (.tup (sv s))
structure TH (H : Hp) (kv : List (Key × V)) (g : Thg) : Prop where
  nd : (kv.map (·.1)).Nodup
  nm : ∀ e ∈ kv, ∃ n : Name, e.1 = Sum.inr (tx n)
  is : ∀ n : Name, ThAt H (valV kv (.inr (tx n))) (g n)
theorem ThAt.keep {H H' : Hp} (k : ∀ b ys, H b = some (.tup ys) → H' b = some (.tup ys)) : ∀ {o : Option V} {r : Option (Seat × Int)}, ThAt H o r → ThAt H' o r
  | _, none, h => h
  | _, some (s, v), ⟨t, q, e, h1, h2⟩ => ⟨t, q, e, k _ _ h1, k _ _ h2⟩
theorem TH.keep {H H' : Hp} {kv : List (Key × V)} {g : Thg} (x : TH H kv g) (k : ∀ b ys, H b = some (.tup ys) → H' b = some (.tup ys)) : TH H' kv g := ⟨x.nd, x.nm, fun n => (x.is n).keep k⟩
theorem TH.nil {H : Hp} : TH H [] (fun _ => none) := ⟨List.nodup_nil, fun _ h => (by cases h), fun _ => rfl⟩
theorem TH.put {H : Hp} {kv : List (Key × V)} {g : Thg} (x : TH H kv g) {n : Name} {s : Seat} {v : Int} {t q : Addr} (h1 : H t = some (.tup [.ref q, .int v])) (h2 : H q = some (.tup (sv s))) : TH H (putK kv (.inr (tx n)) (.ref t)) (fun m => if m = n then some (s, v) else g m) where
  nd := (keys_putK _ _ _).mpr x.nd
  nm := fun e he => by
    rcases mem_putK he with z | ⟨z, _⟩
    · exact ⟨n, by rw [z]⟩
    · exact x.nm e z
  is := fun m => by
    rw [valV_put]
    by_cases e : m = n
    · rw [if_pos (by rw [e]), if_pos e]
      exact ⟨t, q, rfl, h1, h2⟩
    · rw [if_neg (fun z => e (ikey z)), if_neg e]
      exact x.is m
theorem valV_drop {kv : List (Key × V)} {m n : Name} : valV (dropK kv (.inr (tx n))) (.inr (tx m)) = if m = n then none else valV kv (.inr (tx m)) := by
  by_cases e : m = n
  · rw [if_pos e, e]
    unfold valV dropK
    rw [Option.map_eq_none_iff, List.find?_eq_none]
    intro x hx hq
    have h1 := (List.mem_filter.mp hx).2
    simp at h1 hq
    exact h1 hq
  · rw [if_neg e]
    unfold valV dropK
    rw [List.find?_filter]
    congr 1
    congr 1
    funext x
    by_cases q : x.1 = .inr (tx m)
    · have : x.1 ≠ .inr (tx n) := fun z => e (ikey (q.symm.trans z))
      simp [q]
      exact e
    · simp [q]
theorem TH.drop {H : Hp} {kv : List (Key × V)} {g : Thg} (x : TH H kv g) (n : Name) : TH H (dropK kv (.inr (tx n))) (fun m => if m = n then none else g m) where
  nd := x.nd.sublist (List.Sublist.map _ List.filter_sublist)
  nm := fun e he => x.nm e (List.mem_filter.mp he).1
  is := fun m => by
    rw [valV_drop]
    by_cases e : m = n
    · rw [if_pos e, if_pos e]
      rfl
    · rw [if_neg e, if_neg e]
      exact x.is m
/-- the things of L -/
def thg (L : Held) (vals : Name → Int) : Thg := fun n => (L.find? fun x => decide (x.2 = n)).map fun x => (x.1, vals n)
theorem thg_none {L : Held} {vals : Name → Int} {n : Name} : thg L vals n = none ↔ n ∉ L.map (·.2) := by
  unfold thg
  rw [Option.map_eq_none_iff, List.find?_eq_none]
  constructor
  · intro h hn
    obtain ⟨x, hx, e⟩ := List.mem_map.mp hn
    exact h x hx (decide_eq_true e)
  · intro h x hx e
    exact h (List.mem_map.mpr ⟨x, hx, of_decide_eq_true e⟩)
theorem thg_is {L : Held} {vals : Name → Int} {n : Name} {r : Seat × Int} (h : thg L vals n = some r) : (r.1, n) ∈ L ∧ r.2 = vals n := by
  unfold thg at h
  cases e : L.find? fun x => decide (x.2 = n) with
  | none => rw [e] at h; cases h
  | some x =>
    rw [e] at h
    cases h
    have h1 := List.mem_of_find?_eq_some e
    have h2 : x.2 = n := by
      have q := List.find?_some e
      simpa using q
    refine ⟨?_, rfl⟩
    rw [← h2]
    exact h1
theorem thg_of {L : Held} (inj : ∀ s t n, getN L s = some n → getN L t = some n → s = t) (ns : (L.map (·.1)).Nodup) {vals : Name → Int} {n : Name} {s : Seat} (h : getN L s = some n) : thg L vals n = some (s, vals n) := by
  cases e : thg L vals n with
  | none => exact (thg_none.mp e (List.mem_map.mpr ⟨_, getN_mem h, rfl⟩)).elim
  | some r =>
    obtain ⟨h1, h2⟩ := thg_is e
    have q := inj _ _ _ (getN_of_mem ns h1) h
    obtain ⟨a, b⟩ := r
    simp only at q h2
    rw [q, h2]
/-- the names of a dict of things -/
theorem TH.names {H : Hp} {kv : List (Key × V)} {g : Thg} (x : TH H kv g) : ∃ ms : List Name, ms.Nodup ∧ ms.length = kv.length ∧ ∀ n, n ∈ ms ↔ g n ≠ none := by
  have key : ∀ M : List (Key × V), (∀ e ∈ M, ∃ n : Name, e.1 = Sum.inr (tx n)) → ∃ ms : List Name, M.map (·.1) = ms.map (fun n => (Sum.inr (tx n) : Key)) := by
    intro M
    induction M with
    | nil => intro _; exact ⟨[], rfl⟩
    | cons e r ih =>
      intro hM
      obtain ⟨n, e1⟩ := hM e List.mem_cons_self
      obtain ⟨ms, e2⟩ := ih fun x hx => hM x (List.mem_cons_of_mem _ hx)
      exact ⟨n :: ms, by rw [List.map_cons, List.map_cons, e2, e1]⟩
  obtain ⟨ms, e⟩ := key kv x.nm
  refine ⟨ms, ?_, ?_, fun n => ?_⟩
  · have q := x.nd
    rw [e] at q
    exact List.Pairwise.imp (fun hne heq => hne (by rw [heq])) (List.pairwise_map.mp q)
  · have q := congrArg List.length e
    rw [List.length_map, List.length_map] at q
    exact q.symm
  · have q : n ∈ ms ↔ (Sum.inr (tx n) : Key) ∈ kv.map (·.1) := by
      rw [e]
      constructor
      · intro hn
        exact List.mem_map.mpr ⟨n, hn, rfl⟩
      · intro hn
        obtain ⟨m, hm, em⟩ := List.mem_map.mp hn
        exact ikey em ▸ hm
    have z := x.is n
    constructor
    · intro hn h0
      rw [h0] at z
      obtain ⟨y, hy, ey⟩ := List.mem_map.mp (q.mp hn)
      have z2 : valV kv (.inr (tx n)) = none := z
      unfold valV at z2
      rw [Option.map_eq_none_iff, List.find?_eq_none] at z2
      exact z2 y hy (decide_eq_true ey)
    · intro h0
      cases e3 : g n with
      | none => exact (h0 e3).elim
      | some r =>
        obtain ⟨s, v⟩ := r
        rw [e3] at z
        obtain ⟨t, p, e4, _⟩ := z
        obtain ⟨y, hy, ey⟩ := valV_mem e4
        exact q.mpr (List.mem_map.mpr ⟨y, hy, ey⟩)
theorem nd_len {α : Type} [DecidableEq α] {A B : List α} (ha : A.Nodup) (hb : B.Nodup) (h : ∀ x, x ∈ A ↔ x ∈ B) : A.length = B.length := ((List.perm_ext_iff_of_nodup ha hb).mpr h).length_eq
theorem TH.len {H : Hp} {kv : List (Key × V)} {L : Held} {vals : Name → Int} (x : TH H kv (thg L vals)) (nn : (L.map (·.2)).Nodup) : kv.length = L.length := by
  obtain ⟨ms, h1, h2, h3⟩ := x.names
  rw [← h2, nd_len h1 nn fun n => (h3 n).trans (by
    constructor
    · intro h
      by_cases q : n ∈ L.map (·.2)
      · exact q
      · exact (h (thg_none.mpr q)).elim
    · intro h e
      exact thg_none.mp e h), List.length_map]
theorem get_len {L M : Held} (h1 : (L.map (·.1)).Nodup) (h2 : (M.map (·.1)).Nodup) (h : ∀ s, getN L s = getN M s) : L.length = M.length := by
  have key : ∀ {A B : Held}, (∀ s, getN A s = getN B s) → ∀ s, s ∈ A.map (·.1) → s ∈ B.map (·.1) := by
    intro A B h s hs
    by_cases q : s ∈ B.map (·.1)
    · exact q
    · rw [← getN_none, ← h s] at q
      exact (getN_none.mp q hs).elim
  have e := nd_len h1 h2 fun s => ⟨key h s, key (fun s => (h s).symm) s⟩
  rwa [List.length_map, List.length_map] at e
theorem get_mem {L M : Held} (h1 : (L.map (·.1)).Nodup) (h2 : (M.map (·.1)).Nodup) (h : ∀ s, getN L s = getN M s) (x : Seat × Name) : x ∈ L ↔ x ∈ M := by
  constructor
  · intro q
    exact getN_mem ((h x.1).symm.trans (getN_of_mem h1 q))
  · intro q
    exact getN_mem ((h x.1).trans (getN_of_mem h2 q))
theorem nodup_fst {L : Held} (nn : (L.map (·.2)).Nodup) {x y : Seat × Name} (hx : x ∈ L) (hy : y ∈ L) (e : x.2 = y.2) : x.1 = y.1 := by
  have key : ∀ M : Held, (M.map (·.2)).Nodup → x ∈ M → y ∈ M → x.1 = y.1 := by
    intro M
    induction M with
    | nil => intro _ h; cases h
    | cons z M ih =>
      intro hn h1 h2
      rw [List.map_cons, List.nodup_cons] at hn
      rcases List.mem_cons.mp h1 with e1 | e1
      · rcases List.mem_cons.mp h2 with e2 | e2
        · rw [e1, e2]
        · exact (hn.1 (List.mem_map.mpr ⟨_, e2, by rw [← e, e1]⟩)).elim
      · rcases List.mem_cons.mp h2 with e2 | e2
        · exact (hn.1 (List.mem_map.mpr ⟨_, e1, by rw [e, e2]⟩)).elim
        · exact ih hn.2 e1 e2
  exact key L nn hx hy
theorem nodup_snd1 {L : Held} (ns : (L.map (·.1)).Nodup) {s : Seat} {n m : Name} (h1 : (s, n) ∈ L) (h2 : (s, m) ∈ L) : n = m := by
  have a := getN_of_mem ns h1
  rw [getN_of_mem ns h2] at a
  exact (Option.some.inj a).symm
theorem GoodT.sub {c t1 t2 : Int} {L M : Held} (g : GoodT c t1 t2 L) (h : M.Sublist L) : GoodT c t1 t2 M :=
  ⟨g.ns.sublist (h.map _), g.nn.sublist (h.map _), fun x hx => g.ok x (h.subset hx), fun x hx => g.home x (h.subset hx), g.c0, g.c1, g.a0, g.a1, g.b0, g.b1⟩
/-- the table's fields -/
def flds (c t1 t2 : Int) (d w : Addr) : List (Str × V) := [("count", .int c), ("first", .int t1), ("second", .int t2), ("_names", .ref d), ("_things", .ref w)]
structure Raw (C : Addr) (H : Hp) (a dx d w : Addr) (c t1 t2 : Int) (m : Nat) (f : Seat → Option Name) (g : Thg) (L : Held) (kv : List (Key × V)) : Prop where
  ins : H a = some (.ins C dx (flds c t1 t2 d w))
  nms : H d = some (.dT (hk L))
  nd : (L.map (·.1)).Nodup
  f : ∀ s, getN L s = f s
  len : L.length ≤ m
  ths : H w = some (.dK kv)
  th : TH H kv g
  len2 : kv.length ≤ m
def TabAt (C : Addr) (H : Hp) (a : Addr) (F : List Addr) (c t1 t2 : Int) (L : Held) (vals : Name → Int) : Prop := GoodT c t1 t2 L ∧ ∃ (dx d w : Addr) (M : Held) (kv : List (Key × V)), F = [a, d, w] ∧ Raw C H a dx d w c t1 t2 L.length (getN L) (thg L vals) M kv
section
variable {C : Addr} {H H' : Hp} {a dx d w : Addr} {F : List Addr} {c t1 t2 : Int} {m : Nat} {f : Seat → Option Name} {g : Thg} {L M : Held} {kv : List (Key × V)} {vals : Name → Int}
theorem Raw.keep (x : Raw C H a dx d w c t1 t2 m f g M kv) (e : ∀ b ∈ [a, d, w], H' b = H b) (et : ∀ b ys, H b = some (.tup ys) → H' b = some (.tup ys)) : Raw C H' a dx d w c t1 t2 m f g M kv :=
  ⟨(e _ (by simp)).trans x.ins, (e _ (by simp)).trans x.nms, x.nd, x.f, x.len, (e _ (by simp)).trans x.ths, x.th.keep et, x.len2⟩
theorem Raw.same (x : Raw C H a dx d w c t1 t2 m f g M kv) (e : Same H H') : Raw C H' a dx d w c t1 t2 m f g M kv :=
  ⟨e _ _ x.ins, e _ _ x.nms, x.nd, x.f, x.len, e _ _ x.ths, x.th.keep fun b ys h => e _ _ h, x.len2⟩
theorem Raw.cast {f' : Seat → Option Name} {g' : Thg} (x : Raw C H a dx d w c t1 t2 m f g M kv) (hf : ∀ s, f s = f' s) (hg : ∀ n, g n = g' n) : Raw C H a dx d w c t1 t2 m f' g' M kv :=
  ⟨x.ins, x.nms, x.nd, fun s => (x.f s).trans (hf s), x.len, x.ths, ⟨x.th.nd, x.th.nm, fun n => hg n ▸ x.th.is n⟩, x.len2⟩
theorem Raw.nad (x : Raw C H a dx d w c t1 t2 m f g M kv) : a ≠ d := ne_of x.ins x.nms (by intro z; cases z)
theorem Raw.naw (x : Raw C H a dx d w c t1 t2 m f g M kv) : a ≠ w := ne_of x.ins x.ths (by intro z; cases z)
theorem Raw.ndw (x : Raw C H a dx d w c t1 t2 m f g M kv) : d ≠ w := ne_of x.nms x.ths (by intro z; cases z)
theorem TabAt.good (x : TabAt C H a F c t1 t2 L vals) : GoodT c t1 t2 L := x.1
theorem TabAt.keep (x : TabAt C H a F c t1 t2 L vals) (e : ∀ b ∈ F, H' b = H b) (et : ∀ b ys, H b = some (.tup ys) → H' b = some (.tup ys)) : TabAt C H' a F c t1 t2 L vals := by
  obtain ⟨g, dx, d, w, M, kv, rfl, R⟩ := x
  exact ⟨g, dx, d, w, M, kv, rfl, R.keep e et⟩
theorem TabAt.has (x : TabAt C H a F c t1 t2 L vals) : ∀ b ∈ F, ∃ o, H b = some o ∧ ∀ ys, o ≠ .tup ys := by
  obtain ⟨g, dx, d, w, M, kv, rfl, R⟩ := x
  intro b hb
  rcases List.mem_cons.mp hb with rfl | hb
  · exact ⟨_, R.ins, fun _ z => by cases z⟩
  rcases List.mem_cons.mp hb with rfl | hb
  · exact ⟨_, R.nms, fun _ z => by cases z⟩
  rcases List.mem_cons.mp hb with rfl | hb
  · exact ⟨_, R.ths, fun _ z => by cases z⟩
  · cases hb
/-- the names of methods; none is a field's -/
def metNames : List Str := ["homes", "at", "way", "put", "put_at", "moves", "crowd", "take_out", "value", "where", "names", "many", "_check_nest", "_thing", "_stand", "_other_home", "_ways", "_is_open", "_open_way", "_moves_on"]
theorem flds_no {m : Str} (hm : m ∈ metNames) : (flds c t1 t2 d w).lookup m = none := by
  have n : ∀ f : Str, f ∈ (["count", "first", "second", "_names", "_things"] : List Str) → (m == f) = false := by
    intro f hf
    have key : (metNames.all fun m => (["count", "first", "second", "_names", "_things"] : List Str).all fun f => !(m == f)) = true := by decide +kernel
    simpa using List.all_eq_true.mp (List.all_eq_true.mp key m hm) f hf
  unfold flds
  simp only [List.lookup, n "count" (by simp), n "first" (by simp), n "second" (by simp), n "_names" (by simp), n "_things" (by simp)]
theorem TabAt.ins (x : TabAt C H a F c t1 t2 L vals) : ∃ dx fs, H a = some (.ins C dx fs) ∧ fs.lookup ("count" : Str) = some (.int c) ∧ fs.lookup ("first" : Str) = some (.int t1) ∧ fs.lookup ("second" : Str) = some (.int t2) ∧
    ∀ m ∈ (["homes", "at", "way", "put", "put_at", "moves", "crowd", "take_out", "value", "where", "names", "many"] : List Str), fs.lookup m = none := by
  obtain ⟨g, dx, d, w, M, kv, rfl, R⟩ := x
  refine ⟨dx, _, R.ins, rfl, rfl, rfl, fun m hm => flds_no ?_⟩
  have : ∀ m ∈ (["homes", "at", "way", "put", "put_at", "moves", "crowd", "take_out", "value", "where", "names", "many"] : List Str), m ∈ metNames := by decide +kernel
  exact this m hm
/-- put together again -/
theorem TabAt.of {k : Nat} (gd : GoodT c t1 t2 L) (R : Raw C H a dx d w c t1 t2 k (getN L) (thg L vals) M kv) : TabAt C H a [a, d, w] c t1 t2 L vals :=
  ⟨gd, dx, d, w, M, kv, rfl, R.ins, R.nms, R.nd, R.f, Nat.le_of_eq (get_len R.nd gd.ns R.f), R.ths, R.th, Nat.le_of_eq (R.th.len gd.nn)⟩
theorem TabAt.tup (x : TabAt C H a F c t1 t2 L vals) {b : Addr} {ys : List V} (h : H b = some (.tup ys)) : b ∉ F := fun hb => by
  obtain ⟨o, h1, h2⟩ := x.has b hb
  rw [h] at h1
  exact h2 ys (Option.some.inj h1).symm
theorem TabAt.new (x : TabAt C H a F c t1 t2 L vals) {b : Addr} (h : H b = none) : b ∉ F := fun hb => by
  obtain ⟨o, h1, _⟩ := x.has b hb
  rw [h] at h1
  cases h1
theorem TabAt.same (x : TabAt C H a F c t1 t2 L vals) (e : Same H H') : TabAt C H' a F c t1 t2 L vals := x.keep (fun b hb => by
  obtain ⟨o, h1, _⟩ := x.has b hb
  rw [h1]
  exact e _ _ h1) fun b ys h => e _ _ h
/-- an object that is not its own may change -/
theorem TabAt.mut (x : TabAt C H a F c t1 t2 L vals) {b : Addr} {o o' : HO} (hb : b ∉ F) (h : H b = some o) (ho : ∀ ys, o ≠ .tup ys) : TabAt C (upd H b o') a F c t1 t2 L vals := x.keep (fun d hd => upd_ne (fun e => hb (e ▸ hd))) fun d ys hd => by
  rw [upd_ne (fun e => by rw [e, h] at hd; exact ho ys (Option.some.inj hd))]
  exact hd
end
def vAt (L : Held) (s : Seat) : V := match getN L s with
  | some n => .str (tx n)
  | none => .non
end TB

/-! readings that don't name the place in which they stand -/
namespace TB
open PySem L2 Ck TS2 TX
/-- o.f within a comprehension -/
theorem pe_fldAt {X : Cx} {K : PySem.W.Frag} {e : Expr} {ta : TE} {f : Str} {pos : Pos} (hK : X.K = K) (h : PE X (.Attribute e f pos) (tFld X.K ta f)) : PE X (.Attribute e f pos) (tFld K ta f) := hK ▸ h
end TB

/-! what a deed does, as a function of who stands where -/
namespace TB
open PySem L2 Ck TS2 TX
abbrev Stand := Seat → Option Name
open Classical in
/-- the way from s -/
noncomputable def wayG (hm : Name → Int × Int) (g : Stand) (s : Seat) : List Seat := if h : ∃ W, IsWay (nxN hm g) s W then Classical.choose h else []
theorem wayG_is {hm : Name → Int × Int} (L : Held) (s : Seat) : IsWay (nxN hm (getN L)) s (wayG hm (getN L) s) := by
  have h := way_is (hm := hm) L s
  unfold wayG
  rw [dif_pos h]
  exact Classical.choose_spec h
theorem wayG_eq {hm : Name → Int × Int} {L : Held} {s : Seat} {W : List Seat} (h : IsWay (nxN hm (getN L)) s W) : W = wayG hm (getN L) s := h.uniq (wayG_is L s)
def openG (g : Stand) (W : List Seat) : Prop := ∀ z, W.getLast? = some z → g z = none
def thereG (g : Stand) (n : Name) : Prop := ∃ s, g s = some n
def movesG (g : Stand) (W : List Seat) : List (Name × Seat × Seat) := ((W.zip W.tail).map fun p => ((g p.1).getD [], p.1, p.2)).reverse
theorem movesG_eq (L : Held) (W : List Seat) : movesOf L W = movesG (getN L) W := rfl
open Classical in
/-- the way that is taken, if one is -/
noncomputable def takenG (hm : Name → Int × Int) (g : Stand) (n : Name) : Option (List Seat) :=
  if openG g (wayG hm g (seatP (hm n) 0)) ∧ (openG g (wayG hm g (seatP (hm n) 1)) → (wayG hm g (seatP (hm n) 0)).length ≤ (wayG hm g (seatP (hm n) 1)).length) then some (wayG hm g (seatP (hm n) 0))
  else if openG g (wayG hm g (seatP (hm n) 1)) then some (wayG hm g (seatP (hm n) 1)) else none
theorem mvkeep {H H' : Hp} {x : V} {m : Name × Seat × Seat} (r : MoveAt H x m) (k : ∀ b ys, H b = some (.tup ys) → H' b = some (.tup ys)) : MoveAt H' x m := by
  obtain ⟨t, q1, q2, e, a, b, c⟩ := r
  exact ⟨t, q1, q2, e, k _ _ a, k _ _ b, k _ _ c⟩
theorem pmono {α β : Type} {F G : α → β → Prop} (h : ∀ a b, F a b → G a b) : ∀ {l : List α} {m : List β}, PySem.Paired F l m → PySem.Paired G l m
  | _, _, .nil => .nil
  | _, _, .cons r t => .cons (h _ _ r) (pmono h t)
theorem psnoc {α β : Type} {F : α → β → Prop} {a : α} {b : β} (r : F a b) : ∀ {l : List α} {m : List β}, PySem.Paired F l m → PySem.Paired F (l ++ [a]) (m ++ [b])
  | _, _, .nil => .cons r .nil
  | _, _, .cons h t => .cons h (psnoc r t)
open Classical in
/-- the way found behind i of the homes -/
noncomputable def foundG (hm : Name → Int × Int) (g : Stand) (n : Name) : Nat → Option (List Seat)
  | 0 => none
  | i + 1 => if openG g (wayG hm g (seatP (hm n) (i : Int))) ∧ ∀ V, foundG hm g n i = some V → (wayG hm g (seatP (hm n) (i : Int))).length < V.length then some (wayG hm g (seatP (hm n) (i : Int))) else foundG hm g n i
open Classical in
theorem foundG_two (hm : Name → Int × Int) (g : Stand) (n : Name) : foundG hm g n 2 = takenG hm g n := by
  have h0 : foundG hm g n 1 = if openG g (wayG hm g (seatP (hm n) 0)) then some (wayG hm g (seatP (hm n) 0)) else none := by
    by_cases h : openG g (wayG hm g (seatP (hm n) 0))
    · rw [if_pos h]
      exact if_pos ⟨h, fun V z => (by cases z)⟩
    · rw [if_neg h]
      exact if_neg fun z => h z.1
  have h1 : foundG hm g n 2 = if openG g (wayG hm g (seatP (hm n) 1)) ∧ (∀ V, foundG hm g n 1 = some V → (wayG hm g (seatP (hm n) 1)).length < V.length) then some (wayG hm g (seatP (hm n) 1)) else foundG hm g n 1 := rfl
  rw [h1, h0]
  unfold takenG
  generalize wayG hm g (seatP (hm n) 0) = A
  generalize wayG hm g (seatP (hm n) 1) = B
  by_cases a : openG g A
  · by_cases b : openG g B
    · by_cases l : A.length ≤ B.length
      · refine (if_neg ?_).trans ((if_pos a).trans (if_pos (⟨a, fun _ => l⟩ : openG g A ∧ (openG g B → A.length ≤ B.length))).symm)
        rintro ⟨_, z⟩
        have := z A (if_pos a)
        omega
      · refine (if_pos ⟨b, fun V e => ?_⟩).trans ((if_neg (fun z : openG g A ∧ (openG g B → A.length ≤ B.length) => l (z.2 b))).trans (if_pos b)).symm
        rw [if_pos a] at e
        cases e
        omega
    · exact (if_neg (fun z => b z.1)).trans ((if_pos a).trans (if_pos (⟨a, fun z => (b z).elim⟩ : openG g A ∧ (openG g B → A.length ≤ B.length))).symm)
  · have na : ¬ (openG g A ∧ (openG g B → A.length ≤ B.length)) := fun z => a z.1
    by_cases b : openG g B
    · refine (if_pos ⟨b, fun V e => ?_⟩).trans ((if_neg na).trans (if_pos b)).symm
      rw [if_neg a] at e
      cases e
    · exact (if_neg (fun z => b z.1)).trans ((if_neg a).trans ((if_neg na).trans (if_neg b)).symm)
def FV (H : Hp) (v : V) : Option (List Seat) → Prop
  | none => v = .non
  | some W => ∃ (p : Addr) (M : List (Addr × Seat)), v = .ref p ∧ H p = some (.lst (refs M)) ∧ TupsAt H M ∧ M.map (·.2) = W
theorem FV.same {H H' : Hp} {v : V} (e : Same H H') : ∀ {o : Option (List Seat)}, FV H v o → FV H' v o
  | none, h => h
  | some W, ⟨p, M, h1, h2, h3, h4⟩ => ⟨p, M, h1, e _ _ h2, fun q hq => e _ _ (h3 q hq), h4⟩
theorem takenG_cases {hm : Name → Int × Int} {g : Stand} {n : Name} {W : List Seat} (h : takenG hm g n = some W) : openG g W ∧ ∃ r : Int, (r = 0 ∨ r = 1) ∧ W = wayG hm g (seatP (hm n) r) := by
  unfold takenG at h
  split at h
  · rename_i z
    cases h
    exact ⟨z.1, 0, .inl rfl, rfl⟩
  · split at h
    · rename_i y
      cases h
      exact ⟨y, 1, .inr rfl, rfl⟩
    · cases h
theorem taken_some {hm : Name → Int × Int} {L : Held} {n : Name} {W : List Seat} (h : Taken L (wayG hm (getN L) (seatP (hm n) 0)) (wayG hm (getN L) (seatP (hm n) 1)) W) : takenG hm (getN L) n = some W := by
  unfold takenG
  rcases h with ⟨rfl, h1, h2⟩ | ⟨rfl, h1, h2⟩
  · exact if_pos ⟨h1, h2⟩
  · refine (if_neg ?_).trans (if_pos h1)
    rintro ⟨h3, h4⟩
    have := h2 h3
    have := h4 h1
    omega
theorem taken_none {hm : Name → Int × Int} {L : Held} {n : Name} (h1 : ¬ openW L (wayG hm (getN L) (seatP (hm n) 0))) (h2 : ¬ openW L (wayG hm (getN L) (seatP (hm n) 1))) : takenG hm (getN L) n = none := by
  unfold takenG
  exact (if_neg (fun z => h1 z.1)).trans (if_neg h2)
theorem taken_of {hm : Name → Int × Int} {L : Held} {n : Name} {W : List Seat} (h : takenG hm (getN L) n = some W) : Taken L (wayG hm (getN L) (seatP (hm n) 0)) (wayG hm (getN L) (seatP (hm n) 1)) W := by
  unfold takenG at h
  split at h
  · rename_i z
    cases h
    exact .inl ⟨rfl, z.1, z.2⟩
  · rename_i z
    split at h
    · rename_i y
      cases h
      refine .inr ⟨rfl, y, fun o => ?_⟩
      apply Classical.byContradiction
      intro q
      exact z ⟨o, fun _ => by omega⟩
    · cases h
theorem there_iff {L : Held} (ns : (L.map (·.1)).Nodup) (n : Name) : thereG (getN L) n ↔ n ∈ L.map (·.2) := (mem_names ns).symm
theorem stand_eq {L M : Held} (h : ∀ s, getN M s = getN L s) : getN M = getN L := funext h
/-- what is told of a deed -/
inductive TV where
  | non | int (i : Int) | seat (s : Seat) | moves (ms : List (Name × Seat × Seat))
def tvd : TV → PyData
  | .non => .none
  | .int i => .int i
  | .seat s => dS s
  | .moves ms => .list (ms.map dM)
def TVAt (ok : Addr → Prop) (H : Hp) (x : V) : TV → Prop
  | .non => x = .non
  | .int i => x = .int i
  | .seat s => ∃ q, x = .ref q ∧ H q = some (.tup (sv s))
  | .moves ms => ∃ p, x = .ref p ∧ MovesAt H p ms ∧ ok p
def GoodTV : TV → Prop
  | .moves ms => ∀ y ∈ ms, NameOk y.1
  | _ => True
theorem TVAt.dp {K : PySem.W.Frag} {ok : Addr → Prop} {H : Hp} {x : V} : ∀ {t : TV}, TVAt ok H x t → Dp K H x (tvd t)
  | .non, h => by
    rw [show x = .non from h]
    exact .non
  | .int i, h => by
    rw [show x = .int i from h]
    exact .int i
  | .seat s, ⟨q, e, h⟩ => by
    rw [e]
    exact dp_seat (SqT.of h)
  | .moves ms, ⟨p, e, ⟨xs, h1, h2⟩, _⟩ => by
    rw [e]
    exact .lst (SqL.of h1) (moves_fd h2).dp
theorem tvd_lay : ∀ {t : TV}, GoodTV t → PyData.canLay0 (tvd t) = true ∧ PyData.depth (tvd t) ≤ 3
  | .non, _ => ⟨rfl, by decide⟩
  | .int _, _ => ⟨rfl, by show 0 ≤ 3; decide⟩
  | .seat s, _ => ⟨rfl, by show 1 ≤ 3; decide⟩
  | .moves ms, h => by
    obtain ⟨h1, h2⟩ := GoodD.moves h
    refine ⟨h1, ?_⟩
    show PyData.depth (PyData.list (ms.map dM)) ≤ 3
    unfold PyData.depth
    omega
/-- the pair that is told -/
def tvp (k : Str) (t : TV) : PyData := .tuple [.str k, tvd t]
theorem shaped_tvp {k : Str} {t : TV} (hk : (PyData.str k).canLay0 = true) (h : GoodTV t) : SeqAt.shaped (tvp k t) = true := by
  obtain ⟨h1, h2⟩ := tvd_lay h
  unfold SeqAt.shaped tvp
  rw [Bool.and_eq_true, decide_eq_true_eq]
  constructor
  · show PyData.canLay0 (PyData.tuple [.str k, tvd t]) = true
    unfold PyData.canLay0 PyData.canLayAll0 PyData.canLayAll0 PyData.canLayAll0
    rw [hk, h1]
    rfl
  · show PyData.depth (PyData.tuple [.str k, tvd t]) ≤ _
    unfold PyData.depth PyData.depthAll PyData.depthAll PyData.depthAll
    have : PyData.depth (.str k) = 0 := rfl
    omega
theorem shaped_tvd {t : TV} (h : GoodTV t) : SeqAt.shaped (tvd t) = true := by
  obtain ⟨h1, h2⟩ := tvd_lay h
  unfold SeqAt.shaped
  rw [Bool.and_eq_true, decide_eq_true_eq]
  exact ⟨h1, by omega⟩
theorem TVAt.keep {ok ok' : Addr → Prop} {H H' : Hp} {x : V} (k1 : ∀ b ys, H b = some (.tup ys) → H' b = some (.tup ys)) (k2 : ∀ p o, ok p → H p = some o → H' p = some o ∧ ok' p) : ∀ {t : TV}, TVAt ok H x t → TVAt ok' H' x t
  | .non, h => h
  | .int _, h => h
  | .seat s, ⟨q, e, h⟩ => ⟨q, e, k1 _ _ h⟩
  | .moves ms, ⟨p, e, ⟨xs, h1, h2⟩, h3⟩ => by
    obtain ⟨a, b⟩ := k2 p _ h3 h1
    refine ⟨p, e, ⟨xs, a, ?_⟩, b⟩
    have key : ∀ {l : List V} {m : List (Name × Seat × Seat)}, PySem.Paired (MoveAt H) l m → PySem.Paired (MoveAt H') l m := by
      intro l m h
      induction h with
      | nil => exact .nil
      | cons r t ih =>
        refine .cons ?_ ih
        obtain ⟨t, q1, q2, e, a, b, c⟩ := r
        exact ⟨t, q1, q2, e, k1 _ _ a, k1 _ _ b, k1 _ _ c⟩
    exact key h2
theorem TVAt.same {ok : Addr → Prop} {H H' : Hp} {x : V} {t : TV} (h : TVAt ok H x t) (e : Same H H') : TVAt ok H' x t := h.keep (fun b ys hb => e _ _ hb) fun p o h1 h2 => ⟨e _ _ h2, h1⟩
theorem homes_keepF {F : List Addr} {H H' : Hp} {d : Addr} {ns : List Name} {hm : Name → Int × Int} (h : HomesAt H d ns hm) (kf : KeepF F H H') (hd : d ∉ F) (ht : ∀ b ys, H b = some (.tup ys) → b ∉ F) : HomesAt H' d ns hm := by
  obtain ⟨kvs, h1, hn⟩ := h
  refine ⟨kvs, kf _ _ hd h1, fun n hm' => ?_⟩
  obtain ⟨t, a, b, h1, h2, h3, h4⟩ := hn n hm'
  exact ⟨t, a, b, h1, kf _ _ (ht _ _ h2) h2, kf _ _ (ht _ _ h3) h3, kf _ _ (ht _ _ h4) h4⟩
theorem getN_less {L L' : Held} {n : Name} (h1 : (L.map (·.1)).Nodup) (h2 : (L'.map (·.1)).Nodup) (h : ∀ x, x ∈ L' ↔ x ∈ L ∧ x.2 ≠ n) (s : Seat) : getN L' s = if getN L s = some n then none else getN L s := by
  cases e : getN L s with
  | none =>
    rw [if_neg (by intro z; cases z)]
    cases e2 : getN L' s with
    | none => rfl
    | some m =>
      have q := getN_of_mem h1 ((h _).mp (getN_mem e2)).1
      rw [e] at q
      cases q
  | some m =>
    by_cases em : m = n
    · rw [if_pos (by rw [em])]
      cases e2 : getN L' s with
      | none => rfl
      | some k =>
        have q := (h _).mp (getN_mem e2)
        have q1 := getN_of_mem h1 q.1
        rw [e] at q1
        cases q1
        exact (q.2 em).elim
    · rw [if_neg (by intro z; cases z; exact em rfl)]
      exact getN_of_mem h2 ((h (s, m)).mpr ⟨getN_mem e, em⟩)
end TB

/-! list.remove of a text; who can't be seated -/
namespace TB
open PySem PySem.Spec L2 Ck TS2 TX
def eqs (k : Str) (v : Value) : Bool := match v with
  | .str n _ => n.cps.toList == k.cps.toList
  | _ => false
theorem eqs_gives {k : Str} {t : Tok} : ∀ {us : List Value} {ns : List Str}, Vals (ns.map V.str) us → ∀ y ∈ us, MeetsSeq.EqGives y (.str k t) (eqs k y)
  | _, [], r => fun y hy => by
    cases r
    cases hy
  | _, n :: ns, r => fun y hy => by
    cases r with
    | cons r1 r2 =>
      obtain ⟨t', rfl⟩ := r1
      rcases List.mem_cons.mp hy with e | e
      · rw [e]
        exact SeqRoads2.EqGives.str n k t' t
      · exact eqs_gives r2 y e
theorem strs_get : ∀ {us : List Value} {ns : List Str}, Vals (ns.map V.str) us → ∀ (j : Nat) (x : Str), ns[j]? = some x → ∃ t, us[j]? = some (.str x t)
  | _, [], r, j, x, h => by simp at h
  | _, n :: ns, r, j, x, h => by
    cases r with
    | cons r1 r2 =>
      obtain ⟨t', rfl⟩ := r1
      cases j with
      | zero => exact ⟨t', by simpa using h⟩
      | succ j => exact strs_get r2 j x (by simpa using h)
theorem erase_mapS : ∀ (l : List Str) (j : Nat), (l.map V.str).eraseIdx j = (l.eraseIdx j).map V.str
  | [], j => by simp
  | a :: r, 0 => by simp
  | a :: r, j + 1 => by
    have ih := erase_mapS r j
    simp [ih]
def rRemS : V → List V → Hp → VK → Prop := fun x xs H Q => ∃ (l : Addr) (ns : List Str) (k : Str) (j : Nat), x = .ref l ∧ xs = [.str k] ∧ H l = some (.lst (ns.map V.str)) ∧ ns[j]? = some k ∧ (∀ m : Nat, m < j → ns[m]? ≠ some k) ∧ Q .non (upd H l (.lst ((ns.eraseIdx j).map V.str)))
theorem str_toList {a b : Str} (h : a.cps.toList = b.cps.toList) : a = b := by
  cases a
  cases b
  exact congrArg Str.mk (Array.toList_inj.mp h)
theorem mt_removeS {X : Cx} : MtM X "list.remove" rRemS := by
  intro pins s σ H x xs v us Q I rx rxs h
  obtain ⟨l, ns, k, j, rfl, rfl, hH, hj, hno, q⟩ := h
  cases rx
  obtain ⟨u, rfl, ru⟩ := rxs.one
  obtain ⟨t, rfl⟩ := ru
  obtain ⟨z, its, n, r, hl, e⟩ := I.lstM hH
  rw [List.length_map] at hl z
  have hjn : j < ns.length := (List.getElem?_eq_some_iff.mp hj).1
  have hjl : j < its.toArray.size := by rw [List.size_toArray]; omega
  refine call_meets PySem.F.slot_list_remove ⟨_, e, rfl⟩ PySem.F.entry_list_remove (PySem.F.args_list_remove_2 _ _)
    (MeetsSeq.list_remove l its.toArray n (.str k t) (eqs k) (fun y hy => eqs_gives r y (by simpa using hy)) j hjl ?_ ?_ (by rw [List.size_toArray]; omega)) ⟨e, ?_⟩
  · obtain ⟨tj, hjt⟩ := strs_get r j k hj
    obtain ⟨h1, h2⟩ := List.getElem?_eq_some_iff.mp hjt
    have e1 : its.toArray[j] = .str k tj := by simpa using h2
    rw [e1]
    exact beq_self_eq_true k.cps.toList
  · intro m hm hmj
    have hmn : m < ns.length := by omega
    obtain ⟨tm, hmt⟩ := strs_get r m _ (List.getElem?_eq_getElem hmn)
    obtain ⟨h1, h2⟩ := List.getElem?_eq_some_iff.mp hmt
    have e1 : its.toArray[m] = .str ns[m] tm := by simpa using h2
    rw [e1]
    refine beq_eq_false_iff_ne.mpr fun e2 => hno m hmj ?_
    rw [List.getElem?_eq_getElem hmn, str_toList e2]
  · have rr := r.eraseIdx j
    rw [erase_mapS] at rr
    refine ⟨.non, _, I.lset (its' := its.eraseIdx j) (t' := s.toks) hH e ?_ rr ?_, rfl, q⟩
    · show its.toArray.eraseIdxIfInBounds j = (its.eraseIdx j).toArray
      rw [List.eraseIdxIfInBounds_toArray]
    · have z2 := len_erase ns j
      rw [List.length_map]
      omega
/-! who can be seated -/
def SeatOf (hm : Name → Int × Int) (ms : List Name) : Prop := ∃ f : Name → Seat, (∀ m ∈ ms, f m = seatP (hm m) 0 ∨ f m = seatP (hm m) 1) ∧ ∀ m m', m ∈ ms → m' ∈ ms → f m = f m' → m = m'
theorem SeatOf.sub {hm : Name → Int × Int} {ms ms' : List Name} (h : SeatOf hm ms) (s : ∀ m ∈ ms', m ∈ ms) : SeatOf hm ms' := by
  obtain ⟨f, h1, h2⟩ := h
  exact ⟨f, fun m hm => h1 m (s m hm), fun m m' a b => h2 m m' (s m a) (s m' b)⟩
open Classical in
theorem seat_of_table {c t1 t2 : Int} {L : Held} (g : GoodT c t1 t2 L) : SeatOf (hmN c t1 t2) (L.map (·.2)) := by
  have key : ∀ m ∈ L.map (·.2), ∃ s, getN L s = some m := fun m hm => (mem_names g.ns).mp hm
  refine ⟨fun m => if h : ∃ s, getN L s = some m then Classical.choose h else (0, 0), fun m hm => ?_, fun m m' hm hm' e => ?_⟩
  · have h := key m hm
    have q := Classical.choose_spec h
    show (if h : ∃ s, getN L s = some m then Classical.choose h else ((0, 0) : Seat)) = _ ∨ (if h : ∃ s, getN L s = some m then Classical.choose h else ((0, 0) : Seat)) = _
    rw [dif_pos h]
    exact g.home _ (getN_mem q)
  · have h := key m hm
    have h' := key m' hm'
    have q := Classical.choose_spec h
    have q' := Classical.choose_spec h'
    have e : (if h : ∃ s, getN L s = some m then Classical.choose h else (0, 0)) = if h : ∃ s, getN L s = some m' then Classical.choose h else (0, 0) := e
    rw [dif_pos h, dif_pos h'] at e
    rw [e, q'] at q
    exact (Option.some.inj q).symm
/-- the nests of a way that isn't open are taken, and each way on stays within -/
theorem way_shut {hm : Name → Int × Int} {L : Held} {s0 : Seat} {W : List Seat} (w : IsWay (nxN hm (getN L)) s0 W) (op : ¬ openW L W) : ∀ s ∈ W, ∃ n, getN L s = some n ∧ seatP (hm n) (1 - s.1) ∈ W := by
  intro s hs
  obtain ⟨t, ht, e⟩ := List.getElem_of_mem hs
  have e1 : W[t]? = some s := by rw [List.getElem?_eq_getElem ht, e]
  by_cases hl : t + 1 < W.length
  · have hy : W[t + 1]? = some W[t + 1] := List.getElem?_eq_getElem hl
    obtain ⟨n, h, _, h2⟩ := nx_who (w.ch.step t s _ e1 hy)
    refine ⟨n, h, ?_⟩
    rw [← h2]
    exact List.getElem_mem hl
  · cases q : getN L s with
    | some n =>
      refine ⟨n, rfl, w.stop s _ ?_ ?_⟩
      · rw [List.getLast?_eq_getElem?, show W.length - 1 = t by omega, e1]
      · unfold nxN
        rw [q]
        rfl
    | none =>
      refine (op fun z hz => ?_).elim
      rw [List.getLast?_eq_getElem?, show W.length - 1 = t by omega, e1] at hz
      cases hz
      exact q
section
variable {c t1 t2 : Int} {L : Held} {n : Name} {A B : List Seat}
/-- the crowd's names have both homes among its nests -/
theorem crowd_home (g : GoodT c t1 t2 L) (wA : IsWay (nxN (hmN c t1 t2) (getN L)) (seatP (hmN c t1 t2 n) 0) A) (wB : IsWay (nxN (hmN c t1 t2) (getN L)) (seatP (hmN c t1 t2 n) 1) B) (oA : ¬ openW L A) (oB : ¬ openW L B) {N : List Seat} (hN : ∀ s, s ∈ N ↔ s ∈ A ∨ s ∈ B) :
    ∀ m ∈ N.map (whoN L) ++ [n], seatP (hmN c t1 t2 m) 0 ∈ N ∧ seatP (hmN c t1 t2 m) 1 ∈ N := by
  intro m hm
  rcases List.mem_append.mp hm with h | h
  · obtain ⟨s, hs, rfl⟩ := List.mem_map.mp h
    have key : ∃ k, getN L s = some k ∧ seatP (hmN c t1 t2 k) (1 - s.1) ∈ N := by
      rcases (hN s).mp hs with q | q
      · obtain ⟨k, a, b⟩ := way_shut wA oA s q
        exact ⟨k, a, (hN _).mpr (.inl b)⟩
      · obtain ⟨k, a, b⟩ := way_shut wB oB s q
        exact ⟨k, a, (hN _).mpr (.inr b)⟩
    obtain ⟨k, h1, h2⟩ := key
    rw [who_of h1]
    have hh : s = seatP (hmN c t1 t2 k) 0 ∨ s = seatP (hmN c t1 t2 k) 1 := g.home _ (getN_mem h1)
    rcases hh with e | e
    · have e1 : s.1 = 0 := by rw [e]; rfl
      rw [e1] at h2
      exact ⟨e ▸ hs, h2⟩
    · have e1 : s.1 = 1 := by rw [e]; rfl
      rw [e1] at h2
      exact ⟨h2, e ▸ hs⟩
  · rw [List.mem_singleton.mp h]
    have hA := wA.ch.head
    have hB := wB.ch.head
    exact ⟨(hN _).mpr (.inl (List.mem_of_mem_head? hA)), (hN _).mpr (.inr (List.mem_of_mem_head? hB))⟩
/-- the crowd's names are all unlike -/
theorem crowd_nd (g : GoodT c t1 t2 L) (hn : n ∉ L.map (·.2)) (wA : IsWay (nxN (hmN c t1 t2) (getN L)) (seatP (hmN c t1 t2 n) 0) A) (wB : IsWay (nxN (hmN c t1 t2) (getN L)) (seatP (hmN c t1 t2 n) 1) B) (oA : ¬ openW L A) (oB : ¬ openW L B) {N : List Seat} (nd : N.Nodup) (hN : ∀ s, s ∈ N ↔ s ∈ A ∨ s ∈ B) :
    (∀ s ∈ N, ∃ m, getN L s = some m) ∧ (N.map (whoN L) ++ [n]).Nodup := by
  have held : ∀ s ∈ N, ∃ m, getN L s = some m := fun s hs => by
    rcases (hN s).mp hs with q | q
    · obtain ⟨k, a, b⟩ := way_shut wA oA s q
      exact ⟨k, a⟩
    · obtain ⟨k, a, b⟩ := way_shut wB oB s q
      exact ⟨k, a⟩
  refine ⟨held, ?_⟩
  rw [List.nodup_append]
  refine ⟨?_, by simp, fun a ha b hb e => ?_⟩
  · rw [List.Nodup, List.pairwise_map]
    refine List.Pairwise.imp_of_mem (fun {a b} ha hb hne e => hne ?_) nd
    obtain ⟨x, hx⟩ := held a ha
    obtain ⟨y, hy⟩ := held b hb
    rw [who_of hx, who_of hy] at e
    exact g.inj hx (e ▸ hy)
  · rw [List.mem_singleton.mp hb] at e
    obtain ⟨s, hs, e2⟩ := List.mem_map.mp ha
    obtain ⟨x, hx⟩ := held s hs
    rw [who_of hx] at e2
    exact hn (by rw [← e, ← e2]; exact List.mem_map.mpr ⟨_, getN_mem hx, rfl⟩)
/-- a crowd can't be seated -/
theorem no_seat (g : GoodT c t1 t2 L) (hn : n ∉ L.map (·.2)) (wA : IsWay (nxN (hmN c t1 t2) (getN L)) (seatP (hmN c t1 t2 n) 0) A) (wB : IsWay (nxN (hmN c t1 t2) (getN L)) (seatP (hmN c t1 t2 n) 1) B) (oA : ¬ openW L A) (oB : ¬ openW L B) {N : List Seat} (nd : N.Nodup) (hN : ∀ s, s ∈ N ↔ s ∈ A ∨ s ∈ B) :
    ¬ SeatOf (hmN c t1 t2) (N.map (whoN L) ++ [n]) := by
  rintro ⟨f, h1, h2⟩
  have hd := crowd_home g wA wB oA oB hN
  have nn := (crowd_nd g hn wA wB oA oB nd hN).2
  have q := nodup_len ((N.map (whoN L) ++ [n]).map f) N (by
    rw [List.Nodup, List.pairwise_map]
    exact List.Pairwise.imp_of_mem (fun {a b} ha hb hne e => hne (h2 a b ha hb e)) nn) fun s hs => by
      obtain ⟨m, hm, rfl⟩ := List.mem_map.mp hs
      obtain ⟨a, b⟩ := hd m hm
      rcases h1 m hm with e | e
      · rw [e]; exact a
      · rw [e]; exact b
  rw [List.length_map, List.length_append, List.length_map, List.length_singleton] at q
  omega
/-- a list of who stands where, by a function -/
theorem held_of (D : List Seat) (nd : D.Nodup) (f : Seat → Option Name) (h : ∀ s, s ∉ D → f s = none) : ∃ L' : Held, (L'.map (·.1)).Nodup ∧ ∀ s, getN L' s = f s := by
  have key : ∀ D : List Seat, D.Nodup → ∃ L' : Held, (L'.map (·.1)).Nodup ∧ (∀ s ∈ L'.map (·.1), s ∈ D) ∧ ∀ s ∈ D, getN L' s = f s := by
    intro D
    induction D with
    | nil => exact fun _ => ⟨[], List.nodup_nil, fun _ h => (by cases h), fun _ h => (by cases h)⟩
    | cons d D ih =>
      intro nd
      rw [List.nodup_cons] at nd
      obtain ⟨L', a, b, e⟩ := ih nd.2
      cases q : f d with
      | none =>
        refine ⟨L', a, fun s hs => List.mem_cons_of_mem _ (b s hs), fun s hs => ?_⟩
        rcases List.mem_cons.mp hs with z | z
        · rw [z, q]
          exact getN_none.mpr fun y => nd.1 (b d y)
        · exact e s z
      | some m =>
        refine ⟨(d, m) :: L', ?_, fun s hs => ?_, fun s hs => ?_⟩
        · rw [List.map_cons, List.nodup_cons]
          exact ⟨fun y => nd.1 (b d y), a⟩
        · rw [List.map_cons] at hs
          rcases List.mem_cons.mp hs with z | z
          · rw [z]
            exact List.mem_cons_self
          · exact List.mem_cons_of_mem _ (b s z)
        · rw [getN_cons]
          by_cases z : d = s
          · rw [if_pos z, ← z, q]
          · rw [if_neg z]
            rcases List.mem_cons.mp hs with y | y
            · exact (z y.symm).elim
            · exact e s y
  obtain ⟨L', a, b, e⟩ := key D nd
  refine ⟨L', a, fun s => ?_⟩
  by_cases hs : s ∈ D
  · exact e s hs
  · rw [h s hs]
    exact getN_none.mpr fun y => hs (b s y)
theorem dedup (l : List Seat) : ∃ D : List Seat, D.Nodup ∧ ∀ s, s ∈ D ↔ s ∈ l := by
  induction l with
  | nil => exact ⟨[], List.nodup_nil, fun _ => Iff.rfl⟩
  | cons a l ih =>
    obtain ⟨D, h1, h2⟩ := ih
    by_cases h : a ∈ l
    · refine ⟨D, h1, fun s => (h2 s).trans ⟨List.mem_cons_of_mem _, fun z => ?_⟩⟩
      rcases List.mem_cons.mp z with e | e
      · rw [e]; exact h
      · exact e
    · refine ⟨a :: D, List.nodup_cons.mpr ⟨fun z => h ((h2 a).mp z), h1⟩, fun s => ?_⟩
      rw [List.mem_cons, List.mem_cons, h2]
/-- who finds an open way can be seated with all the others -/
theorem can_seat (g : GoodT c t1 t2 L) (hn : n ∉ L.map (·.2)) (ho : NameOk n) (wA : IsWay (nxN (hmN c t1 t2) (getN L)) (seatP (hmN c t1 t2 n) 0) A) (wB : IsWay (nxN (hmN c t1 t2) (getN L)) (seatP (hmN c t1 t2 n) 1) B) (o : openW L A ∨ openW L B) : SeatOf (hmN c t1 t2) (n :: L.map (·.2)) := by
  obtain ⟨W, s0, hh, w, op⟩ : ∃ W s0, (s0 = seatP (hmN c t1 t2 n) 0 ∨ s0 = seatP (hmN c t1 t2 n) 1) ∧ IsWay (nxN (hmN c t1 t2) (getN L)) s0 W ∧ openW L W := by
    rcases o with o | o
    · exact ⟨A, _, .inl rfl, wA, o⟩
    · exact ⟨B, _, .inr rfl, wB, o⟩
  obtain ⟨D, d1, d2⟩ := dedup (L.map (·.1) ++ W)
  obtain ⟨L', nd, e⟩ := held_of D d1 (shiftF (getN L) W (some n)) fun s hs => by
    have h1 : s ∉ W := fun z => hs ((d2 s).mpr (List.mem_append.mpr (.inr z)))
    rw [shiftF_out _ _ _ _ h1]
    exact getN_none.mpr fun z => hs ((d2 s).mpr (List.mem_append.mpr (.inl z)))
  have g' := g.shift hn ho hh w.ch e nd
  refine (seat_of_table g').sub fun m hm => ?_
  exact (shift_names e w.ch op g.ns nd).mpr (List.mem_cons.mp hm)
/-- with one of the crowd gone there is room -/
theorem open_less {L1 : Held} {s0 : Seat} (e : ∀ s, getN L1 s = if s = s0 then none else getN L s) {h0 : Seat} (w : IsWay (nxN (hmN c t1 t2) (getN L)) h0 A) (hs : s0 ∈ A) {W : List Seat} (w1 : IsWay (nxN (hmN c t1 t2) (getN L1)) h0 W) : openW L1 W := by
  obtain ⟨t, ht, e0⟩ := List.getElem_of_mem hs
  have e1 : A[t]? = some s0 := by rw [List.getElem?_eq_getElem ht, e0]
  have n0 : getN L1 s0 = none := by rw [e, if_pos rfl]
  have key : IsWay (nxN (hmN c t1 t2) (getN L1)) h0 (A.take (t + 1)) := by
    have lt : (A.take (t + 1)).length = t + 1 := by rw [List.length_take]; omega
    refine ⟨⟨?_, fun j x y hx hy => ?_, w.ch.nd.sublist (List.take_sublist ..)⟩, fun x y hx hy => ?_⟩
    · rw [List.head?_take, if_neg (by omega)]
      exact w.ch.head
    · have hj : j + 1 < t + 1 := by
        have := (List.getElem?_eq_some_iff.mp hy).1
        omega
      rw [List.getElem?_take, if_pos (by omega)] at hx hy
      have q := w.ch.step j x y hx hy
      have xs : x ≠ s0 := fun z => by
        obtain ⟨l1, g1⟩ := List.getElem?_eq_some_iff.mp hx
        have := (List.getElem_inj w.ch.nd (h₀ := l1) (h₁ := ht)).mp (by rw [g1, e0, z])
        omega
      unfold nxN at q ⊢
      rw [e, if_neg xs]
      exact q
    · rw [List.getLast?_eq_getElem?, lt, List.getElem?_take, if_pos (by omega)] at hx
      have ex : x = s0 := by
        have : A[t + 1 - 1]? = some s0 := e1
        rw [this] at hx
        exact (Option.some.inj hx).symm
      unfold nxN at hy
      rw [ex, n0] at hy
      cases hy
  have eW := w1.uniq key
  intro z hz
  have lt : (A.take (t + 1)).length = t + 1 := by rw [List.length_take]; omega
  rw [eW, List.getLast?_eq_getElem?, lt, List.getElem?_take, if_pos (by omega)] at hz
  have ez : z = s0 := by
    have : A[t + 1 - 1]? = some s0 := e1
    rw [this] at hz
    exact (Option.some.inj hz).symm
  rw [ez]
  exact n0
end
/-! seated, by the rows told -/
theorem getP_map {ms : List Name} (hm : Name → Int × Int) {i : Nat} (h : i < ms.length) : getP (ms.map hm) i = hm ms[i] := by
  unfold getP
  rw [List.getD_eq_getElem?_getD, List.getElem?_map, List.getElem?_eq_getElem h]
  rfl
theorem seat_of_rows {hm : Name → Int × Int} {ms : List Name} (nd : ms.Nodup) {rs : List Int} (h : Seated (ms.map hm) rs) : SeatOf hm ms := by
  obtain ⟨h1, h2, h3⟩ := h
  rw [List.length_map] at h1 h3
  have at_ : ∀ m ∈ ms, ms.idxOf m < ms.length ∧ ∀ q : ms.idxOf m < ms.length, ms[ms.idxOf m] = m := fun m hm' => ⟨List.idxOf_lt_length_of_mem hm', fun q => List.getElem_idxOf q⟩
  refine ⟨fun m => seatP (hm m) (rs.getD (ms.idxOf m) 0), fun m hm' => ?_, fun m m' a b e => ?_⟩
  · obtain ⟨l, _⟩ := at_ m hm'
    have r : rs.getD (ms.idxOf m) 0 ∈ rs := by
      rw [List.getD_eq_getElem?_getD, List.getElem?_eq_getElem (by omega)]
      exact List.getElem_mem _
    show seatP (hm m) (rs.getD (ms.idxOf m) 0) = _ ∨ seatP (hm m) (rs.getD (ms.idxOf m) 0) = _
    rcases h2 _ r with e | e
    · exact .inl (by rw [e])
    · exact .inr (by rw [e])
  · obtain ⟨l, q⟩ := at_ m a
    obtain ⟨l', q'⟩ := at_ m' b
    have e' : seatP (hm m) (rs.getD (ms.idxOf m) 0) = seatP (hm m') (rs.getD (ms.idxOf m') 0) := e
    have := h3 (ms.idxOf m) (ms.idxOf m') l l' (by rw [getP_map hm l, getP_map hm l', q l, q' l']; exact e')
    rw [← q l, ← q' l']
    congr 1
theorem rows_of_seat {hm : Name → Int × Int} {ms : List Name} (nd : ms.Nodup) (h : SeatOf hm ms) : ∃ rs, Seated (ms.map hm) rs := by
  obtain ⟨f, h1, h2⟩ := h
  have fr : ∀ m ∈ ms, ((f m).1 = 0 ∨ (f m).1 = 1) ∧ f m = seatP (hm m) (f m).1 := fun m hm' => by
    rcases h1 m hm' with e | e
    · rw [e]
      exact ⟨.inl rfl, rfl⟩
    · rw [e]
      exact ⟨.inr rfl, rfl⟩
  have gd : ∀ (i : Nat) (h : i < ms.length), (ms.map fun m => (f m).1).getD i 0 = (f ms[i]).1 := fun i h => by
    rw [List.getD_eq_getElem?_getD, List.getElem?_map, List.getElem?_eq_getElem h]
    rfl
  refine ⟨ms.map fun m => (f m).1, by rw [List.length_map, List.length_map], fun r hr => ?_, fun i j hi hj e => ?_⟩
  · obtain ⟨m, hm', rfl⟩ := List.mem_map.mp hr
    exact (fr m hm').1
  · rw [List.length_map] at hi hj
    rw [getP_map hm hi, getP_map hm hj, gd i hi, gd j hj, ← (fr _ (List.getElem_mem hi)).2, ← (fr _ (List.getElem_mem hj)).2] at e
    exact (List.getElem_inj nd).mp (h2 _ _ (List.getElem_mem hi) (List.getElem_mem hj) e)
theorem names_nd {c t1 t2 : Int} {L : Held} (g : GoodT c t1 t2 L) {S : List Seat} (hS : S.Pairwise LtS) (hSm : ∀ s, s ∈ S ↔ s ∈ L.map (·.1)) : (S.map (whoN L)).Nodup ∧ ∀ m, m ∈ S.map (whoN L) ↔ m ∈ L.map (·.2) := by
  refine ⟨?_, fun m => ⟨fun h => ?_, fun h => ?_⟩⟩
  · rw [List.Nodup, List.pairwise_map]
    refine List.Pairwise.imp_of_mem (fun {a b} ha hb hne e => hne ?_) (sorted_nd hS)
    obtain ⟨x, hx⟩ := getN_is ((hSm a).mp ha)
    obtain ⟨y, hy⟩ := getN_is ((hSm b).mp hb)
    rw [who_of hx, who_of hy] at e
    exact g.inj hx (e ▸ hy)
  · obtain ⟨s, hs, rfl⟩ := List.mem_map.mp h
    obtain ⟨x, hx⟩ := getN_is ((hSm s).mp hs)
    rw [who_of hx]
    exact List.mem_map.mpr ⟨_, getN_mem hx, rfl⟩
  · obtain ⟨s, hs⟩ := (mem_names g.ns).mp h
    exact List.mem_map.mpr ⟨s, (hSm s).mpr (List.mem_map.mpr ⟨_, getN_mem hs, rfl⟩), who_of hs⟩
theorem no_seat_all {c t1 t2 : Int} {L : Held} {n : Name} {A B : List Seat} (g : GoodT c t1 t2 L) (hn : n ∉ L.map (·.2)) (wA : IsWay (nxN (hmN c t1 t2) (getN L)) (seatP (hmN c t1 t2 n) 0) A) (wB : IsWay (nxN (hmN c t1 t2) (getN L)) (seatP (hmN c t1 t2 n) 1) B) (oA : ¬ openW L A) (oB : ¬ openW L B) : ¬ SeatOf (hmN c t1 t2) (n :: L.map (·.2)) := by
  intro h
  obtain ⟨N, d1, d2⟩ := dedup (A ++ B)
  have hN : ∀ s, s ∈ N ↔ s ∈ A ∨ s ∈ B := fun s => (d2 s).trans List.mem_append
  refine no_seat g hn wA wB oA oB d1 hN (h.sub fun m hm => ?_)
  rcases List.mem_append.mp hm with z | z
  · obtain ⟨s, hs, rfl⟩ := List.mem_map.mp z
    obtain ⟨x, hx⟩ := (crowd_nd g hn wA wB oA oB d1 hN).1 s hs
    rw [who_of hx]
    exact List.mem_cons_of_mem _ (List.mem_map.mpr ⟨_, getN_mem hx, rfl⟩)
  · rw [List.mem_singleton.mp z]
    exact List.mem_cons_self
end TB

/-! a thing of a class == a text -/
namespace TB
open PySem PySem.Spec PyProof.Rows L2 Ck TS2 TX
section
variable {M : Model} {A : Around} {E : Value → Shared → Prop} {s : Shared}
theorem objEq_str {x : Addr} {z : Str} {t : Tok} {Q : Fin → Shared → Prop} (hq : Q (.done (.ret .notImplemented)) s) : wpAny M A (Builtin.«object.__eq__» ⟨[.ref x, .str z t], []⟩) Q E s := by
  obtain ⟨h, g, d, tk, os⟩ := s
  unfold Builtin.«object.__eq__»
  wp_walk
  exact hq
theorem strEq_ins {x C dx : Addr} {z : Str} {t : Tok} (hx : s.heap.get? x = some (PySem.W.instObj C dx)) {Q : Fin → Shared → Prop} (hq : Q (.done (.ret .notImplemented)) s) : wpAny M A (Builtin.«str.__eq__» ⟨[.str z t, .ref x], []⟩) Q E s := by
  obtain ⟨h, g, d, tk, os⟩ := s
  wp_walk using wpAny_loadPart' hx
  exact hq
end
section
variable {prog : Program} {w : World} {A : Around} {E : Value → Shared → Prop} {s : Shared} {K : PySem.W.Frag} {x C dx : Addr} {od : Option Obj} {z : Str} {t : Tok}
open PySem.W in
theorem eq_ins_str {Q : Value → Shared → Prop} (hu : A.units < cLine) (X : K.In s.heap) (I : InstAt s.heap x (instObj C dx) C od) (hs : findIn K (.ref C) "__eq__" = some (some (.builtin "object.__eq__"))) (ho : subIn K (.ref C) (.type "object") = some true)
    (hn : subIn K (.type "str") (.ref C) = some false) (hq : Q (.bool false) s) : wpAny (model prog w) A (richCompare .Eq (.ref x) (.str z t)) Q E s := by
  have c1 : wpAny (model prog w) A (tryCompare (.ref x) "__eq__" (.str z t)) (fun r s' => r = none ∧ s' = s) E s := by
    unfold tryCompare
    refine wpAny_bind ?_
    simp only [callSpecialIfBound?, bindSpecialIfBound?]
    refine wpAny_holding (wpAny_bind (wpAny_bind (wpAny_bind (I.type.here ((looks_findIn X hs).here ?_)))))
    refine wpAny_bind (wpAny_askSetting (wpAny_ite ?_))
    have fin : wpAny (model prog w) A (call (.builtin "object.__eq__") ([.ref x] ++ [.str z t]) >>= fun v => pure (some v)) (fun r s' => wpAny (model prog w) A (match r with | some .notImplemented | none => pure none | some v => pure (some v)) (fun r s' => r = none ∧ s' = s) E s') E s :=
      wpAny_bind (wpAny_call (codeAny_call_builtin PySem.F.cmp_object.eq.plain PySem.F.cmpEntry_eq (check_slot PySem.F.cmpKind_eq PySem.F.cmpSplit_eq (I.type.andThen (looks_subIn X ho)) (PySem.F.cmpArgs_eq _ _) (objEq_str (wpAny_pure (wpAny_pure ⟨rfl, rfl⟩))))))
    have hb : ∀ self, bindSpecial (.builtin "object.__eq__") self = pure (.builtin "object.__eq__", [self]) := PySem.F.cmp_object.eq.bind
    simp only [hb]
    split
    · exact wpAny_bind (wpAny_pure (wpAny_pure fin))
    · exact wpAny_tryCatch (wpAny_bind (wpAny_pure (wpAny_pure fin)))
  have c2 : wpAny (model prog w) A (tryCompare (.str z t) "__eq__" (.ref x)) (fun r s' => r = none ∧ s' = s) E s := by
    have hsl := PySem.F.slot_str_eq_refl
    refine wpAny_tryCompare_declines (typeIs_str s z t) hsl ?_
    exact wpAny_call (codeAny_call_builtin hsl.plain PySem.F.entry_str_eq (hsl.check _ _ _ _ _ _ _ _ (typeIs_str s z t) (PySem.F.args_str_eq_2 _ _) (strEq_ins I.at_ ⟨rfl, rfl, rfl⟩)))
  unfold richCompare
  simp only [oneThing_ref, cmpInfo]
  refine wpAny_holding (wpAny_bind (wpAny_cRoomFor hu ?_))
  refine wpAny_bind (I.type.here (wpAny_bind (wpAny_typeOf (typeIs_str s z t) ?_)))
  rw [if_pos (show (Value.ref C != Value.type "str") = true from rfl)]
  refine wpAny_bind ((looks_subIn X hn).here ?_)
  simp only [Bool.false_eq_true, if_false]
  refine wpAny_bind (wpAny_mono c1 (fun r s' h => ?_) fun _ _ e => e)
  obtain ⟨rfl, rfl⟩ := h
  simp only [Bool.not_false, if_true]
  refine wpAny_bind (wpAny_mono c2 (fun r s' h => ?_) fun _ _ e => e)
  obtain ⟨rfl, rfl⟩ := h
  exact wpAny_bind (wpAny_rule (wpAny_bind (wpAny_of_eq (show isSame (Value.ref x) (Value.str z t) = pure false from rfl) (wpAny_pure hq))))
end
/-- a thing of a class and a text -/
def rEqIS (C : Addr) : R2 := fun x y H Q => ∃ a dx fs z, x = .ref a ∧ y = .str z ∧ H a = some (.ins C dx fs) ∧ Q (.bl false) H
theorem op_eqIS {X : Cx} {C : Addr} (hu : X.A.units < cLine) (hs : PySem.W.findIn X.K (.ref C) "__eq__" = some (some (.builtin "object.__eq__"))) (ho : PySem.W.subIn X.K (.ref C) (.type "object") = some true) (hn : PySem.W.subIn X.K (.type "str") (.ref C) = some false) : OpR X (compareOp .Eq) (rEqIS C) := by
  intro pins s σ H x y v u Q I rx ry h
  obtain ⟨a, dx, fs, z, rfl, rfl, ha, q⟩ := h
  cases rx
  obtain ⟨t, rfl⟩ := ry
  obtain ⟨mA, J, _⟩ := ins_get I.hok ha
  obtain ⟨od, J, _⟩ := J.look
  exact eq_ins_str hu I.kIn J hs ho hn ⟨.bl false, H, I, rfl, q⟩
end TB

/-! a dict == {}; the names put one by one -/
namespace TB
open PySem PySem.Spec PyProof.Rows L2 Ck TS2 TX
/-- a text or a thing, and a text -/
def rEqU (C : Addr) : R2 := fun x y H Q => rEq x y H Q ∨ rEqIS C x y H Q
theorem op_eqU {X : Cx} {C : Addr} (hu : X.A.units + 1 < cLine) (hs : PySem.W.findIn X.K (.ref C) "__eq__" = some (some (.builtin "object.__eq__"))) (ho : PySem.W.subIn X.K (.ref C) (.type "object") = some true) (hn : PySem.W.subIn X.K (.type "str") (.ref C) = some false) : OpR X (compareOp .Eq) (rEqU C) := by
  intro pins s σ H x y v u Q I rx ry h
  rcases h with h | h
  · exact op_eq pins s σ H x y v u Q I rx ry h
  · exact op_eqIS (by omega) hs ho hn pins s σ H x y v u Q I rx ry h
section
variable {prog : Program} {w : World} {A : Around} {E : Value → Shared → Prop} {s : Shared}
open PySem.W PySem.Builtin in
theorem samePairs0 {a b : Addr} {es eb : Array DictEntry} {ep ep' : Nat} (ha : (a == sysModules) = false) (hb : (b == sysModules) = false) (da : s.heap.DictRaw a es ep) (db : s.heap.DictRaw b eb ep') (e0 : eb.size = 0) {id : String} {Q : Bool → Shared → Prop} (h : Q (decide (es.size = 0)) s) : wpAny (model prog w) A (Builtin.Dict.samePairs id a b) Q E s := by
  obtain ⟨oa, hoa, _, hda⟩ := da
  obtain ⟨ob, hob, _, hdb⟩ := db
  unfold Builtin.Dict.samePairs Builtin.Dict.showsAll
  rw [if_neg (show ¬ (a == sysModules) = true by rw [ha]; exact Bool.false_ne_true), if_neg (show ¬ (b == sysModules) = true by rw [hb]; exact Bool.false_ne_true)]
  refine wpAny_bind (wpAny_pure (wpAny_bind (wpAny_pure ?_)))
  refine wpAny_bind (wpAny_dictEntries hoa hda ?_)
  dsimp only
  refine wpAny_bind (wpAny_dictEntries hob hdb ?_)
  by_cases hsz : es.size = eb.size
  case neg =>
    rw [if_pos (by simpa using hsz)]
    have z : decide (es.size = 0) = false := decide_eq_false (by omega)
    rw [z] at h
    exact wpAny_bind (wpAny_rule (wpAny_pure h))
  case pos =>
    have z : decide (es.size = 0) = true := decide_eq_true (by omega)
    rw [z] at h
    rw [if_neg (by rw [hsz]; simp)]
    refine wpAny_bind (wpAny_dictEpoch hoa hda ?_)
    refine wpAny_bind ?_
    rw [Std.Legacy.Range.forIn_eq_forIn_range']
    simp only [Std.Legacy.Range.size, Nat.sub_zero, Nat.add_sub_cancel, Nat.div_one]
    rw [hsz, e0]
    exact wpAny_pure (wpAny_pure h)
end
/-- d == {}, the keys tuples -/
def rEqDT0 : R2 := fun x y H Q => ∃ a b ks, x = .ref a ∧ y = .ref b ∧ H a = some (.dT ks) ∧ H b = some (.dT []) ∧ Q (.bl (decide (ks.length = 0))) H
theorem op_eqDT0 {X : Cx} (hu : X.A.units + 1 < cLine) : OpR X (compareOp .Eq) rEqDT0 := by
  intro pins s σ H x y v u Q I rx ry h
  obtain ⟨a, b, ks, rfl, rfl, ha, hb, q⟩ := h
  cases rx
  cases ry
  obtain ⟨_, ya, va, ra, da⟩ := dt_of I.hok ha
  obtain ⟨_, yb, vb, rb, db⟩ := dt_of I.hok hb
  have lb : vb = [] := by
    cases rb
    rfl
  subst lb
  have la : va.length = ks.length := (PySem.Paired.length ra).symm
  obtain ⟨es, ep, wa, sa, _⟩ := da.raw
  obtain ⟨eb, ep', wb, sb, _⟩ := db.raw
  show wpAny (model X.prog X.w) X.A (richCompare .Eq (Value.ref a) (Value.ref b)) _ _ s
  refine wpAny_richCompare_same_room (op := .Eq) da.typeIs db.typeIs PySem.F.slot_dict_eq (wpAny_call_entry PySem.F.slot_dict_eq da.typeIs PySem.F.entry_dict_eq ?_ (PySem.F.args_dict_eq_2 _ _)) (by omega)
  show wpAny _ _ (Builtin.Dict.dictSlotArgs "__eq__" ⟨[.ref a, .ref b], []⟩ >>= _) _ _ s
  refine wpAny_bind ?_
  unfold Builtin.Dict.dictSlotArgs
  refine wpAny_bind (wpAny_notOrdered_dict da.typeIs ?_)
  show wpAny _ _ (pure (Value.ref a, Value.ref b)) _ _ s
  refine wpAny_pure ?_
  refine wpAny_bind (wpAny_isInstance (T := "dict") db.typeIs PySem.F.sub_dict_dict ?_)
  simp only [Bool.not_true, Bool.false_eq_true, if_false]
  refine wpAny_bind (wpAny_pure (wpAny_bind (wpAny_pure ?_)))
  refine wpAny_bind (samePairs0 ya yb wa wb sb ?_)
  refine wpAny_pure ⟨_, rfl, ?_, ?_⟩
  · exact fun x => nomatch x
  · rw [sa, la]
    exact ⟨.bl (decide (ks.length = 0)), H, I, (show L2.RelV (V.bl (decide (ks.length = 0))) (Value.bool (decide (ks.length = 0) == true)) from by cases decide (ks.length = 0) <;> rfl), q⟩
noncomputable def foldG (hm : Name → Int × Int) : Stand → List Name → Option Stand
  | g, [] => some g
  | g, n :: r => (takenG hm g n).elim none fun W => foldG hm (shiftF g W (some n)) r
theorem foldG_none {hm : Name → Int × Int} {g : Stand} {n : Name} {r : List Name} (h : takenG hm g n = none) : foldG hm g (n :: r) = none := by
  show (takenG hm g n).elim none _ = none
  rw [h]
  rfl
theorem foldG_some {hm : Name → Int × Int} {g : Stand} {n : Name} {r : List Name} {W : List Seat} (h : takenG hm g n = some W) : foldG hm g (n :: r) = foldG hm (shiftF g W (some n)) r := by
  show (takenG hm g n).elim none _ = _
  rw [h]
  rfl
theorem foldG_drop {hm : Name → Int × Int} {g : Stand} {ns : List Name} {i : Nat} (h : i < ns.length) : foldG hm g (ns.drop i) = (takenG hm g ns[i]).elim none fun W => foldG hm (shiftF g W (some ns[i])) (ns.drop (i + 1)) := by
  rw [List.drop_eq_getElem_cons h]
  rfl
end TB

/-! a def that is called in an except suite with the exception itself, and raises nothing: its promise may speak of the exception's object -/
namespace TB
open PySem PySem.Spec PyProof.Rows L2 L2H Ck TS2 TX
abbrev Pin := Addr × Obj
/-- no exception is let out -/
abbrev CXN : CXT := fun _ _ _ _ _ _ => False
abbrev noE : XK := fun _ _ _ => False
structure FnE (P : Program) (w : World) (K : PySem.W.Frag) (mg : Str → Option Value) (base : Heap) (lv : Nat) (f : Addr) (fd : FuncData) (ps : List Str) (sp : Pin → Sp) : Prop where
  arity : ∀ {p : Pin} {vs H Q}, sp p vs H Q noE → vs.length = ps.length
  runs : ∀ {A : Around} {outer : List Env} {s : Shared} {H : Hp} {args : Args} {us : List Value} {vs : List V} {Q : VK} {p : Pin}, RoomH lv A → PinOk outer H s p → Env0 P w K mg base A outer s H → BindsTo s fd args (ps.zip us) → Vals vs us → sp p vs H Q noE →
    codeAny (model P w) A (.call (.ref f) args) (CR CXN outer P w H s Q noE) s
/-- by the def's body -/
theorem FnE.of {P : Program} {w : World} {K : PySem.W.Frag} {mg : Str → Option Value} {base : Heap} {name qual : Str} {st : Stmt} {f : Addr} {fd : FuncData} {N ps : List Str} {lv : Nat} {sp : Pin → Sp} (F : Fun K name qual st f fd) (S : FnScope N ps (defScope st)) (hl : ∀ {p : Pin} {vs H Q}, sp p vs H Q noE → vs.length = ps.length)
    (hb : ∀ (cdv : Value) (A : Around) (outer : List Env) (s : Shared) (H : Hp) (vs : List V) (Q : VK) (p : Pin), RoomH lv (A.deeper (envOfC qual (defScope st) s.heap.objs.size f cdv)) → sp p vs H Q noE →
      ∃ t, PSs (cxH CXN P w K mg base N qual (defScope st) f cdv A outer s H noE p) (defBody st) t ∧ t { nx := fun _ H' => Q .non H', rt := Q } (L2.start N vs) H) : FnE P w K mg base (lv + 1) f fd ps sp := by
  obtain ⟨⟨oc, od, kV, doc, pm, an, cdv, ct, osl, rfl, lk, hcd⟩, _⟩ := F
  refine ⟨hl, ?_⟩
  intro A outer s H args us vs Q p room pin e0 hbind rel hsp
  have kin : K.In s.heap := e0.mod.kin.keeps fun b o e => (e0.bs b o e).1
  have nolim : s.heap.NoLimit := e0.mod.nolimit.keeps fun b o e => (e0.bs b o e).1
  have kinds : ∀ y ∈ ps.zip us, (defScope st).names.lookup y.1 = some .local ∨ ((defScope st).names.lookup y.1 = some .cell ∧ ((cellsFrom (s.heap.objs.size + 1) (defScope st).names []).lookup y.1).isSome = true) := by
    rintro ⟨n, v⟩ hy
    exact (S.par n (List.of_mem_zip hy).1).elim .inl fun q => .inr ⟨q, PySem.W.cellsFrom_some _ _ _ (.inl q)⟩
  refine codeAny_call_function room.depth (kin _ _ lk) rfl S.co S.gen rfl (PySem.W.codeRec_of kin hcd) (hbind _ _ _ _ ?_)
  refine wpAny_newFunctionEnv_cells S.kind kinds fun env henv s1 x => ?_
  subst henv
  refine ⟨nolim.keeps x.toInCall.keep, codeAny_func ?_⟩
  obtain ⟨t, term, reading⟩ := hb cdv A outer s H vs Q p (room.deeper _) hsp
  have inv := inv_startH (CX := CXN) (E := noE) S pin e0 (hl hsp) rel x
  refine wpAny_mono (term.run [] s1 _ H _ inv reading) (fun fl s' q => ?_) fun _ _ q => q
  have out : ∀ {σ' : L2.St} {H' : Hp} {v : V} {u : Value}, Inv (cxH CXN P w K mg base N qual (defScope st) f cdv A outer s H noE p) [] σ' H' s' → RelV v u → Q v H' → CE outer P w H s Q u s' := fun J rv q => ⟨_, _, J.os, J.bare, J.base, J.hok, rv, q⟩
  cases fl with
  | next => exact let ⟨_, _, J, z⟩ := q; out (v := V.non) (u := Value.none) J rfl z
  | ret u => exact let ⟨_, _, _, J, rv, z⟩ := q; out J rv z
  | brk => exact let ⟨_, _, _, z⟩ := q; z.elim
  | cont => exact let ⟨_, _, _, z⟩ := q; z.elim
section
variable {Y : Cx} {f : Addr} {fd : FuncData} {ps : List Str} {sp : Pin → Sp} {lv : Nat} {x : Str} {q pos : Pos} {e : Expr} {es : List Expr} {t : TA} {p : Pin}
/-- called where p is pinned -/
theorem pe_callE (hp : p ∈ Y.pn) (F : FnE Y.prog Y.w Y.K Y.mg Y.base lv f fd ps sp) (room : RoomH lv Y.A) (hg : Gl Y x) (hm : Y.mg x = some (.ref f)) (hk : PySem.W.keepIn Y.K (.ref f) = true) (hb : Binds Y.K fd ps []) (ha : PA Y (e :: es) t)
    (hdb : (x == ("__debug__" : Str)) = false := by decide) (hst : starEach (e :: es) Y.env = (false, eval e Y.env) :: starEach es Y.env := by rfl) (hpl : (backTo pos (starEach es Y.env)).any (·.1) = false := by rfl) :
    PE Y (.Call (.Name x q) (e :: es) [] pos) (tCallS (sp p) (fun _ => noE) t) := by
  constructor
  intro pins s σ H Q I want
  refine wpAny_Call_Name_kw (ld_glob I hg hm ?_ hdb)
  refine PySem.W.callWith_K (h₀ := Y.base) I.ok.mod.kin hk (thn (ha.run pos pins s σ H _ I want) ?_) hst hpl
  rintro us s1 ⟨vs, H1, J, rel, hsp⟩
  refine ⟨J.kIn, ?_⟩
  have len : us.length = ps.length := rel.length.symm.trans (F.arity hsp)
  have bind := hb s1 us J.kIn (by rw [List.append_nil]; exact len)
  rw [List.append_nil] at bind
  obtain ⟨g1, g2, g3, g4, g5⟩ := J.pin p (List.mem_append_left _ hp)
  have pin : PinOk Y.stack H1 s1 p := ⟨g1, g2, fun hm => (List.mem_cons.mp (J.stkSub p.1 hm)).elim g3 g4, g5⟩
  refine wpAny_call (codeAny_mono (F.runs (args := ⟨us, []⟩) room pin J.env0 bind rel hsp) ?_)
  intro r s' z
  cases r with
  | error v => exact z.elim
  | ok fl =>
    cases fl with
    | ret u => exact J.after z
    | next => exact z.elim
    | brk => exact z.elim
    | cont => exact z.elim
end
/-- isinstance(e, c), e what is pinned -/
theorem call_isP {Y : Cx} {p : Pin} {D : Addr} (C : ExcC Y.K D) (hp : p ∈ Y.pn) (hz : Zc (.ref D) none p.2) (hf : ∃ vs, p.2.data = .fields vs) : CallR Y (.builtin "isinstance") (rIsE Y.K D p.1) := by
  obtain ⟨a, oc, od, oda, osl⟩ := p
  obtain ⟨vs, hv⟩ := hf
  obtain ⟨h1, h2⟩ := hz
  dsimp only at h1 h2 hv
  subst h1 h2 hv
  rintro pins s σ H xs us Q I r ⟨c, cv, b, rfl, hcv, e, q⟩
  obtain ⟨u1, u2, rfl, rfl, r2⟩ : ∃ u1 u2, us = [u1, u2] ∧ u1 = Value.ref a ∧ RelV c u2 := by
    cases r with
    | cons rx rr =>
      cases rr with
      | cons rt rr =>
        cases rr
        exact ⟨_, _, rfl, rx, rt⟩
  rw [hcv _ r2]
  have at_ := (I.pin _ (List.mem_append_left _ hp)).1
  have J : PySem.W.InstAt s.heap a ⟨.ref D, none, .fields vs, osl⟩ D none := ⟨at_, rfl, rfl, trivial⟩
  exact PySem.W.kia_one (PySem.W.handS_kitx_exc C.hg C.hk C.hs C.hd C.ha C.hn C.ht C.hm) I.kIn J e (fun z => nomatch z) fun tk => ⟨.bl b, H, I.kept (t' := tk) fun _ _ z => z, rfl, q⟩
/-! list.count of a truth value -/
def eqb (k : Bool) (v : Value) : Bool := match v with
  | .bool b => b == k
  | _ => false
theorem bools_eq {A : Around} {s : Shared} {k : Bool} : ∀ {bs : List Bool} {us : List Value}, Vals (bs.map V.bl) us → (∀ y ∈ us, SeqAt.EqAt A s y (.bool k) (eqb k y)) ∧ us.countP (eqb k) = bs.count k
  | [], _, r => by
    cases r
    exact ⟨fun _ h => (by cases h), rfl⟩
  | b :: bs, _, r => by
    cases r with
    | cons r1 r2 =>
      obtain ⟨i1, i2⟩ := bools_eq (A := A) (s := s) (k := k) r2
      have e := r1
      obtain rfl := (show _ = Value.bool b from e)
      refine ⟨fun y hy => ?_, ?_⟩
      · rcases List.mem_cons.mp hy with z | z
        · rw [z]
          exact eqAt_V (y := V.bl b) (x := V.bl k) rfl rfl rfl rfl
        · exact i1 y z
      · rw [List.countP_cons, List.count_cons, i2]
        rfl
def rCntB (K : PySem.W.Frag) : V → List V → Hp → VK → Prop := fun x xs H Q => ∃ (p : Addr) (bs : List Bool) (k : Bool), x = .ref p ∧ xs = [.bl k] ∧ SqL K H p (bs.map V.bl) ∧ Q (.int (bs.count k : Nat)) H
theorem mt_countB {X : Cx} : MtR X "list.count" (rCntB X.K) := by
  rintro pins s σ H x xs v us Q I rx rxs ⟨p, bs, k, rfl, rfl, hs, q⟩
  cases rx
  obtain ⟨u, rfl, ru⟩ := rxs.one
  obtain rfl := (show u = Value.bool k from ru)
  obtain ⟨its, rv, ⟨⟨cls, dd, data, sl⟩, n, ho, hc, hdn, hd⟩, hlen⟩ := I.list hs
  simp only at hc hd
  subst hc hd
  obtain ⟨h1, h2⟩ := bools_eq (A := X.A.in1) (s := s) (k := k) rv
  refine call_meets PySem.F.slot_list_count ⟨_, ho, rfl⟩ PySem.F.entry_list_count (PySem.F.args_list_count_2 _ _)
    (SeqAt.list_countAt p its.toArray n dd sl (.bool k) (eqb k)) ⟨ho, fun y hy => ?_, ?_⟩
  · exact (bools_eq (k := k) rv).1 y (by simpa using hy)
  · refine ⟨.int (bs.count k : Nat), H, I.tok _, ⟨s.toks, ?_⟩, q⟩
    show Value.int ((its.toArray.toList.countP (eqb k) : Nat) : Int) s.toks = Value.int ((bs.count k : Nat) : Int) s.toks
    rw [show its.toArray.toList = its from rfl, h2]
end TB

/-! a star among the targets, a list turned round, isinstance of a pinned thing and several classes -/
namespace TB
open PySem PySem.Spec PyProof.Rows L2 Ck TS2 TX
section
variable {prog : Program} {w : World} {A : Around} {E : Value → Shared → Prop}
open PySem.W in
/-- the items that targets with one star are given: those ahead, a new list, those behind -/
theorem star_items {a : Addr} {its : List Value} {n i : Nat} {s0 : Shared} {Q : List Value → Shared → Prop} (calm : A.handled = none) (la : s0.heap.IsList a its.toArray) (small : its.length ≤ 16384) (below : i < n) (enough : n ≤ its.length + 1)
    (next : ∀ (h2 : Heap) (tk : Nat), (∀ b o, s0.heap.get? b = some o → h2.get? b = some o) →
      Q (its.take i ++ [.ref h2.objs.size] ++ (its.drop i).drop (its.length + 1 - n)) { s0 with heap := h2.push { cls := .type "list", data := .seq ((its.drop i).take (its.length + 1 - n)).toArray }, toks := tk }) :
    wpAny (model prog w) A (unpackItems (.ref a) n (some i)) Q E s0 := by
  have old : a < s0.heap.objs.size := Exists.elim la fun _ z => Heap.lt_size z.1
  have apart : a ≠ s0.heap.objs.size := Nat.ne_of_lt old
  have sz : its.toArray.size = its.length := by simp
  unfold unpackItems
  refine wpAny_bind (by unfold notIterableAtAll; exact wpAny_bind (wpAny_specialOf la.typeIs slot_list_iter.lookup (wpAny_pure (by
    simp only [Bool.false_eq_true, if_false]
    refine wpAny_bind (wpAny_holding (wpAny_pyIter_list la (wpAny_bind (wpAny_holding (kun_draw apart i 0 _ _ ⟨_, Heap.get?_push_size _ rfl, rfl, rfl⟩ (la.push _) (by omega) fun h1 it1 same1 => ?_)))))
    have la1 : h1.IsList a its.toArray := (la.push _).extBut same1.extBut apart
    rw [Nat.zero_add] at it1
    obtain ⟨oi, goti, _⟩ := id it1
    obtain ⟨ol, gotl, _⟩ := id la1
    rw [List.drop_zero, show its.toArray.toList = its from rfl]
    have lt : (its.take i).length = i := by rw [List.length_take]; omega
    rw [if_neg (fun z => Nat.lt_irrefl i (Nat.lt_of_le_of_lt (Nat.le_of_eq lt.symm) z))]
    refine wpAny_bind (wpAny_holding (kun_collect (s := { s0 with heap := h1 }) (T := "list_iterator") (.inr (.inr (.inl rfl))) (Walks.list (A := A.in1) calm s0.heap.objs.size a apart its.toArray) (fun _ _ st => st.1.typeIs) (k := i) (by omega) ⟨it1, la1⟩ (Heap.lt_size goti) (Heap.lt_size gotl) (fun h2 tk keeps => ?_) (by rw [sz, sizeLine_eq]; omega)))
    have ld : (its.drop i).length = its.length - i := List.length_drop ..
    have lm : (its.drop i).length - (n - 1 - i) = its.length + 1 - n := by omega
    rw [show its.toArray.toList = its from rfl]
    show wpAny _ _ (if (its.drop i).length < n - 1 - i then _ else _) _ _ _
    rw [if_neg (by omega)]
    show wpAny _ _ (newList ((its.drop i).take ((its.drop i).length - (n - 1 - i))) >>= fun d => pure (its.take i ++ [d] ++ (its.drop i).drop ((its.drop i).length - (n - 1 - i)))) _ _ _
    rw [lm]
    refine wpAny_bind (wpAny_newList (wpAny_pure (next h2 tk fun b o e => keeps b o (fun z => ?_) (same1.extBut b o (fun z => ?_) (Heap.get?_push_of_some _ e)))) (by rw [List.length_take, ld, sizeLine_eq]; omega))
    · exact absurd (Heap.lt_size e) (by rw [z]; exact Nat.lt_irrefl _)
    · exact absurd (Heap.lt_size e) (by rw [z]; exact Nat.lt_irrefl _)))))
end
/-- targets, the i-th of n with a star, from a list -/
def gStar (K : PySem.W.Frag) (n i : Nat) (t : TGs) : TG := fun v σ H Q => ∃ a xs, v = .ref a ∧ SqL K H a xs ∧ xs.length ≤ 16384 ∧ n ≤ xs.length + 1 ∧ ∀ D, H D = none → t (xs.take i ++ [.ref D] ++ (xs.drop i).drop (xs.length + 1 - n)) σ (upd H D (.lst ((xs.drop i).take (xs.length + 1 - n)))) Q
section
variable {X : Cx} {pos : Pos}
theorem pgs_star {e : Expr} {es : List Expr} {t : TG} {u : TGs} {sp : Pos} (h1 : PG X e t) (h2 : PGs X es u) : PGs X (.Starred e sp :: es) (gCons t u) := by
  refine ⟨fun pins s σ H vs us Q I r h => ?_⟩
  obtain ⟨v, vr, rfl, h⟩ := h
  cases r with
  | cons r rr =>
    show wpAny _ _ (assignInOrder (assign e X.env :: (assignEach es X.env).map (·.2)) _) _ _ _
    exact assignInOrder_cons (thn (h1.run pins s σ H _ _ _ I r h) fun _ s1 ⟨σ1, H1, I1, q1⟩ => h2.run pins s1 σ1 H1 _ _ Q I1 rr q1)
theorem pg_star {es : List Expr} {k : Nat} {t : TGs} {n i : Nat} (hc : X.calm = true) (h : PGs X es t) (hi : i < n)
    (hn : (assignEach es X.env).length = n := by rfl) (hst : (assignEach es X.env).findIdx? (·.1) = some i := by rfl) : PG X (.Tuple es k pos) (gStar X.K n i t) := by
  refine ⟨fun pins s σ H v u Q I r hw => ?_⟩
  obtain ⟨a, xs, rfl, hq, hl, hm, hw⟩ := hw
  cases r
  obtain ⟨its, rv, pl, hz⟩ := I.list hq
  have len := rv.length
  rw [PyProof.Rows.assign_Tuple]
  refine wpAny_bind (wpAny_standAt ?_)
  unfold unpack
  rw [hn, hst]
  refine wpAny_bind (wpAny_holding (star_items (I.ok.hd hc) pl.isList (by omega) hi (by omega) fun h2 tk keeps => ?_))
  have I1 : Inv X pins σ H { s with heap := h2, toks := tk } := I.kept (t' := tk) keeps
  have I2 := I1.lnew (t' := tk) ((rv.drop i).take (its.length + 1 - n)) (Nat.le_trans (by rw [List.length_take, List.length_drop]; omega) hz)
  rw [len] at hw
  exact h.run pins _ σ _ _ _ Q I2 (((rv.take i).append (.cons (show RelV (V.ref h2.objs.size) (.ref h2.objs.size) from rfl) .nil)).append ((rv.drop i).drop _)) (hw _ I1.fresh)
end
/-! a list turned round -/
theorem take_next {l : List Value} {n : Nat} (h : n < l.length) : l.take (n + 1) = l.take n ++ [l[n]] := by
  rw [List.take_add_one, List.getElem?_eq_getElem h]
  rfl
theorem fm_congr {f g : Nat → Option Value} : ∀ {l : List Nat}, (∀ x ∈ l, f x = g x) → l.filterMap f = l.filterMap g
  | [], _ => rfl
  | x :: l, h => by
    rw [List.filterMap_cons, List.filterMap_cons, h x (List.mem_cons_self ..), fm_congr fun y hy => h y (List.mem_cons_of_mem _ hy)]
theorem picks_all : ∀ (n : Nat) (l : List Value), l.length = n → (List.range n).filterMap (fun x => l[x]?) = l
  | 0, l, h => by
    rw [List.eq_nil_of_length_eq_zero h]
    rfl
  | n + 1, l, h => by
    rw [List.range_succ, List.filterMap_append]
    have e1 : (List.range n).filterMap (fun x => l[x]?) = (List.range n).filterMap (fun x => (l.take n)[x]?) := fm_congr fun x hx => by
      rw [List.getElem?_take_of_lt (List.mem_range.mp hx)]
    rw [e1, picks_all n (l.take n) (by rw [List.length_take]; omega)]
    have e2 : l[n]? = some l[n] := List.getElem?_eq_getElem (by omega)
    have e3 : ([n].filterMap fun x => l[x]?) = [l[n]] := by
      rw [List.filterMap_cons, e2]
      rfl
    rw [e3, ← take_next (by omega : n < l.length), List.take_of_length_le (by omega)]
theorem turned (its : List Value) : slicePick its.toArray none none (some (-1)) = its.reverse.toArray := by
  unfold slicePick
  have b : sliceBounds none none (some (-1)) its.toArray.size = ((its.length : Int) - 1, -1, -1) := by
    rw [List.size_toArray]
    rfl
  rw [b]
  congr 1
  show (sliceRange ((its.length : Int) - 1) (-1) (-1)).filterMap _ = _
  have e : sliceRange ((its.length : Int) - 1) (-1) (-1) = (List.range its.length).reverse := by
    unfold sliceRange
    rw [if_neg (by decide)]
    have c : (if ((its.length : Int) - 1) > -1 then ((its.length : Int) - 1 - -1 - -1 - 1) / (- -1) else 0).toNat = its.length := by
      rw [show (- -1 : Int) = 1 from rfl, Int.ediv_one]
      split <;> omega
    simp only [c]
    refine List.ext_getElem (by simp) fun j h1 h2 => ?_
    simp only [List.getElem_map, List.getElem_range, List.getElem_reverse, List.length_range]
    have : j < its.length := by simpa using h1
    omega
  rw [e, List.filterMap_reverse]
  refine congrArg List.reverse ?_
  exact (fm_congr fun x _ => by simp).trans (picks_all _ its rfl)
def tRev (K : PySem.W.Frag) (te ts : TE) : TE := fun σ H Q => te σ H fun x H1 => ts σ H1 fun y H2 => y = .int (-1) ∧ ∃ a xs, x = .ref a ∧ SqL K H2 a xs ∧ ∀ p, H2 p = none → Q (.ref p) (upd H2 p (.lst xs.reverse))
/-- e[::-1] of a list -/
theorem pe_rev {X : Cx} {e st : Expr} {te ts : TE} {pos p2 : Pos} (he : PE X e te) (hs : PE X st ts) : PE X (.Subscript e (.Slice none none (some st) p2) pos) (tRev X.K te ts) := by
  refine ⟨fun pins s σ H Q I h => Subscript_ (thn (he.run pins s σ H _ I h) fun v s1 ⟨x, H1, I1, r1, q1⟩ => wpAny_Slice ?_)⟩
  rw [evalPart_none, evalPart_some]
  refine wpAny_pure (wpAny_pure (thn (hs.run pins s1 σ H1 _ I1 q1) fun u s2 ⟨y, H2, I2, r2, ey, a, xs, ex, hx, q2⟩ => ?_))
  subst ey ex
  obtain ⟨t, rfl⟩ := r2
  cases r1
  have I3 : Inv X pins σ H2 { s2 with heap := s2.heap.push { cls := .type "slice", data := .fields #[.none, .none, .int (-1) t] } } := I2.kept (t' := s2.toks) fun b ob q => Heap.get?_push_of_some _ q
  obtain ⟨its, r, ht, hz⟩ := I3.list hx
  have hlen := r.length
  show wpAny (model X.prog X.w) X.A (subscriptTail e (.Slice none none (some st) p2) (.ref a) (.ref s2.heap.objs.size)) (EP X pins σ Q) X.xe { s2 with heap := s2.heap.push { cls := .type "slice", data := .fields #[.none, .none, .int (-1) t] } }
  refine tail_any (ops := [.ref a, .ref s2.heap.objs.size]) ht.isList.typeIs slot_list_getitem.lookup (wpAny_getItem_list_slice ht.isList (Heap.IsSliceOf.new ..) .none .none (.int (-1) t) (by simp) ?_ (by rw [List.size_toArray]; omega)) (by with_unfolding_all rfl)
  rw [turned]
  exact ⟨.ref _, _, I3.lnew (t' := s2.toks) r.reverse (by rw [List.length_reverse]; exact hz), rfl, q2 _ I3.fresh⟩
/-- isinstance(e, (c1, ..)), e what is pinned, the tuple just laid -/
def rIsP (K : PySem.W.Frag) (D a : Addr) : List V → Hp → VK → Prop := fun xs H Q => ∃ (tp : Addr) (cs : List V) (us : List Value) (b : Bool), xs = [.ref a, .ref tp] ∧ H tp = some (.tup cs) ∧ Paired ClsV cs us ∧ PySem.W.kitAny K (.ref D) us = some b ∧ Q (.bl b) H
theorem call_isPT {Y : Cx} {p : Pin} {D : Addr} (C : ExcC Y.K D) (hp : p ∈ Y.pn) (hz : Zc (.ref D) none p.2) (hf : ∃ vs, p.2.data = .fields vs) : CallR Y (.builtin "isinstance") (rIsP Y.K D p.1) := by
  obtain ⟨a, oc, od, oda, osl⟩ := p
  obtain ⟨vs, hv⟩ := hf
  obtain ⟨h1, h2⟩ := hz
  dsimp only at h1 h2 hv
  subst h1 h2 hv
  rintro pins s σ H xs us Q I r ⟨tp, cs, ws, b, rfl, hT, k, e, q⟩
  obtain ⟨u1, u2, rfl, r1, r2⟩ := vals2 r
  cases (show u2 = Value.ref tp from r2)
  obtain rfl : u1 = Value.ref a := r1
  obtain ⟨_, its, rv, o, g1, g2, n, g3⟩ := (show ObjOk Y.prog Y.w H s.heap tp (.tup cs) from I.hok tp _ hT)
  obtain rfl := ClsV.all k rv
  obtain ⟨qc, qd, qt, ql⟩ := o
  simp only at g2 g3
  subst g2 g3
  have at_ := (I.pin _ (List.mem_append_left _ hp)).1
  have J : PySem.W.InstAt s.heap a ⟨.ref D, none, .fields vs, osl⟩ D none := ⟨at_, rfl, rfl, trivial⟩
  exact PySem.W.kia_tup (PySem.W.handS_kitx_exc C.hg C.hk C.hs C.hd C.ha C.hn C.ht C.hm) I.kIn J g1 e (fun z => nomatch z) fun tk => ⟨.bl b, H, I.kept (t' := tk) fun _ _ z => z, rfl, q⟩
/-- d != {}, the keys tuples -/
def rNeDT0 : R2 := fun x y H Q => ∃ a b ks, x = .ref a ∧ y = .ref b ∧ H a = some (.dT ks) ∧ H b = some (.dT []) ∧ Q (.bl (!decide (ks.length = 0))) H
theorem op_neDT0 {X : Cx} (hu : X.A.units + 1 < cLine) : OpR X (compareOp .NotEq) rNeDT0 := by
  intro pins s σ H x y v u Q I rx ry h
  obtain ⟨a, b, ks, rfl, rfl, ha, hb, q⟩ := h
  cases rx
  cases ry
  obtain ⟨_, ya, va, ra, da⟩ := dt_of I.hok ha
  obtain ⟨_, yb, vb, rb, db⟩ := dt_of I.hok hb
  have lb : vb = [] := by
    cases rb
    rfl
  subst lb
  have la : va.length = ks.length := (PySem.Paired.length ra).symm
  obtain ⟨es, ep, wa, sa, _⟩ := da.raw
  obtain ⟨eb, ep', wb, sb, _⟩ := db.raw
  show wpAny (model X.prog X.w) X.A (richCompare .NotEq (Value.ref a) (Value.ref b)) _ _ s
  refine wpAny_richCompare_same_room (op := .NotEq) da.typeIs db.typeIs PySem.F.slot_dict_ne (wpAny_call_entry PySem.F.slot_dict_ne da.typeIs PySem.F.entry_dict_ne (by
    show wpAny _ _ (Builtin.Dict.dictSlotArgs "__ne__" ⟨[.ref a, .ref b], []⟩ >>= _) _ _ s
    unfold Builtin.Dict.dictSlotArgs
    refine wpAny_bind (wpAny_bind (wpAny_notOrdered_dict da.typeIs ?_))
    refine wpAny_pure (wpAny_bind (wpAny_isInstance (T := "dict") db.typeIs PySem.F.sub_dict_dict ?_))
    simp only [Bool.not_true, Bool.false_eq_true, if_false]
    refine wpAny_bind (wpAny_pure (wpAny_bind (wpAny_pure (wpAny_bind (samePairs0 ya yb wa wb sb ?_)))))
    refine wpAny_pure ⟨_, rfl, ?_, ?_⟩
    · exact fun x => nomatch x
    rw [sa, la]
    exact ⟨.bl (!decide (ks.length = 0)), H, I, (show L2.RelV (V.bl (!decide (ks.length = 0))) (Value.bool (decide (ks.length = 0) == false)) from by cases decide (ks.length = 0) <;> rfl), q⟩) (PySem.F.args_dict_ne_2 _ _)) (by omega)
end TB

/-! a list comprehension whose step may raise -/
namespace TB
open PySem PySem.Spec PyProof.Rows L2 Ck TS2 TX
theorem note_same {e1 e2 : Env} (h : e1.frame = e2.frame) (x : Value) : noteFrame x e1 = noteFrame x e2 := by
  unfold noteFrame PySem.frameOf
  rw [h]
theorem frames_but {G G' B B' : Heap} {C : Addr} (k : ∀ b, b ≠ C → G'.get? b = G.get? b) : ∀ {l : List Env}, G.FunFrames B l → C ∉ frs l → (∀ L ∈ frs l, B'.get? L = none) → G'.FunFrames B' l
  | [], _, _, _ => trivial
  | v :: r, z, nc, nb => by
    obtain ⟨z1, ⟨L, o, z2, _, z3, z4⟩, z5⟩ := z
    have mem : L ∈ frs (v :: r) := List.mem_filterMap.mpr ⟨v, List.mem_cons_self, z2⟩
    have sub : ∀ b ∈ frs r, b ∈ frs (v :: r) := fun b hb => by
      obtain ⟨e, he, q⟩ := List.mem_filterMap.mp hb
      exact List.mem_filterMap.mpr ⟨e, List.mem_cons_of_mem _ he, q⟩
    exact ⟨z1, ⟨L, o, z2, nb L mem, (k L fun q => nc (q ▸ mem)).trans z3, z4⟩, frames_but k z5 (fun q => nc (sub _ q)) fun b hb => nb b (sub b hb)⟩
section
variable {X : Cx} {pins : List (Addr × Obj)} {σ : L2.St} {H : Hp} {s s2 : Shared} {E : XK}
/-- what a call let out: the state without it, and it in flight -/
theorem flight_of (I : Inv X pins σ H s) {u : Value} (c : CX X.prog X.w X.stack H s E u s2) :
    ∃ (a : Addr) (B : Heap) (sI : Shared) (HI : Hp) (cls : Value) (d : Option Addr), u = .ref a ∧ Inv X pins σ HI sI ∧ (∀ b o, sI.heap.get? b = some o → b ∉ frs X.stack → B.get? b = some o) ∧ sI.heap.UpToSlots s2.heap ∧
      HandSPX.FlyingZ B X.stack a (Zc cls d) s2.heap ∧ HI a = none ∧ s2.os = sI.os ∧ AllBare s2.gens ∧ E cls d HI := by
  obtain ⟨a, B, HI, cls, d, rfl, fl, ground, ub, na, os, ag, hE⟩ := c
  obtain ⟨G, yes, no⟩ := restrict s2.heap fun b => (B.get? b).isSome || decide (b ∈ frs X.stack)
  have inB : ∀ b o, B.get? b = some o → G.get? b = some o := fun b o e => (yes b (by simp [e])).trans (fl.1 b o e)
  have inF : ∀ b, b ∈ frs X.stack → G.get? b = s2.heap.get? b := fun b hb => yes b (by simp [hb])
  have back : ∀ b o, G.get? b = some o → s2.heap.get? b = some o ∧ ((B.get? b).isSome = true ∨ b ∈ frs X.stack) := fun b o e => by
    by_cases q : ((B.get? b).isSome || decide (b ∈ frs X.stack)) = true
    · exact ⟨(yes b q).symm.trans e, by simpa [Bool.or_eq_true] using q⟩
    · rw [no b (by simpa using q)] at e
      cases e
  refine ⟨a, B, { s with heap := G, gens := s2.gens, drawn := s2.drawn, toks := s2.toks }, HI, cls, d, rfl, I.call (ch := []) ⟨fun b o e n hb _ => inB b o (ub.keep b o e n hb), fun b o e n hb _ => ?_, fun b o e n _ => ub.free b o e n, fun b o e _ => ?_, ub.tups, ub.frzs, ub.tbls⟩ (ground.kept inB) ag (fun _ z => nomatch z), fun b o e hb => ?_, Heap.UpToSlots.of_keeps fun b o e => (back b o e).1, fl, na, os, ag, hE⟩
  · obtain ⟨sl, q⟩ := ub.slot b o e hb
    exact ⟨sl, (inF b hb).trans q⟩
  · by_cases hb : b ∈ frs X.stack
    · obtain ⟨sl, q⟩ := ub.slot b o e hb
      exact ⟨_, (inF b hb).trans q⟩
    · obtain ⟨o2, q⟩ := ub.there b o e hb
      exact ⟨o2, inB b o2 q⟩
  · obtain ⟨e2, w | w⟩ := back b o e
    · obtain ⟨o2, q⟩ := Option.isSome_iff_exists.mp w
      have z := fl.1 b o2 q
      rw [e2] at z
      cases z
      exact q
    · exact absurd w hb
end
/-- behind a block that may raise -/
def postX (M : Model) (A : Around) (E : Value → Shared → Prop) (use : Option (Value → Sem Unit)) (Q : Value → Shared → Prop) (acc : Value) (ce : Env) (r : Result) (t : Shared) : Prop :=
  match r, use with
  | .ok _, none => ∃ m, t.heap.Ns ce.locals m ∧ ∀ G, Heap.SameBut ce.locals t.heap G → Q acc { t with heap := G }
  | .ok _, some f => wpAny M A (f acc) (fun _ t2 => ∃ m, t2.heap.Ns ce.locals m ∧ ∀ G, Heap.SameBut ce.locals t2.heap G → Q .none { t2 with heap := G }) E t
  | .error x, _ => ∃ m, t.heap.Ns ce.locals m ∧ ∀ G, Heap.SameBut ce.locals t.heap G → wpAny M A (PySem.passOn "comprehension.variables-let-go" x ce : Sem Value) (fun _ _ => False) E { t with heap := G }
/-- what a call in the block let out reaches the def -/
theorem comp_air {X : Cx} {E : XK} (tk : Takes X (fun cls d _ H => E cls d H)) (hs : X.stack = X.env :: X.outer) (hf : X.env.frame = some X.env.locals) {pins : List (Addr × Obj)} {σ : L2.St} {H3 : Hp} {s3 : Shared} (I3 : Inv X pins σ H3 s3)
    {scope : Scope} {ce : Env} {fp : List Addr} (f3 : ∀ b ∈ fp, FpOk X pins H3 b) (cL : ce.locals = s3.heap.objs.size) (cf : ce.frame = X.env.frame) {xe : Value → Shared → Prop} {pins2 : List (Addr × Obj)} {σ2 : L2.St} {H2 : Hp} {s2 : Shared}
    (I : Inv ((X.blk s3 H3 scope ce fp).wish xe) pins2 σ2 H2 s2) {u : Value} {t : Shared} (c : CX X.prog X.w X.stack H2 s2 E u t) {use : Option (Value → Sem Unit)} {Q : Value → Shared → Prop} {acc : Value} :
    notedBy (model X.prog X.w) X.A ce (fun x t2 => postX (model X.prog X.w) X.A X.xe use Q acc ce (.error x) t2) u t := by
  obtain ⟨a, B, sI, HI, cls, d, rfl, IY, nb, up, fl, na, os, ag, w⟩ := flight_of I c
  have IX : Inv X pins σ HI sI := I3.call' (ch := fp) IY.os IY.base IY.hok IY.bare fun b hb => ⟨(f3 b hb).2.2.2.1, (f3 b hb).2.1, (f3 b hb).2.2.2.2.1, (f3 b hb).2.2.2.2.2⟩
  have nC : HI ce.locals = none := IY.free
  have fC : FpOk X pins HI ce.locals := I3.fpOk (by rw [cL]; exact Nat.le_refl _) nC
  have cS : ce.locals ∉ frs X.stack := fun z => by
    rcases List.mem_cons.mp (IX.stkSub _ z) with q | q
    · exact fC.2.1 q
    · exact fC.2.2.1 q
  obtain ⟨m, hn, _⟩ := IY.loc
  obtain ⟨oC, es, ep, gC, dC, rC⟩ := (show sI.heap.Ns ce.locals m from hn)
  have bC : B.get? ce.locals = some oC := nb _ _ gC cS
  have fr : ce.frame = some X.env.locals := cf.trans hf
  show wpAny _ _ (noteFrame (.ref a) ce) _ _ t
  rw [note_same cf]
  rw [hs] at fl
  refine HandSPX.looks_onZ Zc.steady (by rw [I3.ok.frames, hs]) hf fl fun h1 held up1 => ?_
  obtain ⟨k1, k2, k3, k4⟩ := held
  have key : ∃ m, h1.Ns ce.locals m ∧ ∀ G, Heap.SameBut ce.locals h1 G → wpAny (model X.prog X.w) X.A (PySem.passOn "comprehension.variables-let-go" (.ref a) ce : Sem Value) (fun _ _ => False) X.xe { t with heap := G } := ?_
  · cases use <;> exact key
  refine ⟨m, ⟨oC, es, ep, k1 _ _ bC, dC, rC⟩, fun G same => ?_⟩
  have kp : ∀ b, b ≠ ce.locals → G.get? b = h1.get? b := same.2
  rw [← hs] at k3
  have noF : ∀ {b : Addr} {o : Obj} {vs : Array Value}, h1.get? b = some o → o.data = .fields vs → b ≠ ce.locals := fun {b o vs} e1 e2 e3 => by
    rw [e3, k1 _ _ bC] at e1
    cases e1
    rw [dC] at e2
    cases e2
  have held2 : HandSPX.HeldZ (PySem.W.hideAll B [ce.locals]) X.stack a (Zc cls d) X.env.locals G := by
    refine ⟨fun b o e => ?_, ?_, frames_but kp k3 cS fun b hb => ?_, ?_⟩
    · have hb : b ≠ ce.locals := fun q => by
        rw [q, PySem.W.hideAll_none _ (List.mem_singleton.mpr rfl)] at e
        cases e
      exact (kp b hb).trans (k1 b o (PySem.W.of_hideAll _ e))
    · cases q : (PySem.W.hideAll B [ce.locals]).get? a with
      | none => rfl
      | some o => exact absurd ((PySem.W.of_hideAll _ q).symm.trans k2) (by intro z; cases z)
    · cases q : (PySem.W.hideAll B [ce.locals]).get? b with
      | none => rfl
      | some o => exact absurd ((PySem.W.of_hideAll _ q).symm.trans (k3.mem hb).1) (by intro z; cases z)
    · obtain ⟨oe, vs, T, oT, ts, g1, g2, g3, g4, g5, g6, g7, g8, g9⟩ := k4
      refine ⟨oe, vs, T, oT, ts, (kp a (noF g1 g3)).trans g1, g2, g3, g4, ?_, g6, (kp T (noF g7 g8)).trans g7, g8, g9⟩
      cases q : (PySem.W.hideAll B [ce.locals]).get? T with
      | none => rfl
      | some o => exact absurd ((PySem.W.of_hideAll _ q).symm.trans g5) (by intro z; cases z)
  obtain ⟨oe, vs, T, _, _, g1, _, g3, g4, _⟩ := id held2.2.2.2
  unfold PySem.passOn
  refine wpAny_bind (wpAny_field g1 g3 g4 ?_)
  rw [if_neg (show ¬ ((Value.ref T == Value.none) = true) from by simp), fr]
  refine wpAny_bind (HandSPX.setFlight_onZ held2 fun h3 held3 up3 => wpAny_throw (tk _ _ ?_))
  refine ⟨a, PySem.W.hideAll B [ce.locals], { sI with heap := PySem.W.hideAll sI.heap [ce.locals] }, pins, σ, HI, cls, d, rfl, IX.turned (t' := sI.toks) (it := ce.locals) (fun b o hb e => PySem.W.hideAll_get _ e (fun z => hb (List.mem_singleton.mp z))) nC fC.2.1 fC.2.2.2.1 fC.2.2.2.2.1 fC.2.2.2.2.2, fun b o e hb => ?_, fun b o e hd => ?_, .inr (.inr held3), na, os, ag, w⟩
  · have ne : b ≠ ce.locals := fun q => by
      rw [q, PySem.W.hideAll_none _ (List.mem_singleton.mpr rfl)] at e
      cases e
    exact PySem.W.hideAll_get _ (nb b o (PySem.W.of_hideAll _ e) hb) fun z => ne (List.mem_singleton.mp z)
  · have ne : b ≠ ce.locals := fun q => by
      rw [q, PySem.W.hideAll_none _ (List.mem_singleton.mpr rfl)] at e
      cases e
    obtain ⟨s1, e1⟩ := up b o (PySem.W.of_hideAll _ e) hd
    obtain ⟨s5, e5⟩ := up1 b _ e1 hd
    obtain ⟨s6, e6⟩ := up3 b _ ((kp b ne).trans e5) hd
    exact ⟨s6, e6⟩
section
variable {M : Model} {A : Around} {E : Value → Shared → Prop} {s : Shared} {env : Env}
theorem comp_free_x {e : Expr} {scope : Scope} {pos : Pos} {acc0 first : Sem Value} {g : Comprehension} {gs : List Comprehension} {cl : List (Str × Addr)} {use : Option (Value → Sem Unit)} {Q : Value → Shared → Prop}
    (one : clausesOf e = g :: gs) (fold : ∀ x, foldedSetIterable g.iter env x = pure x) (clos : closureFor scope env = pure cl) (kind : scope.kind = .function) (nm : ∀ x ∈ scope.names, x.2 = .local → scope.names.lookup x.1 = some .local)
    (h : wpAny M A first (fun x t1 => wpAny M A (pyIter x) (fun it t2 => wpAny M A acc0 (fun acc t3 => wpAny M A (newFunctionEnv scope env.globals cl [] env.qual none .none (some env)) (fun ce t4 =>
      codeAny M A (.compStart e 0 it acc { ce with scope := relabel scope env }) (postX M A E use Q acc { ce with scope := relabel scope env }) t4) E t3) E t2) E t1) E s) :
    wpAny M A (comprehension e scope env pos acc0 false first use) Q E s := by
  unfold comprehension
  rw [clos, one]
  refine wpAny_bind (wpAny_mono h (fun x t1 g1 => wpAny_bind (wpAny_standAt (wpAny_bind (wpAny_of_eq (fold x) (wpAny_bind (wpAny_holding (wpAny_mono g1 (fun it t2 g2 =>
    wpAny_standIf (wpAny_bind (wpAny_mono g2 (fun acc t3 g3 => wpAny_bind (wpAny_pure (wpAny_bind (wpAny_mono g3 (fun ce t4 g4 => ?_) fun _ _ z => z)))) fun _ _ z => z)))
      fun _ _ z => z))))))) fun _ _ z => z)
  dsimp only
  have own : ∀ x ∈ (scope.names.filter fun x => (x.2 == .local || x.2 == .cell) && x.1 != (".0" : Str)).reverse, x.2 = .local → Env.kindOf { ce with scope := relabel scope env } x.1 = some .local :=
    fun x hx hl => lookup_relabel_local (nm x (List.mem_filter.mp (List.mem_reverse.mp hx)).1 hl)
  have own2 : ∀ x ∈ (scope.names.filter fun x => (x.2 == .local || x.2 == .cell) && x.1 != (".0" : Str)).reverse.drop 1 ++ (scope.names.filter fun x => (x.2 == .local || x.2 == .cell) && x.1 != (".0" : Str)).reverse.take 1, x.2 = .local → Env.kindOf { ce with scope := relabel scope env } x.1 = some .local :=
    fun x hx hl => (List.mem_append.mp hx).elim (fun z => own x (List.mem_of_mem_drop z) hl) fun z => own x (List.mem_of_mem_take z) hl
  refine wpAny_holding (wpAny_bind (wpAny_attempt (wpAny_holding (wpAny_run (codeAny_mono g4 fun r t5 back => ?_)))))
  cases r with
  | ok f =>
    cases use with
    | none =>
      obtain ⟨m, hn, out⟩ := back
      exact wpAny_bind (wpAny_holding (wpAny_comp_letGo (cenv := { ce with scope := relabel scope env }) kind _ t5 m own hn fun G _ _ same => wpAny_pure (out G same)))
    | some f2 =>
      refine wpAny_bind (wpAny_rule (wpAny_bind (wpAny_holding (wpAny_mono back (fun _ t6 out => ?_) fun _ _ z => z))))
      obtain ⟨m, hn, out⟩ := out
      exact wpAny_bind (wpAny_comp_letGo (cenv := { ce with scope := relabel scope env }) kind _ t6 m own2 hn fun G _ _ same => wpAny_pure (out G same))
  | error x =>
    have back2 : ∃ m, t5.heap.Ns ce.locals m ∧ ∀ G, Heap.SameBut ce.locals t5.heap G → wpAny M A (PySem.passOn "comprehension.variables-let-go" x { ce with scope := relabel scope env } : Sem Value) (fun _ _ => False) E { t5 with heap := G } := by cases use <;> exact back
    obtain ⟨m, hn, out⟩ := back2
    exact wpAny_bind (wpAny_holding (wpAny_comp_letGo (cenv := { ce with scope := relabel scope env }) kind _ t5 m own hn fun G _ _ same => wpAny_mono (out G same) (fun _ _ z => z.elim) fun _ _ z => z))
end
/-- the wish of a block: what its calls let out -/
def air (Y : Cx) (E : XK) : Value → Shared → Prop := fun u t => ∃ (pins : List (Addr × Obj)) (σ : L2.St) (H : Hp) (s : Shared), Inv Y pins σ H s ∧ CX Y.prog Y.w Y.stack H s E u t
theorem air_passes {Y : Cx} {E : XK} : Passes (L2.CX Y.prog Y.w) (Y.wish (air Y E)) E := fun pins σ H s _ _ I c => ⟨pins, σ, H, s, I.unwish, c⟩
/-- [elt for target in iter if ..], elt may raise -/
theorem lcx_core {X : Cx} {E : XK} {pins : List (Addr × Obj)} {s : Shared} {σ : L2.St} {H : Hp} {Q : VK} {use : Option (Value → Sem Unit)} {Qf : Value → Shared → Prop} {pos2 : Pos} {elt tg iter : Expr} {ifs : List Expr} {scope : Scope} {own : List (Str × Nat)} {pos : Pos} {wi : TI} {g : TG} {tt : TT} {te : TE} (tk : Takes X (fun cls d _ H => E cls d H)) (hst : X.stack = X.env :: X.outer) (hfr : X.env.frame = some X.env.locals)
    (hc : X.calm = true) (hN : X.N.Nodup) (hi : PI X tg iter wi) (ok : BlkOk X.N X.env.scope scope own)
    (hg : ∀ (s : Shared) (H : Hp) (C : Addr) (cl : List (Str × Addr)) (fp : List Addr), PG (X.blk s H scope (compEnvC scope cl C X.env) fp) tg g) (ht : ∀ (s : Shared) (H : Hp) (C : Addr) (cl : List (Str × Addr)) (fp : List Addr), PTs (X.blk s H scope (compEnvC scope cl C X.env) fp) ifs tt)
    (he : ∀ (s : Shared) (H : Hp) (C : Addr) (cl : List (Str × Addr)) (fp : List Addr), PE ((X.blk s H scope (compEnvC scope cl C X.env) fp).wish (air (X.blk s H scope (compEnvC scope cl C X.env) fp) E)) elt te) (fold : ∀ x, foldedSetIterable iter X.env x = pure x) (I : Inv X pins σ H s) (h : tLc wi g tt te (own.map (·.2)) σ H Q)
    (good : ∀ D (ce : Env) t m H2, Inv X pins σ H2 t → Q (.ref D) H2 → t.heap.Ns ce.locals m → FpOk X pins H2 ce.locals → postX (model X.prog X.w) X.A X.xe use Qf (.ref D) ce (.ok .next) t) :
    wpAny (model X.prog X.w) X.A (comprehension (.ListComp elt [⟨tg, iter, ifs, 0⟩] scope pos) scope X.env pos2 (newList []) false (eval iter X.env) use) Qf X.xe s := by
  have clo : ∀ y ∈ scope.names, y.2 = .free → ∃ c, X.env.cells.lookup y.1 = some c := fun y hy e => I.ok.has _ (ok.free y hy e)
  refine comp_free_x rfl fold (closure_ok clo) ok.kind (fun y hy e => by rw [ok.uniq y hy, e]) (thn (hi.run pins s σ H _ I h) fun xv t1 hx => thn hx fun itv t2 h2 => ?_)
  obtain ⟨it, fp, tn, J, H2, rfl, I2, T, st2, f2, q⟩ := h2
  refine wpAny_newObj_type (newEnv_comp ?_) (show 0 ≤ sizeLine by decide)
  generalize hD : t2.heap.objs.size = D
  have hDn : H2 D = none := I2.hok.fresh (Nat.le_of_eq hD)
  obtain ⟨W, ⟨m0, w0⟩, turn⟩ := q D hDn
  generalize e3 : ({ t2 with heap := t2.heap.push { cls := .type "list", data := .seq ([] : List Value).toArray } } : Shared) = s3
  have heap3 : s3.heap = t2.heap.push { cls := .type "list", data := .seq ([] : List Value).toArray } := by rw [← e3]
  have I3 : Inv X pins σ (upd H2 D (.lst [])) s3 := by
    rw [← e3]
    exact I2.laid (t' := t2.toks) (fun b o e => Heap.get?_push_of_some _ e) (Nat.le_of_eq hD) ⟨Nat.zero_le _, [], 0, .nil, by rw [← hD]; exact Heap.get?_push_size _ rfl⟩
  have below : ∀ b ∈ fp, b < t2.heap.objs.size := fun b hb => Exists.elim (T.obj _ _ st2 b hb) fun o e => Heap.lt_size e.1
  have f3 : ∀ b ∈ fp, FpOk X pins (upd H2 D (.lst [])) b ∧ b < s3.heap.objs.size := fun b hb => ⟨⟨(upd_ne (by rw [← hD]; exact Nat.ne_of_lt (below b hb))).trans (f2 b hb).1, (f2 b hb).2⟩, by rw [heap3, Heap.size_push]; exact Nat.lt_succ_of_lt (below b hb)⟩
  have st3 : tn 0 s3.heap := T.keep _ _ _ st2 fun b _ o e => heap3 ▸ Heap.get?_push_of_some _ e
  have I4 := block_start I3 ok hN f3
  have pg := hg s3 (upd H2 D (.lst [])) s3.heap.objs.size (cellsFrom (s3.heap.objs.size + 1) scope.names (cloFrom X.env.cells scope.names [])) fp
  have pt := ht s3 (upd H2 D (.lst [])) s3.heap.objs.size (cellsFrom (s3.heap.objs.size + 1) scope.names (cloFrom X.env.cells scope.names [])) fp
  have pe := he s3 (upd H2 D (.lst [])) s3.heap.objs.size (cellsFrom (s3.heap.objs.size + 1) scope.names (cloFrom X.env.cells scope.names [])) fp
  show codeAny _ _ (.compStart (.ListComp elt [⟨tg, iter, ifs, 0⟩] scope pos) 0 (.ref it) (.ref D) (compEnvC scope (cellsFrom (s3.heap.objs.size + 1) scope.names (cloFrom X.env.cells scope.names [])) s3.heap.objs.size X.env)) (postX (model X.prog X.w) X.A X.xe use Qf (.ref D) (compEnvC scope (cellsFrom (s3.heap.objs.size + 1) scope.names (cloFrom X.env.cells scope.names [])) s3.heap.objs.size X.env)) { s3 with heap := pushCells (s3.heap.push { cls := .type "dict", data := .dict #[] }) scope.names }
  have none3 : ∀ b ∈ fp, (upd H2 D (.lst [])) b = none := fun b hb => (f3 b hb).1.1
  generalize hce : compEnvC scope (cellsFrom (s3.heap.objs.size + 1) scope.names (cloFrom X.env.cells scope.names [])) s3.heap.objs.size X.env = ce at I4 pg pt pe ⊢
  have cL : ce.locals = s3.heap.objs.size := hce ▸ rfl
  have cF : ce.frame = X.env.frame := hce ▸ rfl
  generalize hH3 : upd H2 D (.lst []) = H3 at I3 I4 pg pt pe w0 none3 f3
  generalize e4 : ({ s3 with heap := pushCells (s3.heap.push { cls := .type "dict", data := .dict #[] }) scope.names } : Shared) = s4 at I4 ⊢
  have st4 : tn 0 s4.heap := T.keep _ _ _ st3 fun b _ o e => e4 ▸ pushCells_keeps _ _ _ _ (Heap.get?_push_of_some _ e)
  have fpS : ∀ {σ5 : L2.St} {H5 : Hp} {t5 : Shared}, Inv (X.blk s3 H3 scope ce fp) [] σ5 H5 t5 → (∀ b ∈ fp, H5 b = none) → ∀ b ∈ fp, FpOk (X.blk s3 H3 scope ce fp) [] H5 b := fun {σ5 H5 t5} J5 hn b hb =>
    ⟨hn b hb, (J5.ok.exf b hb).1, J5.ok.exfs b hb, .inl hb, fun x c e => (J5.ok.exf b hb).2 x c e, fun p hp => absurd (show p ∈ ([] : List (Addr × Obj)) ++ [] from hp) (by simp)⟩
  have loop : codeAny (model X.prog X.w) X.A (.compLoop (.ListComp elt [⟨tg, iter, ifs, 0⟩] scope pos) 0 (.ref it) (.ref D) ce) (postX (model X.prog X.w) X.A X.xe use Qf (.ref D) ce) s4 := by
    refine compLoop_any (fun n t => ∃ i G, Inv (X.blk s3 H3 scope ce fp) [] (wipe σ (own.map (·.2))) G t ∧ tn i t.heap ∧ (∀ b ∈ fp, G b = none) ∧ W i n G) ?_ m0 ⟨0, H3, I4, st4, none3, w0⟩
    rintro n t5 ⟨i, H5, I5, st5, none5, w5⟩
    rcases turn i n H5 w5 with ⟨stop, qq⟩ | ⟨go, Nx, hNx, step⟩
    · refine thnF (T.done (X.blk s3 H3 scope ce fp) rfl rfl rfl hc i [] t5 _ H5 (fun _ _ => False) I5 (fpS I5 none5) st5 stop) fun r t6 ⟨hr, I6⟩ => ?_
      subst hr
      have I7 : Inv X pins σ H5 t6 := I3.call' (ch := fp) I6.os I6.base I6.hok I6.bare fun b hb => ⟨(f3 b hb).1.2.2.2.1, (f3 b hb).1.2.1, (f3 b hb).1.2.2.2.2.1, (f3 b hb).1.2.2.2.2.2⟩
      have nC : H5 ce.locals = none := I6.free
      obtain ⟨m, hn, _⟩ := I6.loc
      exact good D ce t6 m H5 I7 qq hn (I3.fpOk (H' := H5) (b := ce.locals) (by rw [cL]; exact Nat.le_refl _) nC)
    · refine thnF (T.item (X.blk s3 H3 scope ce fp) rfl rfl rfl hc i [] t5 _ H5 (fun _ _ => False) I5 (fpS I5 none5) st5 go) fun r t6 ⟨u, hr, h6⟩ => ?_
      subst hr
      refine thnF h6 fun _ t7 ⟨x, H7, I7, r7, y7, st7, none7⟩ => ?_
      refine thnF (pg.run _ t7 _ H7 x u _ (I7.pinned (fpS I7 none7) (T.obj _ _ st7)) r7 (step x H7 y7)) fun _ t8 ⟨σ8, H8, I8, wiped, q8⟩ => ?_
      refine thnF (pt.run _ t8 σ8 H8 _ I8 q8) fun b t9 ⟨H9, I9, q9⟩ => ?_
      have fin : ∀ {t : Shared} {G : Hp}, Inv (X.blk s3 H3 scope ce fp) ([] ++ pinsAt fp t7.heap) σ8 G t → Nx G → ∃ m, m < n ∧ ∃ i G, Inv (X.blk s3 H3 scope ce fp) [] (wipe σ (own.map (·.2))) G t ∧ tn i t.heap ∧ (∀ b ∈ fp, G b = none) ∧ W i m G := fun {t G} J nx => by
        obtain ⟨m2, less, w2⟩ := hNx G nx
        have pinned : ∀ b ∈ fp, ∀ o, t7.heap.get? b = some o → t.heap.get? b = some o ∧ G b = none := fun b hb o e =>
          let z := J.pin (b, o) (List.mem_append_right _ (List.mem_append_right _ (mem_pinsAt hb e)))
          ⟨z.1, z.2.1⟩
        refine ⟨m2, less, i + 1, G, (J.unpinned (pins := [])).weak (by rw [← wiped, wipe_length]) (fun j v e => (wipe_some (by rw [wiped]; exact e)).1), T.keep _ _ _ st7 fun b hb o e => (pinned b hb o e).1, fun b hb => Exists.elim (T.obj _ _ st7 b hb) fun o e => (pinned b hb o e.1).2, w2⟩
      cases b with
      | false =>
        simp only [Bool.false_eq_true, if_false] at q9 ⊢
        exact fin I9 q9
      | true =>
        simp only [if_true] at q9 ⊢
        refine wpAny_mono (pe.run _ t9 σ8 H9 _ (I9.wish _) q9) (fun z t10 ⟨yv, H10, I10, r10, acc, hD10, hz10, nx⟩ => ?_) fun z t10 ⟨pi, si, Hi, ti, Ii, ci⟩ => ?_
        · exact app_ok (X := X.blk s3 H3 scope ce fp) I10.unwish hD10 hz10 r10 fun t11 I11 => fin I11 nx
        · exact comp_air tk hst hfr I3 (fun b hb => (f3 b hb).1) cL cF (Ii.wish (fun _ _ => False)) ci
  exact codeAny_compStart_list loop (T.self X.A 0 _ _ _ st4 loop)
section
variable {X : Cx} {E : XK} {elt tg iter : Expr} {ifs : List Expr} {scope : Scope} {own : List (Str × Nat)} {pos : Pos} {wi : TI} {g : TG} {tt : TT} {te : TE}
theorem pe_lcX (tk : Takes X (fun cls d _ H => E cls d H)) (hst : X.stack = X.env :: X.outer) (hfr : X.env.frame = some X.env.locals) (hc : X.calm = true) (hN : X.N.Nodup) (hi : PI X tg iter wi) (ok : BlkOk X.N X.env.scope scope own)
    (hg : ∀ (s : Shared) (H : Hp) (C : Addr) (cl : List (Str × Addr)) (fp : List Addr), PG (X.blk s H scope (compEnvC scope cl C X.env) fp) tg g) (ht : ∀ (s : Shared) (H : Hp) (C : Addr) (cl : List (Str × Addr)) (fp : List Addr), PTs (X.blk s H scope (compEnvC scope cl C X.env) fp) ifs tt)
    (he : ∀ (s : Shared) (H : Hp) (C : Addr) (cl : List (Str × Addr)) (fp : List Addr), PE ((X.blk s H scope (compEnvC scope cl C X.env) fp).wish (air (X.blk s H scope (compEnvC scope cl C X.env) fp) E)) elt te) (fold : ∀ x, foldedSetIterable iter X.env x = pure x := by intro _; rfl) :
    PE X (.ListComp elt [⟨tg, iter, ifs, 0⟩] scope pos) (tLc wi g tt te (own.map (·.2))) := by
  refine ⟨fun pins s σ H Q I h => ?_⟩
  rw [eval_ListComp]
  refine lcx_core tk hst hfr hc hN hi ok hg ht he fold I h fun D ce t m H2 I2 q hn f => ⟨m, hn, fun G same => ?_⟩
  obtain ⟨u0, u1, u2, u3, u4, u5⟩ := f
  exact ⟨.ref D, H2, I2.turned (t' := t.toks) (fun b o hb e => (same.2 b hb).trans e) u0 u1 u3 u4 u5, rfl, q⟩
/-- name = [..] on one line, its step may raise -/
theorem ps_setLcX {i : Nat} {y : Str} {py spos : Pos} (tk : Takes X (fun cls d _ H => E cls d H)) (hst : X.stack = X.env :: X.outer) (hfr : X.env.frame = some X.env.locals) (hc : X.calm = true) (hN : X.N.Nodup) (hy : X.N[i]? = some y) (hyl : X.env.scope.names.lookup y = some .local)
    (hsw : swapsWith (.ListComp elt [⟨tg, iter, ifs, 0⟩] scope pos) (some (.Name y py)) spos.line X.env = pure true) (hi : PI X tg iter wi) (ok : BlkOk X.N X.env.scope scope own)
    (hg : ∀ (s : Shared) (H : Hp) (C : Addr) (cl : List (Str × Addr)) (fp : List Addr), PG (X.blk s H scope (compEnvC scope cl C X.env) fp) tg g) (ht : ∀ (s : Shared) (H : Hp) (C : Addr) (cl : List (Str × Addr)) (fp : List Addr), PTs (X.blk s H scope (compEnvC scope cl C X.env) fp) ifs tt)
    (he : ∀ (s : Shared) (H : Hp) (C : Addr) (cl : List (Str × Addr)) (fp : List Addr), PE ((X.blk s H scope (compEnvC scope cl C X.env) fp).wish (air (X.blk s H scope (compEnvC scope cl C X.env) fp) E)) elt te) (fold : ∀ x, foldedSetIterable iter X.env x = pure x := by intro _; rfl) :
    PS X (.Assign [.Name y py] (.ListComp elt [⟨tg, iter, ifs, 0⟩] scope pos) spos) (tAsg (tLc wi g tt te (own.map (·.2))) (gName i)) := by
  refine ⟨fun pins s σ H D I h0 => ?_⟩
  rw [exec_Assign_Name_used _ _ _ _ hsw]
  have h : tLc wi g tt te (own.map (·.2)) σ H (fun x H1 => gName i x σ H1 D.nx) := h0
  refine wpAny_bind (wpAny_standAt (wpAny_bind ?_))
  show wpAny (model X.prog X.w) X.A (comprehension (.ListComp elt [⟨tg, iter, ifs, 0⟩] scope pos) scope X.env (firstIterPos [⟨tg, iter, ifs, 0⟩] pos) (newList []) false (eval iter X.env) (some (assign (.Name y py) X.env)) >>= fun _ => pure ()) _ X.xe s
  refine wpAny_bind (thn (lcx_core (use := some (assign (.Name y py) X.env)) (Qf := fun _ t => SP X pins D .next t) tk hst hfr hc hN hi ok hg ht he fold I h fun L ce t m H2 I2 q hn f => ?_) fun _ t hq => wpAny_pure (wpAny_pure hq))
  show wpAny _ _ (assign (.Name y py) X.env (.ref L)) _ _ _
  refine wpAny_assign_Name (store_ok2 (v := V.ref L) I2 hN hy (.inl hyl) rfl (fun t2 I5 ⟨a, sb, ha⟩ => ?_) (.inr hyl))
  obtain ⟨u0, u1, u2, u3, u4, u5⟩ := f
  have apart : ce.locals ≠ a := ha.elim (fun z => z ▸ u1) fun z e => u4 y a z e.symm
  exact ⟨m, hn.sameBut sb apart, fun G same => ⟨_, H2, I5.turned (t' := t2.toks) (fun b o hb e => (same.2 b hb).trans e) u0 u1 u3 u4 u5, q⟩⟩
end
end TB

/-! a list of texts in an f-string: some bounded text -/
namespace TS11
open PySem PySem.Spec PyProof.Rows L2
section
variable {prog : Program} {w : World} {A : Around} {E : Value → Shared → Prop} {s : Shared}
theorem list_shown {a : Addr} {o : Obj} {items : Array Value} {n : Nat} {ts : List Str} {Q : Value → Shared → Prop} (ha : s.heap.get? a = some o) (hc : o.cls = .type "list") (hd : o.data = .seq items n) (hne : items.isEmpty = false) (len : ts.length = items.size)
    (hT : ∀ (i : Nat) (y : Value), items[i]? = some y → ∃ t, ts[i]? = some t ∧ ReprIs prog w y t) (small : (listText ts).length ≤ sizeLine)
    (h : ∀ (h2 : Heap) (m : Str) (u tk : Tok), (∀ b o, s.heap.get? b = some o → h2.get? b = some o) → m.length ≤ (listText ts).length + 5 → Q (.str m u) { s with heap := h2, toks := tk }) :
    wpAny (model prog w) A (call (.builtin "list.__repr__") [.ref a]) Q E s := by
  refine wpAny_call (codeAny_call_builtin F.slot_list_repr.plain F.entry_list_repr (F.slot_list_repr.check _ _ _ _ _ _ _ _ ⟨o, ha, hc⟩ (F.args_list_repr_1 _) ?_))
  show wpAny _ _ (Builtin.listReprAt 0 ⟨[.ref a], []⟩) _ _ s
  unfold Builtin.listReprAt
  refine wpAny_bind (wpAny_of_eq (a := ((Value.ref a : Value), ([] : List Value))) rfl (wpAny_bind (wpAny_listItems ha hd ?_)))
  rw [hne, if_neg Bool.false_ne_true]
  refine wpAny_bind (wpAny_stack_any fun st => ?_)
  dsimp only
  split
  · refine wpAny_bind (wpAny_rule (wpAny_bind (wpAny_mkStr (wpAny_pure ?_) (by decide +kernel))))
    exact h s.heap "[...]" _ _ (fun _ _ z => z) (Nat.le_trans (show ("[...]" : Str).length ≤ 5 by decide +kernel) (Nat.le_add_left _ _))
  · refine wpAny_bind (m := newList []) (wpAny_newObj_type (wpAny_pure ⟨F.quiet_list_repr_loop _, ?_⟩))
    refine codeAny_list_repr_start (P := s.heap.objs.size) (Nat.ne_of_lt (Heap.lt_size ha)) len hT (Heap.get?_push_of_some _ ha) hd (Heap.get?_push_size _ rfl) (fun h2 u tk hk => ?_) (by omega)
    exact h h2 (listText ts) u tk (fun b o e => hk b o (Nat.ne_of_lt (Heap.lt_size e)) (Heap.get?_push_of_some _ e)) (Nat.le_add_right _ _)
theorem list_written {a : Addr} {o : Obj} {items : Array Value} {n : Nat} {ts : List Str} {Q : Value → Shared → Prop} (hu : A.units + 2 < cLine) (ha : s.heap.get? a = some o) (hc : o.cls = .type "list") (hd : o.data = .seq items n) (hne : items.isEmpty = false) (len : ts.length = items.size)
    (hT : ∀ (i : Nat) (y : Value), items[i]? = some y → ∃ t, ts[i]? = some t ∧ ReprIs prog w y t) (small : (listText ts).length ≤ sizeLine)
    (h : ∀ (h2 : Heap) (m : Str) (u tk : Tok), (∀ b o, s.heap.get? b = some o → h2.get? b = some o) → m.length ≤ (listText ts).length + 5 → Q (.str m u) { s with heap := h2, toks := tk }) :
    wpAny (model prog w) A (formatField (.ref a) Str.empty) Q E s :=
  wpAny_formatField_slot (fun _ _ => nofun) hu ⟨o, ha, hc⟩ F.slot_list_format F.slot_list_str F.slot_list_repr.toG
    (list_shown (s := { s with toks := s.toks + 1 }) ha hc hd hne len hT small fun h2 m u tk hk hm => ⟨m, u, rfl, h h2 m u tk hk hm⟩)
end
theorem from_len : ∀ (ts : List Str) (k : Nat) (acc : Str), (textFrom k acc ts).length ≤ acc.length + piled ts
  | [], _, acc => Nat.le_add_right _ _
  | t :: r, 0, acc => by
    show (textFrom 1 (acc ++ (if (0 : Nat) > 0 then ", " else "" : String) ++ t) r).length ≤ _
    have z := from_len r 1 (acc ++ (if (0 : Nat) > 0 then ", " else "" : String) ++ t)
    have e : (acc ++ (if (0 : Nat) > 0 then ", " else "" : String) ++ t).length = acc.length + t.length := by
      rw [strLen_append, strLen_append]
      rfl
    rw [piled_cons]
    omega
  | t :: r, k + 1, acc => Nat.le_of_eq (textFrom_length_pos (t :: r) (k + 1) acc (Nat.succ_pos _))
theorem list_len (ts : List Str) : (listText ts).length ≤ piled ts + 2 := by
  have e : (listText ts).length = (textFrom 0 "[" ts).length + 1 := by
    unfold listText
    rw [strLen_append]
    rfl
  have z := from_len ts 0 "["
  have o : ("[" : Str).length = 1 := rfl
  omega
theorem all_at {prog : Program} {w : World} : ∀ {l : List Value} {ts : List Str} {i : Nat} {y : Value}, ReprAll prog w l ts → l[i]? = some y → ∃ t, ts[i]? = some t ∧ ReprIs prog w y t
  | _, _, i, y, .nil, h => by simp at h
  | x :: l, t :: ts, 0, y, .cons a _, h => by
    cases h
    exact ⟨t, rfl, a⟩
  | x :: l, t :: ts, i + 1, y, .cons _ r, h => all_at (i := i) r h
section
variable {X : Cx}
/-- {l}, l a list of texts: some text -/
def tFmtLS (K : PySem.W.Frag) (te : TE) : TE := fun σ H Q => te σ H fun x H1 => ∃ (a : Addr) (l : List Str), x = .ref a ∧ SqL K H1 a (l.map V.str) ∧ l ≠ [] ∧ (∀ y ∈ l, ∀ c ∈ y.cps.toList, c < 16 ^ 8) ∧ fmtCost l + 7 ≤ sizeLine ∧ ∀ m : Str, m.length ≤ fmtCost l + 7 → Q (.str m) H1
theorem pe_fmtLS {e : Expr} {te : TE} {pos : Pos} {k : Nat} (hr : Room k X.A) (he : PE X e te) : PE X (.FormattedValue e (-1) none pos) (tFmtLS X.K te) := by
  refine ⟨fun pins s σ H Q I h => wpAny_FormattedValue_plain (thn (he.run pins s σ H _ I h) fun v s1 ⟨x, H1, I1, r1, q⟩ => ?_)⟩
  obtain ⟨a, l, rfl, hl, hne, hc, hz, q⟩ := q
  cases r1
  obtain ⟨its, rv, ⟨o, n, ho, hcl, hdn, hd⟩, _⟩ := I1.list hl
  have hp := fmt_piled l hc
  have hx := list_len (l.map reprText)
  have hu := hr.units
  have len := rv.length
  rw [List.length_map] at len
  have all := repr_all (prog := X.prog) (w := X.w) rv fun y hy => by
    have h1 := StrLaws.reprText_len y (hc y hy)
    have h2 := fmtCost_mem hy
    omega
  refine list_written (ts := l.map reprText) (by omega) ho hcl hd ?_ (by rw [List.length_map, List.size_toArray]; exact len) ?_ (by omega) fun h2 m u tk hk hm => ⟨.str m, H1, I1.kept (t' := tk) hk, ⟨u, rfl⟩, q m (by omega)⟩
  · cases its with
    | nil => exact absurd (List.eq_nil_of_length_eq_zero len) hne
    | cons y r => rfl
  · intro i y hy
    exact all_at all (by simpa using hy)
end
end TS11

/-! texts cut and joined; numbers as signs; notes as lists of lists of signs -/
namespace TB
open PySem PySem.Spec PyProof.Rows L2 Ck TS2 TX
/-- cut at every c -/
def cutsAt (c : Nat) : List Nat → List Name
  | [] => [[]]
  | d :: r => if d = c then [] :: cutsAt c r else match cutsAt c r with
    | [] => [[d]]
    | p :: ps => (d :: p) :: ps
def lead (acc : Name) : List Name → List Name
  | [] => [acc]
  | p :: ps => (acc ++ p) :: ps
theorem cuts_ne (c : Nat) : ∀ l : List Nat, cutsAt c l ≠ []
  | [] => List.cons_ne_nil _ _
  | d :: r => by
    unfold cutsAt
    split
    · exact List.cons_ne_nil _ _
    · split <;> exact List.cons_ne_nil _ _
theorem lead_nil {ps : List Name} (h : ps ≠ []) : lead [] ps = ps := by
  cases ps with
  | nil => exact absurd rfl h
  | cons p r => rfl
theorem pre_one (c d : Nat) (r : List Nat) : TL.pre [c] (d :: r) = decide (d = c) := by
  unfold TL.pre
  show ([d] == [c]) = _
  by_cases h : d = c
  · rw [h, decide_eq_true rfl]
    exact beq_self_eq_true _
  · rw [decide_eq_false h]
    simpa using h
theorem spl_cuts (c : Nat) : ∀ (l acc : List Nat), TL.spl [c] 0 acc l = lead acc (cutsAt c l)
  | [], acc => by
    show [acc] = [acc ++ []]
    rw [List.append_nil]
  | d :: r, acc => by
    show (if TL.pre [c] (d :: r) = true then acc :: TL.spl [c] 0 [] r else TL.spl [c] 0 (acc ++ [d]) r) = _
    rw [pre_one, spl_cuts c r [], spl_cuts c r (acc ++ [d]), lead_nil (cuts_ne c r)]
    by_cases h : d = c
    · rw [decide_eq_true h, if_pos rfl]
      have e : cutsAt c (d :: r) = [] :: cutsAt c r := by rw [cutsAt, if_pos h]
      rw [e]
      show _ = (acc ++ []) :: cutsAt c r
      rw [List.append_nil]
    · rw [decide_eq_false h, if_neg Bool.false_ne_true]
      have e : cutsAt c (d :: r) = match cutsAt c r with | [] => [[d]] | p :: ps => (d :: p) :: ps := by
        rw [cutsAt, if_neg h]
      rw [e]
      cases q : cutsAt c r with
      | nil => exact absurd q (cuts_ne c r)
      | cons p ps =>
        show (acc ++ [d] ++ p) :: ps = (acc ++ (d :: p)) :: ps
        rw [List.append_assoc]
        rfl
theorem split_at {c : Nat} (h : c < 256) (l : List Nat) : Txt.split (tx l) (tx [c]) = (cutsAt c l).map tx := by
  have e : Txt.split (tx l) (tx [c]) = (TL.spl [c] 0 [] l).map SX.S := SX.split_S (a := l) (b := [c]) (List.cons_ne_nil _ _) (by simp [h])
  rw [e, spl_cuts, lead_nil (cuts_ne c l)]
theorem cuts_free {c : Nat} : ∀ {l : List Nat}, c ∉ l → cutsAt c l = [l]
  | [], _ => rfl
  | d :: r, h => by
    have h1 : d ≠ c := fun z => h (z ▸ List.mem_cons_self ..)
    have h2 : c ∉ r := fun z => h (List.mem_cons_of_mem _ z)
    rw [cutsAt, if_neg h1, cuts_free h2]
theorem cuts_app {c : Nat} (q : List Nat) : ∀ {p : List Nat}, c ∉ p → cutsAt c (p ++ c :: q) = p :: cutsAt c q
  | [], _ => by
    show cutsAt c (c :: q) = _
    rw [cutsAt, if_pos rfl]
  | d :: r, h => by
    have h1 : d ≠ c := fun z => h (z ▸ List.mem_cons_self ..)
    have h2 : c ∉ r := fun z => h (List.mem_cons_of_mem _ z)
    show cutsAt c (d :: (r ++ c :: q)) = _
    rw [cutsAt, if_neg h1, cuts_app q h2]
theorem cuts_len (c : Nat) : ∀ l : List Nat, (cutsAt c l).length = l.count c + 1
  | [] => rfl
  | d :: r => by
    have ih := cuts_len c r
    rw [cutsAt]
    by_cases h : d = c
    · rw [if_pos h, List.length_cons, ih, h, List.count_cons_self]
    · rw [if_neg h, List.count_cons_of_ne h]
      cases q : cutsAt c r with
      | nil => exact absurd q (cuts_ne c r)
      | cons p ps =>
        rw [q] at ih
        exact ih
theorem cuts_mem {c : Nat} : ∀ {l : List Nat} {p : Name}, p ∈ cutsAt c l → c ∉ p ∧ (∀ x ∈ p, x ∈ l) ∧ p.length ≤ l.length
  | [], p, h => by
    rw [List.mem_singleton.mp h]
    exact ⟨by simp, fun x hx => by simp at hx, Nat.le_refl _⟩
  | d :: r, p, h => by
    rw [cutsAt] at h
    by_cases e : d = c
    · rw [if_pos e] at h
      rcases List.mem_cons.mp h with z | z
      · rw [z]
        exact ⟨by simp, fun x hx => by simp at hx, Nat.zero_le _⟩
      · obtain ⟨a, b, l⟩ := cuts_mem z
        exact ⟨a, fun x hx => List.mem_cons_of_mem _ (b x hx), Nat.le_succ_of_le l⟩
    · rw [if_neg e] at h
      cases q : cutsAt c r with
      | nil => exact absurd q (cuts_ne c r)
      | cons p0 ps =>
        rw [q] at h
        have h : p ∈ (d :: p0) :: ps := h
        rcases List.mem_cons.mp h with z | z
        · obtain ⟨a, b, l⟩ := cuts_mem (show p0 ∈ cutsAt c r by rw [q]; exact List.mem_cons_self ..)
          rw [z]
          refine ⟨fun y => ?_, fun x hx => ?_, Nat.succ_le_succ l⟩
          · rcases List.mem_cons.mp y with y | y
            · exact e y.symm
            · exact a y
          · rcases List.mem_cons.mp hx with y | y
            · rw [y]
              exact List.mem_cons_self ..
            · exact List.mem_cons_of_mem _ (b x y)
        · obtain ⟨a, b, l⟩ := cuts_mem (show p ∈ cutsAt c r by rw [q]; exact List.mem_cons_of_mem _ z)
          exact ⟨a, fun x hx => List.mem_cons_of_mem _ (b x hx), Nat.le_succ_of_le l⟩
theorem cuts_join {c : Nat} {ws : List Name} (h : ws ≠ []) (f : ∀ w ∈ ws, c ∉ w) : cutsAt c (TL.joinL [c] ws) = ws := by
  have e := TL.spl_join (s := c) (S := []) h f
  rw [spl_cuts, lead_nil (cuts_ne c _)] at e
  exact e
/-- rows, each with its end -/
def textL (rows : List Name) : List Nat := (rows.map fun r => r ++ [10]).flatten
theorem textL_cons (r : Name) (rows : List Name) : textL (r :: rows) = r ++ 10 :: textL rows := by
  unfold textL
  rw [List.map_cons, List.flatten_cons, List.append_assoc]
  rfl
theorem textL_app (a b : List Name) : textL (a ++ b) = textL a ++ textL b := by
  unfold textL
  rw [List.map_append, List.flatten_append]
theorem cuts_text (t : List Nat) : ∀ {rows : List Name}, (∀ r ∈ rows, 10 ∉ r) → cutsAt 10 (textL rows ++ t) = rows ++ cutsAt 10 t
  | [], _ => rfl
  | r :: rows, h => by
    rw [textL_cons, List.append_assoc]
    show cutsAt 10 (r ++ 10 :: (textL rows ++ t)) = _
    rw [cuts_app _ (h r (List.mem_cons_self ..)), cuts_text t fun x hx => h x (List.mem_cons_of_mem _ hx)]
    rfl
/-! numbers -/
def figs : List Nat := [48, 49, 50, 51, 52, 53, 54, 55, 56, 57]
theorem figs_tx : ("0123456789" : Str) = tx figs := by decide +kernel
theorem fig_iff {c : Nat} : c ∈ figs ↔ 48 ≤ c ∧ c ≤ 57 := by
  unfold figs
  simp only [List.mem_cons, List.not_mem_nil, or_false]
  omega
def numF (w : Name) : Option Int := if w = [] ∨ 10 < w.length ∨ (∃ c ∈ w, c ∉ figs) ∨ (w.head? = some 48 ∧ w ≠ [48]) then none else some ((NumText.digitsVal w : Nat) : Int)
def valF (w : Name) : Option Int := if w.head? = some 45 then (if w = [45, 48] then none else (numF (w.drop 1)).map fun z => -z) else numF w
theorem int_of {w : Name} (h0 : w ≠ []) (h1 : w.length ≤ 10) (h2 : ∀ c ∈ w, c ∈ figs) : PySem.intText? (tx w) = some ((NumText.digitsVal w : Nat) : Int) :=
  SX.int_S (a := w) (List.all_eq_true.mpr fun c hc => by
    have z := fig_iff.mp (h2 c hc)
    simp [z.1, z.2]) h0 (Nat.le_trans h1 (by decide))
/-- a whole number's signs -/
def decL (v : Int) : List Nat := if v < 0 then 45 :: TL.numL (-v).toNat else TL.numL v.toNat
theorem dec_nat (n : Nat) : decL (n : Int) = TL.numL n := by
  unfold decL
  rw [if_neg (by omega)]
  rfl
theorem dec_tx (v : Int) : ((toString v : String) : Str) = tx (decL v) := by
  by_cases h : v < 0
  · obtain ⟨n, e⟩ : ∃ n : Nat, v = -((n + 1 : Nat) : Int) := ⟨(-v).toNat - 1, by omega⟩
    rw [PyProof.Rows.toString_neg h, show (0 : Int) - v = ((n + 1 : Nat) : Int) by omega]
    have e2 : decL v = 45 :: TL.numL (n + 1) := by
      unfold decL
      rw [if_pos h, show (-v).toNat = n + 1 by omega]
    rw [e2]
    refine TL.ext_tl ?_
    have e3 : TL.tl (Str.ofString ("-" ++ toString ((n + 1 : Nat) : Int))) = 45 :: TL.tl (Str.ofString (toString ((n + 1 : Nat) : Int))) := by
      rw [Str.ofString_eq_toList, Str.ofString_eq_toList, String.toList_append, List.map_append]
      rfl
    rw [e3, TL.tl_num]
  · obtain ⟨n, rfl⟩ : ∃ n : Nat, v = (n : Int) := ⟨v.toNat, by omega⟩
    rw [dec_nat]
    exact SX.num_S n
theorem num_head : ∀ {n : Nat}, 0 < n → (TL.numL n).head? ≠ some 48 := by
  intro n
  induction n using Nat.strongRecOn with
  | _ n ih =>
    intro h0
    by_cases h : n < 10
    · rw [TL.numL_lt h]
      intro z
      have := Option.some.inj z
      omega
    · rw [TL.numL_step (by omega)]
      have q := ih (n / 10) (by omega) (by omega)
      cases e : TL.numL (n / 10) with
      | nil => exact absurd e (TL.numL_ne _)
      | cons a r =>
        rw [e] at q
        exact q
theorem num_figs (n : Nat) : ∀ c ∈ TL.numL n, c ∈ figs := fun c hc => fig_iff.mpr (TL.numL_digits n c hc)
theorem num_dec {n : Nat} (h : n < 10 ^ 10) : numF (TL.numL n) = some (n : Int) := by
  unfold numF
  rw [if_neg, TL.numL_val]
  rintro (z | z | ⟨c, hc, z⟩ | ⟨z1, z2⟩)
  · exact TL.numL_ne n z
  · have := TL.numL_len (k := 10) (by decide) h
    omega
  · exact z (num_figs n c hc)
  · by_cases h0 : n = 0
    · subst h0
      exact z2 (TL.numL_lt (by decide))
    · exact num_head (by omega) z1
theorem val_dec {v : Int} (h0 : -10000000000 < v) (h1 : v < 10000000000) : valF (decL v) = some v := by
  by_cases h : v < 0
  · have e : decL v = 45 :: TL.numL (-v).toNat := if_pos h
    rw [e]
    unfold valF
    rw [if_pos (show (45 :: TL.numL (-v).toNat).head? = some 45 from rfl), if_neg]
    · show (numF (TL.numL (-v).toNat)).map _ = _
      rw [num_dec (by omega)]
      show some (-(((-v).toNat : Nat) : Int)) = _
      rw [show -(((-v).toNat : Nat) : Int) = v by omega]
    · intro z
      have z2 : TL.numL (-v).toNat = [48] := (List.cons.inj z).2
      have z3 : (TL.numL (-v).toNat).head? = some 48 := by rw [z2]; rfl
      exact num_head (by omega) z3
  · have e : decL v = TL.numL v.toNat := if_neg h
    rw [e]
    unfold valF
    rw [if_neg, num_dec (by omega), show ((v.toNat : Nat) : Int) = v by omega]
    intro z
    cases q : TL.numL v.toNat with
    | nil => exact TL.numL_ne _ q
    | cons a r =>
      rw [q] at z
      have z2 : a = 45 := Option.some.inj z
      have := fig_iff.mp (num_figs v.toNat a (by rw [q]; exact List.mem_cons_self ..))
      omega
theorem num_of_dec {v : Int} (h0 : 0 ≤ v) (h1 : v < 10000000000) : numF (decL v) = some v := by
  have e : decL v = TL.numL v.toNat := if_neg (by omega)
  rw [e, num_dec (by omega), show ((v.toNat : Nat) : Int) = v by omega]
theorem val_lt (w : Name) : ∀ (a : Nat), NumText.AllDigits w → w.foldl (fun acc c => acc * 10 + (c - 48)) a < (a + 1) * 10 ^ w.length := by
  induction w with
  | nil =>
    intro a _
    show a < (a + 1) * 10 ^ 0
    omega
  | cons c r ih =>
    intro a h
    have hc := h.head
    have q := ih (a * 10 + (c - 48)) h.tail
    rw [List.foldl_cons, List.length_cons, Nat.pow_succ]
    refine Nat.lt_of_lt_of_le q ?_
    rw [Nat.mul_comm (10 ^ r.length) 10, ← Nat.mul_assoc]
    exact Nat.mul_le_mul_right _ (by omega)
theorem numF_in {w : Name} {n : Int} (h : numF w = some n) : 0 ≤ n ∧ n < 10000000000 := by
  unfold numF at h
  split at h
  · cases h
  · rename_i hn
    have e := Option.some.inj h
    have d : NumText.AllDigits w := fun c hc => by
      by_cases q : c ∈ figs
      · exact fig_iff.mp q
      · exact (hn (.inr (.inr (.inl ⟨c, hc, q⟩)))).elim
    have l : w.length ≤ 10 := by
      by_cases q : 10 < w.length
      · exact (hn (.inr (.inl q))).elim
      · omega
    have q := val_lt w 0 d
    have p : 10 ^ w.length ≤ 10 ^ 10 := Nat.pow_le_pow_right (by decide) l
    have v : NumText.digitsVal w < (0 + 1) * 10 ^ w.length := q
    rw [← e]
    have : (10 : Nat) ^ 10 = 10000000000 := by decide
    omega
theorem valF_in {w : Name} {n : Int} (h : valF w = some n) : -10000000000 < n ∧ n < 10000000000 := by
  unfold valF at h
  split at h
  · split at h
    · cases h
    · cases q : numF (w.drop 1) with
      | none =>
        rw [q] at h
        cases h
      | some z =>
        rw [q] at h
        have e : -z = n := Option.some.inj h
        have := numF_in q
        omega
  · have := numF_in h
    omega
theorem dec_figs (v : Int) : ∀ c ∈ decL v, c = 45 ∨ c ∈ figs := fun c hc => by
  unfold decL at hc
  split at hc
  · rcases List.mem_cons.mp hc with z | z
    · exact .inl z
    · exact .inr (num_figs _ c z)
  · exact .inr (num_figs _ c hc)
theorem dec_free {v : Int} {c : Nat} (h : c = 32 ∨ c = 10) : c ∉ decL v := fun z => by
  rcases dec_figs v c z with q | q
  · omega
  · have := fig_iff.mp q
    omega
theorem dec_len {v : Int} (h0 : -10000000000 < v) (h1 : v < 10000000000) : (decL v).length ≤ 11 := by
  unfold decL
  split
  · have := TL.numL_len (n := (-v).toNat) (k := 10) (by decide) (by omega)
    rw [List.length_cons]
    omega
  · have := TL.numL_len (n := v.toNat) (k := 10) (by decide) (by omega)
    omega
/-! notes -/
def nestsL : Name := [110, 101, 115, 116, 115]
theorem nests_tx : ("nests" : Str) = tx nestsL := by decide +kernel
abbrev Thng := Name × Int × Seat
def headF : List Name → Option (Int × Int × Int)
  | [a, b, c, d] => if a = nestsL then (numF b).bind fun x => (numF c).bind fun y => (numF d).map fun z => (x, y, z) else none
  | _ => none
def thingF : List Name → Option Thng
  | [a, b, n, v] => if n = [] then none else (valF v).bind fun z => (numF a).bind fun x => (numF b).map fun y => (n, z, (x, y))
  | _ => none
def allF : List (List Name) → Option (List Thng)
  | [] => some []
  | w :: r => (thingF w).bind fun x => (allF r).map fun t => x :: t
def rowsF (l : List Nat) : Option (List (List Name)) := if (cutsAt 10 l).dropLast = [] ∨ (cutsAt 10 l).getLast? ≠ some [] then none else some ((cutsAt 10 l).dropLast.map (cutsAt 32))
def parseW : List (List Name) → Option ((Int × Int × Int) × List Thng)
  | [] => none
  | h :: r => (headF h).bind fun c => (allF r).map fun t => (c, t)
def parseT (l : List Nat) : Option ((Int × Int × Int) × List Thng) := (rowsF l).bind parseW
theorem rows_text {rows : List Name} (h0 : rows ≠ []) (h : ∀ r ∈ rows, 10 ∉ r) : rowsF (textL rows) = some (rows.map (cutsAt 32)) := by
  have e : cutsAt 10 (textL rows) = rows ++ [[]] := by
    have q := cuts_text [] h
    rw [List.append_nil] at q
    exact q
  unfold rowsF
  rw [e, List.dropLast_concat, if_neg]
  rintro (z | z)
  · exact h0 z
  · exact z (by simp)
theorem rows_open {rows : List Name} {t : List Nat} (h : ∀ r ∈ rows, 10 ∉ r) (h1 : 10 ∉ t) (h2 : t ≠ []) : rowsF (textL rows ++ t) = none := by
  unfold rowsF
  rw [cuts_text t h, cuts_free h1, if_pos]
  refine .inr fun z => ?_
  rw [List.getLast?_concat] at z
  exact h2 (Option.some.inj z)
theorem allF_none {ws : List (List Name)} {w : List Name} (h : w ∈ ws) (h0 : thingF w = none) : allF ws = none := by
  induction ws with
  | nil => cases h
  | cons v r ih =>
    show (thingF v).bind _ = none
    rcases List.mem_cons.mp h with z | z
    · rw [← z, h0]
      rfl
    · rw [ih z]
      cases thingF v <;> rfl
theorem allF_app {a b : List (List Name)} {x y : List Thng} (h1 : allF a = some x) (h2 : allF b = some y) : allF (a ++ b) = some (x ++ y) := by
  induction a generalizing x with
  | nil =>
    cases h1
    exact h2
  | cons v r ih =>
    have h1 : ((thingF v).bind fun q => (allF r).map fun t => q :: t) = some x := h1
    show ((thingF v).bind fun q => (allF (r ++ b)).map fun t => q :: t) = _
    cases e : thingF v with
    | none =>
      rw [e] at h1
      cases h1
    | some q =>
      rw [e] at h1
      cases e2 : allF r with
      | none =>
        rw [e2] at h1
        cases h1
      | some t =>
        rw [e2] at h1
        have h3 : q :: t = x := Option.some.inj h1
        rw [ih e2, ← h3]
        rfl
theorem allF_map {α : Type} {l : List α} {f : α → List Name} {g : α → Thng} (h : ∀ x ∈ l, thingF (f x) = some (g x)) : allF (l.map f) = some (l.map g) := by
  induction l with
  | nil => rfl
  | cons x r ih =>
    show ((thingF (f x)).bind fun q => (allF (r.map f)).map fun t => q :: t) = _
    rw [h x (List.mem_cons_self ..), ih fun y hy => h y (List.mem_cons_of_mem _ hy)]
    rfl
end TB

/-! text.replace(" ", name, count): the first count of them; its tokens carried from one row to the next -/
namespace TB
open PySem PySem.Spec PyProof.Rows L2 Ck TS2 TX CwR PySem.Builtin PySem.Builtin.Str
def cutRep (x y z : Str) (k : Nat) : Str :=
  if ((occurrences x y 0 x.length k).isEmpty || (y.length == 0 && z.length == 0)) = true then x
  else glued z (partsBetween x (occurrences x y 0 x.length k) y.length)
theorem fits_cut {x z : Str} (y : Str) (k : Nat) (kx : k ≤ x.length + 1) (hb : x.length + (x.length + 1) * z.length ≤ 16777216) :
    (glued z (partsBetween x (occurrences x y 0 x.length k) y.length)).length ≤ sizeLine := by
  have a := StrLaws.occ_length_le x y 0 x.length k
  have b : (glued y (partsBetween x (occurrences x y 0 x.length k) y.length)).length = x.length := by
    rw [StrLaws.glued_between_self]
  rw [size_glued, length_partsBetween, Nat.add_sub_cancel] at b
  rw [size_glued, length_partsBetween, Nat.add_sub_cancel, sizeLine_eq]
  have c : (occurrences x y 0 x.length k).length * z.length ≤ (x.length + 1) * z.length := Nat.mul_le_mul_right _ (Nat.le_trans a kx)
  omega
theorem gives_cut (x y z : Str) (k : Int) (t u v q : Tok) (hk : (decide (k < -(2 ^ 63 : Int)) || decide (k ≥ 2 ^ 63)) = false) (k0 : 0 ≤ k) (n0 : (u == 0 || v == 0) = false) (nuv : (u == v) = false) (nyz : (y == z) = false)
    (tl : tooLong (x.length + (occurrences x y 0 x.length k.toNat).length * z.length) = false) :
    Gives (Builtin.«str.replace» ⟨[.str x t, .str y u, .str z v, .int k q], []⟩) (if ((occurrences x y 0 x.length k.toNat).isEmpty || (y.length == 0 && z.length == 0)) = true then .val (.str x t) else .str (glued z (partsBetween x (occurrences x y 0 x.length k.toNat) y.length))) := by
  show Gives (do
    let limit ← countLimit "str.replace" (some (.int k q)) (x.length + 1)
    _) _
  rw [countLimit_int "str.replace" k q (x.length + 1) hk, if_neg (show ¬ k < 0 by omega)]
  show Gives (if ((occurrences x y 0 x.length k.toNat).isEmpty || (y.length == 0 && z.length == 0)) = true then (do
      rule "str.replace.nothing"
      ret (.str x t)) else (do
      let same ← isSame (.str y u) (.str z v)
      if same = true then (do
        rule "str.replace.old-is-new"
        ret (.str x t)) else if tooLong (x.length + (occurrences x y 0 x.length k.toNat).length * z.length) = true then unsupported "str.replace:memory" else
        retStr (glued z (partsBetween x (occurrences x y 0 x.length k.toNat) y.length)))) _
  cases ((occurrences x y 0 x.length k.toNat).isEmpty || (y.length == 0 && z.length == 0))
  · rw [isSame_str_other y z u v n0 nuv nyz, tl]
    exact .of_eq rfl
  · exact .rule (.of_eq rfl)
theorem call_cut {prog : Program} {w : World} {Y : Around} {E : Value → Shared → Prop} {s : Shared} {x y z : Str} {t u v q : Tok} {k : Int} {Q : Value → Shared → Prop} (u0 : u ≠ 0) (v0 : v ≠ 0) (uv : u ≠ v) (yz : (y == z) = false) (k0 : 0 ≤ k) (k1 : k < 2 ^ 63) (kx : k.toNat ≤ x.length + 1) (b : x.length + (x.length + 1) * z.length ≤ 16777216)
    (fin : ∀ t' n, Q (.str (cutRep x y z k.toNat) t') { s with toks := n }) : wpAny (model prog w) Y (call (.builtin "str.replace") [.str x t, .str y u, .str z v, .int k q]) Q E s := by
  have l1 : tooLong (x.length + (occurrences x y 0 x.length k.toNat).length * z.length) = false := by
    have a := StrLaws.occ_length_le x y 0 x.length k.toNat
    have c : (occurrences x y 0 x.length k.toNat).length * z.length ≤ (x.length + 1) * z.length := Nat.mul_le_mul_right _ (Nat.le_trans a kx)
    unfold tooLong
    rw [sizeLine_eq]
    exact decide_eq_false (by omega)
  have g := gives_cut x y z k t u v q (by rw [decide_eq_false (show ¬ k < -(2 ^ 63 : Int) by omega), decide_eq_false (show ¬ k ≥ 2 ^ 63 by omega)]; rfl) k0 (by simp [u0, v0]) (by simp [uv]) yz l1
  refine call_gives F.slot_str_replace (typeIs_str _ _ _) F.entry_str_replace (F.args_str_replace_4 _ _ _ _) g ?_
  have f := fin
  unfold cutRep at f
  cases c : ((occurrences x y 0 x.length k.toNat).isEmpty || (y.length == 0 && z.length == 0))
  · rw [c] at f
    simp only [Bool.false_eq_true, if_false] at f ⊢
    exact ⟨fits_cut y k.toNat kx b, f _ _⟩
  · rw [c] at f
    simp only [if_true] at f ⊢
    exact f t s.toks
section
variable {X : Cx} {pins : List (Addr × Obj)} {σ : L2.St} {H : Hp} {s : Shared}
/-- a local name is stored; what it holds is known whole -/
theorem store_ex {M : Model} {Y : Around} {E : Value → Shared → Prop} {i : Nat} {x : Str} {v : V} {u : Value} {Q : Unit → Shared → Prop} (I : Inv X pins σ H s) (nd : X.N.Nodup) (at_ : X.N[i]? = some x) (lc : X.env.scope.names.lookup x = some .local) (r : RelV v u)
    (k : ∀ s', s.toks ≤ s'.toks → Inv X pins (σ.set i (some v)) H s' → (∃ m, s'.heap.Ns X.env.locals m ∧ m x = some u) → Q () s') : wpAny M Y (storeName X.env x u) Q E s := by
  obtain ⟨m, ns, known⟩ := id I.loc
  have plain : (X.env.scope.kind == .class || (X.env.scope.kind == .module && X.env.locals != X.env.globals)) = false := by
    rw [I.ok.kind]
    rfl
  refine wpAny_storeName_local lc ns (fun h2 ns2 sb => ?_) plain
  have old : ∀ {b : Addr} {o : Obj}, X.s_0.heap.get? b = some o → h2.get? b = s.heap.get? b := fun e => sb.2 _ (Nat.ne_of_lt (Nat.lt_of_lt_of_le (Heap.lt_size e) I.ok.above))
  have lσ : i < σ.length := by
    have := (List.getElem?_eq_some_iff.mp at_).1
    have := I.len
    omega
  obtain ⟨oL, es, ep, hoL, hdL, _⟩ := id ns
  have lo : H X.env.locals = none := I.free
  have hok2 : HOk X.prog X.w H h2 := fun b ob e => by
    refine (I.hok b ob e).stay (fun c w2 hc g => (sb.2 c (fun z => ?_)).trans g) (fun _ g => g) fun _ _ g => g
    rw [z] at hc
    rcases hc with hc | hc
    · rw [← hc, lo] at e
      cases e
    · rw [lo] at hc
      cases hc
  refine k _ (Nat.le_succ _) ⟨I.ok, I.os, I.bare, ⟨?_, ?_, I.base.free, ?_, I.base.tups, I.base.frzs, I.base.tbls⟩, ⟨_, ns2, ?_⟩, ?_, I.free, I.freeC, ?_, hok2, (List.length_set ..).trans I.len⟩ ⟨_, ns2, if_pos rfl⟩
  · exact fun b o e n hb hx => (old e).trans (I.base.keep b o e n hb hx)
  · intro b o e n hb hx
    obtain ⟨sl, g⟩ := I.base.slot b o e n hb hx
    exact ⟨sl, (old e).trans g⟩
  · intro b o e hx
    obtain ⟨o2, g⟩ := I.base.there b o e hx
    exact ⟨o2, (old e).trans g⟩
  · intro j y v2 g1 g2 g3
    by_cases e : j = i
    · subst e
      obtain rfl : y = x := Option.some.inj (g1.symm.trans at_)
      rw [List.getElem?_set_self lσ] at g2
      obtain rfl : v = v2 := Option.some.inj (Option.some.inj g2)
      exact ⟨u, r, .inl ⟨lc, if_pos rfl⟩⟩
    · have ne : y ≠ x := fun z => e (nodup_ix nd g1 (z ▸ at_))
      rw [List.getElem?_set_ne fun z => e z.symm] at g2
      obtain ⟨u2, r2, q⟩ := known j y v2 g1 g2 g3
      refine ⟨u2, r2, ?_⟩
      rcases q with ⟨q1, q2⟩ | ⟨q1, c, q2, q3⟩
      · exact .inl ⟨q1, (if_neg ne).trans q2⟩
      · exact .inr ⟨q1, c, q2, q3.sameBut sb (I.cne y c q2)⟩
  · intro y c e
    obtain ⟨v2, q⟩ := I.cell y c e
    exact ⟨v2, q.sameBut sb (I.cne y c e)⟩
  · intro p hp
    obtain ⟨q1, q2, q3, q4, q5⟩ := I.pin p hp
    exact ⟨(sb.2 p.1 q3).trans q1, q2, q3, q4, q5⟩
theorem PSsT.nox {st : List Stmt} {t : TS} (h : PSsT X.nox st t) : PSsT X st t := fun pins s σ H D h0 I q => wpAny_mono (h pins s σ H D h0 (I.wish _) q) (fun _ _ z => z.unwish) fun _ _ z => z.elim
end
/-- as Fun.ok, its body run with a token out -/
theorem okT {P : Program} {w : World} {K : PySem.W.Frag} {mg : Str → Option Value} {base : Heap} {x qual : Str} {st : Stmt} {f : Addr} {fd : FuncData} {N ps : List Str} {k : Nat} {sp : Sp} (G : Fun K x qual st f fd) (S : FnScope N ps (defScope st)) (nc : ∀ y ∈ (defScope st).names, y.2 ≠ .cell) (p1 : 1 ≤ ps.length) (len : ∀ vs H Q E, sp vs H Q E → vs.length = ps.length)
    (body : ∀ (cdv : Value) (Y : Around) (outer : List Env) (s : Shared) (H : Hp) (vs : List V) (Q : VK) (E : XK), Room k (Y.deeper (envOfC qual (defScope st) s.heap.objs.size f cdv)) → sp vs H Q E →
      ∃ t, PSsT (cxOf CX0 P w K mg base N qual (defScope st) f cdv Y outer s H E).nox (defBody st) t ∧ t { nx := fun _ H' => Q .non H', rt := Q } (L2.start N vs) H) : FnOk P w K mg base CX0 (k + 1) f fd ps sp := by
  obtain ⟨oc, od, kV, doc, pm, an, cdv, ct, osl, rfl, lk, hcd⟩ := G.ex
  refine fn_ofT lk hcd S nc p1 len fun Y outer s H vs Q E hr hsp => ?_
  obtain ⟨t, h, q⟩ := body cdv Y outer s H vs Q E hr hsp
  exact ⟨t, PSsT.nox h, q⟩
def tCut (K : PySem.W.Frag) (ib ir irows iat : Nat) (y z0 z1 z2 : Str) (ti tk : TE) (u : TS) : TS := fun D σ H => ∀ (a : Addr) (o : Obj), H a = none →
  ti σ (upd H a (.frz o (.lst [.str z0, .str z1, .str z2]))) fun v H1 => H1 = upd H a (.frz o (.lst [.str z0, .str z1, .str z2])) ∧ ∃ (j : Nat) (z : Str), v = .int (j : Int) ∧ [z0, z1, z2][j]? = some z ∧
    ∃ (p : Addr) (xs : List V) (i : Nat) (x : Str), (σ.set ib (some (.str z)))[irows]? = some (some (.ref p)) ∧ (σ.set ib (some (.str z)))[iat]? = some (some (.int (i : Int))) ∧ SqL K H1 p xs ∧ xs[i]? = some (.str x) ∧
      tk (σ.set ib (some (.str z))) H1 fun v2 H2 => H2 = H1 ∧ ∃ k : Nat, v2 = .int (k : Int) ∧ k ≤ x.length + 1 ∧ (y == z) = false ∧ x.length + (x.length + 1) * z.length ≤ 16777216 ∧ u D ((σ.set ib (some (.str z))).set ir (some (.str (cutRep x y z k)))) H1
section
variable {X : Cx}
theorem psst_cut {ib ir irows iat j0 j1 j2 j3 : Nat} {nb nr nrows nat y z0 z1 z2 : Str} {c0 c1 c2 c3 lp ip pb pos q1 q2 q3 q5 ap cp pr pos2 : Pos} {idx cnt : Expr} {ti tk : TE} {rest : List Stmt} {u : TS}
    (nd : X.N.Nodup) (hb : X.N[ib]? = some nb) (lb : X.env.scope.names.lookup nb = some .local) (hr : X.N[ir]? = some nr) (lr : Loc X.env.scope nr) (hrows : X.N[irows]? = some nrows) (vrows : Vis X.env.scope nrows) (hat : X.N[iat]? = some nat) (vat : Vis X.env.scope nat)
    (hi : PE X idx ti) (hk : PE X cnt tk) (h2 : PSsT X rest u) (pl : PlainIx idx := by intro _ _; rfl)
    (sw1 : swapsWith (.Subscript (.List [.Constant (.str z0) j0 c0, .Constant (.str z1) j1 c1, .Constant (.str z2) j2 c2] lp) idx ip) (some (.Name nb pb)) pos.line X.env = pure false := by rfl)
    (sw2 : swapsWith (.Call (.Attribute (.Subscript (.Name nrows q1) (.Name nat q2) q3) "replace" ap) [.Constant (.str y) j3 c3, .Name nb q5, cnt] [] cp) (some (.Name nr pr)) pos2.line X.env = pure false := by rfl)
    (st : starEach [cnt] X.env = [(false, eval cnt X.env)] := by rfl)
    (base : attributeBase (.Subscript (.Name nrows q1) (.Name nat q2) q3) "replace" X.env (eval (.Subscript (.Name nrows q1) (.Name nat q2) q3) X.env) = eval (.Subscript (.Name nrows q1) (.Name nat q2) q3) X.env := by rfl)
    (line : (ap.endLine == cp.line) = true := by rfl)
    (d1 : (nrows == ("__debug__" : Str)) = false := by decide) (d2 : (nrows == ("__classdict__" : Str)) = false := by decide) (d3 : (nat == ("__debug__" : Str)) = false := by decide) (d4 : (nat == ("__classdict__" : Str)) = false := by decide) (d5 : (nb == ("__debug__" : Str)) = false := by decide)
    (fr : X.fn nr = true ∨ X.env.scope.names.lookup nr = some .local := by first | exact .inl rfl | exact .inr rfl | assumption) :
    PSsT X (.Assign [.Name nb pb] (.Subscript (.List [.Constant (.str z0) j0 c0, .Constant (.str z1) j1 c1, .Constant (.str z2) j2 c2] lp) idx ip) pos :: .Assign [.Name nr pr] (.Call (.Attribute (.Subscript (.Name nrows q1) (.Name nat q2) q3) "replace" ap) [.Constant (.str y) j3 c3, .Name nb q5, cnt] [] cp) pos2 :: rest)
      (tCut X.K ib ir irows iat y z0 z1 z2 ti tk u) := by
  intro pins s σ H D h0 I h
  have st3 : starEach [.Constant (.str y) j3 c3, .Name nb q5, cnt] X.env = [(false, eval (.Constant (.str y) j3 c3) X.env), (false, eval (.Name nb q5) X.env), (false, eval cnt X.env)] := congrArg (fun l => (false, eval (.Constant (.str y) j3 c3) X.env) :: (false, eval (.Name nb q5) X.env) :: l) st
  refine wpAny_execs_cons (wpAny_Assign_Name (Subscript_ (wpAny_List_spliced ?_)) sw1)
  show wpAny _ _ (spliced ((false, eval (.Constant (.str z0) j0 c0) X.env) :: backTo lp (starEach [.Constant (.str z1) j1 c1, .Constant (.str z2) j2 c2] X.env))) _ _ s
  refine Calls.spliced_cons (Calls.Constant_str ?_)
  show wpAny _ _ (spliced ((false, eval (.Constant (.str z1) j1 c1) X.env) :: backTo lp (starEach [.Constant (.str z2) j2 c2] X.env))) _ _ _
  refine Calls.spliced_cons (Calls.Constant_str ?_)
  show wpAny _ _ (spliced ((false, eval (.Constant (.str z2) j2 c2) X.env) :: backTo lp (starEach [] X.env))) _ _ _
  refine Calls.spliced_cons (Calls.Constant_str (Calls.spliced_nil ?_))
  have l3 : (3 : Nat) ≤ sizeLine := by decide
  refine ⟨l3, ?_⟩
  have fresh : H s.heap.objs.size = none := I.hok.fresh (Nat.le_refl _)
  have I1 : Inv X pins σ (upd H s.heap.objs.size (.frz { cls := .type "list", data := .seq #[.str z0 s.toks, .str z1 (s.toks + 1), .str z2 (s.toks + 1 + 1)] 0 } (.lst [.str z0, .str z1, .str z2]))) { s with heap := s.heap.push { cls := .type "list", data := .seq #[.str z0 s.toks, .str z1 (s.toks + 1), .str z2 (s.toks + 1 + 1)] }, toks := s.toks + 1 + 1 + 1 } :=
    I.laid (fun b u e => Heap.get?_push_of_some _ e) (Nat.le_refl _) ⟨Heap.get?_push_size _ rfl, l3, [.str z0 s.toks, .str z1 (s.toks + 1), .str z2 (s.toks + 1 + 1)], 0, .cons ⟨_, rfl⟩ (.cons ⟨_, rfl⟩ (.cons ⟨_, rfl⟩ .nil)), Heap.get?_push_size _ rfl⟩
  refine wpAny_mono (PySem.wpAny_toks (hi.run pins _ σ _ _ I1 (h _ _ fresh))) (fun v s2 q => ?_) fun _ _ z => z.2
  obtain ⟨tk2, v2, H2, I2, r2, rfl, j, z, rfl, hz, p, xs, i, x, sr, sa, sq, hx, hcnt⟩ := q
  have tk2 : s.toks + 1 + 1 + 1 ≤ s2.toks := tk2
  obtain ⟨tj, rfl⟩ := r2
  obtain ⟨h5, _⟩ := I2.hok _ _ upd_same
  have il : s2.heap.IsList s.heap.objs.size #[.str z0 s.toks, .str z1 (s.toks + 1), .str z2 (s.toks + 1 + 1)] := ⟨_, h5, rfl, 0, rfl⟩
  have pick : ∃ t : Nat, #[Value.str z0 s.toks, .str z1 (s.toks + 1), .str z2 (s.toks + 1 + 1)][((j : Nat) : Int).toNat]? = some (.str z t) ∧ t ≠ 0 ∧ t < s2.toks := by
    match j, hz with
    | 0, hz => exact ⟨s.toks, by rw [← Option.some.inj hz]; rfl, by omega, by omega⟩
    | 1, hz => exact ⟨s.toks + 1, by rw [← Option.some.inj hz]; rfl, by omega, by omega⟩
    | 2, hz => exact ⟨s.toks + 1 + 1, by rw [← Option.some.inj hz]; rfl, by omega, by omega⟩
    | n + 3, hz => cases hz
  obtain ⟨t, ht, t0, tlt⟩ := pick
  have jlt : j < 3 := by
    rcases Nat.lt_or_ge j 3 with a | a
    · exact a
    · rw [List.getElem?_eq_none (by show 3 ≤ j; exact a)] at hz
      cases hz
  refine item_listR il (Int.natCast_nonneg j) (by omega) ht ?_ (pl _ _)
  refine store_ex (v := V.str z) (u := Value.str z t) I2 nd hb lb ⟨t, rfl⟩ fun s3 tk3 I3 ex => ?_
  refine wpAny_execs_cons (wpAny_Assign_Name (wpAny_Call_method_lateS base (by rw [st3]; rfl) line (Subscript_ (raw_name hrows vrows I3 sr (fun w1 e1 => ?_) d1 d2))) sw2)
  obtain rfl : w1 = Value.ref p := e1
  refine raw_name hat vat I3 sa (fun w2 e2 => ?_) d3 d4
  obtain ⟨ta, rfl⟩ := e2
  obtain ⟨its, ra, plain, lz⟩ := I3.list sq
  obtain ⟨w3, hw3, r3⟩ := ra.get hx
  have i63 : (i : Int) < 2 ^ 63 := by
    have a := (List.getElem?_eq_some_iff.mp hx).1
    have b := line63
    omega
  refine item_listR (k := (i : Int)) plain.isList (Int.natCast_nonneg i) i63 (by simpa using hw3) ?_ rfl
  obtain ⟨tx3, rfl⟩ := r3
  refine ⟨"str", _, PySem.F.plainAttrs_str, PySem.F.slot_str_replace, PySem.F.type_str_replace, typeIs_str _ _ _, (fun _ e => nomatch e), Calls.callWith_builtin (by rw [st3]; rfl) (Calls.evalArgs_plain ?_)⟩
  obtain ⟨m, ns, mb⟩ := ex
  show wpAny _ _ (spliced ((false, eval (.Constant (.str y) j3 c3) X.env) :: backTo cp (starEach [.Name nb q5, cnt] X.env))) _ _ _
  refine Calls.spliced_cons (Calls.Constant_str ?_)
  show wpAny _ _ (spliced ((false, eval (.Name nb q5) X.env) :: backTo cp (starEach [cnt] X.env))) _ _ _
  rw [st]
  refine Calls.spliced_cons ?_
  refine wpAny_Name (wpAny_loadName_local I3.ok.kind lb ns mb ?_) d5
  refine Calls.spliced_cons (wpAny_mono (PySem.wpAny_toks (hk.run pins { s3 with toks := s3.toks + 1 } _ _ _ (I3.tok _) hcnt)) (fun v4 s4 q => ?_) fun _ _ z => z.2)
  obtain ⟨tk4, v5, H4, I4, r4, rfl, k, rfl, k1, yz, bd, fin⟩ := q
  have tk4 : s3.toks + 1 ≤ s4.toks := tk4
  obtain ⟨tk5, rfl⟩ := r4
  refine Calls.spliced_nil ?_
  refine wpAny_mono (PySem.wpAny_toks (call_cut (Q := fun r s6 => ∃ t6 n6, r = .str (cutRep x y z k) t6 ∧ s6 = { s4 with toks := n6 }) (by show s3.toks ≠ 0; omega) t0 (by show s3.toks ≠ t; omega) yz (Int.natCast_nonneg k) (by omega) (by show k ≤ _; exact k1) bd fun t6 n6 => ⟨t6, n6, rfl, rfl⟩)) (fun _ s6 q => ?_) fun _ _ z => z.2
  obtain ⟨tk6, t6, n6, rfl, rfl⟩ := q
  have tk6 : s4.toks ≤ n6 := tk6
  refine wpAny_mono (PySem.wpAny_toks (store_ok (v := V.str (cutRep x y z k)) (u := Value.str (cutRep x y z k) t6) (Q := fun _ s7 => Inv X pins _ _ s7) (I4.tok n6) nd hr lr ⟨t6, rfl⟩ (fun _ J => J) fr)) (fun _ s7 q => ?_) fun _ _ z => z.2
  have tk7 : n6 ≤ s7.toks := q.1
  exact h2 pins s7 _ _ D (by omega) q.2 fin
end
end TB

/-! what the first count of a sign, made another text, leaves -/
namespace TB
open PySem PySem.Spec PyProof.Rows L2 Ck TS2 TX CwR PySem.Builtin PySem.Builtin.Str
def addf (f : List Nat → Nat) : List Str → Nat
  | [] => 0
  | p :: r => f p.cps.toList + addf f r
theorem glue_add (f : List Nat → Nat) (hf : ∀ a b, f (a ++ b) = f a + f b) (f0 : f [] = 0) (z : List Nat) : ∀ ps : List Str, f (StrLaws.glueL z ps) = ps.length * f z + addf f ps
  | [] => by
    show f [] = _
    rw [f0, List.length_nil, Nat.zero_mul]
    rfl
  | p :: r => by
    show f (z ++ (p.cps.toList ++ StrLaws.glueL z r)) = _
    rw [hf, hf, glue_add f hf f0 z r, List.length_cons, Nat.succ_mul]
    show _ = _ + (f p.cps.toList + addf f r)
    omega
theorem cut_add {l z : List Nat} {c k : Nat} (hk : 1 ≤ k) (hc : c ∈ l) : ∃ (r : List Nat) (m : Nat), 1 ≤ m ∧ cutRep (tx l) (tx [c]) (tx z) k = tx r ∧ ∀ f : List Nat → Nat, (∀ a b, f (a ++ b) = f a + f b) → f [] = 0 → f r + m * f [c] = f l + m * f z ∧ m * f [c] ≤ f l := by
  have at_ : ∃ i, StrLaws.At (tx l) (tx [c]) (tx l).length i := by
    obtain ⟨i, hi, e⟩ := List.getElem_of_mem hc
    exact ⟨i, (StrLaws.subAt_one (tx l) c i).mpr (by show l[i]? = _; rw [List.getElem?_eq_getElem hi, e])⟩
  rcases StrLaws.occ_head (tx l) (tx [c]) k hk with ⟨_, no⟩ | ⟨i, cs, eo, _⟩
  · obtain ⟨i, hi⟩ := at_
    exact absurd hi (no i)
  obtain ⟨f0, chain⟩ := StrLaws.occ_chain (tx l) (tx [c]) k
  have j := StrLaws.join_partsFrom (tx l) (tx [c]) _ 0 f0 chain
  rw [StrLaws.sub_whole] at j
  have lp := length_partsBetween (tx l) (occurrences (tx l) (tx [c]) 0 (tx l).length k) (tx [c]).length
  rw [StrLaws.partsBetween_eq] at lp
  obtain ⟨p, ps, ep⟩ := StrLaws.partsFrom_ne (tx l) (tx [c]).length 0 (occurrences (tx l) (tx [c]) 0 (tx l).length k)
  rw [ep] at j lp
  rw [← StrLaws.glued_eq_join] at j
  have jl : StrLaws.glueT [c] (p :: ps) = l := by
    have q := StrLaws.glued_list (tx [c]) p ps
    rw [j] at q
    exact q.symm
  refine ⟨StrLaws.glueT z (p :: ps), ps.length, ?_, ?_, fun f hf f0 => ?_⟩
  · rw [List.length_cons, eo, List.length_cons] at lp
    omega
  · unfold cutRep
    rw [StrLaws.partsBetween_eq, ep, eo, if_neg]
    · have q := StrLaws.glued_list (tx z) p ps
      exact StrLaws.mk_of_toList q
    · show ¬ (((i :: cs : List Nat)).isEmpty || ((tx [c]).length == 0 && (tx z).length == 0)) = true
      rw [tx_len]
      simp
  · have a := glue_add f hf f0 [c] ps
    have b := glue_add f hf f0 z ps
    have e1 : f l = f p.cps.toList + f (StrLaws.glueL [c] ps) := by
      rw [← jl, ← hf]
      rfl
    have e2 : f (StrLaws.glueT z (p :: ps)) = f p.cps.toList + f (StrLaws.glueL z ps) := hf _ _
    rw [e1, e2, a, b]
    omega
end TB

namespace K11
open PySem L2 Ck TS2 TX TB
def top (i : Nat) : Stmt := PySem.Challenge.pw_twonests_k11_whole_notes.main.body.getD i (.Pass ⟨0, 0, 0, 0⟩)
abbrev s_is_name : Stmt := top 16
abbrev s_home : Stmt := top 17
abbrev s_Nests_init : Stmt := inClass (top 22) 0
abbrev s_Nests_homes : Stmt := inClass (top 22) 1
abbrev s_Nests_at : Stmt := inClass (top 22) 2
abbrev s_Nests_way : Stmt := inClass (top 22) 3
abbrev s_Nests_put : Stmt := inClass (top 22) 4
abbrev s_Nests_put_at : Stmt := inClass (top 22) 5
abbrev s_Nests_moves : Stmt := inClass (top 22) 6
abbrev s_Nests_take_out : Stmt := inClass (top 22) 8
abbrev s_Nests_value : Stmt := inClass (top 22) 9
abbrev s_Nests_where : Stmt := inClass (top 22) 10
abbrev s_Nests_names : Stmt := inClass (top 22) 11
abbrev s_Nests_many : Stmt := inClass (top 22) 12
abbrev s_Nests__check_nest : Stmt := inClass (top 22) 13
abbrev s_Nests__thing : Stmt := inClass (top 22) 14
abbrev s_Nests__stand : Stmt := inClass (top 22) 15
abbrev s_Nests__other_home : Stmt := inClass (top 22) 16
abbrev s_Nests__ways : Stmt := inClass (top 22) 17
abbrev s_Nests__is_open : Stmt := inClass (top 22) 18
abbrev s_Nests__open_way : Stmt := inClass (top 22) 19
abbrev s_Nests__moves_on : Stmt := inClass (top 22) 20
abbrev s__check_name : Stmt := top 23
abbrev s__check_value : Stmt := top 24
abbrev s_written : Stmt := top 29
abbrev s_read : Stmt := top 30
abbrev s__rows : Stmt := top 31
abbrev s__head : Stmt := top 32
abbrev s__thing : Stmt := top 33
abbrev s__number : Stmt := top 34
abbrev s__value : Stmt := top 35
abbrev s__law_cell_at : Stmt := top 37
abbrev s__law_mixed : Stmt := top 38
abbrev s__law_room : Stmt := top 39
abbrev s__law_names : Stmt := top 40
abbrev s__law_home : Stmt := top 41
abbrev s__law_table : Stmt := top 42
abbrev s__law_homes : Stmt := top 43
abbrev s__law_kind : Stmt := top 44
abbrev s__law_told : Stmt := top 45
abbrev s__law_drawn : Stmt := top 46
abbrev s__law_rows : Stmt := top 47
abbrev s__law_text : Stmt := top 48
abbrev s__law_alike : Stmt := top 49
abbrev s__law_number : Stmt := top 50
abbrev s__law_spoilt : Stmt := top 51
abbrev s__law_other : Stmt := top 52
abbrev s__law_good : Stmt := top 53
abbrev s__law_refused : Stmt := top 54
abbrev s_law : Stmt := top 55
theorem sc_is_name : FnScope ["name", "sign"] ["name"] (defScope s_is_name) := ⟨rfl, rfl, rfl, by decide +kernel, rfl, by decide +kernel, by decide +kernel⟩
theorem sc_home : FnScope ["name", "times", "count", "number", "sign"] ["name", "times", "count"] (defScope s_home) := ⟨rfl, rfl, rfl, by decide +kernel, rfl, by decide +kernel, by decide +kernel⟩
theorem sc_Nests_init : FnScope ["self", "count", "first", "second", "times"] ["self", "count", "first", "second"] (defScope s_Nests_init) := ⟨rfl, rfl, rfl, by decide +kernel, rfl, by decide +kernel, by decide +kernel⟩
theorem sc_Nests_homes : FnScope ["self", "name"] ["self", "name"] (defScope s_Nests_homes) := ⟨rfl, rfl, rfl, by decide +kernel, rfl, by decide +kernel, by decide +kernel⟩
theorem sc_Nests_at : FnScope ["self", "nest"] ["self", "nest"] (defScope s_Nests_at) := ⟨rfl, rfl, rfl, by decide +kernel, rfl, by decide +kernel, by decide +kernel⟩
theorem sc_Nests_way : FnScope ["self", "nest", "way", "other"] ["self", "nest"] (defScope s_Nests_way) := ⟨rfl, rfl, rfl, by decide +kernel, rfl, by decide +kernel, by decide +kernel⟩
theorem sc_Nests_put : FnScope ["self", "name", "value", "way", "moves", "other", "_", "nest"] ["self", "name", "value"] (defScope s_Nests_put) := ⟨rfl, rfl, rfl, by decide +kernel, rfl, by decide +kernel, by decide +kernel⟩
theorem sc_Nests_put_at : FnScope ["self", "name", "value", "nest"] ["self", "name", "value", "nest"] (defScope s_Nests_put_at) := ⟨rfl, rfl, rfl, by decide +kernel, rfl, by decide +kernel, by decide +kernel⟩
theorem sc_Nests_moves : FnScope ["self", "name"] ["self", "name"] (defScope s_Nests_moves) := ⟨rfl, rfl, rfl, by decide +kernel, rfl, by decide +kernel, by decide +kernel⟩
theorem sc_Nests_take_out : FnScope ["self", "name", "value"] ["self", "name"] (defScope s_Nests_take_out) := ⟨rfl, rfl, rfl, by decide +kernel, rfl, by decide +kernel, by decide +kernel⟩
theorem sc_Nests_value : FnScope ["self", "name"] ["self", "name"] (defScope s_Nests_value) := ⟨rfl, rfl, rfl, by decide +kernel, rfl, by decide +kernel, by decide +kernel⟩
theorem sc_Nests_where : FnScope ["self", "name"] ["self", "name"] (defScope s_Nests_where) := ⟨rfl, rfl, rfl, by decide +kernel, rfl, by decide +kernel, by decide +kernel⟩
theorem sc_Nests_names : FnScope ["self", "nest"] ["self"] (defScope s_Nests_names) := ⟨rfl, rfl, rfl, by decide +kernel, rfl, by decide +kernel, by decide +kernel⟩
theorem sc_Nests_many : FnScope ["self"] ["self"] (defScope s_Nests_many) := ⟨rfl, rfl, rfl, by decide +kernel, rfl, by decide +kernel, by decide +kernel⟩
theorem sc_Nests__check_nest : FnScope ["self", "nest", "row", "place"] ["self", "nest"] (defScope s_Nests__check_nest) := ⟨rfl, rfl, rfl, by decide +kernel, rfl, by decide +kernel, by decide +kernel⟩
theorem sc_Nests__thing : FnScope ["self", "name"] ["self", "name"] (defScope s_Nests__thing) := ⟨rfl, rfl, rfl, by decide +kernel, rfl, by decide +kernel, by decide +kernel⟩
theorem sc_Nests__stand : FnScope ["self", "name", "value", "nest"] ["self", "name", "value", "nest"] (defScope s_Nests__stand) := ⟨rfl, rfl, rfl, by decide +kernel, rfl, by decide +kernel, by decide +kernel⟩
theorem sc_Nests__other_home : FnScope ["self", "nest"] ["self", "nest"] (defScope s_Nests__other_home) := ⟨rfl, rfl, rfl, by decide +kernel, rfl, by decide +kernel, by decide +kernel⟩
theorem sc_Nests__ways : FnScope ["self", "name", "nest"] ["self", "name"] (defScope s_Nests__ways) := ⟨rfl, rfl, rfl, by decide +kernel, rfl, by decide +kernel, by decide +kernel⟩
theorem sc_Nests__is_open : FnScope ["self", "way"] ["self", "way"] (defScope s_Nests__is_open) := ⟨rfl, rfl, rfl, by decide +kernel, rfl, by decide +kernel, by decide +kernel⟩
theorem sc_Nests__open_way : FnScope ["self", "name", "ways", "way"] ["self", "name"] (defScope s_Nests__open_way) := ⟨rfl, rfl, rfl, by decide +kernel, rfl, by decide +kernel, by decide +kernel⟩
theorem sc_Nests__moves_on : FnScope ["self", "way", "steps", "at"] ["self", "way"] (defScope s_Nests__moves_on) := ⟨rfl, rfl, rfl, by decide +kernel, rfl, by decide +kernel, by decide +kernel⟩
theorem sc__check_name : FnScope ["name"] ["name"] (defScope s__check_name) := ⟨rfl, rfl, rfl, by decide +kernel, rfl, by decide +kernel, by decide +kernel⟩
theorem sc__check_value : FnScope ["value"] ["value"] (defScope s__check_value) := ⟨rfl, rfl, rfl, by decide +kernel, rfl, by decide +kernel, by decide +kernel⟩
theorem sc_written : FnScope ["table", "rows", "name", "row", "place"] ["table"] (defScope s_written) := ⟨rfl, rfl, rfl, by decide +kernel, rfl, by decide +kernel, by decide +kernel⟩
theorem sc_read : FnScope ["text", "head", "rest", "count", "first", "second", "things", "table", "name", "value", "nest", "words"] ["text"] (defScope s_read) := ⟨rfl, rfl, rfl, by decide +kernel, rfl, by decide +kernel, by decide +kernel⟩
theorem sc__rows : FnScope ["text", "rows", "rest", "row"] ["text"] (defScope s__rows) := ⟨rfl, rfl, rfl, by decide +kernel, rfl, by decide +kernel, by decide +kernel⟩
theorem sc__head : FnScope ["words"] ["words"] (defScope s__head) := ⟨rfl, rfl, rfl, by decide +kernel, rfl, by decide +kernel, by decide +kernel⟩
theorem sc__thing : FnScope ["words"] ["words"] (defScope s__thing) := ⟨rfl, rfl, rfl, by decide +kernel, rfl, by decide +kernel, by decide +kernel⟩
theorem sc__number : FnScope ["word", "sign"] ["word"] (defScope s__number) := ⟨rfl, rfl, rfl, by decide +kernel, rfl, by decide +kernel, by decide +kernel⟩
theorem sc__value : FnScope ["word"] ["word"] (defScope s__value) := ⟨rfl, rfl, rfl, by decide +kernel, rfl, by decide +kernel, by decide +kernel⟩
theorem sc__law_cell_at : FnScope ["_law_script", "_law_k"] ["_law_script", "_law_k"] (defScope s__law_cell_at) := ⟨rfl, rfl, rfl, by decide +kernel, rfl, by decide +kernel, by decide +kernel⟩
theorem sc__law_mixed : FnScope ["_law_cell", "_law_k", "_law_mix"] ["_law_cell", "_law_k"] (defScope s__law_mixed) := ⟨rfl, rfl, rfl, by decide +kernel, rfl, by decide +kernel, by decide +kernel⟩
theorem sc__law_room : FnScope ["_law_script", "_law_few", "_law_many"] ["_law_script", "_law_few", "_law_many"] (defScope s__law_room) := ⟨rfl, rfl, rfl, by decide +kernel, rfl, by decide +kernel, by decide +kernel⟩
theorem sc__law_names : FnScope ["_law_cell", "_law_many", "_law_signs", "_law_base", "_law_k", "_law_at", "_law_names_here", "_law_mix", "_law_sign"] ["_law_cell", "_law_many"] (defScope s__law_names) := ⟨rfl, rfl, rfl, by decide +kernel, rfl, by decide +kernel, by decide +kernel⟩
theorem sc__law_home : FnScope ["_law_name", "_law_times", "_law_count", "_law_signs", "_law_number_here", "_law_sign"] ["_law_name", "_law_times", "_law_count"] (defScope s__law_home) := ⟨rfl, rfl, rfl, by decide +kernel, rfl, by decide +kernel, by decide +kernel⟩
theorem sc__law_table : FnScope ["_law_script", "_law_count", "_law_first", "_law_second"] ["_law_script"] (defScope s__law_table) := ⟨rfl, rfl, rfl, by decide +kernel, rfl, by decide +kernel, by decide +kernel⟩
theorem sc__law_homes : FnScope ["_law_names_here", "_law_told_here", "_law_homes_here", "_law_name"] ["_law_names_here", "_law_told_here"] (defScope s__law_homes) := ⟨rfl, rfl, rfl, by decide +kernel, rfl, by decide +kernel, by decide +kernel⟩
theorem sc__law_kind : FnScope ["_law_e", "_law_kinds"] ["_law_e"] (defScope s__law_kind) := ⟨rfl, rfl, rfl, by decide +kernel, rfl, by decide +kernel, by decide +kernel⟩
theorem sc__law_told : FnScope ["_law_text_here", "_law_e"] ["_law_text_here"] (defScope s__law_told) := ⟨rfl, rfl, rfl, by decide +kernel, rfl, by decide +kernel, by decide +kernel⟩
theorem sc__law_drawn : FnScope ["_law_script", "_law_told_here", "_law_names_here", "_law_homes_here", "_law_held", "_law_values", "_law_cell", "_law_mix", "_law_name", "_law_nest", "_law_many"] ["_law_script", "_law_told_here", "_law_names_here", "_law_homes_here"] (defScope s__law_drawn) := ⟨rfl, rfl, rfl, by decide +kernel, rfl, by decide +kernel, by decide +kernel⟩
theorem sc__law_rows : FnScope ["_law_held", "_law_values", "_law_rows_here", "_law_nest", "_law_words"] ["_law_held", "_law_values"] (defScope s__law_rows) := ⟨rfl, rfl, rfl, by decide +kernel, rfl, by decide +kernel, by decide +kernel⟩
theorem sc__law_text : FnScope ["_law_rows_here", "_law_row"] ["_law_rows_here"] (defScope s__law_text) := ⟨rfl, rfl, rfl, by decide +kernel, rfl, by decide +kernel, by decide +kernel⟩
theorem sc__law_alike : FnScope ["_law_table_here", "_law_told_here", "_law_held", "_law_values", "_law_nest"] ["_law_table_here", "_law_told_here", "_law_held", "_law_values"] (defScope s__law_alike) := ⟨rfl, rfl, rfl, by decide +kernel, rfl, by decide +kernel, by decide +kernel⟩
theorem sc__law_number : FnScope ["_law_cell"] ["_law_cell"] (defScope s__law_number) := ⟨rfl, rfl, rfl, by decide +kernel, rfl, by decide +kernel, by decide +kernel⟩
theorem sc__law_spoilt : FnScope ["_law_rows_here", "_law_cell", "_law_more", "_law_at", "_law_words", "_law_place", "_law_blank", "_law_row"] ["_law_rows_here", "_law_cell", "_law_more"] (defScope s__law_spoilt) := ⟨rfl, rfl, rfl, by decide +kernel, rfl, by decide +kernel, by decide +kernel⟩
theorem sc__law_other : FnScope ["_law_rows_here", "_law_told_here", "_law_homes_here", "_law_name", "_law_cell", "_law_more", "_law_first", "_law_bad", "_law_words", "_law_nest", "_law_place", "_law_taken", "_law_one", "_law_there"] ["_law_rows_here", "_law_told_here", "_law_homes_here", "_law_name", "_law_cell", "_law_more"] (defScope s__law_other) := ⟨rfl, rfl, rfl, by decide +kernel, rfl, by decide +kernel, by decide +kernel⟩
theorem sc__law_good : FnScope ["_law_told_here", "_law_rows_here", "_law_held", "_law_values", "_law_homes_here", "_law_name", "_law_more", "_law_table_here", "_law_nest", "_law_found", "_law_cut", "_law_turned", "_law_back", "_law_gone", "_law_less", "_law_again", "_law_words", "_law_one"] ["_law_told_here", "_law_rows_here", "_law_held", "_law_values", "_law_homes_here", "_law_name", "_law_more"] (defScope s__law_good) := ⟨rfl, rfl, rfl, by decide +kernel, rfl, by decide +kernel, by decide +kernel⟩
theorem sc__law_refused : FnScope ["_law_rows_here", "_law_told_here", "_law_homes_here", "_law_name", "_law_cell", "_law_more", "_law_found", "_law_wrong", "_law_last"] ["_law_rows_here", "_law_told_here", "_law_homes_here", "_law_name", "_law_cell", "_law_more"] (defScope s__law_refused) := ⟨rfl, rfl, rfl, by decide +kernel, rfl, by decide +kernel, by decide +kernel⟩
theorem sc_law : FnScope ["_law_script", "_law_told_here", "_law_names_here", "_law_homes_here", "_law_held", "_law_values", "_law_words", "_law_rows_here", "_law_kind_here", "_law_name", "_law_k", "_law_cell", "_law_more"] ["_law_script"] (defScope s_law) := ⟨rfl, rfl, rfl, by decide +kernel, rfl, by decide +kernel, by decide +kernel⟩
/-- where the defs stand -/
structure Ad where
  a_is_name : Addr
  d_is_name : FuncData
  a_home : Addr
  d_home : FuncData
  a_Nests_init : Addr
  d_Nests_init : FuncData
  a_Nests_homes : Addr
  d_Nests_homes : FuncData
  a_Nests_at : Addr
  d_Nests_at : FuncData
  a_Nests_way : Addr
  d_Nests_way : FuncData
  a_Nests_put : Addr
  d_Nests_put : FuncData
  a_Nests_put_at : Addr
  d_Nests_put_at : FuncData
  a_Nests_moves : Addr
  d_Nests_moves : FuncData
  a_Nests_take_out : Addr
  d_Nests_take_out : FuncData
  a_Nests_value : Addr
  d_Nests_value : FuncData
  a_Nests_where : Addr
  d_Nests_where : FuncData
  a_Nests_names : Addr
  d_Nests_names : FuncData
  a_Nests_many : Addr
  d_Nests_many : FuncData
  a_Nests__check_nest : Addr
  d_Nests__check_nest : FuncData
  a_Nests__thing : Addr
  d_Nests__thing : FuncData
  a_Nests__stand : Addr
  d_Nests__stand : FuncData
  a_Nests__other_home : Addr
  d_Nests__other_home : FuncData
  a_Nests__ways : Addr
  d_Nests__ways : FuncData
  a_Nests__is_open : Addr
  d_Nests__is_open : FuncData
  a_Nests__open_way : Addr
  d_Nests__open_way : FuncData
  a_Nests__moves_on : Addr
  d_Nests__moves_on : FuncData
  a__check_name : Addr
  d__check_name : FuncData
  a__check_value : Addr
  d__check_value : FuncData
  a_written : Addr
  d_written : FuncData
  a_read : Addr
  d_read : FuncData
  a__rows : Addr
  d__rows : FuncData
  a__head : Addr
  d__head : FuncData
  a__thing : Addr
  d__thing : FuncData
  a__number : Addr
  d__number : FuncData
  a__value : Addr
  d__value : FuncData
  a__law_cell_at : Addr
  d__law_cell_at : FuncData
  a__law_mixed : Addr
  d__law_mixed : FuncData
  a__law_room : Addr
  d__law_room : FuncData
  a__law_names : Addr
  d__law_names : FuncData
  a__law_home : Addr
  d__law_home : FuncData
  a__law_table : Addr
  d__law_table : FuncData
  a__law_homes : Addr
  d__law_homes : FuncData
  a__law_kind : Addr
  d__law_kind : FuncData
  a__law_told : Addr
  d__law_told : FuncData
  a__law_drawn : Addr
  d__law_drawn : FuncData
  a__law_rows : Addr
  d__law_rows : FuncData
  a__law_text : Addr
  d__law_text : FuncData
  a__law_alike : Addr
  d__law_alike : FuncData
  a__law_number : Addr
  d__law_number : FuncData
  a__law_spoilt : Addr
  d__law_spoilt : FuncData
  a__law_other : Addr
  d__law_other : FuncData
  a__law_good : Addr
  d__law_good : FuncData
  a__law_refused : Addr
  d__law_refused : FuncData
  a_law : Addr
  d_law : FuncData
  c_Nests : Addr
  c_NestError : Addr
  c_NoNests : Addr
  c_NoName : Addr
  c_NoValue : Addr
  c_NoNest : Addr
  c_NoHome : Addr
  c_Taken : Addr
  c_Twice : Addr
  c_NoRoom : Addr
  c_Unknown : Addr
  c_NoNote : Addr
  t_FIGURES : Tok
  t_LONGEST : Tok
  t_MOST_FIGURES : Tok
  t_MOST_NESTS : Tok
  t_MOST_TIMES : Tok
  t_MOST_VALUE : Tok
  t_SIGNS : Tok
  t_WORDS : Tok
/-- what the top has left -/
structure Tx (K : PySem.W.Frag) (mg : Str → Option Value) (A : Ad) : Prop where
  F_is_name : Fun K "is_name" "is_name" s_is_name A.a_is_name A.d_is_name
  g_is_name : mg "is_name" = some (.ref A.a_is_name)
  b_is_name : Binds K A.d_is_name ["name"] []
  F_home : Fun K "home" "home" s_home A.a_home A.d_home
  g_home : mg "home" = some (.ref A.a_home)
  b_home : Binds K A.d_home ["name", "times", "count"] []
  F_Nests_init : Fun K "__init__" "Nests.__init__" s_Nests_init A.a_Nests_init A.d_Nests_init
  b_Nests_init : Binds K A.d_Nests_init ["self", "count", "first", "second"] []
  k_Nests : Mk K A.c_Nests A.a_Nests_init
  F_Nests_homes : Fun K "homes" "Nests.homes" s_Nests_homes A.a_Nests_homes A.d_Nests_homes
  b_Nests_homes : Binds K A.d_Nests_homes ["self", "name"] []
  m_Nests_homes : Meth K A.c_Nests "homes" A.a_Nests_homes
  F_Nests_at : Fun K "at" "Nests.at" s_Nests_at A.a_Nests_at A.d_Nests_at
  b_Nests_at : Binds K A.d_Nests_at ["self", "nest"] []
  m_Nests_at : Meth K A.c_Nests "at" A.a_Nests_at
  F_Nests_way : Fun K "way" "Nests.way" s_Nests_way A.a_Nests_way A.d_Nests_way
  b_Nests_way : Binds K A.d_Nests_way ["self", "nest"] []
  m_Nests_way : Meth K A.c_Nests "way" A.a_Nests_way
  F_Nests_put : Fun K "put" "Nests.put" s_Nests_put A.a_Nests_put A.d_Nests_put
  b_Nests_put : Binds K A.d_Nests_put ["self", "name", "value"] []
  m_Nests_put : Meth K A.c_Nests "put" A.a_Nests_put
  F_Nests_put_at : Fun K "put_at" "Nests.put_at" s_Nests_put_at A.a_Nests_put_at A.d_Nests_put_at
  b_Nests_put_at : Binds K A.d_Nests_put_at ["self", "name", "value", "nest"] []
  m_Nests_put_at : Meth K A.c_Nests "put_at" A.a_Nests_put_at
  F_Nests_moves : Fun K "moves" "Nests.moves" s_Nests_moves A.a_Nests_moves A.d_Nests_moves
  b_Nests_moves : Binds K A.d_Nests_moves ["self", "name"] []
  m_Nests_moves : Meth K A.c_Nests "moves" A.a_Nests_moves
  F_Nests_take_out : Fun K "take_out" "Nests.take_out" s_Nests_take_out A.a_Nests_take_out A.d_Nests_take_out
  b_Nests_take_out : Binds K A.d_Nests_take_out ["self", "name"] []
  m_Nests_take_out : Meth K A.c_Nests "take_out" A.a_Nests_take_out
  F_Nests_value : Fun K "value" "Nests.value" s_Nests_value A.a_Nests_value A.d_Nests_value
  b_Nests_value : Binds K A.d_Nests_value ["self", "name"] []
  m_Nests_value : Meth K A.c_Nests "value" A.a_Nests_value
  F_Nests_where : Fun K "where" "Nests.where" s_Nests_where A.a_Nests_where A.d_Nests_where
  b_Nests_where : Binds K A.d_Nests_where ["self", "name"] []
  m_Nests_where : Meth K A.c_Nests "where" A.a_Nests_where
  F_Nests_names : Fun K "names" "Nests.names" s_Nests_names A.a_Nests_names A.d_Nests_names
  b_Nests_names : Binds K A.d_Nests_names ["self"] []
  m_Nests_names : Meth K A.c_Nests "names" A.a_Nests_names
  F_Nests_many : Fun K "many" "Nests.many" s_Nests_many A.a_Nests_many A.d_Nests_many
  b_Nests_many : Binds K A.d_Nests_many ["self"] []
  m_Nests_many : Meth K A.c_Nests "many" A.a_Nests_many
  F_Nests__check_nest : Fun K "_check_nest" "Nests._check_nest" s_Nests__check_nest A.a_Nests__check_nest A.d_Nests__check_nest
  b_Nests__check_nest : Binds K A.d_Nests__check_nest ["self", "nest"] []
  m_Nests__check_nest : Meth K A.c_Nests "_check_nest" A.a_Nests__check_nest
  F_Nests__thing : Fun K "_thing" "Nests._thing" s_Nests__thing A.a_Nests__thing A.d_Nests__thing
  b_Nests__thing : Binds K A.d_Nests__thing ["self", "name"] []
  m_Nests__thing : Meth K A.c_Nests "_thing" A.a_Nests__thing
  F_Nests__stand : Fun K "_stand" "Nests._stand" s_Nests__stand A.a_Nests__stand A.d_Nests__stand
  b_Nests__stand : Binds K A.d_Nests__stand ["self", "name", "value", "nest"] []
  m_Nests__stand : Meth K A.c_Nests "_stand" A.a_Nests__stand
  F_Nests__other_home : Fun K "_other_home" "Nests._other_home" s_Nests__other_home A.a_Nests__other_home A.d_Nests__other_home
  b_Nests__other_home : Binds K A.d_Nests__other_home ["self", "nest"] []
  m_Nests__other_home : Meth K A.c_Nests "_other_home" A.a_Nests__other_home
  F_Nests__ways : Fun K "_ways" "Nests._ways" s_Nests__ways A.a_Nests__ways A.d_Nests__ways
  b_Nests__ways : Binds K A.d_Nests__ways ["self", "name"] []
  m_Nests__ways : Meth K A.c_Nests "_ways" A.a_Nests__ways
  F_Nests__is_open : Fun K "_is_open" "Nests._is_open" s_Nests__is_open A.a_Nests__is_open A.d_Nests__is_open
  b_Nests__is_open : Binds K A.d_Nests__is_open ["self", "way"] []
  m_Nests__is_open : Meth K A.c_Nests "_is_open" A.a_Nests__is_open
  F_Nests__open_way : Fun K "_open_way" "Nests._open_way" s_Nests__open_way A.a_Nests__open_way A.d_Nests__open_way
  b_Nests__open_way : Binds K A.d_Nests__open_way ["self", "name"] []
  m_Nests__open_way : Meth K A.c_Nests "_open_way" A.a_Nests__open_way
  F_Nests__moves_on : Fun K "_moves_on" "Nests._moves_on" s_Nests__moves_on A.a_Nests__moves_on A.d_Nests__moves_on
  b_Nests__moves_on : Binds K A.d_Nests__moves_on ["self", "way"] []
  m_Nests__moves_on : Meth K A.c_Nests "_moves_on" A.a_Nests__moves_on
  F__check_name : Fun K "_check_name" "_check_name" s__check_name A.a__check_name A.d__check_name
  g__check_name : mg "_check_name" = some (.ref A.a__check_name)
  b__check_name : Binds K A.d__check_name ["name"] []
  F__check_value : Fun K "_check_value" "_check_value" s__check_value A.a__check_value A.d__check_value
  g__check_value : mg "_check_value" = some (.ref A.a__check_value)
  b__check_value : Binds K A.d__check_value ["value"] []
  F_written : Fun K "written" "written" s_written A.a_written A.d_written
  g_written : mg "written" = some (.ref A.a_written)
  b_written : Binds K A.d_written ["table"] []
  F_read : Fun K "read" "read" s_read A.a_read A.d_read
  g_read : mg "read" = some (.ref A.a_read)
  b_read : Binds K A.d_read ["text"] []
  F__rows : Fun K "_rows" "_rows" s__rows A.a__rows A.d__rows
  g__rows : mg "_rows" = some (.ref A.a__rows)
  b__rows : Binds K A.d__rows ["text"] []
  F__head : Fun K "_head" "_head" s__head A.a__head A.d__head
  g__head : mg "_head" = some (.ref A.a__head)
  b__head : Binds K A.d__head ["words"] []
  F__thing : Fun K "_thing" "_thing" s__thing A.a__thing A.d__thing
  g__thing : mg "_thing" = some (.ref A.a__thing)
  b__thing : Binds K A.d__thing ["words"] []
  F__number : Fun K "_number" "_number" s__number A.a__number A.d__number
  g__number : mg "_number" = some (.ref A.a__number)
  b__number : Binds K A.d__number ["word"] []
  F__value : Fun K "_value" "_value" s__value A.a__value A.d__value
  g__value : mg "_value" = some (.ref A.a__value)
  b__value : Binds K A.d__value ["word"] []
  F__law_cell_at : Fun K "_law_cell_at" "_law_cell_at" s__law_cell_at A.a__law_cell_at A.d__law_cell_at
  g__law_cell_at : mg "_law_cell_at" = some (.ref A.a__law_cell_at)
  b__law_cell_at : Binds K A.d__law_cell_at ["_law_script", "_law_k"] []
  F__law_mixed : Fun K "_law_mixed" "_law_mixed" s__law_mixed A.a__law_mixed A.d__law_mixed
  g__law_mixed : mg "_law_mixed" = some (.ref A.a__law_mixed)
  b__law_mixed : Binds K A.d__law_mixed ["_law_cell", "_law_k"] []
  F__law_room : Fun K "_law_room" "_law_room" s__law_room A.a__law_room A.d__law_room
  g__law_room : mg "_law_room" = some (.ref A.a__law_room)
  b__law_room : Binds K A.d__law_room ["_law_script", "_law_few", "_law_many"] []
  F__law_names : Fun K "_law_names" "_law_names" s__law_names A.a__law_names A.d__law_names
  g__law_names : mg "_law_names" = some (.ref A.a__law_names)
  b__law_names : Binds K A.d__law_names ["_law_cell", "_law_many"] []
  F__law_home : Fun K "_law_home" "_law_home" s__law_home A.a__law_home A.d__law_home
  g__law_home : mg "_law_home" = some (.ref A.a__law_home)
  b__law_home : Binds K A.d__law_home ["_law_name", "_law_times", "_law_count"] []
  F__law_table : Fun K "_law_table" "_law_table" s__law_table A.a__law_table A.d__law_table
  g__law_table : mg "_law_table" = some (.ref A.a__law_table)
  b__law_table : Binds K A.d__law_table ["_law_script"] []
  F__law_homes : Fun K "_law_homes" "_law_homes" s__law_homes A.a__law_homes A.d__law_homes
  g__law_homes : mg "_law_homes" = some (.ref A.a__law_homes)
  b__law_homes : Binds K A.d__law_homes ["_law_names_here", "_law_told_here"] []
  F__law_kind : Fun K "_law_kind" "_law_kind" s__law_kind A.a__law_kind A.d__law_kind
  g__law_kind : mg "_law_kind" = some (.ref A.a__law_kind)
  b__law_kind : Binds K A.d__law_kind ["_law_e"] []
  F__law_told : Fun K "_law_told" "_law_told" s__law_told A.a__law_told A.d__law_told
  g__law_told : mg "_law_told" = some (.ref A.a__law_told)
  b__law_told : Binds K A.d__law_told ["_law_text_here"] []
  F__law_drawn : Fun K "_law_drawn" "_law_drawn" s__law_drawn A.a__law_drawn A.d__law_drawn
  g__law_drawn : mg "_law_drawn" = some (.ref A.a__law_drawn)
  b__law_drawn : Binds K A.d__law_drawn ["_law_script", "_law_told_here", "_law_names_here", "_law_homes_here"] []
  F__law_rows : Fun K "_law_rows" "_law_rows" s__law_rows A.a__law_rows A.d__law_rows
  g__law_rows : mg "_law_rows" = some (.ref A.a__law_rows)
  b__law_rows : Binds K A.d__law_rows ["_law_held", "_law_values"] []
  F__law_text : Fun K "_law_text" "_law_text" s__law_text A.a__law_text A.d__law_text
  g__law_text : mg "_law_text" = some (.ref A.a__law_text)
  b__law_text : Binds K A.d__law_text ["_law_rows_here"] []
  F__law_alike : Fun K "_law_alike" "_law_alike" s__law_alike A.a__law_alike A.d__law_alike
  g__law_alike : mg "_law_alike" = some (.ref A.a__law_alike)
  b__law_alike : Binds K A.d__law_alike ["_law_table_here", "_law_told_here", "_law_held", "_law_values"] []
  F__law_number : Fun K "_law_number" "_law_number" s__law_number A.a__law_number A.d__law_number
  g__law_number : mg "_law_number" = some (.ref A.a__law_number)
  b__law_number : Binds K A.d__law_number ["_law_cell"] []
  F__law_spoilt : Fun K "_law_spoilt" "_law_spoilt" s__law_spoilt A.a__law_spoilt A.d__law_spoilt
  g__law_spoilt : mg "_law_spoilt" = some (.ref A.a__law_spoilt)
  b__law_spoilt : Binds K A.d__law_spoilt ["_law_rows_here", "_law_cell", "_law_more"] []
  F__law_other : Fun K "_law_other" "_law_other" s__law_other A.a__law_other A.d__law_other
  g__law_other : mg "_law_other" = some (.ref A.a__law_other)
  b__law_other : Binds K A.d__law_other ["_law_rows_here", "_law_told_here", "_law_homes_here", "_law_name", "_law_cell", "_law_more"] []
  F__law_good : Fun K "_law_good" "_law_good" s__law_good A.a__law_good A.d__law_good
  g__law_good : mg "_law_good" = some (.ref A.a__law_good)
  b__law_good : Binds K A.d__law_good ["_law_told_here", "_law_rows_here", "_law_held", "_law_values", "_law_homes_here", "_law_name", "_law_more"] []
  F__law_refused : Fun K "_law_refused" "_law_refused" s__law_refused A.a__law_refused A.d__law_refused
  g__law_refused : mg "_law_refused" = some (.ref A.a__law_refused)
  b__law_refused : Binds K A.d__law_refused ["_law_rows_here", "_law_told_here", "_law_homes_here", "_law_name", "_law_cell", "_law_more"] []
  F_law : Fun K "law" "law" s_law A.a_law A.d_law
  g_law : mg "law" = some (.ref A.a_law)
  b_law : Binds K A.d_law ["_law_script"] []
  g_NestError : mg "NestError" = some (.ref A.c_NestError)
  g_NoNests : mg "NoNests" = some (.ref A.c_NoNests)
  g_NoName : mg "NoName" = some (.ref A.c_NoName)
  g_NoValue : mg "NoValue" = some (.ref A.c_NoValue)
  g_NoNest : mg "NoNest" = some (.ref A.c_NoNest)
  g_NoHome : mg "NoHome" = some (.ref A.c_NoHome)
  g_Taken : mg "Taken" = some (.ref A.c_Taken)
  g_Twice : mg "Twice" = some (.ref A.c_Twice)
  g_NoRoom : mg "NoRoom" = some (.ref A.c_NoRoom)
  g_Unknown : mg "Unknown" = some (.ref A.c_Unknown)
  g_NoNote : mg "NoNote" = some (.ref A.c_NoNote)
  x_NoNests : PySem.W.excIn K A.c_NoNests [.type "ValueError", .type "Exception", .type "BaseException", .type "object"] "ValueError.__new__" = true
  kk_NoNests : PySem.W.keepIn K (.ref A.c_NoNests) = true
  bx_NoNests : PySem.W.subIn K (.ref A.c_NoNests) (.type "BaseException") = some true
  tx_NoNests : PySem.W.typeIn K (.ref A.c_NoNests) = some (.type "type")
  x_NoName : PySem.W.excIn K A.c_NoName [.type "ValueError", .type "Exception", .type "BaseException", .type "object"] "ValueError.__new__" = true
  kk_NoName : PySem.W.keepIn K (.ref A.c_NoName) = true
  bx_NoName : PySem.W.subIn K (.ref A.c_NoName) (.type "BaseException") = some true
  tx_NoName : PySem.W.typeIn K (.ref A.c_NoName) = some (.type "type")
  x_NoValue : PySem.W.excIn K A.c_NoValue [.type "ValueError", .type "Exception", .type "BaseException", .type "object"] "ValueError.__new__" = true
  kk_NoValue : PySem.W.keepIn K (.ref A.c_NoValue) = true
  bx_NoValue : PySem.W.subIn K (.ref A.c_NoValue) (.type "BaseException") = some true
  tx_NoValue : PySem.W.typeIn K (.ref A.c_NoValue) = some (.type "type")
  x_NoNest : PySem.W.excIn K A.c_NoNest [.type "ValueError", .type "Exception", .type "BaseException", .type "object"] "ValueError.__new__" = true
  kk_NoNest : PySem.W.keepIn K (.ref A.c_NoNest) = true
  bx_NoNest : PySem.W.subIn K (.ref A.c_NoNest) (.type "BaseException") = some true
  tx_NoNest : PySem.W.typeIn K (.ref A.c_NoNest) = some (.type "type")
  x_NoHome : PySem.W.excIn K A.c_NoHome [.type "ValueError", .type "Exception", .type "BaseException", .type "object"] "ValueError.__new__" = true
  kk_NoHome : PySem.W.keepIn K (.ref A.c_NoHome) = true
  bx_NoHome : PySem.W.subIn K (.ref A.c_NoHome) (.type "BaseException") = some true
  tx_NoHome : PySem.W.typeIn K (.ref A.c_NoHome) = some (.type "type")
  x_Taken : PySem.W.excIn K A.c_Taken [.type "ValueError", .type "Exception", .type "BaseException", .type "object"] "ValueError.__new__" = true
  kk_Taken : PySem.W.keepIn K (.ref A.c_Taken) = true
  bx_Taken : PySem.W.subIn K (.ref A.c_Taken) (.type "BaseException") = some true
  tx_Taken : PySem.W.typeIn K (.ref A.c_Taken) = some (.type "type")
  x_Twice : PySem.W.excIn K A.c_Twice [.type "ValueError", .type "Exception", .type "BaseException", .type "object"] "ValueError.__new__" = true
  kk_Twice : PySem.W.keepIn K (.ref A.c_Twice) = true
  bx_Twice : PySem.W.subIn K (.ref A.c_Twice) (.type "BaseException") = some true
  tx_Twice : PySem.W.typeIn K (.ref A.c_Twice) = some (.type "type")
  x_NoRoom : PySem.W.excIn K A.c_NoRoom [.type "ValueError", .type "Exception", .type "BaseException", .type "object"] "ValueError.__new__" = true
  kk_NoRoom : PySem.W.keepIn K (.ref A.c_NoRoom) = true
  bx_NoRoom : PySem.W.subIn K (.ref A.c_NoRoom) (.type "BaseException") = some true
  tx_NoRoom : PySem.W.typeIn K (.ref A.c_NoRoom) = some (.type "type")
  x_Unknown : PySem.W.excIn K A.c_Unknown [.type "ValueError", .type "Exception", .type "BaseException", .type "object"] "ValueError.__new__" = true
  kk_Unknown : PySem.W.keepIn K (.ref A.c_Unknown) = true
  bx_Unknown : PySem.W.subIn K (.ref A.c_Unknown) (.type "BaseException") = some true
  tx_Unknown : PySem.W.typeIn K (.ref A.c_Unknown) = some (.type "type")
  x_NoNote : PySem.W.excIn K A.c_NoNote [.type "ValueError", .type "Exception", .type "BaseException", .type "object"] "ValueError.__new__" = true
  kk_NoNote : PySem.W.keepIn K (.ref A.c_NoNote) = true
  bx_NoNote : PySem.W.subIn K (.ref A.c_NoNote) (.type "BaseException") = some true
  tx_NoNote : PySem.W.typeIn K (.ref A.c_NoNote) = some (.type "type")
  e_NoNests_NestError : PySem.W.exmOne K (.ref A.c_NoNests) (.ref A.c_NestError) = some true
  e_NoName_NestError : PySem.W.exmOne K (.ref A.c_NoName) (.ref A.c_NestError) = some true
  e_NoValue_NestError : PySem.W.exmOne K (.ref A.c_NoValue) (.ref A.c_NestError) = some true
  e_NoNest_NestError : PySem.W.exmOne K (.ref A.c_NoNest) (.ref A.c_NestError) = some true
  e_NoHome_NestError : PySem.W.exmOne K (.ref A.c_NoHome) (.ref A.c_NestError) = some true
  e_Taken_NestError : PySem.W.exmOne K (.ref A.c_Taken) (.ref A.c_NestError) = some true
  e_Twice_NestError : PySem.W.exmOne K (.ref A.c_Twice) (.ref A.c_NestError) = some true
  e_NoNote_NestError : PySem.W.exmOne K (.ref A.c_NoNote) (.ref A.c_NestError) = some true
  q_NoNests_NoNests : PySem.W.kitOne K (.ref A.c_NoNests) (.ref A.c_NoNests) = some true
  q_NoNests_NoName : PySem.W.kitOne K (.ref A.c_NoNests) (.ref A.c_NoName) = some false
  q_NoNests_NoValue : PySem.W.kitOne K (.ref A.c_NoNests) (.ref A.c_NoValue) = some false
  q_NoNests_NoNest : PySem.W.kitOne K (.ref A.c_NoNests) (.ref A.c_NoNest) = some false
  q_NoNests_NoHome : PySem.W.kitOne K (.ref A.c_NoNests) (.ref A.c_NoHome) = some false
  q_NoNests_Taken : PySem.W.kitOne K (.ref A.c_NoNests) (.ref A.c_Taken) = some false
  q_NoNests_Twice : PySem.W.kitOne K (.ref A.c_NoNests) (.ref A.c_Twice) = some false
  q_NoNests_NoNote : PySem.W.kitOne K (.ref A.c_NoNests) (.ref A.c_NoNote) = some false
  q_NoNests_NoRoom : PySem.W.kitOne K (.ref A.c_NoNests) (.ref A.c_NoRoom) = some false
  q_NoNests_Unknown : PySem.W.kitOne K (.ref A.c_NoNests) (.ref A.c_Unknown) = some false
  q_NoNests_ValueError : PySem.W.kitOne K (.ref A.c_NoNests) (.type "ValueError") = some true
  q_NoName_NoNests : PySem.W.kitOne K (.ref A.c_NoName) (.ref A.c_NoNests) = some false
  q_NoName_NoName : PySem.W.kitOne K (.ref A.c_NoName) (.ref A.c_NoName) = some true
  q_NoName_NoValue : PySem.W.kitOne K (.ref A.c_NoName) (.ref A.c_NoValue) = some false
  q_NoName_NoNest : PySem.W.kitOne K (.ref A.c_NoName) (.ref A.c_NoNest) = some false
  q_NoName_NoHome : PySem.W.kitOne K (.ref A.c_NoName) (.ref A.c_NoHome) = some false
  q_NoName_Taken : PySem.W.kitOne K (.ref A.c_NoName) (.ref A.c_Taken) = some false
  q_NoName_Twice : PySem.W.kitOne K (.ref A.c_NoName) (.ref A.c_Twice) = some false
  q_NoName_NoNote : PySem.W.kitOne K (.ref A.c_NoName) (.ref A.c_NoNote) = some false
  q_NoName_NoRoom : PySem.W.kitOne K (.ref A.c_NoName) (.ref A.c_NoRoom) = some false
  q_NoName_Unknown : PySem.W.kitOne K (.ref A.c_NoName) (.ref A.c_Unknown) = some false
  q_NoName_ValueError : PySem.W.kitOne K (.ref A.c_NoName) (.type "ValueError") = some true
  q_NoValue_NoNests : PySem.W.kitOne K (.ref A.c_NoValue) (.ref A.c_NoNests) = some false
  q_NoValue_NoName : PySem.W.kitOne K (.ref A.c_NoValue) (.ref A.c_NoName) = some false
  q_NoValue_NoValue : PySem.W.kitOne K (.ref A.c_NoValue) (.ref A.c_NoValue) = some true
  q_NoValue_NoNest : PySem.W.kitOne K (.ref A.c_NoValue) (.ref A.c_NoNest) = some false
  q_NoValue_NoHome : PySem.W.kitOne K (.ref A.c_NoValue) (.ref A.c_NoHome) = some false
  q_NoValue_Taken : PySem.W.kitOne K (.ref A.c_NoValue) (.ref A.c_Taken) = some false
  q_NoValue_Twice : PySem.W.kitOne K (.ref A.c_NoValue) (.ref A.c_Twice) = some false
  q_NoValue_NoNote : PySem.W.kitOne K (.ref A.c_NoValue) (.ref A.c_NoNote) = some false
  q_NoValue_NoRoom : PySem.W.kitOne K (.ref A.c_NoValue) (.ref A.c_NoRoom) = some false
  q_NoValue_Unknown : PySem.W.kitOne K (.ref A.c_NoValue) (.ref A.c_Unknown) = some false
  q_NoValue_ValueError : PySem.W.kitOne K (.ref A.c_NoValue) (.type "ValueError") = some true
  q_NoNest_NoNests : PySem.W.kitOne K (.ref A.c_NoNest) (.ref A.c_NoNests) = some false
  q_NoNest_NoName : PySem.W.kitOne K (.ref A.c_NoNest) (.ref A.c_NoName) = some false
  q_NoNest_NoValue : PySem.W.kitOne K (.ref A.c_NoNest) (.ref A.c_NoValue) = some false
  q_NoNest_NoNest : PySem.W.kitOne K (.ref A.c_NoNest) (.ref A.c_NoNest) = some true
  q_NoNest_NoHome : PySem.W.kitOne K (.ref A.c_NoNest) (.ref A.c_NoHome) = some false
  q_NoNest_Taken : PySem.W.kitOne K (.ref A.c_NoNest) (.ref A.c_Taken) = some false
  q_NoNest_Twice : PySem.W.kitOne K (.ref A.c_NoNest) (.ref A.c_Twice) = some false
  q_NoNest_NoNote : PySem.W.kitOne K (.ref A.c_NoNest) (.ref A.c_NoNote) = some false
  q_NoNest_NoRoom : PySem.W.kitOne K (.ref A.c_NoNest) (.ref A.c_NoRoom) = some false
  q_NoNest_Unknown : PySem.W.kitOne K (.ref A.c_NoNest) (.ref A.c_Unknown) = some false
  q_NoNest_ValueError : PySem.W.kitOne K (.ref A.c_NoNest) (.type "ValueError") = some true
  q_NoHome_NoNests : PySem.W.kitOne K (.ref A.c_NoHome) (.ref A.c_NoNests) = some false
  q_NoHome_NoName : PySem.W.kitOne K (.ref A.c_NoHome) (.ref A.c_NoName) = some false
  q_NoHome_NoValue : PySem.W.kitOne K (.ref A.c_NoHome) (.ref A.c_NoValue) = some false
  q_NoHome_NoNest : PySem.W.kitOne K (.ref A.c_NoHome) (.ref A.c_NoNest) = some false
  q_NoHome_NoHome : PySem.W.kitOne K (.ref A.c_NoHome) (.ref A.c_NoHome) = some true
  q_NoHome_Taken : PySem.W.kitOne K (.ref A.c_NoHome) (.ref A.c_Taken) = some false
  q_NoHome_Twice : PySem.W.kitOne K (.ref A.c_NoHome) (.ref A.c_Twice) = some false
  q_NoHome_NoNote : PySem.W.kitOne K (.ref A.c_NoHome) (.ref A.c_NoNote) = some false
  q_NoHome_NoRoom : PySem.W.kitOne K (.ref A.c_NoHome) (.ref A.c_NoRoom) = some false
  q_NoHome_Unknown : PySem.W.kitOne K (.ref A.c_NoHome) (.ref A.c_Unknown) = some false
  q_NoHome_ValueError : PySem.W.kitOne K (.ref A.c_NoHome) (.type "ValueError") = some true
  q_Taken_NoNests : PySem.W.kitOne K (.ref A.c_Taken) (.ref A.c_NoNests) = some false
  q_Taken_NoName : PySem.W.kitOne K (.ref A.c_Taken) (.ref A.c_NoName) = some false
  q_Taken_NoValue : PySem.W.kitOne K (.ref A.c_Taken) (.ref A.c_NoValue) = some false
  q_Taken_NoNest : PySem.W.kitOne K (.ref A.c_Taken) (.ref A.c_NoNest) = some false
  q_Taken_NoHome : PySem.W.kitOne K (.ref A.c_Taken) (.ref A.c_NoHome) = some false
  q_Taken_Taken : PySem.W.kitOne K (.ref A.c_Taken) (.ref A.c_Taken) = some true
  q_Taken_Twice : PySem.W.kitOne K (.ref A.c_Taken) (.ref A.c_Twice) = some false
  q_Taken_NoNote : PySem.W.kitOne K (.ref A.c_Taken) (.ref A.c_NoNote) = some false
  q_Taken_NoRoom : PySem.W.kitOne K (.ref A.c_Taken) (.ref A.c_NoRoom) = some false
  q_Taken_Unknown : PySem.W.kitOne K (.ref A.c_Taken) (.ref A.c_Unknown) = some false
  q_Taken_ValueError : PySem.W.kitOne K (.ref A.c_Taken) (.type "ValueError") = some true
  q_Twice_NoNests : PySem.W.kitOne K (.ref A.c_Twice) (.ref A.c_NoNests) = some false
  q_Twice_NoName : PySem.W.kitOne K (.ref A.c_Twice) (.ref A.c_NoName) = some false
  q_Twice_NoValue : PySem.W.kitOne K (.ref A.c_Twice) (.ref A.c_NoValue) = some false
  q_Twice_NoNest : PySem.W.kitOne K (.ref A.c_Twice) (.ref A.c_NoNest) = some false
  q_Twice_NoHome : PySem.W.kitOne K (.ref A.c_Twice) (.ref A.c_NoHome) = some false
  q_Twice_Taken : PySem.W.kitOne K (.ref A.c_Twice) (.ref A.c_Taken) = some false
  q_Twice_Twice : PySem.W.kitOne K (.ref A.c_Twice) (.ref A.c_Twice) = some true
  q_Twice_NoNote : PySem.W.kitOne K (.ref A.c_Twice) (.ref A.c_NoNote) = some false
  q_Twice_NoRoom : PySem.W.kitOne K (.ref A.c_Twice) (.ref A.c_NoRoom) = some false
  q_Twice_Unknown : PySem.W.kitOne K (.ref A.c_Twice) (.ref A.c_Unknown) = some false
  q_Twice_ValueError : PySem.W.kitOne K (.ref A.c_Twice) (.type "ValueError") = some true
  q_NoNote_NoNests : PySem.W.kitOne K (.ref A.c_NoNote) (.ref A.c_NoNests) = some false
  q_NoNote_NoName : PySem.W.kitOne K (.ref A.c_NoNote) (.ref A.c_NoName) = some false
  q_NoNote_NoValue : PySem.W.kitOne K (.ref A.c_NoNote) (.ref A.c_NoValue) = some false
  q_NoNote_NoNest : PySem.W.kitOne K (.ref A.c_NoNote) (.ref A.c_NoNest) = some false
  q_NoNote_NoHome : PySem.W.kitOne K (.ref A.c_NoNote) (.ref A.c_NoHome) = some false
  q_NoNote_Taken : PySem.W.kitOne K (.ref A.c_NoNote) (.ref A.c_Taken) = some false
  q_NoNote_Twice : PySem.W.kitOne K (.ref A.c_NoNote) (.ref A.c_Twice) = some false
  q_NoNote_NoNote : PySem.W.kitOne K (.ref A.c_NoNote) (.ref A.c_NoNote) = some true
  q_NoNote_NoRoom : PySem.W.kitOne K (.ref A.c_NoNote) (.ref A.c_NoRoom) = some false
  q_NoNote_Unknown : PySem.W.kitOne K (.ref A.c_NoNote) (.ref A.c_Unknown) = some false
  q_NoNote_ValueError : PySem.W.kitOne K (.ref A.c_NoNote) (.type "ValueError") = some true
  ec_NoNests : ExcC K A.c_NoNests
  ec_NoName : ExcC K A.c_NoName
  ec_NoValue : ExcC K A.c_NoValue
  ec_NoNest : ExcC K A.c_NoNest
  ec_NoHome : ExcC K A.c_NoHome
  ec_Taken : ExcC K A.c_Taken
  ec_Twice : ExcC K A.c_Twice
  ec_NoNote : ExcC K A.c_NoNote
  cl_Nests : Cls K A.c_Nests
  g_Nests : mg "Nests" = some (.ref A.c_Nests)
  n_Nests_count : NoAttr K A.c_Nests "count"
  n_Nests_first : NoAttr K A.c_Nests "first"
  n_Nests_second : NoAttr K A.c_Nests "second"
  n_Nests__names : NoAttr K A.c_Nests "_names"
  n_Nests__things : NoAttr K A.c_Nests "_things"
  c_FIGURES : mg "FIGURES" = some (.str "0123456789" A.t_FIGURES)
  c_LONGEST : mg "LONGEST" = some (.int 12 A.t_LONGEST)
  c_MOST_FIGURES : mg "MOST_FIGURES" = some (.int 10 A.t_MOST_FIGURES)
  c_MOST_NESTS : mg "MOST_NESTS" = some (.int 1000 A.t_MOST_NESTS)
  c_MOST_TIMES : mg "MOST_TIMES" = some (.int 1000000 A.t_MOST_TIMES)
  c_MOST_VALUE : mg "MOST_VALUE" = some (.int 1000000000 A.t_MOST_VALUE)
  c_SIGNS : mg "SIGNS" = some (.str "abcdefghijklmnopqrstuvwxyz0123456789" A.t_SIGNS)
  c_WORDS : mg "WORDS" = some (.int 4 A.t_WORDS)
  m_ValueError : mg "ValueError" = none
  m_dict : mg "dict" = none
  m_int : mg "int" = none
  m_isinstance : mg "isinstance" = none
  m_len : mg "len" = none
  m_list : mg "list" = none
  m_min : mg "min" = none
  m_range : mg "range" = none
  m_sorted : mg "sorted" = none
  m_str : mg "str" = none

namespace M
/-! names, values, nests: what is checked -/
theorem sz {acc y : Str} {m n : Nat} (h1 : acc.length ≤ m) (h2 : y.length ≤ n) (h : m + n ≤ 1000000) : (acc ++ y).length ≤ sizeLine ∧ (acc ++ y).length ≤ m + n := by
  have e := strLen_append acc y
  have := sizeLine_eq
  omega
theorem iteNT {c A B : Prop} [Decidable c] (hc : ¬ c) (h : A) : if (!decide c) = true then A else B := by
  rw [decide_eq_false hc]
  exact iteT h
theorem sz0 : (Str.empty).length ≤ 0 := Nat.le_refl _
def sp_is_name : Sp := fun vs H Q _ => ∃ l : List Nat, vs = [.str (tx l)] ∧ l.length ≤ 1000 ∧ Q (.bl (isN l)) H
def sp_home : Sp := fun vs H Q _ => ∃ (l : List Nat) (t m : Int), vs = [.str (tx l), .int t, .int m] ∧ (∀ c ∈ l, c ∈ alph) ∧ 0 < m ∧ m ≤ 1000000 ∧ Q (.int (homeN t m l 0)) H
def sp__check_name (C : Addr) : Sp := fun vs H Q E => ∃ n : Name, vs = [.str (tx n)] ∧ n.length ≤ 1000 ∧ (NameOk n → Q .non H) ∧ (¬ NameOk n → E (.ref C) none H)
def sp__check_value (C : Addr) : Sp := fun vs H Q E => ∃ v : Int, vs = [.int v] ∧ v.natAbs.log2 < 1920 ∧ (-1000000000 ≤ v ∧ v ≤ 1000000000 → Q .non H) ∧ (¬ (-1000000000 ≤ v ∧ v ≤ 1000000000) → E (.ref C) none H)
def sp_Nests__check_nest (C CN : Addr) : Sp := fun vs H Q E => ∃ (a dx d w q : Addr) (c t1 t2 : Int) (s : Seat), vs = [.ref a, .ref q] ∧ H a = some (.ins C dx (flds c t1 t2 d w)) ∧ H q = some (.tup (sv s)) ∧ s.1.natAbs.log2 < 1920 ∧ s.2.natAbs.log2 < 1920 ∧
  (InT c s → ∀ H', Same H H' → Q .non H') ∧ (¬ InT c s → ∀ H', Same H H' → E (.ref CN) none H')
section
variable {P : Program} {w : World} {K : PySem.W.Frag} {mg : Str → Option Value} {base : Heap} {A : Ad}
theorem ok_is_name (T : Tx K mg A) : FnOk P w K mg base CX0 1 A.a_is_name A.d_is_name ["name"] sp_is_name := by
  refine T.F_is_name.ok sc_is_name (fun vs H Q E h => ?_) (fun cdv Ar outer s H vs Q E hr h => ?_)
  · obtain ⟨l, rfl, _⟩ := h
    rfl
  · obtain ⟨l, rfl, hl, k⟩ := h
    refine ⟨_, 
      (pss_cons (ps_if (PW.pt (pw_or (pt_cmpR op_eq (pv 0) pe_str (nomark _)) (pw_or1 (pt_cmpR op_gt (pe_callB call_len_str (by rfl) T.m_len PySem.boot_len (pa_cons (pv 0) pa_nil)) (pe_glob (v := .int 12) (by rfl) T.c_LONGEST ⟨_, rfl⟩) (nomark _))))) 
        (pss_one (ps_ret pe_bl)) pss_nil)
      (pss_cons (ps_for PassesOwn.never rfl (pi_str (pv 0)) (pg_name (i := 1) sc_is_name.nd rfl (Or.inl rfl)) 
        (pss_one (ps_if (pt_cmpR op_notIn_sign (pv 1) (pe_glob (v := .str "abcdefghijklmnopqrstuvwxyz0123456789") (by rfl) T.c_SIGNS ⟨_, rfl⟩) rfl) 
          (pss_one (ps_ret pe_bl)) pss_nil)))
      (pss_one (ps_ret pe_bl)))), ?_⟩
    refine ⟨_, rfl, rfl, _, rfl, ?_⟩
    refine ite2 (fun e => ?_) (fun e => ?_)
    · have e1 : tx l = tx [] := by
        have := V.str.inj (of_decide_eq_true e)
        rw [this, nil_tx]
      have e2 : l = [] := tx_inj e1
      subst e2
      exact k
    · have hne : l ≠ [] := fun q => e (by subst q; exact decide_eq_true (by rw [nil_tx]))
      refine ⟨_, rfl, _, rfl, (by rw [tx_len]; exact Nat.le_of_lt (small1000 hl)), _, _, rfl, rfl, _, rfl, ?_⟩
      refine ite2 (fun e2 => ?_) (fun e2 => ?_)
      · have e3 : ¬ l.length ≤ 12 := by
          have := of_decide_eq_true e2
          rw [tx_len] at this
          omega
        have e4 : isN l = false := by
          unfold isN
          rw [decide_eq_false e3]
          simp
        rw [e4] at k
        exact k
      · have e3 : l.length ≤ 12 := by
          have : ¬ ((12 : Int) < ((tx l).length : Nat)) := fun q => e2 (decide_eq_true q)
          rw [tx_len] at this
          omega
        refine ⟨_, rfl, _, rfl, for_it walk_str (fun i σ H' => H' = H ∧ (∃ v, σ = [some (.str (tx l)), v]) ∧ ∀ c ∈ l.take i, c ∈ alph) ⟨rfl, ⟨_, rfl⟩, fun c hc => by simp at hc⟩ (fun _ _ _ _ _ => trivial) ?_ ?_⟩
        · rintro i x σ H1 H2 hi ⟨rfl, ⟨v, rfl⟩, hin⟩ ⟨rfl, c, hc, rfl⟩
          refine ⟨_, rfl, c, _, rfl, rfl, _, rfl, ?_⟩
          rw [alph_tx]
          refine ite2 (fun e5 => ?_) (fun e5 => ?_)
          · have e6 : c ∉ alph := by simpa using e5
            have e4 : isN l = false := by
              unfold isN
              have : (l.all fun c => decide (c ∈ alph)) = false := List.all_eq_false.mpr ⟨c, mem_at hc, by simpa using e6⟩
              rw [this]
              simp
            rw [e4] at k
            exact k
          · have e6 : c ∈ alph := by simpa using e5
            refine ⟨rfl, ⟨_, rfl⟩, fun d hd => ?_⟩
            rw [take_snoc hc] at hd
            rcases List.mem_append.mp hd with h1 | h1
            · exact hin d h1
            · rw [List.mem_singleton.mp h1]
              exact e6
        · rintro σ H1 ⟨rfl, ⟨v, rfl⟩, hin⟩
          have e4 : isN l = true := by
            unfold isN
            have hs : (tx l).cps.size = l.length := tx_len l
            rw [hs, List.take_length] at hin
            have : (l.all fun c => decide (c ∈ alph)) = true := List.all_eq_true.mpr fun c hc => decide_eq_true (hin c hc)
            rw [this, decide_eq_true hne, decide_eq_true e3]
            rfl
          rw [e4] at k
          exact k
theorem ok_home (T : Tx K mg A) : FnOk P w K mg base CX0 1 A.a_home A.d_home ["name", "times", "count"] sp_home := by
  refine T.F_home.ok sc_home (fun vs H Q E h => ?_) (fun cdv Ar outer s H vs Q E hr h => ?_)
  · obtain ⟨l, t, m, rfl, _⟩ := h
    rfl
  · obtain ⟨l, t, m, rfl, hl, hm, hm2, k⟩ := h
    refine ⟨_, 
      (pss_cons (ps_if (pt_cmpR op_eq (pv 2) pe_int (nomark _)) 
        (pss_one (ps_ret pe_int)) pss_nil)
      (pss_cons (ps_set (i := 3) sc_home.nd rfl (Or.inl rfl) pe_int)
      (pss_cons (ps_for PassesOwn.never rfl (pi_str (pv 0)) (pg_name (i := 4) sc_home.nd rfl (Or.inl rfl)) 
        (pss_one (ps_set (i := 3) sc_home.nd rfl (Or.inl rfl) (pe_op op_mod (pe_op op_add (pe_op op_add (pe_op op_mul (pv 3) (pv 1)) (pe_m1 PySem.F.slot_str_index PySem.F.type_str_index mt_sindex (pe_glob (v := .str "abcdefghijklmnopqrstuvwxyz0123456789") (by rfl) T.c_SIGNS ⟨_, rfl⟩) (pv 4))) pe_int) (pv 2)))))
      (pss_one (ps_ret (pv 3)))))), ?_⟩
    refine ⟨_, rfl, rfl, _, rfl, ?_⟩
    refine ite2 (fun e => ?_) (fun _ => ?_)
    · have := V.int.inj (of_decide_eq_true e)
      omega
    refine ⟨_, rfl, _, rfl, for_it walk_str (fun i σ H' => H' = H ∧ ∃ v, σ = [some (.str (tx l)), some (.int t), some (.int m), some (.int (homeN t m (l.take i) 0)), v]) ⟨rfl, _, rfl⟩ (fun _ _ _ _ _ => trivial) ?_ ?_⟩
    · rintro i x σ H1 H2 hi ⟨rfl, v, rfl⟩ ⟨rfl, c, hc, rfl⟩
      have hb := homeN_in t m hm (l.take i) 0 (by omega) hm
      refine ⟨_, rfl, _, rfl, _, _, rfl, rfl, .inl ⟨by omega, by omega⟩, ⟨_, rfl⟩, _, rfl, _, _, idx c, [], rfl, rfl, ?_, _, _, rfl, rfl, _, _, rfl, rfl, _, rfl, _, _, rfl, rfl, hm, ?_⟩
      · rw [alph_tx]
        exact occ_at (hl c (mem_at hc))
      · refine ⟨rfl, some (.str ⟨#[c]⟩), ?_⟩
        rw [take_snoc hc, homeN_snoc]
        rfl
    · rintro σ H1 ⟨rfl, v, rfl⟩
      have hs : (tx l).cps.size = l.length := tx_len l
      rw [hs, List.take_length]
      exact ⟨_, rfl, k⟩
theorem ok__check_name (T : Tx K mg A) : FnOk P w K mg base (L2.CX P w) 2 A.a__check_name A.d__check_name ["name"] (sp__check_name A.c_NoName) := by
  refine T.F__check_name.okX sc__check_name (fun vs H Q E h => ?_) (fun cdv Ar outer s H vs Q E hr h => ?_)
  · obtain ⟨n, rfl, _⟩ := h
    rfl
  · obtain ⟨n, rfl, hl, k1, k2⟩ := h
    refine ⟨_, 
      (pss_one (ps_if (pt_not (pt_val (pe_call (ok_is_name T) hr (by rfl) T.g_is_name T.F_is_name.kp T.b_is_name .nil pass0 (pa_cons (pv 0) pa_nil)))) 
        (pss_one (ps_raise rfl (takes_of rfl rfl rfl rfl) (SkE.pmk_own1 PySem.F.excBase_ValueError T.x_NoName T.g_NoName T.kk_NoName (raises_own T.bx_NoName T.tx_NoName) (by rfl) (pe_joined (.cons (pe_fmt (pv 0)) (.cons pe_str .nil)))))) pss_nil)), ?_⟩
    refine ⟨_, rfl, n, rfl, hl, ?_⟩
    cases e : isN n with
    | true => exact ⟨_, rfl, iteF (k1 (isN_iff.mp e))⟩
    | false =>
      have hn : ¬ NameOk n := fun q => by rw [q.isN] at e; cases e
      refine ⟨_, rfl, iteT ?_⟩
      have a1 : (tx n).length ≤ 1000 := by rw [tx_len]; exact hl
      have a2 := sz sz0 a1 (by decide)
      have a3 : ((" is no name" : Str)).length ≤ 20 := by decide +kernel
      exact ⟨_, rfl, .inl ⟨_, rfl, Nat.le_of_lt (small1000 a1), _, rfl, a2.1, _, rfl, (sz a2.2 a3 (by decide)).1, k2 hn⟩⟩
theorem ok__check_value (T : Tx K mg A) : FnOk P w K mg base (L2.CX P w) 1 A.a__check_value A.d__check_value ["value"] (sp__check_value A.c_NoValue) := by
  refine T.F__check_value.okX sc__check_value (fun vs H Q E h => ?_) (fun cdv Ar outer s H vs Q E hr h => ?_)
  · obtain ⟨n, rfl, _⟩ := h
    rfl
  · obtain ⟨v, rfl, hb, k1, k2⟩ := h
    refine ⟨_, 
      (pss_one (ps_if (pt_not (pt_chain op_le op_le (pe_un un_neg (pe_glob (v := .int 1000000000) (by rfl) T.c_MOST_VALUE ⟨_, rfl⟩)) (pv 0) (pe_glob (v := .int 1000000000) (by rfl) T.c_MOST_VALUE ⟨_, rfl⟩))) 
        (pss_one (ps_raise rfl (takes_of rfl rfl rfl rfl) (SkE.pmk_own1 PySem.F.excBase_ValueError T.x_NoValue T.g_NoValue T.kk_NoValue (raises_own T.bx_NoValue T.tx_NoValue) (by rfl) (pe_joined (.cons (pe_fmt (pv 0)) (.cons pe_str .nil)))))) pss_nil)), ?_⟩
    have bad : ¬ (-1000000000 ≤ v ∧ v ≤ 1000000000) → tJs [tFmt (tVar 0), tC (V.str (Str.ofString " is no value"))] Str.empty [some (.int v)] H fun out H1 => E (.ref A.c_NoValue) none H1 := fun hn => by
      have a1 : (Str.ofString (toString v)).length ≤ 1921 := PyProof.Rows.int_text_len_1921 hb
      have a2 := sz sz0 a1 (by decide)
      have a3 : ((" is no value" : Str)).length ≤ 20 := by decide +kernel
      exact ⟨_, rfl, .inr ⟨_, rfl, hb, _, rfl, a2.1, _, rfl, (sz a2.2 a3 (by decide)).1, k2 hn⟩⟩
    refine ⟨_, rfl, _, rfl, _, _, rfl, rfl, _, rfl, ?_⟩
    refine ite2 (fun e => ?_) (fun e => ?_)
    · have e1 : -1000000000 ≤ v := of_decide_eq_true e
      refine ⟨_, _, rfl, rfl, _, rfl, ?_⟩
      by_cases e2 : v ≤ 1000000000
      · exact iteNS e2 (k1 ⟨e1, e2⟩)
      · exact iteNT e2 (bad fun z => e2 z.2)
    · have e1 : ¬ -1000000000 ≤ v := fun z => e (decide_eq_true z)
      exact ⟨_, rfl, iteT (bad fun z => e1 z.1)⟩
theorem ok_Nests__check_nest (T : Tx K mg A) : FnOk P w K mg base (L2.CX P w) 1 A.a_Nests__check_nest A.d_Nests__check_nest ["self", "nest"] (sp_Nests__check_nest A.c_Nests A.c_NoNest) := by
  refine T.F_Nests__check_nest.okX sc_Nests__check_nest (fun vs H Q E h => ?_) (fun cdv Ar outer s H vs Q E hr h => ?_)
  · obtain ⟨a, dx, d, w, q, c, t1, t2, s, rfl, _⟩ := h
    rfl
  · obtain ⟨a, dx, d, w, q, c, t1, t2, s, rfl, ha, hq, b1, b2, k1, k2⟩ := h
    refine ⟨_, 
      (pss_cons (ps_asg (pv 1) (pg_tup rfl (pgs_cons (pg_name (i := 2) sc_Nests__check_nest.nd rfl (Or.inl rfl)) (pgs_cons (pg_name (i := 3) sc_Nests__check_nest.nd rfl (Or.inl rfl)) pgs_nil))))
      (pss_one (ps_if (PW.pt (pw_or (pt_cmpR op_notIn_seq (pv 2) (pe_tup (pa_cons pe_int (pa_cons pe_int pa_nil))) rfl) (pw_or1 (pt_not (pt_chain op_le op_lt pe_int (pv 3) (pe_fld (pv 0) rfl)))))) 
        (pss_one (ps_raise rfl (takes_of rfl rfl rfl rfl) (SkE.pmk_own1 PySem.F.excBase_ValueError T.x_NoNest T.g_NoNest T.kk_NoNest (raises_own T.bx_NoNest T.tx_NoNest) (by rfl) (pe_joined (.cons pe_str (.cons (TS11.pe_fmtTI hr (pv 1)) .nil)))))) pss_nil))), ?_⟩
    have bad : ∀ (o : List (Option V)) H', Same H H' → ¬ InT c s → tJs [tC (V.str (Str.ofString "there is no nest ")), TS11.tFmtTI K (tVar 1)] Str.empty ([some (.ref a), some (.ref q)] ++ o) H' fun out H1 => E (.ref A.c_NoNest) none H1 := fun o H' S hn => by
      have a3 : ((Str.ofString "there is no nest ")).length ≤ 20 := by decide +kernel
      have a2 := sz sz0 a3 (by decide)
      refine ⟨_, rfl, a2.1, _, rfl, q, [s.1, s.2], rfl, SqT.of (S _ _ hq), (by show 2 ≤ 9; decide), fun i hi => ?_, fun m hm => ⟨m, rfl, (sz a2.2 hm (by decide)).1, k2 hn _ S⟩⟩
      rcases List.mem_cons.mp hi with z | z
      · rw [z]
        exact b1
      · rw [List.mem_singleton.mp z]
        exact b2
    refine ⟨_, rfl, q, _, rfl, SqT.of hq, rfl, ?_⟩
    refine ⟨_, _, rfl, _, _, rfl, rfl, ?_⟩
    refine ⟨_, rfl, (by show 2 ≤ sizeLine; decide), fun p hp => ?_⟩
    have S : Same H (upd H p (.tup [.int 0, .int 1])) := same_new hp
    refine ⟨p, _, rfl, .inr (SqT.of upd_same), rfl, rfl, _, rfl, ?_⟩
    have er : inV (.int s.1) [.int 0, .int 1] = decide (s.1 = 0 ∨ s.1 = 1) := by
      rw [Bool.eq_iff_iff]
      simp [inV, eqV]
      omega
    have ha2 := S _ _ ha
    by_cases h01 : s.1 = 0 ∨ s.1 = 1
    · have er2 : (!inV (.int s.1) [.int 0, .int 1]) = false := by rw [er, decide_eq_true h01]; rfl
      rw [show (if true = true then !inV (.int s.1) [.int 0, .int 1] else inV (.int s.1) [.int 0, .int 1]) = false from er2]
      refine iteF ?_
      refine ⟨_, rfl, _, _, rfl, rfl, _, rfl, ?_⟩
      refine ite2 (fun e => ?_) (fun e => ?_)
      · have e1 : 0 ≤ s.2 := of_decide_eq_true e
        refine ⟨_, rfl, a, _, dx, _, _, rfl, ha2, T.cl_Nests, T.n_Nests_count, rfl, _, _, rfl, rfl, _, rfl, ?_⟩
        by_cases e2 : s.2 < c
        · exact iteNS e2 (k1 ⟨h01, e1, e2⟩ _ S)
        · exact iteNT e2 (bad [_, _] _ S fun z => e2 z.2.2)
      · have e1 : ¬ 0 ≤ s.2 := fun z => e (decide_eq_true z)
        exact ⟨_, rfl, iteT (bad [_, _] _ S fun z => e1 z.2.1)⟩
    · have er2 : (!inV (.int s.1) [.int 0, .int 1]) = true := by rw [er, decide_eq_false h01]; rfl
      rw [show (if true = true then !inV (.int s.1) [.int 0, .int 1] else inV (.int s.1) [.int 0, .int 1]) = true from er2]
      refine iteT ?_
      exact iteT (bad [_, _] _ S fun z => h01 z.1)
end

/-! the table's own methods -/
def SmallN (n : Name) : Prop := n.length ≤ 1000
def SmallS (s : Seat) : Prop := s.1.natAbs.log2 < 1920 ∧ s.2.natAbs.log2 < 1920
def SmallI (v : Int) : Prop := v.natAbs.log2 < 1920
def VOk (v : Int) : Prop := -1000000000 ≤ v ∧ v ≤ 1000000000
def GoodC (c t1 t2 : Int) : Prop := 1 ≤ c ∧ c ≤ 1000 ∧ 1 ≤ t1 ∧ t1 ≤ 1000000 ∧ 1 ≤ t2 ∧ t2 ≤ 1000000
/-- refused: nothing is changed -/
def Ref0 (H : Hp) (E : XK) (cls : Addr) : Prop := ∀ H', Same H H' → E (.ref cls) none H'
theorem log_lt {i : Int} (h : i.natAbs < 2 ^ 1920) : i.natAbs.log2 < 1920 := by
  by_cases z : i.natAbs = 0
  · rw [z]
    decide
  · exact (Nat.log2_lt z).mpr h
theorem smallI_of {i : Int} (h1 : -(2 ^ 64) ≤ i) (h2 : i ≤ 2 ^ 64) : SmallI i := log_lt (Nat.lt_of_le_of_lt (show i.natAbs ≤ 2 ^ 64 by omega) (Nat.pow_lt_pow_right (by decide) (by decide)))
theorem InT.small {c : Int} {s : Seat} (hc : c ≤ 1000) (h : InT c s) : SmallS s := by
  obtain ⟨a, b, d⟩ := h
  exact ⟨smallI_of (by omega) (by omega), smallI_of (by omega) (by omega)⟩
theorem vOk_small {v : Int} (h : VOk v) : SmallI v := by
  obtain ⟨a, b⟩ := h
  exact smallI_of (by omega) (by omega)
theorem nameOk_small {n : Name} (h : NameOk n) : SmallN n := by
  have := h.len
  unfold SmallN
  omega
def sp_Nests_init (C CN : Addr) : Sp := fun vs H Q E => ∃ (x dx : Addr) (c t1 t2 : Int), vs = [.ref x, .int c, .int t1, .int t2] ∧ H x = some (.ins C dx []) ∧ SmallI c ∧ SmallI t1 ∧ SmallI t2 ∧
  (GoodC c t1 t2 → ∀ H' F vals, TabAt C H' x F c t1 t2 [] vals → (∀ b o, H b = some o → b ≠ x → H' b = some o) → (∀ b ∈ F, b = x ∨ H b = none) → Q .non H') ∧ (¬ GoodC c t1 t2 → Ref0 H E CN)
def sp_Nests_homes (C CM : Addr) : Sp := fun vs H Q E => ∃ (a dx d w : Addr) (c t1 t2 : Int) (n : Name), vs = [.ref a, .str (tx n)] ∧ H a = some (.ins C dx (flds c t1 t2 d w)) ∧ 1 ≤ c ∧ c ≤ 1000 ∧ SmallN n ∧
  (NameOk n → ∀ H' p qa qb, Same H H' → H p = none → H' p = some (.tup [.ref qa, .ref qb]) → H' qa = some (.tup (sv (seatP (hmN c t1 t2 n) 0))) → H' qb = some (.tup (sv (seatP (hmN c t1 t2 n) 1))) → Q (.ref p) H') ∧ (¬ NameOk n → Ref0 H E CM)
def sp_Nests_at (C CN : Addr) : Sp := fun vs H Q E => ∃ (a q : Addr) (F : List Addr) (c t1 t2 : Int) (L : Held) (vals : Name → Int) (s : Seat), vs = [.ref a, .ref q] ∧ TabAt C H a F c t1 t2 L vals ∧ H q = some (.tup (sv s)) ∧ SmallS s ∧
  (InT c s → ∀ H', Same H H' → Q (vAt L s) H') ∧ (¬ InT c s → Ref0 H E CN)
def sp_Nests_way (C CN : Addr) : Sp := fun vs H Q E => ∃ (a q : Addr) (F : List Addr) (c t1 t2 : Int) (L : Held) (vals : Name → Int) (s : Seat), vs = [.ref a, .ref q] ∧ TabAt C H a F c t1 t2 L vals ∧ H q = some (.tup (sv s)) ∧ SmallS s ∧ L.length ≤ 900 ∧
  (InT c s → ∀ H' p (M : List (Addr × Seat)), Same H H' → H p = none → H' p = some (.lst (refs M)) → TupsAt H' M → IsWay (nxN (hmN c t1 t2) (getN L)) s (M.map (·.2)) → Q (.ref p) H') ∧ (¬ InT c s → Ref0 H E CN)
def sp_Nests_names (C : Addr) : Sp := fun vs H Q _ => ∃ (a : Addr) (F : List Addr) (c t1 t2 : Int) (L : Held) (vals : Name → Int), vs = [.ref a] ∧ TabAt C H a F c t1 t2 L vals ∧ L.length ≤ 900 ∧
  ∀ H' p (S : List Seat), Same H H' → H p = none → H' p = some (.lst (vNames L S)) → S.Pairwise LtS → (∀ s, s ∈ S ↔ s ∈ L.map (·.1)) → Q (.ref p) H'
def sp_Nests_many (C : Addr) : Sp := fun vs H Q _ => ∃ (a : Addr) (F : List Addr) (c t1 t2 : Int) (L : Held) (vals : Name → Int), vs = [.ref a] ∧ TabAt C H a F c t1 t2 L vals ∧ ∀ H', Same H H' → Q (.int L.length) H'
def sp_Nests__stand (C : Addr) : Sp := fun vs H Q _ => ∃ (a q dx d w : Addr) (c t1 t2 : Int) (m : Nat) (f : Seat → Option Name) (g : Thg) (L : Held) (kv : List (Key × V)) (n : Name) (v : Int) (s : Seat), vs = [.ref a, .str (tx n), .int v, .ref q] ∧ Raw C H a dx d w c t1 t2 m f g L kv ∧ m ≤ 900 ∧ H q = some (.tup (sv s)) ∧
  ∀ H' L' kv', Raw C H' a dx d w c t1 t2 (m + 1) (fun t => if t = s then some n else f t) (fun k => if k = n then some (s, v) else g k) L' kv' → KeepF [a, d, w] H H' → Q .non H'
def sp_Nests__other_home (C : Addr) : Sp := fun vs H Q _ => ∃ (a q dx d w : Addr) (c t1 t2 : Int) (L : Held) (n : Name) (s : Seat), vs = [.ref a, .ref q] ∧ H a = some (.ins C dx (flds c t1 t2 d w)) ∧ H d = some (.dT (hk L)) ∧ 1 ≤ c ∧ c ≤ 1000 ∧ H q = some (.tup (sv s)) ∧ (s.1 = 0 ∨ s.1 = 1) ∧ getN L s = some n ∧ NameOk n ∧
  ∀ H' p, Same H H' → H' p = some (.tup (sv (seatP (hmN c t1 t2 n) (1 - s.1)))) → Q (.ref p) H'
section
variable {P : Program} {w : World} {K : PySem.W.Frag} {mg : Str → Option Value} {base : Heap} {A : Ad}
theorem ok_Nests_init (T : Tx K mg A) : FnOk P w K mg base (L2.CX P w) 1 A.a_Nests_init A.d_Nests_init ["self", "count", "first", "second"] (sp_Nests_init A.c_Nests A.c_NoNests) := by
  refine T.F_Nests_init.okX sc_Nests_init (fun vs H Q E h => ?_) (fun cdv Ar outer s H vs Q E hr h => ?_)
  · obtain ⟨x, dx, c, t1, t2, rfl, _⟩ := h
    rfl
  · obtain ⟨x, dx, c, t1, t2, rfl, hx, b0, b1, b2, k1, k2⟩ := h
    refine ⟨_, 
      (pss_cons (ps_if (pt_not (pt_chain op_le op_le pe_int (pv 1) (pe_glob (v := .int 1000) (by rfl) T.c_MOST_NESTS ⟨_, rfl⟩))) 
        (pss_one (ps_raise rfl (takes_of rfl rfl rfl rfl) (SkE.pmk_own1 PySem.F.excBase_ValueError T.x_NoNests T.g_NoNests T.kk_NoNests (raises_own T.bx_NoNests T.tx_NoNests) (by rfl) (pe_joined (.cons pe_str (.cons (pe_fmt (pv 1)) (.cons pe_str .nil))))))) pss_nil)
      (pss_cons (ps_for (passes_of rfl) rfl (pi_tup (pe_tup (pa_cons (pv 2) (pa_cons (pv 3) pa_nil)))) (pg_name (i := 4) sc_Nests_init.nd rfl (Or.inl rfl)) 
        (pss_one (ps_if (pt_not (pt_chain op_le op_le pe_int (pv 4) (pe_glob (v := .int 1000000) (by rfl) T.c_MOST_TIMES ⟨_, rfl⟩))) 
          (pss_one (ps_raise rfl (takes_of rfl rfl rfl rfl) (SkE.pmk_own1 PySem.F.excBase_ValueError T.x_NoNests T.g_NoNests T.kk_NoNests (raises_own T.bx_NoNests T.tx_NoNests) (by rfl) (pe_joined (.cons pe_str (.cons (pe_fmt (pv 4)) .nil)))))) pss_nil)))
      (pss_cons (ps_fld (pv 0) (pv 1) rfl)
      (pss_cons (ps_fld (pv 0) (pv 2) rfl)
      (pss_cons (ps_fld (pv 0) (pv 3) rfl)
      (pss_cons (ps_fld (pv 0) pe_dnewT rfl)
      (pss_one (ps_fld (pv 0) pe_dnewK rfl)))))))), ?_⟩
    have badc : ∀ (σ : List (Option V)) H', Same H H' → ¬ GoodC c t1 t2 → tJs [tC (V.str (Str.ofString "no table has ")), tFmt (tVar 1), tC (V.str (Str.ofString " nests in a row"))] Str.empty ([some (.ref x), some (.int c)] ++ σ) H' fun out H1 => E (.ref A.c_NoNests) none H1 := fun σ H' S hn => by
      have a1 : (Str.ofString (toString c)).length ≤ 1921 := PyProof.Rows.int_text_len_1921 b0
      have a0 : ((Str.ofString "no table has ")).length ≤ 20 := by decide +kernel
      have a3 : ((Str.ofString " nests in a row")).length ≤ 20 := by decide +kernel
      have q1 := sz sz0 a0 (by decide)
      have q2 := sz q1.2 a1 (by decide)
      exact ⟨_, rfl, q1.1, _, rfl, .inr ⟨_, rfl, b0, _, rfl, q2.1, _, rfl, (sz q2.2 a3 (by decide)).1, k2 hn _ S⟩⟩
    have badt : ∀ (σ : List (Option V)) (t : Int) H', Same H H' → SmallI t → σ[4]? = some (some (V.int t)) → ¬ GoodC c t1 t2 → tJs [tC (V.str (Str.ofString "no table has the multiplier ")), tFmt (tVar 4)] Str.empty σ H' fun out H1 => E (.ref A.c_NoNests) none H1 := fun σ t H' S bt e hn => by
      have a1 : (Str.ofString (toString t)).length ≤ 1921 := PyProof.Rows.int_text_len_1921 bt
      have a0 : ((Str.ofString "no table has the multiplier ")).length ≤ 40 := by decide +kernel
      have q1 := sz sz0 a0 (by decide)
      exact ⟨_, rfl, q1.1, _, e, .inr ⟨_, rfl, bt, _, rfl, (sz q1.2 a1 (by decide)).1, k2 hn _ S⟩⟩
    refine ⟨_, rfl, _, _, rfl, rfl, _, rfl, ?_⟩
    refine ite2 (fun e => ?_) (fun e => ?_)
    rotate_left
    · have e1 : ¬ 1 ≤ c := fun z => e (decide_eq_true z)
      exact ⟨_, rfl, iteT (badc _ _ (Same.refl _) fun z => e1 z.1)⟩
    have c0 : 1 ≤ c := of_decide_eq_true e
    refine ⟨_, _, rfl, rfl, _, rfl, ?_⟩
    by_cases c1 : c ≤ 1000
    rotate_left
    · exact iteNT c1 (badc _ _ (Same.refl _) fun z => c1 z.2.1)
    refine iteNS c1 ?_
    refine ⟨_, rfl, _, rfl, (by show 2 ≤ sizeLine; decide), fun p hp => ?_⟩
    have S : Same H (upd H p (.tup [.int t1, .int t2])) := same_new hp
    refine ⟨p, rfl, ⟨_, SqT.of upd_same⟩, for_it walk_tup (fun i σ H' => H' = upd H p (.tup [.int t1, .int t2]) ∧ (∃ o, σ = [some (.ref x), some (.int c), some (.int t1), some (.int t2), o]) ∧ (1 ≤ i → 1 ≤ t1 ∧ t1 ≤ 1000000) ∧ (2 ≤ i → 1 ≤ t2 ∧ t2 ≤ 1000000)) ⟨rfl, ⟨_, rfl⟩, fun z => absurd z (by decide), fun z => absurd z (by decide)⟩ (fun i σ H' _ h => by rw [h.1]; exact SqT.of upd_same) ?_ ?_⟩
    · rintro i y σ H1 H2 hi ⟨rfl, ⟨o, rfl⟩, g1, g2⟩ ⟨rfl, hy⟩
      have i01 : i = 0 ∨ i = 1 := by
        have : i < 2 := hi
        omega
      rcases i01 with rfl | rfl
      · cases Option.some.inj hy
        refine ⟨_, rfl, _, _, rfl, rfl, _, rfl, ?_⟩
        refine ite2 (fun e => ?_) (fun e => ?_)
        rotate_left
        · have e1 : ¬ 1 ≤ t1 := fun z => e (decide_eq_true z)
          exact ⟨_, rfl, iteT (badt _ t1 _ S b1 rfl fun z => e1 z.2.2.1)⟩
        have e1 : 1 ≤ t1 := of_decide_eq_true e
        refine ⟨_, _, rfl, rfl, _, rfl, ?_⟩
        by_cases e2 : t1 ≤ 1000000
        rotate_left
        · exact iteNT e2 (badt _ t1 _ S b1 rfl fun z => e2 z.2.2.2.1)
        exact iteNS e2 ⟨rfl, ⟨_, rfl⟩, fun _ => ⟨e1, e2⟩, fun z => absurd z (by decide)⟩
      · cases Option.some.inj hy
        refine ⟨_, rfl, _, _, rfl, rfl, _, rfl, ?_⟩
        refine ite2 (fun e => ?_) (fun e => ?_)
        rotate_left
        · have e1 : ¬ 1 ≤ t2 := fun z => e (decide_eq_true z)
          exact ⟨_, rfl, iteT (badt _ t2 _ S b2 rfl fun z => e1 z.2.2.2.2.1)⟩
        have e1 : 1 ≤ t2 := of_decide_eq_true e
        refine ⟨_, _, rfl, rfl, _, rfl, ?_⟩
        by_cases e2 : t2 ≤ 1000000
        rotate_left
        · exact iteNT e2 (badt _ t2 _ S b2 rfl fun z => e2 z.2.2.2.2.2)
        exact iteNS e2 ⟨rfl, ⟨_, rfl⟩, fun _ => g1 (Nat.le_refl _), fun _ => ⟨e1, e2⟩⟩
    · rintro σ H1 ⟨rfl, ⟨o, rfl⟩, g1, g2⟩
      have ga := g1 (by show 1 ≤ 2; decide)
      have gb := g2 (by show 2 ≤ 2; decide)
      refine ⟨_, rfl, _, rfl, x, _, dx, _, rfl, S _ _ hx, T.cl_Nests, T.n_Nests_count, (by show 0 < 1000; decide), ?_⟩
      refine ⟨_, rfl, _, rfl, x, _, dx, _, rfl, upd_same, T.cl_Nests, T.n_Nests_first, (by show 1 < 1000; decide), ?_⟩
      rw [upd_upd]
      refine ⟨_, rfl, _, rfl, x, _, dx, _, rfl, upd_same, T.cl_Nests, T.n_Nests_second, (by show 2 < 1000; decide), ?_⟩
      rw [upd_upd]
      refine fun d hd => ⟨_, rfl, x, _, dx, _, rfl, (upd_ne (ne_of_none upd_same hd)).trans upd_same, T.cl_Nests, T.n_Nests__names, (by show 3 < 1000; decide), ?_⟩
      refine fun w hw => ⟨_, rfl, x, _, dx, _, rfl, (upd_ne (ne_of_none upd_same hw)).trans upd_same, T.cl_Nests, T.n_Nests__things, (by show 4 < 1000; decide), ?_⟩
      generalize hG : upd (upd H p (HO.tup [V.int t1, V.int t2])) x (HO.ins A.c_Nests dx (putF (Str.ofString "second") (V.int t2) (putF (Str.ofString "first") (V.int t1) (putF (Str.ofString "count") (V.int c) [])))) = G at hd hw ⊢
      have hGx : G x = some (HO.ins A.c_Nests dx (putF (Str.ofString "second") (V.int t2) (putF (Str.ofString "first") (V.int t1) (putF (Str.ofString "count") (V.int c) [])))) := by rw [← hG]; exact upd_same
      have ndx : d ≠ x := fun z => by rw [z, hGx] at hd; cases hd
      have hwx : w ≠ x := fun z => by rw [z, upd_same] at hw; cases hw
      have hwd : w ≠ d := fun z => by rw [z, upd_ne ndx, upd_same] at hw; cases hw
      have hGn : ∀ b, b ≠ x → G b = none → H b = none := fun b n e => by
        rw [← hG, upd_ne n] at e
        exact S.free e
      have hd0 := hGn d ndx hd
      have hw0 : H w = none := hGn w hwx (by rw [upd_ne hwx, upd_ne hwd] at hw; exact hw)
      refine k1 ⟨c0, c1, ga.1, ga.2, gb.1, gb.2⟩ _ [x, d, w] (fun _ => 0) ⟨GoodT.nil c0 c1 ga.1 ga.2 gb.1 gb.2, dx, d, w, [], [], rfl, ⟨upd_same, ?_, List.nodup_nil, fun _ => rfl, Nat.zero_le _, ?_, TH.nil, Nat.zero_le _⟩⟩ (fun b o e n => ?_) fun b hb => ?_
      · rw [upd_ne ndx, upd_ne hwd.symm, upd_ne ndx, upd_same]
        rfl
      · rw [upd_ne hwx, upd_same]
      · have e1 : b ≠ d := ne_of_none e hd0
        have e2 : b ≠ w := ne_of_none e hw0
        rw [upd_ne n, upd_ne e2, upd_ne n, upd_ne e1, ← hG, upd_ne n]
        exact S _ _ e
      · rcases List.mem_cons.mp hb with z | hb
        · exact .inl z
        · rcases List.mem_cons.mp hb with z | hb
          · exact .inr (z ▸ hd0)
          · exact .inr ((List.mem_singleton.mp hb) ▸ hw0)
theorem ok_Nests_homes (T : Tx K mg A) : FnOk P w K mg base (L2.CX P w) 3 A.a_Nests_homes A.d_Nests_homes ["self", "name"] (sp_Nests_homes A.c_Nests A.c_NoName) := by
  refine T.F_Nests_homes.okX sc_Nests_homes (fun vs H Q E h => ?_) (fun cdv Ar outer s H vs Q E hr h => ?_)
  · obtain ⟨a, dx, d, w, c, t1, t2, n, rfl, _⟩ := h
    rfl
  · obtain ⟨a, dx, d, w, c, t1, t2, n, rfl, ha, c0, c1, hn, k1, k2⟩ := h
    refine ⟨_, 
      (pss_cons (ps_expr (pe_call (ok__check_name T) hr (by rfl) T.g__check_name T.F__check_name.kp T.b__check_name .nil (passes_call (takes_of rfl rfl rfl rfl) (fun _ _ _ _ h => h)) (pa_cons (pv 1) pa_nil)))
      (pss_one (ps_ret (pe_tup (pa_cons (pe_tup (pa_cons pe_int (pa_cons (pe_call (ok_home T) (hr.mono (by decide)) (by rfl) T.g_home T.F_home.kp T.b_home .nil pass0 (pa_cons (pv 1) (pa_cons (pe_fld (pv 0) rfl) (pa_cons (pe_fld (pv 0) rfl) pa_nil)))) pa_nil))) (pa_cons (pe_tup (pa_cons pe_int (pa_cons (pe_call (ok_home T) (hr.mono (by decide)) (by rfl) T.g_home T.F_home.kp T.b_home .nil pass0 (pa_cons (pv 1) (pa_cons (pe_fld (pv 0) rfl) (pa_cons (pe_fld (pv 0) rfl) pa_nil)))) pa_nil))) pa_nil)))))), ?_⟩
    refine ⟨_, rfl, n, rfl, hn, fun ho => ?_, fun ho => k2 ho _ (Same.refl _)⟩
    have hin := hmN_in (t1 := t1) (t2 := t2) (show 0 < c by omega) n
    refine ⟨_, rfl, _, rfl, a, _, dx, _, _, rfl, ha, T.cl_Nests, T.n_Nests_first, rfl, _, rfl, a, _, dx, _, _, rfl, ha, T.cl_Nests, T.n_Nests_count, rfl, n, t1, c, rfl, ho.al, by omega, by omega, (by show 2 ≤ sizeLine; decide), fun qa hqa => ?_⟩
    have S1 : Same H (upd H qa (.tup [.int 0, .int (homeN t1 c n 0)])) := same_new hqa
    have ha1 := S1 _ _ ha
    refine ⟨_, rfl, _, rfl, a, _, dx, _, _, rfl, ha1, T.cl_Nests, T.n_Nests_second, rfl, _, rfl, a, _, dx, _, _, rfl, ha1, T.cl_Nests, T.n_Nests_count, rfl, n, t2, c, rfl, ho.al, by omega, by omega, (by show 2 ≤ sizeLine; decide), fun qb hqb => ?_⟩
    have S2 := same_new (o := .tup [.int 1, .int (homeN t2 c n 0)]) hqb
    refine ⟨(by show 2 ≤ sizeLine; decide), fun p hp => ?_⟩
    have S3 := same_new (o := .tup [V.ref qa, V.ref qb]) hp
    have hp0 : H p = none := S1.free (S2.free hp)
    exact k1 ho _ p qa qb (S1.trans (S2.trans S3)) hp0 upd_same (S3 _ _ (S2 _ _ upd_same)) (S3 _ _ upd_same)
theorem ok_Nests__stand (T : Tx K mg A) : FnOk P w K mg base CX0 1 A.a_Nests__stand A.d_Nests__stand ["self", "name", "value", "nest"] (sp_Nests__stand A.c_Nests) := by
  refine T.F_Nests__stand.ok sc_Nests__stand (fun vs H Q E h => ?_) (fun cdv Ar outer s H vs Q E hr h => ?_)
  · obtain ⟨a, q, dx, d, w, c, t1, t2, m, f, g, L, kv, n, v, s, rfl, _⟩ := h
    rfl
  · obtain ⟨a, q, dx, d, w, c, t1, t2, m, f, g, L, kv, n, v, s, rfl, R, hm, hq, k⟩ := h
    refine ⟨_, 
      (pss_cons (ps_dput (hu_of hr) (pe_fld (pv 0) rfl) (pv 3) (pv 1) rfl)
      (pss_one (ps_dput (hu_of hr) (pe_fld (pv 0) rfl) (pv 1) (pe_tup (pa_cons (pv 3) (pa_cons (pv 2) pa_nil))) rfl))), ?_⟩
    refine ⟨_, rfl, _, rfl, a, _, dx, _, _, rfl, R.ins, T.cl_Nests, T.n_Nests__names, rfl, _, rfl, d, _, rfl, DPut.t (k := sk s) R.nms hq (small1000 (by rw [hk_len]; have := R.len; omega)), ?_⟩
    have tup : ∀ b ys, H b = some (.tup ys) → (upd H d (.dT (putK (hk L) (sk s) (.str (tx n))))) b = some (.tup ys) := fun b ys e => by
      rw [upd_ne (ne_of e R.nms (by intro z; cases z))]
      exact e
    have hins : (upd H d (.dT (putK (hk L) (sk s) (.str (tx n))))) a = _ := (upd_ne R.nad).trans R.ins
    refine ⟨_, rfl, _, rfl, (by show 2 ≤ sizeLine; decide), fun t ht => ?_⟩
    have St := same_new (o := .tup [V.ref q, V.int v]) ht
    refine ⟨_, rfl, a, _, dx, _, _, rfl, St _ _ hins, T.cl_Nests, T.n_Nests__things, rfl, _, rfl, w, _, rfl, DPut.k (k := .inr (tx n)) (St _ _ ((upd_ne R.ndw.symm).trans R.ths)) (small1000 (by have := R.len2; omega)), ?_⟩
    have tup2 : ∀ b ys, (upd (upd H d (.dT (putK (hk L) (sk s) (.str (tx n))))) t (.tup [V.ref q, V.int v])) b = some (.tup ys) → (upd (upd (upd H d (.dT (putK (hk L) (sk s) (.str (tx n))))) t (.tup [V.ref q, V.int v])) w (.dK (putK kv (.inr (tx n)) (.ref t)))) b = some (.tup ys) := fun b ys e => by
      rw [upd_ne (ne_of e (St _ _ ((upd_ne R.ndw.symm).trans R.ths)) (by intro z; cases z))]
      exact e
    have ths2 := (R.th.keep tup).keep fun b ys e => St _ _ e
    refine k _ (putN L s n) (putK kv (.inr (tx n)) (.ref t)) ⟨?_, ?_, putN_keys s n R.nd, fun u => ?_, ?_, upd_same, ?_, ?_⟩ fun b o hb e => ?_
    · rw [upd_ne R.naw]
      exact St _ _ hins
    · rw [upd_ne R.ndw, ← hk_putN]
      exact St _ _ upd_same
    · rw [getN_putN, R.f]
    · exact Nat.le_trans (putN_len L s n) (Nat.succ_le_succ R.len)
    · exact (ths2.put (n := n) (s := s) (v := v) (t := t) (q := q) upd_same (St _ _ (tup _ _ hq))).keep tup2
    · have := length_putK kv (.inr (tx n)) (V.ref t)
      have := R.len2
      omega
    · have e1 : b ≠ d := fun z => hb (by simp [z])
      have e2 : b ≠ w := fun z => hb (by simp [z])
      rw [upd_ne e2]
      refine St _ _ ?_
      rw [upd_ne e1]
      exact e
end

section
variable {P : Program} {w : World} {K : PySem.W.Frag} {mg : Str → Option Value} {base : Heap} {A : Ad}
theorem ok_Nests__other_home (T : Tx K mg A) : FnOk P w K mg base CX0 4 A.a_Nests__other_home A.d_Nests__other_home ["self", "nest"] (sp_Nests__other_home A.c_Nests) := by
  refine T.F_Nests__other_home.ok sc_Nests__other_home (fun vs H Q E h => ?_) (fun cdv Ar outer s H vs Q E hr h => ?_)
  · obtain ⟨a, q, dx, d, w, c, t1, t2, L, n, s, rfl, _⟩ := h
    rfl
  · obtain ⟨a, q, dx, d, w, c, t1, t2, L, n, s, rfl, ha, hd, c0, c1, hq, h01, hn, ho, k⟩ := h
    refine ⟨_, 
      (pss_one (ps_ret (pe_ix (r := rIxT K) ix_tup (pe_meth (pv 0) T.cl_Nests T.m_Nests_homes (ok_Nests_homes T) hr T.b_Nests_homes .nil TB.passF (pa_cons (pe_dget (hu_of hr) (pe_fld (pv 0) rfl) (pv 1) (fun _ _ => rfl)) pa_nil)) (pe_op op_sub pe_int (pe_ix (r := rIxT K) ix_tup (pv 1) pe_int (fun _ _ => rfl))) (fun _ _ => rfl)))), ?_⟩
    have eD : DGet H d (.ref q) (some (.str (tx n))) := hk_some hn ▸ DGet.t hd (k := sk s) hq
    refine ⟨_, rfl, a, dx, _, rfl, ha, flds_no (by decide +kernel), _, rfl, a, _, dx, _, _, rfl, ha, T.cl_Nests, T.n_Nests__names, rfl, _, rfl, d, _, rfl, eD, ?_⟩
    refine ⟨a, dx, d, w, c, t1, t2, n, rfl, ha, c0, c1, nameOk_small ho, fun _ H1 p qa qb S hp h1 h2 h3 => ?_, fun z => (z ho).elim⟩
    have hq1 := S _ _ hq
    refine ⟨_, rfl, q, _, _, _, rfl, rfl, SqT.of hq1, atI_nat (j := 0) rfl, _, _, rfl, rfl, ?_⟩
    rcases h01 with z | z
    · refine ⟨p, _, _, .ref qb, rfl, rfl, SqT.of h1, ?_, k _ _ S ?_⟩
      · rw [z]
        exact atI_nat (j := 1) rfl
      · rw [z]
        exact h3
    · refine ⟨p, _, _, .ref qa, rfl, rfl, SqT.of h1, ?_, k _ _ S ?_⟩
      · rw [z]
        exact atI_nat (j := 0) rfl
      · rw [z]
        exact h2
theorem ok_Nests_at (T : Tx K mg A) : FnOk P w K mg base (L2.CX P w) 2 A.a_Nests_at A.d_Nests_at ["self", "nest"] (sp_Nests_at A.c_Nests A.c_NoNest) := by
  refine T.F_Nests_at.okX sc_Nests_at (fun vs H Q E h => ?_) (fun cdv Ar outer s H vs Q E hr h => ?_)
  · obtain ⟨a, q, F, c, t1, t2, L, vals, s, rfl, _⟩ := h
    rfl
  · obtain ⟨a, q, F, c, t1, t2, L, vals, s, rfl, ⟨gd, dx, d, w, M, kv, rfl, R⟩, hq, hs, k1, k2⟩ := h
    refine ⟨_, 
      (pss_cons (ps_expr (pe_meth (pv 0) T.cl_Nests T.m_Nests__check_nest (ok_Nests__check_nest T) hr T.b_Nests__check_nest .nil (passes_call (takes_of rfl rfl rfl rfl) (fun _ _ _ _ h => h)) (pa_cons (pv 1) pa_nil)))
      (pss_one (ps_ret (pe_dget1 (hu_of hr) (pe_fld (pv 0) rfl) (pv 1) ⟨by rfl, by rfl, by rfl, by rfl⟩)))), ?_⟩
    refine ⟨_, rfl, a, dx, _, rfl, R.ins, flds_no (by decide +kernel), _, rfl, a, dx, d, w, q, c, t1, t2, s, rfl, R.ins, hq, hs.1, hs.2, fun hi H1 S => ?_, fun hi H1 S => k2 hi _ S⟩
    have R1 := R.same S
    refine ⟨_, rfl, a, _, dx, _, _, rfl, R1.ins, T.cl_Nests, T.n_Nests__names, rfl, d, rfl, .inr ⟨_, .inl R1.nms⟩, _, rfl, _, DGet.t R1.nms (k := sk s) (S _ _ hq), ?_⟩
    rw [hk_val, R.f]
    have e : (Option.map (fun n => V.str (tx n)) (getN L s)).getD .non = vAt L s := by
      unfold vAt
      cases getN L s <;> rfl
    rw [e]
    exact k1 hi _ S
theorem ok_Nests_way (T : Tx K mg A) : FnOk P w K mg base (L2.CX P w) 5 A.a_Nests_way A.d_Nests_way ["self", "nest"] (sp_Nests_way A.c_Nests A.c_NoNest) := by
  refine T.F_Nests_way.okX sc_Nests_way (fun vs H Q E h => ?_) (fun cdv Ar outer s H vs Q E hr h => ?_)
  · obtain ⟨a, q, F, c, t1, t2, L, vals, s, rfl, _⟩ := h
    rfl
  · obtain ⟨a, q, F, c, t1, t2, L, vals, s0, rfl, ⟨gd, dx, d, w, M0, kv, rfl, R⟩, hq, hs, hll, k1, k2⟩ := h
    refine ⟨_, 
      (pss_cons (ps_expr (pe_meth (pv 0) T.cl_Nests T.m_Nests__check_nest (ok_Nests__check_nest T) (hr.mono (by decide)) T.b_Nests__check_nest .nil (passes_call (takes_of rfl rfl rfl rfl) (fun _ _ _ _ h => h)) (pa_cons (pv 1) pa_nil)))
      (pss_cons (ps_set (i := 2) sc_Nests_way.nd rfl (Or.inl rfl) (pe_lst (pa_cons (pv 1) pa_nil)))
      (pss_cons (ps_while (passes_of rfl) (pt_cmp (pc_din (hu_of hr) (pe_ix (r := rIxL K) ix_list (pv 2) (pe_un un_neg pe_int) (fun _ _ => rfl)) (pe_fld (pv 0) rfl))) 
        (pss_cons (ps_set (i := 3) sc_Nests_way.nd rfl (Or.inl rfl) (pe_meth (pv 0) T.cl_Nests T.m_Nests__other_home (ok_Nests__other_home T) hr T.b_Nests__other_home .nil pass0 (pa_cons (pe_ix (r := rIxL K) ix_list (pv 2) (pe_un un_neg pe_int) (fun _ _ => rfl)) pa_nil)))
        (pss_cons (ps_if (pt_cmpR (op_inD (TB.hu65 hr)) (pv 3) (pv 2) rfl) 
          (pss_one ps_break) pss_nil)
        (pss_one (ps_expr (pe_bm PySem.F.plainAttrs_list PySem.F.slot_list_append PySem.F.type_list_append mt_append (pv 2) (pa_cons (pv 3) pa_nil)))))))
      (pss_one (ps_ret (pv 2)))))), ?_⟩
    refine ⟨_, rfl, a, dx, _, rfl, R.ins, flds_no (by decide +kernel), _, rfl, a, dx, d, w, q, c, t1, t2, s0, rfl, R.ins, hq, hs.1, hs.2, fun hi H1 S => ?_, fun hi H1 S => k2 hi _ S⟩
    refine ⟨_, rfl, (by show 1 ≤ sizeLine; decide), fun wa hw => ?_⟩
    have hw0 : H wa = none := S.free hw
    have S1 : Same H (upd H1 wa (.lst [.ref q])) := S.trans (same_new hw)
    refine ⟨fun m σ H2 => ∃ (M : List (Addr × Seat)) (x : Seat) (o : Option V), σ = [some (.ref a), some (.ref q), some (.ref wa), o] ∧ Same H H2 ∧ H2 wa = some (.lst (refs M)) ∧ TupsAt H2 M ∧ Chain (nxN (hmN c t1 t2) (getN L)) s0 (M.map (·.2)) ∧ (M.map (·.2)).getLast? = some x ∧ (x.1 = 0 ∨ x.1 = 1) ∧ m + M.length = 1000,
      ⟨999, [(q, s0)], s0, none, rfl, S1, upd_same, fun p hp => ?_, Chain.one _ _, rfl, hi.1, rfl⟩, ?_⟩
    · cases List.mem_singleton.mp hp
      exact S1 _ _ hq
    rintro m σ H2 ⟨M, x, o, rfl, SH, hW, hT, ch, hlast, hx, hm1⟩
    have hlen := way_len ch
    rw [List.length_map] at hlen
    obtain ⟨y, hy⟩ : ∃ y, M.getLast? = some y := by
      cases M with
      | nil => exact absurd rfl ch.ne
      | cons p r => exact ⟨_, List.getLast?_eq_some_getLast (List.cons_ne_nil p r)⟩
    have hyx : y.2 = x := by
      rw [List.getLast?_map, hy] at hlast
      exact Option.some.inj hlast
    have hyv : (refs M).getLast? = some (.ref y.1) := by
      show (M.map fun p => V.ref p.1).getLast? = _
      rw [List.getLast?_map, hy]
      rfl
    have hyt : H2 y.1 = some (.tup (sv x)) := hyx ▸ hT y (List.mem_of_getLast? hy)
    have R2 := R.same SH
    refine ⟨_, rfl, _, rfl, wa, _, _, _, rfl, rfl, SqL.of hW, atI_end hyv, _, rfl, a, _, dx, _, _, rfl, R2.ins, T.cl_Nests, T.n_Nests__names, rfl, d, _, rfl, DGet.t R2.nms (k := sk x) hyt, _, rfl, ?_⟩
    rw [hk_val, R.f]
    cases e : getN L x with
    | none =>
      refine iteF ?_
      refine ⟨_, rfl, k1 hi H2 wa M SH hw0 hW hT ⟨ch, fun y z hy hz => ?_⟩⟩
      rw [hlast] at hy
      cases hy
      unfold nxN at hz
      rw [e] at hz
      cases hz
    | some n =>
      refine iteT ?_
      have hu : nxN (hmN c t1 t2) (getN L) x = some (seatP (hmN c t1 t2 n) (1 - x.1)) := by unfold nxN; rw [e]; rfl
      have eM : getN M0 x = some n := (R.f x).trans e
      refine ⟨fun σ' H' => ∃ m', m' < m ∧ ∃ (M : List (Addr × Seat)) (x : Seat) (o : Option V), σ' = [some (.ref a), some (.ref q), some (.ref wa), o] ∧ Same H H' ∧ H' wa = some (.lst (refs M)) ∧ TupsAt H' M ∧ Chain (nxN (hmN c t1 t2) (getN L)) s0 (M.map (·.2)) ∧ (M.map (·.2)).getLast? = some x ∧ (x.1 = 0 ∨ x.1 = 1) ∧ m' + M.length = 1000, fun σ' H' h => h, ?_⟩
      refine ⟨_, rfl, a, dx, _, rfl, R2.ins, flds_no (by decide +kernel), _, rfl, _, rfl, wa, _, _, _, rfl, rfl, SqL.of hW, atI_end hyv, a, y.1, dx, d, w, c, t1, t2, M0, n, x, rfl, R2.ins, R2.nms, gd.c0, gd.c1, hyt, hx, eM, gd.ok _ (getN_mem e), fun H3 p S3 hp => ?_⟩
      have SH3 := SH.trans S3
      have hW3 := S3 _ _ hW
      have hT3 := hT.same S3
      refine ⟨_, rfl, _, rfl, dS (seatP (hmN c t1 t2 n) (1 - x.1)), dSs (M.map (·.2)), dp_seat (SqT.of hp), dp_seats (SqL.of hW3) hT3, shaped_seat _, shaped_seats _, _, rfl, ?_⟩
      rw [any_seats]
      by_cases hin : seatP (hmN c t1 t2 n) (1 - x.1) ∈ M.map (·.2)
      · rw [decide_eq_true hin]
        refine iteT ?_
        refine ⟨_, rfl, k1 hi H3 wa M SH3 hw0 hW3 hT3 ⟨ch, fun y z hy hz => ?_⟩⟩
        rw [hlast] at hy
        cases hy
        rw [hu] at hz
        cases hz
        exact hin
      · rw [decide_eq_false hin]
        refine iteF ?_
        have ch2 : Chain (nxN (hmN c t1 t2) (getN L)) s0 ((M ++ [(p, seatP (hmN c t1 t2 n) (1 - x.1))]).map (·.2)) := by
          rw [List.map_append]
          exact ch.more hlast hu hin
        refine ⟨_, rfl, .inl ⟨rfl, _, SqL.of hW3⟩, _, rfl, wa, _, _, rfl, rfl, hW3, (by rw [List.length_map]; exact small1000 (by omega)), ?_⟩
        have tup : ∀ b ys, H3 b = some (.tup ys) → (upd H3 wa (.lst (refs M ++ [.ref p]))) b = some (.tup ys) := fun b ys hb => by
          rw [upd_ne (ne_of hb hW3 (by intro z; cases z))]
          exact hb
        refine ⟨m - 1, by omega, M ++ [(p, seatP (hmN c t1 t2 n) (1 - x.1))], seatP (hmN c t1 t2 n) (1 - x.1), some (.ref p), rfl, same_mut SH3 hw0, ?_, fun b hb => ?_, ch2, ?_, ?_, ?_⟩
        · rw [upd_same]
          exact congrArg (fun z => some (HO.lst z)) (List.map_append (l₁ := M) (l₂ := [(p, seatP (hmN c t1 t2 n) (1 - x.1))]) (f := fun p : Addr × Seat => V.ref p.1)).symm
        · rcases List.mem_append.mp hb with z | z
          · exact tup _ _ (hT3 b z)
          · cases List.mem_singleton.mp z
            exact tup _ _ hp
        · rw [List.map_append]
          exact List.getLast?_concat ..
        · show 1 - x.1 = 0 ∨ 1 - x.1 = 1
          omega
        · rw [List.length_append, List.length_singleton]
          omega
theorem ok_Nests_many (T : Tx K mg A) : FnOk P w K mg base (L2.CX P w) 1 A.a_Nests_many A.d_Nests_many ["self"] (sp_Nests_many A.c_Nests) := by
  refine T.F_Nests_many.okX sc_Nests_many (fun vs H Q E h => ?_) (fun cdv Ar outer s H vs Q E hr h => ?_)
  · obtain ⟨a, F, c, t1, t2, L, vals, rfl, _⟩ := h
    rfl
  · obtain ⟨a, F, c, t1, t2, L, vals, rfl, ⟨gd, dx, d, w, M, kv, rfl, R⟩, k⟩ := h
    refine ⟨_, 
      (pss_one (ps_ret (pe_callB call_lenD (by rfl) T.m_len PySem.boot_len (pa_cons (pe_fld (pv 0) rfl) pa_nil)))), ?_⟩
    refine ⟨_, rfl, a, _, dx, _, _, rfl, R.ins, T.cl_Nests, T.n_Nests__things, rfl, w, kv, rfl, R.ths, ?_⟩
    rw [R.th.len gd.nn]
    exact k _ (Same.refl _)
theorem ok_Nests_names (T : Tx K mg A) : FnOk P w K mg base (L2.CX P w) 1 A.a_Nests_names A.d_Nests_names ["self"] (sp_Nests_names A.c_Nests) := by
  refine T.F_Nests_names.okX sc_Nests_names (fun vs H Q E h => ?_) (fun cdv Ar outer s H vs Q E hr h => ?_)
  · obtain ⟨a, F, c, t1, t2, L, vals, rfl, _⟩ := h
    rfl
  · obtain ⟨a, F, c, t1, t2, L, vals, rfl, ⟨gd, dx, d, w, M, kv, rfl, R⟩, hl, k⟩ := h
    refine ⟨_, 
      (pss_one (ps_ret (pe_lc (own := [("nest", 1)]) (g := gName 1) (tt := tYes) (by rfl) sc_Nests_names.nd (pi_list (pe_callB (TS11.cr_sorted_dT rfl) (by rfl) T.m_sorted (by decide +kernel) (pa_cons (pe_fld (pv 0) rfl) pa_nil))) (blkOk_by (own := [("nest", 1)]) (N := ["self", "nest"]) (sc := defScope s_Nests_names) (by decide +kernel)) (fun _ _ _ _ _ => (pg_name (i := 1) sc_Nests_names.nd rfl (Or.inl rfl))) (fun _ _ _ _ _ => pts_nil) (fun _ _ _ _ _ => (pe_dget (hu_of hr) (TB.pe_fldAt (K := K) rfl (pe_fld (pv 0) rfl)) (pv 1) (fun _ _ => rfl)))))), ?_⟩
    refine ⟨_, rfl, a, _, dx, _, _, rfl, R.ins, T.cl_Nests, T.n_Nests__names, rfl, d, _, kOf H, rfl, R.nms, fun bs hb b hbs => ?_, fun p bs ys hp hb h1 h2 => ?_⟩
    · obtain ⟨s, _, e⟩ := (keys_tup hb).1 b hbs
      rw [e, kOf_at e]
      rfl
    obtain ⟨N, e1, e2, e3, e4⟩ := sorted_keys R.nd hb h1 h2
    subst e1
    have hNM : ∀ s, s ∈ N.map (·.2) ↔ s ∈ L.map (·.1) := fun s => (e4 s).trans (by
      have z : ∀ {A B : Held}, (∀ s, getN A s = getN B s) → s ∈ A.map (·.1) → s ∈ B.map (·.1) := by
        intro A B h hs
        by_cases q : s ∈ B.map (·.1)
        · exact q
        · rw [← getN_none, ← h s] at q
          exact (getN_none.mp q hs).elim
      exact ⟨z R.f, z fun s => (R.f s).symm⟩)
    refine ⟨p, rfl, ⟨_, SqL.of upd_same⟩, fun D hD => ?_⟩
    have Sp := same_new (o := .lst (refs N)) hp
    refine lc_it (walk_list (xs := refs N)) (fun m H3 => Same (upd H p (.lst (refs N))) H3 ∧ H3 D = some (.lst ((vNames L (N.map (·.2))).take m))) ⟨same_new hD, upd_same⟩ (fun m H3 _ h => SqL.of (h.1 _ _ upd_same)) ?_ ?_
    · rintro m x H3 H4 hm ⟨SH, h3⟩ ⟨rfl, hx⟩
      have hmM : m < N.length := by
        have z : (refs N).length = N.length := List.length_map ..
        omega
      have e0 : N[m]? = some N[m] := List.getElem?_eq_getElem hmM
      obtain rfl : x = .ref (N[m]).1 := by
        have z : (refs N)[m]? = some (.ref (N[m]).1) := by
          show (N.map fun p => V.ref p.1)[m]? = _
          rw [List.getElem?_map, e0]
          rfl
        rw [z] at hx
        exact (Option.some.inj hx).symm
      have hmem : N[m] ∈ N := List.getElem_mem hmM
      obtain ⟨n1, hn1⟩ := getN_is ((hNM _).mp (List.mem_map.mpr ⟨_, hmem, rfl⟩))
      have hvn : (vNames L (N.map (·.2)))[m]? = some (V.str (tx n1)) := by
        unfold vNames
        rw [List.getElem?_map, List.getElem?_map, e0]
        show some (V.str (tx (whoN L (N[m]).2))) = _
        rw [who_of hn1]
      have htq : H4 (N[m]).1 = some (.tup (sv (N[m]).2)) := SH _ _ (Sp _ _ (e2 _ hmem))
      have R4 := R.same (Sp.trans SH)
      have eH : DGet H4 d (.ref (N[m]).1) (some (.str (tx n1))) := hk_some ((R.f _).trans hn1) ▸ DGet.t R4.nms (k := sk (N[m]).2) htq
      refine ⟨rfl, lc_yes ?_⟩
      refine ⟨_, rfl, a, _, dx, _, _, rfl, R4.ins, T.cl_Nests, T.n_Nests__names, rfl, _, rfl, d, _, rfl, eH, _, h3, ?_, same_mut SH hD, ?_⟩
      · rw [List.length_take]
        have hl2 : (vNames L (N.map (·.2))).length = N.length := by unfold vNames; rw [List.length_map, List.length_map]
        have hML : N.length ≤ L.length := by
          have q := nodup_len (N.map (·.2)) (L.map (·.1)) (sorted_nd e3) fun x hx => (hNM x).mp hx
          rwa [List.length_map, List.length_map] at q
        exact Nat.lt_of_le_of_lt (Nat.min_le_left _ _) (small1000 (by omega))
      · rw [upd_same, List.take_add_one, hvn]
        rfl
    · rintro H3 ⟨SH, h3⟩
      have hl2 : (vNames L (N.map (·.2))).length = (refs N).length := by
        unfold vNames
        rw [List.length_map, List.length_map]
        exact (List.length_map ..).symm
      rw [← hl2, List.take_length] at h3
      exact k H3 D (N.map (·.2)) (Sp.trans SH) (Sp.free hD) h3 e3 hNM
end

end M
end K11

namespace K11
open PySem L2 Ck TS2 TX TB
namespace M
def sp_Nests_put_at (C CM CV CW CN CH CT : Addr) : Sp := fun vs H Q E => ∃ (a q : Addr) (F : List Addr) (c t1 t2 : Int) (L : Held) (vals : Name → Int) (n : Name) (v : Int) (s : Seat), vs = [.ref a, .str (tx n), .int v, .ref q] ∧ TabAt C H a F c t1 t2 L vals ∧ H q = some (.tup (sv s)) ∧ SmallN n ∧ SmallI v ∧ SmallS s ∧ L.length ≤ 900 ∧
  (¬ NameOk n → Ref0 H E CM) ∧ (NameOk n → ¬ VOk v → Ref0 H E CV) ∧ (NameOk n → VOk v → n ∈ L.map (·.2) → Ref0 H E CW) ∧ (NameOk n → VOk v → n ∉ L.map (·.2) → ¬ InT c s → Ref0 H E CN) ∧
  (NameOk n → VOk v → n ∉ L.map (·.2) → InT c s → ¬ (s = seatP (hmN c t1 t2 n) 0 ∨ s = seatP (hmN c t1 t2 n) 1) → Ref0 H E CH) ∧
  (NameOk n → VOk v → n ∉ L.map (·.2) → (s = seatP (hmN c t1 t2 n) 0 ∨ s = seatP (hmN c t1 t2 n) 1) → getN L s ≠ none → Ref0 H E CT) ∧
  (NameOk n → VOk v → n ∉ L.map (·.2) → (s = seatP (hmN c t1 t2 n) 0 ∨ s = seatP (hmN c t1 t2 n) 1) → getN L s = none → ∀ H' F', KeepF F H H' → TabAt C H' a F' c t1 t2 (L ++ [(s, n)]) (fun m => if m = n then v else vals m) → (∀ b ∈ F', b ∈ F ∨ H b = none) → Q .non H')
theorem thg_app {L : Held} {vals : Name → Int} {n : Name} {v : Int} {s : Seat} (h : n ∉ L.map (·.2)) (m : Name) : thg (L ++ [(s, n)]) (fun k => if k = n then v else vals k) m = if m = n then some (s, v) else thg L vals m := by
  unfold thg
  rw [List.find?_append]
  by_cases e : m = n
  · subst e
    have : L.find? (fun x => decide (x.2 = m)) = none := by
      rw [List.find?_eq_none]
      intro x hx q
      exact h (List.mem_map.mpr ⟨x, hx, of_decide_eq_true q⟩)
    rw [this, if_pos rfl]
    simp
  · rw [if_neg e]
    have h2 : ([(s, n)] : Held).find? (fun x => decide (x.2 = m)) = none := by
      rw [List.find?_eq_none]
      intro x hx q
      rw [List.mem_singleton.mp hx] at q
      exact e (of_decide_eq_true q).symm
    rw [h2, Option.or_none]
    congr 1
    funext x
    show (x.1, if m = n then v else vals m) = (x.1, vals m)
    rw [if_neg e]
theorem any_homes (p : Int × Int) (s : Seat) : ([dS (seatP p 0), dS (seatP p 1)].any fun z => PyData.eqv z (dS s)) = decide (s = seatP p 0 ∨ s = seatP p 1) := by
  simp only [List.any_cons, List.any_nil, Bool.or_false, eqv_seat]
  rw [Bool.eq_iff_iff]
  simp only [Bool.or_eq_true, decide_eq_true_eq]
  constructor
  · rintro (e | e)
    · exact .inl e.symm
    · exact .inr e.symm
  · rintro (e | e)
    · exact .inl e.symm
    · exact .inr e.symm
section
variable {P : Program} {w : World} {K : PySem.W.Frag} {mg : Str → Option Value} {base : Heap} {A : Ad}
theorem ok_Nests_put_at (T : Tx K mg A) : FnOk P w K mg base (L2.CX P w) 4 A.a_Nests_put_at A.d_Nests_put_at ["self", "name", "value", "nest"] (sp_Nests_put_at A.c_Nests A.c_NoName A.c_NoValue A.c_Twice A.c_NoNest A.c_NoHome A.c_Taken) := by
  refine T.F_Nests_put_at.okX sc_Nests_put_at (fun vs H Q E h => ?_) (fun cdv Ar outer s H vs Q E hr h => ?_)
  · obtain ⟨a, q, F, c, t1, t2, L, vals, n, v, s, rfl, _⟩ := h
    rfl
  · obtain ⟨a, q, F, c, t1, t2, L, vals, n, v, s, rfl, ⟨gd, dx, d, w, M, kv, rfl, R⟩, hq, bn, bv, bs, hll, kM, kV, kW, kN, kH, kT, k⟩ := h
    refine ⟨_, 
      (pss_cons (ps_expr (pe_call (ok__check_name T) (hr.mono (by decide)) (by rfl) T.g__check_name T.F__check_name.kp T.b__check_name .nil (passes_call (takes_of rfl rfl rfl rfl) (fun _ _ _ _ h => h)) (pa_cons (pv 1) pa_nil)))
      (pss_cons (ps_expr (pe_call (ok__check_value T) (hr.mono (by decide)) (by rfl) T.g__check_value T.F__check_value.kp T.b__check_value .nil (passes_call (takes_of rfl rfl rfl rfl) (fun _ _ _ _ h => h)) (pa_cons (pv 2) pa_nil)))
      (pss_cons (ps_if (pt_cmp (pc_din (hu_of hr) (pv 1) (pe_fld (pv 0) rfl))) 
        (pss_one (ps_raise rfl (takes_of rfl rfl rfl rfl) (SkE.pmk_own1 PySem.F.excBase_ValueError T.x_Twice T.g_Twice T.kk_Twice (raises_own T.bx_Twice T.tx_Twice) (by rfl) (pe_joined (.cons (pe_fmt (pv 1)) (.cons pe_str .nil)))))) pss_nil)
      (pss_cons (ps_expr (pe_meth (pv 0) T.cl_Nests T.m_Nests__check_nest (ok_Nests__check_nest T) (hr.mono (by decide)) T.b_Nests__check_nest .nil (passes_call (takes_of rfl rfl rfl rfl) (fun _ _ _ _ h => h)) (pa_cons (pv 3) pa_nil)))
      (pss_cons (ps_if (pt_cmpR (TB.op_notInT (TB.hu65 hr)) (pv 3) (pe_meth (pv 0) T.cl_Nests T.m_Nests_homes (ok_Nests_homes T) hr T.b_Nests_homes .nil (passes_call (takes_of rfl rfl rfl rfl) (fun _ _ _ _ h => h)) (pa_cons (pv 1) pa_nil)) rfl) 
        (pss_one (ps_raise rfl (takes_of rfl rfl rfl rfl) (SkE.pmk_own1 PySem.F.excBase_ValueError T.x_NoHome T.g_NoHome T.kk_NoHome (raises_own T.bx_NoHome T.tx_NoHome) (by rfl) (pe_joined (.cons (TS11.pe_fmtTI hr (pv 3)) (.cons pe_str (.cons (pe_fmt (pv 1)) .nil))))))) pss_nil)
      (pss_cons (ps_if (pt_cmp (pc_din (hu_of hr) (pv 3) (pe_fld (pv 0) rfl))) 
        (pss_one (ps_raise rfl (takes_of rfl rfl rfl rfl) (SkE.pmk_own1 PySem.F.excBase_ValueError T.x_Taken T.g_Taken T.kk_Taken (raises_own T.bx_Taken T.tx_Taken) (by rfl) (pe_joined (.cons (TS11.pe_fmtTI hr (pv 3)) (.cons pe_str .nil)))))) pss_nil)
      (pss_one (ps_expr (pe_meth (pv 0) T.cl_Nests T.m_Nests__stand (ok_Nests__stand T) (hr.mono (by decide)) T.b_Nests__stand .nil pass0 (pa_cons (pv 1) (pa_cons (pv 2) (pa_cons (pv 3) pa_nil)))))))))))), ?_⟩
    have a1 : (tx n).length ≤ 1000 := by rw [tx_len]; exact bn
    have a2 : (tx n).length ≤ sizeLine := Nat.le_of_lt (small1000 a1)
    have sm : ∀ i ∈ [s.1, s.2], i.natAbs.log2 < 1920 := fun i hi => by
      rcases List.mem_cons.mp hi with z | z
      · rw [z]
        exact bs.1
      · rw [List.mem_singleton.mp z]
        exact bs.2
    refine ⟨_, rfl, n, rfl, bn, fun ho => ?_, fun ho => kM ho _ (Same.refl _)⟩
    refine ⟨_, rfl, v, rfl, bv, fun hv => ?_, fun hv => kV ho hv _ (Same.refl _)⟩
    refine ⟨_, rfl, _, rfl, a, _, dx, _, _, rfl, R.ins, T.cl_Nests, T.n_Nests__things, rfl, w, _, rfl, DGet.k (k := .inr (tx n)) R.ths, _, rfl, ?_⟩
    have hth := R.th.is n
    by_cases hin : n ∈ L.map (·.2)
    · cases e : thg L vals n with
      | none => exact (thg_none.mp e hin).elim
      | some r =>
        obtain ⟨s1, v1⟩ := r
        rw [e] at hth
        obtain ⟨t, q1, e1, _⟩ := hth
        rw [e1]
        refine iteT ?_
        have a3 : ((" is there already" : Str)).length ≤ 20 := by decide +kernel
        have b1 := sz sz0 a1 (by decide)
        exact ⟨_, rfl, .inl ⟨_, rfl, a2, _, rfl, b1.1, _, rfl, (sz b1.2 a3 (by decide)).1, kW ho hv hin _ (Same.refl _)⟩⟩
    rw [thg_none.mpr hin] at hth
    rw [show valV kv (.inr (tx n)) = none from hth]
    refine iteF ?_
    refine ⟨_, rfl, a, dx, _, rfl, R.ins, flds_no (by decide +kernel), _, rfl, a, dx, d, w, q, c, t1, t2, s, rfl, R.ins, hq, bs.1, bs.2, fun hi H1 S1 => ?_, fun hi H1 S => kN ho hv hin hi _ S⟩
    have R1 := R.same S1
    refine ⟨_, rfl, _, rfl, a, dx, _, rfl, R1.ins, flds_no (by decide +kernel), _, rfl, a, dx, d, w, c, t1, t2, n, rfl, R1.ins, gd.c0, gd.c1, bn, fun _ H2 p qa qb S2 hp h1 h2 h3 => ?_, fun z => (z ho).elim⟩
    have S12 := S1.trans S2
    refine ⟨dS s, [dS (seatP (hmN c t1 t2 n) 0), dS (seatP (hmN c t1 t2 n) 1)], dp_seat (SqT.of (S12 _ _ hq)), .tup (SqT.of h1) (.cons (dp_seat (SqT.of h2)) (.cons (dp_seat (SqT.of h3)) .nil)), shaped_seat s, rfl, _, rfl, ?_⟩
    show (if (if true = true then _ else _) = true then _ else _)
    rw [if_pos (rfl : true = true), any_homes]
    have hq2 := S12 _ _ hq
    by_cases hh : s = seatP (hmN c t1 t2 n) 0 ∨ s = seatP (hmN c t1 t2 n) 1
    rotate_left
    · rw [decide_eq_false hh]
      refine iteT ?_
      have a3 : ((" is no home of " : Str)).length ≤ 20 := by decide +kernel
      refine ⟨_, rfl, q, [s.1, s.2], rfl, SqT.of hq2, (by show 2 ≤ 9; decide), sm, fun m hm => ?_⟩
      have b1 := sz sz0 hm (by decide)
      have b2 := sz b1.2 a3 (by decide)
      exact ⟨m, rfl, b1.1, _, rfl, b2.1, _, rfl, .inl ⟨_, rfl, a2, _, rfl, (sz b2.2 a1 (by decide)).1, kH ho hv hin hi hh _ S12⟩⟩
    rw [decide_eq_true hh]
    refine iteF ?_
    have R2 := R1.same S2
    refine ⟨_, rfl, _, rfl, a, _, dx, _, _, rfl, R2.ins, T.cl_Nests, T.n_Nests__names, rfl, d, _, rfl, DGet.t R2.nms (k := sk s) hq2, _, rfl, ?_⟩
    rw [hk_val, R.f]
    cases e : getN L s with
    | some m =>
      refine iteT ?_
      have a3 : ((" is taken" : Str)).length ≤ 20 := by decide +kernel
      refine ⟨_, rfl, q, [s.1, s.2], rfl, SqT.of hq2, (by show 2 ≤ 9; decide), sm, fun m hm => ?_⟩
      have b1 := sz sz0 hm (by decide)
      exact ⟨m, rfl, b1.1, _, rfl, (sz b1.2 a3 (by decide)).1, kT ho hv hin hh (by rw [e]; intro z; cases z) _ S12⟩
    | none =>
      refine iteF ?_
      refine ⟨_, rfl, a, dx, _, rfl, R2.ins, flds_no (by decide +kernel), _, rfl, _, rfl, _, rfl, a, q, dx, d, w, c, t1, t2, L.length, getN L, thg L vals, M, kv, n, v, s, rfl, R2, hll, hq2, fun H3 L3 kv3 R3 KF => ?_⟩
      refine k ho hv hin hh e H3 [a, d, w] ((KeepF.of S12).trans KF fun b hb => .inl hb) (TabAt.of (gd.add e hin ho hh) (R3.cast (fun u => ?_) fun m => (thg_app hin m).symm)) fun b hb => .inl hb
      rw [getN_app1 e]
end

/-! values, nests, taking out -/
def sp_Nests__thing (C CU : Addr) : Sp := fun vs H Q E => ∃ (a dx d w : Addr) (c t1 t2 : Int) (m : Nat) (f : Seat → Option Name) (g : Thg) (L : Held) (kv : List (Key × V)) (n : Name), vs = [.ref a, .str (tx n)] ∧ Raw C H a dx d w c t1 t2 m f g L kv ∧ SmallN n ∧
  (g n = none → Ref0 H E CU) ∧ (∀ s v, g n = some (s, v) → ∀ t q, H t = some (.tup [.ref q, .int v]) → H q = some (.tup (sv s)) → Q (.ref t) H)
def sp_Nests_value (C CU : Addr) : Sp := fun vs H Q E => ∃ (a dx d w : Addr) (c t1 t2 : Int) (m : Nat) (f : Seat → Option Name) (g : Thg) (L : Held) (kv : List (Key × V)) (n : Name), vs = [.ref a, .str (tx n)] ∧ Raw C H a dx d w c t1 t2 m f g L kv ∧ SmallN n ∧
  (g n = none → Ref0 H E CU) ∧ (∀ s v, g n = some (s, v) → Q (.int v) H)
def sp_Nests_where (C CU : Addr) : Sp := fun vs H Q E => ∃ (a dx d w : Addr) (c t1 t2 : Int) (m : Nat) (f : Seat → Option Name) (g : Thg) (L : Held) (kv : List (Key × V)) (n : Name), vs = [.ref a, .str (tx n)] ∧ Raw C H a dx d w c t1 t2 m f g L kv ∧ SmallN n ∧
  (g n = none → Ref0 H E CU) ∧ (∀ s v, g n = some (s, v) → ∀ q, H q = some (.tup (sv s)) → Q (.ref q) H)
section
variable {P : Program} {w : World} {K : PySem.W.Frag} {mg : Str → Option Value} {base : Heap} {A : Ad}
theorem ok_Nests__thing (T : Tx K mg A) : FnOk P w K mg base (L2.CX P w) 1 A.a_Nests__thing A.d_Nests__thing ["self", "name"] (sp_Nests__thing A.c_Nests A.c_Unknown) := by
  refine T.F_Nests__thing.okX sc_Nests__thing (fun vs H Q E h => ?_) (fun cdv Ar outer s H vs Q E hr h => ?_)
  · obtain ⟨a, dx, d, w, c, t1, t2, m, f, g, L, kv, n, rfl, _⟩ := h
    rfl
  · obtain ⟨a, dx, d, w, c, t1, t2, m, f, g, L, kv, n, rfl, R, hn, kU, k⟩ := h
    refine ⟨_, 
      (pss_cons (ps_if (pt_cmp (pc_dnotin (hu_of hr) (pv 1) (pe_fld (pv 0) rfl))) 
        (pss_one (ps_raise rfl (takes_of rfl rfl rfl rfl) (SkE.pmk_own1 PySem.F.excBase_ValueError T.x_Unknown T.g_Unknown T.kk_Unknown (raises_own T.bx_Unknown T.tx_Unknown) (by rfl) (pe_joined (.cons (pe_fmt (pv 1)) (.cons pe_str .nil)))))) pss_nil)
      (pss_one (ps_ret (pe_dget (hu_of hr) (pe_fld (pv 0) rfl) (pv 1) (fun _ _ => rfl))))), ?_⟩
    refine ⟨_, rfl, _, rfl, a, _, dx, _, _, rfl, R.ins, T.cl_Nests, T.n_Nests__things, rfl, w, _, rfl, DGet.k (k := .inr (tx n)) R.ths, _, rfl, ?_⟩
    have hth := R.th.is n
    cases e : g n with
    | none =>
      rw [e] at hth
      rw [show valV kv (.inr (tx n)) = none from hth]
      refine iteT ?_
      have a1 : (tx n).length ≤ 1000 := by rw [tx_len]; exact hn
      have a3 : ((" is not there" : Str)).length ≤ 20 := by decide +kernel
      have b1 := sz sz0 a1 (by decide)
      exact ⟨_, rfl, .inl ⟨_, rfl, Nat.le_of_lt (small1000 a1), _, rfl, b1.1, _, rfl, (sz b1.2 a3 (by decide)).1, kU e _ (Same.refl _)⟩⟩
    | some r =>
      obtain ⟨s, v⟩ := r
      rw [e] at hth
      obtain ⟨t, q, e1, h1, h2⟩ := hth
      rw [e1]
      refine iteF ?_
      have eD : DGet H w (.str (tx n)) (some (.ref t)) := e1 ▸ DGet.k (k := .inr (tx n)) R.ths
      exact ⟨_, rfl, a, _, dx, _, _, rfl, R.ins, T.cl_Nests, T.n_Nests__things, rfl, _, rfl, w, _, rfl, eD, k s v e t q h1 h2⟩
theorem ok_Nests_value (T : Tx K mg A) : FnOk P w K mg base (L2.CX P w) 2 A.a_Nests_value A.d_Nests_value ["self", "name"] (sp_Nests_value A.c_Nests A.c_Unknown) := by
  refine T.F_Nests_value.okX sc_Nests_value (fun vs H Q E h => ?_) (fun cdv Ar outer s H vs Q E hr h => ?_)
  · obtain ⟨a, dx, d, w, c, t1, t2, m, f, g, L, kv, n, rfl, _⟩ := h
    rfl
  · obtain ⟨a, dx, d, w, c, t1, t2, m, f, g, L, kv, n, rfl, R, hn, kU, k⟩ := h
    refine ⟨_, 
      (pss_one (ps_ret (pe_ix (r := rIxT K) ix_tup (pe_meth (pv 0) T.cl_Nests T.m_Nests__thing (ok_Nests__thing T) hr T.b_Nests__thing .nil (passes_call (takes_of rfl rfl rfl rfl) (fun _ _ _ _ h => h)) (pa_cons (pv 1) pa_nil)) pe_int (fun _ _ => rfl)))), ?_⟩
    refine ⟨_, rfl, a, dx, _, rfl, R.ins, flds_no (by decide +kernel), _, rfl, a, dx, d, w, c, t1, t2, m, f, g, L, kv, n, rfl, R, hn, kU, fun s v e t q h1 h2 => ?_⟩
    exact ⟨t, _, _, _, rfl, rfl, SqT.of h1, atI_nat (j := 1) rfl, k s v e⟩
theorem ok_Nests_where (T : Tx K mg A) : FnOk P w K mg base (L2.CX P w) 2 A.a_Nests_where A.d_Nests_where ["self", "name"] (sp_Nests_where A.c_Nests A.c_Unknown) := by
  refine T.F_Nests_where.okX sc_Nests_where (fun vs H Q E h => ?_) (fun cdv Ar outer s H vs Q E hr h => ?_)
  · obtain ⟨a, dx, d, w, c, t1, t2, m, f, g, L, kv, n, rfl, _⟩ := h
    rfl
  · obtain ⟨a, dx, d, w, c, t1, t2, m, f, g, L, kv, n, rfl, R, hn, kU, k⟩ := h
    refine ⟨_, 
      (pss_one (ps_ret (pe_ix (r := rIxT K) ix_tup (pe_meth (pv 0) T.cl_Nests T.m_Nests__thing (ok_Nests__thing T) hr T.b_Nests__thing .nil (passes_call (takes_of rfl rfl rfl rfl) (fun _ _ _ _ h => h)) (pa_cons (pv 1) pa_nil)) pe_int (fun _ _ => rfl)))), ?_⟩
    refine ⟨_, rfl, a, dx, _, rfl, R.ins, flds_no (by decide +kernel), _, rfl, a, dx, d, w, c, t1, t2, m, f, g, L, kv, n, rfl, R, hn, kU, fun s v e t q h1 h2 => ?_⟩
    exact ⟨t, _, _, _, rfl, rfl, SqT.of h1, atI_nat (j := 0) rfl, k s v e q h2⟩
end

def sp_Nests_take_out (C CU : Addr) : Sp := fun vs H Q E => ∃ (a : Addr) (F : List Addr) (c t1 t2 : Int) (L : Held) (vals : Name → Int) (n : Name), vs = [.ref a, .str (tx n)] ∧ TabAt C H a F c t1 t2 L vals ∧ SmallN n ∧ L.length ≤ 900 ∧
  (n ∉ L.map (·.2) → Ref0 H E CU) ∧ (n ∈ L.map (·.2) → ∀ H' F' L', (∀ x, x ∈ L' ↔ x ∈ L ∧ x.2 ≠ n) → KeepF F H H' → TabAt C H' a F' c t1 t2 L' vals → (∀ b ∈ F', b ∈ F ∨ H b = none) → Q (.int (vals n)) H')
theorem thg_filt {L : Held} {vals : Name → Int} {n : Name} {s : Seat} (nn : (L.map (·.2)).Nodup) (ns : (L.map (·.1)).Nodup) (h : (s, n) ∈ L) (m : Name) : thg (L.filter fun x => decide (x.1 ≠ s)) vals m = if m = n then none else thg L vals m := by
  by_cases e : m = n
  · rw [if_pos e, thg_none, e]
    intro z
    obtain ⟨x, hx, ex⟩ := List.mem_map.mp z
    obtain ⟨h1, h2⟩ := List.mem_filter.mp hx
    have h3 : x.1 ≠ s := of_decide_eq_true h2
    exact h3 ((nodup_fst nn h1 h (by rw [ex])))
  · rw [if_neg e]
    cases e2 : thg L vals m with
    | none =>
      rw [thg_none] at e2 ⊢
      exact fun z => e2 (by
        obtain ⟨x, hx, ex⟩ := List.mem_map.mp z
        exact List.mem_map.mpr ⟨x, (List.mem_filter.mp hx).1, ex⟩)
    | some r =>
      obtain ⟨h1, h2⟩ := thg_is e2
      obtain ⟨u, v⟩ := r
      simp only at h1 h2
      have hu : u ≠ s := fun z => e (by
        rw [z] at h1
        exact nodup_snd1 ns h1 h)
      have h3 : (u, m) ∈ L.filter fun x => decide (x.1 ≠ s) := List.mem_filter.mpr ⟨h1, decide_eq_true hu⟩
      cases e3 : thg (L.filter fun x => decide (x.1 ≠ s)) vals m with
      | none => exact (thg_none.mp e3 (List.mem_map.mpr ⟨_, h3, rfl⟩)).elim
      | some r2 =>
        obtain ⟨h4, h5⟩ := thg_is e3
        obtain ⟨u2, v2⟩ := r2
        simp only at h4 h5
        have h6 := nodup_fst nn (List.mem_filter.mp h4).1 h1 rfl
        simp only at h6
        rw [h6, h5, h2]
section
variable {P : Program} {w : World} {K : PySem.W.Frag} {mg : Str → Option Value} {base : Heap} {A : Ad}
theorem ok_Nests_take_out (T : Tx K mg A) : FnOk P w K mg base (L2.CX P w) 3 A.a_Nests_take_out A.d_Nests_take_out ["self", "name"] (sp_Nests_take_out A.c_Nests A.c_Unknown) := by
  refine T.F_Nests_take_out.okX sc_Nests_take_out (fun vs H Q E h => ?_) (fun cdv Ar outer s H vs Q E hr h => ?_)
  · obtain ⟨a, F, c, t1, t2, L, vals, n, rfl, _⟩ := h
    rfl
  · obtain ⟨a, F, c, t1, t2, L, vals, n, rfl, ⟨gd, dx, d, w, M, kv, rfl, R⟩, hn, hl, kU, k⟩ := h
    refine ⟨_, 
      (pss_cons (ps_set (i := 2) sc_Nests_take_out.nd rfl (Or.inl rfl) (pe_meth (pv 0) T.cl_Nests T.m_Nests_value (ok_Nests_value T) hr T.b_Nests_value .nil (passes_call (takes_of rfl rfl rfl rfl) (fun _ _ _ _ h => h)) (pa_cons (pv 1) pa_nil)))
      (pss_cons (TS6.ps_delT (hu_of hr) (pe_fld (pv 0) rfl) (pe_meth (pv 0) T.cl_Nests T.m_Nests_where (ok_Nests_where T) hr T.b_Nests_where .nil (passes_call (takes_of rfl rfl rfl rfl) (fun _ _ _ _ h => h)) (pa_cons (pv 1) pa_nil)))
      (pss_cons (ps_ddel (pe_fld (pv 0) rfl) (pv 1))
      (pss_one (ps_ret (pv 2)))))), ?_⟩
    refine ⟨_, rfl, a, dx, _, rfl, R.ins, flds_no (by decide +kernel), _, rfl, a, dx, d, w, c, t1, t2, _, _, _, M, kv, n, rfl, R, hn, fun e => kU (thg_none.mp e), fun s v e => ?_⟩
    obtain ⟨hm, rfl⟩ := thg_is e
    have hin : n ∈ L.map (·.2) := List.mem_map.mpr ⟨_, hm, rfl⟩
    have hs : getN L s = some n := getN_of_mem gd.ns hm
    have hM : getN M s = some n := (R.f s).trans hs
    refine ⟨_, rfl, a, _, dx, _, _, rfl, R.ins, T.cl_Nests, T.n_Nests__names, rfl, ?_⟩
    refine ⟨_, rfl, a, dx, _, rfl, R.ins, flds_no (by decide +kernel), _, rfl, a, dx, d, w, c, t1, t2, _, _, _, M, kv, n, rfl, R, hn, fun z => (by rw [e] at z; cases z), fun s2 v2 e2 q hq => ?_⟩
    rw [e] at e2
    cases e2
    refine ⟨d, _, sk s, q, _, rfl, rfl, R.nms, hq, hk_some hM, ?_⟩
    rw [hk_drop]
    have tup : ∀ b ys, H b = some (.tup ys) → (upd H d (.dT (hk (M.filter fun x => decide (x.1 ≠ s))))) b = some (.tup ys) := fun b ys eb => by
      rw [upd_ne (ne_of eb R.nms (by intro z; cases z))]
      exact eb
    have hth := R.th.is n
    rw [e] at hth
    obtain ⟨t, q1, e1, _⟩ := hth
    have hw1 : (upd H d (.dT (hk (M.filter fun x => decide (x.1 ≠ s))))) w = some (.dK kv) := (upd_ne R.ndw.symm).trans R.ths
    refine ⟨_, rfl, a, _, dx, _, _, rfl, (upd_ne R.nad).trans R.ins, T.cl_Nests, T.n_Nests__things, rfl, _, rfl, w, kv, .inr (tx n), rfl, hw1, rfl, by rw [e1]; rfl, ?_⟩
    refine ⟨_, rfl, k hin _ [a, d, w] (L.filter fun x => decide (x.1 ≠ s)) (fun x => ?_) (fun b o hb eb => ?_) (TabAt.of (k := L.length) (dx := dx) (M := M.filter fun x => decide (x.1 ≠ s)) (gd.sub List.filter_sublist) ⟨?_, ?_, ?_, fun u => ?_, ?_, upd_same, ?_, ?_⟩) fun b hb => .inl hb⟩
    · rw [List.mem_filter, decide_eq_true_eq]
      constructor
      · rintro ⟨h1, h2⟩
        exact ⟨h1, fun z => h2 (nodup_fst gd.nn h1 hm z)⟩
      · rintro ⟨h1, h2⟩
        exact ⟨h1, fun z => h2 (nodup_snd1 gd.ns (show (s, x.2) ∈ L by rw [← z]; exact h1) hm)⟩
    · have x1 : b ≠ d := fun z => hb (by simp [z])
      have x2 : b ≠ w := fun z => hb (by simp [z])
      rw [upd_ne x2, upd_ne x1]
      exact eb
    · rw [upd_ne R.naw, upd_ne R.nad]
      exact R.ins
    · rw [upd_ne R.ndw]
      exact upd_same
    · exact R.nd.sublist (List.Sublist.map _ List.filter_sublist)
    · rw [getN_filt, getN_filt, R.f]
    · exact Nat.le_trans (List.length_filter_le _ _) R.len
    · have th1 := ((R.th.keep tup).drop n).keep (H' := upd (upd H d (.dT (hk (M.filter fun x => decide (x.1 ≠ s))))) w (.dK (dropK kv (.inr (tx n))))) fun b ys eb => by
        rw [upd_ne (ne_of eb hw1 (by intro z; cases z))]
        exact eb
      exact ⟨th1.nd, th1.nm, fun m => (thg_filt gd.nn gd.ns hm m).symm ▸ th1.is m⟩
    · exact Nat.le_trans (dropK_le kv _) R.len2
end

end M
end K11

namespace K11
open PySem L2 Ck TS2 TX TB
namespace M
/-! ways of a name, the open one, its moves -/
def WayAt (H : Hp) (p : Addr) (W : List Seat) : Prop := ∃ N : List (Addr × Seat), H p = some (.lst (refs N)) ∧ TupsAt H N ∧ N.map (·.2) = W
theorem WayAt.same {H H' : Hp} {p : Addr} {W : List Seat} (h : WayAt H p W) (e : Same H H') : WayAt H' p W := by
  obtain ⟨N, a, b, c⟩ := h
  exact ⟨N, e _ _ a, b.same e, c⟩
theorem MoveAt.keep {H H' : Hp} {x : V} {m : Name × Seat × Seat} (h : MoveAt H x m) (k : ∀ b ys, H b = some (.tup ys) → H' b = some (.tup ys)) : MoveAt H' x m := by
  obtain ⟨t, q1, q2, e, a, b, c⟩ := h
  exact ⟨t, q1, q2, e, k _ _ a, k _ _ b, k _ _ c⟩
theorem paired_mono {α β : Type} {F G : α → β → Prop} (h : ∀ a b, F a b → G a b) : ∀ {l : List α} {m : List β}, PySem.Paired F l m → PySem.Paired G l m
  | _, _, .nil => .nil
  | _, _, .cons r t => .cons (h _ _ r) (paired_mono h t)
theorem paired_snoc {α β : Type} {F : α → β → Prop} {a : α} {b : β} (r : F a b) : ∀ {l : List α} {m : List β}, PySem.Paired F l m → PySem.Paired F (l ++ [a]) (m ++ [b])
  | _, _, .nil => .cons r .nil
  | _, _, .cons h t => .cons h (paired_snoc r t)
theorem way_last {H : Hp} {N : List (Addr × Seat)} (hne : N.map (·.2) ≠ []) (ht : TupsAt H N) : ∃ y : Addr × Seat, (refs N).getLast? = some (.ref y.1) ∧ (N.map (·.2)).getLast? = some y.2 ∧ H y.1 = some (.tup (sv y.2)) := by
  obtain ⟨y, hy⟩ : ∃ y, N.getLast? = some y := by
    cases N with
    | nil => exact absurd rfl hne
    | cons p r => exact ⟨_, List.getLast?_eq_some_getLast (List.cons_ne_nil p r)⟩
  refine ⟨y, ?_, ?_, ht y (List.mem_of_getLast? hy)⟩
  · show (N.map fun p => V.ref p.1).getLast? = _
    rw [List.getLast?_map, hy] <;> rfl
  · rw [List.getLast?_map, hy] <;> rfl
def sp_Nests__is_open (C : Addr) : Sp := fun vs H Q _ => ∃ (a p : Addr) (F : List Addr) (c t1 t2 : Int) (L : Held) (vals : Name → Int) (W : List Seat), vs = [.ref a, .ref p] ∧ TabAt C H a F c t1 t2 L vals ∧ WayAt H p W ∧ W ≠ [] ∧
  (openW L W → Q (.bl true) H) ∧ (¬ openW L W → Q (.bl false) H)
def sp_Nests__moves_on (C : Addr) : Sp := fun vs H Q _ => ∃ (a p : Addr) (F : List Addr) (c t1 t2 : Int) (L : Held) (vals : Name → Int) (s0 : Seat) (W : List Seat), vs = [.ref a, .ref p] ∧ TabAt C H a F c t1 t2 L vals ∧ WayAt H p W ∧ Chain (nxN (hmN c t1 t2) (getN L)) s0 W ∧ W.length ≤ 1000 ∧
  ∀ H' r, Same H H' → H r = none → MovesAt H' r (movesOf L W) → Q (.ref r) H'
def sp_Nests__ways (C CM : Addr) : Sp := fun vs H Q E => ∃ (a : Addr) (F : List Addr) (c t1 t2 : Int) (L : Held) (vals : Name → Int) (n : Name), vs = [.ref a, .str (tx n)] ∧ TabAt C H a F c t1 t2 L vals ∧ SmallN n ∧ L.length ≤ 900 ∧
  (NameOk n → ∀ H' r pa pb A B, Same H H' → H r = none → H' r = some (.lst [.ref pa, .ref pb]) → pa ≠ r → pb ≠ r → WayAt H' pa A → WayAt H' pb B → IsWay (nxN (hmN c t1 t2) (getN L)) (seatP (hmN c t1 t2 n) 0) A → IsWay (nxN (hmN c t1 t2) (getN L)) (seatP (hmN c t1 t2 n) 1) B → Q (.ref r) H') ∧ (¬ NameOk n → Ref0 H E CM)
def sp_Nests__open_way (C CM CR : Addr) : Sp := fun vs H Q E => ∃ (a : Addr) (F : List Addr) (c t1 t2 : Int) (L : Held) (vals : Name → Int) (n : Name), vs = [.ref a, .str (tx n)] ∧ TabAt C H a F c t1 t2 L vals ∧ SmallN n ∧ L.length ≤ 900 ∧
  (NameOk n → ∀ A B, IsWay (nxN (hmN c t1 t2) (getN L)) (seatP (hmN c t1 t2 n) 0) A → IsWay (nxN (hmN c t1 t2) (getN L)) (seatP (hmN c t1 t2 n) 1) B →
    (∀ H' r W, Taken L A B W → Same H H' → WayAt H' r W → Q (.ref r) H') ∧ (¬ openW L A → ¬ openW L B → Ref0 H E CR)) ∧ (¬ NameOk n → Ref0 H E CM)
section
variable {P : Program} {w : World} {K : PySem.W.Frag} {mg : Str → Option Value} {base : Heap} {A : Ad}
theorem ok_Nests__is_open (T : Tx K mg A) : FnOk P w K mg base CX0 1 A.a_Nests__is_open A.d_Nests__is_open ["self", "way"] (sp_Nests__is_open A.c_Nests) := by
  refine T.F_Nests__is_open.ok sc_Nests__is_open (fun vs H Q E h => ?_) (fun cdv Ar outer s H vs Q E hr h => ?_)
  · obtain ⟨a, p, F, c, t1, t2, L, vals, W, rfl, _⟩ := h
    rfl
  · obtain ⟨a, p, F, c, t1, t2, L, vals, W, rfl, ⟨gd, dx, d, w, M, kv, rfl, R⟩, ⟨N, hp, ht, rfl⟩, hne, k1, k2⟩ := h
    refine ⟨_, 
      (pss_one (ps_ret (pe_cmp (pc_dnotin (hu_of hr) (pe_ix (r := rIxL K) ix_list (pv 1) (pe_un un_neg pe_int) (fun _ _ => rfl)) (pe_fld (pv 0) rfl)) rfl))), ?_⟩
    obtain ⟨y, e1, e2, e3⟩ := way_last hne ht
    refine ⟨_, rfl, _, rfl, p, _, _, _, rfl, rfl, SqL.of hp, atI_end e1, _, rfl, a, _, dx, _, _, rfl, R.ins, T.cl_Nests, T.n_Nests__names, rfl, d, _, rfl, DGet.t R.nms (k := sk y.2) e3, ?_⟩
    rw [hk_val, R.f]
    cases e : getN L y.2 with
    | none => exact k1 fun z hz => by rw [e2] at hz; cases hz; exact e
    | some m => exact k2 fun q => by rw [q _ e2] at e; cases e
theorem ok_Nests__moves_on (T : Tx K mg A) : FnOk P w K mg base CX0 1 A.a_Nests__moves_on A.d_Nests__moves_on ["self", "way"] (sp_Nests__moves_on A.c_Nests) := by
  refine T.F_Nests__moves_on.ok sc_Nests__moves_on (fun vs H Q E h => ?_) (fun cdv Ar outer s H vs Q E hr h => ?_)
  · obtain ⟨a, p, F, c, t1, t2, L, vals, s0, W, rfl, _⟩ := h
    rfl
  · obtain ⟨a, p, F, c, t1, t2, L, vals, s0, W, rfl, ⟨gd, dx, d, w, M, kv, rfl, R⟩, ⟨N, hp, ht, rfl⟩, ch, hll, k⟩ := h
    refine ⟨_, 
      (pss_cons (ps_set (i := 2) sc_Nests__moves_on.nd rfl (Or.inl rfl) (pe_callTy TS10.cr_range3 (by rfl) T.m_range (by decide +kernel) (pa_cons (pe_op op_sub (pe_callB call_len_seq (by rfl) T.m_len PySem.boot_len (pa_cons (pv 1) pa_nil)) pe_int) (pa_cons pe_int (pa_cons (pe_un un_neg pe_int) pa_nil)))))
      (pss_one (ps_ret (pe_lc (own := [("at", 3)]) (g := gName 3) (tt := tYes) (by rfl) sc_Nests__moves_on.nd (TS10.pi_rngV (pv 2)) (blkOk_by (own := [("at", 3)]) (N := ["self", "way", "steps", "at"]) (sc := defScope s_Nests__moves_on) (by decide +kernel)) (fun _ _ _ _ _ => (pg_name (i := 3) sc_Nests__moves_on.nd rfl (Or.inl rfl))) (fun _ _ _ _ _ => pts_nil) (fun _ _ _ _ _ => (pe_tup (pa_cons (pe_dget (hu_of hr) (TB.pe_fldAt (K := K) rfl (pe_fld (pv 0) rfl)) (pe_ix (r := rIxL K) ix_list (pv 1) (pe_op op_sub (pv 3) pe_int) (fun _ _ => rfl)) (fun _ _ => rfl)) (pa_cons (pe_ix (r := rIxL K) ix_list (pv 1) (pe_op op_sub (pv 3) pe_int) (fun _ _ => rfl)) (pa_cons (pe_ix (r := rIxL K) ix_list (pv 1) (pv 3) (fun _ _ => rfl)) pa_nil))))))))), ?_⟩
    rw [List.length_map] at hll
    have hpos : 0 < N.length := List.length_pos_iff.mpr fun e => ch.ne (by rw [e]; rfl)
    have tup_at : ∀ (n : Nat), n < N.length → ∃ p : Addr × Seat, N[n]? = some p ∧ atI (refs N) (n : Int) = some (.ref p.1) ∧ (N.map (·.2))[n]? = some p.2 ∧ H p.1 = some (.tup (sv p.2)) := fun n hn => by
      have e := List.getElem?_eq_getElem hn
      refine ⟨N[n], e, atI_nat ?_, ?_, ht _ (List.getElem_mem hn)⟩
      · show (N.map fun p => V.ref p.1)[n]? = _
        rw [List.getElem?_map, e]
        rfl
      · rw [List.getElem?_map, e]
        rfl
    have hlenI : (((refs N).length : Nat) : Int) - 1 = ((N.length - 1 : Nat) : Int) := by
      show (((N.map fun p => V.ref p.1).length : Nat) : Int) - 1 = _
      rw [List.length_map]
      omega
    refine ⟨_, rfl, p, _, rfl, .inl (SqL.of hp), _, _, rfl, rfl, _, rfl, _, _, _, rfl, by decide, by decide, fun pr hpr => ?_⟩
    rw [hlenI]
    have Sr := same_new (o := TS10.RngO pr ((N.length - 1 : Nat) : Int) 0 (-1)) hpr
    refine ⟨_, rfl, pr, _, _, _, N.length - 1, rfl, upd_same, ?_, fun D hD => ?_⟩
    · have q := RgC.neg (i := ((N.length - 1 : Nat) : Int)) (j := 0) (by omega) (by omega) (by omega) (by omega)
      have e : (((N.length - 1 : Nat) : Int) - 0).toNat = N.length - 1 := by omega
      rwa [e] at q
    have hml : (movesOf L (N.map (·.2))).length = N.length - 1 := by rw [moves_len, List.length_map]
    refine lc_it walk_rangeC (fun m H3 => Same (upd H pr (TS10.RngO pr ((N.length - 1 : Nat) : Int) 0 (-1))) H3 ∧ ∃ xs : List V, H3 D = some (.lst xs) ∧ PySem.Paired (MoveAt H3) xs ((movesOf L (N.map (·.2))).take m)) ⟨same_new hD, [], upd_same, .nil⟩ (fun _ _ _ _ => trivial) ?_ ?_
    · rintro m x H3 H4 hm ⟨SH, xs, h3, hps⟩ ⟨rfl, rfl⟩
      have hm2 : m < (movesOf L (N.map (·.2))).length := by omega
      have em : (movesOf L (N.map (·.2)))[m]? = some (movesOf L (N.map (·.2)))[m] := List.getElem?_eq_getElem hm2
      obtain ⟨j, x, y, e1, e2, e3, e4⟩ := moves_at em
      rw [List.length_map] at e1
      obtain ⟨p0, _, a0, s0', t0⟩ := tup_at j (by omega)
      obtain ⟨p1, _, a1, s1', t1'⟩ := tup_at (j + 1) (by omega)
      rw [e2] at s0'
      rw [e3] at s1'
      have ex : x = p0.2 := Option.some.inj s0'
      have ey : y = p1.2 := Option.some.inj s1'
      subst ex ey
      obtain ⟨nm, hn1, hn2, _⟩ := nx_who (ch.step j _ _ e2 e3)
      have S4 := Sr.trans SH
      have R4 := R.same S4
      have x1 : ((N.length - 1 : Nat) : Int) + (m : Int) * -1 = ((j + 1 : Nat) : Int) := by omega
      have x0 : ((N.length - 1 : Nat) : Int) + (m : Int) * -1 - 1 = (j : Int) := by omega
      have hp4 := S4 _ _ hp
      have eD : DGet H4 d (.ref p0.1) (some (.str (tx nm))) := hk_some ((R.f _).trans hn1) ▸ DGet.t R4.nms (k := sk p0.2) (S4 _ _ t0)
      refine ⟨rfl, lc_yes ?_⟩
      refine ⟨_, rfl, a, _, dx, _, _, rfl, R4.ins, T.cl_Nests, T.n_Nests__names, rfl, _, rfl, _, rfl, _, _, rfl, rfl, p, _, _, _, rfl, rfl, SqL.of hp4, x0 ▸ a0, d, _, rfl, eD, _, rfl, _, rfl, _, _, rfl, rfl, p, _, _, _, rfl, rfl, SqL.of hp4, x0 ▸ a0, _, rfl, _, rfl, p, _, _, _, rfl, rfl, SqL.of hp4, x1 ▸ a1, (by show 3 ≤ sizeLine; decide), fun t ht4 => ?_⟩
      have St := same_new (o := .tup [.str (tx nm), .ref p0.1, .ref p1.1]) ht4
      have hD4 := St _ _ h3
      have hxl : xs.length = m := by
        have := PySem.Paired.length hps
        rw [List.length_take] at this
        omega
      have tup : ∀ b ys, H4 b = some (.tup ys) → (upd (upd H4 t (.tup [.str (tx nm), .ref p0.1, .ref p1.1])) D (.lst (xs ++ [.ref t]))) b = some (.tup ys) := fun b ys hb => by
        rw [upd_ne (ne_of (St _ _ hb) hD4 (by intro z; cases z))]
        exact St _ _ hb
      refine ⟨xs, hD4, small1000 (by omega), same_mut (SH.trans St) hD, xs ++ [.ref t], upd_same, ?_⟩
      rw [List.take_add_one, em]
      refine paired_snoc ?_ (paired_mono (fun _ _ r => MoveAt.keep r tup) hps)
      rw [e4]
      refine ⟨t, p0.1, p1.1, rfl, ?_, tup _ _ (S4 _ _ t0), tup _ _ (S4 _ _ t1')⟩
      rw [upd_ne (ne_of upd_same hD4 (by intro z; cases z)), upd_same, hn2]
    · rintro H3 ⟨SH, xs, h3, hps⟩
      rw [← hml, List.take_length] at hps
      exact k H3 D (Sr.trans SH) (Sr.free hD) ⟨xs, h3, hps⟩
theorem ok_Nests__ways (T : Tx K mg A) : FnOk P w K mg base (L2.CX P w) 6 A.a_Nests__ways A.d_Nests__ways ["self", "name"] (sp_Nests__ways A.c_Nests A.c_NoName) := by
  refine T.F_Nests__ways.okX sc_Nests__ways (fun vs H Q E h => ?_) (fun cdv Ar outer s H vs Q E hr h => ?_)
  · obtain ⟨a, F, c, t1, t2, L, vals, n, rfl, _⟩ := h
    rfl
  · obtain ⟨a, F, c, t1, t2, L, vals, n, rfl, TA, hn, hll, k1, k2⟩ := h
    obtain ⟨gd, dx, d, w, M, kv, rfl, R⟩ := id TA
    refine ⟨_, 
      (pss_one (ps_ret (pe_lc (own := [("nest", 2)]) (g := gName 2) (tt := tYes) (by rfl) sc_Nests__ways.nd (pi_tup (pe_meth (pv 0) T.cl_Nests T.m_Nests_homes (ok_Nests_homes T) (hr.mono (by decide)) T.b_Nests_homes .nil (passes_call (takes_of rfl rfl rfl rfl) (fun _ _ _ _ h => h)) (pa_cons (pv 1) pa_nil))) (blkOk_by (own := [("nest", 2)]) (N := ["self", "name", "nest"]) (sc := defScope s_Nests__ways) (by decide +kernel)) (fun _ _ _ _ _ => (pg_name (i := 2) sc_Nests__ways.nd rfl (Or.inl rfl))) (fun _ _ _ _ _ => pts_nil) (fun _ _ _ _ _ => (pe_meth (pv 0) T.cl_Nests T.m_Nests_way (ok_Nests_way T) hr T.b_Nests_way .nil TB.passF (pa_cons (pv 2) pa_nil)))))), ?_⟩
    refine ⟨_, rfl, a, dx, _, rfl, R.ins, flds_no (by decide +kernel), _, rfl, a, dx, d, w, c, t1, t2, n, rfl, R.ins, gd.c0, gd.c1, hn, fun ho H1 p qa qb S hp h1 h2 h3 => ?_, fun z => k2 z⟩
    refine ⟨p, rfl, ⟨_, SqT.of h1⟩, fun D hD => ?_⟩
    refine lc_it (walk_tup (xs := [V.ref qa, V.ref qb])) (fun m H2 => Same H1 H2 ∧ ∃ ps : List Addr, ps.length = m ∧ H2 D = some (.lst (ps.map V.ref)) ∧ ∀ (j : Nat) (r : Addr), ps[j]? = some r → r ≠ D ∧ ∃ W, WayAt H2 r W ∧ IsWay (nxN (hmN c t1 t2) (getN L)) (seatP (hmN c t1 t2 n) (j : Int)) W)
      ⟨same_new hD, [], rfl, upd_same, fun j p h => (by simp at h)⟩ (fun m H2 _ h => same_t h.1 (SqT.of h1)) ?_ ?_
    · rintro m x H2 H3 hm2 ⟨S1, ps, hpl, hD2, hps⟩ ⟨rfl, hx⟩
      have hm2' : m < 2 := hm2
      obtain ⟨q, rfl, hq⟩ : ∃ q, x = .ref q ∧ H1 q = some (.tup (sv (seatP (hmN c t1 t2 n) (m : Int)))) := by
        rcases (show m = 0 ∨ m = 1 by omega) with rfl | rfl
        · exact ⟨qa, (Option.some.inj hx).symm, h2⟩
        · exact ⟨qb, (Option.some.inj hx).symm, h3⟩
      have hi : InT c (seatP (hmN c t1 t2 n) (m : Int)) := home_in gd.c0 n (by omega)
      have S2 := S.trans S1
      refine ⟨rfl, lc_yes ?_⟩
      refine ⟨_, rfl, a, dx, _, rfl, S2 _ _ R.ins, flds_no (by decide +kernel), _, rfl, a, q, _, c, t1, t2, L, vals, _, rfl, TA.same S2, S1 _ _ hq, InT.small gd.c1 hi, hll, fun _ H4 r N S4 hr4 e4 t4 w4 => ?_, fun z => (z hi).elim⟩
      have rD : r ≠ D := (ne_of_none hD2 hr4).symm
      refine ⟨_, S4 _ _ hD2, (by rw [List.length_map]; exact small1000 (by omega)), same_mut (S1.trans S4) hD, ps ++ [r], by rw [List.length_append, hpl]; rfl, ?_, fun j r' hj => ?_⟩
      · rw [upd_same, List.map_append]
        rfl
      · have tup : ∀ b ys, H4 b = some (.tup ys) → (upd H4 D (.lst (ps.map V.ref ++ [.ref r]))) b = some (.tup ys) := fun b ys hb => by
          rw [upd_ne (ne_of hb (S4 _ _ hD2) (by intro z; cases z))]
          exact hb
        by_cases hjm : j < ps.length
        · rw [List.getElem?_append_left hjm] at hj
          obtain ⟨b1, W, ⟨N', c1, c2, c3⟩, b2⟩ := hps j r' hj
          exact ⟨b1, W, ⟨N', (upd_ne b1).trans (S4 _ _ c1), fun r hr => tup _ _ (S4 _ _ (c2 r hr)), c3⟩, b2⟩
        · rw [List.getElem?_append_right (by omega)] at hj
          have hj0 : j - ps.length = 0 := by
            have := (List.getElem?_eq_some_iff.mp hj).1
            simp at this
            omega
          rw [hj0] at hj
          have ep : r = r' := by simpa using hj
          subst ep
          have ej : j = m := by omega
          subst ej
          exact ⟨rD, _, ⟨N, (upd_ne rD).trans e4, fun r hr => tup _ _ (t4 r hr), rfl⟩, w4⟩
    · rintro H2 ⟨S1, ps, hpl, hD2, hps⟩
      have hpl2 : ps.length = 2 := hpl
      obtain ⟨pa, pb, rfl⟩ : ∃ pa pb, ps = [pa, pb] := by
        match ps, hpl2 with
        | [a, b], _ => exact ⟨a, b, rfl⟩
      obtain ⟨n1, W1, w1, i1⟩ := hps 0 pa rfl
      obtain ⟨n2, W2, w2, i2⟩ := hps 1 pb rfl
      exact k1 ho H2 D pa pb W1 W2 (S.trans S1) (S.free hD) hD2 n1 n2 w1 w2 i1 i2
end

end M
end K11

namespace K11
open PySem L2 Ck TS2 TX TB
namespace M
/-! the open way, moves, putting -/
def sp_Nests_moves (C CM CR : Addr) : Sp := fun vs H Q E => ∃ (a : Addr) (F : List Addr) (c t1 t2 : Int) (L : Held) (vals : Name → Int) (n : Name), vs = [.ref a, .str (tx n)] ∧ TabAt C H a F c t1 t2 L vals ∧ SmallN n ∧ L.length ≤ 900 ∧
  (n ∈ L.map (·.2) → ∀ H' p, Same H H' → H p = none → H' p = some (.lst []) → Q (.ref p) H') ∧
  (n ∉ L.map (·.2) → NameOk n → ∀ A B, IsWay (nxN (hmN c t1 t2) (getN L)) (seatP (hmN c t1 t2 n) 0) A → IsWay (nxN (hmN c t1 t2) (getN L)) (seatP (hmN c t1 t2 n) 1) B →
    (∀ W H' p, Taken L A B W → Same H H' → H p = none → MovesAt H' p (movesOf L W) → Q (.ref p) H') ∧ (¬ openW L A → ¬ openW L B → Ref0 H E CR)) ∧ (n ∉ L.map (·.2) → ¬ NameOk n → Ref0 H E CM)
section
variable {P : Program} {w : World} {K : PySem.W.Frag} {mg : Str → Option Value} {base : Heap} {A : Ad}
theorem ok_Nests__open_way (T : Tx K mg A) : FnOk P w K mg base (L2.CX P w) 7 A.a_Nests__open_way A.d_Nests__open_way ["self", "name"] (sp_Nests__open_way A.c_Nests A.c_NoName A.c_NoRoom) := by
  refine T.F_Nests__open_way.okX sc_Nests__open_way (fun vs H Q E h => ?_) (fun cdv Ar outer s H vs Q E hr h => ?_)
  · obtain ⟨a, F, c, t1, t2, L, vals, n, rfl, _⟩ := h
    rfl
  · obtain ⟨a, F, c, t1, t2, L, vals, n, rfl, TA, hn, hll, k1, k2⟩ := h
    obtain ⟨dx, fs, hins, _, _, _, hfm⟩ := TA.ins
    obtain ⟨gd, dx, d, w, M, kv, rfl, R⟩ := id TA
    classical
    refine ⟨_, 
      (pss_cons (ps_setLc (i := 2) (own := [("way", 3)]) (g := gName 3) (by rfl) sc_Nests__open_way.nd rfl rfl (sw_true rfl rfl rfl (by decide +kernel)) (pi_list (pe_meth (pv 0) T.cl_Nests T.m_Nests__ways (ok_Nests__ways T) hr T.b_Nests__ways .nil (passes_call (takes_of rfl rfl rfl rfl) (fun _ _ _ _ h => h)) (pa_cons (pv 1) pa_nil))) (blkOk_by (own := [("way", 3)]) (N := ["self", "name", "ways", "way"]) (sc := defScope s_Nests__open_way) (by decide +kernel)) (fun _ _ _ _ _ => (pg_name (i := 3) sc_Nests__open_way.nd rfl (Or.inl rfl))) (fun _ _ _ _ _ => (pts_one (pt_val (pe_meth (pv 0) T.cl_Nests T.m_Nests__is_open (ok_Nests__is_open T) (hr.mono (by decide)) T.b_Nests__is_open .nil pass0 (pa_cons (pv 3) pa_nil))))) (fun _ _ _ _ _ => (pv 3)))
      (pss_cons (ps_if (pt_not (pt_truth (pv 2) (by intro _; rfl))) 
        (pss_one (ps_raise rfl (takes_of rfl rfl rfl rfl) (SkE.pmk_own1 PySem.F.excBase_ValueError T.x_NoRoom T.g_NoRoom T.kk_NoRoom (raises_own T.bx_NoRoom T.tx_NoRoom) (by rfl) (pe_joined (.cons pe_str (.cons (pe_fmt (pv 1)) .nil)))))) pss_nil)
      (pss_one (ps_ret (TS10.pe_minLen rfl (by rfl) T.m_min (by rfl) T.m_len (pa_cons (pv 2) pa_nil)))))), ?_⟩
    refine ⟨_, rfl, a, dx, _, rfl, R.ins, flds_no (by decide +kernel), _, rfl, a, _, c, t1, t2, L, vals, n, rfl, TA, hn, hll, fun ho H1 r pa pb A1 B1 S hr0 h1 na nb wa wb ia ib => ?_, fun z => k2 z⟩
    obtain ⟨kT, kR⟩ := k1 ho A1 B1 ia ib
    refine ⟨r, rfl, ⟨_, SqL.of h1⟩, fun D hD => ?_⟩
    have TA1 := TA.same S
    -- the open ones
    refine lc_it (walk_list (xs := [V.ref pa, V.ref pb])) (fun m H2 => Same H1 H2 ∧ H2 D = some (.lst (((if 0 < m ∧ openW L A1 then [V.ref pa] else [])) ++ if 1 < m ∧ openW L B1 then [V.ref pb] else []))) ⟨same_new hD, by rw [upd_same, if_neg (by omega), if_neg (by omega)]; rfl⟩ (fun m H2 _ h => SqL.of (h.1 _ _ h1)) ?_ ?_
    · rintro m x H2 H3 hm ⟨S2, h2⟩ ⟨rfl, hx⟩
      have hm2 : m < 2 := hm
      have TA2 := TA1.same S2
      obtain ⟨dx2, fs2, hins2, _, _, _, _⟩ := TA2.ins
      have R2 := R.same (S.trans S2)
      rcases (show m = 0 ∨ m = 1 by omega) with rfl | rfl
      · obtain rfl : x = .ref pa := (Option.some.inj hx).symm
        rw [if_neg (by omega), if_neg (by omega)] at h2
        refine ⟨rfl, ?_⟩
        refine ⟨_, rfl, a, dx, _, rfl, R2.ins, flds_no (by decide +kernel), _, rfl, a, pa, _, c, t1, t2, L, vals, A1, rfl, TA2, wa.same S2, ia.ch.ne, fun op => ⟨_, rfl, iteT ?_⟩, fun op => ⟨_, rfl, iteF ⟨S2, ?_⟩⟩⟩
        · refine ⟨_, rfl, _, h2, (by show 0 < sizeLine; decide), same_mut S2 hD, ?_⟩
          rw [upd_same, if_pos ⟨by omega, op⟩, if_neg (by omega)]
          rfl
        · rw [h2, if_neg (fun z => op z.2), if_neg (by omega)]
      · obtain rfl : x = .ref pb := (Option.some.inj hx).symm
        rw [if_neg (fun z : 1 < 1 ∧ openW L B1 => absurd z.1 (by omega))] at h2
        refine ⟨rfl, ?_⟩
        refine ⟨_, rfl, a, dx, _, rfl, R2.ins, flds_no (by decide +kernel), _, rfl, a, pb, _, c, t1, t2, L, vals, B1, rfl, TA2, wb.same S2, ib.ch.ne, fun op => ⟨_, rfl, iteT ?_⟩, fun op => ⟨_, rfl, iteF ⟨S2, ?_⟩⟩⟩
        · refine ⟨_, rfl, _, h2, (by split <;> exact small1000 (by simp)), same_mut S2 hD, ?_⟩
          rw [upd_same, if_pos (show 1 < 1 + 1 ∧ openW L B1 from ⟨by omega, op⟩)]
          by_cases oa : openW L A1
          · rw [if_pos ⟨by omega, oa⟩, if_pos ⟨by omega, oa⟩]
            rfl
          · rw [if_neg (fun z => oa z.2), if_neg (fun z => oa z.2)]
            rfl
        · rw [h2, if_neg (fun z : 1 < 1 + 1 ∧ openW L B1 => op z.2)]
          by_cases oa : openW L A1
          · rw [if_pos ⟨by omega, oa⟩, if_pos ⟨by omega, oa⟩]
          · rw [if_neg (fun z => oa z.2), if_neg (fun z => oa z.2)]
    · rintro H2 ⟨S2, h2⟩
      have S02 := S.trans S2
      obtain ⟨NA, a1, a2, a3⟩ := WayAt.same wa S2
      obtain ⟨NB, b1, b2, b3⟩ := WayAt.same wb S2
      have hla : (refs NA).length = A1.length := by rw [← a3]; simp
      have hlb : (refs NB).length = B1.length := by rw [← b3]; simp
      have e2 : ([V.ref pa, V.ref pb] : List V).length = 2 := rfl
      rw [e2] at h2
      by_cases oa : openW L A1
      · rw [if_pos ⟨by omega, oa⟩] at h2
        by_cases ob : openW L B1
        · rw [if_pos ⟨by omega, ob⟩] at h2
          refine ⟨_, rfl, true, .inl ⟨_, SqL.of h2, rfl⟩, iteF ?_⟩
          refine ⟨_, rfl, D, _, [refs NA, refs NB], rfl, SqL.of h2, (by simp), .cons ⟨pa, rfl, a1⟩ (.cons ⟨pb, rfl, b1⟩ .nil), fun i y ys hy hys hb => ?_⟩
          match i, hy, hys, hb with
          | 0, hy, hys, hb =>
            cases Option.some.inj hy
            cases Option.some.inj hys
            have := (hb 1 _ rfl).1
            exact kT H2 pa A1 (.inl ⟨rfl, oa, fun _ => by omega⟩) S02 ⟨NA, a1, a2, a3⟩
          | 1, hy, hys, hb =>
            cases Option.some.inj hy
            cases Option.some.inj hys
            have := (hb 0 _ rfl).2 (by omega)
            exact kT H2 pb B1 (.inr ⟨rfl, ob, fun _ => by omega⟩) S02 ⟨NB, b1, b2, b3⟩
          | i + 2, hy, hys, hb => cases hy
        · rw [if_neg (fun z => ob z.2)] at h2
          refine ⟨_, rfl, true, .inl ⟨_, SqL.of h2, rfl⟩, iteF ?_⟩
          refine ⟨_, rfl, D, _, [refs NA], rfl, SqL.of h2, (by simp), .cons ⟨pa, rfl, a1⟩ .nil, fun i y ys hy hys hb => ?_⟩
          match i, hy, hys, hb with
          | 0, hy, hys, hb =>
            cases Option.some.inj hy
            exact kT H2 pa A1 (.inl ⟨rfl, oa, fun z => (ob z).elim⟩) S02 ⟨NA, a1, a2, a3⟩
          | i + 1, hy, hys, hb => cases hy
      · rw [if_neg (fun z => oa z.2)] at h2
        by_cases ob : openW L B1
        · rw [if_pos ⟨by omega, ob⟩] at h2
          refine ⟨_, rfl, true, .inl ⟨_, SqL.of h2, rfl⟩, iteF ?_⟩
          refine ⟨_, rfl, D, _, [refs NB], rfl, SqL.of h2, (by simp), .cons ⟨pb, rfl, b1⟩ .nil, fun i y ys hy hys hb => ?_⟩
          match i, hy, hys, hb with
          | 0, hy, hys, hb =>
            cases Option.some.inj hy
            exact kT H2 pb B1 (.inr ⟨rfl, ob, fun z => (oa z).elim⟩) S02 ⟨NB, b1, b2, b3⟩
          | i + 1, hy, hys, hb => cases hy
        · rw [if_neg (fun z => ob z.2)] at h2
          refine ⟨_, rfl, false, .inl ⟨_, SqL.of h2, rfl⟩, iteT ?_⟩
          have l1 : (tx n).length ≤ 1000 := by rw [tx_len]; exact hn
          have l3 : ((Str.ofString "there is no room for ")).length ≤ 30 := by decide +kernel
          have q1 := sz sz0 l3 (by decide)
          exact ⟨_, rfl, q1.1, _, rfl, .inl ⟨_, rfl, Nat.le_of_lt (small1000 l1), _, rfl, (sz q1.2 l1 (by decide)).1, kR oa ob _ S02⟩⟩
end

theorem taken_way {hm : Name → Int × Int} {L : Held} {n : Name} {A B W : List Seat} (h : Taken L A B W) (ia : IsWay (nxN hm (getN L)) (seatP (hm n) 0) A) (ib : IsWay (nxN hm (getN L)) (seatP (hm n) 1) B) :
    ∃ s0, (s0 = seatP (hm n) 0 ∨ s0 = seatP (hm n) 1) ∧ Chain (nxN hm (getN L)) s0 W ∧ openW L W := by
  rcases h with ⟨rfl, o, _⟩ | ⟨rfl, o, _⟩
  · exact ⟨_, .inl rfl, ia.ch, o⟩
  · exact ⟨_, .inr rfl, ib.ch, o⟩
section
variable {P : Program} {w : World} {K : PySem.W.Frag} {mg : Str → Option Value} {base : Heap} {A : Ad}
theorem ok_Nests_moves (T : Tx K mg A) : FnOk P w K mg base (L2.CX P w) 8 A.a_Nests_moves A.d_Nests_moves ["self", "name"] (sp_Nests_moves A.c_Nests A.c_NoName A.c_NoRoom) := by
  refine T.F_Nests_moves.okX sc_Nests_moves (fun vs H Q E h => ?_) (fun cdv Ar outer s H vs Q E hr h => ?_)
  · obtain ⟨a, F, c, t1, t2, L, vals, n, rfl, _⟩ := h
    rfl
  · obtain ⟨a, F, c, t1, t2, L, vals, n, rfl, TA, hn, hll, k1, k2, k3⟩ := h
    obtain ⟨gd, dx, d, w, M, kv, rfl, R⟩ := id TA
    refine ⟨_, 
      (pss_cons (ps_if (pt_cmp (pc_din (hu_of hr) (pv 1) (pe_fld (pv 0) rfl))) 
        (pss_one (ps_ret (pe_lst pa_nil))) pss_nil)
      (pss_one (ps_ret (pe_meth (pv 0) T.cl_Nests T.m_Nests__moves_on (ok_Nests__moves_on T) (hr.mono (by decide)) T.b_Nests__moves_on .nil pass0 (pa_cons (pe_meth (pv 0) T.cl_Nests T.m_Nests__open_way (ok_Nests__open_way T) hr T.b_Nests__open_way .nil (passes_call (takes_of rfl rfl rfl rfl) (fun _ _ _ _ h => h)) (pa_cons (pv 1) pa_nil)) pa_nil))))), ?_⟩
    refine ⟨_, rfl, _, rfl, a, _, dx, _, _, rfl, R.ins, T.cl_Nests, T.n_Nests__things, rfl, w, _, rfl, DGet.k (k := .inr (tx n)) R.ths, _, rfl, ?_⟩
    have hth := R.th.is n
    by_cases hin : n ∈ L.map (·.2)
    · cases e : thg L vals n with
      | none => exact (thg_none.mp e hin).elim
      | some r =>
        obtain ⟨s1, v1⟩ := r
        rw [e] at hth
        obtain ⟨t, q1, e1, _⟩ := hth
        rw [e1]
        exact iteT ⟨Nat.zero_le _, fun p hp => k1 hin _ p (same_new hp) hp upd_same⟩
    rw [thg_none.mpr hin] at hth
    rw [show valV kv (.inr (tx n)) = none from hth]
    refine iteF ?_
    refine ⟨_, rfl, a, dx, _, rfl, R.ins, flds_no (by decide +kernel), _, rfl, a, dx, _, rfl, R.ins, flds_no (by decide +kernel), _, rfl, a, _, c, t1, t2, L, vals, n, rfl, TA, hn, hll, fun ho A1 B1 ia ib => ⟨fun H1 r W tk S wa => ?_, fun oa ob => (k2 hin ho A1 B1 ia ib).2 oa ob⟩, fun z => k3 hin z⟩
    obtain ⟨s0, _, ch, _⟩ := taken_way tk ia ib
    have hwl := way_len ch
    exact ⟨a, r, _, c, t1, t2, L, vals, s0, W, rfl, TA.same S, wa, ch, by omega, fun H2 p S2 hp mv => (k2 hin ho A1 B1 ia ib).1 W H2 p tk (S.trans S2) (S.free hp) mv⟩
end

def sp_Nests_put (C CM CV CR : Addr) : Sp := fun vs H Q E => ∃ (a : Addr) (F : List Addr) (c t1 t2 : Int) (L : Held) (vals : Name → Int) (n : Name) (v : Int), vs = [.ref a, .str (tx n), .int v] ∧ TabAt C H a F c t1 t2 L vals ∧ SmallN n ∧ SmallI v ∧ L.length ≤ 400 ∧
  (¬ NameOk n → Ref0 H E CM) ∧ (NameOk n → ¬ VOk v → Ref0 H E CV) ∧
  (NameOk n → VOk v → n ∈ L.map (·.2) → ∀ H' F' p, KeepF F H H' → TabAt C H' a F' c t1 t2 L (fun m => if m = n then v else vals m) → (∀ b ∈ F', b ∈ F ∨ H b = none) → H p = none → p ∉ F' → H' p = some (.lst []) → Q (.ref p) H') ∧
  (NameOk n → VOk v → n ∉ L.map (·.2) → ∀ A B, IsWay (nxN (hmN c t1 t2) (getN L)) (seatP (hmN c t1 t2 n) 0) A → IsWay (nxN (hmN c t1 t2) (getN L)) (seatP (hmN c t1 t2 n) 1) B →
    (∀ W L' H' F' p, Taken L A B W → (∀ s, getN L' s = shiftF (getN L) W (some n) s) → KeepF F H H' → TabAt C H' a F' c t1 t2 L' (fun m => if m = n then v else vals m) → (∀ b ∈ F', b ∈ F ∨ H b = none) → H p = none → p ∉ F' → MovesAt H' p (movesOf L W) → Q (.ref p) H') ∧
    (¬ openW L A → ¬ openW L B → Ref0 H E CR))
/-- where each name stands while the moves are done, from the j-th nest of the way on -/
structure GI (L : Held) (vals : Name → Int) (W : List Seat) (j : Nat) (g : Thg) : Prop where
  no : ∀ m, g m = none ↔ m ∉ L.map (·.2)
  at_ : ∀ m s v, g m = some (s, v) → v = vals m ∧ ((∃ t x, j ≤ t ∧ W[t]? = some x ∧ W[t + 1]? = some s ∧ getN L x = some m) ∨ (getN L s = some m ∧ ∀ t, j ≤ t → t + 1 < W.length → W[t]? ≠ some s))
theorem GI.start {L : Held} {vals : Name → Int} {W : List Seat} {j : Nat} (ns : (L.map (·.1)).Nodup) (hj : W.length ≤ j + 1) : GI L vals W j (thg L vals) := by
  refine ⟨fun m => thg_none, fun m s v e => ?_⟩
  obtain ⟨h1, h2⟩ := thg_is e
  exact ⟨h2, .inr ⟨getN_of_mem ns h1, fun t h3 h4 => by omega⟩⟩
theorem GI.turn {L : Held} {vals : Name → Int} {W : List Seat} {j : Nat} {g : Thg} {o : Name} {x y : Seat} (G : GI L vals W (j + 1) g) (h1 : W[j]? = some x) (h2 : W[j + 1]? = some y) (ho : getN L x = some o) : GI L vals W j (fun m => if m = o then some (y, vals o) else g m) := by
  have hol : o ∈ L.map (·.2) := List.mem_map.mpr ⟨_, getN_mem ho, rfl⟩
  refine ⟨fun m => ?_, fun m s v e => ?_⟩
  · by_cases z : m = o
    · rw [if_pos z]
      exact ⟨fun q => (by cases q), fun q => (q (z ▸ hol)).elim⟩
    · rw [if_neg z]
      exact G.no m
  · by_cases z : m = o
    · rw [if_pos z] at e
      cases e
      exact ⟨by rw [z], .inl ⟨j, x, Nat.le_refl _, h1, h2, z ▸ ho⟩⟩
    · rw [if_neg z] at e
      obtain ⟨e1, e2⟩ := G.at_ m s v e
      refine ⟨e1, ?_⟩
      rcases e2 with ⟨t, u, a, b, c, d⟩ | ⟨a, b⟩
      · exact .inl ⟨t, u, by omega, b, c, d⟩
      · refine .inr ⟨a, fun t h3 h4 q => ?_⟩
        by_cases ht : t = j
        · subst ht
          rw [h1] at q
          cases q
          rw [ho] at a
          exact z (Option.some.inj a).symm
        · exact b t (by omega) h4 q
theorem GI.done {hm : Name → Int × Int} {L L' : Held} {vals : Name → Int} {W : List Seat} {g : Thg} {n : Name} {v : Int} {s0 : Seat} (G : GI L vals W 0 g) (ch : Chain (nxN hm (getN L)) s0 W) (op : openW L W) (hn : n ∉ L.map (·.2)) (hL : ∀ s, getN L' s = shiftF (getN L) W (some n) s) (n1 : (L.map (·.1)).Nodup) (n2 : (L'.map (·.1)).Nodup)
    (inj : ∀ s t n, getN L' s = some n → getN L' t = some n → s = t) (m : Name) : (if m = n then some (s0, v) else g m) = thg L' (fun k => if k = n then v else vals k) m := by
  by_cases z : m = n
  · rw [if_pos z]
    have h0 : getN L' s0 = some m := (shift_iff hL ch).mpr (.inl ⟨rfl, z⟩)
    rw [thg_of inj n2 h0]
    show some (s0, v) = some (s0, if m = n then v else vals m)
    rw [if_pos z]
  · rw [if_neg z]
    cases e : g m with
    | none =>
      refine (thg_none.mpr fun q => ?_).symm
      rcases (shift_names hL ch (fun z hz => op z hz) n1 n2).mp q with q | q
      · exact z q
      · exact (G.no m).mp e q
    | some r =>
      obtain ⟨s, u⟩ := r
      obtain ⟨e1, e2⟩ := G.at_ m s u e
      have h0 : getN L' s = some m := by
        refine (shift_iff hL ch).mpr ?_
        rcases e2 with ⟨t, x, _, a, b, c⟩ | ⟨a, b⟩
        · exact .inr (.inr ⟨t, x, a, b, c⟩)
        · refine .inr (.inl ⟨fun hs => ?_, a⟩)
          obtain ⟨t, ht, et⟩ := List.getElem_of_mem hs
          have e3 : W[t]? = some s := by rw [List.getElem?_eq_getElem ht, et]
          by_cases hl : t + 1 < W.length
          · exact b t (Nat.zero_le _) hl e3
          · have e4 : W.getLast? = some s := by
              rw [List.getLast?_eq_getElem?, show W.length - 1 = t by omega]
              exact e3
            rw [op s e4] at a
            cases a
      rw [thg_of inj n2 h0, e1]
      show some (s, vals m) = some (s, if m = n then v else vals m)
      rw [if_neg z]
section
variable {P : Program} {w : World} {K : PySem.W.Frag} {mg : Str → Option Value} {base : Heap} {A : Ad}
theorem ok_Nests_put (T : Tx K mg A) : FnOk P w K mg base (L2.CX P w) 8 A.a_Nests_put A.d_Nests_put ["self", "name", "value"] (sp_Nests_put A.c_Nests A.c_NoName A.c_NoValue A.c_NoRoom) := by
  refine T.F_Nests_put.okX sc_Nests_put (fun vs H Q E h => ?_) (fun cdv Ar outer s H vs Q E hr h => ?_)
  · obtain ⟨a, F, c, t1, t2, L, vals, n, v, rfl, _⟩ := h
    rfl
  · obtain ⟨a, F, c, t1, t2, L, vals, n, v, rfl, TA, hn, hv, hll, kM, kV, k1, k2⟩ := h
    obtain ⟨gd, dx, d, w, M, kv, rfl, R⟩ := id TA
    refine ⟨_, 
      (pss_cons (ps_expr (pe_call (ok__check_name T) (hr.mono (by decide)) (by rfl) T.g__check_name T.F__check_name.kp T.b__check_name .nil (passes_call (takes_of rfl rfl rfl rfl) (fun _ _ _ _ h => h)) (pa_cons (pv 1) pa_nil)))
      (pss_cons (ps_expr (pe_call (ok__check_value T) (hr.mono (by decide)) (by rfl) T.g__check_value T.F__check_value.kp T.b__check_value .nil (passes_call (takes_of rfl rfl rfl rfl) (fun _ _ _ _ h => h)) (pa_cons (pv 2) pa_nil)))
      (pss_cons (ps_if (pt_cmp (pc_din (hu_of hr) (pv 1) (pe_fld (pv 0) rfl))) 
        (pss_cons (ps_expr (pe_meth (pv 0) T.cl_Nests T.m_Nests__stand (ok_Nests__stand T) (hr.mono (by decide)) T.b_Nests__stand .nil pass0 (pa_cons (pv 1) (pa_cons (pv 2) (pa_cons (pe_meth (pv 0) T.cl_Nests T.m_Nests_where (ok_Nests_where T) (hr.mono (by decide)) T.b_Nests_where .nil (passes_call (takes_of rfl rfl rfl rfl) (fun _ _ _ _ h => h)) (pa_cons (pv 1) pa_nil)) pa_nil)))))
        (pss_one (ps_ret (pe_lst pa_nil)))) pss_nil)
      (pss_cons (ps_set (i := 3) sc_Nests_put.nd rfl (Or.inl rfl) (pe_meth (pv 0) T.cl_Nests T.m_Nests__open_way (ok_Nests__open_way T) hr T.b_Nests__open_way .nil (passes_call (takes_of rfl rfl rfl rfl) (fun _ _ _ _ h => h)) (pa_cons (pv 1) pa_nil)))
      (pss_cons (ps_set (i := 4) sc_Nests_put.nd rfl (Or.inl rfl) (pe_meth (pv 0) T.cl_Nests T.m_Nests__moves_on (ok_Nests__moves_on T) (hr.mono (by decide)) T.b_Nests__moves_on .nil pass0 (pa_cons (pv 3) pa_nil)))
      (pss_cons (ps_for (passes_of rfl) rfl (pi_list (pv 4)) (pg_tup rfl (pgs_cons (pg_name (i := 5) sc_Nests_put.nd rfl (Or.inl rfl)) (pgs_cons (pg_name (i := 6) sc_Nests_put.nd rfl (Or.inl rfl)) (pgs_cons (pg_name (i := 7) sc_Nests_put.nd rfl (Or.inl rfl)) pgs_nil)))) 
        (pss_one (ps_expr (pe_meth (pv 0) T.cl_Nests T.m_Nests__stand (ok_Nests__stand T) (hr.mono (by decide)) T.b_Nests__stand .nil pass0 (pa_cons (pv 5) (pa_cons (pe_meth (pv 0) T.cl_Nests T.m_Nests_value (ok_Nests_value T) (hr.mono (by decide)) T.b_Nests_value .nil (passes_call (takes_of rfl rfl rfl rfl) (fun _ _ _ _ h => h)) (pa_cons (pv 5) pa_nil)) (pa_cons (pv 7) pa_nil)))))))
      (pss_cons (ps_expr (pe_meth (pv 0) T.cl_Nests T.m_Nests__stand (ok_Nests__stand T) (hr.mono (by decide)) T.b_Nests__stand .nil pass0 (pa_cons (pv 1) (pa_cons (pv 2) (pa_cons (pe_ix (r := rIxL K) ix_list (pv 3) pe_int (fun _ _ => rfl)) pa_nil)))))
      (pss_one (ps_ret (pv 4)))))))))), ?_⟩
    refine ⟨_, rfl, n, rfl, hn, fun ho => ?_, fun ho => kM ho _ (Same.refl _)⟩
    refine ⟨_, rfl, v, rfl, hv, fun hb => ?_, fun hb => kV ho hb _ (Same.refl _)⟩
    refine ⟨_, rfl, _, rfl, a, _, dx, _, _, rfl, R.ins, T.cl_Nests, T.n_Nests__things, rfl, w, _, rfl, DGet.k (k := .inr (tx n)) R.ths, _, rfl, ?_⟩
    have hth := R.th.is n
    by_cases hin : n ∈ L.map (·.2)
    · cases e : thg L vals n with
      | none => exact (thg_none.mp e hin).elim
      | some r =>
        obtain ⟨s1, v1⟩ := r
        rw [e] at hth
        obtain ⟨t, q1, e1, _⟩ := hth
        rw [e1]
        refine iteT ?_
        obtain ⟨hm, rfl⟩ := thg_is e
        have hs : getN L s1 = some n := getN_of_mem gd.ns hm
        refine ⟨_, rfl, a, dx, _, rfl, R.ins, flds_no (by decide +kernel), _, rfl, _, rfl, _, rfl, a, dx, _, rfl, R.ins, flds_no (by decide +kernel), _, rfl, a, dx, d, w, c, t1, t2, _, _, _, M, kv, n, rfl, R, hn, fun z => (by rw [e] at z; cases z), fun s2 v2 e2 q hq => ?_⟩
        rw [e] at e2
        cases e2
        refine ⟨a, q, dx, d, w, c, t1, t2, L.length, getN L, thg L vals, M, kv, n, v, s1, rfl, R, by omega, hq, fun H1 L1 kv1 R1 KF => ?_⟩
        refine ⟨Nat.zero_le _, fun p hp => ?_⟩
        have Sp := same_new (o := .lst []) hp
        have TA1 : TabAt A.c_Nests H1 a [a, d, w] c t1 t2 L (fun m => if m = n then v else vals m) := TabAt.of gd (R1.cast (fun u => ?_) fun m => ?_)
        · have hp0 : H p = none := by
            cases z : H p with
            | none => rfl
            | some o =>
              by_cases hpF : p ∈ [a, d, w]
              · obtain ⟨o2, z2, _⟩ := TA1.has p hpF
                rw [hp] at z2
                cases z2
              · rw [KF p o hpF z] at hp
                cases hp
          exact k1 ho hb hin _ [a, d, w] p (KF.trans (KeepF.of (F := []) Sp) fun b hb => (by cases hb)) (TA1.same Sp) (fun b hb => .inl hb) hp0 (TA1.new hp) upd_same
        · by_cases z : u = s1
          · rw [if_pos z, z, hs]
          · rw [if_neg z]
        · by_cases z : m = n
          · rw [if_pos z, z, thg_of (fun s t k => gd.inj) gd.ns hs]
            simp
          · rw [if_neg z]
            unfold thg
            congr 1
            funext x
            show (x.1, vals m) = (x.1, if m = n then v else vals m)
            rw [if_neg z]
    rw [thg_none.mpr hin] at hth
    rw [show valV kv (.inr (tx n)) = none from hth]
    refine iteF ?_
    refine ⟨_, rfl, a, dx, _, rfl, R.ins, flds_no (by decide +kernel), _, rfl, a, _, c, t1, t2, L, vals, n, rfl, TA, hn, by omega, fun ho A1 B1 ia ib => ⟨fun H1 r W tk S wa => ?_, fun oa ob => (k2 ho hb hin A1 B1 ia ib).2 oa ob⟩, fun z => (z ho).elim⟩
    obtain ⟨s0, hs0, ch, op⟩ := taken_way tk ia ib
    have hwl := way_len ch
    have TA1 := TA.same S
    refine ⟨_, rfl, a, dx, _, rfl, S _ _ R.ins, flds_no (by decide +kernel), _, rfl, a, r, _, c, t1, t2, L, vals, s0, W, rfl, TA1, wa, ch, by omega, fun H2 p S2 hp mv => ?_⟩
    obtain ⟨xs, hpx, hps⟩ := mv
    have S02 := S.trans S2
    have TA2 := TA.same S02
    have wa2 := WayAt.same wa S2
    have R2 := R.same S02
    have hpF : p ∉ [a, d, w] := TA1.new hp
    have hp0 := S.free hp
    obtain ⟨N, hr1, hr2, hr3⟩ := wa2
    have hrF : r ∉ [a, d, w] := fun z => by
      obtain ⟨N0, q1, _⟩ := wa
      rcases List.mem_cons.mp z with z | z
      · rw [z, (R.same S).ins] at q1; cases q1
      rcases List.mem_cons.mp z with z | z
      · rw [z, (R.same S).nms] at q1; cases q1
      · rw [List.mem_singleton.mp z, (R.same S).ths] at q1; cases q1
    have hxl : xs.length = W.length - 1 := by rw [PySem.Paired.length hps, moves_len]
    have hW0 : 0 < W.length := List.length_pos_iff.mpr ch.ne
    have upF : ∀ {H' : Hp}, KeepF [a, d, w] H2 H' → (∀ b ys, H2 b = some (.tup ys) → H' b = some (.tup ys)) := fun KF b ys e => KF b _ (TA2.tup e) e
    refine ⟨_, rfl, p, rfl, ⟨_, SqL.of hpx⟩, ?_⟩
    refine for_it walk_list (fun i σ H3 => (∃ o5 o6 o7, σ = [some (.ref a), some (.str (tx n)), some (.int v), some (.ref r), some (.ref p), o5, o6, o7]) ∧ KeepF [a, d, w] H2 H3 ∧ ∃ (f : Seat → Option Name) (g : Thg) (M' : Held) (kv' : List (Key × V)), Raw A.c_Nests H3 a dx d w c t1 t2 (L.length + i) f g M' kv' ∧
        ∀ j, j + i + 1 = W.length → GI L vals W j g ∧ ∀ x, W[j]? = some x → f = shiftF (getN L) (W.drop (j + 1)) (getN L x))
      ⟨⟨_, _, _, rfl⟩, fun b o _ e => e, getN L, thg L vals, M, kv, R2, fun j hj => ⟨GI.start gd.ns (by omega), fun x hx => ?_⟩⟩ (fun i σ H3 _ h => SqL.of (h.2.1 _ _ hpF hpx)) ?_ ?_
    · have e : W.drop (j + 1) = [] := List.drop_eq_nil_of_le (by omega)
      rw [e]
      rfl
    · rintro i y σ H3 H4 hi ⟨⟨o5, o6, o7, rfl⟩, KF, f, g, M', kv', R3, hG⟩ ⟨rfl, hy⟩
      have hi2 : i < (movesOf L W).length := by rw [moves_len]; omega
      have em : (movesOf L W)[i]? = some (movesOf L W)[i] := List.getElem?_eq_getElem hi2
      obtain ⟨j, x, z, e1, e2, e3, e4⟩ := moves_at em
      obtain ⟨b, hb1, hb2⟩ := TS10.paired_at hps i y hy
      rw [em] at hb1
      cases hb1
      rw [e4] at hb2
      obtain ⟨t, q1, q2, rfl, m1, m2, m3⟩ := hb2
      obtain ⟨nm, hn1, hn2, _⟩ := nx_who (ch.step j _ _ e2 e3)
      simp only at m1 m2 m3
      rw [hn2] at m1
      obtain ⟨G, hf⟩ := hG (j + 1) (by omega)
      have hf1 := hf z e3
      have ho2 : NameOk nm := gd.ok _ (getN_mem hn1)
      have hgo : ∃ s3, g nm = some (s3, vals nm) := by
        cases e : g nm with
        | none => exact ((G.no nm).mp e (List.mem_map.mpr ⟨_, getN_mem hn1, rfl⟩)).elim
        | some r2 =>
          obtain ⟨s3, v3⟩ := r2
          exact ⟨s3, by rw [(G.at_ _ _ _ e).1]⟩
      obtain ⟨s3, hgo⟩ := hgo
      refine ⟨t, _, rfl, SqT.of (upF KF _ _ m1), rfl, _, _, rfl, _, _, rfl, _, _, rfl, rfl, ?_⟩
      refine ⟨_, rfl, a, dx, _, rfl, R3.ins, flds_no (by decide +kernel), _, rfl, _, rfl, a, dx, _, rfl, R3.ins, flds_no (by decide +kernel), _, rfl, a, dx, d, w, c, t1, t2, _, _, _, M', kv', nm, rfl, R3, nameOk_small ho2, fun z => (by rw [hgo] at z; cases z), fun s4 v4 e5 => ?_⟩
      rw [hgo] at e5
      cases e5
      refine ⟨_, rfl, a, q2, dx, d, w, c, t1, t2, _, f, g, M', kv', nm, vals nm, z, rfl, R3, by omega, upF KF _ _ m3, fun H5 L5 kv5 R5 KF5 => ?_⟩
      refine ⟨⟨_, _, _, rfl⟩, fun b o hb e => KF5 b o hb (KF b o hb e), _, _, L5, kv5, R5, fun j' hj' => ?_⟩
      have ej : j' = j := by omega
      subst ej
      refine ⟨G.turn e2 e3 hn1, fun x' hx' => ?_⟩
      rw [e2] at hx'
      cases hx'
      have q := shiftF_set (getN L) W ch.nd j' x z e2 e3
      rw [← q, hf1, hn1]
    · rintro σ H3 ⟨⟨o5, o6, o7, rfl⟩, KF, f, g, M', kv', R3, hG⟩
      obtain ⟨G, hf⟩ := hG 0 (by omega)
      obtain ⟨x0, W', rfl⟩ : ∃ x0 W', W = x0 :: W' := by
        cases W with
        | nil => cases hW0
        | cons x r => exact ⟨x, r, rfl⟩
      have ex0 : x0 = s0 := Option.some.inj ch.head
      have hf0 := hf x0 rfl
      obtain ⟨p0, N', rfl⟩ : ∃ p0 N', N = p0 :: N' := by
        cases N with
        | nil => cases hr3
        | cons x r => exact ⟨x, r, rfl⟩
      have ep0 : p0.2 = x0 := (List.cons.inj hr3).1
      have hq0 : H3 p0.1 = some (.tup (sv s0)) := by
        rw [← ex0, ← ep0]
        exact upF KF _ _ (hr2 p0 List.mem_cons_self)
      refine ⟨_, rfl, a, dx, _, rfl, R3.ins, flds_no (by decide +kernel), _, rfl, _, rfl, _, rfl, r, _, _, _, rfl, rfl, SqL.of (KF _ _ hrF hr1), atI_nat (j := 0) rfl, a, p0.1, dx, d, w, c, t1, t2, _, f, g, M', kv', n, v, s0, rfl, R3, by omega, hq0, fun H5 L5 kv5 R5 KF5 => ?_⟩
      have KF02 : KeepF [a, d, w] H H5 := fun b o hb e => KF5 b o hb (KF b o hb (S02 _ _ e))
      have hL : ∀ s, getN L5 s = shiftF (getN L) (x0 :: W') (some n) s := fun s => by
        rw [R5.f, hf0, ← ex0]
        rfl
      have g5 : GoodT c t1 t2 L5 := gd.shift hin ho hs0 ch hL R5.nd
      refine ⟨_, rfl, (k2 ho hb hin A1 B1 ia ib).1 _ L5 H5 [a, d, w] p tk hL KF02 (TabAt.of g5 (R5.cast (fun s => (R5.f s).symm) fun m => G.done ch op hin hL gd.ns R5.nd (fun s t k => g5.inj) m)) (fun b hb => .inl hb) hp0 hpF ⟨xs, KF5 _ _ hpF (KF _ _ hpF hpx), paired_mono (fun _ _ r => MoveAt.keep r fun b ys e => KF5 b _ (TA2.tup e) (upF KF _ _ e)) hps⟩⟩
end

end M
end K11

namespace K11
open PySem L2 Ck TS2 TX TB
/-! a note's numbers -/
theorem zero_tx : ("0" : Str) = tx [48] := by decide +kernel
theorem dash_tx : ("-" : Str) = tx [45] := by decide +kernel
theorem dash0_tx : ("-0" : Str) = tx [45, 48] := by decide +kernel
theorem str_is {a b : List Nat} : decide (V.str (tx a) = V.str (tx b)) = decide (a = b) := by
  by_cases h : a = b
  · rw [h, decide_eq_true rfl, decide_eq_true rfl]
  · rw [decide_eq_false h, decide_eq_false fun z => h (tx_inj (V.str.inj z))]
def sp__number (C : Addr) : Sp := fun vs H Q E => ∃ w : Name, vs = [.str (tx w)] ∧ w.length ≤ 20000 ∧ (∀ n, numF w = some n → Q (.int n) H) ∧ (numF w = none → E (.ref C) none H)
def sp__value (C : Addr) : Sp := fun vs H Q E => ∃ w : Name, vs = [.str (tx w)] ∧ w.length ≤ 20000 ∧ (∀ n, valF w = some n → Q (.int n) H) ∧ (valF w = none → E (.ref C) none H)
namespace M
section
variable {P : Program} {w : World} {K : PySem.W.Frag} {mg : Str → Option Value} {base : Heap} {A : Ad}
theorem ok__number (T : Tx K mg A) : FnOk P w K mg base (L2.CX P w) 1 A.a__number A.d__number ["word"] (sp__number A.c_NoNote) := by
  refine T.F__number.okX sc__number (fun vs H Q E h => ?_) (fun cdv Ar outer s H vs Q E hr h => ?_)
  · obtain ⟨n, rfl, _⟩ := h
    rfl
  · obtain ⟨w, rfl, hl, k1, k2⟩ := h
    refine ⟨_, 
      (pss_cons (ps_if (PW.pt (pw_or (pt_cmpR op_eq (pv 0) pe_str (nomark _)) (pw_or1 (pt_cmpR op_gt (pe_callB call_len_str (by rfl) T.m_len PySem.boot_len (pa_cons (pv 0) pa_nil)) (pe_glob (v := .int 10) (by rfl) T.c_MOST_FIGURES ⟨_, rfl⟩) (nomark _))))) 
        (pss_one (ps_raise rfl (takes_of rfl rfl rfl rfl) (SkE.pmk_own1 PySem.F.excBase_ValueError T.x_NoNote T.g_NoNote T.kk_NoNote (raises_own T.bx_NoNote T.tx_NoNote) (by rfl) (pe_joined (.cons pe_str (.cons (pe_fmt (pv 0)) .nil)))))) pss_nil)
      (pss_cons (ps_for (passes_of rfl) rfl (pi_str (pv 0)) (pg_name (i := 1) sc__number.nd rfl (Or.inl rfl)) 
        (pss_one (ps_if (pt_cmpR op_notIn_sign (pv 1) (pe_glob (v := .str "0123456789") (by rfl) T.c_FIGURES ⟨_, rfl⟩) rfl) 
          (pss_one (ps_raise rfl (takes_of rfl rfl rfl rfl) (SkE.pmk_own1 PySem.F.excBase_ValueError T.x_NoNote T.g_NoNote T.kk_NoNote (raises_own T.bx_NoNote T.tx_NoNote) (by rfl) (pe_joined (.cons pe_str (.cons (pe_fmt (pv 0)) .nil)))))) pss_nil)))
      (pss_cons (ps_if (PW.pt (pw_and (pt_cmpR op_eq (pe_ix ix_str (pv 0) pe_int (fun _ _ => rfl)) pe_str (nomark _)) (pw_and1 (pt_cmpR op_ne (pv 0) pe_str (nomark _))))) 
        (pss_one (ps_raise rfl (takes_of rfl rfl rfl rfl) (SkE.pmk_own1 PySem.F.excBase_ValueError T.x_NoNote T.g_NoNote T.kk_NoNote (raises_own T.bx_NoNote T.tx_NoNote) (by rfl) (pe_joined (.cons pe_str (.cons (pe_fmt (pv 0)) .nil)))))) pss_nil)
      (pss_one (ps_ret (pe_callTy call_int_str (by rfl) T.m_int (by decide +kernel) (pa_cons (pv 0) pa_nil))))))), ?_⟩
    have a1 : (tx w).length ≤ 20000 := by rw [tx_len]; exact hl
    have bad : ∀ (m : Str) (v : Option V), m.length ≤ 20 → numF w = none → tJs [tC (V.str m), tFmt (tVar 0)] Str.empty [some (.str (tx w)), v] H fun out H1 => E (.ref A.c_NoNote) none H1 := fun m v hm hn => by
      have a2 := sz sz0 hm (by decide)
      exact ⟨_, rfl, a2.1, _, rfl, .inl ⟨_, rfl, Nat.le_of_lt (by have := sizeLine_eq; omega), _, rfl, (sz a2.2 a1 (by decide)).1, k2 hn⟩⟩
    have m1 : ("no number: " : Str).length ≤ 20 := by decide +kernel
    have m2 : ("noughts ahead: " : Str).length ≤ 20 := by decide +kernel
    by_cases h0 : w = []
    · refine ⟨_, rfl, rfl, true, (by rw [nil_tx, str_is, decide_eq_true h0]), iteT (iteT (bad _ none m1 ?_))⟩
      unfold numF
      rw [if_pos (.inl h0)]
    refine ⟨_, rfl, rfl, false, (by rw [nil_tx, str_is, decide_eq_false h0]), iteF ?_⟩
    refine ⟨_, rfl, _, rfl, Nat.le_of_lt (by have := sizeLine_eq; omega), _, _, rfl, rfl, ?_⟩
    by_cases h1 : 10 < w.length
    · refine ⟨true, congrArg V.bl (decide_eq_true (by rw [tx_len]; omega)), iteT (bad _ none m1 ?_)⟩
      unfold numF
      rw [if_pos (.inr (.inl h1))]
    refine ⟨false, congrArg V.bl (decide_eq_false (by rw [tx_len]; omega)), iteF ?_⟩
    refine ⟨_, rfl, _, rfl, for_it walk_str (fun i σ H' => H' = H ∧ (∃ v, σ = [some (.str (tx w)), v]) ∧ ∀ c ∈ w.take i, c ∈ figs) ⟨rfl, ⟨_, rfl⟩, fun c hc => by simp at hc⟩ (fun _ _ _ _ _ => trivial) ?_ ?_⟩
    · rintro i x σ H1 H2 hi ⟨rfl, ⟨v, rfl⟩, hin⟩ ⟨rfl, c, hc, rfl⟩
      refine ⟨_, rfl, c, _, rfl, rfl, _, rfl, ?_⟩
      rw [figs_tx]
      refine ite2 (fun e5 => ?_) (fun e5 => ?_)
      · have e6 : c ∉ figs := by simpa using e5
        refine bad _ _ m1 ?_
        unfold numF
        rw [if_pos (.inr (.inr (.inl ⟨c, mem_at hc, e6⟩)))]
      · have e6 : c ∈ figs := by simpa using e5
        refine ⟨rfl, ⟨_, rfl⟩, fun d hd => ?_⟩
        rw [take_snoc hc] at hd
        rcases List.mem_append.mp hd with z | z
        · exact hin d z
        · rw [List.mem_singleton.mp z]
          exact e6
    · rintro σ H1 ⟨rfl, ⟨v, rfl⟩, hin⟩
      have hs : (tx w).cps.size = w.length := tx_len w
      rw [hs, List.take_length] at hin
      obtain ⟨c, r, rfl⟩ : ∃ c r, w = c :: r := by
        cases w with
        | nil => exact absurd rfl h0
        | cons c r => exact ⟨c, r, rfl⟩
      have sl : (tx (c :: r)).length ≤ sizeLine := Nat.le_of_lt (by have := sizeLine_eq; omega)
      refine ⟨_, rfl, _, _, c, rfl, rfl, sl, atI_nat (j := 0) rfl, rfl, ?_⟩
      have good : ¬ (c = 48 ∧ r ≠ []) → numF (c :: r) = some ((PySem.NumText.digitsVal (c :: r) : Nat) : Int) := fun z => by
        unfold numF
        rw [if_neg]
        rintro (q | q | ⟨d, hd, q⟩ | ⟨q1, q2⟩)
        · exact h0 q
        · exact h1 q
        · exact q (hin d hd)
        · refine z ⟨Option.some.inj q1, fun e => q2 ?_⟩
          rw [e, Option.some.inj q1]
      have no : c = 48 → r ≠ [] → numF (c :: r) = none := fun z z2 => by
        unfold numF
        rw [if_pos (.inr (.inr (.inr ⟨by rw [z]; rfl, fun q => z2 (List.cons.inj q).2⟩)))]
      have it := int_of h0 (by omega) hin
      have l640 : (tx (c :: r)).length ≤ 640 := by rw [tx_len]; omega
      by_cases h2 : c = 48
      · refine ⟨true, congrArg V.bl (decide_eq_true (by rw [h2]; exact (congrArg V.str zero_tx.symm))), iteT ?_⟩
        by_cases h3 : r = []
        · refine ⟨_, rfl, rfl, false, ?_, iteF ?_⟩
          · rw [zero_tx, str_is, decide_eq_true (by rw [h2, h3])]
            rfl
          · exact ⟨_, rfl, _, _, rfl, it, l640, k1 _ (good fun z => z.2 h3)⟩
        · refine ⟨_, rfl, rfl, true, ?_, iteT (bad _ _ m2 (no h2 h3))⟩
          rw [zero_tx, str_is, decide_eq_false fun z => h3 (List.cons.inj z).2]
          rfl
      · refine ⟨false, ?_, iteF (iteF ?_)⟩
        · have e : (⟨#[c]⟩ : Str) = tx [c] := rfl
          rw [e, zero_tx, str_is, decide_eq_false fun z => h2 (List.cons.inj z).1]
        · exact ⟨_, rfl, _, _, rfl, it, l640, k1 _ (good fun z => h2 z.1)⟩
theorem starts_dash (w : Name) : Txt.startswith (tx w) ("-" : Str) = decide (w.head? = some 45) := by
  rw [dash_tx]
  cases w with
  | nil => decide +kernel
  | cons a r =>
    unfold PySem.Txt.startswith
    have h1 : decide (0 + (tx [45]).length ≤ (tx (a :: r)).length) = true := decide_eq_true (by rw [tx_len, tx_len]; simp)
    rw [h1, Bool.true_and, PySem.StrLaws.subAt_eq]
    have e1 : (List.take (tx [45]).length (List.drop 0 (tx (a :: r)).cps.toList)) = [a] := by rw [tx_len]; rfl
    have e2 : (tx [45]).cps.toList = [45] := rfl
    rw [e1, e2]
    by_cases h : a = 45
    · rw [h]
      rfl
    · have h2 : ¬ ((a :: r).head? = some 45) := fun z => h (Option.some.inj z)
      rw [decide_eq_false h2]
      simpa using h
theorem ok__value (T : Tx K mg A) : FnOk P w K mg base (L2.CX P w) 2 A.a__value A.d__value ["word"] (sp__value A.c_NoNote) := by
  refine T.F__value.okX sc__value (fun vs H Q E h => ?_) (fun cdv Ar outer s H vs Q E hr h => ?_)
  · obtain ⟨n, rfl, _⟩ := h
    rfl
  · obtain ⟨w, rfl, hl, k1, k2⟩ := h
    refine ⟨_, 
      (pss_cons (ps_if (pt_not (pt_val (pe_m1 PySem.F.slot_str_startswith PySem.F.type_str_startswith mt_startswith (pv 0) pe_str))) 
        (pss_one (ps_ret (pe_call (ok__number T) hr (by rfl) T.g__number T.F__number.kp T.b__number .nil (passes_call (takes_of rfl rfl rfl rfl) (fun _ _ _ _ h => h)) (pa_cons (pv 0) pa_nil)))) pss_nil)
      (pss_cons (ps_if (pt_cmpR op_eq (pv 0) pe_str (nomark _)) 
        (pss_one (ps_raise rfl (takes_of rfl rfl rfl rfl) (SkE.pmk_own1 PySem.F.excBase_ValueError T.x_NoNote T.g_NoNote T.kk_NoNote (raises_own T.bx_NoNote T.tx_NoNote) (by rfl) pe_str))) pss_nil)
      (pss_one (ps_ret (pe_un un_neg (pe_call (ok__number T) hr (by rfl) T.g__number T.F__number.kp T.b__number .nil (passes_call (takes_of rfl rfl rfl rfl) (fun _ _ _ _ h => h)) (pa_cons (pe_slice sl_str (pv 0) (po_some pe_int) po_none) pa_nil))))))), ?_⟩
    have a1 : (tx w).length ≤ sizeLine := Nat.le_of_lt (by rw [tx_len]; have := sizeLine_eq; omega)
    by_cases h : w.head? = some 45
    · refine ⟨_, rfl, ⟨_, rfl⟩, _, _, rfl, rfl, true, congrArg V.bl ((starts_dash w).trans (decide_eq_true h)), iteF ?_⟩
      by_cases h2 : w = [45, 48]
      · refine ⟨_, rfl, rfl, true, (by rw [dash0_tx, str_is, decide_eq_true h2]), iteT (k2 ?_)⟩
        unfold valF
        rw [if_pos h, if_pos h2]
      · refine ⟨_, rfl, rfl, false, (by rw [dash0_tx, str_is, decide_eq_false h2]), iteF ?_⟩
        have e1 : cutS (tx w) (some 1) none = tx (w.drop 1) := cut_hi w 1
        have ev : valF w = (numF (w.drop 1)).map fun z => -z := by
          unfold valF
          rw [if_pos h, if_neg h2]
        refine ⟨_, rfl, _, rfl, _, rfl, a1, w.drop 1, (by rw [e1]; rfl), (by rw [List.length_drop]; omega), fun n hn => ⟨_, rfl, k1 (-n) (by rw [ev, hn]; rfl)⟩, fun hn => k2 (by rw [ev, hn]; rfl)⟩
    · have ev : valF w = numF w := by
        unfold valF
        rw [if_neg h]
      refine ⟨_, rfl, ⟨_, rfl⟩, _, _, rfl, rfl, false, congrArg V.bl ((starts_dash w).trans (decide_eq_false h)), iteT ?_⟩
      exact ⟨_, rfl, w, rfl, hl, fun n hn => k1 n (ev.trans hn), fun hn => k2 (ev.trans hn)⟩
end
end M

end K11

namespace K11
open PySem L2 Ck TS2 TX TB
/-! a note's rows -/
def wlist (ws : List Name) : List V := ws.map fun w => V.str (tx w)
def cost (ws : List Name) : Nat := (ws.map fun w => 10 * w.length + 4).sum
theorem cost_mem {ws : List Name} {w : Name} (h : w ∈ ws) : w.length ≤ cost ws := by
  induction ws with
  | nil => cases h
  | cons v r ih =>
    have e : cost (v :: r) = 10 * v.length + 4 + cost r := by unfold cost; rw [List.map_cons, List.sum_cons]
    rcases List.mem_cons.mp h with z | z
    · rw [e, z]
      omega
    · have := ih z
      omega
theorem cost_cuts (c : Nat) : ∀ l : List Nat, cost (cutsAt c l) ≤ 14 * l.length + 4
  | [] => by
    show 4 ≤ 14 * 0 + 4
    omega
  | d :: r => by
    have ih := cost_cuts c r
    rw [cutsAt, List.length_cons]
    by_cases h : d = c
    · rw [if_pos h]
      have e : cost ([] :: cutsAt c r) = 4 + cost (cutsAt c r) := by unfold cost; rw [List.map_cons, List.sum_cons]; rfl
      omega
    · rw [if_neg h]
      cases q : cutsAt c r with
      | nil => exact absurd q (cuts_ne c r)
      | cons p ps =>
        rw [q] at ih
        have e1 : cost (p :: ps) = 10 * p.length + 4 + cost ps := by unfold cost; rw [List.map_cons, List.sum_cons]
        have e2 : cost ((d :: p) :: ps) = 10 * (p.length + 1) + 4 + cost ps := by unfold cost; rw [List.map_cons, List.sum_cons]; rfl
        show cost ((d :: p) :: ps) ≤ _
        omega
theorem fmt_cost (ws : List Name) : fmtCost (ws.map tx) = cost ws := by
  unfold fmtCost cost
  rw [List.map_map]
  refine congrArg List.sum (List.map_congr_left fun w _ => ?_)
  show 10 * (tx w).length + 4 = _
  rw [tx_len]
/-- words that can be told -/
structure Wds (H : Hp) (p : Addr) (ws : List Name) : Prop where
  at_ : H p = some (.lst (wlist ws))
  ne : ws ≠ []
  cs : cost ws ≤ 300000
  ch : ∀ w ∈ ws, ∀ c ∈ w, c < 256
theorem Wds.same {H H' : Hp} {p : Addr} {ws : List Name} (h : Wds H p ws) (e : Same H H') : Wds H' p ws := ⟨e _ _ h.at_, h.ne, h.cs, h.ch⟩
theorem Wds.len {H : Hp} {p : Addr} {ws : List Name} (h : Wds H p ws) {w : Name} (hw : w ∈ ws) : w.length ≤ 300000 := Nat.le_trans (cost_mem hw) h.cs
def sp__head (C : Addr) : Sp := fun vs H Q E => ∃ (p : Addr) (ws : List Name), vs = [.ref p] ∧ Wds H p ws ∧ (∀ w ∈ ws, w.length ≤ 20000) ∧
  (∀ x y z, headF ws = some (x, y, z) → ∀ H' q, Same H H' → H' q = some (.tup [.int x, .int y, .int z]) → Q (.ref q) H') ∧ (headF ws = none → ∀ H', Same H H' → E (.ref C) none H')
def sp__thing (C : Addr) : Sp := fun vs H Q E => ∃ (p : Addr) (ws : List Name), vs = [.ref p] ∧ Wds H p ws ∧ (∀ w ∈ ws, w.length ≤ 20000) ∧
  (∀ n v s, thingF ws = some (n, v, s) → ∀ H' q r, Same H H' → H' q = some (.tup [.str (tx n), .int v, .ref r]) → H' r = some (.tup (sv s)) → Q (.ref q) H') ∧ (thingF ws = none → ∀ H', Same H H' → E (.ref C) none H')
namespace M
theorem wds_bad {K : PySem.W.Frag} {H : Hp} {p : Addr} {ws : List Name} (h : Wds H p ws) {C : Addr} {E : XK} (m : Str) (hm : m.length ≤ 50) (k : E (.ref C) none H) : tJs [tC (V.str m), TS11.tFmtLS K (tVar 0)] Str.empty [some (.ref p)] H fun out H1 => E (.ref C) none H1 := by
  have a2 := sz sz0 hm (by decide)
  have f := fmt_cost ws
  have c := h.cs
  have hz : fmtCost (ws.map tx) + 7 ≤ sizeLine := by have := sizeLine_eq; omega
  refine ⟨_, rfl, a2.1, _, rfl, p, ws.map tx, rfl, SqL.of (by rw [List.map_map]; exact h.at_), (fun z => h.ne (List.map_eq_nil_iff.mp z)), fun y hy x hx => ?_, hz, fun t ht => ⟨t, rfl, ?_, k⟩⟩
  · obtain ⟨w, hw, rfl⟩ := List.mem_map.mp hy
    exact Nat.lt_of_lt_of_le (h.ch w hw x hx) (by decide)
  · exact (sz a2.2 ht (by omega)).1
section
variable {P : Program} {w : World} {K : PySem.W.Frag} {mg : Str → Option Value} {base : Heap} {A : Ad}
theorem ok__head (T : Tx K mg A) : FnOk P w K mg base (L2.CX P w) 2 A.a__head A.d__head ["words"] (sp__head A.c_NoNote) := by
  refine T.F__head.okX sc__head (fun vs H Q E h => ?_) (fun cdv Ar outer s H vs Q E hr h => ?_)
  · obtain ⟨p, ws, rfl, _⟩ := h
    rfl
  · obtain ⟨p, ws, rfl, hw, hl, k1, k2⟩ := h
    refine ⟨_, 
      (pss_cons (ps_if (PW.pt (pw_or (pt_cmpR op_ne (pe_callB call_len_seq (by rfl) T.m_len PySem.boot_len (pa_cons (pv 0) pa_nil)) (pe_glob (v := .int 4) (by rfl) T.c_WORDS ⟨_, rfl⟩) (nomark _)) (pw_or1 (pt_cmpR op_ne (pe_ix (r := rIxL K) ix_list (pv 0) pe_int (fun _ _ => rfl)) pe_str (nomark _))))) 
        (pss_one (ps_raise rfl (takes_of rfl rfl rfl rfl) (SkE.pmk_own1 PySem.F.excBase_ValueError T.x_NoNote T.g_NoNote T.kk_NoNote (raises_own T.bx_NoNote T.tx_NoNote) (by rfl) (pe_joined (.cons pe_str (.cons (TS11.pe_fmtLS hr (pv 0)) .nil)))))) pss_nil)
      (pss_one (ps_ret (pe_tup (pa_cons (pe_call (ok__number T) hr (by rfl) T.g__number T.F__number.kp T.b__number .nil (passes_call (takes_of rfl rfl rfl rfl) (fun _ _ _ _ h => h)) (pa_cons (pe_ix (r := rIxL K) ix_list (pv 0) pe_int (fun _ _ => rfl)) pa_nil)) (pa_cons (pe_call (ok__number T) hr (by rfl) T.g__number T.F__number.kp T.b__number .nil (passes_call (takes_of rfl rfl rfl rfl) (fun _ _ _ _ h => h)) (pa_cons (pe_ix (r := rIxL K) ix_list (pv 0) pe_int (fun _ _ => rfl)) pa_nil)) (pa_cons (pe_call (ok__number T) hr (by rfl) T.g__number T.F__number.kp T.b__number .nil (passes_call (takes_of rfl rfl rfl rfl) (fun _ _ _ _ h => h)) (pa_cons (pe_ix (r := rIxL K) ix_list (pv 0) pe_int (fun _ _ => rfl)) pa_nil)) pa_nil))))))), ?_⟩
    have m1 : ("no first row: " : Str).length ≤ 50 := by decide +kernel
    have sq := SqL.of (K := K) hw.at_
    refine ⟨_, rfl, _, _, rfl, .inl sq, rfl, ?_⟩
    have le : (wlist ws).length = ws.length := List.length_map ..
    by_cases h4 : ws.length = 4
    · obtain ⟨a, b, c, d, rfl⟩ : ∃ a b c d, ws = [a, b, c, d] := by
        match ws, h4 with
        | [a, b, c, d], _ => exact ⟨a, b, c, d, rfl⟩
      refine ⟨false, rfl, iteF ?_⟩
      refine ⟨_, rfl, p, _, _, .str (tx a), rfl, rfl, sq, atI_nat (j := 0) rfl, rfl, ?_⟩
      by_cases ha : a = nestsL
      · refine ⟨false, ?_, iteF ?_⟩
        · rw [nests_tx, str_is, decide_eq_true ha]
          rfl
        have hb : b.length ≤ 20000 := hl b (by simp)
        have hc : c.length ≤ 20000 := hl c (by simp)
        have hd : d.length ≤ 20000 := hl d (by simp)
        have eh : headF [a, b, c, d] = (numF b).bind fun x => (numF c).bind fun y => (numF d).map fun z => (x, y, z) := if_pos ha
        refine ⟨_, rfl, p, _, _, .str (tx b), rfl, rfl, sq, atI_nat (j := 1) rfl, b, rfl, hb, fun x hx => ?_, fun z => k2 (by rw [eh, z]; rfl) _ (Same.refl _)⟩
        refine ⟨_, rfl, p, _, _, .str (tx c), rfl, rfl, sq, atI_nat (j := 2) rfl, c, rfl, hc, fun y hy => ?_, fun z => k2 (by rw [eh, hx, z]; rfl) _ (Same.refl _)⟩
        refine ⟨_, rfl, p, _, _, .str (tx d), rfl, rfl, sq, atI_nat (j := 3) rfl, d, rfl, hd, fun z hz => ?_, fun z => k2 (by rw [eh, hx, hy, z]; rfl) _ (Same.refl _)⟩
        exact ⟨(by show 3 ≤ sizeLine; decide), fun q hq => k1 x y z (by rw [eh, hx, hy, hz]; rfl) _ q (same_new hq) upd_same⟩
      · refine ⟨true, ?_, iteT (wds_bad hw _ m1 (k2 (if_neg ha) _ (Same.refl _)))⟩
        rw [nests_tx, str_is, decide_eq_false ha]
        rfl
    · refine ⟨true, ?_, iteT (iteT (wds_bad hw _ m1 (k2 ?_ _ (Same.refl _))))⟩
      · rw [decide_eq_false]
        · rfl
        · intro z
          have := V.int.inj z
          omega
      · match ws, h4 with
        | [], _ => rfl
        | [_], _ => rfl
        | [_, _], _ => rfl
        | [_, _, _], _ => rfl
        | [_, _, _, _], h4 => exact absurd rfl h4
        | _ :: _ :: _ :: _ :: _ :: _, _ => rfl
theorem ok__thing (T : Tx K mg A) : FnOk P w K mg base (L2.CX P w) 3 A.a__thing A.d__thing ["words"] (sp__thing A.c_NoNote) := by
  refine T.F__thing.okX sc__thing (fun vs H Q E h => ?_) (fun cdv Ar outer s H vs Q E hr h => ?_)
  · obtain ⟨p, ws, rfl, _⟩ := h
    rfl
  · obtain ⟨p, ws, rfl, hw, hl, k1, k2⟩ := h
    refine ⟨_, 
      (pss_cons (ps_if (PW.pt (pw_or (pt_cmpR op_ne (pe_callB call_len_seq (by rfl) T.m_len PySem.boot_len (pa_cons (pv 0) pa_nil)) (pe_glob (v := .int 4) (by rfl) T.c_WORDS ⟨_, rfl⟩) (nomark _)) (pw_or1 (pt_cmpR op_eq (pe_ix (r := rIxL K) ix_list (pv 0) pe_int (fun _ _ => rfl)) pe_str (nomark _))))) 
        (pss_one (ps_raise rfl (takes_of rfl rfl rfl rfl) (SkE.pmk_own1 PySem.F.excBase_ValueError T.x_NoNote T.g_NoNote T.kk_NoNote (raises_own T.bx_NoNote T.tx_NoNote) (by rfl) (pe_joined (.cons pe_str (.cons (TS11.pe_fmtLS hr (pv 0)) .nil)))))) pss_nil)
      (pss_one (ps_ret (pe_tup (pa_cons (pe_ix (r := rIxL K) ix_list (pv 0) pe_int (fun _ _ => rfl)) (pa_cons (pe_call (ok__value T) hr (by rfl) T.g__value T.F__value.kp T.b__value .nil (passes_call (takes_of rfl rfl rfl rfl) (fun _ _ _ _ h => h)) (pa_cons (pe_ix (r := rIxL K) ix_list (pv 0) pe_int (fun _ _ => rfl)) pa_nil)) (pa_cons (pe_tup (pa_cons (pe_call (ok__number T) (hr.mono (by decide)) (by rfl) T.g__number T.F__number.kp T.b__number .nil (passes_call (takes_of rfl rfl rfl rfl) (fun _ _ _ _ h => h)) (pa_cons (pe_ix (r := rIxL K) ix_list (pv 0) pe_int (fun _ _ => rfl)) pa_nil)) (pa_cons (pe_call (ok__number T) (hr.mono (by decide)) (by rfl) T.g__number T.F__number.kp T.b__number .nil (passes_call (takes_of rfl rfl rfl rfl) (fun _ _ _ _ h => h)) (pa_cons (pe_ix (r := rIxL K) ix_list (pv 0) pe_int (fun _ _ => rfl)) pa_nil)) pa_nil))) pa_nil))))))), ?_⟩
    have m1 : ("no row of a nest: " : Str).length ≤ 50 := by decide +kernel
    have sq := SqL.of (K := K) hw.at_
    refine ⟨_, rfl, _, _, rfl, .inl sq, rfl, ?_⟩
    have le : (wlist ws).length = ws.length := List.length_map ..
    by_cases h4 : ws.length = 4
    · obtain ⟨a, b, c, d, rfl⟩ : ∃ a b c d, ws = [a, b, c, d] := by
        match ws, h4 with
        | [a, b, c, d], _ => exact ⟨a, b, c, d, rfl⟩
      refine ⟨false, rfl, iteF ?_⟩
      refine ⟨_, rfl, p, _, _, .str (tx c), rfl, rfl, sq, atI_nat (j := 2) rfl, rfl, ?_⟩
      by_cases hc : c = []
      · refine ⟨true, ?_, iteT (wds_bad hw _ m1 (k2 (if_pos hc) _ (Same.refl _)))⟩
        rw [nil_tx, str_is, decide_eq_true hc]
      · refine ⟨false, ?_, iteF ?_⟩
        · rw [nil_tx, str_is, decide_eq_false hc]
        have ha : a.length ≤ 20000 := hl a (by simp)
        have hb : b.length ≤ 20000 := hl b (by simp)
        have hd : d.length ≤ 20000 := hl d (by simp)
        have eh : thingF [a, b, c, d] = (valF d).bind fun z => (numF a).bind fun x => (numF b).map fun y => (c, z, (x, y)) := if_neg hc
        refine ⟨_, rfl, p, _, _, .str (tx c), rfl, rfl, sq, atI_nat (j := 2) rfl, ?_⟩
        refine ⟨_, rfl, p, _, _, .str (tx d), rfl, rfl, sq, atI_nat (j := 3) rfl, d, rfl, hd, fun v hv => ?_, fun z => k2 (by rw [eh, z]; rfl) _ (Same.refl _)⟩
        refine ⟨_, rfl, p, _, _, .str (tx a), rfl, rfl, sq, atI_nat (j := 0) rfl, a, rfl, ha, fun x hx => ?_, fun z => k2 (by rw [eh, hv, z]; rfl) _ (Same.refl _)⟩
        refine ⟨_, rfl, p, _, _, .str (tx b), rfl, rfl, sq, atI_nat (j := 1) rfl, b, rfl, hb, fun y hy => ?_, fun z => k2 (by rw [eh, hv, hx, z]; rfl) _ (Same.refl _)⟩
        refine ⟨(by show 2 ≤ sizeLine; decide), fun r hr => ⟨(by show 3 ≤ sizeLine; decide), fun q hq => ?_⟩⟩
        have S1 := fun o => same_new (o := o) hr
        have S2 := fun o => same_new (o := o) hq
        exact k1 c v (x, y) (by rw [eh, hv, hx, hy]; rfl) _ q r (fun b o z => S2 _ _ _ (S1 _ _ _ z)) upd_same (S2 _ _ _ upd_same)
    · refine ⟨true, ?_, iteT (iteT (wds_bad hw _ m1 (k2 ?_ _ (Same.refl _))))⟩
      · rw [decide_eq_false]
        · rfl
        · intro z
          have := V.int.inj z
          omega
      · match ws, h4 with
        | [], _ => rfl
        | [_], _ => rfl
        | [_, _], _ => rfl
        | [_, _, _], _ => rfl
        | [_, _, _, _], h4 => exact absurd rfl h4
        | _ :: _ :: _ :: _ :: _ :: _, _ => rfl
end
end M

end K11

namespace K11
open PySem L2 Ck TS2 TX TB
theorem nl_tx : ("\n" : Str) = tx [10] := by decide +kernel
theorem sp_tx : (" " : Str) = tx [32] := by decide +kernel
theorem split_nl (l : List Nat) : Txt.split (tx l) ("\n" : Str) = (cutsAt 10 l).map tx := by rw [nl_tx]; exact split_at (by decide) l
theorem split_sp (l : List Nat) : Txt.split (tx l) (" " : Str) = (cutsAt 32 l).map tx := by rw [sp_tx]; exact split_at (by decide) l
theorem wlist_eq (ws : List Name) : (ws.map tx).map V.str = wlist ws := by
  unfold wlist
  rw [List.map_map]
  rfl
def RowsAt (m : Nat) (H : Hp) (as : List (Addr × List Name)) : Prop := ∀ x ∈ as, Wds H x.1 x.2 ∧ ∀ w ∈ x.2, w.length ≤ m
theorem rowsF_in {l : List Nat} {rs : List (List Name)} (h : rowsF l = some rs) : rs ≠ [] ∧ rs.length ≤ l.length := by
  unfold rowsF at h
  split at h
  · cases h
  · rename_i q
    have e := Option.some.inj h
    subst e
    have cl := cuts_len 10 l
    have ct : l.count 10 ≤ l.length := List.count_le_length ..
    refine ⟨fun z => q (.inl (List.map_eq_nil_iff.mp z)), ?_⟩
    rw [List.length_map, List.length_dropLast]
    omega
def sp__rows (C : Addr) : Sp := fun vs H Q E => ∃ l : List Nat, vs = [.str (tx l)] ∧ l.length ≤ 16000 ∧ (∀ c ∈ l, c < 256) ∧
  (∀ rs, rowsF l = some rs → ∀ H' p (as : List (Addr × List Name)), Same H H' → H p = none → H' p = some (.lst (as.map fun x => V.ref x.1)) → as.map (·.2) = rs → RowsAt l.length H' as → Q (.ref p) H') ∧ (rowsF l = none → ∀ H', Same H H' → E (.ref C) none H')
namespace M
section
variable {P : Program} {w : World} {K : PySem.W.Frag} {mg : Str → Option Value} {base : Heap} {A : Ad}
theorem ok__rows (T : Tx K mg A) : FnOk P w K mg base (L2.CX P w) 1 A.a__rows A.d__rows ["text"] (sp__rows A.c_NoNote) := by
  refine T.F__rows.okX sc__rows (fun vs H Q E h => ?_) (fun cdv Ar outer s H vs Q E hr h => ?_)
  · obtain ⟨l, rfl, _⟩ := h
    rfl
  · obtain ⟨l, rfl, hl, hc, k1, k2⟩ := h
    refine ⟨_, 
      (pss_cons (ps_asg (pe_m1 PySem.F.slot_str_split PySem.F.type_str_split mt_split (pv 0) pe_str) (TB.pg_star (n := 2) (i := 0) rfl (TB.pgs_star (pg_name (i := 1) sc__rows.nd rfl (Or.inl rfl)) (pgs_cons (pg_name (i := 2) sc__rows.nd rfl (Or.inl rfl)) pgs_nil)) (by decide)))
      (pss_cons (ps_if (PW.pt (pw_or (pt_not (pt_truth (pv 1) (by intro _; rfl))) (pw_or1 (pt_cmpR op_ne (pv 2) pe_str (nomark _))))) 
        (pss_one (ps_raise rfl (takes_of rfl rfl rfl rfl) (SkE.pmk_own1 PySem.F.excBase_ValueError T.x_NoNote T.g_NoNote T.kk_NoNote (raises_own T.bx_NoNote T.tx_NoNote) (by rfl) pe_str))) pss_nil)
      (pss_one (ps_ret (pe_lc (own := [("row", 3)]) (g := gName 3) (tt := tYes) (by rfl) sc__rows.nd (pi_list (pv 1)) (blkOk_by (own := [("row", 3)]) (N := ["text", "rows", "rest", "row"]) (sc := defScope s__rows) (by decide +kernel)) (fun _ _ _ _ _ => (pg_name (i := 3) sc__rows.nd rfl (Or.inl rfl))) (fun _ _ _ _ _ => pts_nil) (fun _ _ _ _ _ => (pe_m1 PySem.F.slot_str_split PySem.F.type_str_split mt_split (pv 3) pe_str))))))), ?_⟩
    have a1 : (tx l).length + 2 ≤ sizeLine := by rw [tx_len]; have := sizeLine_eq; omega
    refine ⟨_, rfl, ⟨_, rfl⟩, _, _, rfl, rfl, rfl, a1, fun p hp => ?_⟩
    rw [split_nl, wlist_eq]
    obtain ⟨init, last, ecs⟩ : ∃ init last, cutsAt 10 l = init ++ [last] := ⟨_, _, (List.dropLast_concat_getLast (cuts_ne 10 l)).symm⟩
    have S1 := fun o => same_new (o := o) hp
    have cl := cuts_len 10 l
    have ct : l.count 10 ≤ l.length := List.count_le_length ..
    have hlen : (wlist (cutsAt 10 l)).length = init.length + 1 := by
      show ((cutsAt 10 l).map _).length = _
      rw [List.length_map, ecs, List.length_append]
      rfl
    have len1 : init.length ≤ 16000 := by
      rw [ecs, List.length_append, List.length_singleton] at cl
      omega
    refine ⟨p, wlist (cutsAt 10 l), rfl, SqL.of upd_same, by omega, by omega, fun D hD => ?_⟩
    have e0 : (wlist (cutsAt 10 l)).length + 1 - 2 = init.length := by omega
    have e1 : ((wlist (cutsAt 10 l)).drop 0).take ((wlist (cutsAt 10 l)).length + 1 - 2) = wlist init := by
      rw [List.drop_zero, e0, ecs]
      unfold wlist
      rw [← List.map_take, List.take_left' rfl]
    have e2 : (wlist (cutsAt 10 l)).take 0 ++ [V.ref D] ++ ((wlist (cutsAt 10 l)).drop 0).drop ((wlist (cutsAt 10 l)).length + 1 - 2) = [V.ref D, .str (tx last)] := by
      rw [List.drop_zero, e0, ecs]
      unfold wlist
      rw [← List.map_drop, List.drop_left' rfl]
      rfl
    rw [e1, e2]
    have S2 := fun o => same_new (o := o) hD
    have Dn : H D = none := by
      cases q : H D with
      | none => rfl
      | some o => exact absurd ((S1 _ _ _ q).symm.trans hD) (by intro z; cases z)
    refine ⟨_, _, rfl, _, _, rfl, rfl, ?_⟩
    have S12 : ∀ o2, Same H (upd (upd H p (.lst (wlist (cutsAt 10 l)))) D o2) := fun o2 b o z => S2 _ _ _ (S1 _ _ _ z)
    have eF : rowsF l = if init = [] ∨ last ≠ [] then none else some (init.map (cutsAt 32)) := by
      unfold rowsF
      rw [ecs, List.dropLast_concat, List.getLast?_concat]
      by_cases q : init = [] ∨ last ≠ []
      · rw [if_pos q, if_pos]
        rcases q with q | q
        · exact .inl q
        · exact .inr fun z => q (Option.some.inj z)
      · rw [if_neg q, if_neg]
        rintro (z | z)
        · exact q (.inl z)
        · exact q (.inr fun y => z (by rw [y]))
    by_cases h0 : init = []
    · exact ⟨_, rfl, false, .inl ⟨_, SqL.of upd_same, by rw [h0]; rfl⟩, iteT (iteT (k2 (by rw [eF, if_pos (.inl h0)]) _ (S12 _)))⟩
    refine ⟨_, rfl, true, .inl ⟨_, SqL.of upd_same, by cases init with | nil => exact absurd rfl h0 | cons x r => rfl⟩, iteF ?_⟩
    by_cases h1 : last = []
    · refine ⟨_, rfl, rfl, false, (by rw [nil_tx, str_is, decide_eq_true h1]; rfl), iteF ?_⟩
      have kk := k1 (init.map (cutsAt 32)) (by rw [eF, if_neg]; rintro (z | z); exact h0 z; exact z h1)
      refine ⟨_, rfl, D, rfl, ⟨_, SqL.of upd_same⟩, fun D2 hD2 => ?_⟩
      have S3 := fun o => same_new (o := o) hD2
      have sq3 : ∀ o, SqL K (upd (upd (upd H p (.lst (wlist (cutsAt 10 l)))) D (.lst (wlist init))) D2 o) D (wlist init) := fun o => SqL.of (S3 _ _ _ upd_same)
      have rowOk : ∀ r ∈ init, r.length ≤ l.length ∧ ∀ c ∈ r, c < 256 := fun r hr => by
        obtain ⟨_, b, c⟩ := cuts_mem (c := 10) (l := l) (p := r) (by rw [ecs]; exact List.mem_append_left _ hr)
        exact ⟨by omega, fun x hx => hc x (b x hx)⟩
      refine lc_it (walk_list (xs := wlist init)) (fun j H2 => Same (upd (upd H p (.lst (wlist (cutsAt 10 l)))) D (.lst (wlist init))) H2 ∧ ∃ as : List (Addr × List Name), as.map (·.2) = (init.take j).map (cutsAt 32) ∧ H2 D2 = some (.lst (as.map fun x => V.ref x.1)) ∧ (∀ x ∈ as, x.1 ≠ D2) ∧ RowsAt l.length H2 as)
        ⟨S3 _, [], rfl, upd_same, fun x h => (by cases h), fun x h => (by cases h)⟩ (fun j H2 _ h => SqL.of (h.1 _ _ upd_same)) ?_ ?_
      · rintro j x H2 H3 hj ⟨S4, as, ea, hD4, na, ra⟩ ⟨rfl, hx⟩
        have hj2 : j < init.length := by
          have : j < (wlist init).length := hj
          rwa [show (wlist init).length = init.length from List.length_map ..] at this
        have hi : init[j]? = some init[j] := List.getElem?_eq_getElem hj2
        obtain rfl : x = .str (tx init[j]) := by
          have e : (wlist init)[j]? = some (.str (tx init[j])) := by
            unfold wlist
            rw [List.getElem?_map, hi]
            rfl
          rw [e] at hx
          exact (Option.some.inj hx).symm
        obtain ⟨r1, r2⟩ := rowOk _ (List.getElem_mem hj2)
        have b1 : (tx init[j]).length + 2 ≤ sizeLine := by rw [tx_len]; have := sizeLine_eq; omega
        refine ⟨rfl, lc_yes ?_⟩
        refine ⟨_, rfl, ⟨_, rfl⟩, _, _, rfl, rfl, rfl, b1, fun q hq => ?_⟩
        rw [split_sp, wlist_eq]
        have S5 := fun o => same_new (o := o) hq
        have qD : q ≠ D2 := fun z => by rw [z, hD4] at hq; cases hq
        have al : as.length = j := by
          have := congrArg List.length ea
          rw [List.length_map, List.length_map, List.length_take] at this
          omega
        refine ⟨_, S5 _ _ _ hD4, (by rw [List.length_map, al]; have := sizeLine_eq; omega), same_mut (S4.trans (S5 _)) hD2, as ++ [(q, cutsAt 32 init[j])], ?_, ?_, fun y hy => ?_, fun y hy => ?_⟩
        · rw [List.map_append, ea, List.take_add_one, hi, List.map_append]
          rfl
        · rw [upd_same, List.map_append]
          rfl
        · rcases List.mem_append.mp hy with z | z
          · exact na y z
          · rw [List.mem_singleton.mp z]
            exact qD
        · rcases List.mem_append.mp hy with z | z
          · obtain ⟨u1, u2⟩ := ra y z
            exact ⟨⟨(upd_ne (na y z)).trans (S5 _ _ _ u1.at_), u1.ne, u1.cs, u1.ch⟩, u2⟩
          · rw [List.mem_singleton.mp z]
            refine ⟨⟨(upd_ne qD).trans upd_same, cuts_ne 32 _, ?_, fun v hv c hcv => ?_⟩, fun v hv => ?_⟩
            · have := cost_cuts 32 init[j]
              show cost (cutsAt 32 init[j]) ≤ _
              omega
            · exact r2 c ((cuts_mem hv).2.1 c hcv)
            · have := (cuts_mem hv).2.2
              omega
      · rintro H2 ⟨S4, as, ea, hD4, na, ra⟩
        have le : (wlist init).length = init.length := List.length_map ..
        rw [le, List.take_length] at ea
        have D2n : H D2 = none := by
          cases q : H D2 with
          | none => rfl
          | some o => exact absurd ((S12 _ _ _ q).symm.trans hD2) (by intro z; cases z)
        exact kk H2 D2 as ((S12 _).trans S4) D2n hD4 ea ra
    · exact ⟨_, rfl, rfl, true, (by rw [nil_tx, str_is, decide_eq_false h1]; rfl), iteT (k2 (by rw [eF, if_pos (.inr h1)]) _ (S12 _))⟩
end
end M

end K11

namespace K11
open PySem L2 Ck TS2 TX TB
/-! read: what a text tells, and what comes of it -/
def heldOf (ths : List Thng) : Held := ths.map fun x => (x.2.2, x.1)
def valsOf : (Name → Int) → List Thng → Name → Int
  | f, [] => f
  | f, x :: r => valsOf (fun m => if m = x.1 then x.2.1 else f m) r
theorem vals_snoc (x : Thng) : ∀ (ths : List Thng) (f : Name → Int), valsOf f (ths ++ [x]) = fun m => if m = x.1 then x.2.1 else valsOf f ths m
  | [], f => rfl
  | y :: r, f => vals_snoc x r _
inductive BadPut (A : Ad) (c t1 t2 : Int) (L : Held) : Thng → Addr → Prop
  | name (n : Name) (v : Int) (s : Seat) : ¬ NameOk n → BadPut A c t1 t2 L (n, v, s) A.c_NoName
  | value (n : Name) (v : Int) (s : Seat) : NameOk n → ¬ M.VOk v → BadPut A c t1 t2 L (n, v, s) A.c_NoValue
  | twice (n : Name) (v : Int) (s : Seat) : NameOk n → M.VOk v → n ∈ L.map (·.2) → BadPut A c t1 t2 L (n, v, s) A.c_Twice
  | nest (n : Name) (v : Int) (s : Seat) : NameOk n → M.VOk v → n ∉ L.map (·.2) → ¬ InT c s → BadPut A c t1 t2 L (n, v, s) A.c_NoNest
  | home (n : Name) (v : Int) (s : Seat) : NameOk n → M.VOk v → n ∉ L.map (·.2) → InT c s → ¬ (s = seatP (hmN c t1 t2 n) 0 ∨ s = seatP (hmN c t1 t2 n) 1) → BadPut A c t1 t2 L (n, v, s) A.c_NoHome
  | taken (n : Name) (v : Int) (s : Seat) : NameOk n → M.VOk v → n ∉ L.map (·.2) → (s = seatP (hmN c t1 t2 n) 0 ∨ s = seatP (hmN c t1 t2 n) 1) → getN L s ≠ none → BadPut A c t1 t2 L (n, v, s) A.c_Taken
structure GoodPut (c t1 t2 : Int) (L : Held) (x : Thng) : Prop where
  name : NameOk x.1
  val : M.VOk x.2.1
  new : x.1 ∉ L.map (·.2)
  home : x.2.2 = seatP (hmN c t1 t2 x.1) 0 ∨ x.2.2 = seatP (hmN c t1 t2 x.1) 1
  free : getN L x.2.2 = none
def Goods (c t1 t2 : Int) (ths : List Thng) : Prop := ∀ (i : Nat) (h : i < ths.length), GoodPut c t1 t2 (heldOf (ths.take i)) ths[i]
def sp_read (A : Ad) : Sp := fun vs H Q E => ∃ l : List Nat, vs = [.str (tx l)] ∧ l.length ≤ 800 ∧ (∀ c ∈ l, c < 256) ∧ (parseT l = none → ∀ H', Same H H' → E (.ref A.c_NoNote) none H') ∧
  ∀ c t1 t2 ths, parseT l = some ((c, t1, t2), ths) → (¬ M.GoodC c t1 t2 → ∀ H', Same H H' → E (.ref A.c_NoNests) none H') ∧
    (M.GoodC c t1 t2 → (∀ (i : Nat) (h : i < ths.length) (D : Addr), Goods c t1 t2 (ths.take i) → BadPut A c t1 t2 (heldOf (ths.take i)) ths[i] D → ∀ H', Same H H' → E (.ref D) none H') ∧
      (Goods c t1 t2 ths → ∀ H' a F vals, Same H H' → TabAt A.c_Nests H' a F c t1 t2 (heldOf ths) (valsOf vals ths) → (∀ b ∈ F, H b = none) → Q (.ref a) H'))
def ThingAt (H : Hp) (q : Addr) (x : Thng) : Prop := ∃ r, H q = some (.tup [.str (tx x.1), .int x.2.1, .ref r]) ∧ H r = some (.tup (sv x.2.2))
theorem ThingAt.same {H H' : Hp} {q : Addr} {x : Thng} (h : ThingAt H q x) (e : Same H H') : ThingAt H' q x := by
  obtain ⟨r, h1, h2⟩ := h
  exact ⟨r, e _ _ h1, e _ _ h2⟩
theorem thing_in {ws : List Name} {x : Thng} (h : thingF ws = some x) : x.1 ∈ ws ∧ M.SmallI x.2.1 ∧ M.SmallS x.2.2 := by
  unfold thingF at h
  split at h
  · rename_i a b n v
    split at h
    · cases h
    · cases e1 : valF v with
      | none => rw [e1] at h; cases h
      | some z =>
        rw [e1] at h
        cases e2 : numF a with
        | none => rw [e2] at h; cases h
        | some y =>
          rw [e2] at h
          cases e3 : numF b with
          | none => rw [e3] at h; cases h
          | some u =>
            rw [e3] at h
            have e : (n, z, (y, u)) = x := Option.some.inj h
            have i1 := valF_in e1
            have i2 := numF_in e2
            have i3 := numF_in e3
            rw [← e]
            exact ⟨by simp, M.smallI_of (by show _ ≤ z; omega) (by show z ≤ _; omega), M.smallI_of (by show _ ≤ y; omega) (by show y ≤ _; omega), M.smallI_of (by show _ ≤ u; omega) (by show u ≤ _; omega)⟩
  · cases h
theorem head_in {ws : List Name} {x y z : Int} (h : headF ws = some (x, y, z)) : M.SmallI x ∧ M.SmallI y ∧ M.SmallI z := by
  unfold headF at h
  split at h
  · rename_i a b n v
    split at h
    · cases e1 : numF b with
      | none => rw [e1] at h; cases h
      | some p =>
        rw [e1] at h
        cases e2 : numF n with
        | none => rw [e2] at h; cases h
        | some q =>
          rw [e2] at h
          cases e3 : numF v with
          | none => rw [e3] at h; cases h
          | some u =>
            rw [e3] at h
            have e : (p, q, u) = (x, y, z) := Option.some.inj h
            have i1 := numF_in e1
            have i2 := numF_in e2
            have i3 := numF_in e3
            cases e
            exact ⟨M.smallI_of (by omega) (by omega), M.smallI_of (by omega) (by omega), M.smallI_of (by omega) (by omega)⟩
    · cases h
  · cases h
theorem held_take {ths : List Thng} {i : Nat} (h : i < ths.length) : heldOf (ths.take (i + 1)) = heldOf (ths.take i) ++ [(ths[i].2.2, ths[i].1)] := by
  unfold heldOf
  rw [List.take_add_one, List.getElem?_eq_getElem h, List.map_append]
  rfl
theorem vals_take {ths : List Thng} {i : Nat} (h : i < ths.length) (f : Name → Int) : valsOf f (ths.take (i + 1)) = fun m => if m = ths[i].1 then ths[i].2.1 else valsOf f (ths.take i) m := by
  rw [List.take_add_one, List.getElem?_eq_getElem h]
  exact vals_snoc _ _ _
theorem goods_next {c t1 t2 : Int} {ths : List Thng} {i : Nat} (h : i < ths.length) (g : Goods c t1 t2 (ths.take i)) (x : GoodPut c t1 t2 (heldOf (ths.take i)) ths[i]) : Goods c t1 t2 (ths.take (i + 1)) := fun j hj => by
  have hj2 : j < i + 1 := by
    rw [List.length_take] at hj
    omega
  have e1 : (ths.take (i + 1)).take j = ths.take j := by rw [List.take_take, Nat.min_eq_left (by omega)]
  have e2 : (ths.take (i + 1))[j] = ths[j] := List.getElem_take
  rw [e1, e2]
  by_cases q : j < i
  · have z := g j (by rw [List.length_take]; omega)
    have e3 : (ths.take i).take j = ths.take j := by rw [List.take_take, Nat.min_eq_left (by omega)]
    have e4 : (ths.take i)[j]'(by rw [List.length_take]; omega) = ths[j] := List.getElem_take
    rw [e3, e4] at z
    exact z
  · have : j = i := by omega
    subst this
    exact x
namespace M
section
variable {P : Program} {w : World} {K : PySem.W.Frag} {mg : Str → Option Value} {base : Heap} {A : Ad}
theorem ok_read (T : Tx K mg A) : FnOk P w K mg base (L2.CX P w) 6 A.a_read A.d_read ["text"] (sp_read A) := by
  refine T.F_read.okX sc_read (fun vs H Q E h => ?_) (fun cdv Ar outer s H vs Q E hr h => ?_)
  · obtain ⟨l, rfl, _⟩ := h
    rfl
  · obtain ⟨l, rfl, hl, hc, k0, k⟩ := h
    refine ⟨_, 
      (pss_cons (ps_asg (pe_call (ok__rows T) (hr.mono (by decide)) (by rfl) T.g__rows T.F__rows.kp T.b__rows .nil (passes_call (takes_of rfl rfl rfl rfl) (fun _ _ _ _ h => h)) (pa_cons (pv 0) pa_nil)) (TB.pg_star (n := 2) (i := 1) rfl (pgs_cons (pg_name (i := 1) sc_read.nd rfl (Or.inl rfl)) (TB.pgs_star (pg_name (i := 2) sc_read.nd rfl (Or.inl rfl)) pgs_nil)) (by decide)))
      (pss_cons (ps_asg (pe_call (ok__head T) (hr.mono (by decide)) (by rfl) T.g__head T.F__head.kp T.b__head .nil (passes_call (takes_of rfl rfl rfl rfl) (fun _ _ _ _ h => h)) (pa_cons (pv 1) pa_nil)) (pg_tup rfl (pgs_cons (pg_name (i := 3) sc_read.nd rfl (Or.inl rfl)) (pgs_cons (pg_name (i := 4) sc_read.nd rfl (Or.inl rfl)) (pgs_cons (pg_name (i := 5) sc_read.nd rfl (Or.inl rfl)) pgs_nil)))))
      (pss_cons (TB.ps_setLcX (i := 6) (own := [("words", 11)]) (g := gName 11) (tt := tYes) (takes_of rfl rfl rfl rfl) rfl rfl (by rfl) sc_read.nd rfl rfl (sw_true rfl rfl rfl (by decide +kernel)) (pi_list (pv 2)) (blkOk_by (own := [("words", 11)]) (N := ["text", "head", "rest", "count", "first", "second", "things", "table", "name", "value", "nest", "words"]) (sc := defScope s_read) (by decide +kernel)) (fun _ _ _ _ _ => (pg_name (i := 11) sc_read.nd rfl (Or.inl rfl))) (fun _ _ _ _ _ => pts_nil) (fun _ _ _ _ _ => (pe_call (ok__thing T) (hr.mono (by decide)) (by rfl) T.g__thing T.F__thing.kp T.b__thing .nil TB.air_passes (pa_cons (pv 11) pa_nil))))
      (pss_cons (ps_set (i := 7) sc_read.nd rfl (Or.inl rfl) (pe_make T.k_Nests (ok_Nests_init T) (hr.mono (by decide)) (by rfl) T.g_Nests T.b_Nests_init .nil (passes_call (takes_of rfl rfl rfl rfl) (fun _ _ _ _ h => h)) (pa_cons (pv 3) (pa_cons (pv 4) (pa_cons (pv 5) pa_nil)))))
      (pss_cons (ps_for (passes_of rfl) rfl (pi_list (pv 6)) (pg_tup rfl (pgs_cons (pg_name (i := 8) sc_read.nd rfl (Or.inl rfl)) (pgs_cons (pg_name (i := 9) sc_read.nd rfl (Or.inl rfl)) (pgs_cons (pg_name (i := 10) sc_read.nd rfl (Or.inl rfl)) pgs_nil)))) 
        (pss_one (ps_expr (pe_meth (pv 7) T.cl_Nests T.m_Nests_put_at (ok_Nests_put_at T) (hr.mono (by decide)) T.b_Nests_put_at .nil (passes_call (takes_of rfl rfl rfl rfl) (fun _ _ _ _ h => h)) (pa_cons (pv 8) (pa_cons (pv 9) (pa_cons (pv 10) pa_nil)))))))
      (pss_one (ps_ret (pv 7)))))))), ?_⟩
    refine ⟨_, rfl, l, rfl, by omega, hc, fun rs hrs H1 p as S1 hp1 hp ea ra => ?_, fun z => k0 (by unfold parseT; rw [z]; rfl)⟩
    obtain ⟨rne, rlen⟩ := rowsF_in hrs
    obtain ⟨⟨ph, hw⟩, as, rfl⟩ : ∃ h r, as = h :: r := by
      cases as with
      | nil => exact absurd ea.symm rne
      | cons h r => exact ⟨h, r, rfl⟩
    have alen : as.length ≤ 800 := by
      have := congrArg List.length ea
      rw [List.length_map, List.length_cons] at this
      omega
    have eP : parseT l = (headF hw).bind fun c => (allF (as.map (·.2))).map fun t => (c, t) := by
      unfold parseT
      rw [hrs, ← ea]
      rfl
    refine ⟨p, _, rfl, SqL.of hp, (by rw [List.length_map, List.length_cons]; omega), (by rw [List.length_map, List.length_cons]; omega), fun D hD => ?_⟩
    have e1 : (((ph, hw) :: as).map fun x : Addr × List Name => V.ref x.1) = V.ref ph :: as.map fun x => V.ref x.1 := rfl
    rw [e1]
    have e2 : ((V.ref ph :: as.map fun x : Addr × List Name => V.ref x.1).drop 1).take ((V.ref ph :: as.map fun x : Addr × List Name => V.ref x.1).length + 1 - 2) = as.map fun x => V.ref x.1 := by
      rw [List.length_cons, List.drop_one, List.tail_cons]
      exact List.take_of_length_le (by omega)
    have e3 : (V.ref ph :: as.map fun x : Addr × List Name => V.ref x.1).take 1 ++ [V.ref D] ++ ((V.ref ph :: as.map fun x : Addr × List Name => V.ref x.1).drop 1).drop ((V.ref ph :: as.map fun x : Addr × List Name => V.ref x.1).length + 1 - 2) = [V.ref ph, .ref D] := by
      rw [List.length_cons, List.drop_one, List.tail_cons, List.drop_eq_nil_of_le (by omega)]
      rfl
    rw [e2, e3]
    have S2 := fun o => same_new (o := o) hD
    refine ⟨_, _, rfl, _, _, rfl, rfl, ?_⟩
    -- the first row
    obtain ⟨wh, lh⟩ := ra (ph, hw) (List.mem_cons_self ..)
    refine ⟨_, rfl, ph, hw, rfl, wh.same (S2 _), fun w hw => Nat.le_trans (lh w hw) (by omega), fun c t1 t2 hh H2 q S3 hq => ?_, fun z H2 S3 => k0 (by rw [eP, z]; rfl) _ (S1.trans ((S2 _).trans S3))⟩
    obtain ⟨i1, i2, i3⟩ := head_in hh
    refine ⟨q, _, rfl, SqT.of hq, rfl, _, _, rfl, _, _, rfl, _, _, rfl, rfl, ?_⟩
    have hD3 : H2 D = some (.lst (as.map fun x => V.ref x.1)) := S3 _ _ upd_same
    have S03 : Same H H2 := S1.trans ((S2 _).trans S3)
    have ra2 : RowsAt l.length H2 as := fun x hx => by
      obtain ⟨u1, u2⟩ := ra x (List.mem_cons_of_mem _ hx)
      exact ⟨u1.same ((S2 _).trans S3), u2⟩
    have eP2 : parseT l = (allF (as.map (·.2))).map fun t => ((c, t1, t2), t) := by rw [eP, hh]; rfl
    -- the things
    refine ⟨_, rfl, D, rfl, ⟨_, SqL.of hD3⟩, fun D2 hD2 => ?_⟩
    have S4 := fun o => same_new (o := o) hD2
    refine lc_it (walk_list (xs := as.map fun x => V.ref x.1)) (fun j H3 => Same H2 H3 ∧ ∃ qs : List (Addr × Thng), allF ((as.take j).map (·.2)) = some (qs.map (·.2)) ∧ H3 D2 = some (.lst (qs.map fun x => V.ref x.1)) ∧ (∀ x ∈ qs, x.1 ≠ D2) ∧ qs.length = j ∧ (∀ x ∈ qs, ThingAt H3 x.1 x.2) ∧ ∀ x ∈ qs, x.2.1.length ≤ l.length ∧ SmallI x.2.2.1 ∧ SmallS x.2.2.2)
      ⟨S4 _, [], rfl, upd_same, fun x h => (by cases h), rfl, fun x h => (by cases h), fun x h => (by cases h)⟩ (fun j H3 _ h => SqL.of (h.1 _ _ hD3)) ?_ ?_
    · rintro j x H3 H4 hj ⟨S5, qs, eq, hD5, nq, lq, tq, mq⟩ ⟨rfl, hx⟩
      have hj2 : j < as.length := by
        have : j < (as.map fun x : Addr × List Name => V.ref x.1).length := hj
        rwa [List.length_map] at this
      have hi : as[j]? = some as[j] := List.getElem?_eq_getElem hj2
      obtain rfl : x = .ref as[j].1 := by
        rw [List.getElem?_map, hi] at hx
        exact (Option.some.inj hx).symm
      obtain ⟨u1, u2⟩ := ra2 _ (List.getElem_mem hj2)
      refine ⟨rfl, lc_yes ?_⟩
      refine ⟨_, rfl, as[j].1, as[j].2, rfl, u1.same S5, fun w hw => Nat.le_trans (u2 w hw) (by omega), fun n v s0 ht H5 q2 r S6 hq2 hr => ?_, fun z H5 S6 => k0 ?_ _ (S03.trans (S5.trans S6))⟩
      · have qD : q2 ≠ D2 := fun z => by
          have y := S6 _ _ hD5
          rw [← z, hq2] at y
          cases y
        have rD : r ≠ D2 := fun z => by
          have y := S6 _ _ hD5
          rw [← z, hr] at y
          cases y
        obtain ⟨v1, v2, v3⟩ := thing_in ht
        have nD : ∀ b ys, H5 b = some (.tup ys) → b ≠ D2 := fun b ys hb z => by
          have y := S6 _ _ hD5
          rw [← z, hb] at y
          cases y
        refine ⟨_, S6 _ _ hD5, (by rw [List.length_map, lq]; have := sizeLine_eq; omega), same_mut (S5.trans S6) hD2, qs ++ [(q2, (n, v, s0))], ?_, ?_, fun y hy => ?_, (by rw [List.length_append, lq]; rfl), fun y hy => ?_, fun y hy => ?_⟩
        · rw [List.take_add_one, hi, List.map_append, List.map_append]
          refine allF_app eq ?_
          show ((thingF as[j].2).bind fun q => (allF []).map fun t => q :: t) = _
          rw [ht]
          rfl
        · rw [upd_same, List.map_append]
          rfl
        · rcases List.mem_append.mp hy with z | z
          · exact nq y z
          · rw [List.mem_singleton.mp z]
            exact qD
        · rcases List.mem_append.mp hy with z | z
          · obtain ⟨r0, g1, g2⟩ := (tq y z).same S6
            exact ⟨r0, (upd_ne (nD _ _ g1)).trans g1, (upd_ne (nD _ _ g2)).trans g2⟩
          · rw [List.mem_singleton.mp z]
            exact ⟨r, (upd_ne qD).trans hq2, (upd_ne rD).trans hr⟩
        · rcases List.mem_append.mp hy with z | z
          · exact mq y z
          · rw [List.mem_singleton.mp z]
            exact ⟨u2 n v1, v2, v3⟩
      · rw [eP2, allF_none (w := as[j].2) (List.mem_map.mpr ⟨_, List.getElem_mem hj2, rfl⟩) z]
        rfl
    · rintro H3 ⟨S5, qs, eq, hD5, nq, lq, tq, mq⟩
      rw [List.length_map] at eq lq
      rw [List.take_length] at eq
      have eP3 : parseT l = some ((c, t1, t2), qs.map (·.2)) := by rw [eP2, eq]; rfl
      obtain ⟨kn, kg⟩ := k c t1 t2 _ eP3
      have S05 := S03.trans S5
      -- the table
      refine ⟨_, rfl, _, rfl, _, rfl, fun x dx hx hdx nx => ?_⟩
      have Sx : Same H3 (upd (upd H3 dx (.own x)) x (.ins A.c_Nests dx [])) := fun b o e => by
        rw [upd_ne (ne_of_none e hx), upd_ne (ne_of_none e hdx)]
        exact e
      refine ⟨x, dx, c, t1, t2, rfl, upd_same, i1, i2, i3, fun hg H6 F vals hT keep hF => ⟨rfl, ?_⟩, fun hg H6 S6 => kn hg _ (S05.trans (Sx.trans S6))⟩
      obtain ⟨kb, kf⟩ := kg hg
      have S6 : Same H3 H6 := fun b o e => keep b o (Sx b o e) (ne_of_none e hx)
      have hF3 : ∀ b ∈ F, H3 b = none := fun b hb => by
        rcases hF b hb with e | e
        · rw [e]
          exact hx
        · exact Sx.free e
      have nF : ∀ {b : Addr}, H3 b = none → H b = none := fun {b} e => S05.free e
      have hD3b : H3 D2 = some (.lst (qs.map fun x => V.ref x.1)) := hD5
      have eth : ∀ (j : Nat) (h : j < qs.length), (qs.map (·.2))[j]'(by rw [List.length_map]; exact h) = qs[j].2 := fun j h => List.getElem_map ..
      refine ⟨_, rfl, D2, rfl, ⟨_, SqL.of (S6 _ _ hD3b)⟩, for_list (K := K) (a := D2) (xs := qs.map fun x => V.ref x.1) (fun j σ H7 => ∃ (F7 : List Addr) (o8 o9 o10 : Option V), σ = [some (.str (tx l)), some (.ref ph), some (.ref D), some (.int c), some (.int t1), some (.int t2), some (.ref D2), some (.ref x), o8, o9, o10, none] ∧ Same H3 H7 ∧
          TabAt A.c_Nests H7 x F7 c t1 t2 (heldOf ((qs.map (·.2)).take j)) (valsOf vals ((qs.map (·.2)).take j)) ∧ (∀ b ∈ F7, H3 b = none) ∧ Goods c t1 t2 ((qs.map (·.2)).take j))
        ⟨F, none, none, none, rfl, S6, hT, hF3, fun i h => absurd h (by simp)⟩ (fun j σ H7 _ ⟨_, _, _, _, _, S7, _⟩ => SqL.of (S7 _ _ hD3b)) ?_ ?_⟩
      · rintro j y σ H7 hj ⟨F7, o8, o9, o10, rfl, S7, T7, hF7, g7⟩
        have hj2 : j < qs.length := by
          have := (List.getElem?_eq_some_iff.mp hj).1
          rwa [List.length_map] at this
        have hj3 : j < (qs.map (·.2)).length := by rw [List.length_map]; exact hj2
        have hi : qs[j]? = some qs[j] := List.getElem?_eq_getElem hj2
        obtain rfl : y = .ref qs[j].1 := by
          rw [List.getElem?_map, hi] at hj
          exact (Option.some.inj hj).symm
        have hm : qs[j] ∈ qs := List.getElem_mem hj2
        obtain ⟨r, g1, g2⟩ := (tq _ hm).same S7
        obtain ⟨b1, b2, b3⟩ := mq _ hm
        have e0 := eth j hj2
        have ht := held_take hj3
        have hvl := vals_take hj3 vals
        rw [e0] at ht hvl
        have bad : ∀ D0, BadPut A c t1 t2 (heldOf ((qs.map (·.2)).take j)) qs[j].2 D0 → Ref0 H7 E D0 := fun D0 hb H8 S8 => kb j hj3 D0 g7 (by rw [e0]; exact hb) H8 (S05.trans (S7.trans S8))
        have gn : GoodPut c t1 t2 (heldOf ((qs.map (·.2)).take j)) qs[j].2 → Goods c t1 t2 ((qs.map (·.2)).take (j + 1)) := fun z => goods_next hj3 g7 (by rw [e0]; exact z)
        obtain ⟨dx7, fs7, hfi7, _, _, _, fm7⟩ := T7.ins
        have hln : (heldOf ((qs.map (·.2)).take j)).length ≤ 900 := by
          unfold heldOf
          rw [List.length_map, List.length_take, List.length_map]
          omega
        generalize qs[j].2 = tt at g1 g2 b1 b2 b3 bad gn ht hvl
        obtain ⟨n, v, s0⟩ := tt
        refine ⟨qs[j].1, _, rfl, SqT.of g1, rfl, _, _, rfl, _, _, rfl, _, _, rfl, rfl, ?_⟩
        refine ⟨_, rfl, x, dx7, fs7, rfl, hfi7, fm7 _ (by simp), _, rfl, _, rfl, _, rfl, x, r, F7, c, t1, t2, _, _, n, v, s0, rfl, T7, g2, Nat.le_trans b1 (by omega), b2, b3, hln, fun h1 => bad _ (.name _ _ _ h1), fun h1 h2 => bad _ (.value _ _ _ h1 h2), fun h1 h2 h3 => bad _ (.twice _ _ _ h1 h2 h3), fun h1 h2 h3 h4 => bad _ (.nest _ _ _ h1 h2 h3 h4), fun h1 h2 h3 h4 h5 => bad _ (.home _ _ _ h1 h2 h3 h4 h5), fun h1 h2 h3 h4 h5 => bad _ (.taken _ _ _ h1 h2 h3 h4 h5), fun h1 h2 h3 h4 h5 H8 F8 kf8 T8 hF8 => ?_⟩
        refine ⟨F8, _, _, _, rfl, fun b o e => kf8 b o (fun z => by rw [hF7 b z] at e; cases e) (S7 b o e), ?_, fun b hb => (hF8 b hb).elim (hF7 b) fun z => S7.free z, gn ⟨h1, h2, h3, h4, h5⟩⟩
        rw [ht, hvl]
        exact T8
      · rintro σ H7 ⟨F7, o8, o9, o10, rfl, S7, T7, hF7, g7⟩
        have et : (qs.map (·.2)).take (qs.map fun x => V.ref x.1).length = qs.map (·.2) := List.take_of_length_le (by rw [List.length_map, List.length_map]; exact Nat.le_refl _)
        rw [et] at T7 g7
        exact ⟨_, rfl, kf g7 H7 x F7 vals (S05.trans S7) T7 fun b hb => nF (hF7 b hb)⟩
end
end M

end K11

namespace K11
open PySem L2 Ck TS2 TX TB
/-- the word for a class -/
def KindIs (A : Ad) (D : Addr) (key : Str) : Prop := (D = A.c_NoNests ∧ key = "nests") ∨ (D = A.c_NoName ∧ key = "name") ∨ (D = A.c_NoValue ∧ key = "value") ∨ (D = A.c_NoNest ∧ key = "nest") ∨ (D = A.c_NoHome ∧ key = "home") ∨ (D = A.c_Taken ∧ key = "taken") ∨ (D = A.c_Twice ∧ key = "twice") ∨ (D = A.c_NoNote ∧ key = "note")
def sp__law_kind (A : Ad) : Pin → Sp := fun p vs H Q _ => ∃ (D : Addr) (key : Str), vs = [.ref p.1] ∧ KindIs A D key ∧ Zc (.ref D) none p.2 ∧ (∃ fs, p.2.data = .fields fs) ∧ ∀ H', Same H H' → Q (.str key) H'
theorem kit_two {K : PySem.W.Frag} {t c d : Value} (h1 : PySem.W.kitOne K t c = some false) (h2 : PySem.W.kitOne K t d = some false) : PySem.W.kitAny K t [c, d] = some false := by
  unfold PySem.W.kitAny
  rw [h1]
  show PySem.W.kitAny K t [d] = _
  unfold PySem.W.kitAny
  rw [h2]
  rfl
section
variable {P : Program} {w : World} {K : PySem.W.Frag} {mg : Str → Option Value} {base : Heap} {A : Ad}
theorem ok__law_kind (T : Tx K mg A) : FnE P w K mg base 1 A.a__law_kind A.d__law_kind ["_law_e"] (sp__law_kind A) := by
  refine FnE.of T.F__law_kind sc__law_kind (fun h => ?_) (fun cdv Ar outer s H vs Q p hr h => ?_)
  · obtain ⟨_, _, rfl, _⟩ := h
    rfl
  · obtain ⟨D, key, rfl, hD, hz, hf, k⟩ := h
    have hp : p ∈ (L2H.cxH CXN P w K mg base ["_law_e", "_law_kinds"] "_law_kind" (defScope s__law_kind) A.a__law_kind cdv Ar outer s H noE p).pn := List.mem_singleton.mpr rfl
    rcases hD with ⟨rfl, rfl⟩ | ⟨rfl, rfl⟩ | ⟨rfl, rfl⟩ | ⟨rfl, rfl⟩ | ⟨rfl, rfl⟩ | ⟨rfl, rfl⟩ | ⟨rfl, rfl⟩ | ⟨rfl, rfl⟩
    · have hC := T.ec_NoNests
      refine ⟨_, 
        (pss_cons (ps_set (i := 1) sc__law_kind.nd rfl (Or.inl rfl) (pe_lst (pa_cons (pe_callB (TB.call_isP hC hp hz hf) (by rfl) T.m_isinstance (by decide +kernel) (pa_cons (pv 0) (pa_cons (pe_glob (v := .ref A.c_NoNests) (by rfl) T.g_NoNests rfl) pa_nil))) (pa_cons (pe_callB (TB.call_isP hC hp hz hf) (by rfl) T.m_isinstance (by decide +kernel) (pa_cons (pv 0) (pa_cons (pe_glob (v := .ref A.c_NoName) (by rfl) T.g_NoName rfl) pa_nil))) (pa_cons (pe_callB (TB.call_isP hC hp hz hf) (by rfl) T.m_isinstance (by decide +kernel) (pa_cons (pv 0) (pa_cons (pe_glob (v := .ref A.c_NoValue) (by rfl) T.g_NoValue rfl) pa_nil))) (pa_cons (pe_callB (TB.call_isP hC hp hz hf) (by rfl) T.m_isinstance (by decide +kernel) (pa_cons (pv 0) (pa_cons (pe_glob (v := .ref A.c_NoNest) (by rfl) T.g_NoNest rfl) pa_nil))) pa_nil))))))
        (pss_cons (ps_set (i := 1) sc__law_kind.nd rfl (Or.inl rfl) (pe_op op_cat (pv 1) (pe_lst (pa_cons (pe_callB (TB.call_isP hC hp hz hf) (by rfl) T.m_isinstance (by decide +kernel) (pa_cons (pv 0) (pa_cons (pe_glob (v := .ref A.c_NoHome) (by rfl) T.g_NoHome rfl) pa_nil))) (pa_cons (pe_callB (TB.call_isP hC hp hz hf) (by rfl) T.m_isinstance (by decide +kernel) (pa_cons (pv 0) (pa_cons (pe_glob (v := .ref A.c_Taken) (by rfl) T.g_Taken rfl) pa_nil))) (pa_cons (pe_callB (TB.call_isP hC hp hz hf) (by rfl) T.m_isinstance (by decide +kernel) (pa_cons (pv 0) (pa_cons (pe_glob (v := .ref A.c_Twice) (by rfl) T.g_Twice rfl) pa_nil))) (pa_cons (pe_callB (TB.call_isP hC hp hz hf) (by rfl) T.m_isinstance (by decide +kernel) (pa_cons (pv 0) (pa_cons (pe_glob (v := .ref A.c_NoNote) (by rfl) T.g_NoNote rfl) pa_nil))) pa_nil)))))))
        (pss_cons (ps_if (PW.pt (pw_or (pt_not (pt_val (pe_callB (TB.call_isP hC hp hz hf) (by rfl) T.m_isinstance (by decide +kernel) (pa_cons (pv 0) (pa_cons (pe_bltn (v := .ty "ValueError") (u := .type "ValueError") (by rfl) T.m_ValueError (by decide +kernel) rfl) pa_nil))))) (pw_or (pt_cmpR op_ne (pe_bm PySem.F.plainAttrs_list PySem.F.slot_list_count PySem.F.type_list_count TB.mt_countB (pv 1) (pa_cons pe_bl pa_nil)) pe_int (nomark _)) (pw_or1 (pt_val (pe_callB (TB.call_isPT hC hp hz hf) (by rfl) T.m_isinstance (by decide +kernel) (pa_cons (pv 0) (pa_cons (pe_tup (pa_cons (pe_glob (v := .ref A.c_NoRoom) (by rfl) T.g_NoRoom rfl) (pa_cons (pe_glob (v := .ref A.c_Unknown) (by rfl) T.g_Unknown rfl) pa_nil))) pa_nil)))))))) 
          (pss_one (ps_ret pe_str)) pss_nil)
        (pss_one (ps_ret (pe_ix (r := rIxL K) ix_list (pe_lst (pa_cons pe_str (pa_cons pe_str (pa_cons pe_str (pa_cons pe_str (pa_cons pe_str (pa_cons pe_str (pa_cons pe_str (pa_cons pe_str pa_nil))))))))) (pe_bm PySem.F.plainAttrs_list PySem.F.slot_list_index PySem.F.type_list_index mt_index (pv 1) (pa_cons pe_bl pa_nil)) (fun _ _ => rfl))))))), ?_⟩
      refine ⟨_, rfl, _, _, _, rfl, (fun u r => r), T.q_NoNests_NoNests, _, rfl, _, _, _, rfl, (fun u r => r), T.q_NoNests_NoName, _, rfl, _, _, _, rfl, (fun u r => r), T.q_NoNests_NoValue, _, rfl, _, _, _, rfl, (fun u r => r), T.q_NoNests_NoNest, (by show 4 ≤ sizeLine; decide), fun l1 hl1 => ?_⟩
      have U1 := same_new (o := .lst [V.bl true, V.bl false, V.bl false, V.bl false]) hl1
      refine ⟨_, rfl, _, rfl, _, _, _, rfl, (fun u r => r), T.q_NoNests_NoHome, _, rfl, _, _, _, rfl, (fun u r => r), T.q_NoNests_Taken, _, rfl, _, _, _, rfl, (fun u r => r), T.q_NoNests_Twice, _, rfl, _, _, _, rfl, (fun u r => r), T.q_NoNests_NoNote, (by show 4 ≤ sizeLine; decide), fun l2 hl2 => ?_⟩
      have U2 := same_new (o := .lst [V.bl false, V.bl false, V.bl false, V.bl false]) hl2
      refine ⟨l1, l2, _, _, rfl, rfl, U2 _ _ upd_same, upd_same, (by show 8 ≤ sizeLine; decide), fun l3 hl3 => ?_⟩
      have U3 := same_new (o := .lst ([V.bl true, V.bl false, V.bl false, V.bl false] ++ [V.bl false, V.bl false, V.bl false, V.bl false])) hl3
      refine ⟨_, rfl, _, _, _, rfl, (fun u r => r), T.q_NoNests_ValueError, true, rfl, iteF ?_⟩
      refine ⟨_, rfl, .inl ⟨rfl, _, SqL.of upd_same⟩, l3, [true, false, false, false, false, false, false, false], true, rfl, rfl, SqL.of upd_same, rfl, _, rfl, iteF ?_⟩
      refine ⟨_, rfl, (by show 2 ≤ sizeLine; decide), fun l9 hl9 => ?_⟩
      have U9 := same_new (o := .tup [V.ref A.c_NoRoom, V.ref A.c_Unknown]) hl9
      refine ⟨l9, _, [Value.ref A.c_NoRoom, Value.ref A.c_Unknown], _, rfl, upd_same, .cons (.own _) (.cons (.own _) .nil), kit_two T.q_NoNests_NoRoom T.q_NoNests_Unknown, false, rfl, iteF ?_⟩
      refine ⟨(by show 8 ≤ sizeLine; decide), fun l4 hl4 => ?_⟩
      have U4 := same_new (o := .lst [V.str "nests", V.str "name", V.str "value", V.str "nest", V.str "home", V.str "taken", V.str "twice", V.str "note"]) hl4
      refine ⟨_, rfl, .inl ⟨rfl, _, SqL.of (U4 _ _ (U9 _ _ upd_same))⟩, l3, _, .bl true, 0, .bl true, rfl, rfl, SqL.of (U4 _ _ (U9 _ _ upd_same)), rfl, rfl, rfl, rfl, fun m z' hm hz' => ?_, l4, _, _, _, rfl, rfl, SqL.of upd_same, atI_nat (j := 0) rfl, k _ (U1.trans (U2.trans (U3.trans (U9.trans U4))))⟩
      omega
    · have hC := T.ec_NoName
      refine ⟨_, 
        (pss_cons (ps_set (i := 1) sc__law_kind.nd rfl (Or.inl rfl) (pe_lst (pa_cons (pe_callB (TB.call_isP hC hp hz hf) (by rfl) T.m_isinstance (by decide +kernel) (pa_cons (pv 0) (pa_cons (pe_glob (v := .ref A.c_NoNests) (by rfl) T.g_NoNests rfl) pa_nil))) (pa_cons (pe_callB (TB.call_isP hC hp hz hf) (by rfl) T.m_isinstance (by decide +kernel) (pa_cons (pv 0) (pa_cons (pe_glob (v := .ref A.c_NoName) (by rfl) T.g_NoName rfl) pa_nil))) (pa_cons (pe_callB (TB.call_isP hC hp hz hf) (by rfl) T.m_isinstance (by decide +kernel) (pa_cons (pv 0) (pa_cons (pe_glob (v := .ref A.c_NoValue) (by rfl) T.g_NoValue rfl) pa_nil))) (pa_cons (pe_callB (TB.call_isP hC hp hz hf) (by rfl) T.m_isinstance (by decide +kernel) (pa_cons (pv 0) (pa_cons (pe_glob (v := .ref A.c_NoNest) (by rfl) T.g_NoNest rfl) pa_nil))) pa_nil))))))
        (pss_cons (ps_set (i := 1) sc__law_kind.nd rfl (Or.inl rfl) (pe_op op_cat (pv 1) (pe_lst (pa_cons (pe_callB (TB.call_isP hC hp hz hf) (by rfl) T.m_isinstance (by decide +kernel) (pa_cons (pv 0) (pa_cons (pe_glob (v := .ref A.c_NoHome) (by rfl) T.g_NoHome rfl) pa_nil))) (pa_cons (pe_callB (TB.call_isP hC hp hz hf) (by rfl) T.m_isinstance (by decide +kernel) (pa_cons (pv 0) (pa_cons (pe_glob (v := .ref A.c_Taken) (by rfl) T.g_Taken rfl) pa_nil))) (pa_cons (pe_callB (TB.call_isP hC hp hz hf) (by rfl) T.m_isinstance (by decide +kernel) (pa_cons (pv 0) (pa_cons (pe_glob (v := .ref A.c_Twice) (by rfl) T.g_Twice rfl) pa_nil))) (pa_cons (pe_callB (TB.call_isP hC hp hz hf) (by rfl) T.m_isinstance (by decide +kernel) (pa_cons (pv 0) (pa_cons (pe_glob (v := .ref A.c_NoNote) (by rfl) T.g_NoNote rfl) pa_nil))) pa_nil)))))))
        (pss_cons (ps_if (PW.pt (pw_or (pt_not (pt_val (pe_callB (TB.call_isP hC hp hz hf) (by rfl) T.m_isinstance (by decide +kernel) (pa_cons (pv 0) (pa_cons (pe_bltn (v := .ty "ValueError") (u := .type "ValueError") (by rfl) T.m_ValueError (by decide +kernel) rfl) pa_nil))))) (pw_or (pt_cmpR op_ne (pe_bm PySem.F.plainAttrs_list PySem.F.slot_list_count PySem.F.type_list_count TB.mt_countB (pv 1) (pa_cons pe_bl pa_nil)) pe_int (nomark _)) (pw_or1 (pt_val (pe_callB (TB.call_isPT hC hp hz hf) (by rfl) T.m_isinstance (by decide +kernel) (pa_cons (pv 0) (pa_cons (pe_tup (pa_cons (pe_glob (v := .ref A.c_NoRoom) (by rfl) T.g_NoRoom rfl) (pa_cons (pe_glob (v := .ref A.c_Unknown) (by rfl) T.g_Unknown rfl) pa_nil))) pa_nil)))))))) 
          (pss_one (ps_ret pe_str)) pss_nil)
        (pss_one (ps_ret (pe_ix (r := rIxL K) ix_list (pe_lst (pa_cons pe_str (pa_cons pe_str (pa_cons pe_str (pa_cons pe_str (pa_cons pe_str (pa_cons pe_str (pa_cons pe_str (pa_cons pe_str pa_nil))))))))) (pe_bm PySem.F.plainAttrs_list PySem.F.slot_list_index PySem.F.type_list_index mt_index (pv 1) (pa_cons pe_bl pa_nil)) (fun _ _ => rfl))))))), ?_⟩
      refine ⟨_, rfl, _, _, _, rfl, (fun u r => r), T.q_NoName_NoNests, _, rfl, _, _, _, rfl, (fun u r => r), T.q_NoName_NoName, _, rfl, _, _, _, rfl, (fun u r => r), T.q_NoName_NoValue, _, rfl, _, _, _, rfl, (fun u r => r), T.q_NoName_NoNest, (by show 4 ≤ sizeLine; decide), fun l1 hl1 => ?_⟩
      have U1 := same_new (o := .lst [V.bl false, V.bl true, V.bl false, V.bl false]) hl1
      refine ⟨_, rfl, _, rfl, _, _, _, rfl, (fun u r => r), T.q_NoName_NoHome, _, rfl, _, _, _, rfl, (fun u r => r), T.q_NoName_Taken, _, rfl, _, _, _, rfl, (fun u r => r), T.q_NoName_Twice, _, rfl, _, _, _, rfl, (fun u r => r), T.q_NoName_NoNote, (by show 4 ≤ sizeLine; decide), fun l2 hl2 => ?_⟩
      have U2 := same_new (o := .lst [V.bl false, V.bl false, V.bl false, V.bl false]) hl2
      refine ⟨l1, l2, _, _, rfl, rfl, U2 _ _ upd_same, upd_same, (by show 8 ≤ sizeLine; decide), fun l3 hl3 => ?_⟩
      have U3 := same_new (o := .lst ([V.bl false, V.bl true, V.bl false, V.bl false] ++ [V.bl false, V.bl false, V.bl false, V.bl false])) hl3
      refine ⟨_, rfl, _, _, _, rfl, (fun u r => r), T.q_NoName_ValueError, true, rfl, iteF ?_⟩
      refine ⟨_, rfl, .inl ⟨rfl, _, SqL.of upd_same⟩, l3, [false, true, false, false, false, false, false, false], true, rfl, rfl, SqL.of upd_same, rfl, _, rfl, iteF ?_⟩
      refine ⟨_, rfl, (by show 2 ≤ sizeLine; decide), fun l9 hl9 => ?_⟩
      have U9 := same_new (o := .tup [V.ref A.c_NoRoom, V.ref A.c_Unknown]) hl9
      refine ⟨l9, _, [Value.ref A.c_NoRoom, Value.ref A.c_Unknown], _, rfl, upd_same, .cons (.own _) (.cons (.own _) .nil), kit_two T.q_NoName_NoRoom T.q_NoName_Unknown, false, rfl, iteF ?_⟩
      refine ⟨(by show 8 ≤ sizeLine; decide), fun l4 hl4 => ?_⟩
      have U4 := same_new (o := .lst [V.str "nests", V.str "name", V.str "value", V.str "nest", V.str "home", V.str "taken", V.str "twice", V.str "note"]) hl4
      refine ⟨_, rfl, .inl ⟨rfl, _, SqL.of (U4 _ _ (U9 _ _ upd_same))⟩, l3, _, .bl true, 1, .bl true, rfl, rfl, SqL.of (U4 _ _ (U9 _ _ upd_same)), rfl, rfl, rfl, rfl, fun m z' hm hz' => ?_, l4, _, _, _, rfl, rfl, SqL.of upd_same, atI_nat (j := 1) rfl, k _ (U1.trans (U2.trans (U3.trans (U9.trans U4))))⟩
      rcases (show m = 0 by omega) with rfl <;> (cases hz'; rfl)
    · have hC := T.ec_NoValue
      refine ⟨_, 
        (pss_cons (ps_set (i := 1) sc__law_kind.nd rfl (Or.inl rfl) (pe_lst (pa_cons (pe_callB (TB.call_isP hC hp hz hf) (by rfl) T.m_isinstance (by decide +kernel) (pa_cons (pv 0) (pa_cons (pe_glob (v := .ref A.c_NoNests) (by rfl) T.g_NoNests rfl) pa_nil))) (pa_cons (pe_callB (TB.call_isP hC hp hz hf) (by rfl) T.m_isinstance (by decide +kernel) (pa_cons (pv 0) (pa_cons (pe_glob (v := .ref A.c_NoName) (by rfl) T.g_NoName rfl) pa_nil))) (pa_cons (pe_callB (TB.call_isP hC hp hz hf) (by rfl) T.m_isinstance (by decide +kernel) (pa_cons (pv 0) (pa_cons (pe_glob (v := .ref A.c_NoValue) (by rfl) T.g_NoValue rfl) pa_nil))) (pa_cons (pe_callB (TB.call_isP hC hp hz hf) (by rfl) T.m_isinstance (by decide +kernel) (pa_cons (pv 0) (pa_cons (pe_glob (v := .ref A.c_NoNest) (by rfl) T.g_NoNest rfl) pa_nil))) pa_nil))))))
        (pss_cons (ps_set (i := 1) sc__law_kind.nd rfl (Or.inl rfl) (pe_op op_cat (pv 1) (pe_lst (pa_cons (pe_callB (TB.call_isP hC hp hz hf) (by rfl) T.m_isinstance (by decide +kernel) (pa_cons (pv 0) (pa_cons (pe_glob (v := .ref A.c_NoHome) (by rfl) T.g_NoHome rfl) pa_nil))) (pa_cons (pe_callB (TB.call_isP hC hp hz hf) (by rfl) T.m_isinstance (by decide +kernel) (pa_cons (pv 0) (pa_cons (pe_glob (v := .ref A.c_Taken) (by rfl) T.g_Taken rfl) pa_nil))) (pa_cons (pe_callB (TB.call_isP hC hp hz hf) (by rfl) T.m_isinstance (by decide +kernel) (pa_cons (pv 0) (pa_cons (pe_glob (v := .ref A.c_Twice) (by rfl) T.g_Twice rfl) pa_nil))) (pa_cons (pe_callB (TB.call_isP hC hp hz hf) (by rfl) T.m_isinstance (by decide +kernel) (pa_cons (pv 0) (pa_cons (pe_glob (v := .ref A.c_NoNote) (by rfl) T.g_NoNote rfl) pa_nil))) pa_nil)))))))
        (pss_cons (ps_if (PW.pt (pw_or (pt_not (pt_val (pe_callB (TB.call_isP hC hp hz hf) (by rfl) T.m_isinstance (by decide +kernel) (pa_cons (pv 0) (pa_cons (pe_bltn (v := .ty "ValueError") (u := .type "ValueError") (by rfl) T.m_ValueError (by decide +kernel) rfl) pa_nil))))) (pw_or (pt_cmpR op_ne (pe_bm PySem.F.plainAttrs_list PySem.F.slot_list_count PySem.F.type_list_count TB.mt_countB (pv 1) (pa_cons pe_bl pa_nil)) pe_int (nomark _)) (pw_or1 (pt_val (pe_callB (TB.call_isPT hC hp hz hf) (by rfl) T.m_isinstance (by decide +kernel) (pa_cons (pv 0) (pa_cons (pe_tup (pa_cons (pe_glob (v := .ref A.c_NoRoom) (by rfl) T.g_NoRoom rfl) (pa_cons (pe_glob (v := .ref A.c_Unknown) (by rfl) T.g_Unknown rfl) pa_nil))) pa_nil)))))))) 
          (pss_one (ps_ret pe_str)) pss_nil)
        (pss_one (ps_ret (pe_ix (r := rIxL K) ix_list (pe_lst (pa_cons pe_str (pa_cons pe_str (pa_cons pe_str (pa_cons pe_str (pa_cons pe_str (pa_cons pe_str (pa_cons pe_str (pa_cons pe_str pa_nil))))))))) (pe_bm PySem.F.plainAttrs_list PySem.F.slot_list_index PySem.F.type_list_index mt_index (pv 1) (pa_cons pe_bl pa_nil)) (fun _ _ => rfl))))))), ?_⟩
      refine ⟨_, rfl, _, _, _, rfl, (fun u r => r), T.q_NoValue_NoNests, _, rfl, _, _, _, rfl, (fun u r => r), T.q_NoValue_NoName, _, rfl, _, _, _, rfl, (fun u r => r), T.q_NoValue_NoValue, _, rfl, _, _, _, rfl, (fun u r => r), T.q_NoValue_NoNest, (by show 4 ≤ sizeLine; decide), fun l1 hl1 => ?_⟩
      have U1 := same_new (o := .lst [V.bl false, V.bl false, V.bl true, V.bl false]) hl1
      refine ⟨_, rfl, _, rfl, _, _, _, rfl, (fun u r => r), T.q_NoValue_NoHome, _, rfl, _, _, _, rfl, (fun u r => r), T.q_NoValue_Taken, _, rfl, _, _, _, rfl, (fun u r => r), T.q_NoValue_Twice, _, rfl, _, _, _, rfl, (fun u r => r), T.q_NoValue_NoNote, (by show 4 ≤ sizeLine; decide), fun l2 hl2 => ?_⟩
      have U2 := same_new (o := .lst [V.bl false, V.bl false, V.bl false, V.bl false]) hl2
      refine ⟨l1, l2, _, _, rfl, rfl, U2 _ _ upd_same, upd_same, (by show 8 ≤ sizeLine; decide), fun l3 hl3 => ?_⟩
      have U3 := same_new (o := .lst ([V.bl false, V.bl false, V.bl true, V.bl false] ++ [V.bl false, V.bl false, V.bl false, V.bl false])) hl3
      refine ⟨_, rfl, _, _, _, rfl, (fun u r => r), T.q_NoValue_ValueError, true, rfl, iteF ?_⟩
      refine ⟨_, rfl, .inl ⟨rfl, _, SqL.of upd_same⟩, l3, [false, false, true, false, false, false, false, false], true, rfl, rfl, SqL.of upd_same, rfl, _, rfl, iteF ?_⟩
      refine ⟨_, rfl, (by show 2 ≤ sizeLine; decide), fun l9 hl9 => ?_⟩
      have U9 := same_new (o := .tup [V.ref A.c_NoRoom, V.ref A.c_Unknown]) hl9
      refine ⟨l9, _, [Value.ref A.c_NoRoom, Value.ref A.c_Unknown], _, rfl, upd_same, .cons (.own _) (.cons (.own _) .nil), kit_two T.q_NoValue_NoRoom T.q_NoValue_Unknown, false, rfl, iteF ?_⟩
      refine ⟨(by show 8 ≤ sizeLine; decide), fun l4 hl4 => ?_⟩
      have U4 := same_new (o := .lst [V.str "nests", V.str "name", V.str "value", V.str "nest", V.str "home", V.str "taken", V.str "twice", V.str "note"]) hl4
      refine ⟨_, rfl, .inl ⟨rfl, _, SqL.of (U4 _ _ (U9 _ _ upd_same))⟩, l3, _, .bl true, 2, .bl true, rfl, rfl, SqL.of (U4 _ _ (U9 _ _ upd_same)), rfl, rfl, rfl, rfl, fun m z' hm hz' => ?_, l4, _, _, _, rfl, rfl, SqL.of upd_same, atI_nat (j := 2) rfl, k _ (U1.trans (U2.trans (U3.trans (U9.trans U4))))⟩
      rcases (show m = 0 ∨ m = 1 by omega) with rfl | rfl <;> (cases hz'; rfl)
    · have hC := T.ec_NoNest
      refine ⟨_, 
        (pss_cons (ps_set (i := 1) sc__law_kind.nd rfl (Or.inl rfl) (pe_lst (pa_cons (pe_callB (TB.call_isP hC hp hz hf) (by rfl) T.m_isinstance (by decide +kernel) (pa_cons (pv 0) (pa_cons (pe_glob (v := .ref A.c_NoNests) (by rfl) T.g_NoNests rfl) pa_nil))) (pa_cons (pe_callB (TB.call_isP hC hp hz hf) (by rfl) T.m_isinstance (by decide +kernel) (pa_cons (pv 0) (pa_cons (pe_glob (v := .ref A.c_NoName) (by rfl) T.g_NoName rfl) pa_nil))) (pa_cons (pe_callB (TB.call_isP hC hp hz hf) (by rfl) T.m_isinstance (by decide +kernel) (pa_cons (pv 0) (pa_cons (pe_glob (v := .ref A.c_NoValue) (by rfl) T.g_NoValue rfl) pa_nil))) (pa_cons (pe_callB (TB.call_isP hC hp hz hf) (by rfl) T.m_isinstance (by decide +kernel) (pa_cons (pv 0) (pa_cons (pe_glob (v := .ref A.c_NoNest) (by rfl) T.g_NoNest rfl) pa_nil))) pa_nil))))))
        (pss_cons (ps_set (i := 1) sc__law_kind.nd rfl (Or.inl rfl) (pe_op op_cat (pv 1) (pe_lst (pa_cons (pe_callB (TB.call_isP hC hp hz hf) (by rfl) T.m_isinstance (by decide +kernel) (pa_cons (pv 0) (pa_cons (pe_glob (v := .ref A.c_NoHome) (by rfl) T.g_NoHome rfl) pa_nil))) (pa_cons (pe_callB (TB.call_isP hC hp hz hf) (by rfl) T.m_isinstance (by decide +kernel) (pa_cons (pv 0) (pa_cons (pe_glob (v := .ref A.c_Taken) (by rfl) T.g_Taken rfl) pa_nil))) (pa_cons (pe_callB (TB.call_isP hC hp hz hf) (by rfl) T.m_isinstance (by decide +kernel) (pa_cons (pv 0) (pa_cons (pe_glob (v := .ref A.c_Twice) (by rfl) T.g_Twice rfl) pa_nil))) (pa_cons (pe_callB (TB.call_isP hC hp hz hf) (by rfl) T.m_isinstance (by decide +kernel) (pa_cons (pv 0) (pa_cons (pe_glob (v := .ref A.c_NoNote) (by rfl) T.g_NoNote rfl) pa_nil))) pa_nil)))))))
        (pss_cons (ps_if (PW.pt (pw_or (pt_not (pt_val (pe_callB (TB.call_isP hC hp hz hf) (by rfl) T.m_isinstance (by decide +kernel) (pa_cons (pv 0) (pa_cons (pe_bltn (v := .ty "ValueError") (u := .type "ValueError") (by rfl) T.m_ValueError (by decide +kernel) rfl) pa_nil))))) (pw_or (pt_cmpR op_ne (pe_bm PySem.F.plainAttrs_list PySem.F.slot_list_count PySem.F.type_list_count TB.mt_countB (pv 1) (pa_cons pe_bl pa_nil)) pe_int (nomark _)) (pw_or1 (pt_val (pe_callB (TB.call_isPT hC hp hz hf) (by rfl) T.m_isinstance (by decide +kernel) (pa_cons (pv 0) (pa_cons (pe_tup (pa_cons (pe_glob (v := .ref A.c_NoRoom) (by rfl) T.g_NoRoom rfl) (pa_cons (pe_glob (v := .ref A.c_Unknown) (by rfl) T.g_Unknown rfl) pa_nil))) pa_nil)))))))) 
          (pss_one (ps_ret pe_str)) pss_nil)
        (pss_one (ps_ret (pe_ix (r := rIxL K) ix_list (pe_lst (pa_cons pe_str (pa_cons pe_str (pa_cons pe_str (pa_cons pe_str (pa_cons pe_str (pa_cons pe_str (pa_cons pe_str (pa_cons pe_str pa_nil))))))))) (pe_bm PySem.F.plainAttrs_list PySem.F.slot_list_index PySem.F.type_list_index mt_index (pv 1) (pa_cons pe_bl pa_nil)) (fun _ _ => rfl))))))), ?_⟩
      refine ⟨_, rfl, _, _, _, rfl, (fun u r => r), T.q_NoNest_NoNests, _, rfl, _, _, _, rfl, (fun u r => r), T.q_NoNest_NoName, _, rfl, _, _, _, rfl, (fun u r => r), T.q_NoNest_NoValue, _, rfl, _, _, _, rfl, (fun u r => r), T.q_NoNest_NoNest, (by show 4 ≤ sizeLine; decide), fun l1 hl1 => ?_⟩
      have U1 := same_new (o := .lst [V.bl false, V.bl false, V.bl false, V.bl true]) hl1
      refine ⟨_, rfl, _, rfl, _, _, _, rfl, (fun u r => r), T.q_NoNest_NoHome, _, rfl, _, _, _, rfl, (fun u r => r), T.q_NoNest_Taken, _, rfl, _, _, _, rfl, (fun u r => r), T.q_NoNest_Twice, _, rfl, _, _, _, rfl, (fun u r => r), T.q_NoNest_NoNote, (by show 4 ≤ sizeLine; decide), fun l2 hl2 => ?_⟩
      have U2 := same_new (o := .lst [V.bl false, V.bl false, V.bl false, V.bl false]) hl2
      refine ⟨l1, l2, _, _, rfl, rfl, U2 _ _ upd_same, upd_same, (by show 8 ≤ sizeLine; decide), fun l3 hl3 => ?_⟩
      have U3 := same_new (o := .lst ([V.bl false, V.bl false, V.bl false, V.bl true] ++ [V.bl false, V.bl false, V.bl false, V.bl false])) hl3
      refine ⟨_, rfl, _, _, _, rfl, (fun u r => r), T.q_NoNest_ValueError, true, rfl, iteF ?_⟩
      refine ⟨_, rfl, .inl ⟨rfl, _, SqL.of upd_same⟩, l3, [false, false, false, true, false, false, false, false], true, rfl, rfl, SqL.of upd_same, rfl, _, rfl, iteF ?_⟩
      refine ⟨_, rfl, (by show 2 ≤ sizeLine; decide), fun l9 hl9 => ?_⟩
      have U9 := same_new (o := .tup [V.ref A.c_NoRoom, V.ref A.c_Unknown]) hl9
      refine ⟨l9, _, [Value.ref A.c_NoRoom, Value.ref A.c_Unknown], _, rfl, upd_same, .cons (.own _) (.cons (.own _) .nil), kit_two T.q_NoNest_NoRoom T.q_NoNest_Unknown, false, rfl, iteF ?_⟩
      refine ⟨(by show 8 ≤ sizeLine; decide), fun l4 hl4 => ?_⟩
      have U4 := same_new (o := .lst [V.str "nests", V.str "name", V.str "value", V.str "nest", V.str "home", V.str "taken", V.str "twice", V.str "note"]) hl4
      refine ⟨_, rfl, .inl ⟨rfl, _, SqL.of (U4 _ _ (U9 _ _ upd_same))⟩, l3, _, .bl true, 3, .bl true, rfl, rfl, SqL.of (U4 _ _ (U9 _ _ upd_same)), rfl, rfl, rfl, rfl, fun m z' hm hz' => ?_, l4, _, _, _, rfl, rfl, SqL.of upd_same, atI_nat (j := 3) rfl, k _ (U1.trans (U2.trans (U3.trans (U9.trans U4))))⟩
      rcases (show m = 0 ∨ m = 1 ∨ m = 2 by omega) with rfl | rfl | rfl <;> (cases hz'; rfl)
    · have hC := T.ec_NoHome
      refine ⟨_, 
        (pss_cons (ps_set (i := 1) sc__law_kind.nd rfl (Or.inl rfl) (pe_lst (pa_cons (pe_callB (TB.call_isP hC hp hz hf) (by rfl) T.m_isinstance (by decide +kernel) (pa_cons (pv 0) (pa_cons (pe_glob (v := .ref A.c_NoNests) (by rfl) T.g_NoNests rfl) pa_nil))) (pa_cons (pe_callB (TB.call_isP hC hp hz hf) (by rfl) T.m_isinstance (by decide +kernel) (pa_cons (pv 0) (pa_cons (pe_glob (v := .ref A.c_NoName) (by rfl) T.g_NoName rfl) pa_nil))) (pa_cons (pe_callB (TB.call_isP hC hp hz hf) (by rfl) T.m_isinstance (by decide +kernel) (pa_cons (pv 0) (pa_cons (pe_glob (v := .ref A.c_NoValue) (by rfl) T.g_NoValue rfl) pa_nil))) (pa_cons (pe_callB (TB.call_isP hC hp hz hf) (by rfl) T.m_isinstance (by decide +kernel) (pa_cons (pv 0) (pa_cons (pe_glob (v := .ref A.c_NoNest) (by rfl) T.g_NoNest rfl) pa_nil))) pa_nil))))))
        (pss_cons (ps_set (i := 1) sc__law_kind.nd rfl (Or.inl rfl) (pe_op op_cat (pv 1) (pe_lst (pa_cons (pe_callB (TB.call_isP hC hp hz hf) (by rfl) T.m_isinstance (by decide +kernel) (pa_cons (pv 0) (pa_cons (pe_glob (v := .ref A.c_NoHome) (by rfl) T.g_NoHome rfl) pa_nil))) (pa_cons (pe_callB (TB.call_isP hC hp hz hf) (by rfl) T.m_isinstance (by decide +kernel) (pa_cons (pv 0) (pa_cons (pe_glob (v := .ref A.c_Taken) (by rfl) T.g_Taken rfl) pa_nil))) (pa_cons (pe_callB (TB.call_isP hC hp hz hf) (by rfl) T.m_isinstance (by decide +kernel) (pa_cons (pv 0) (pa_cons (pe_glob (v := .ref A.c_Twice) (by rfl) T.g_Twice rfl) pa_nil))) (pa_cons (pe_callB (TB.call_isP hC hp hz hf) (by rfl) T.m_isinstance (by decide +kernel) (pa_cons (pv 0) (pa_cons (pe_glob (v := .ref A.c_NoNote) (by rfl) T.g_NoNote rfl) pa_nil))) pa_nil)))))))
        (pss_cons (ps_if (PW.pt (pw_or (pt_not (pt_val (pe_callB (TB.call_isP hC hp hz hf) (by rfl) T.m_isinstance (by decide +kernel) (pa_cons (pv 0) (pa_cons (pe_bltn (v := .ty "ValueError") (u := .type "ValueError") (by rfl) T.m_ValueError (by decide +kernel) rfl) pa_nil))))) (pw_or (pt_cmpR op_ne (pe_bm PySem.F.plainAttrs_list PySem.F.slot_list_count PySem.F.type_list_count TB.mt_countB (pv 1) (pa_cons pe_bl pa_nil)) pe_int (nomark _)) (pw_or1 (pt_val (pe_callB (TB.call_isPT hC hp hz hf) (by rfl) T.m_isinstance (by decide +kernel) (pa_cons (pv 0) (pa_cons (pe_tup (pa_cons (pe_glob (v := .ref A.c_NoRoom) (by rfl) T.g_NoRoom rfl) (pa_cons (pe_glob (v := .ref A.c_Unknown) (by rfl) T.g_Unknown rfl) pa_nil))) pa_nil)))))))) 
          (pss_one (ps_ret pe_str)) pss_nil)
        (pss_one (ps_ret (pe_ix (r := rIxL K) ix_list (pe_lst (pa_cons pe_str (pa_cons pe_str (pa_cons pe_str (pa_cons pe_str (pa_cons pe_str (pa_cons pe_str (pa_cons pe_str (pa_cons pe_str pa_nil))))))))) (pe_bm PySem.F.plainAttrs_list PySem.F.slot_list_index PySem.F.type_list_index mt_index (pv 1) (pa_cons pe_bl pa_nil)) (fun _ _ => rfl))))))), ?_⟩
      refine ⟨_, rfl, _, _, _, rfl, (fun u r => r), T.q_NoHome_NoNests, _, rfl, _, _, _, rfl, (fun u r => r), T.q_NoHome_NoName, _, rfl, _, _, _, rfl, (fun u r => r), T.q_NoHome_NoValue, _, rfl, _, _, _, rfl, (fun u r => r), T.q_NoHome_NoNest, (by show 4 ≤ sizeLine; decide), fun l1 hl1 => ?_⟩
      have U1 := same_new (o := .lst [V.bl false, V.bl false, V.bl false, V.bl false]) hl1
      refine ⟨_, rfl, _, rfl, _, _, _, rfl, (fun u r => r), T.q_NoHome_NoHome, _, rfl, _, _, _, rfl, (fun u r => r), T.q_NoHome_Taken, _, rfl, _, _, _, rfl, (fun u r => r), T.q_NoHome_Twice, _, rfl, _, _, _, rfl, (fun u r => r), T.q_NoHome_NoNote, (by show 4 ≤ sizeLine; decide), fun l2 hl2 => ?_⟩
      have U2 := same_new (o := .lst [V.bl true, V.bl false, V.bl false, V.bl false]) hl2
      refine ⟨l1, l2, _, _, rfl, rfl, U2 _ _ upd_same, upd_same, (by show 8 ≤ sizeLine; decide), fun l3 hl3 => ?_⟩
      have U3 := same_new (o := .lst ([V.bl false, V.bl false, V.bl false, V.bl false] ++ [V.bl true, V.bl false, V.bl false, V.bl false])) hl3
      refine ⟨_, rfl, _, _, _, rfl, (fun u r => r), T.q_NoHome_ValueError, true, rfl, iteF ?_⟩
      refine ⟨_, rfl, .inl ⟨rfl, _, SqL.of upd_same⟩, l3, [false, false, false, false, true, false, false, false], true, rfl, rfl, SqL.of upd_same, rfl, _, rfl, iteF ?_⟩
      refine ⟨_, rfl, (by show 2 ≤ sizeLine; decide), fun l9 hl9 => ?_⟩
      have U9 := same_new (o := .tup [V.ref A.c_NoRoom, V.ref A.c_Unknown]) hl9
      refine ⟨l9, _, [Value.ref A.c_NoRoom, Value.ref A.c_Unknown], _, rfl, upd_same, .cons (.own _) (.cons (.own _) .nil), kit_two T.q_NoHome_NoRoom T.q_NoHome_Unknown, false, rfl, iteF ?_⟩
      refine ⟨(by show 8 ≤ sizeLine; decide), fun l4 hl4 => ?_⟩
      have U4 := same_new (o := .lst [V.str "nests", V.str "name", V.str "value", V.str "nest", V.str "home", V.str "taken", V.str "twice", V.str "note"]) hl4
      refine ⟨_, rfl, .inl ⟨rfl, _, SqL.of (U4 _ _ (U9 _ _ upd_same))⟩, l3, _, .bl true, 4, .bl true, rfl, rfl, SqL.of (U4 _ _ (U9 _ _ upd_same)), rfl, rfl, rfl, rfl, fun m z' hm hz' => ?_, l4, _, _, _, rfl, rfl, SqL.of upd_same, atI_nat (j := 4) rfl, k _ (U1.trans (U2.trans (U3.trans (U9.trans U4))))⟩
      rcases (show m = 0 ∨ m = 1 ∨ m = 2 ∨ m = 3 by omega) with rfl | rfl | rfl | rfl <;> (cases hz'; rfl)
    · have hC := T.ec_Taken
      refine ⟨_, 
        (pss_cons (ps_set (i := 1) sc__law_kind.nd rfl (Or.inl rfl) (pe_lst (pa_cons (pe_callB (TB.call_isP hC hp hz hf) (by rfl) T.m_isinstance (by decide +kernel) (pa_cons (pv 0) (pa_cons (pe_glob (v := .ref A.c_NoNests) (by rfl) T.g_NoNests rfl) pa_nil))) (pa_cons (pe_callB (TB.call_isP hC hp hz hf) (by rfl) T.m_isinstance (by decide +kernel) (pa_cons (pv 0) (pa_cons (pe_glob (v := .ref A.c_NoName) (by rfl) T.g_NoName rfl) pa_nil))) (pa_cons (pe_callB (TB.call_isP hC hp hz hf) (by rfl) T.m_isinstance (by decide +kernel) (pa_cons (pv 0) (pa_cons (pe_glob (v := .ref A.c_NoValue) (by rfl) T.g_NoValue rfl) pa_nil))) (pa_cons (pe_callB (TB.call_isP hC hp hz hf) (by rfl) T.m_isinstance (by decide +kernel) (pa_cons (pv 0) (pa_cons (pe_glob (v := .ref A.c_NoNest) (by rfl) T.g_NoNest rfl) pa_nil))) pa_nil))))))
        (pss_cons (ps_set (i := 1) sc__law_kind.nd rfl (Or.inl rfl) (pe_op op_cat (pv 1) (pe_lst (pa_cons (pe_callB (TB.call_isP hC hp hz hf) (by rfl) T.m_isinstance (by decide +kernel) (pa_cons (pv 0) (pa_cons (pe_glob (v := .ref A.c_NoHome) (by rfl) T.g_NoHome rfl) pa_nil))) (pa_cons (pe_callB (TB.call_isP hC hp hz hf) (by rfl) T.m_isinstance (by decide +kernel) (pa_cons (pv 0) (pa_cons (pe_glob (v := .ref A.c_Taken) (by rfl) T.g_Taken rfl) pa_nil))) (pa_cons (pe_callB (TB.call_isP hC hp hz hf) (by rfl) T.m_isinstance (by decide +kernel) (pa_cons (pv 0) (pa_cons (pe_glob (v := .ref A.c_Twice) (by rfl) T.g_Twice rfl) pa_nil))) (pa_cons (pe_callB (TB.call_isP hC hp hz hf) (by rfl) T.m_isinstance (by decide +kernel) (pa_cons (pv 0) (pa_cons (pe_glob (v := .ref A.c_NoNote) (by rfl) T.g_NoNote rfl) pa_nil))) pa_nil)))))))
        (pss_cons (ps_if (PW.pt (pw_or (pt_not (pt_val (pe_callB (TB.call_isP hC hp hz hf) (by rfl) T.m_isinstance (by decide +kernel) (pa_cons (pv 0) (pa_cons (pe_bltn (v := .ty "ValueError") (u := .type "ValueError") (by rfl) T.m_ValueError (by decide +kernel) rfl) pa_nil))))) (pw_or (pt_cmpR op_ne (pe_bm PySem.F.plainAttrs_list PySem.F.slot_list_count PySem.F.type_list_count TB.mt_countB (pv 1) (pa_cons pe_bl pa_nil)) pe_int (nomark _)) (pw_or1 (pt_val (pe_callB (TB.call_isPT hC hp hz hf) (by rfl) T.m_isinstance (by decide +kernel) (pa_cons (pv 0) (pa_cons (pe_tup (pa_cons (pe_glob (v := .ref A.c_NoRoom) (by rfl) T.g_NoRoom rfl) (pa_cons (pe_glob (v := .ref A.c_Unknown) (by rfl) T.g_Unknown rfl) pa_nil))) pa_nil)))))))) 
          (pss_one (ps_ret pe_str)) pss_nil)
        (pss_one (ps_ret (pe_ix (r := rIxL K) ix_list (pe_lst (pa_cons pe_str (pa_cons pe_str (pa_cons pe_str (pa_cons pe_str (pa_cons pe_str (pa_cons pe_str (pa_cons pe_str (pa_cons pe_str pa_nil))))))))) (pe_bm PySem.F.plainAttrs_list PySem.F.slot_list_index PySem.F.type_list_index mt_index (pv 1) (pa_cons pe_bl pa_nil)) (fun _ _ => rfl))))))), ?_⟩
      refine ⟨_, rfl, _, _, _, rfl, (fun u r => r), T.q_Taken_NoNests, _, rfl, _, _, _, rfl, (fun u r => r), T.q_Taken_NoName, _, rfl, _, _, _, rfl, (fun u r => r), T.q_Taken_NoValue, _, rfl, _, _, _, rfl, (fun u r => r), T.q_Taken_NoNest, (by show 4 ≤ sizeLine; decide), fun l1 hl1 => ?_⟩
      have U1 := same_new (o := .lst [V.bl false, V.bl false, V.bl false, V.bl false]) hl1
      refine ⟨_, rfl, _, rfl, _, _, _, rfl, (fun u r => r), T.q_Taken_NoHome, _, rfl, _, _, _, rfl, (fun u r => r), T.q_Taken_Taken, _, rfl, _, _, _, rfl, (fun u r => r), T.q_Taken_Twice, _, rfl, _, _, _, rfl, (fun u r => r), T.q_Taken_NoNote, (by show 4 ≤ sizeLine; decide), fun l2 hl2 => ?_⟩
      have U2 := same_new (o := .lst [V.bl false, V.bl true, V.bl false, V.bl false]) hl2
      refine ⟨l1, l2, _, _, rfl, rfl, U2 _ _ upd_same, upd_same, (by show 8 ≤ sizeLine; decide), fun l3 hl3 => ?_⟩
      have U3 := same_new (o := .lst ([V.bl false, V.bl false, V.bl false, V.bl false] ++ [V.bl false, V.bl true, V.bl false, V.bl false])) hl3
      refine ⟨_, rfl, _, _, _, rfl, (fun u r => r), T.q_Taken_ValueError, true, rfl, iteF ?_⟩
      refine ⟨_, rfl, .inl ⟨rfl, _, SqL.of upd_same⟩, l3, [false, false, false, false, false, true, false, false], true, rfl, rfl, SqL.of upd_same, rfl, _, rfl, iteF ?_⟩
      refine ⟨_, rfl, (by show 2 ≤ sizeLine; decide), fun l9 hl9 => ?_⟩
      have U9 := same_new (o := .tup [V.ref A.c_NoRoom, V.ref A.c_Unknown]) hl9
      refine ⟨l9, _, [Value.ref A.c_NoRoom, Value.ref A.c_Unknown], _, rfl, upd_same, .cons (.own _) (.cons (.own _) .nil), kit_two T.q_Taken_NoRoom T.q_Taken_Unknown, false, rfl, iteF ?_⟩
      refine ⟨(by show 8 ≤ sizeLine; decide), fun l4 hl4 => ?_⟩
      have U4 := same_new (o := .lst [V.str "nests", V.str "name", V.str "value", V.str "nest", V.str "home", V.str "taken", V.str "twice", V.str "note"]) hl4
      refine ⟨_, rfl, .inl ⟨rfl, _, SqL.of (U4 _ _ (U9 _ _ upd_same))⟩, l3, _, .bl true, 5, .bl true, rfl, rfl, SqL.of (U4 _ _ (U9 _ _ upd_same)), rfl, rfl, rfl, rfl, fun m z' hm hz' => ?_, l4, _, _, _, rfl, rfl, SqL.of upd_same, atI_nat (j := 5) rfl, k _ (U1.trans (U2.trans (U3.trans (U9.trans U4))))⟩
      rcases (show m = 0 ∨ m = 1 ∨ m = 2 ∨ m = 3 ∨ m = 4 by omega) with rfl | rfl | rfl | rfl | rfl <;> (cases hz'; rfl)
    · have hC := T.ec_Twice
      refine ⟨_, 
        (pss_cons (ps_set (i := 1) sc__law_kind.nd rfl (Or.inl rfl) (pe_lst (pa_cons (pe_callB (TB.call_isP hC hp hz hf) (by rfl) T.m_isinstance (by decide +kernel) (pa_cons (pv 0) (pa_cons (pe_glob (v := .ref A.c_NoNests) (by rfl) T.g_NoNests rfl) pa_nil))) (pa_cons (pe_callB (TB.call_isP hC hp hz hf) (by rfl) T.m_isinstance (by decide +kernel) (pa_cons (pv 0) (pa_cons (pe_glob (v := .ref A.c_NoName) (by rfl) T.g_NoName rfl) pa_nil))) (pa_cons (pe_callB (TB.call_isP hC hp hz hf) (by rfl) T.m_isinstance (by decide +kernel) (pa_cons (pv 0) (pa_cons (pe_glob (v := .ref A.c_NoValue) (by rfl) T.g_NoValue rfl) pa_nil))) (pa_cons (pe_callB (TB.call_isP hC hp hz hf) (by rfl) T.m_isinstance (by decide +kernel) (pa_cons (pv 0) (pa_cons (pe_glob (v := .ref A.c_NoNest) (by rfl) T.g_NoNest rfl) pa_nil))) pa_nil))))))
        (pss_cons (ps_set (i := 1) sc__law_kind.nd rfl (Or.inl rfl) (pe_op op_cat (pv 1) (pe_lst (pa_cons (pe_callB (TB.call_isP hC hp hz hf) (by rfl) T.m_isinstance (by decide +kernel) (pa_cons (pv 0) (pa_cons (pe_glob (v := .ref A.c_NoHome) (by rfl) T.g_NoHome rfl) pa_nil))) (pa_cons (pe_callB (TB.call_isP hC hp hz hf) (by rfl) T.m_isinstance (by decide +kernel) (pa_cons (pv 0) (pa_cons (pe_glob (v := .ref A.c_Taken) (by rfl) T.g_Taken rfl) pa_nil))) (pa_cons (pe_callB (TB.call_isP hC hp hz hf) (by rfl) T.m_isinstance (by decide +kernel) (pa_cons (pv 0) (pa_cons (pe_glob (v := .ref A.c_Twice) (by rfl) T.g_Twice rfl) pa_nil))) (pa_cons (pe_callB (TB.call_isP hC hp hz hf) (by rfl) T.m_isinstance (by decide +kernel) (pa_cons (pv 0) (pa_cons (pe_glob (v := .ref A.c_NoNote) (by rfl) T.g_NoNote rfl) pa_nil))) pa_nil)))))))
        (pss_cons (ps_if (PW.pt (pw_or (pt_not (pt_val (pe_callB (TB.call_isP hC hp hz hf) (by rfl) T.m_isinstance (by decide +kernel) (pa_cons (pv 0) (pa_cons (pe_bltn (v := .ty "ValueError") (u := .type "ValueError") (by rfl) T.m_ValueError (by decide +kernel) rfl) pa_nil))))) (pw_or (pt_cmpR op_ne (pe_bm PySem.F.plainAttrs_list PySem.F.slot_list_count PySem.F.type_list_count TB.mt_countB (pv 1) (pa_cons pe_bl pa_nil)) pe_int (nomark _)) (pw_or1 (pt_val (pe_callB (TB.call_isPT hC hp hz hf) (by rfl) T.m_isinstance (by decide +kernel) (pa_cons (pv 0) (pa_cons (pe_tup (pa_cons (pe_glob (v := .ref A.c_NoRoom) (by rfl) T.g_NoRoom rfl) (pa_cons (pe_glob (v := .ref A.c_Unknown) (by rfl) T.g_Unknown rfl) pa_nil))) pa_nil)))))))) 
          (pss_one (ps_ret pe_str)) pss_nil)
        (pss_one (ps_ret (pe_ix (r := rIxL K) ix_list (pe_lst (pa_cons pe_str (pa_cons pe_str (pa_cons pe_str (pa_cons pe_str (pa_cons pe_str (pa_cons pe_str (pa_cons pe_str (pa_cons pe_str pa_nil))))))))) (pe_bm PySem.F.plainAttrs_list PySem.F.slot_list_index PySem.F.type_list_index mt_index (pv 1) (pa_cons pe_bl pa_nil)) (fun _ _ => rfl))))))), ?_⟩
      refine ⟨_, rfl, _, _, _, rfl, (fun u r => r), T.q_Twice_NoNests, _, rfl, _, _, _, rfl, (fun u r => r), T.q_Twice_NoName, _, rfl, _, _, _, rfl, (fun u r => r), T.q_Twice_NoValue, _, rfl, _, _, _, rfl, (fun u r => r), T.q_Twice_NoNest, (by show 4 ≤ sizeLine; decide), fun l1 hl1 => ?_⟩
      have U1 := same_new (o := .lst [V.bl false, V.bl false, V.bl false, V.bl false]) hl1
      refine ⟨_, rfl, _, rfl, _, _, _, rfl, (fun u r => r), T.q_Twice_NoHome, _, rfl, _, _, _, rfl, (fun u r => r), T.q_Twice_Taken, _, rfl, _, _, _, rfl, (fun u r => r), T.q_Twice_Twice, _, rfl, _, _, _, rfl, (fun u r => r), T.q_Twice_NoNote, (by show 4 ≤ sizeLine; decide), fun l2 hl2 => ?_⟩
      have U2 := same_new (o := .lst [V.bl false, V.bl false, V.bl true, V.bl false]) hl2
      refine ⟨l1, l2, _, _, rfl, rfl, U2 _ _ upd_same, upd_same, (by show 8 ≤ sizeLine; decide), fun l3 hl3 => ?_⟩
      have U3 := same_new (o := .lst ([V.bl false, V.bl false, V.bl false, V.bl false] ++ [V.bl false, V.bl false, V.bl true, V.bl false])) hl3
      refine ⟨_, rfl, _, _, _, rfl, (fun u r => r), T.q_Twice_ValueError, true, rfl, iteF ?_⟩
      refine ⟨_, rfl, .inl ⟨rfl, _, SqL.of upd_same⟩, l3, [false, false, false, false, false, false, true, false], true, rfl, rfl, SqL.of upd_same, rfl, _, rfl, iteF ?_⟩
      refine ⟨_, rfl, (by show 2 ≤ sizeLine; decide), fun l9 hl9 => ?_⟩
      have U9 := same_new (o := .tup [V.ref A.c_NoRoom, V.ref A.c_Unknown]) hl9
      refine ⟨l9, _, [Value.ref A.c_NoRoom, Value.ref A.c_Unknown], _, rfl, upd_same, .cons (.own _) (.cons (.own _) .nil), kit_two T.q_Twice_NoRoom T.q_Twice_Unknown, false, rfl, iteF ?_⟩
      refine ⟨(by show 8 ≤ sizeLine; decide), fun l4 hl4 => ?_⟩
      have U4 := same_new (o := .lst [V.str "nests", V.str "name", V.str "value", V.str "nest", V.str "home", V.str "taken", V.str "twice", V.str "note"]) hl4
      refine ⟨_, rfl, .inl ⟨rfl, _, SqL.of (U4 _ _ (U9 _ _ upd_same))⟩, l3, _, .bl true, 6, .bl true, rfl, rfl, SqL.of (U4 _ _ (U9 _ _ upd_same)), rfl, rfl, rfl, rfl, fun m z' hm hz' => ?_, l4, _, _, _, rfl, rfl, SqL.of upd_same, atI_nat (j := 6) rfl, k _ (U1.trans (U2.trans (U3.trans (U9.trans U4))))⟩
      rcases (show m = 0 ∨ m = 1 ∨ m = 2 ∨ m = 3 ∨ m = 4 ∨ m = 5 by omega) with rfl | rfl | rfl | rfl | rfl | rfl <;> (cases hz'; rfl)
    · have hC := T.ec_NoNote
      refine ⟨_, 
        (pss_cons (ps_set (i := 1) sc__law_kind.nd rfl (Or.inl rfl) (pe_lst (pa_cons (pe_callB (TB.call_isP hC hp hz hf) (by rfl) T.m_isinstance (by decide +kernel) (pa_cons (pv 0) (pa_cons (pe_glob (v := .ref A.c_NoNests) (by rfl) T.g_NoNests rfl) pa_nil))) (pa_cons (pe_callB (TB.call_isP hC hp hz hf) (by rfl) T.m_isinstance (by decide +kernel) (pa_cons (pv 0) (pa_cons (pe_glob (v := .ref A.c_NoName) (by rfl) T.g_NoName rfl) pa_nil))) (pa_cons (pe_callB (TB.call_isP hC hp hz hf) (by rfl) T.m_isinstance (by decide +kernel) (pa_cons (pv 0) (pa_cons (pe_glob (v := .ref A.c_NoValue) (by rfl) T.g_NoValue rfl) pa_nil))) (pa_cons (pe_callB (TB.call_isP hC hp hz hf) (by rfl) T.m_isinstance (by decide +kernel) (pa_cons (pv 0) (pa_cons (pe_glob (v := .ref A.c_NoNest) (by rfl) T.g_NoNest rfl) pa_nil))) pa_nil))))))
        (pss_cons (ps_set (i := 1) sc__law_kind.nd rfl (Or.inl rfl) (pe_op op_cat (pv 1) (pe_lst (pa_cons (pe_callB (TB.call_isP hC hp hz hf) (by rfl) T.m_isinstance (by decide +kernel) (pa_cons (pv 0) (pa_cons (pe_glob (v := .ref A.c_NoHome) (by rfl) T.g_NoHome rfl) pa_nil))) (pa_cons (pe_callB (TB.call_isP hC hp hz hf) (by rfl) T.m_isinstance (by decide +kernel) (pa_cons (pv 0) (pa_cons (pe_glob (v := .ref A.c_Taken) (by rfl) T.g_Taken rfl) pa_nil))) (pa_cons (pe_callB (TB.call_isP hC hp hz hf) (by rfl) T.m_isinstance (by decide +kernel) (pa_cons (pv 0) (pa_cons (pe_glob (v := .ref A.c_Twice) (by rfl) T.g_Twice rfl) pa_nil))) (pa_cons (pe_callB (TB.call_isP hC hp hz hf) (by rfl) T.m_isinstance (by decide +kernel) (pa_cons (pv 0) (pa_cons (pe_glob (v := .ref A.c_NoNote) (by rfl) T.g_NoNote rfl) pa_nil))) pa_nil)))))))
        (pss_cons (ps_if (PW.pt (pw_or (pt_not (pt_val (pe_callB (TB.call_isP hC hp hz hf) (by rfl) T.m_isinstance (by decide +kernel) (pa_cons (pv 0) (pa_cons (pe_bltn (v := .ty "ValueError") (u := .type "ValueError") (by rfl) T.m_ValueError (by decide +kernel) rfl) pa_nil))))) (pw_or (pt_cmpR op_ne (pe_bm PySem.F.plainAttrs_list PySem.F.slot_list_count PySem.F.type_list_count TB.mt_countB (pv 1) (pa_cons pe_bl pa_nil)) pe_int (nomark _)) (pw_or1 (pt_val (pe_callB (TB.call_isPT hC hp hz hf) (by rfl) T.m_isinstance (by decide +kernel) (pa_cons (pv 0) (pa_cons (pe_tup (pa_cons (pe_glob (v := .ref A.c_NoRoom) (by rfl) T.g_NoRoom rfl) (pa_cons (pe_glob (v := .ref A.c_Unknown) (by rfl) T.g_Unknown rfl) pa_nil))) pa_nil)))))))) 
          (pss_one (ps_ret pe_str)) pss_nil)
        (pss_one (ps_ret (pe_ix (r := rIxL K) ix_list (pe_lst (pa_cons pe_str (pa_cons pe_str (pa_cons pe_str (pa_cons pe_str (pa_cons pe_str (pa_cons pe_str (pa_cons pe_str (pa_cons pe_str pa_nil))))))))) (pe_bm PySem.F.plainAttrs_list PySem.F.slot_list_index PySem.F.type_list_index mt_index (pv 1) (pa_cons pe_bl pa_nil)) (fun _ _ => rfl))))))), ?_⟩
      refine ⟨_, rfl, _, _, _, rfl, (fun u r => r), T.q_NoNote_NoNests, _, rfl, _, _, _, rfl, (fun u r => r), T.q_NoNote_NoName, _, rfl, _, _, _, rfl, (fun u r => r), T.q_NoNote_NoValue, _, rfl, _, _, _, rfl, (fun u r => r), T.q_NoNote_NoNest, (by show 4 ≤ sizeLine; decide), fun l1 hl1 => ?_⟩
      have U1 := same_new (o := .lst [V.bl false, V.bl false, V.bl false, V.bl false]) hl1
      refine ⟨_, rfl, _, rfl, _, _, _, rfl, (fun u r => r), T.q_NoNote_NoHome, _, rfl, _, _, _, rfl, (fun u r => r), T.q_NoNote_Taken, _, rfl, _, _, _, rfl, (fun u r => r), T.q_NoNote_Twice, _, rfl, _, _, _, rfl, (fun u r => r), T.q_NoNote_NoNote, (by show 4 ≤ sizeLine; decide), fun l2 hl2 => ?_⟩
      have U2 := same_new (o := .lst [V.bl false, V.bl false, V.bl false, V.bl true]) hl2
      refine ⟨l1, l2, _, _, rfl, rfl, U2 _ _ upd_same, upd_same, (by show 8 ≤ sizeLine; decide), fun l3 hl3 => ?_⟩
      have U3 := same_new (o := .lst ([V.bl false, V.bl false, V.bl false, V.bl false] ++ [V.bl false, V.bl false, V.bl false, V.bl true])) hl3
      refine ⟨_, rfl, _, _, _, rfl, (fun u r => r), T.q_NoNote_ValueError, true, rfl, iteF ?_⟩
      refine ⟨_, rfl, .inl ⟨rfl, _, SqL.of upd_same⟩, l3, [false, false, false, false, false, false, false, true], true, rfl, rfl, SqL.of upd_same, rfl, _, rfl, iteF ?_⟩
      refine ⟨_, rfl, (by show 2 ≤ sizeLine; decide), fun l9 hl9 => ?_⟩
      have U9 := same_new (o := .tup [V.ref A.c_NoRoom, V.ref A.c_Unknown]) hl9
      refine ⟨l9, _, [Value.ref A.c_NoRoom, Value.ref A.c_Unknown], _, rfl, upd_same, .cons (.own _) (.cons (.own _) .nil), kit_two T.q_NoNote_NoRoom T.q_NoNote_Unknown, false, rfl, iteF ?_⟩
      refine ⟨(by show 8 ≤ sizeLine; decide), fun l4 hl4 => ?_⟩
      have U4 := same_new (o := .lst [V.str "nests", V.str "name", V.str "value", V.str "nest", V.str "home", V.str "taken", V.str "twice", V.str "note"]) hl4
      refine ⟨_, rfl, .inl ⟨rfl, _, SqL.of (U4 _ _ (U9 _ _ upd_same))⟩, l3, _, .bl true, 7, .bl true, rfl, rfl, SqL.of (U4 _ _ (U9 _ _ upd_same)), rfl, rfl, rfl, rfl, fun m z' hm hz' => ?_, l4, _, _, _, rfl, rfl, SqL.of upd_same, atI_nat (j := 7) rfl, k _ (U1.trans (U2.trans (U3.trans (U9.trans U4))))⟩
      rcases (show m = 0 ∨ m = 1 ∨ m = 2 ∨ m = 3 ∨ m = 4 ∨ m = 5 ∨ m = 6 by omega) with rfl | rfl | rfl | rfl | rfl | rfl | rfl <;> (cases hz'; rfl)
end

end K11

namespace K11
open PySem L2 Ck TS2 TX TB
/-- what is told of a text: the refusal's word, or nothing -/
def sp__law_told (A : Ad) : Sp := fun vs H Q _ => ∃ l : List Nat, vs = [.str (tx l)] ∧ l.length ≤ 800 ∧ (∀ c ∈ l, c < 256) ∧ (parseT l = none → ∀ H', Same H H' → Q (.str "note") H') ∧
  ∀ c t1 t2 ths, parseT l = some ((c, t1, t2), ths) → (¬ M.GoodC c t1 t2 → ∀ H', Same H H' → Q (.str "nests") H') ∧
    (M.GoodC c t1 t2 → (∀ (i : Nat) (h : i < ths.length) (D : Addr) (key : Str), Goods c t1 t2 (ths.take i) → BadPut A c t1 t2 (heldOf (ths.take i)) ths[i] D → KindIs A D key → ∀ H', Same H H' → Q (.str key) H') ∧
      (Goods c t1 t2 ths → ∀ H', Same H H' → Q (.str "") H'))
theorem bad_kind {A : Ad} {c t1 t2 : Int} {L : Held} {x : Thng} {D : Addr} (h : BadPut A c t1 t2 L x D) : ∃ key, KindIs A D key := by
  cases h
  · exact ⟨"name", .inr (.inl ⟨rfl, rfl⟩)⟩
  · exact ⟨"value", .inr (.inr (.inl ⟨rfl, rfl⟩))⟩
  · exact ⟨"twice", .inr (.inr (.inr (.inr (.inr (.inr (.inl ⟨rfl, rfl⟩))))))⟩
  · exact ⟨"nest", .inr (.inr (.inr (.inl ⟨rfl, rfl⟩)))⟩
  · exact ⟨"home", .inr (.inr (.inr (.inr (.inl ⟨rfl, rfl⟩))))⟩
  · exact ⟨"taken", .inr (.inr (.inr (.inr (.inr (.inl ⟨rfl, rfl⟩)))))⟩
namespace M
section
variable {P : Program} {w : World} {K : PySem.W.Frag} {mg : Str → Option Value} {base : Heap} {A : Ad}
theorem kind_nest (T : Tx K mg A) {D : Addr} {key : Str} (h : KindIs A D key) : PySem.W.exmOne K (.ref D) (.ref A.c_NestError) = some true := by
  rcases h with ⟨rfl, _⟩ | ⟨rfl, _⟩ | ⟨rfl, _⟩ | ⟨rfl, _⟩ | ⟨rfl, _⟩ | ⟨rfl, _⟩ | ⟨rfl, _⟩ | ⟨rfl, _⟩
  · exact T.e_NoNests_NestError
  · exact T.e_NoName_NestError
  · exact T.e_NoValue_NestError
  · exact T.e_NoNest_NestError
  · exact T.e_NoHome_NestError
  · exact T.e_Taken_NestError
  · exact T.e_Twice_NestError
  · exact T.e_NoNote_NestError
theorem ok__law_told (T : Tx K mg A) : FnOk P w K mg base CX0 7 A.a__law_told A.d__law_told ["_law_text_here"] (sp__law_told A) := by
  refine T.F__law_told.ok sc__law_told (fun vs H Q E h => ?_) (fun cdv Ar outer s H vs Q E hr h => ?_)
  · obtain ⟨l, rfl, _⟩ := h
    rfl
  · obtain ⟨l, rfl, hl, hc, k0, k⟩ := h
    refine ⟨_, 
      (pss_cons (TB.ps_tryA (i := 1) rfl rfl sc__law_told.nd rfl rfl ⟨rfl, by decide, .inl T.g_NestError⟩)
      (pss_one (ps_ret pe_str))), ?_⟩
    intro pn xe tk po
    refine ⟨_, 
      (pss_one (ps_expr (pe_callSD (ok_read T) hr (by rfl) T.g_read T.F_read.kp T.b_read .nil (fun σ => passAt tk σ) (pa_cons (pv 0) pa_nil)))), ?_⟩
    refine ⟨_, rfl, l, rfl, hl, hc, fun hp H1 S1 => ?_, fun c t1 t2 ths hp => ⟨fun hg H1 S1 => ?_, fun hg => ⟨fun i h D hG hB H1 S1 => ?_, fun hG H1 a F vals S1 hT hF => ?_⟩⟩⟩
    · have hK : KindIs A A.c_NoNote "note" := .inr (.inr (.inr (.inr (.inr (.inr (.inr ⟨rfl, rfl⟩))))))
      refine ⟨true, kind_nest T hK, fun _ e he oe pn hz hf => ?_, fun z => by cases z⟩
      refine ⟨_, 
        (pss_one (ps_ret (TB.pe_callE List.mem_cons_self (ok__law_kind T) (L2H.roomH_mark (hr.mono (by decide)) _) (by rfl) T.g__law_kind T.F__law_kind.kp T.b__law_kind (pa_cons (pv 1) pa_nil)))), ?_⟩
      exact ⟨_, rfl, _, _, rfl, hK, hz, hf, fun H2 S2 => k0 hp H2 (S1.trans S2)⟩
    · have hK : KindIs A A.c_NoNests "nests" := .inl ⟨rfl, rfl⟩
      refine ⟨true, kind_nest T hK, fun _ e he oe pn hz hf => ?_, fun z => by cases z⟩
      refine ⟨_, 
        (pss_one (ps_ret (TB.pe_callE List.mem_cons_self (ok__law_kind T) (L2H.roomH_mark (hr.mono (by decide)) _) (by rfl) T.g__law_kind T.F__law_kind.kp T.b__law_kind (pa_cons (pv 1) pa_nil)))), ?_⟩
      exact ⟨_, rfl, _, _, rfl, hK, hz, hf, fun H2 S2 => (k c t1 t2 ths hp).1 hg H2 (S1.trans S2)⟩
    · obtain ⟨key, hK⟩ := bad_kind hB
      refine ⟨true, kind_nest T hK, fun _ e he oe pn hz hf => ?_, fun z => by cases z⟩
      refine ⟨_, 
        (pss_one (ps_ret (TB.pe_callE List.mem_cons_self (ok__law_kind T) (L2H.roomH_mark (hr.mono (by decide)) _) (by rfl) T.g__law_kind T.F__law_kind.kp T.b__law_kind (pa_cons (pv 1) pa_nil)))), ?_⟩
      exact ⟨_, rfl, _, _, rfl, hK, hz, hf, fun H2 S2 => ((k c t1 t2 ths hp).2 hg).1 i h D key hG hB hK H2 (S1.trans S2)⟩
    · exact ((k c t1 t2 ths hp).2 hg).2 hG H1 S1
end
end M
section
variable {P : Program} {w : World} {K : PySem.W.Frag} {mg : Str → Option Value} {base : Heap} {A : Ad}
theorem ok__law_told (T : Tx K mg A) : FnOk P w K mg base CX0 7 A.a__law_told A.d__law_told ["_law_text_here"] (sp__law_told A) := M.ok__law_told T
theorem ok_read (T : Tx K mg A) : FnOk P w K mg base (L2.CX P w) 6 A.a_read A.d_read ["text"] (sp_read A) := M.ok_read T
end

end K11

namespace K11
open PySem L2 Ck TS2 TX TB
/-! what the laws ask of the table's methods -/
def sp_Nests_init (C : Addr) : Sp := fun vs H Q _ => ∃ (x dx : Addr) (c t1 t2 : Int), vs = [.ref x, .int c, .int t1, .int t2] ∧ H x = some (.ins C dx []) ∧ 1 ≤ c ∧ c ≤ 1000 ∧ 1 ≤ t1 ∧ t1 ≤ 1000000 ∧ 1 ≤ t2 ∧ t2 ≤ 1000000 ∧
  ∀ H' F vals, TabAt C H' x F c t1 t2 [] vals → (∀ b o, H b = some o → b ≠ x → H' b = some o) → (∀ b ∈ F, b = x ∨ H b = none) → Q .non H'
def sp_Nests_homes (C : Addr) : Sp := fun vs H Q _ => ∃ (a : Addr) (F : List Addr) (c t1 t2 : Int) (L : Held) (vals : Name → Int) (n : Name), vs = [.ref a, .str (tx n)] ∧ TabAt C H a F c t1 t2 L vals ∧ NameOk n ∧
  ∀ H' p qa qb, Same H H' → H p = none → H' p = some (.tup [.ref qa, .ref qb]) → H' qa = some (.tup (sv (seatP (hmN c t1 t2 n) 0))) → H' qb = some (.tup (sv (seatP (hmN c t1 t2 n) 1))) → Q (.ref p) H'
def sp_Nests_at (K : PySem.W.Frag) (C : Addr) : Sp := fun vs H Q _ => ∃ (a q : Addr) (F : List Addr) (c t1 t2 : Int) (L : Held) (vals : Name → Int) (s : Seat), vs = [.ref a, .ref q] ∧ TabAt C H a F c t1 t2 L vals ∧ SqT K H q (sv s) ∧ H q = some (.tup (sv s)) ∧ InT c s ∧ ∀ H', Same H H' → Q (vAt L s) H'
def sp_Nests_way (C : Addr) : Sp := fun vs H Q _ => ∃ (a q : Addr) (F : List Addr) (c t1 t2 : Int) (L : Held) (vals : Name → Int) (s : Seat), vs = [.ref a, .ref q] ∧ TabAt C H a F c t1 t2 L vals ∧ H q = some (.tup (sv s)) ∧ InT c s ∧ L.length ≤ 60 ∧
  ∀ H' p (M : List (Addr × Seat)), Same H H' → H p = none → H' p = some (.lst (refs M)) → TupsAt H' M → IsWay (nxN (hmN c t1 t2) (getN L)) s (M.map (·.2)) → Q (.ref p) H'
def sp_Nests_names (C : Addr) : Sp := fun vs H Q _ => ∃ (a : Addr) (F : List Addr) (c t1 t2 : Int) (L : Held) (vals : Name → Int), vs = [.ref a] ∧ TabAt C H a F c t1 t2 L vals ∧ L.length ≤ 900 ∧
  ∀ H' p (S : List Seat), Same H H' → H p = none → H' p = some (.lst (vNames L S)) → S.Pairwise LtS → (∀ s, s ∈ S ↔ s ∈ L.map (·.1)) → Q (.ref p) H'
def sp_Nests_many (C : Addr) : Sp := fun vs H Q _ => ∃ (a : Addr) (F : List Addr) (c t1 t2 : Int) (L : Held) (vals : Name → Int), vs = [.ref a] ∧ TabAt C H a F c t1 t2 L vals ∧ ∀ H', Same H H' → Q (.int L.length) H'
def sp_Nests_put_at (C : Addr) : Sp := fun vs H Q _ => ∃ (a q : Addr) (F : List Addr) (c t1 t2 : Int) (L : Held) (vals : Name → Int) (n : Name) (v : Int) (s : Seat), vs = [.ref a, .str (tx n), .int v, .ref q] ∧ TabAt C H a F c t1 t2 L vals ∧ NameOk n ∧ n ∉ L.map (·.2) ∧ -1000000000 ≤ v ∧ v ≤ 1000000000 ∧ H q = some (.tup (sv s)) ∧
  (s = seatP (hmN c t1 t2 n) 0 ∨ s = seatP (hmN c t1 t2 n) 1) ∧ getN L s = none ∧ L.length ≤ 60 ∧
  ∀ H' F', KeepF F H H' → TabAt C H' a F' c t1 t2 (L ++ [(s, n)]) (fun m => if m = n then v else vals m) → (∀ b ∈ F', b ∈ F ∨ H b = none) → Q .non H'
/-! what the table's methods promise, with what they refuse -/
/-- refused with a class: nothing is changed -/
def Ref (C : Addr) (H : Hp) (a : Addr) (F : List Addr) (c t1 t2 : Int) (L : Held) (vals : Name → Int) (E : XK) (cls : Addr) : Prop := ∀ H' F', KeepF F H H' → TabAt C H' a F' c t1 t2 L vals → (∀ b ∈ F', b ∈ F ∨ H b = none) → E (.ref cls) none H'
def sp_Nests_put (C CR : Addr) : Sp := fun vs H Q E => ∃ (a : Addr) (F : List Addr) (c t1 t2 : Int) (L : Held) (vals : Name → Int) (n : Name) (v : Int), vs = [.ref a, .str (tx n), .int v] ∧ TabAt C H a F c t1 t2 L vals ∧ NameOk n ∧ -1000000000 ≤ v ∧ v ≤ 1000000000 ∧ L.length ≤ 60 ∧
  (n ∈ L.map (·.2) → ∀ H' F' p, KeepF F H H' → TabAt C H' a F' c t1 t2 L (fun m => if m = n then v else vals m) → (∀ b ∈ F', b ∈ F ∨ H b = none) → H p = none → p ∉ F' → H' p = some (.lst []) → Q (.ref p) H') ∧
  (n ∉ L.map (·.2) → ∀ A B, IsWay (nxN (hmN c t1 t2) (getN L)) (seatP (hmN c t1 t2 n) 0) A → IsWay (nxN (hmN c t1 t2) (getN L)) (seatP (hmN c t1 t2 n) 1) B →
    (∀ W L' H' F' p, Taken L A B W → (∀ s, getN L' s = shiftF (getN L) W (some n) s) → KeepF F H H' → TabAt C H' a F' c t1 t2 L' (fun m => if m = n then v else vals m) → (∀ b ∈ F', b ∈ F ∨ H b = none) → H p = none → p ∉ F' → MovesAt H' p (movesOf L W) → Q (.ref p) H') ∧
    (¬ openW L A → ¬ openW L B → Ref C H a F c t1 t2 L vals E CR))
def sp_Nests_put_at2 (C CT CW : Addr) : Sp := fun vs H Q E => ∃ (a q : Addr) (F : List Addr) (c t1 t2 : Int) (L : Held) (vals : Name → Int) (n : Name) (v : Int) (s : Seat), vs = [.ref a, .str (tx n), .int v, .ref q] ∧ TabAt C H a F c t1 t2 L vals ∧ NameOk n ∧ -1000000000 ≤ v ∧ v ≤ 1000000000 ∧ H q = some (.tup (sv s)) ∧
  (s = seatP (hmN c t1 t2 n) 0 ∨ s = seatP (hmN c t1 t2 n) 1) ∧ L.length ≤ 60 ∧
  (n ∈ L.map (·.2) → Ref C H a F c t1 t2 L vals E CW) ∧ (n ∉ L.map (·.2) → getN L s ≠ none → Ref C H a F c t1 t2 L vals E CT) ∧
  (n ∉ L.map (·.2) → getN L s = none → ∀ H' F', KeepF F H H' → TabAt C H' a F' c t1 t2 (L ++ [(s, n)]) (fun m => if m = n then v else vals m) → (∀ b ∈ F', b ∈ F ∨ H b = none) → Q .non H')
def sp_Nests_take_out (C CU : Addr) : Sp := fun vs H Q E => ∃ (a : Addr) (F : List Addr) (c t1 t2 : Int) (L : Held) (vals : Name → Int) (n : Name), vs = [.ref a, .str (tx n)] ∧ TabAt C H a F c t1 t2 L vals ∧ L.length ≤ 900 ∧ (n ∉ L.map (·.2) → n.length ≤ 1000 ∧ Ref C H a F c t1 t2 L vals E CU) ∧
  (n ∈ L.map (·.2) → ∀ H' F' L', (∀ x, x ∈ L' ↔ x ∈ L ∧ x.2 ≠ n) → KeepF F H H' → TabAt C H' a F' c t1 t2 L' vals → (∀ b ∈ F', b ∈ F ∨ H b = none) → Q (.int (vals n)) H')
def sp_Nests_value (C CU : Addr) : Sp := fun vs H Q E => ∃ (a : Addr) (F : List Addr) (c t1 t2 : Int) (L : Held) (vals : Name → Int) (n : Name), vs = [.ref a, .str (tx n)] ∧ TabAt C H a F c t1 t2 L vals ∧ (n ∉ L.map (·.2) → n.length ≤ 1000 ∧ ∀ H', Same H H' → E (.ref CU) none H') ∧ (n ∈ L.map (·.2) → ∀ H', Same H H' → Q (.int (vals n)) H')
def sp_Nests_where (C CU : Addr) : Sp := fun vs H Q E => ∃ (a : Addr) (F : List Addr) (c t1 t2 : Int) (L : Held) (vals : Name → Int) (n : Name), vs = [.ref a, .str (tx n)] ∧ TabAt C H a F c t1 t2 L vals ∧ L.length ≤ 900 ∧ (n ∉ L.map (·.2) → n.length ≤ 1000 ∧ ∀ H', Same H H' → E (.ref CU) none H') ∧ (∀ s, getN L s = some n → ∀ H' q, Same H H' → H' q = some (.tup (sv s)) → Q (.ref q) H')
def sp_Nests_moves (C CR : Addr) : Sp := fun vs H Q E => ∃ (a : Addr) (F : List Addr) (c t1 t2 : Int) (L : Held) (vals : Name → Int) (n : Name), vs = [.ref a, .str (tx n)] ∧ TabAt C H a F c t1 t2 L vals ∧ NameOk n ∧ L.length ≤ 60 ∧
  (n ∈ L.map (·.2) → ∀ H' p, Same H H' → H p = none → H' p = some (.lst []) → Q (.ref p) H') ∧
  (n ∉ L.map (·.2) → ∀ A B, IsWay (nxN (hmN c t1 t2) (getN L)) (seatP (hmN c t1 t2 n) 0) A → IsWay (nxN (hmN c t1 t2) (getN L)) (seatP (hmN c t1 t2 n) 1) B →
    (∀ W H' p, Taken L A B W → Same H H' → H p = none → MovesAt H' p (movesOf L W) → Q (.ref p) H') ∧ (¬ openW L A → ¬ openW L B → ∀ H', Same H H' → E (.ref CR) none H'))

section
variable {P : Program} {w : World} {K : PySem.W.Frag} {mg : Str → Option Value} {base : Heap} {A : Ad}
theorem ok_Nests_init (T : Tx K mg A) : FnOk P w K mg base (L2.CX P w) 1 A.a_Nests_init A.d_Nests_init ["self", "count", "first", "second"] (sp_Nests_init A.c_Nests) := (M.ok_Nests_init T).imp fun vs H Q E h => by
  obtain ⟨x, dx, c, t1, t2, rfl, hx, c0, c1, a0, a1, b0, b1, k⟩ := h
  exact ⟨x, dx, c, t1, t2, rfl, hx, M.smallI_of (by omega) (by omega), M.smallI_of (by omega) (by omega), M.smallI_of (by omega) (by omega), fun _ => k, fun z => (z ⟨c0, c1, a0, a1, b0, b1⟩).elim⟩
end

section
variable {P : Program} {w : World} {K : PySem.W.Frag} {mg : Str → Option Value} {base : Heap} {A : Ad}
theorem ok_Nests_put_at (T : Tx K mg A) : FnOk P w K mg base (L2.CX P w) 4 A.a_Nests_put_at A.d_Nests_put_at ["self", "name", "value", "nest"] (sp_Nests_put_at A.c_Nests) := (M.ok_Nests_put_at T).imp fun vs H Q E h => by
  obtain ⟨a, q, F, c, t1, t2, L, vals, n, v, s, rfl, TA, ho, hn, v0, v1, hq, hh, hs, hl, k⟩ := h
  have hi : InT c s := by
    rcases hh with e | e <;> rw [e]
    · exact home_in TA.good.c0 n (.inl rfl)
    · exact home_in TA.good.c0 n (.inr rfl)
  exact ⟨a, q, F, c, t1, t2, L, vals, n, v, s, rfl, TA, hq, M.nameOk_small ho, M.vOk_small ⟨v0, v1⟩, M.InT.small TA.good.c1 hi, by omega, fun z => (z ho).elim, fun _ z => (z ⟨v0, v1⟩).elim, fun _ _ z => (hn z).elim, fun _ _ _ z => (z hi).elim, fun _ _ _ _ z => (z hh).elim, fun _ _ _ _ z => (z hs).elim, fun _ _ _ _ _ => k⟩
end

section
variable {P : Program} {w : World} {K : PySem.W.Frag} {mg : Str → Option Value} {base : Heap} {A : Ad}
theorem ok_Nests_at (T : Tx K mg A) : FnOk P w K mg base (L2.CX P w) 2 A.a_Nests_at A.d_Nests_at ["self", "nest"] (sp_Nests_at K A.c_Nests) := (M.ok_Nests_at T).imp fun vs H Q E h => by
  obtain ⟨a, q, F, c, t1, t2, L, vals, s, rfl, TA, _, hq, hi, k⟩ := h
  exact ⟨a, q, F, c, t1, t2, L, vals, s, rfl, TA, hq, M.InT.small TA.good.c1 hi, fun _ => k, fun z => (z hi).elim⟩
end

section
variable {P : Program} {w : World} {K : PySem.W.Frag} {mg : Str → Option Value} {base : Heap} {A : Ad}
theorem ok_Nests_take_out (T : Tx K mg A) : FnOk P w K mg base (L2.CX P w) 3 A.a_Nests_take_out A.d_Nests_take_out ["self", "name"] (sp_Nests_take_out A.c_Nests A.c_Unknown) := (M.ok_Nests_take_out T).imp fun vs H Q E h => by
  obtain ⟨a, F, c, t1, t2, L, vals, n, rfl, TA, hl, k1, k2⟩ := h
  refine ⟨a, F, c, t1, t2, L, vals, n, rfl, TA, ?_, hl, fun z H' S => (k1 z).2 H' F (.of S) (TA.same S) fun b hb => .inl hb, k2⟩
  by_cases z : n ∈ L.map (·.2)
  · obtain ⟨x, hx, rfl⟩ := List.mem_map.mp z
    exact M.nameOk_small (TA.good.ok x hx)
  · exact (k1 z).1
end

section
variable {P : Program} {w : World} {K : PySem.W.Frag} {mg : Str → Option Value} {base : Heap} {A : Ad}
theorem ok_Nests_value (T : Tx K mg A) : FnOk P w K mg base (L2.CX P w) 2 A.a_Nests_value A.d_Nests_value ["self", "name"] (sp_Nests_value A.c_Nests A.c_Unknown) := (M.ok_Nests_value T).imp fun vs H Q E h => by
  obtain ⟨a, F, c, t1, t2, L, vals, n, rfl, ⟨gd, dx, d, w, M0, kv, rfl, R⟩, k1, k2⟩ := h
  refine ⟨a, dx, d, w, c, t1, t2, _, _, _, M0, kv, n, rfl, R, ?_, fun z => (k1 (thg_none.mp z)).2, fun s v e => ?_⟩
  · by_cases z : n ∈ L.map (·.2)
    · obtain ⟨x, hx, rfl⟩ := List.mem_map.mp z
      exact M.nameOk_small (gd.ok x hx)
    · exact (k1 z).1
  · obtain ⟨h1, rfl⟩ := thg_is e
    exact k2 (List.mem_map.mpr ⟨_, h1, rfl⟩) _ (Same.refl _)
end

section
variable {P : Program} {w : World} {K : PySem.W.Frag} {mg : Str → Option Value} {base : Heap} {A : Ad}
theorem ok_Nests_where (T : Tx K mg A) : FnOk P w K mg base (L2.CX P w) 2 A.a_Nests_where A.d_Nests_where ["self", "name"] (sp_Nests_where A.c_Nests A.c_Unknown) := (M.ok_Nests_where T).imp fun vs H Q E h => by
  obtain ⟨a, F, c, t1, t2, L, vals, n, rfl, ⟨gd, dx, d, w, M0, kv, rfl, R⟩, hl, k1, k2⟩ := h
  refine ⟨a, dx, d, w, c, t1, t2, _, _, _, M0, kv, n, rfl, R, ?_, fun z => (k1 (thg_none.mp z)).2, fun s v e q hq => ?_⟩
  · by_cases z : n ∈ L.map (·.2)
    · obtain ⟨x, hx, rfl⟩ := List.mem_map.mp z
      exact M.nameOk_small (gd.ok x hx)
    · exact (k1 z).1
  · obtain ⟨h1, rfl⟩ := thg_is e
    exact k2 s (getN_of_mem gd.ns h1) _ q (Same.refl _) hq
end

section
variable {P : Program} {w : World} {K : PySem.W.Frag} {mg : Str → Option Value} {base : Heap} {A : Ad}
theorem ok_Nests_names (T : Tx K mg A) : FnOk P w K mg base (L2.CX P w) 1 A.a_Nests_names A.d_Nests_names ["self"] (sp_Nests_names A.c_Nests) := (M.ok_Nests_names T).imp fun vs H Q E h => h
end

section
variable {P : Program} {w : World} {K : PySem.W.Frag} {mg : Str → Option Value} {base : Heap} {A : Ad}
theorem ok_Nests_many (T : Tx K mg A) : FnOk P w K mg base (L2.CX P w) 1 A.a_Nests_many A.d_Nests_many ["self"] (sp_Nests_many A.c_Nests) := (M.ok_Nests_many T).imp fun vs H Q E h => h
end

/-! the law's readers -/
def sp__law_cell_at (K : PySem.W.Frag) : Sp := fun vs H Q _ => ∃ (a : Addr) (ns : List Int) (k : Nat), vs = [.ref a, .int k] ∧ SqL K H a (ns.map V.int) ∧ Q (.int (ns.getD k 0)) H
def sp__law_mixed : Sp := fun vs H Q _ => ∃ (c k : Int), vs = [.int c, .int k] ∧ Q (.int (mixed c k)) H
section
variable {P : Program} {w : World} {K : PySem.W.Frag} {mg : Str → Option Value} {base : Heap} {A : Ad}
theorem ok__law_cell_at (T : Tx K mg A) : FnOk P w K mg base CX0 1 A.a__law_cell_at A.d__law_cell_at ["_law_script", "_law_k"] (sp__law_cell_at K) := by
  refine T.F__law_cell_at.ok sc__law_cell_at (fun vs H Q E h => ?_) (fun cdv Ar outer s H vs Q E hr h => ?_)
  · obtain ⟨a, ns, n, rfl, _⟩ := h
    rfl
  · obtain ⟨a, ns, n, rfl, hS, k⟩ := h
    refine ⟨_, 
      (pss_cons (ps_if (pt_cmpR op_lt (pv 1) (pe_callB call_len_seq (by rfl) T.m_len PySem.boot_len (pa_cons (pv 0) pa_nil)) (nomark _)) 
        (pss_one (ps_ret (pe_ix (r := rIxL K) ix_list (pv 0) (pv 1) (fun _ _ => rfl)))) pss_nil)
      (pss_one (ps_ret pe_int))), ?_⟩
    refine ⟨_, rfl, _, rfl, _, _, rfl, .inl hS, _, _, rfl, rfl, _, rfl, ?_⟩
    rw [List.length_map]
    refine ite2 (fun e => ?_) (fun e => ?_)
    · have hn : n < ns.length := by
        have := of_decide_eq_true e
        omega
      refine ⟨_, rfl, _, rfl, _, _, _, _, rfl, rfl, hS, atI_nat (v := .int (ns.getD n 0)) ?_, k⟩
      rw [List.getElem?_map, List.getElem?_eq_getElem hn, List.getD_eq_getElem?_getD, List.getElem?_eq_getElem hn]
      rfl
    · have hn : ¬ n < ns.length := fun q => e (decide_eq_true (by omega))
      have : ns.getD n 0 = 0 := by
        rw [List.getD_eq_getElem?_getD, List.getElem?_eq_none (by omega)]
        rfl
      rw [this] at k
      exact k
theorem ok__law_mixed (T : Tx K mg A) : FnOk P w K mg base CX0 1 A.a__law_mixed A.d__law_mixed ["_law_cell", "_law_k"] sp__law_mixed := by
  refine T.F__law_mixed.ok sc__law_mixed (fun vs H Q E h => ?_) (fun cdv Ar outer s H vs Q E hr h => ?_)
  · obtain ⟨c, n, rfl, _⟩ := h
    rfl
  · obtain ⟨c, n, rfl, k⟩ := h
    refine ⟨_, 
      (pss_cons (ps_set (i := 2) sc__law_mixed.nd rfl (Or.inl rfl) (pe_op op_mod (pe_op op_mul (pe_op op_add (pe_op op_add (pv 0) (pe_op op_mul pe_int (pv 1))) pe_int) pe_int) pe_int))
      (pss_one (ps_ret (pe_op op_mod (pe_op op_add (pe_op op_mul (pv 2) (pv 2)) (pe_op op_mul pe_int (pv 2))) pe_int)))), ?_⟩
    have h0 : 0 ≤ (c + 7919 * n + 11) * 48271 % 2147483647 := Int.emod_nonneg _ (by decide)
    have h1 : (c + 7919 * n + 11) * 48271 % 2147483647 < 2147483647 := Int.emod_lt_of_pos _ (by decide)
    refine ⟨_, rfl, _, rfl, _, _, rfl, rfl, .inl ⟨by decide, by decide⟩, _, _, rfl, rfl, _, _, rfl, rfl, _, _, rfl, rfl, .inr ⟨by decide, by decide⟩, _, _, rfl, rfl, (by show (0 : Int) < 2147483647; decide), ?_⟩
    refine ⟨_, rfl, _, rfl, _, _, rfl, rfl, .inl ⟨by omega, by omega⟩, _, rfl, _, _, rfl, rfl, .inl ⟨by decide, by decide⟩, _, _, rfl, rfl, _, _, rfl, rfl, (by show (0 : Int) < 2147483399; decide), k⟩
end

/-! the law's names, homes, table -/
def sp__law_names : Sp := fun vs H Q _ => ∃ (c : Int) (n : Nat), vs = [.int c, .int n] ∧ n ≤ 1000 ∧ ∀ H' p, Same H H' → H p = none → H' p = some (.lst (((List.range n).map (nameL c)).map fun l => V.str (tx l))) → Q (.ref p) H'
def sp__law_home : Sp := fun vs H Q _ => ∃ (l : List Nat) (t m : Int), vs = [.str (tx l), .int t, .int m] ∧ (∀ c ∈ l, c ∈ alph) ∧ 0 < m ∧ m ≤ 1000000 ∧ Q (.int (homeN t m l 0)) H
def sp__law_table (K : PySem.W.Frag) : Sp := fun vs H Q _ => ∃ (a : Addr) (ns : List Int), vs = [.ref a] ∧ SqL K H a (ns.map V.int) ∧ ∀ H' p (c t1 t2 : Int), Same H H' → H p = none → H' p = some (.tup [.int c, .int t1, .int t2]) → 1 ≤ c → c ≤ 1000 → 1 ≤ t1 → t1 ≤ 1000000 → 1 ≤ t2 → t2 ≤ 1000000 → Q (.ref p) H'
/-- all keys are names of the list -/
def KeysIn (H : Hp) (d : Addr) (ns : List Name) : Prop := ∃ kvs : List (Key × V), H d = some (.dK kvs) ∧ kvs.length ≤ ns.length ∧ ∀ e ∈ kvs, ∃ n ∈ ns, e.1 = .inr (tx n)
theorem KeysIn.same {H H' : Hp} {d : Addr} {ns : List Name} (h : KeysIn H d ns) (e : Same H H') : KeysIn H' d ns := by
  obtain ⟨kvs, h1, h2⟩ := h
  exact ⟨kvs, e _ _ h1, h2⟩
theorem putK_mem {κ : Type} [DecidableEq κ] {kvs : List (κ × V)} {k : κ} {v : V} {e : κ × V} (h : e ∈ putK kvs k v) : e.1 = k ∨ ∃ f ∈ kvs, f.1 = e.1 := by
  unfold putK at h
  split at h
  · obtain ⟨f, hf, rfl⟩ := List.mem_map.mp h
    by_cases q : f.1 = k
    · rw [if_pos q]
      exact .inl q
    · rw [if_neg q]
      exact .inr ⟨f, hf, rfl⟩
  · rcases List.mem_append.mp h with z | z
    · exact .inr ⟨e, z, rfl⟩
    · rw [List.mem_singleton.mp z]
      exact .inl rfl
def sp__law_homes (K : PySem.W.Frag) : Sp := fun vs H Q _ => ∃ (l t : Addr) (ns : List Name) (c t1 t2 : Int), vs = [.ref l, .ref t] ∧ SqL K H l (ns.map fun n => V.str (tx n)) ∧ (∀ n ∈ ns, ∀ x ∈ n, x ∈ alph) ∧ ns.length ≤ 1000 ∧ SqT K H t [.int c, .int t1, .int t2] ∧ 0 < c ∧ c ≤ 1000000 ∧
  ∀ H' d, Same H H' → H d = none → HomesAt H' d ns (hmN c t1 t2) → KeysIn H' d ns → Q (.ref d) H'
theorem two_at {a x : Int} (h0 : 0 < a) (h1 : a ≤ 1000000) : ∃ m : Int, 0 < m ∧ m ≤ 1000000 ∧ atI [V.int a, V.int 1000000] (x % 2) = some (.int m) := by
  rcases (show x % 2 = 0 ∨ x % 2 = 1 by omega) with e | e <;> rw [e]
  · exact ⟨a, h0, h1, atI_nat (j := 0) rfl⟩
  · exact ⟨1000000, by decide, by decide, atI_nat (j := 1) rfl⟩
section
variable {P : Program} {w : World} {K : PySem.W.Frag} {mg : Str → Option Value} {base : Heap} {A : Ad}
theorem ok__law_home (T : Tx K mg A) : FnOk P w K mg base CX0 1 A.a__law_home A.d__law_home ["_law_name", "_law_times", "_law_count"] sp__law_home := by
  refine T.F__law_home.ok sc__law_home (fun vs H Q E h => ?_) (fun cdv Ar outer s H vs Q E hr h => ?_)
  · obtain ⟨l, t, m, rfl, _⟩ := h
    rfl
  · obtain ⟨l, t, m, rfl, hl, hm, hm2, k⟩ := h
    refine ⟨_, 
      (pss_cons (ps_set (i := 3) sc__law_home.nd rfl (Or.inl rfl) pe_str)
      (pss_cons (ps_set (i := 4) sc__law_home.nd rfl (Or.inl rfl) pe_int)
      (pss_cons (ps_for PassesOwn.never rfl (pi_str (pv 0)) (pg_name (i := 5) sc__law_home.nd rfl (Or.inl rfl)) 
        (pss_one (ps_set (i := 4) sc__law_home.nd rfl (Or.inl rfl) (pe_op op_mod (pe_op op_add (pe_op op_add (pe_op op_mul (pv 4) (pv 1)) (pe_m1 PySem.F.slot_str_index PySem.F.type_str_index mt_sindex (pv 3) (pv 5))) pe_int) (pv 2)))))
      (pss_one (ps_ret (pv 4)))))), ?_⟩
    refine ⟨_, rfl, _, rfl, for_it walk_str (fun i σ H' => H' = H ∧ ∃ v, σ = [some (.str (tx l)), some (.int t), some (.int m), some (.str (tx alph)), some (.int (homeN t m (l.take i) 0)), v]) ⟨rfl, _, by rw [alph_tx]; rfl⟩ (fun _ _ _ _ _ => trivial) ?_ ?_⟩
    · rintro i x σ H1 H2 hi ⟨rfl, v, rfl⟩ ⟨rfl, c, hc, rfl⟩
      have hb := homeN_in t m hm (l.take i) 0 (by omega) hm
      refine ⟨_, rfl, _, rfl, _, _, rfl, rfl, .inl ⟨by omega, by omega⟩, _, rfl, ⟨_, rfl⟩, _, rfl, _, _, idx c, [], rfl, rfl, ?_, _, _, rfl, rfl, _, _, rfl, rfl, _, rfl, _, _, rfl, rfl, hm, ?_⟩
      · exact occ_at (hl c (mem_at hc))
      · refine ⟨rfl, some (.str ⟨#[c]⟩), ?_⟩
        rw [take_snoc hc, homeN_snoc]
        rfl
    · rintro σ H1 ⟨rfl, v, rfl⟩
      have hs : (tx l).cps.size = l.length := tx_len l
      rw [hs, List.take_length]
      exact ⟨_, rfl, k⟩
theorem ok__law_names (T : Tx K mg A) : FnOk P w K mg base CX0 2 A.a__law_names A.d__law_names ["_law_cell", "_law_many"] sp__law_names := by
  refine T.F__law_names.ok sc__law_names (fun vs H Q E h => ?_) (fun cdv Ar outer s H vs Q E hr h => ?_)
  · obtain ⟨c, n, rfl, _⟩ := h
    rfl
  · obtain ⟨c, n, rfl, hn, k⟩ := h
    refine ⟨_, 
      (pss_cons (ps_set (i := 2) sc__law_names.nd rfl (Or.inl rfl) pe_str)
      (pss_cons (ps_set (i := 3) sc__law_names.nd rfl (Or.inl rfl) pe_str)
      (pss_cons (ps_for PassesOwn.never rfl (pi_range1 (by rfl) T.m_range (pa_cons (pe_op op_mod (pv 0) pe_int) pa_nil)) (pg_name (i := 4) sc__law_names.nd rfl (Or.inl rfl)) 
        (pss_one (ps_set (i := 3) sc__law_names.nd rfl (Or.inl rfl) (pe_op op_add_str (pv 3) (pe_ix ix_str (pv 2) (pe_op op_mod (pe_op op_fdiv (pe_call (ok__law_mixed T) hr (by rfl) T.g__law_mixed T.F__law_mixed.kp T.b__law_mixed .nil pass0 (pa_cons (pv 0) (pa_cons (pv 4) pa_nil))) pe_int) pe_int) (fun _ _ => rfl))))))
      (pss_cons (ps_set (i := 5) sc__law_names.nd rfl (Or.inl rfl) (pe_op op_mod (pe_op op_fdiv (pv 0) pe_int) pe_int))
      (pss_cons (ps_set (i := 6) sc__law_names.nd rfl (Or.inl rfl) (pe_lst pa_nil))
      (pss_cons (ps_for PassesOwn.never rfl (pi_range1 (by rfl) T.m_range (pa_cons (pv 1) pa_nil)) (pg_name (i := 4) sc__law_names.nd rfl (Or.inl rfl)) 
        (pss_cons (ps_set (i := 7) sc__law_names.nd rfl (Or.inl rfl) (pe_call (ok__law_mixed T) hr (by rfl) T.g__law_mixed T.F__law_mixed.kp T.b__law_mixed .nil pass0 (pa_cons (pv 0) (pa_cons (pe_op op_add pe_int (pv 4)) pa_nil))))
        (pss_cons (ps_set (i := 8) sc__law_names.nd rfl (Or.inl rfl) (pe_ix ix_str (pv 2) (pe_op op_mod (pe_op op_add (pe_op op_fdiv (pv 0) pe_int) (pv 4)) pe_int) (fun _ _ => rfl)))
        (C8.pss_cut (ps_if (pt_cmpR op_gt (pe_op op_mod (pe_op op_fdiv (pv 0) pe_int) pe_int) pe_int (nomark _)) 
          (pss_one (ps_set (i := 8) sc__law_names.nd rfl (Or.inl rfl) (pe_op op_add_str (pe_op op_add_str (pe_ix ix_str (pv 2) (pe_op op_mod (pe_op op_fdiv (pv 7) pe_int) pe_int) (fun _ _ => rfl)) (pe_ix ix_str (pv 2) (pe_op op_mod (pe_op op_fdiv (pv 7) pe_int) pe_int) (fun _ _ => rfl))) (pv 8)))) pss_nil)
        (pss_one (ps_expr (pe_bm PySem.F.plainAttrs_list PySem.F.slot_list_append PySem.F.type_list_append mt_append (pv 6) (pa_cons (pe_op op_add_str (pe_op op_add_str (pe_slice sl_str (pv 3) po_none (po_some (pv 5))) (pv 8)) (pe_slice sl_str (pv 3) (po_some (pv 5)) po_none)) pa_nil))))))))
      (pss_one (ps_ret (pv 6))))))))), ?_⟩
    obtain ⟨b, eb⟩ : ∃ b : Nat, c % 10 = (b : Int) := ⟨(c % 10).toNat, by omega⟩
    obtain ⟨at_, ea⟩ : ∃ a : Nat, c / 10 % 11 = (a : Int) := ⟨(c / 10 % 11).toNat, by omega⟩
    have hb : b ≤ 9 := by omega
    -- the text
    refine ⟨_, rfl, _, _, rfl, rfl, (by show (0 : Int) < 10; decide), _, rfl, by omega, by omega, for_range (lo := 0) (n := (c % 10).toNat) (fun i σ H' => H' = H ∧ ∃ v, σ = [some (.int c), some (.int n), some (.str (tx alph)), some (.str (tx (text c i))), v, none, none, none, none]) ⟨rfl, none, by rw [alph_tx, nil_tx]; rfl⟩ ?_ ?_⟩
    · rintro i σ H1 hi ⟨rfl, v, rfl⟩
      refine ⟨_, rfl, _, rfl, _, rfl, _, rfl, _, _, rfl, ?_⟩
      have e0 : (0 + (i : Int)) = (i : Int) := by omega
      rw [e0]
      refine ⟨_, _, rfl, rfl, ⟨by decide, by decide⟩, _, _, rfl, rfl, (by show (0 : Int) < 36; decide), ?_⟩
      refine ⟨_, _, sign c i, rfl, rfl, (by rw [tx_len]; decide), one_at (mixed c i / 31), _, _, rfl, rfl, (by
        rw [tx_len, text_len]
        show i + 1 ≤ sizeLine
        exact Nat.le_of_lt (small1000 (by omega))), ?_⟩
      refine ⟨rfl, some (.int (i : Int)), ?_⟩
      have e2 : tx (text c i) ++ ⟨#[sign c i]⟩ = tx (text c (i + 1)) := by
        rw [text_succ, ← tx_app]
      rw [e2]
      rfl
    · rintro σ H1 ⟨rfl, v, rfl⟩
      refine ⟨_, rfl, _, _, rfl, rfl, ⟨by decide, by decide⟩, _, _, rfl, rfl, (by show (0 : Int) < 11; decide), ?_⟩
      refine ⟨Nat.zero_le _, fun p hp => ?_⟩
      refine ⟨_, rfl, _, rfl, by omega, by omega, for_range (lo := 0) (n := n) (fun i σ H' => ∃ v4 v7 v8, σ = [some (.int c), some (.int n), some (.str (tx alph)), some (.str (tx (text c (c % 10).toNat))), v4, some (.int (c / 10 % 11)), some (.ref p), v7, v8] ∧ Same H1 H' ∧ H' p = some (.lst (((List.range i).map (nameL c)).map fun l => V.str (tx l)))) ⟨_, none, none, rfl, same_new hp, upd_same⟩ ?_ ?_⟩
      · rintro i σ H2 hi ⟨v4, v7, v8, rfl, SH, hl⟩
        have e0 : (0 + (i : Int)) = (i : Int) := by omega
        rw [e0]
        refine ⟨_, rfl, _, rfl, _, _, rfl, rfl, _, _, rfl, ?_⟩
        refine ⟨_, rfl, _, rfl, _, _, rfl, rfl, ⟨by decide, by decide⟩, _, rfl, _, _, rfl, rfl, _, _, rfl, rfl, (by show (0 : Int) < 36; decide), _, _, one (c / 110 + (i : Int)), rfl, rfl, (by rw [tx_len]; decide), one_at _, ?_⟩
        -- the sign, or three
        refine ⟨fun σ H3 => H3 = H2 ∧ σ = [some (.int c), some (.int n), some (.str (tx alph)), some (.str (tx (text c (c % 10).toNat))), some (.int (i : Int)), some (.int (c / 10 % 11)), some (.ref p), some (.int (mixed c (50 + (i : Int)))), some (.str (tx (mid c i)))], ?_, ?_⟩
        · refine ⟨_, rfl, _, _, rfl, rfl, ⟨by decide, by decide⟩, _, _, rfl, rfl, (by show (0 : Int) < 3; decide), _, _, rfl, rfl, _, rfl, ?_⟩
          refine ite2 (fun e => ?_) (fun e => ?_)
          · have e1 : 0 < c / 3960 % 3 := of_decide_eq_true e
            refine ⟨_, rfl, _, rfl, _, _, rfl, rfl, ⟨by decide, by decide⟩, _, _, rfl, rfl, (by show (0 : Int) < 36; decide), _, _, one (mixed c (50 + (i : Int)) / 7), rfl, rfl, (by rw [tx_len]; decide), one_at _, ?_⟩
            refine ⟨_, rfl, _, rfl, _, _, rfl, rfl, ⟨by decide, by decide⟩, _, _, rfl, rfl, (by show (0 : Int) < 36; decide), _, _, one (mixed c (50 + (i : Int)) / 301), rfl, rfl, (by rw [tx_len]; decide), one_at _, ?_⟩
            refine ⟨_, _, rfl, rfl, (by show 2 ≤ sizeLine; decide), _, rfl, _, _, rfl, rfl, (by show 3 ≤ sizeLine; decide), rfl, ?_⟩
            have e2 : tx (mid c i) = ((⟨#[one (mixed c (50 + (i : Int)) / 7)]⟩ : Str) ++ (⟨#[one (mixed c (50 + (i : Int)) / 301)]⟩ : Str)) ++ (⟨#[one (c / 110 + (i : Int))]⟩ : Str) := by
              unfold mid
              rw [if_pos e1]
              rfl
            rw [e2]
            rfl
          · have e1 : ¬ 0 < c / 3960 % 3 := fun q => e (decide_eq_true q)
            refine ⟨rfl, ?_⟩
            have e2 : tx (mid c i) = (⟨#[one (c / 110 + (i : Int))]⟩ : Str) := by
              unfold mid
              rw [if_neg e1]
              rfl
            rw [e2]
            rfl
        rintro σ H3 ⟨rfl, rfl⟩
        have hz : (tx (text c (c % 10).toNat)).length ≤ sizeLine := by
          rw [tx_len, text_len]
          exact Nat.le_of_lt (small1000 (by omega))
        have hm := mid_len c i
        refine ⟨_, rfl, .inl ⟨rfl, _, SqL.of hl⟩, _, rfl, _, rfl, _, rfl, _, rfl, hz, _, rfl, _, _, rfl, rfl, ?_, ?_⟩
        · show (cutS (tx (text c (c % 10).toNat)) none (some (c / 10 % 11))).length + (tx (mid c i)).length ≤ sizeLine
          rw [ea, cut_lo, tx_len, tx_len, List.length_take, text_len]
          exact Nat.le_of_lt (small1000 (by omega))
        refine ⟨_, rfl, _, rfl, _, rfl, _, rfl, hz, _, _, rfl, rfl, ?_, ?_⟩
        · show (cutS (tx (text c (c % 10).toNat)) none (some (c / 10 % 11)) ++ tx (mid c i)).length + (cutS (tx (text c (c % 10).toNat)) (some (c / 10 % 11)) none).length ≤ sizeLine
          rw [ea, cut_lo, cut_hi, tx_app, tx_len, tx_len, List.length_append, List.length_take, List.length_drop, text_len]
          exact Nat.le_of_lt (small1000 (by omega))
        refine ⟨p, _, _, rfl, rfl, hl, (by rw [List.length_map, List.length_map, List.length_range]; exact small1000 (by omega)), _, _, _, rfl, same_mut SH hp, ?_⟩
        rw [upd_same, List.range_succ, List.map_append, List.map_append]
        show some (HO.lst (_ ++ [V.str (cutS (tx (text c (c % 10).toNat)) none (some (c / 10 % 11)) ++ tx (mid c i) ++ cutS (tx (text c (c % 10).toNat)) (some (c / 10 % 11)) none)])) = some (HO.lst (_ ++ [V.str (tx (nameL c i))]))
        rw [ea, cut_lo, cut_hi, tx_app, tx_app]
        unfold nameL
        rw [ea]
        rfl
      · rintro σ H2 ⟨v4, v7, v8, rfl, SH, hl⟩
        exact ⟨_, rfl, k H2 p SH hp hl⟩
theorem ok__law_table (T : Tx K mg A) : FnOk P w K mg base CX0 2 A.a__law_table A.d__law_table ["_law_script"] (sp__law_table K) := by
  refine T.F__law_table.ok sc__law_table (fun vs H Q E h => ?_) (fun cdv Ar outer s H vs Q E hr h => ?_)
  · obtain ⟨a, ns, rfl, _⟩ := h
    rfl
  · obtain ⟨a, ns, rfl, hS, k⟩ := h
    refine ⟨_, 
      (pss_cons (ps_set (i := 1) sc__law_table.nd rfl (Or.inl rfl) (pe_op op_add pe_int (pe_op op_mod (pe_call (ok__law_cell_at T) hr (by rfl) T.g__law_cell_at T.F__law_cell_at.kp T.b__law_cell_at .nil pass0 (pa_cons (pv 0) (pa_cons pe_int pa_nil))) pe_int)))
      (C8.pss_cut (ps_if (pt_cmpR op_eq (pe_op op_mod (pe_op op_fdiv (pe_call (ok__law_cell_at T) hr (by rfl) T.g__law_cell_at T.F__law_cell_at.kp T.b__law_cell_at .nil pass0 (pa_cons (pv 0) (pa_cons pe_int pa_nil))) pe_int) pe_int) pe_int (nomark _)) 
        (pss_one (ps_set (i := 1) sc__law_table.nd rfl (Or.inl rfl) (pe_op op_add pe_int (pe_op op_mod (pe_op op_fdiv (pe_call (ok__law_cell_at T) hr (by rfl) T.g__law_cell_at T.F__law_cell_at.kp T.b__law_cell_at .nil pass0 (pa_cons (pv 0) (pa_cons pe_int pa_nil))) pe_int) pe_int)))) pss_nil)
      (pss_cons (ps_set (i := 2) sc__law_table.nd rfl (Or.inl rfl) (pe_op op_add pe_int (pe_op op_mod (pe_call (ok__law_mixed T) hr (by rfl) T.g__law_mixed T.F__law_mixed.kp T.b__law_mixed .nil pass0 (pa_cons (pe_call (ok__law_cell_at T) hr (by rfl) T.g__law_cell_at T.F__law_cell_at.kp T.b__law_cell_at .nil pass0 (pa_cons (pv 0) (pa_cons pe_int pa_nil))) (pa_cons pe_int pa_nil))) (pe_ix (r := rIxL K) ix_list (pe_lst (pa_cons pe_int (pa_cons pe_int pa_nil))) (pe_op op_mod (pe_call (ok__law_cell_at T) hr (by rfl) T.g__law_cell_at T.F__law_cell_at.kp T.b__law_cell_at .nil pass0 (pa_cons (pv 0) (pa_cons pe_int pa_nil))) pe_int) (fun _ _ => rfl)))))
      (pss_cons (ps_set (i := 3) sc__law_table.nd rfl (Or.inl rfl) (pe_op op_add pe_int (pe_op op_mod (pe_call (ok__law_mixed T) hr (by rfl) T.g__law_mixed T.F__law_mixed.kp T.b__law_mixed .nil pass0 (pa_cons (pe_call (ok__law_cell_at T) hr (by rfl) T.g__law_cell_at T.F__law_cell_at.kp T.b__law_cell_at .nil pass0 (pa_cons (pv 0) (pa_cons pe_int pa_nil))) (pa_cons pe_int pa_nil))) (pe_ix (r := rIxL K) ix_list (pe_lst (pa_cons pe_int (pa_cons pe_int pa_nil))) (pe_op op_mod (pe_call (ok__law_cell_at T) hr (by rfl) T.g__law_cell_at T.F__law_cell_at.kp T.b__law_cell_at .nil pass0 (pa_cons (pv 0) (pa_cons pe_int pa_nil))) pe_int) (fun _ _ => rfl)))))
      (pss_one (ps_ret (pe_tup (pa_cons (pv 1) (pa_cons (pv 2) (pa_cons (pv 3) pa_nil)))))))))), ?_⟩
    refine ⟨_, rfl, a, ns, 0, rfl, hS, _, _, rfl, rfl, (by show (0 : Int) < 6; decide), _, _, rfl, rfl, ?_⟩
    refine ⟨fun σ H1 => H1 = H ∧ ∃ c : Int, 1 ≤ c ∧ c ≤ 1000 ∧ σ = [some (.ref a), some (.int c), none, none], ?_, ?_⟩
    · refine ⟨_, rfl, a, ns, 0, rfl, hS, _, _, rfl, rfl, ⟨by decide, by decide⟩, _, _, rfl, rfl, (by show (0 : Int) < 8; decide), rfl, _, rfl, ?_⟩
      refine ite2 (fun _ => ?_) (fun _ => ?_)
      · refine ⟨_, rfl, a, ns, 0, rfl, hS, _, _, rfl, rfl, ⟨by decide, by decide⟩, _, _, rfl, rfl, (by show (0 : Int) < 1000; decide), _, _, rfl, rfl, rfl, _, ?_, ?_, rfl⟩ <;> omega
      · refine ⟨rfl, _, ?_, ?_, rfl⟩ <;> omega
    rintro σ H1 ⟨rfl, c, hc0, hc1, rfl⟩
    refine ⟨_, rfl, a, ns, 1, rfl, hS, _, _, rfl, (by show 2 ≤ sizeLine; decide), fun f1 hf1 => ?_⟩
    have S1 := same_new (o := .lst [V.int 7, V.int 1000000]) hf1
    obtain ⟨m1, h10, h11, e1⟩ := two_at (a := 7) (x := ns.getD 1 0) (by decide) (by decide)
    refine ⟨_, rfl, a, ns, 1, rfl, S1.seq hS, _, _, rfl, rfl, (by show (0 : Int) < 2; decide), f1, _, _, _, rfl, rfl, SqL.of upd_same, e1, _, _, rfl, rfl, h10, _, _, rfl, rfl, ?_⟩
    refine ⟨_, rfl, a, ns, 2, rfl, S1.seq hS, _, _, rfl, (by show 2 ≤ sizeLine; decide), fun f2 hf2 => ?_⟩
    have S2 := S1.trans (same_new (o := .lst [V.int 9, V.int 1000000]) hf2)
    obtain ⟨m2, h20, h21, e2⟩ := two_at (a := 9) (x := ns.getD 2 0) (by decide) (by decide)
    refine ⟨_, rfl, a, ns, 2, rfl, S2.seq hS, _, _, rfl, rfl, (by show (0 : Int) < 2; decide), f2, _, _, _, rfl, rfl, SqL.of upd_same, e2, _, _, rfl, rfl, h20, _, _, rfl, rfl, ?_⟩
    refine ⟨_, rfl, _, rfl, _, rfl, (by show 3 ≤ sizeLine; decide), fun q hq => ?_⟩
    have a1 := Int.emod_nonneg (mixed (ns.getD 1 0) 1) (Int.ne_of_gt h10)
    have a2 := Int.emod_lt_of_pos (mixed (ns.getD 1 0) 1) h10
    have a3 := Int.emod_nonneg (mixed (ns.getD 2 0) 2) (Int.ne_of_gt h20)
    have a4 := Int.emod_lt_of_pos (mixed (ns.getD 2 0) 2) h20
    exact k _ q c _ _ (S2.trans (same_new hq)) (S2.free hq) upd_same hc0 hc1 (by omega) (by omega) (by omega) (by omega)
theorem ok__law_homes (T : Tx K mg A) : FnOk P w K mg base CX0 2 A.a__law_homes A.d__law_homes ["_law_names_here", "_law_told_here"] (sp__law_homes K) := by
  refine T.F__law_homes.ok sc__law_homes (fun vs H Q E h => ?_) (fun cdv Ar outer s H vs Q E hr h => ?_)
  · obtain ⟨l, t, ns, c, t1, t2, rfl, _⟩ := h
    rfl
  · obtain ⟨l, t, ns, c, t1, t2, rfl, hl, hal, hn, ht, hc0, hc1, k⟩ := h
    refine ⟨_, 
      (pss_cons (ps_set (i := 2) sc__law_homes.nd rfl (Or.inl rfl) pe_dnewK)
      (pss_cons (ps_for PassesOwn.never rfl (pi_list (pv 0)) (pg_name (i := 3) sc__law_homes.nd rfl (Or.inl rfl)) 
        (pss_one (ps_dput (hu_of hr) (pv 2) (pv 3) (pe_tup (pa_cons (pe_tup (pa_cons pe_int (pa_cons (pe_call (ok__law_home T) hr (by rfl) T.g__law_home T.F__law_home.kp T.b__law_home .nil pass0 (pa_cons (pv 3) (pa_cons (pe_ix (r := rIxT K) ix_tup (pv 1) pe_int (fun _ _ => rfl)) (pa_cons (pe_ix (r := rIxT K) ix_tup (pv 1) pe_int (fun _ _ => rfl)) pa_nil)))) pa_nil))) (pa_cons (pe_tup (pa_cons pe_int (pa_cons (pe_call (ok__law_home T) hr (by rfl) T.g__law_home T.F__law_home.kp T.b__law_home .nil pass0 (pa_cons (pv 3) (pa_cons (pe_ix (r := rIxT K) ix_tup (pv 1) pe_int (fun _ _ => rfl)) (pa_cons (pe_ix (r := rIxT K) ix_tup (pv 1) pe_int (fun _ _ => rfl)) pa_nil)))) pa_nil))) pa_nil))) rfl)))
      (pss_one (ps_ret (pv 2))))), ?_⟩
    intro d hd
    have S0 : Same H (upd H d (.dK [])) := same_new hd
    refine ⟨_, rfl, l, rfl, ⟨_, S0.seq hl⟩, for_list (K := K) (a := l) (xs := ns.map fun n => V.str (tx n)) (fun i σ H1 => ∃ (v : Option V) (kvs : List (Key × V)), σ = [some (.ref l), some (.ref t), some (.ref d), v] ∧ Same H H1 ∧ H1 d = some (.dK kvs) ∧ kvs.length ≤ i ∧ (∀ e ∈ kvs, ∃ n ∈ ns, e.1 = .inr (tx n)) ∧
        ∀ n ∈ ns.take i, ∃ t a b, valV kvs (.inr (tx n)) = some (.ref t) ∧ H1 t = some (.tup [.ref a, .ref b]) ∧ H1 a = some (.tup (sv (seatP (hmN c t1 t2 n) 0))) ∧ H1 b = some (.tup (sv (seatP (hmN c t1 t2 n) 1))))
      ⟨none, [], rfl, S0, upd_same, Nat.le_refl _, fun n hn => (by cases hn), fun n hn => (by cases hn)⟩ (fun i σ H1 _ ⟨_, _, _, SH, _⟩ => SH.seq hl) ?_ ?_⟩
    · rintro i x σ H1 hi ⟨v, kvs, rfl, SH, hd1, hkl, hke, hin⟩
      have hi2 : i < ns.length := by
        have := (List.getElem?_eq_some_iff.mp hi).1
        rwa [List.length_map] at this
      have hx : ns[i]? = some ns[i] := List.getElem?_eq_getElem hi2
      obtain rfl : x = V.str (tx ns[i]) := by
        rw [List.getElem?_map, hx] at hi
        exact (Option.some.inj hi).symm
      have ht1 := same_t SH ht
      have hmem : ns[i] ∈ ns := List.getElem_mem hi2
      refine ⟨_, rfl, _, rfl, t, _, _, _, rfl, rfl, ht1, atI_nat (j := 1) rfl, _, rfl, t, _, _, _, rfl, rfl, ht1, atI_nat (j := 0) rfl, ns[i], t1, c, rfl, hal _ hmem, hc0, hc1, (by show 2 ≤ sizeLine; decide), fun qa hqa => ?_⟩
      have Sa := same_new (o := .tup (sv (seatP (hmN c t1 t2 ns[i]) 0))) hqa
      have ht2 := same_t Sa ht1
      refine ⟨_, rfl, _, rfl, t, _, _, _, rfl, rfl, ht2, atI_nat (j := 2) rfl, _, rfl, t, _, _, _, rfl, rfl, ht2, atI_nat (j := 0) rfl, ns[i], t2, c, rfl, hal _ hmem, hc0, hc1, (by show 2 ≤ sizeLine; decide), fun qb hqb => ?_⟩
      have Sb := Sa.trans (same_new (o := .tup (sv (seatP (hmN c t1 t2 ns[i]) 1))) hqb)
      refine ⟨(by show 2 ≤ sizeLine; decide), fun qt hqt => ?_⟩
      have St := Sb.trans (same_new (o := .tup [.ref qa, .ref qb]) hqt)
      have nab : qa ≠ qb := fun e => by rw [← e, upd_same] at hqb; cases hqb
      have nta : qt ≠ qa := fun e => by rw [e, upd_ne nab, upd_same] at hqt; cases hqt
      have ntb : qt ≠ qb := fun e => by rw [e, upd_same] at hqt; cases hqt
      have hd2 := St _ _ hd1
      refine ⟨_, rfl, _, rfl, d, _, rfl, DPut.k (k := Sum.inr (tx ns[i])) hd2 (small1000 (by omega)), ?_⟩
      have tup : ∀ b ys, (upd (upd (upd H1 qa (.tup (sv (seatP (hmN c t1 t2 ns[i]) 0)))) qb (.tup (sv (seatP (hmN c t1 t2 ns[i]) 1)))) qt (.tup [.ref qa, .ref qb])) b = some (.tup ys) → (upd (upd (upd (upd H1 qa (.tup (sv (seatP (hmN c t1 t2 ns[i]) 0)))) qb (.tup (sv (seatP (hmN c t1 t2 ns[i]) 1)))) qt (.tup [.ref qa, .ref qb])) d (.dK (putK kvs (Sum.inr (tx ns[i])) (.ref qt)))) b = some (.tup ys) := fun b ys hb => by
        rw [upd_ne (ne_of hb hd2 (by intro z; cases z))]
        exact hb
      refine ⟨_, _, rfl, same_mut (SH.trans St) hd, upd_same, ?_, fun e he => (putK_mem he).elim (fun z => ⟨_, hmem, z⟩) (fun ⟨f, hf, ef⟩ => ef ▸ hke f hf), fun n hn => ?_⟩
      · have := length_putK kvs (Sum.inr (tx ns[i]) : Key) (V.ref qt)
        omega
      · by_cases e : tx n = tx ns[i]
        · have e' : n = ns[i] := tx_inj e
          subst e'
          refine ⟨qt, qa, qb, ?_, tup _ _ upd_same, tup _ _ ?_, tup _ _ ?_⟩
          · rw [valV_put, if_pos rfl]
          · rw [upd_ne nta.symm, upd_ne nab, upd_same]
          · rw [upd_ne ntb.symm, upd_same]
        · have hn' : n ∈ ns.take i := by
            rw [List.take_add_one, hx] at hn
            rcases List.mem_append.mp hn with q | q
            · exact q
            · exact (e (by rw [List.mem_singleton.mp q])).elim
          obtain ⟨t', a, b, h1, h2, h3, h4⟩ := hin n hn'
          refine ⟨t', a, b, ?_, tup _ _ (St _ _ h2), tup _ _ (St _ _ h3), tup _ _ (St _ _ h4)⟩
          rw [valV_put, if_neg (fun q => e (Sum.inr.inj q))]
          exact h1
    · rintro σ H1 ⟨v, kvs, rfl, SH, hd1, hkl, hke, hin⟩
      rw [List.length_map, List.take_length] at hin
      rw [List.length_map] at hkl
      exact ⟨_, rfl, k H1 d SH hd ⟨kvs, hd1, hin⟩ ⟨kvs, hd1, hkl, hke⟩⟩
end

def sp__law_room (K : PySem.W.Frag) : Sp := fun vs H Q _ => ∃ (a : Addr) (ns : List Int) (x y : Int), vs = [.ref a, .int x, .int y] ∧ SqL K H a (ns.map V.int) ∧ ns.length ≤ 63 ∧ Q (.int x) H
section
variable {P : Program} {w : World} {K : PySem.W.Frag} {mg : Str → Option Value} {base : Heap} {A : Ad}
theorem ok__law_room (T : Tx K mg A) : FnOk P w K mg base CX0 1 A.a__law_room A.d__law_room ["_law_script", "_law_few", "_law_many"] (sp__law_room K) := by
  refine T.F__law_room.ok sc__law_room (fun vs H Q E h => ?_) (fun cdv Ar outer s H vs Q E hr h => ?_)
  · obtain ⟨a, ns, x, y, rfl, _⟩ := h
    rfl
  · obtain ⟨a, ns, x, y, rfl, hS, hl, k⟩ := h
    refine ⟨_, 
      (pss_cons (ps_if (pt_cmpR op_gt (pe_callB call_len_seq (by rfl) T.m_len PySem.boot_len (pa_cons (pv 0) pa_nil)) pe_int (nomark _)) 
        (pss_one (ps_ret (pv 2))) pss_nil)
      (pss_one (ps_ret (pv 1)))), ?_⟩
    refine ⟨_, rfl, _, _, rfl, .inl hS, _, _, rfl, rfl, _, rfl, ?_⟩
    rw [List.length_map]
    refine ite2 (fun e => ?_) (fun _ => ?_)
    · have := of_decide_eq_true e
      omega
    · exact ⟨_, rfl, k⟩
end

end K11

namespace K11
open PySem L2 Ck TS2 TX TB
/-! written: the text of a table -/
def wordsOf (n : Name) (v : Int) (s : Seat) : List Name := [decL s.1, decL s.2, n, decL v]
def rowT (n : Name) (v : Int) (s : Seat) : Name := TL.joinL [32] (wordsOf n v s)
def headT (c t1 t2 : Int) : Name := TL.joinL [32] [nestsL, decL c, decL t1, decL t2]
def rowL (L : Held) (vals : Name → Int) (s : Seat) : Name := rowT (whoN L s) (vals (whoN L s)) s
theorem row_eq (n : Name) (v : Int) (s : Seat) : rowT n v s = decL s.1 ++ 32 :: (decL s.2 ++ 32 :: (n ++ 32 :: decL v)) := rfl
theorem head_eq (c t1 t2 : Int) : headT c t1 t2 = nestsL ++ 32 :: (decL c ++ 32 :: (decL t1 ++ 32 :: decL t2)) := rfl
theorem empty_tx : Str.empty = tx [] := by decide +kernel
theorem nests_sp : ("nests " : Str) = tx [110, 101, 115, 116, 115, 32] := by decide +kernel
theorem head_out (c t1 t2 : Int) : Str.empty ++ ("nests " : Str) ++ ((toString c : String) : Str) ++ (" " : Str) ++ ((toString t1 : String) : Str) ++ (" " : Str) ++ ((toString t2 : String) : Str) ++ ("\n" : Str) = tx (headT c t1 t2 ++ [10]) := by
  rw [empty_tx, nests_sp, sp_tx, nl_tx, dec_tx, dec_tx, dec_tx, tx_app, tx_app, tx_app, tx_app, tx_app, tx_app, tx_app, head_eq]
  refine congrArg tx ?_
  simp [nestsL]
theorem row_out (n : Name) (v : Int) (s : Seat) : Str.empty ++ ((toString s.1 : String) : Str) ++ (" " : Str) ++ ((toString s.2 : String) : Str) ++ (" " : Str) ++ tx n ++ (" " : Str) ++ ((toString v : String) : Str) ++ ("\n" : Str) = tx (rowT n v s ++ [10]) := by
  rw [empty_tx, sp_tx, nl_tx, dec_tx, dec_tx, dec_tx, tx_app, tx_app, tx_app, tx_app, tx_app, tx_app, tx_app, tx_app, row_eq]
  refine congrArg tx ?_
  simp
theorem join_flat : ∀ ws : List Name, TL.joinL [] ws = ws.flatten
  | [] => rfl
  | [p] => by
    show p = _
    simp
  | p :: q :: r => by
    show p ++ ([] ++ TL.joinL [] (q :: r)) = _
    rw [join_flat (q :: r)]
    simp
theorem join_tx (ws : List Name) : Txt.join ("" : Str) (ws.map tx) = tx ws.flatten := by
  rw [nil_tx]
  have e := SX.join_S [] ws
  rw [join_flat] at e
  exact e
theorem join_sp (ws : List Name) : Txt.join (" " : Str) (ws.map tx) = tx (TL.joinL [32] ws) := by
  rw [sp_tx]
  exact SX.join_S [32] ws
theorem small_dec {v : Int} (h0 : -10000000000 < v) (h1 : v < 10000000000) : v.natAbs.log2 < 1920 := M.smallI_of (by omega) (by omega)
/-- the texts of a list, together no longer than m -/
theorem sums {ws : List Name} {m : Nat} (h : ∀ w ∈ ws, w.length ≤ m) : ((ws.map tx).map (·.length)).sum ≤ m * ws.length := by
  induction ws with
  | nil => exact Nat.zero_le _
  | cons w r ih =>
    have e : (((w :: r).map tx).map (·.length)).sum = (tx w).length + ((r.map tx).map (·.length)).sum := by
      rw [List.map_cons, List.map_cons, List.sum_cons]
    have i := ih fun x hx => h x (List.mem_cons_of_mem _ hx)
    have j := h w (List.mem_cons_self ..)
    rw [e, tx_len, List.length_cons, Nat.mul_add]
    omega
def sp_written (C : Addr) : Sp := fun vs H Q _ => ∃ (a : Addr) (F : List Addr) (c t1 t2 : Int) (L : Held) (vals : Name → Int), vs = [.ref a] ∧ TabAt C H a F c t1 t2 L vals ∧ L.length ≤ 60 ∧ (∀ m ∈ L.map (·.2), M.VOk (vals m)) ∧
  ∀ H' (S : List Seat), Same H H' → S.Pairwise LtS → (∀ s, s ∈ S ↔ s ∈ L.map (·.1)) → Q (.str (tx (textL (headT c t1 t2 :: S.map (rowL L vals))))) H'
theorem sorted_nodup {S : List Seat} (h : S.Pairwise LtS) : S.Nodup := sorted_nd h
section
variable {P : Program} {w : World} {K : PySem.W.Frag} {mg : Str → Option Value} {base : Heap} {A : Ad}
theorem ok_written (T : Tx K mg A) : FnOk P w K mg base CX0 3 A.a_written A.d_written ["table"] (sp_written A.c_Nests) := by
  refine T.F_written.ok sc_written (fun vs H Q E h => ?_) (fun cdv Ar outer s H vs Q E hr h => ?_)
  · obtain ⟨a, F, c, t1, t2, L, vals, rfl, _⟩ := h
    rfl
  · obtain ⟨a, F, c, t1, t2, L, vals, rfl, TA, hl, hv, k⟩ := h
    refine ⟨_, 
      (pss_cons (ps_set (i := 1) sc_written.nd rfl (Or.inl rfl) (pe_lst (pa_cons (pe_joined (.cons pe_str (.cons (pe_fmt (pe_fld (pv 0) rfl)) (.cons pe_str (.cons (pe_fmt (pe_fld (pv 0) rfl)) (.cons pe_str (.cons (pe_fmt (pe_fld (pv 0) rfl)) (.cons pe_str .nil)))))))) pa_nil)))
      (pss_cons (ps_for PassesOwn.never rfl (pi_list (pe_meth0 (pv 0) T.cl_Nests T.m_Nests_names (ok_Nests_names T) (hr.mono (by decide)) T.b_Nests_names .nil TB.passF)) (pg_name (i := 2) sc_written.nd rfl (Or.inl rfl)) 
        (pss_cons (ps_asg (pe_meth (pv 0) T.cl_Nests T.m_Nests_where (ok_Nests_where T) hr T.b_Nests_where .nil TB.passF (pa_cons (pv 2) pa_nil)) (pg_tup rfl (pgs_cons (pg_name (i := 3) sc_written.nd rfl (Or.inl rfl)) (pgs_cons (pg_name (i := 4) sc_written.nd rfl (Or.inl rfl)) pgs_nil))))
        (pss_one (ps_expr (pe_bm PySem.F.plainAttrs_list PySem.F.slot_list_append PySem.F.type_list_append mt_append (pv 1) (pa_cons (pe_joined (.cons (pe_fmt (pv 3)) (.cons pe_str (.cons (pe_fmt (pv 4)) (.cons pe_str (.cons (pe_fmt (pv 2)) (.cons pe_str (.cons (pe_fmt (pe_meth (pv 0) T.cl_Nests T.m_Nests_value (ok_Nests_value T) hr T.b_Nests_value .nil TB.passF (pa_cons (pv 2) pa_nil))) (.cons pe_str .nil))))))))) pa_nil))))))
      (pss_one (ps_ret (pe_m1 PySem.F.slot_str_join PySem.F.type_str_join mt_join pe_str (pv 1)))))), ?_⟩
    have g := TA.good
    have gc0 := g.c0
    have gc1 := g.c1
    have ga0 := g.a0
    have ga1 := g.a1
    have gb0 := g.b0
    have gb1 := g.b1
    obtain ⟨dx, fs, hfi, f1, f2, f3, fm⟩ := TA.ins
    have b1 : ("nests " : Str).length ≤ 20 := by decide +kernel
    have b2 : (" " : Str).length ≤ 20 := by decide +kernel
    have b3 : ("\n" : Str).length ≤ 20 := by decide +kernel
    have sc : c.natAbs.log2 < 1920 := small_dec (by omega) (by omega)
    have st1 : t1.natAbs.log2 < 1920 := small_dec (by omega) (by omega)
    have st2 : t2.natAbs.log2 < 1920 := small_dec (by omega) (by omega)
    have x1 := M.sz M.sz0 b1 (by decide)
    have x2 := M.sz x1.2 (PyProof.Rows.int_text_len_1921 sc) (by decide)
    have x3 := M.sz x2.2 b2 (by decide)
    have x4 := M.sz x3.2 (PyProof.Rows.int_text_len_1921 st1) (by decide)
    have x5 := M.sz x4.2 b2 (by decide)
    have x6 := M.sz x5.2 (PyProof.Rows.int_text_len_1921 st2) (by decide)
    have x7 := M.sz x6.2 b3 (by decide)
    refine ⟨_, rfl, x1.1, _, rfl, a, _, dx, fs, _, rfl, hfi, T.cl_Nests, T.n_Nests_count, f1, .inr ⟨_, rfl, sc, _, rfl, x2.1, _, rfl, x3.1, ?_⟩⟩
    refine ⟨_, rfl, a, _, dx, fs, _, rfl, hfi, T.cl_Nests, T.n_Nests_first, f2, .inr ⟨_, rfl, st1, _, rfl, x4.1, _, rfl, x5.1, ?_⟩⟩
    refine ⟨_, rfl, a, _, dx, fs, _, rfl, hfi, T.cl_Nests, T.n_Nests_second, f3, .inr ⟨_, rfl, st2, _, rfl, x6.1, _, rfl, x7.1, (by show 1 ≤ sizeLine; decide), fun D hD => ?_⟩⟩
    have e0 := head_out c t1 t2
    have S1 := fun o => same_new (o := o) hD
    have hDl : ∀ o, (upd H D o) D = some o := fun o => upd_same
    -- the rows
    refine ⟨_, rfl, a, dx, fs, rfl, S1 _ _ _ hfi, fm _ (by simp), a, F, c, t1, t2, L, vals, rfl, TA.same (S1 _), by omega, fun H2 p S S2 hp hpl hS hSm => ?_⟩
    have pD : p ≠ D := fun z => by
      rw [z, upd_same] at hp
      cases hp
    have S12 : ∀ o, Same (upd H D o) H2 → Same H H2 := fun o z b u e => z _ _ (S1 o _ _ e)
    have S02 := S12 _ S2
    have hD2 : H2 D = some (.lst (wlist [headT c t1 t2 ++ [10]])) := by
      refine (S2 _ _ upd_same).trans ?_
      show some (HO.lst [V.str _]) = _
      rw [e0]
      rfl
    rw [vNames_eq] at hpl
    have hSlen : S.length ≤ 60 := by
      have q := nodup_len S (L.map (·.1)) (sorted_nodup hS) fun s hs => (hSm s).mp hs
      rw [List.length_map] at q
      omega
    have who : ∀ s ∈ S, getN L s = some (whoN L s) := fun s hs => by
      obtain ⟨n, hn⟩ := getN_is ((hSm s).mp hs)
      rw [hn, who_of hn]
    have rowSmall : ∀ s ∈ S, ((decL s.1).length ≤ 11 ∧ (decL s.2).length ≤ 11 ∧ (decL (vals (whoN L s))).length ≤ 11 ∧ s.1.natAbs.log2 < 1920 ∧ s.2.natAbs.log2 < 1920 ∧ (vals (whoN L s)).natAbs.log2 < 1920) ∧ NameOk (whoN L s) := fun s hs => by
      have hm := getN_mem (who s hs)
      have i := g.inT _ hm
      have v : M.VOk (vals (whoN L s)) := hv _ (List.mem_map.mpr ⟨_, hm, rfl⟩)
      obtain ⟨v0, v1⟩ := v
      obtain ⟨i0, i1, i2⟩ := i
      have i0 : 0 ≤ s.1 ∧ s.1 ≤ 1 := (show s.1 = 0 ∨ s.1 = 1 from i0).elim (fun z => by rw [z]; decide) fun z => by rw [z]; decide
      have i1 : 0 ≤ s.2 := i1
      have i2 : s.2 < c := i2
      exact ⟨⟨dec_len (by omega) (by omega), dec_len (by omega) (by omega), dec_len (by omega) (by omega), small_dec (by omega) (by omega), small_dec (by omega) (by omega), small_dec (by omega) (by omega)⟩, g.ok _ hm⟩
    refine ⟨p, rfl, ⟨_, SqL.of hpl⟩, for_list (K := K) (a := p) (xs := (S.map (whoN L)).map fun n => V.str (tx n)) (fun j σ H3 => ∃ o2 o3 o4, σ = [some (.ref a), some (.ref D), o2, o3, o4] ∧ Same H H3 ∧ H3 p = some (.lst ((S.map (whoN L)).map fun n => V.str (tx n))) ∧ H3 D = some (.lst (wlist ((headT c t1 t2 :: (S.take j).map (rowL L vals)).map fun r => r ++ [10]))))
      ⟨none, none, none, rfl, S02, hpl, hD2⟩ (fun j σ H3 _ ⟨_, _, _, _, _, h, _⟩ => SqL.of h) ?_ ?_⟩
    · rintro j x σ H3 hj ⟨o2, o3, o4, rfl, S3, hp3, hD3⟩
      have hj2 : j < S.length := by
        have := (List.getElem?_eq_some_iff.mp hj).1
        rwa [List.length_map, List.length_map] at this
      have hi : S[j]? = some S[j] := List.getElem?_eq_getElem hj2
      obtain rfl : x = .str (tx (whoN L S[j])) := by
        rw [List.getElem?_map, List.getElem?_map, hi] at hj
        exact (Option.some.inj hj).symm
      have hm := List.getElem_mem hj2
      obtain ⟨⟨l1, l2, l3, s1, s2, s3⟩, nok⟩ := rowSmall _ hm
      have hw := who _ hm
      have hin : whoN L S[j] ∈ L.map (·.2) := List.mem_map.mpr ⟨_, getN_mem hw, rfl⟩
      have TA3 := TA.same S3
      obtain ⟨dx3, fs3, hfi3, _, _, _, fm3⟩ := TA3.ins
      refine ⟨_, rfl, a, dx3, fs3, rfl, hfi3, fm3 _ (by simp), _, rfl, a, F, c, t1, t2, L, vals, _, rfl, TA3, by omega, fun z => (z hin).elim, fun s0 es H4 q S4 hq => ?_⟩
      have e5 : s0 = S[j] := g.inj es hw
      subst e5
      refine ⟨q, _, rfl, SqT.of hq, rfl, _, _, rfl, _, _, rfl, rfl, ?_⟩
      have TA4 := TA3.same S4
      obtain ⟨dx4, fs4, hfi4, _, _, _, fm4⟩ := TA4.ins
      have y1 := M.sz M.sz0 (PyProof.Rows.int_text_len_1921 s1) (by decide)
      have y2 := M.sz y1.2 b2 (by decide)
      have y3 := M.sz y2.2 (PyProof.Rows.int_text_len_1921 s2) (by decide)
      have y4 := M.sz y3.2 b2 (by decide)
      have nl : (tx (whoN L S[j])).length ≤ 20 := by rw [tx_len]; exact Nat.le_trans nok.len (by decide)
      have y5 := M.sz y4.2 nl (by decide)
      have y6 := M.sz y5.2 b2 (by decide)
      have y7 := M.sz y6.2 (PyProof.Rows.int_text_len_1921 s3) (by decide)
      have y8 := M.sz y7.2 b3 (by decide)
      have nls : (tx (whoN L S[j])).length ≤ sizeLine := Nat.le_trans nl (by decide)
      have hD4 := S4 _ _ hD3
      have er := row_out (whoN L S[j]) (vals (whoN L S[j])) S[j]
      refine ⟨_, rfl, .inl ⟨rfl, _, SqL.of hD4⟩, _, rfl, .inr ⟨_, rfl, s1, _, rfl, y1.1, _, rfl, y2.1, _, rfl, .inr ⟨_, rfl, s2, _, rfl, y3.1, _, rfl, y4.1, _, rfl, .inl ⟨_, rfl, nls, _, rfl, y5.1, _, rfl, y6.1, ?_⟩⟩⟩⟩
      refine ⟨_, rfl, a, dx4, fs4, rfl, hfi4, fm4 _ (by simp), _, rfl, a, F, c, t1, t2, L, vals, _, rfl, TA4, fun z => (z hin).elim, fun _ H5 S5 => .inr ⟨_, rfl, s3, _, rfl, y7.1, _, rfl, y8.1, ?_⟩⟩
      rw [er]
      have hD5 := S5 _ _ hD4
      have hlen : (wlist ((headT c t1 t2 :: (S.take j).map (rowL L vals)).map fun r => r ++ [10])).length ≤ 1000 := by
        unfold wlist
        rw [List.length_map, List.length_map, List.length_cons, List.length_map, List.length_take]
        omega
      refine ⟨D, _, _, rfl, rfl, hD5, small1000 hlen, _, _, _, rfl, same_mut (S3.trans (S4.trans S5)) hD, (upd_ne pD).trans (S5 _ _ (S4 _ _ hp3)), ?_⟩
      rw [upd_same, List.take_add_one, hi]
      unfold wlist
      simp only [List.map_append, List.map_cons, List.map_nil, Option.toList_some]
      rfl
    · rintro σ H3 ⟨o2, o3, o4, rfl, S3, hp3, hD3⟩
      have et : S.take ((S.map (whoN L)).map fun n => V.str (tx n)).length = S := List.take_of_length_le (by rw [List.length_map, List.length_map]; exact Nat.le_refl _)
      rw [et] at hD3
      have eJ := join_tx ((headT c t1 t2 :: S.map (rowL L vals)).map fun r => r ++ [10])
      have rl : ∀ r ∈ (headT c t1 t2 :: S.map (rowL L vals)).map fun r => r ++ [10], r.length ≤ 60 := fun r hr => by
        obtain ⟨r0, h0, rfl⟩ := List.mem_map.mp hr
        rw [List.length_append, List.length_singleton]
        rcases List.mem_cons.mp h0 with z | z
        · rw [z, head_eq]
          have u1 := dec_len (v := c) (by omega) (by omega)
          have u2 := dec_len (v := t1) (by omega) (by omega)
          have u3 := dec_len (v := t2) (by omega) (by omega)
          have u4 : nestsL.length = 5 := rfl
          simp only [List.length_append, List.length_cons]
          omega
        · obtain ⟨s0, hs, rfl⟩ := List.mem_map.mp z
          obtain ⟨⟨l1, l2, l3, _⟩, nok⟩ := rowSmall s0 hs
          have u4 := nok.len
          unfold rowL
          rw [row_eq]
          simp only [List.length_append, List.length_cons]
          omega
      have sm := sums rl
      have ln : ((headT c t1 t2 :: S.map (rowL L vals)).map fun r => r ++ [10]).length ≤ 61 := by
        rw [List.length_map, List.length_cons, List.length_map]
        omega
      refine ⟨⟨_, rfl⟩, _, rfl, _, D, ((headT c t1 t2 :: S.map (rowL L vals)).map fun r => r ++ [10]).map tx, rfl, rfl, .inl (SqL.of (by rw [List.map_map]; exact hD3)), ?_, ?_⟩
      · have e0 : ("" : Str).length = 0 := rfl
        rw [e0, Nat.mul_zero, Nat.add_zero]
        exact Nat.le_trans sm (Nat.le_trans (Nat.mul_le_mul_left 60 ln) (by decide))
      · rw [eJ]
        exact k H3 S S3 hS hSm
end

end K11

namespace K11
open PySem L2 Ck TS2 TX TB
/-! the law's texts, numbers, rows -/
def sp__law_text (K : PySem.W.Frag) : Sp := fun vs H Q _ => ∃ (p : Addr) (rows : List Name), vs = [.ref p] ∧ SqL K H p (wlist rows) ∧ rows.length ≤ 60 ∧ (∀ r ∈ rows, r.length ≤ 200) ∧ ∀ H', Same H H' → Q (.str (tx (textL rows))) H'
def badNums : List Name := [[], [48, 48], [48, 48, 55], [43, 49], [49, 95, 48], [49, 46], [48, 120, 49], [49, 50, 51, 52, 53, 54, 55, 56, 57, 48, 49], [32, 49], [45, 48], [45, 45, 49], [45], [111, 110, 101]]
theorem badNums_tx : (["", "00", "007", "+1", "1_0", "1.", "0x1", "12345678901", " 1", "-0", "--1", "-", "one"] : List Str) = badNums.map tx := by decide +kernel
def sp__law_number : Sp := fun vs H Q _ => ∃ m : Int, vs = [.int m] ∧ ∀ w ∈ badNums, ∀ H', Same H H' → Q (.str (tx w)) H'
def sp__law_rows : Sp := fun vs H Q _ => ∃ (he vd : Addr) (L : Held) (vals : Name → Int) (kv : List (Key × V)), vs = [.ref he, .ref vd] ∧ H he = some (.dT (hk L)) ∧ H vd = some (.dK kv) ∧ (∀ m ∈ L.map (·.2), valV kv (.inr (tx m)) = some (.int (vals m))) ∧ (L.map (·.1)).Nodup ∧ L.length ≤ 60 ∧
  (∀ x ∈ L, NameOk x.2 ∧ (0 ≤ x.1.1 ∧ x.1.1 ≤ 1) ∧ (0 ≤ x.1.2 ∧ x.1.2 < 1000) ∧ M.VOk (vals x.2)) ∧
  ∀ (H' : Hp) (p : Addr) (S : List Seat), Same H H' → H p = none → H' p = some (.lst (wlist (S.map (rowL L vals)))) → S.Pairwise LtS → (∀ s, s ∈ S ↔ s ∈ L.map (·.1)) → Q (.ref p) H'
section
variable {P : Program} {w : World} {K : PySem.W.Frag} {mg : Str → Option Value} {base : Heap} {A : Ad}
theorem ok__law_text (T : Tx K mg A) : FnOk P w K mg base CX0 1 A.a__law_text A.d__law_text ["_law_rows_here"] (sp__law_text K) := by
  refine T.F__law_text.ok sc__law_text (fun vs H Q E h => ?_) (fun cdv Ar outer s H vs Q E hr h => ?_)
  · obtain ⟨p, rows, rfl, _⟩ := h
    rfl
  · obtain ⟨p, rows, rfl, hp, hl, hr2, k⟩ := h
    refine ⟨_, 
      (pss_one (ps_ret (pe_m1 PySem.F.slot_str_join PySem.F.type_str_join mt_join pe_str (pe_lc (own := [("_law_row", 1)]) (g := gName 1) (tt := tYes) (by rfl) sc__law_text.nd (pi_list (pv 0)) (blkOk_by (own := [("_law_row", 1)]) (N := ["_law_rows_here", "_law_row"]) (sc := defScope s__law_text) (by decide +kernel)) (fun _ _ _ _ _ => (pg_name (i := 1) sc__law_text.nd rfl (Or.inl rfl))) (fun _ _ _ _ _ => pts_nil) (fun _ _ _ _ _ => (pe_op op_add_str (pv 1) pe_str)))))), ?_⟩
    refine ⟨⟨_, rfl⟩, _, rfl, p, rfl, ⟨_, hp⟩, fun D hD => ?_⟩
    have S1 := fun o => same_new (o := o) hD
    refine lc_it (walk_list (xs := wlist rows)) (fun j H2 => Same H H2 ∧ H2 D = some (.lst (wlist ((rows.take j).map fun r => r ++ [10])))) ⟨S1 _, upd_same⟩ (fun j H2 _ h => h.1.seq hp) ?_ ?_
    · rintro j x H2 H3 hj ⟨S2, hD2⟩ ⟨rfl, hx⟩
      have hj2 : j < rows.length := by
        have : j < (wlist rows).length := hj
        unfold wlist at this
        rwa [List.length_map] at this
      have hi : rows[j]? = some rows[j] := List.getElem?_eq_getElem hj2
      obtain rfl : x = .str (tx rows[j]) := by
        unfold wlist at hx
        rw [List.getElem?_map, hi] at hx
        exact (Option.some.inj hx).symm
      have b := hr2 _ (List.getElem_mem hj2)
      refine ⟨rfl, lc_yes ?_⟩
      have lz : (tx rows[j]).length + ("\n" : Str).length ≤ sizeLine := by
        rw [tx_len]
        exact Nat.le_trans (Nat.add_le_add b (Nat.le_refl _)) (by decide)
      refine ⟨_, rfl, _, _, rfl, rfl, lz, _, hD2, ?_, same_mut S2 hD, ?_⟩
      · unfold wlist
        rw [List.length_map, List.length_map, List.length_take]
        exact small1000 (by omega)
      · rw [upd_same, nl_tx, tx_app, List.take_add_one, hi]
        unfold wlist
        simp only [List.map_append, List.map_cons, List.map_nil, Option.toList_some]
    · rintro H2 ⟨S2, hD2⟩
      have et : rows.take (wlist rows).length = rows := List.take_of_length_le (by unfold wlist; rw [List.length_map]; exact Nat.le_refl _)
      rw [et] at hD2
      have sm := sums (ws := rows.map fun r => r ++ [10]) (m := 201) fun r hr => by
        obtain ⟨r0, h0, rfl⟩ := List.mem_map.mp hr
        rw [List.length_append, List.length_singleton]
        have := hr2 r0 h0
        omega
      refine ⟨_, D, (rows.map fun r => r ++ [10]).map tx, rfl, rfl, .inl (SqL.of (by rw [List.map_map]; exact hD2)), ?_, ?_⟩
      · have e0 : ("" : Str).length = 0 := rfl
        rw [e0, Nat.mul_zero, Nat.add_zero]
        rw [List.length_map] at sm
        exact Nat.le_trans sm (Nat.le_trans (Nat.mul_le_mul_left 201 hl) (by decide))
      · rw [join_tx]
        exact k H2 S2
theorem ok__law_number (T : Tx K mg A) : FnOk P w K mg base CX0 1 A.a__law_number A.d__law_number ["_law_cell"] sp__law_number := by
  refine T.F__law_number.ok sc__law_number (fun vs H Q E h => ?_) (fun cdv Ar outer s H vs Q E hr h => ?_)
  · obtain ⟨m, rfl, _⟩ := h
    rfl
  · obtain ⟨m, rfl, k⟩ := h
    refine ⟨_, 
      (pss_one (ps_ret (pe_ix (r := rIxL K) ix_list (pe_lst (pa_cons pe_str (pa_cons pe_str (pa_cons pe_str (pa_cons pe_str (pa_cons pe_str (pa_cons pe_str (pa_cons pe_str (pa_cons pe_str (pa_cons pe_str (pa_cons pe_str (pa_cons pe_str (pa_cons pe_str (pa_cons pe_str pa_nil)))))))))))))) (pe_op op_mod (pv 0) pe_int) (fun _ _ => rfl)))), ?_⟩
    refine ⟨(by show 13 ≤ sizeLine; decide), fun l hl => ?_⟩
    have h0 : 0 ≤ m % 13 := Int.emod_nonneg _ (by decide)
    have h1 : m % 13 < 13 := Int.emod_lt_of_pos _ (by decide)
    obtain ⟨j, ej⟩ : ∃ j : Nat, m % 13 = (j : Int) := ⟨(m % 13).toNat, by omega⟩
    have hj : j < badNums.length := by show j < 13; omega
    have e : [V.str "", V.str "00", V.str "007", V.str "+1", V.str "1_0", V.str "1.", V.str "0x1", V.str "12345678901", V.str " 1", V.str "-0", V.str "--1", V.str "-", V.str "one"] = wlist badNums := by
      rw [← wlist_eq, ← badNums_tx]
      rfl
    refine ⟨_, rfl, _, _, rfl, rfl, (by show (0 : Int) < 13; decide), l, wlist badNums, _, .str (tx badNums[j]), rfl, rfl, SqL.of (by rw [← e]; exact upd_same), ?_, k _ (List.getElem_mem hj) _ (same_new hl)⟩
    rw [ej]
    refine atI_nat ?_
    unfold wlist
    rw [List.getElem?_map, List.getElem?_eq_getElem hj]
    rfl
theorem ok__law_rows (T : Tx K mg A) : FnOk P w K mg base CX0 1 A.a__law_rows A.d__law_rows ["_law_held", "_law_values"] sp__law_rows := by
  refine T.F__law_rows.ok sc__law_rows (fun vs H Q E h => ?_) (fun cdv Ar outer s H vs Q E hr h => ?_)
  · obtain ⟨he, vd, L, vals, kv, rfl, _⟩ := h
    rfl
  · obtain ⟨he, vd, L, vals, kv, rfl, hhe, hvd, hkv, nd, hl, hok, k⟩ := h
    refine ⟨_, 
      (pss_cons (ps_set (i := 2) sc__law_rows.nd rfl (Or.inl rfl) (pe_lst pa_nil))
      (pss_cons (ps_for PassesOwn.never rfl (pi_list (pe_callB cr_sortedPO (by rfl) T.m_sorted (by decide +kernel) (pa_cons (pe_callTy (call_list_dT rfl) (by rfl) T.m_list (by decide +kernel) (pa_cons (pv 0) pa_nil)) pa_nil))) (pg_name (i := 3) sc__law_rows.nd rfl (Or.inl rfl)) 
        (pss_cons (ps_set (i := 4) sc__law_rows.nd rfl (Or.inl rfl) (pe_lst (pa_cons (pe_callTy call_str_int (by rfl) T.m_str (by decide +kernel) (pa_cons (pe_ix (r := rIxT K) ix_tup (pv 3) pe_int (fun _ _ => rfl)) pa_nil)) (pa_cons (pe_callTy call_str_int (by rfl) T.m_str (by decide +kernel) (pa_cons (pe_ix (r := rIxT K) ix_tup (pv 3) pe_int (fun _ _ => rfl)) pa_nil)) (pa_cons (pe_dget (hu_of hr) (pv 0) (pv 3) (fun _ _ => rfl)) (pa_cons (pe_callTy call_str_int (by rfl) T.m_str (by decide +kernel) (pa_cons (pe_dget (hu_of hr) (pv 1) (pe_dget (hu_of hr) (pv 0) (pv 3) (fun _ _ => rfl)) (fun _ _ => rfl)) pa_nil)) pa_nil))))))
        (pss_one (ps_expr (pe_bm PySem.F.plainAttrs_list PySem.F.slot_list_append PySem.F.type_list_append mt_append (pv 2) (pa_cons (pe_m1 PySem.F.slot_str_join PySem.F.type_str_join mt_join pe_str (pv 4)) pa_nil))))))
      (pss_one (ps_ret (pv 2))))), ?_⟩
    refine ⟨Nat.zero_le _, fun D hD => ?_⟩
    have S1 := fun o => same_new (o := o) hD
    refine ⟨_, rfl, he, _, rfl, .inl (S1 _ _ _ hhe), fun l2 bs hl2 hbs => ?_⟩
    have S2 : Same (upd H D (.lst [])) (upd (upd H D (.lst [])) l2 (.lst (bs.map V.ref))) := same_new hl2
    have hbs2 : IsKeys (upd (upd H D (.lst [])) l2 (.lst (bs.map V.ref))) (hk L) bs := L2.Paired.mapP hbs fun x b e => S2 _ _ e
    obtain ⟨i1, i2⟩ := keys_tup hbs2
    refine ⟨l2, bs.map V.ref, kOf (upd (upd H D (.lst [])) l2 (.lst (bs.map V.ref))), rfl, SqL.of upd_same, fun x hx => ?_, fun ys p3 h1 h2 hp3 => ?_⟩
    · obtain ⟨b, hb, rfl⟩ := List.mem_map.mp hx
      obtain ⟨s, _, hs⟩ := i1 b hb
      refine ⟨b, rfl, ?_⟩
      rw [kOf_at hs]
      exact hs
    obtain ⟨N, rfl, hN, hNs, hNm⟩ := sorted_keys nd hbs2 h1 h2
    have S3 := fun o => same_new (o := o) hp3
    have S02 : Same H (upd (upd H D (.lst [])) l2 (.lst (bs.map V.ref))) := fun b o z => S2 _ _ (S1 _ _ _ z)
    have lN : N.length ≤ 60 := by
      have q := nodup_len (N.map (·.2)) (L.map (·.1)) (sorted_nd hNs) fun s hs => (hNm s).mp hs
      rw [List.length_map, List.length_map] at q
      omega
    have rl : (refs N).length = N.length := by simp
    have pD : p3 ≠ D := fun z => by
      have y : (upd (upd H D (.lst [])) l2 (.lst (bs.map V.ref))) D = some (.lst []) := S2 _ _ upd_same
      rw [z, y] at hp3
      cases hp3
    refine ⟨p3, rfl, ⟨_, SqL.of upd_same⟩, for_list (K := K) (a := p3) (xs := refs N) (fun j σ H3 => ∃ o3 o4, σ = [some (.ref he), some (.ref vd), some (.ref D), o3, o4] ∧ Same H H3 ∧ H3 p3 = some (.lst (refs N)) ∧ TupsAt H3 N ∧ H3 D = some (.lst (wlist (((N.map (·.2)).take j).map (rowL L vals)))))
      ⟨none, none, rfl, S02.trans (S3 _), upd_same, hN.same (S3 _), S3 _ _ _ (S2 _ _ upd_same)⟩ (fun j σ H3 _ ⟨_, _, _, _, h, _⟩ => SqL.of h) ?_ ?_⟩
    · rintro j x σ H3 hj ⟨o3, o4, rfl, S4, hp4, hN4, hD4⟩
      have hj2 : j < N.length := by
        have := (List.getElem?_eq_some_iff.mp hj).1
        omega
      have hi : N[j]? = some N[j] := List.getElem?_eq_getElem hj2
      obtain rfl : x = .ref N[j].1 := by
        have e : (refs N)[j]? = some (.ref N[j].1) := by
          show (N.map fun p => V.ref p.1)[j]? = _
          rw [List.getElem?_map, hi]
          rfl
        rw [e] at hj
        exact (Option.some.inj hj).symm
      have ht := hN4 _ (List.getElem_mem hj2)
      have hin : N[j].2 ∈ L.map (·.1) := (hNm _).mp (List.mem_map.mpr ⟨_, List.getElem_mem hj2, rfl⟩)
      obtain ⟨n, hn⟩ := getN_is hin
      have hm := getN_mem hn
      obtain ⟨ho, ⟨r0, r1⟩, ⟨q0, q1⟩, v0, v1⟩ := hok _ hm
      have r0 : 0 ≤ N[j].2.1 := r0
      have r1 : N[j].2.1 ≤ 1 := r1
      have q0 : 0 ≤ N[j].2.2 := q0
      have q1 : N[j].2.2 < 1000 := q1
      have v0 : -1000000000 ≤ vals n := v0
      have v1 : vals n ≤ 1000000000 := v1
      have ho : NameOk n := ho
      have eH : ∀ H5, Same H3 H5 → DGet H5 he (.ref N[j].1) (some (.str (tx n))) := fun H5 S5 => hk_some hn ▸ DGet.t ((S4.trans S5) _ _ hhe) (k := sk N[j].2) (S5 _ _ ht)
      have eV : ∀ H5, Same H3 H5 → DGet H5 vd (.str (tx n)) (some (.int (vals n))) := fun H5 S5 => (hkv n (List.mem_map.mpr ⟨_, hm, rfl⟩)) ▸ DGet.k (k := Sum.inr (tx n)) ((S4.trans S5) _ _ hvd)
      refine ⟨_, rfl, _, _, _, _, rfl, rfl, SqT.of ht, atI_nat (j := 0) rfl, _, rfl, small_dec (by omega) (by omega), ?_⟩
      refine ⟨_, rfl, _, _, _, _, rfl, rfl, SqT.of ht, atI_nat (j := 1) rfl, _, rfl, small_dec (by omega) (by omega), ?_⟩
      refine ⟨_, rfl, _, rfl, he, _, rfl, eH _ (Same.refl _), ?_⟩
      refine ⟨_, rfl, _, rfl, _, rfl, he, _, rfl, eH _ (Same.refl _), vd, _, rfl, eV _ (Same.refl _), _, rfl, small_dec (by omega) (by omega), ?_⟩
      refine ⟨(by show 4 ≤ sizeLine; decide), fun lw hlw => ?_⟩
      have S5 := fun o => same_new (o := o) hlw
      have ew : [V.str ((toString N[j].2.1 : String) : Str), V.str ((toString N[j].2.2 : String) : Str), V.str (tx n), V.str ((toString (vals n) : String) : Str)] = ((wordsOf n (vals n) N[j].2).map tx).map V.str := by
        rw [dec_tx, dec_tx, dec_tx]
        rfl
      have d1 := dec_len (v := N[j].2.1) (by omega) (by omega)
      have d2 := dec_len (v := N[j].2.2) (by omega) (by omega)
      have d3 := dec_len (v := vals n) (by omega) (by omega)
      have d4 := ho.len
      have sm := sums (ws := wordsOf n (vals n) N[j].2) (m := 12) fun w hw => by
        rcases List.mem_cons.mp hw with z | hw
        · rw [z]
          omega
        rcases List.mem_cons.mp hw with z | hw
        · rw [z]
          omega
        rcases List.mem_cons.mp hw with z | hw
        · rw [z]
          omega
        rw [List.mem_singleton.mp hw]
        omega
      have hD5 := fun o => S5 o _ _ hD4
      refine ⟨_, rfl, .inl ⟨rfl, _, SqL.of (hD5 _)⟩, ⟨_, rfl⟩, _, rfl, _, lw, (wordsOf n (vals n) N[j].2).map tx, rfl, rfl, .inl (SqL.of (by rw [← ew]; exact upd_same)), ?_, ?_⟩
      · have e0 : (" " : Str).length = 1 := rfl
        have e1 : ((wordsOf n (vals n) N[j].2).map tx).length = 4 := rfl
        have e2 : (wordsOf n (vals n) N[j].2).length = 4 := rfl
        rw [e0, e1]
        rw [e2] at sm
        omega
      rw [join_sp]
      refine ⟨D, _, _, rfl, rfl, hD5 _, ?_, _, _, rfl, same_mut (S4.trans (S5 _)) hD, (upd_ne pD).trans (S5 _ _ _ hp4), fun y hy => ?_, ?_⟩
      · unfold wlist
        rw [List.length_map, List.length_map, List.length_take, List.length_map]
        exact small1000 (by omega)
      · have hy4 := hN4 y hy
        exact (upd_ne (ne_of hy4 hD4 (by intro z; cases z))).trans (S5 _ _ _ hy4)
      · have hi2 : (N.map (·.2))[j]? = some N[j].2 := by rw [List.getElem?_map, hi]; rfl
        have er : rowL L vals N[j].2 = TL.joinL [32] (wordsOf n (vals n) N[j].2) := by
          unfold rowL rowT
          rw [who_of hn]
        rw [upd_same, List.take_add_one, hi2]
        unfold wlist
        simp only [List.map_append, List.map_cons, List.map_nil, Option.toList_some]
        rw [er]
    · rintro σ H3 ⟨o3, o4, rfl, S4, hp4, hN4, hD4⟩
      have et : (N.map (·.2)).take (refs N).length = N.map (·.2) := List.take_of_length_le (by rw [rl, List.length_map]; exact Nat.le_refl _)
      rw [et] at hD4
      exact ⟨_, rfl, k H3 D (N.map (·.2)) S4 hD hD4 hNs hNm⟩
end

end K11

namespace K11
open PySem L2 Ck TS2 TX TB
/-! what the law draws -/
def numsF (L : Held) (vals : Name → Int) : Name → Option Int := fun m => if m ∈ L.map (·.2) then some (vals m) else none
theorem nums_add (L : Held) (vals : Name → Int) (s : Seat) (n : Name) (v : Int) : (fun m => if m = n then some v else numsF L vals m) = numsF (L ++ [(s, n)]) fun m => if m = n then v else vals m := by
  funext m
  have e0 : (L ++ [(s, n)]).map (·.2) = L.map (·.2) ++ [n] := List.map_append ..
  unfold numsF
  rw [e0]
  show (if m = n then some v else if m ∈ L.map (·.2) then some (vals m) else none) = if m ∈ L.map (·.2) ++ [n] then some (if m = n then v else vals m) else none
  by_cases h : m = n
  · rw [if_pos h, if_pos (List.mem_append.mpr (.inr (List.mem_singleton.mpr h))), if_pos h]
  · rw [if_neg h]
    by_cases q : m ∈ L.map (·.2)
    · rw [if_pos q, if_pos (List.mem_append.mpr (.inl q)), if_neg h]
    · rw [if_neg q, if_neg fun z => (List.mem_append.mp z).elim q fun y => h (List.mem_singleton.mp y)]
theorem name20 {nm : List Name} {x : Int} (h : nm.length = 21) : ∃ n ∈ nm.take 20, atI (nm.map fun n => V.str (tx n)) (x % 20) = some (.str (tx n)) := by
  obtain ⟨j, ej⟩ : ∃ j : Nat, x % 20 = (j : Int) := ⟨(x % 20).toNat, by omega⟩
  have hj : j < 20 := by omega
  have hi : nm[j]? = some nm[j] := List.getElem?_eq_getElem (by omega)
  refine ⟨nm[j], List.mem_of_getElem? (i := j) (by rw [List.getElem?_take_of_lt hj, hi]), ?_⟩
  rw [ej]
  refine atI_nat ?_
  rw [List.getElem?_map, hi]
  rfl
theorem seat_at {H : Hp} {qa qb : Addr} {hm : Int × Int} (x : Int) (h1 : H qa = some (.tup (sv (seatP hm 0)))) (h2 : H qb = some (.tup (sv (seatP hm 1)))) : ∃ q s, atI [V.ref qa, .ref qb] (x % 2) = some (.ref q) ∧ H q = some (.tup (sv s)) ∧ (s = seatP hm 0 ∨ s = seatP hm 1) := by
  rcases two_of (V.ref qa) (.ref qb) x with ⟨_, e⟩ | ⟨_, e⟩
  · exact ⟨qa, _, e, h1, .inl rfl⟩
  · exact ⟨qb, _, e, h2, .inr rfl⟩
theorem val5 (m x : Int) : ∃ v : Int, M.VOk v ∧ atI [V.int (m % 10), V.int (-(1 + m % 999)), V.int (10 ^ (9 : Int).toNat), V.int (-10 ^ (9 : Int).toNat), V.int (m % 10 ^ (9 : Int).toNat)] (x % 5) = some (.int v) := by
  have p : (10 : Int) ^ (9 : Int).toNat = 1000000000 := by decide
  rw [p]
  rcases (show x % 5 = 0 ∨ x % 5 = 1 ∨ x % 5 = 2 ∨ x % 5 = 3 ∨ x % 5 = 4 by omega) with e | e | e | e | e <;> rw [e]
  · exact ⟨m % 10, ⟨by omega, by omega⟩, atI_nat (j := 0) rfl⟩
  · exact ⟨-(1 + m % 999), ⟨by omega, by omega⟩, atI_nat (j := 1) rfl⟩
  · exact ⟨1000000000, ⟨by decide, by decide⟩, atI_nat (j := 2) rfl⟩
  · exact ⟨-1000000000, ⟨by decide, by decide⟩, atI_nat (j := 3) rfl⟩
  · exact ⟨m % 1000000000, ⟨by omega, by omega⟩, atI_nat (j := 4) rfl⟩
/-- things drawn -/
structure Drw (H : Hp) (he vd : Addr) (nm : List Name) (c t1 t2 : Int) (L : Held) (vals : Name → Int) (kv : List (Key × V)) : Prop where
  held : H he = some (.dT (hk L))
  valD : H vd = some (.dK kv)
  isv : ValIs kv (numsF L vals)
  good : GoodT c t1 t2 L
  ok : ∀ m ∈ L.map (·.2), M.VOk (vals m)
  len : L.length ≤ 14
  kl : kv.length ≤ 14
  sub : ∀ x ∈ L, x.2 ∈ nm.take 20
theorem Drw.same {H H' : Hp} {he vd : Addr} {nm : List Name} {c t1 t2 : Int} {L : Held} {vals : Name → Int} {kv : List (Key × V)} (h : Drw H he vd nm c t1 t2 L vals kv) (e : Same H H') : Drw H' he vd nm c t1 t2 L vals kv :=
  ⟨e _ _ h.held, e _ _ h.valD, h.isv, h.good, h.ok, h.len, h.kl, h.sub⟩
theorem Drw.val {H : Hp} {he vd : Addr} {nm : List Name} {c t1 t2 : Int} {L : Held} {vals : Name → Int} {kv : List (Key × V)} (h : Drw H he vd nm c t1 t2 L vals kv) {m : Name} (hm : m ∈ L.map (·.2)) : valV kv (.inr (tx m)) = some (.int (vals m)) := by
  rw [h.isv.val]
  unfold numsF
  rw [if_pos hm]
  rfl
def sp__law_drawn (K : PySem.W.Frag) : Sp := fun vs H Q _ => ∃ (a tt pn hd : Addr) (ns : List Int) (nm : List Name) (c t1 t2 : Int), vs = [.ref a, .ref tt, .ref pn, .ref hd] ∧ SqL K H a (ns.map V.int) ∧ ns.length ≤ 63 ∧ H pn = some (.lst (nm.map fun n => V.str (tx n))) ∧ nm.length = 21 ∧ (∀ n ∈ nm, NameOk n) ∧ HomesAt H hd nm (hmN c t1 t2) ∧ GoodT c t1 t2 [] ∧
  ∀ H' p he vd L vals kv, Same H H' → H' p = some (.tup [.ref he, .ref vd]) → Drw H' he vd nm c t1 t2 L vals kv → H he = none → H vd = none → Q (.ref p) H'
section
variable {P : Program} {w : World} {K : PySem.W.Frag} {mg : Str → Option Value} {base : Heap} {A : Ad}
theorem ok__law_drawn (T : Tx K mg A) : FnOk P w K mg base CX0 2 A.a__law_drawn A.d__law_drawn ["_law_script", "_law_told_here", "_law_names_here", "_law_homes_here"] (sp__law_drawn K) := by
  refine T.F__law_drawn.ok sc__law_drawn (fun vs H Q E h => ?_) (fun cdv Ar outer s H vs Q E hr h => ?_)
  · obtain ⟨a, tt, pn, hd, ns, nm, c, t1, t2, rfl, _⟩ := h
    rfl
  · obtain ⟨a, tt, pn, hd, ns, nm, c, t1, t2, rfl, hS, hlen, hpn, hnl, hok, hom, g0, k⟩ := h
    refine ⟨_, 
      (pss_cons (ps_set (i := 4) sc__law_drawn.nd rfl (Or.inl rfl) pe_dnewT)
      (pss_cons (ps_set (i := 5) sc__law_drawn.nd rfl (Or.inl rfl) pe_dnewK)
      (pss_cons (ps_for PassesOwn.never rfl (pi_list (pe_slice sl_list (pv 0) (po_some pe_int) (po_some (pe_op op_add pe_int (pe_call (ok__law_room T) hr (by rfl) T.g__law_room T.F__law_room.kp T.b__law_room .nil pass0 (pa_cons (pv 0) (pa_cons pe_int (pa_cons pe_int pa_nil)))))))) (pg_name (i := 6) sc__law_drawn.nd rfl (Or.inl rfl)) 
        (pss_cons (ps_set (i := 7) sc__law_drawn.nd rfl (Or.inl rfl) (pe_call (ok__law_mixed T) hr (by rfl) T.g__law_mixed T.F__law_mixed.kp T.b__law_mixed .nil pass0 (pa_cons (pv 6) (pa_cons (pe_callB call_len_dT (by rfl) T.m_len PySem.boot_len (pa_cons (pv 4) pa_nil)) pa_nil))))
        (pss_cons (ps_set (i := 8) sc__law_drawn.nd rfl (Or.inl rfl) (pe_ix (r := rIxL K) ix_list (pv 2) (pe_op op_mod (pv 7) pe_int) (fun _ _ => rfl)))
        (pss_cons (ps_set (i := 9) sc__law_drawn.nd rfl (Or.inl rfl) (pe_ix (r := rIxT K) ix_tup (pe_dget (hu_of hr) (pv 3) (pv 8) (fun _ _ => rfl)) (pe_op op_mod (pe_op op_fdiv (pv 7) pe_int) pe_int) (fun _ _ => rfl)))
        (pss_one (ps_if (PW.pt (pw_and (pt_cmp (pc_dnotin (hu_of hr) (pv 9) (pv 4))) (pw_and1 (pt_cmp (pc_dnotin (hu_of hr) (pv 8) (pv 5)))))) 
          (pss_cons (ps_dput (hu_of hr) (pv 4) (pv 9) (pv 8) rfl)
          (pss_cons (ps_set (i := 10) sc__law_drawn.nd rfl (Or.inl rfl) (pe_op op_fdiv (pv 7) pe_int))
          (pss_one (ps_dput (hu_of hr) (pv 5) (pv 8) (pe_ix (r := rIxL K) ix_list (pe_lst (pa_cons (pe_op op_mod (pv 10) pe_int) (pa_cons (pe_un un_neg (pe_op op_add pe_int (pe_op op_mod (pv 10) pe_int))) (pa_cons (pe_op op_pow pe_int pe_int) (pa_cons (pe_un un_neg (pe_op op_pow pe_int pe_int)) (pa_cons (pe_op op_mod (pv 10) (pe_op op_pow pe_int pe_int)) pa_nil)))))) (pe_op op_mod (pe_op op_fdiv (pv 7) pe_int) pe_int) (fun _ _ => rfl)) rfl)))) pss_nil))))))
      (pss_one (ps_ret (pe_tup (pa_cons (pv 4) (pa_cons (pv 5) pa_nil)))))))), ?_⟩
    intro he hhe
    have S1 : Same H (upd H he (.dT [])) := same_new hhe
    intro vd hvd
    have S2 : Same (upd H he (.dT [])) (upd (upd H he (.dT [])) vd (.dK [])) := same_new hvd
    have S02 := S1.trans S2
    have vdn : H vd = none := S1.free hvd
    have nev : he ≠ vd := fun z => by rw [← z, upd_same] at hvd; cases hvd
    refine ⟨_, rfl, _, rfl, _, rfl, a, ns, 14, 40, rfl, S02.seq hS, hlen, _, _, rfl, rfl, _, rfl, a, _, rfl, S02.seq hS, fun pc hpc => ?_⟩
    obtain ⟨ms, ems, hms⟩ := cut_ints ns 9 23
    have ems' : cutV (ns.map V.int) (some 9) (some (9 + 14)) = ms.map V.int := ems
    rw [ems']
    have S3 : Same (upd (upd H he (.dT [])) vd (.dK [])) (upd (upd (upd H he (.dT [])) vd (.dK [])) pc (.lst (ms.map V.int))) := same_new hpc
    have npe : pc ≠ he := fun z => by
      have y : (upd (upd H he (.dT [])) vd (.dK [])) he = some (.dT []) := S2 _ _ upd_same
      have z2 : (upd (upd H he (.dT [])) vd (.dK [])) pc = some (.dT []) := by rw [z]; exact y
      rw [hpc] at z2
      cases z2
    have npv : pc ≠ vd := fun z => by
      rw [z, upd_same] at hpc
      cases hpc
    refine ⟨pc, rfl, ⟨_, SqL.of upd_same⟩, for_list (K := K) (a := pc) (xs := ms.map V.int) (fun i σ H2 => ∃ (L : Held) (vals : Name → Int) (kv : List (Key × V)) (o6 o7 o8 o9 o10 : Option V), σ = [some (.ref a), some (.ref tt), some (.ref pn), some (.ref hd), some (.ref he), some (.ref vd), o6, o7, o8, o9, o10] ∧ Same H H2 ∧ H2 pc = some (.lst (ms.map V.int)) ∧
        H2 he = some (.dT (hk L)) ∧ H2 vd = some (.dK kv) ∧ ValIs kv (numsF L vals) ∧ GoodT c t1 t2 L ∧ (∀ m ∈ L.map (·.2), M.VOk (vals m)) ∧ L.length ≤ i ∧ kv.length ≤ i ∧ ∀ x ∈ L, x.2 ∈ nm.take 20)
      ⟨[], fun _ => 0, [], none, none, none, none, none, rfl, S02.trans S3, upd_same, S3 _ _ (S2 _ _ upd_same), S3 _ _ upd_same, ValIs.nil, g0, fun m h => (by cases h), Nat.le_refl _, Nat.le_refl _, fun x h => (by cases h)⟩ (fun i σ H2 _ ⟨_, _, _, _, _, _, _, _, _, _, h, _⟩ => SqL.of h) ?_ ?_⟩
    · rintro i y σ H2 hi ⟨L, vals, kv, o6, o7, o8, o9, o10, rfl, SH, hpc2, hhe2, hvd2, hval, gd, hvo, hl, hkl, hsub⟩
      have hi2 : i < ms.length := by
        have := (List.getElem?_eq_some_iff.mp hi).1
        rwa [List.length_map] at this
      have hi14 : i < 14 := by omega
      obtain ⟨ci, rfl⟩ : ∃ ci : Int, y = .int ci := by
        have e : (ms.map V.int)[i]? = some (.int ms[i]) := by rw [List.getElem?_map, List.getElem?_eq_getElem hi2]; rfl
        rw [e] at hi
        exact ⟨_, (Option.some.inj hi).symm⟩
      refine ⟨_, rfl, _, rfl, he, _, rfl, hhe2, _, _, rfl, ?_⟩
      generalize mixed ci (((hk L).length : Nat) : Int) = mx
      obtain ⟨n, hn20, en⟩ := name20 (x := mx) hnl
      have hn : n ∈ nm := List.mem_of_mem_take hn20
      have ho := hok n hn
      refine ⟨_, rfl, _, rfl, _, _, rfl, rfl, (by show (0 : Int) < 20; decide), pn, _, _, _, rfl, rfl, SqL.of (SH _ _ hpn), en, ?_⟩
      obtain ⟨th, qa, qb, e1, e2, e3, e4⟩ := home_at (hom.same SH) hn
      obtain ⟨q, s0, eq, hq, hh⟩ := seat_at (mx / 20) e3 e4
      refine ⟨_, rfl, _, rfl, _, _, rfl, e1, _, rfl, _, _, rfl, rfl, ⟨by decide, by decide⟩, _, _, rfl, rfl, (by show (0 : Int) < 2; decide), th, _, _, _, rfl, rfl, SqT.of e2, eq, ?_⟩
      cases hg : getN L s0 with
      | some n2 => exact ⟨_, rfl, _, rfl, he, _, rfl, DGet.t hhe2 (k := sk s0) hq, false, (by rw [hk_some hg]; rfl), iteF (iteF ⟨L, vals, kv, _, _, _, _, _, rfl, SH, hpc2, hhe2, hvd2, hval, gd, hvo, by omega, by omega, hsub⟩)⟩
      | none =>
        refine ⟨_, rfl, _, rfl, he, _, rfl, DGet.t hhe2 (k := sk s0) hq, true, (by rw [hk_none hg]; rfl), iteT ?_⟩
        by_cases hnn : n ∈ L.map (·.2)
        · exact ⟨_, rfl, _, rfl, vd, _, rfl, DGet.k (k := Sum.inr (tx n)) hvd2, false, (by rw [hval.val]; unfold numsF; rw [if_pos hnn]; rfl), iteF ⟨L, vals, kv, _, _, _, _, _, rfl, SH, hpc2, hhe2, hvd2, hval, gd, hvo, by omega, by omega, hsub⟩⟩
        · refine ⟨_, rfl, _, rfl, vd, _, rfl, DGet.k (k := Sum.inr (tx n)) hvd2, true, (by rw [hval.val]; unfold numsF; rw [if_neg hnn]; rfl), iteT ?_⟩
          refine ⟨_, rfl, _, rfl, _, rfl, he, _, rfl, DPut.t hhe2 (k := sk s0) hq (by rw [hk_len]; exact small1000 (by omega)), ?_⟩
          rw [hk_put n hg]
          have S4 : Same H (upd H2 he (.dT (hk (L ++ [(s0, n)])))) := same_mut SH hhe
          have hvd4 : (upd H2 he (.dT (hk (L ++ [(s0, n)])))) vd = some (.dK kv) := (upd_ne nev.symm).trans hvd2
          obtain ⟨v, hv, ev⟩ := val5 (mx / 40) (mx / 5)
          refine ⟨_, rfl, _, _, rfl, rfl, ⟨by decide, by decide⟩, ?_⟩
          refine ⟨_, rfl, _, _, rfl, rfl, (by show (0 : Int) < 10; decide), _, rfl, _, _, rfl, rfl, (by show (0 : Int) < 999; decide), _, _, rfl, rfl, _, rfl, _, _, rfl, rfl, ⟨by decide, by decide, by decide⟩, _, _, rfl, rfl, ⟨by decide, by decide, by decide⟩, _, rfl, _, rfl, _, _, rfl, rfl, ⟨by decide, by decide, by decide⟩, _, _, rfl, rfl, (by show (0 : Int) < 10 ^ (9 : Int).toNat; decide), (by show 5 ≤ sizeLine; decide), fun lv hlv => ?_⟩
          have S5 := fun o => same_new (o := o) hlv
          refine ⟨_, rfl, _, _, rfl, rfl, ⟨by decide, by decide⟩, _, _, rfl, rfl, (by show (0 : Int) < 5; decide), lv, _, _, _, rfl, rfl, SqL.of upd_same, ev, ?_⟩
          refine ⟨_, rfl, _, rfl, vd, _, rfl, DPut.k (k := Sum.inr (tx n)) (S5 _ _ _ hvd4) (Nat.lt_of_le_of_lt hkl (small1000 (by omega))), ?_⟩
          have S6 : ∀ o1 o2, Same H (upd (upd (upd H2 he (.dT (hk (L ++ [(s0, n)])))) lv o1) vd o2) := fun o1 o2 => same_mut (S4.trans (S5 o1)) vdn
          have pl := length_putK kv (Sum.inr (tx n) : Key) (V.int v)
          refine ⟨L ++ [(s0, n)], fun m => if m = n then v else vals m, _, _, _, _, _, _, rfl, S6 _ _, (upd_ne npv).trans (S5 _ _ _ ((upd_ne npe).trans hpc2)), (upd_ne nev).trans (S5 _ _ _ upd_same), upd_same, ?_, gd.add hg hnn ho hh, fun m hm => ?_, by rw [List.length_append, List.length_singleton]; omega, by omega, fun x hx => ?_⟩
          · rw [← nums_add]
            exact hval.put n v
          · show M.VOk (if m = n then v else vals m)
            by_cases e : m = n
            · rw [if_pos e]
              exact hv
            · rw [if_neg e]
              refine hvo m ?_
              rw [List.map_append] at hm
              exact (List.mem_append.mp hm).elim id fun z => absurd (List.mem_singleton.mp z) e
          · rcases List.mem_append.mp hx with z | z
            · exact hsub x z
            · rw [List.mem_singleton.mp z]
              exact hn20
    · rintro σ H2 ⟨L, vals, kv, o6, o7, o8, o9, o10, rfl, SH, hpc2, hhe2, hvd2, hval, gd, hvo, hl, hkl, hsub⟩
      have lm : (ms.map V.int).length ≤ 14 := by rw [List.length_map]; omega
      refine ⟨_, rfl, _, rfl, (by show 2 ≤ sizeLine; decide), fun p hp => ?_⟩
      have S7 := fun o => same_new (o := o) hp
      exact k _ p he vd L vals kv (SH.trans (S7 _)) upd_same ⟨S7 _ _ _ hhe2, S7 _ _ _ hvd2, hval, gd, hvo, by omega, by omega, hsub⟩ hhe vdn
end

end K11

namespace K11
open PySem L2 Ck TS2 TX TB
/-! a table as things tell it -/
def d3 (c t1 t2 : Int) : PyData := .tuple [.int c, .int t1, .int t2]
theorem dp_d3 {K : PySem.W.Frag} {H : Hp} {t : Addr} {c t1 t2 : Int} (h : H t = some (.tup [.int c, .int t1, .int t2])) : Dp K H (.ref t) (d3 c t1 t2) := .tup (SqT.of h) (.cons (.int _) (.cons (.int _) (.cons (.int _) .nil)))
def sp__law_alike (C : Addr) : Sp := fun vs H Q _ => ∃ (a tt he hv : Addr) (F : List Addr) (c t1 t2 : Int) (L M : Held) (vals : Name → Int) (kv : List (Key × V)), vs = [.ref a, .ref tt, .ref he, .ref hv] ∧ TabAt C H a F c t1 t2 L vals ∧ H tt = some (.tup [.int c, .int t1, .int t2]) ∧ H he = some (.dT (hk M)) ∧ H hv = some (.dK kv) ∧ (M.map (·.1)).Nodup ∧ getN M = getN L ∧ (∀ m ∈ L.map (·.2), valV kv (.inr (tx m)) = some (.int (vals m))) ∧ L.length ≤ 60 ∧ ∀ H', Same H H' → Q (.bl true) H'
section
variable {P : Program} {w : World} {K : PySem.W.Frag} {mg : Str → Option Value} {base : Heap} {A : Ad}
theorem ok__law_alike (T : Tx K mg A) : FnOk P w K mg base CX0 3 A.a__law_alike A.d__law_alike ["_law_table_here", "_law_told_here", "_law_held", "_law_values"] (sp__law_alike A.c_Nests) := by
  refine T.F__law_alike.ok sc__law_alike (fun vs H Q E h => ?_) (fun cdv Ar outer s H vs Q E hr h => ?_)
  · obtain ⟨a, tt, he, hv, F, c, t1, t2, L, M, vals, kv, rfl, _⟩ := h
    rfl
  · obtain ⟨a, tt, he, hv, F, c, t1, t2, L, M, vals, kv, rfl, hT, htt, hhe, hhv, mnd, eML, hva, hll, k⟩ := h
    refine ⟨_, 
      (C8.pss_cut (ps_if (PW.pt (pw_or (pt_cmpR (op_neD hr.units) (pe_tup (pa_cons (pe_fld (pv 0) rfl) (pa_cons (pe_fld (pv 0) rfl) (pa_cons (pe_fld (pv 0) rfl) pa_nil)))) (pv 1) (nomark _)) (pw_or1 (pt_cmpR op_ne (pe_meth0 (pv 0) T.cl_Nests T.m_Nests_many (ok_Nests_many T) (hr.mono (by decide)) T.b_Nests_many .nil TB.passF) (pe_callB call_len_dT (by rfl) T.m_len PySem.boot_len (pa_cons (pv 2) pa_nil)) (nomark _))))) 
        (pss_one (ps_ret pe_bl)) pss_nil)
      (C8.pss_cut (ps_for PassesOwn.never rfl (pi_list (pe_callTy (call_list_dT rfl) (by rfl) T.m_list (by decide +kernel) (pa_cons (pv 2) pa_nil))) (pg_name (i := 4) sc__law_alike.nd rfl (Or.inl rfl)) 
        (pss_one (ps_if (PW.pt (pw_or (pt_cmpR op_ne (pe_meth (pv 0) T.cl_Nests T.m_Nests_at (ok_Nests_at T) hr T.b_Nests_at .nil TB.passF (pa_cons (pv 4) pa_nil)) (pe_dget (hu_of hr) (pv 2) (pv 4) (fun _ _ => rfl)) (nomark _)) (pw_or1 (pt_cmpR op_ne (pe_meth (pv 0) T.cl_Nests T.m_Nests_value (ok_Nests_value T) hr T.b_Nests_value .nil TB.passF (pa_cons (pe_dget (hu_of hr) (pv 2) (pv 4) (fun _ _ => rfl)) pa_nil)) (pe_dget (hu_of hr) (pv 3) (pe_dget (hu_of hr) (pv 2) (pv 4) (fun _ _ => rfl)) (fun _ _ => rfl)) (nomark _))))) 
          (pss_one (ps_ret pe_bl)) pss_nil)))
      (pss_one (ps_ret (pe_cmpR (op_eqD hr.units) (pe_meth0 (pv 0) T.cl_Nests T.m_Nests_names (ok_Nests_names T) (hr.mono (by decide)) T.b_Nests_names .nil TB.passF) (pe_lc (own := [("_law_nest", 4)]) (g := gName 4) (tt := tYes) (by rfl) sc__law_alike.nd (pi_list (pe_callB cr_sortedPO (by rfl) T.m_sorted (by decide +kernel) (pa_cons (pe_callTy (call_list_dT rfl) (by rfl) T.m_list (by decide +kernel) (pa_cons (pv 2) pa_nil)) pa_nil))) (blkOk_by (own := [("_law_nest", 4)]) (N := ["_law_table_here", "_law_told_here", "_law_held", "_law_values", "_law_nest"]) (sc := defScope s__law_alike) (by decide +kernel)) (fun _ _ _ _ _ => (pg_name (i := 4) sc__law_alike.nd rfl (Or.inl rfl))) (fun _ _ _ _ _ => pts_nil) (fun _ _ _ _ _ => (pe_dget (hu_of hr) (pv 2) (pv 4) (fun _ _ => rfl)))) (nomark _)))))), ?_⟩
    obtain ⟨dx, fs, hfi, f1, f2, f3, fm⟩ := hT.ins
    have g := hT.good
    have hML : M.length = L.length := get_len mnd g.ns fun s => by rw [eML]
    refine ⟨fun σ H1 => σ = [some (.ref a), some (.ref tt), some (.ref he), some (.ref hv), none] ∧ Same H H1, ?_, ?_⟩
    · refine ⟨_, rfl, a, _, dx, fs, _, rfl, hfi, T.cl_Nests, T.n_Nests_count, f1, _, rfl, a, _, dx, fs, _, rfl, hfi, T.cl_Nests, T.n_Nests_first, f2, _, rfl, a, _, dx, fs, _, rfl, hfi, T.cl_Nests, T.n_Nests_second, f3, (by show 3 ≤ sizeLine; decide), fun t ht => ?_⟩
      have S1 := same_new (o := .tup [.int c, .int t1, .int t2]) ht
      refine ⟨_, rfl, d3 c t1 t2, d3 c t1 t2, dp_d3 upd_same, dp_d3 (S1 _ _ htt), rfl, rfl, _, rfl, ?_⟩
      rw [SeqAt.eqv_refl _ (SeqAt.canLay_of_shaped (show SeqAt.shaped (d3 c t1 t2) = true from rfl))]
      refine iteF ?_
      refine ⟨_, rfl, a, dx, fs, rfl, S1 _ _ hfi, fm _ (by simp), a, F, c, t1, t2, L, vals, rfl, hT.same S1, fun H2 S2 => ⟨_, rfl, he, _, rfl, (S1.trans S2) _ _ hhe, rfl, _, rfl, ?_⟩⟩
      rw [hk_len, hML, decide_eq_true rfl]
      exact iteF ⟨rfl, S1.trans S2⟩
    rintro σ H0 ⟨rfl, S0⟩
    have hT := hT.same S0
    have hhe := S0 _ _ hhe
    have hhv := S0 _ _ hhv
    have hfi := S0 _ _ hfi
    have S1 : Same H0 H0 := Same.refl _
    refine ⟨fun σ H2 => ∃ o, σ = [some (.ref a), some (.ref tt), some (.ref he), some (.ref hv), o] ∧ Same H0 H2, ?_, ?_⟩
    · refine ⟨_, rfl, he, _, rfl, .inl (S1 _ _ hhe), fun l2 bs hl2 hbs => ?_⟩
      have Sl := same_new (o := .lst (bs.map V.ref)) hl2
      have hbl : bs.length = M.length := by
        have q := PySem.Paired.length hbs
        rw [hk_len] at q
        exact q.symm
      refine ⟨l2, rfl, ⟨_, SqL.of upd_same⟩, for_list (K := K) (a := l2) (xs := bs.map V.ref) (fun i σ H2 => ∃ o, σ = [some (.ref a), some (.ref tt), some (.ref he), some (.ref hv), o] ∧ Same H0 H2 ∧ Same (upd H0 l2 (.lst (bs.map V.ref))) H2) ⟨_, rfl, Sl, Same.refl _⟩ (fun i σ H2 _ ⟨_, _, _, h⟩ => SqL.of (h _ _ upd_same)) ?_ ?_⟩
      · rintro i y σ H2 hi ⟨o, rfl, S2, Sl2⟩
        have hib : i < bs.length := by
          have := (List.getElem?_eq_some_iff.mp hi).1
          rwa [List.length_map] at this
        have eM : M[i]? = some M[i] := List.getElem?_eq_getElem (by omega)
        obtain ⟨b, hb1, hb2⟩ := L2.paired_get hbs (i := i) (a := (sk (M[i]).1, V.str (tx (M[i]).2))) (by unfold hk; rw [List.getElem?_map, eM]; rfl)
        obtain rfl : y = .ref b := by
          rw [List.getElem?_map, hb1] at hi
          exact (Option.some.inj hi).symm
        have hb3 : H2 b = some (.tup (sv (M[i]).1)) := S2 _ _ hb2
        have hgM : getN M (M[i]).1 = some (M[i]).2 := getN_of_mem mnd (List.getElem_mem (by omega))
        have hgL : getN L (M[i]).1 = some (M[i]).2 := by rw [← eML]; exact hgM
        generalize M[i] = e at hb2 hb3 hgM hgL
        have hin : InT c e.1 := g.inT (e.1, e.2) (getN_mem hgL)
        have SH := S1.trans S2
        have eH : ∀ H3, Same H2 H3 → DGet H3 he (.ref b) (some (.str (tx e.2))) := fun H3 S3 => hk_some hgM ▸ DGet.t (S3 _ _ (SH _ _ hhe)) (k := sk e.1) (S3 _ _ hb3)
        have hnm : e.2 ∈ L.map (·.2) := List.mem_map.mpr ⟨_, getN_mem hgL, rfl⟩
        refine ⟨_, rfl, a, dx, fs, rfl, SH _ _ hfi, fm _ (by simp), _, rfl, a, b, F, c, t1, t2, L, vals, e.1, rfl, hT.same SH, SqT.of hb3, hb3, hin, fun H3 S3 => ?_⟩
        have ev : vAt L e.1 = .str (tx e.2) := by unfold vAt; rw [hgL]
        rw [ev]
        refine ⟨_, rfl, _, rfl, he, _, rfl, eH _ S3, rfl, _, rfl, ?_⟩
        rw [decide_eq_true rfl]
        refine iteF ?_
        have SH3 := SH.trans S3
        refine ⟨_, rfl, a, dx, fs, rfl, SH3 _ _ hfi, fm _ (by simp), _, rfl, _, rfl, he, _, rfl, eH _ S3, a, F, c, t1, t2, L, vals, e.2, rfl, hT.same SH3, fun z => (z hnm).elim, fun _ H4 S4 => ?_⟩
        refine ⟨_, rfl, _, rfl, _, rfl, he, _, rfl, eH _ (S3.trans S4), hv, _, rfl, (hva e.2 hnm ▸ DGet.k (k := Sum.inr (tx e.2)) ((SH3.trans S4) _ _ hhv)), rfl, _, rfl, ?_⟩
        rw [decide_eq_true rfl]
        exact iteF ⟨_, rfl, (S2.trans S3).trans S4, (Sl2.trans S3).trans S4⟩
      · rintro σ H2 ⟨o, rfl, S2, _⟩
        exact ⟨o, rfl, S2⟩
    rintro σ H2 ⟨o, rfl, SA⟩
    have hT := hT.same SA
    have hhe := SA _ _ hhe
    have hfi := SA _ _ hfi
    refine ⟨_, rfl, a, dx, fs, rfl, hfi, fm _ (by simp), a, F, c, t1, t2, L, vals, rfl, hT, by omega, fun H1 p S S1 hp e1 hS hSm => ?_⟩
    refine ⟨_, rfl, he, _, rfl, .inl (S1 _ _ hhe), fun l2 bs hl2 hbs => ?_⟩
    have S2 : Same H1 (upd H1 l2 (.lst (bs.map V.ref))) := same_new hl2
    have hbs2 : IsKeys (upd H1 l2 (.lst (bs.map V.ref))) (hk M) bs := L2.Paired.mapP hbs fun x b e => S2 _ _ e
    obtain ⟨i1, i2⟩ := keys_tup hbs2
    refine ⟨l2, bs.map V.ref, kOf (upd H1 l2 (.lst (bs.map V.ref))), rfl, SqL.of upd_same, fun x hx => ?_, fun ys p3 h1 h2 hp3 => ?_⟩
    · obtain ⟨b, hb, rfl⟩ := List.mem_map.mp hx
      obtain ⟨s, _, hs⟩ := i1 b hb
      refine ⟨b, rfl, ?_⟩
      rw [kOf_at hs]
      exact hs
    obtain ⟨N, rfl, hN, hNs, hNm⟩ := sorted_keys mnd hbs2 h1 h2
    have S3 := S2.trans (same_new (o := .lst (refs N)) hp3)
    have he3 := S3 _ _ (S1 _ _ hhe)
    have hNl : N.length ≤ 60 := by
      have q := nodup_len (N.map (·.2)) (M.map (·.1)) (sorted_nd hNs) fun x hx => (hNm x).mp hx
      rw [List.length_map, List.length_map] at q
      omega
    refine ⟨p3, rfl, ⟨_, SqL.of upd_same⟩, fun D hD => ?_⟩
    refine lc_it (walk_list (xs := refs N)) (fun m H3 => Same (upd (upd H1 l2 (.lst (bs.map V.ref))) p3 (.lst (refs N))) H3 ∧ H3 D = some (.lst ((vNames L (N.map (·.2))).take m))) ⟨same_new hD, upd_same⟩ (fun m H3 _ h => SqL.of (h.1 _ _ upd_same)) ?_ ?_
    · rintro m x H3 H4 hm ⟨SH, h3⟩ ⟨rfl, hx⟩
      have hmM : m < N.length := by
        have z : (refs N).length = N.length := List.length_map ..
        omega
      have e0 : N[m]? = some N[m] := List.getElem?_eq_getElem hmM
      obtain rfl : x = .ref (N[m]).1 := by
        have z : (refs N)[m]? = some (.ref (N[m]).1) := by
          show (N.map fun p => V.ref p.1)[m]? = _
          rw [List.getElem?_map, e0]
          rfl
        rw [z] at hx
        exact (Option.some.inj hx).symm
      have hmem : N[m] ∈ N := List.getElem_mem hmM
      obtain ⟨n1, hn1'⟩ := getN_is ((hNm _).mp (List.mem_map.mpr ⟨_, hmem, rfl⟩))
      have hvn : (vNames L (N.map (·.2)))[m]? = some (V.str (tx n1)) := by
        unfold vNames
        rw [List.getElem?_map, List.getElem?_map, e0]
        show some (V.str (tx (whoN L (N[m]).2))) = _
        rw [who_of (by rw [← eML]; exact hn1')]
      have htq : H4 (N[m]).1 = some (.tup (sv (N[m]).2)) := SH _ _ (same_new hp3 _ _ (hN _ hmem))
      have eH : DGet H4 he (.ref (N[m]).1) (some (.str (tx n1))) := hk_some hn1' ▸ DGet.t (SH _ _ he3) (k := sk (N[m]).2) htq
      refine ⟨rfl, lc_yes ?_⟩
      refine ⟨_, rfl, _, rfl, he, _, rfl, eH, _, h3, ?_, same_mut SH hD, ?_⟩
      · rw [List.length_take]
        exact Nat.lt_of_le_of_lt (Nat.min_le_left _ _) (small1000 (by omega))
      · rw [upd_same, List.take_add_one, hvn]
        rfl
    · rintro H3 ⟨SH, h3⟩
      have S4 := (S1.trans S3).trans SH
      have hl2 : (vNames L (N.map (·.2))).length = (refs N).length := by
        unfold vNames
        rw [List.length_map, List.length_map]
        exact (List.length_map ..).symm
      rw [← hl2, List.take_length] at h3
      have mm : ∀ s, s ∈ M.map (·.1) ↔ s ∈ L.map (·.1) := fun s => by
        have q := get_mem mnd g.ns (fun s => by rw [eML])
        constructor
        · intro z
          obtain ⟨y, hy, e⟩ := List.mem_map.mp z
          exact List.mem_map.mpr ⟨y, (q y).mp hy, e⟩
        · intro z
          obtain ⟨y, hy, e⟩ := List.mem_map.mp z
          exact List.mem_map.mpr ⟨y, (q y).mpr hy, e⟩
      have eS : N.map (·.2) = S := sorted_uniq hNs hS fun x => (hNm x).trans ((mm x).trans (hSm x).symm)
      rw [eS] at h3
      have e13 : H3 p = some (.lst (vNames L S)) := SH _ _ (S3 _ _ e1)
      have hal := vNames_al g fun s hs => (hSm s).mp hs
      have eV : vNames L S = (S.map (whoN L)).map fun n => V.str (tx n) := by
        unfold vNames
        rw [List.map_map]
        rfl
      rw [eV] at e13 h3
      refine ⟨_, _, dp_names (SqL.of e13), dp_names (SqL.of h3), shaped_names hal, shaped_names hal, ?_⟩
      rw [eqv_shaped (shaped_names hal)]
      exact k _ (S0.trans (SA.trans S4))
end

end K11

namespace K11
open PySem L2 Ck TS2 TX TB
/-! notes and rows that are none -/
theorem alph_in {c : Nat} (h : c ∈ alph) : 48 ≤ c ∧ c ≤ 122 ∧ c ≠ 95 ∧ (c ≤ 57 ∨ 97 ≤ c) := by
  have z : ∀ d ∈ alph, 48 ≤ d ∧ d ≤ 122 ∧ d ≠ 95 ∧ (d ≤ 57 ∨ 97 ≤ d) := by decide
  exact z c h
/-- a word of a row -/
structure Fine (w : Name) : Prop where
  sp : 32 ∉ w
  nl : 10 ∉ w
  ch : ∀ c ∈ w, c < 256
  len : w.length ≤ 12
theorem fine_name {n : Name} (h : NameOk n) : Fine n := ⟨fun z => by have := alph_in (h.al _ z); omega, fun z => by have := alph_in (h.al _ z); omega, fun c hc => by have := alph_in (h.al _ hc); omega, h.len⟩
theorem fine_dec {v : Int} (h0 : -10000000000 < v) (h1 : v < 10000000000) : Fine (decL v) := ⟨dec_free (.inl rfl), dec_free (.inr rfl), fun c hc => by
  rcases dec_figs v c hc with z | z
  · omega
  · have := fig_iff.mp z
    omega, Nat.le_succ_of_le (dec_len h0 h1)⟩
structure ThOk (x : Thng) : Prop where
  name : NameOk x.1
  val : M.VOk x.2.1
  r0 : 0 ≤ x.2.2.1
  r1 : x.2.2.1 ≤ 1
  p0 : 0 ≤ x.2.2.2
  p1 : x.2.2.2 < 1000
structure HdOk (c t1 t2 : Int) : Prop where
  c0 : 0 ≤ c
  c1 : c ≤ 1000
  a0 : 0 ≤ t1
  a1 : t1 ≤ 1000000
  b0 : 0 ≤ t2
  b1 : t2 ≤ 1000000
def rowOf (x : Thng) : Name := rowT x.1 x.2.1 x.2.2
def wordsT (x : Thng) : List Name := wordsOf x.1 x.2.1 x.2.2
def wordsH (c t1 t2 : Int) : List Name := [nestsL, decL c, decL t1, decL t2]
theorem ThOk.fine {x : Thng} (h : ThOk x) : ∀ w ∈ wordsT x, Fine w := by
  intro w hw
  have r0 := h.r0
  have r1 := h.r1
  have p0 := h.p0
  have p1 := h.p1
  obtain ⟨v0, v1⟩ := h.val
  rcases List.mem_cons.mp hw with rfl | hw
  · exact fine_dec (by omega) (by omega)
  rcases List.mem_cons.mp hw with rfl | hw
  · exact fine_dec (by omega) (by omega)
  rcases List.mem_cons.mp hw with rfl | hw
  · exact fine_name h.name
  rw [List.mem_singleton.mp hw]
  exact fine_dec (by omega) (by omega)
theorem HdOk.fine {c t1 t2 : Int} (h : HdOk c t1 t2) : ∀ w ∈ wordsH c t1 t2, Fine w := by
  intro w hw
  obtain ⟨c0, c1, a0, a1, b0, b1⟩ := h
  rcases List.mem_cons.mp hw with rfl | hw
  · exact ⟨by decide, by decide, by decide, by decide⟩
  rcases List.mem_cons.mp hw with rfl | hw
  · exact fine_dec (by omega) (by omega)
  rcases List.mem_cons.mp hw with rfl | hw
  · exact fine_dec (by omega) (by omega)
  rw [List.mem_singleton.mp hw]
  exact fine_dec (by omega) (by omega)
theorem ThOk.thing {x : Thng} (h : ThOk x) : thingF (wordsT x) = some x := by
  have r0 := h.r0
  have r1 := h.r1
  have p0 := h.p0
  have p1 := h.p1
  obtain ⟨v0, v1⟩ := h.val
  show (if x.1 = [] then none else (valF (decL x.2.1)).bind fun z => (numF (decL x.2.2.1)).bind fun a => (numF (decL x.2.2.2)).map fun b => (x.1, z, (a, b))) = some x
  rw [if_neg h.name.ne, val_dec (by omega) (by omega), num_of_dec (v := x.2.2.1) (by omega) (by omega), num_of_dec (v := x.2.2.2) (by omega) (by omega)]
  rfl
theorem HdOk.head {c t1 t2 : Int} (h : HdOk c t1 t2) : headF (wordsH c t1 t2) = some (c, t1, t2) := by
  obtain ⟨c0, c1, a0, a1, b0, b1⟩ := h
  show (if nestsL = nestsL then (numF (decL c)).bind fun x => (numF (decL t1)).bind fun y => (numF (decL t2)).map fun z => (x, y, z) else none) = _
  rw [if_pos rfl, num_of_dec (v := c) (by omega) (by omega), num_of_dec (v := t1) (by omega) (by omega), num_of_dec (v := t2) (by omega) (by omega)]
  rfl
/-- four words, and the row of them -/
structure RowW (r : Name) (ws : List Name) : Prop where
  eq : r = TL.joinL [32] ws
  four : ws.length = 4
  fine : ∀ w ∈ ws, Fine w
theorem RowW.cuts {r : Name} {ws : List Name} (h : RowW r ws) : cutsAt 32 r = ws := by
  rw [h.eq]
  exact cuts_join (fun z => by have := h.four; rw [z] at this; cases this) fun w hw => (h.fine w hw).sp
theorem join4 (a b c d : Name) : TL.joinL [32] [a, b, c, d] = a ++ 32 :: (b ++ 32 :: (c ++ 32 :: d)) := rfl
theorem four_of {ws : List Name} (h : ws.length = 4) : ∃ a b c d, ws = [a, b, c, d] := by
  match ws, h with
  | [a, b, c, d], _ => exact ⟨a, b, c, d, rfl⟩
theorem mem_join4 {a b c d : Name} {x : Nat} (h : x ∈ TL.joinL [32] [a, b, c, d]) : x = 32 ∨ x ∈ a ∨ x ∈ b ∨ x ∈ c ∨ x ∈ d := by
  rw [join4] at h
  simp only [List.mem_append, List.mem_cons] at h
  rcases h with h | h | h | h | h | h | h
  · exact .inr (.inl h)
  · exact .inl h
  · exact .inr (.inr (.inl h))
  · exact .inl h
  · exact .inr (.inr (.inr (.inl h)))
  · exact .inl h
  · exact .inr (.inr (.inr (.inr h)))
theorem len_join4 (a b c d : Name) : (TL.joinL [32] [a, b, c, d]).length = a.length + b.length + c.length + d.length + 3 := by
  rw [join4]
  simp only [List.length_append, List.length_cons]
  omega
theorem count_join4 (a b c d : Name) : (TL.joinL [32] [a, b, c, d]).count 32 = a.count 32 + b.count 32 + c.count 32 + d.count 32 + 3 := by
  rw [join4]
  simp only [List.count_append, List.count_cons_self]
  omega
theorem RowW.nl {r : Name} {ws : List Name} (h : RowW r ws) : 10 ∉ r := by
  obtain ⟨a, b, c, d, rfl⟩ := four_of h.four
  rw [h.eq]
  intro z
  rcases mem_join4 z with z | z | z | z | z
  · cases z
  · exact (h.fine a (by simp)).nl z
  · exact (h.fine b (by simp)).nl z
  · exact (h.fine c (by simp)).nl z
  · exact (h.fine d (by simp)).nl z
theorem RowW.ch {r : Name} {ws : List Name} (h : RowW r ws) : ∀ x ∈ r, x < 256 := by
  obtain ⟨a, b, c, d, rfl⟩ := four_of h.four
  rw [h.eq]
  intro x z
  rcases mem_join4 z with z | z | z | z | z
  · omega
  · exact (h.fine a (by simp)).ch x z
  · exact (h.fine b (by simp)).ch x z
  · exact (h.fine c (by simp)).ch x z
  · exact (h.fine d (by simp)).ch x z
theorem RowW.len {r : Name} {ws : List Name} (h : RowW r ws) : r.length ≤ 51 := by
  obtain ⟨a, b, c, d, rfl⟩ := four_of h.four
  rw [h.eq, len_join4]
  have := (h.fine a (by simp)).len
  have := (h.fine b (by simp)).len
  have := (h.fine c (by simp)).len
  have := (h.fine d (by simp)).len
  omega
theorem RowW.count {r : Name} {ws : List Name} (h : RowW r ws) : r.count 32 = 3 := by
  have z := cuts_len 32 r
  rw [h.cuts, h.four] at z
  omega
theorem ThOk.row {x : Thng} (h : ThOk x) : RowW (rowOf x) (wordsT x) := ⟨rfl, rfl, h.fine⟩
theorem HdOk.row {c t1 t2 : Int} (h : HdOk c t1 t2) : RowW (headT c t1 t2) (wordsH c t1 t2) := ⟨rfl, rfl, h.fine⟩
theorem ThOk.len {x : Thng} (h : ThOk x) : (rowOf x).length ≤ 48 := by
  have r0 := h.r0
  have r1 := h.r1
  have p0 := h.p0
  have p1 := h.p1
  obtain ⟨v0, v1⟩ := h.val
  have d1 := dec_len (v := x.2.2.1) (by omega) (by omega)
  have d2 := dec_len (v := x.2.2.2) (by omega) (by omega)
  have d3 := dec_len (v := x.2.1) (by omega) (by omega)
  have d4 := h.name.len
  show (TL.joinL [32] [decL x.2.2.1, decL x.2.2.2, x.1, decL x.2.1]).length ≤ 48
  rw [len_join4]
  omega
theorem HdOk.len {c t1 t2 : Int} (h : HdOk c t1 t2) : (headT c t1 t2).length ≤ 41 := by
  obtain ⟨c0, c1, a0, a1, b0, b1⟩ := h
  have d1 := dec_len (v := c) (by omega) (by omega)
  have d2 := dec_len (v := t1) (by omega) (by omega)
  have d3 := dec_len (v := t2) (by omega) (by omega)
  have d4 : nestsL.length = 5 := rfl
  show (TL.joinL [32] [nestsL, decL c, decL t1, decL t2]).length ≤ 41
  rw [len_join4]
  omega
/-- the rows of a table with few things -/
structure Note (rows : List Name) (c t1 t2 : Int) (ths : List Thng) : Prop where
  eq : rows = headT c t1 t2 :: ths.map rowOf
  hd : HdOk c t1 t2
  ok : ∀ x ∈ ths, ThOk x
  len : ths.length ≤ 14
theorem Note.mem {rows : List Name} {c t1 t2 : Int} {ths : List Thng} (h : Note rows c t1 t2 ths) {r : Name} (hr : r ∈ rows) : (∃ ws, RowW r ws) ∧ r.length ≤ 48 := by
  rw [h.eq] at hr
  rcases List.mem_cons.mp hr with rfl | hr
  · exact ⟨⟨_, h.hd.row⟩, by have := h.hd.len; omega⟩
  · obtain ⟨x, hx, rfl⟩ := List.mem_map.mp hr
    exact ⟨⟨_, (h.ok x hx).row⟩, (h.ok x hx).len⟩
theorem Note.rl {rows : List Name} {c t1 t2 : Int} {ths : List Thng} (h : Note rows c t1 t2 ths) : rows.length = ths.length + 1 := by
  rw [h.eq, List.length_cons, List.length_map]
theorem textL_len {m : Nat} : ∀ {rows : List Name}, (∀ r ∈ rows, r.length ≤ m) → (textL rows).length ≤ (m + 1) * rows.length
  | [], _ => Nat.le_refl _
  | r :: rows, h => by
    have := h r (List.mem_cons_self ..)
    have := textL_len fun x hx => h x (List.mem_cons_of_mem _ hx)
    rw [textL_cons, List.length_append, List.length_cons, List.length_cons, Nat.mul_succ]
    omega
theorem textL_ch {rows : List Name} (h : ∀ r ∈ rows, ∀ c ∈ r, c < 256) : ∀ c ∈ textL rows, c < 256 := by
  intro c hc
  unfold textL at hc
  obtain ⟨l, hl, hc⟩ := List.mem_flatten.mp hc
  obtain ⟨r, hr, rfl⟩ := List.mem_map.mp hl
  rcases List.mem_append.mp hc with z | z
  · exact h r hr c z
  · rw [List.mem_singleton.mp z]
    decide
/-- a row that is none where it stands -/
structure BadRow (first : Prop) (r : Name) : Prop where
  nl : 10 ∉ r
  ch : ∀ c ∈ r, c < 256
  len : r.length ≤ 100
  hd : first → headF (cutsAt 32 r) = none
  th : ¬ first → thingF (cutsAt 32 r) = none
theorem not4 {ws : List Name} (h : ws.length ≠ 4) : headF ws = none ∧ thingF ws = none := by
  match ws, h with
  | [], _ => exact ⟨rfl, rfl⟩
  | [_], _ => exact ⟨rfl, rfl⟩
  | [_, _], _ => exact ⟨rfl, rfl⟩
  | [_, _, _], _ => exact ⟨rfl, rfl⟩
  | [_, _, _, _], h => exact absurd rfl h
  | _ :: _ :: _ :: _ :: _ :: _, _ => exact ⟨rfl, rfl⟩
theorem bad_count {first : Prop} {r : Name} (h : r.count 32 ≠ 3) (nl : 10 ∉ r) (ch : ∀ c ∈ r, c < 256) (len : r.length ≤ 100) : BadRow first r := by
  have z := not4 (ws := cutsAt 32 r) (by rw [cuts_len]; omega)
  exact ⟨nl, ch, len, fun _ => z.1, fun _ => z.2⟩
theorem bad_words {first : Prop} {ws : List Name} (four : ws.length = 4) (h : ∀ w ∈ ws, 10 ∉ w ∧ (∀ c ∈ w, c < 256) ∧ w.length ≤ 12) (no : (∀ w ∈ ws, 32 ∉ w) → (first → headF ws = none) ∧ (¬ first → thingF ws = none)) : BadRow first (TL.joinL [32] ws) := by
  obtain ⟨a, b, c, d, rfl⟩ := four_of four
  have ha := h a (by simp)
  have hb := h b (by simp)
  have hc := h c (by simp)
  have hd := h d (by simp)
  have nl : 10 ∉ TL.joinL [32] [a, b, c, d] := fun z => by
    rcases mem_join4 z with z | z | z | z | z
    · cases z
    · exact ha.1 z
    · exact hb.1 z
    · exact hc.1 z
    · exact hd.1 z
  have ch : ∀ x ∈ TL.joinL [32] [a, b, c, d], x < 256 := fun x z => by
    rcases mem_join4 z with z | z | z | z | z
    · omega
    · exact ha.2.1 x z
    · exact hb.2.1 x z
    · exact hc.2.1 x z
    · exact hd.2.1 x z
  have len : (TL.joinL [32] [a, b, c, d]).length ≤ 100 := by
    rw [len_join4]
    omega
  by_cases q : ∀ w ∈ [a, b, c, d], 32 ∉ w
  · have e := cuts_join (c := 32) (ws := [a, b, c, d]) (List.cons_ne_nil _ _) q
    have z := no q
    exact ⟨nl, ch, len, fun f => by rw [e]; exact z.1 f, fun f => by rw [e]; exact z.2 f⟩
  · refine bad_count ?_ nl ch len
    rw [count_join4]
    intro e
    refine q fun w hw z => ?_
    have z := List.count_pos_iff.mpr z
    simp only [List.mem_cons, List.not_mem_nil, or_false] at hw
    rcases hw with rfl | rfl | rfl | rfl <;> omega
theorem parse_rows {rows : List Name} (h0 : rows ≠ []) (h : ∀ r ∈ rows, 10 ∉ r) : parseT (textL rows) = parseW (rows.map (cutsAt 32)) := by
  unfold parseT
  rw [rows_text h0 h]
  rfl
theorem parse_tail {h : List Name} {ws : List (List Name)} (e : allF ws = none) : parseW (h :: ws) = none := by
  show (headF h).bind (fun c => (allF ws).map fun t => (c, t)) = none
  rw [e]
  cases headF h <;> rfl
theorem parse_head {h : List Name} {ws : List (List Name)} (e : headF h = none) : parseW (h :: ws) = none := by
  show (headF h).bind (fun c => (allF ws).map fun t => (c, t)) = none
  rw [e]
  rfl
/-- a text that is no note, and short -/
structure NoText (T : List Nat) : Prop where
  no : parseT T = none
  len : T.length ≤ 800
  ch : ∀ c ∈ T, c < 256
theorem Note.spoilt {rows : List Name} {c t1 t2 : Int} {ths : List Thng} (h : Note rows c t1 t2 ths) {i : Nat} (hi : i < rows.length) {r : Name} (b : BadRow (i = 0) r) : NoText (textL (rows.take i ++ [r] ++ rows.drop (i + 1))) := by
  have mem : ∀ x ∈ rows.take i ++ [r] ++ rows.drop (i + 1), x ∈ rows ∨ x = r := fun x hx => by
    rcases List.mem_append.mp hx with hx | hx
    · rcases List.mem_append.mp hx with hx | hx
      · exact .inl (List.mem_of_mem_take hx)
      · exact .inr (List.mem_singleton.mp hx)
    · exact .inl (List.mem_of_mem_drop hx)
  have nl : ∀ x ∈ rows.take i ++ [r] ++ rows.drop (i + 1), 10 ∉ x := fun x hx => by
    rcases mem x hx with z | z
    · obtain ⟨⟨ws, q⟩, _⟩ := h.mem z
      exact q.nl
    · rw [z]
      exact b.nl
  have rl := h.rl
  have hl := h.len
  refine ⟨?_, ?_, textL_ch fun x hx => ?_⟩
  · rw [parse_rows (by simp) nl]
    cases i with
    | zero => exact parse_head (b.hd rfl)
    | succ i =>
      obtain ⟨a, as, ea⟩ : ∃ a as, rows = a :: as := ⟨_, _, h.eq⟩
      rw [ea]
      refine parse_tail (allF_none (w := cutsAt 32 r) ?_ (b.th (Nat.succ_ne_zero _)))
      refine List.mem_map.mpr ⟨r, ?_, rfl⟩
      show r ∈ as.take i ++ [r] ++ (a :: as).drop (i + 1 + 1)
      exact List.mem_append_left _ (List.mem_append_right _ (List.mem_singleton.mpr rfl))
  · rw [textL_app, textL_app, List.length_append, List.length_append]
    have e1 := textL_len (m := 48) (rows := rows.take i) fun x hx => (h.mem (List.mem_of_mem_take hx)).2
    have e2 := textL_len (m := 48) (rows := rows.drop (i + 1)) fun x hx => (h.mem (List.mem_of_mem_drop hx)).2
    have e3 := textL_len (m := 100) (rows := [r]) fun x hx => by rw [List.mem_singleton.mp hx]; exact b.len
    rw [List.length_take] at e1
    rw [List.length_drop] at e2
    rw [List.length_singleton] at e3
    rw [Nat.min_eq_left (by omega)] at e1
    omega
  · rcases mem x hx with z | z
    · obtain ⟨⟨ws, q⟩, _⟩ := h.mem z
      exact q.ch
    · rw [z]
      exact b.ch
theorem Note.drop1 {rows : List Name} {c t1 t2 : Int} {ths : List Thng} (h : Note rows c t1 t2 ths) : NoText (textL (rows.drop 1)) := by
  have rl := h.rl
  have hl := h.len
  refine ⟨?_, ?_, textL_ch fun x hx => ?_⟩
  · rw [h.eq, List.drop_one, List.tail_cons]
    cases ths with
    | nil => decide +kernel
    | cons x r =>
      have hx := h.ok x (List.mem_cons_self ..)
      rw [parse_rows (by simp) fun y hy => by
        obtain ⟨z, hz, rfl⟩ := List.mem_map.mp hy
        exact (h.ok z hz).row.nl]
      refine parse_head ?_
      rw [hx.row.cuts]
      refine if_neg fun e => ?_
      have := dec_figs x.2.2.1 110 (e ▸ (by decide))
      rcases this with z | z
      · cases z
      · have := fig_iff.mp z
        omega
  · have e2 := textL_len (m := 48) (rows := rows.drop 1) fun x hx => (h.mem (List.mem_of_mem_drop hx)).2
    rw [List.length_drop] at e2
    omega
  · obtain ⟨⟨ws, q⟩, _⟩ := h.mem (List.mem_of_mem_drop hx)
    exact q.ch
theorem Note.twice {rows : List Name} {c t1 t2 : Int} {ths : List Thng} (h : Note rows c t1 t2 ths) : NoText (textL (rows ++ rows.take 1)) := by
  have rl := h.rl
  have hl := h.len
  have e1 : rows.take 1 = [headT c t1 t2] := by rw [h.eq]; rfl
  have mem : ∀ x ∈ rows ++ rows.take 1, x ∈ rows := fun x hx => (List.mem_append.mp hx).elim id List.mem_of_mem_take
  refine ⟨?_, ?_, textL_ch fun x hx => ?_⟩
  · rw [parse_rows (by simp [h.eq]) fun y hy => by
      obtain ⟨⟨ws, q⟩, _⟩ := h.mem (mem y hy)
      exact q.nl]
    obtain ⟨a, as, ea⟩ : ∃ a as, rows = a :: as := ⟨_, _, h.eq⟩
    rw [e1, ea]
    refine parse_tail (allF_none (w := wordsH c t1 t2) ?_ ?_)
    · refine List.mem_map.mpr ⟨headT c t1 t2, ?_, h.hd.row.cuts⟩
      show headT c t1 t2 ∈ as ++ [headT c t1 t2]
      exact List.mem_append_right _ (List.mem_singleton.mpr rfl)
    · obtain ⟨c0, c1, a0, a1, b0, b1⟩ := h.hd
      show (if decL t1 = [] then none else (valF (decL t2)).bind fun z => (numF nestsL).bind _) = none
      have e : numF nestsL = none := by decide +kernel
      rw [e]
      split
      · rfl
      · cases valF (decL t2) <;> rfl
  · rw [textL_app, List.length_append, e1]
    have e2 := textL_len (m := 48) (rows := ths.map rowOf) fun x hx => (h.mem (by rw [h.eq]; exact List.mem_cons_of_mem _ hx)).2
    have e3 := h.hd.len
    rw [List.length_map] at e2
    rw [h.eq, textL_cons, textL_cons]
    have e4 : textL [] = [] := rfl
    rw [e4]
    simp only [List.length_append, List.length_cons, List.length_nil]
    omega
  · obtain ⟨⟨ws, q⟩, _⟩ := h.mem (mem x hx)
    exact q.ch
def tails : List Name := [[], [32], [10, 10], [120]]
theorem Note.cut {rows : List Name} {c t1 t2 : Int} {ths : List Thng} (h : Note rows c t1 t2 ths) {t : Name} (ht : t ∈ tails) : NoText ((textL rows).dropLast ++ t) := by
  have rl := h.rl
  have hl := h.len
  obtain ⟨init, last, ei⟩ : ∃ init last, rows = init ++ [last] := ⟨_, _, (List.dropLast_concat_getLast (l := rows) (by rw [h.eq]; exact List.cons_ne_nil _ _)).symm⟩
  have et : textL rows = (textL init ++ last) ++ [10] := by
    rw [ei, textL_app, textL_cons, List.append_assoc]
    rfl
  have lm : last ∈ rows := by rw [ei]; simp
  obtain ⟨⟨lw, lq⟩, ll⟩ := h.mem lm
  have ni : ∀ x ∈ init, 10 ∉ x := fun x hx => by
    obtain ⟨⟨ws, q⟩, _⟩ := h.mem (r := x) (by rw [ei]; exact List.mem_append_left _ hx)
    exact q.nl
  have lne : last ≠ [] := fun z => by
    have := lq.count
    rw [z] at this
    cases this
  have tl : t.length ≤ 2 ∧ ∀ c ∈ t, c < 256 := by
    have z : ∀ t ∈ tails, t.length ≤ 2 ∧ ∀ c ∈ t, c < 256 := by decide
    exact z t ht
  have tx : ∀ x ∈ textL rows, x < 256 := textL_ch fun y hy => by
    obtain ⟨⟨ws, q⟩, _⟩ := h.mem hy
    exact q.ch
  have len := textL_len (m := 48) (rows := rows) fun x hx => (h.mem hx).2
  have dl : (textL rows).dropLast = textL init ++ last := by rw [et, List.dropLast_concat]
  refine ⟨?_, ?_, fun x hx => ?_⟩
  · rw [dl]
    have open_ : ∀ t : Name, 10 ∉ t → parseT (textL init ++ last ++ t) = none := fun t q => by
      unfold parseT
      rw [List.append_assoc, rows_open ni (fun z => (List.mem_append.mp z).elim lq.nl q) fun z => lne (List.append_eq_nil_iff.mp z).1]
      rfl
    unfold tails at ht
    simp only [List.mem_cons, List.not_mem_nil, or_false] at ht
    rcases ht with rfl | rfl | rfl | rfl
    · exact open_ _ (by decide)
    · exact open_ _ (by decide)
    · have e : textL init ++ last ++ [10, 10] = textL (rows ++ [[]]) := by
        rw [textL_app, et]
        show _ = textL init ++ last ++ [10] ++ [10]
        rw [List.append_assoc (textL init ++ last) [10] [10]]
        rfl
      rw [e, parse_rows (by simp) fun y hy => by
        rcases List.mem_append.mp hy with z | z
        · obtain ⟨⟨ws, q⟩, _⟩ := h.mem z
          exact q.nl
        · rw [List.mem_singleton.mp z]
          decide]
      obtain ⟨a, as, ea⟩ : ∃ a as, rows = a :: as := ⟨_, _, h.eq⟩
      rw [ea]
      refine parse_tail (allF_none (w := cutsAt 32 []) ?_ rfl)
      refine List.mem_map.mpr ⟨[], ?_, rfl⟩
      show [] ∈ as ++ [[]]
      exact List.mem_append_right _ (List.mem_singleton.mpr rfl)
    · exact open_ _ (by decide)
  · rw [List.length_append, List.length_dropLast]
    omega
  · rcases List.mem_append.mp hx with z | z
    · exact tx x ((List.dropLast_sublist _).subset z)
    · exact tl.2 x z

end K11

namespace K11
open PySem L2 Ck TS2 TX TB
/-! texts of which one row is none -/
theorem cut_bad {r z : Name} {ws : List Name} {k : Nat} (h : RowW r ws) (l : r.length ≤ 48) (hk : 1 ≤ k) (hz : z = [32, 32] ∨ z = [9] ∨ z = []) : ∃ r2, cutRep (tx r) (tx [32]) (tx z) k = tx r2 ∧ ∀ first, BadRow first r2 := by
  have c3 := h.count
  obtain ⟨r2, m, m1, e, f⟩ := cut_add (l := r) (z := z) (c := 32) hk (List.count_pos_iff.mp (by omega))
  refine ⟨r2, e, fun first => ?_⟩
  have cz : z.count 32 = 2 ∨ z.count 32 = 0 := by rcases hz with rfl | rfl | rfl <;> decide
  have zc : ∀ x ∈ z, x = 32 ∨ x = 9 := by rcases hz with rfl | rfl | rfl <;> simp
  have zl : z.length ≤ 2 := by rcases hz with rfl | rfl | rfl <;> decide
  have cnt : ∀ x, r2.count x + m * [32].count x = r.count x + m * z.count x := fun x => (f (List.count x) (fun a b => List.count_append ..) List.count_nil).1
  obtain ⟨f1, f2⟩ := f (List.count 32) (fun a b => List.count_append ..) List.count_nil
  have f3 := (f List.length (fun a b => List.length_append ..) rfl).1
  have o32 : List.count 32 [32] = 1 := rfl
  rw [o32] at f1 f2
  have mem : ∀ x ∈ r2, x ∈ r ∨ x ∈ z := fun x hx => by
    have p := List.count_pos_iff.mpr hx
    have q := cnt x
    by_cases hr : x ∈ r
    · exact .inl hr
    · by_cases hz2 : x ∈ z
      · exact .inr hz2
      · rw [List.count_eq_zero_of_not_mem hr, List.count_eq_zero_of_not_mem hz2] at q
        omega
  refine bad_count ?_ (fun q => ?_) (fun x hx => ?_) ?_
  · rcases cz with q | q <;> rw [q] at f1 <;> omega
  · rcases mem 10 q with q | q
    · exact h.nl q
    · rcases zc 10 q with q | q <;> cases q
  · rcases mem x hx with q | q
    · exact h.ch x q
    · rcases zc x q with q | q <;> omega
  · have o1 : List.length [32] = 1 := rfl
    rw [o1] at f3
    have : m * z.length ≤ 3 * 2 := Nat.mul_le_mul (by omega) zl
    omega
theorem Note.get {rows : List Name} {c t1 t2 : Int} {ths : List Thng} (h : Note rows c t1 t2 ths) {i : Nat} {r : Name} (hr : rows[i]? = some r) : ∃ ws, RowW r ws ∧ (i = 0 → ws = wordsH c t1 t2) ∧ (i ≠ 0 → ∃ x ∈ ths, ws = wordsT x) := by
  rw [h.eq] at hr
  cases i with
  | zero =>
    obtain rfl : headT c t1 t2 = r := Option.some.inj hr
    exact ⟨_, h.hd.row, fun _ => rfl, fun z => absurd rfl z⟩
  | succ j =>
    rw [List.getElem?_cons_succ, List.getElem?_map] at hr
    cases e : ths[j]? with
    | none =>
      rw [e] at hr
      cases hr
    | some x =>
      rw [e] at hr
      obtain rfl : rowOf x = r := Option.some.inj hr
      have hx := List.mem_of_getElem? e
      exact ⟨_, (h.ok x hx).row, fun z => absurd z (Nat.succ_ne_zero _), fun _ => ⟨x, hx, rfl⟩⟩
theorem cut_lo_l (rows : List Name) (i : Nat) : cutV (wlist rows) none (some (i : Int)) = wlist (rows.take i) := by
  unfold cutV wlist
  rw [HT.sIx_none, HT.sIx_nat, List.drop_zero, List.length_map, Nat.sub_zero, ← List.map_take]
  by_cases h : i ≤ rows.length
  · rw [Nat.min_eq_left h]
  · rw [Nat.min_eq_right (by omega), List.take_length, List.take_of_length_le (by omega)]
theorem cut_hi_l (rows : List Name) (i : Nat) : cutV (wlist rows) (some (i : Int)) none = wlist (rows.drop i) := by
  unfold cutV wlist
  rw [HT.sIx_none, HT.sIx_nat, List.length_map, ← List.map_drop, ← List.map_take]
  by_cases h : i ≤ rows.length
  · rw [Nat.min_eq_left h, List.take_of_length_le (by rw [List.length_drop]; exact Nat.le_refl _)]
  · rw [Nat.min_eq_right (by omega), List.drop_length, List.drop_eq_nil_of_le (by omega), List.take_nil]
theorem wlist_app (a b : List Name) : wlist a ++ wlist b = wlist (a ++ b) := (List.map_append ..).symm
theorem wlist_len (a : List Name) : (wlist a).length = a.length := List.length_map ..
theorem wlist_get {ws : List Name} {i : Nat} {w : Name} (h : ws[i]? = some w) : (wlist ws)[i]? = some (.str (tx w)) := by
  unfold wlist
  rw [List.getElem?_map, h]
  rfl
theorem wlist_set (ws : List Name) (i : Nat) (w : Name) : (wlist ws).set i (.str (tx w)) = wlist (ws.set i w) := (List.map_set ..).symm
theorem mod_nat {x : Int} {n : Nat} (h : 0 < n) : ∃ j : Nat, j < n ∧ x % (n : Int) = (j : Int) := ⟨(x % (n : Int)).toNat, by
  have := Int.emod_lt_of_pos x (b := (n : Int)) (by omega)
  have := Int.emod_nonneg x (b := (n : Int)) (by omega)
  omega, by
  have := Int.emod_nonneg x (b := (n : Int)) (by omega)
  omega⟩
theorem bad_num {w : Name} (h : w ∈ badNums) : numF w = none ∧ w ≠ nestsL ∧ 10 ∉ w ∧ (∀ c ∈ w, c < 256) ∧ w.length ≤ 12 := by
  have z : ∀ w ∈ badNums, numF w = none ∧ w ≠ nestsL ∧ 10 ∉ w ∧ (∀ c ∈ w, c < 256) ∧ w.length ≤ 12 := by decide +kernel
  exact z w h
def badVals : List Name := [[45, 48], [45, 48], [45, 48, 49], [45, 45, 49], [45], [43, 53], [49, 95, 48], [49, 50, 51, 52, 53, 54, 55, 56, 57, 48, 49]]
theorem badVals_tx : (["-0", "-0", "-01", "--1", "-", "+5", "1_0", "12345678901"] : List Str) = badVals.map tx := by decide +kernel
theorem bad_val {w : Name} (h : w ∈ badVals) : valF w = none ∧ 10 ∉ w ∧ (∀ c ∈ w, c < 256) ∧ w.length ≤ 12 := by
  have z : ∀ w ∈ badVals, valF w = none ∧ 10 ∉ w ∧ (∀ c ∈ w, c < 256) ∧ w.length ≤ 12 := by decide +kernel
  exact z w h
def badNames : List Name := [[], [32, 97], [97, 32], [97, 32, 98]]
theorem badNames_tx : (["", " a", "a ", "a b"] : List Str) = badNames.map tx := by decide +kernel
theorem bad_name {w : Name} (h : w ∈ badNames) : (32 ∉ w → w = []) ∧ 10 ∉ w ∧ (∀ c ∈ w, c < 256) ∧ w.length ≤ 12 := by
  have z : ∀ w ∈ badNames, (32 ∉ w → w = []) ∧ 10 ∉ w ∧ (∀ c ∈ w, c < 256) ∧ w.length ≤ 12 := by decide +kernel
  exact z w h
def badHeads : List Name := [[78, 101, 115, 116, 115], [110, 101, 115, 116], [], [110, 101, 115, 116, 115, 32]]
theorem badHeads_tx : (["Nests", "nest", "", "nests "] : List Str) = badHeads.map tx := by decide +kernel
theorem bad_head {w : Name} (h : w ∈ badHeads) : w ≠ nestsL ∧ 10 ∉ w ∧ (∀ c ∈ w, c < 256) ∧ w.length ≤ 12 := by
  have z : ∀ w ∈ badHeads, w ≠ nestsL ∧ 10 ∉ w ∧ (∀ c ∈ w, c < 256) ∧ w.length ≤ 12 := by decide +kernel
  exact z w h
theorem th_none1 {a b n v : Name} (h : numF a = none) : thingF [a, b, n, v] = none := by
  show (if n = [] then none else (valF v).bind fun z => (numF a).bind _) = none
  rw [h]
  split
  · rfl
  · cases valF v <;> rfl
theorem th_none2 {a b n v : Name} (h : numF b = none) : thingF [a, b, n, v] = none := by
  show (if n = [] then none else (valF v).bind fun z => (numF a).bind fun x => (numF b).map _) = none
  rw [h]
  split
  · rfl
  · cases valF v with
    | none => rfl
    | some z => cases numF a <;> rfl
theorem th_none4 {a b n v : Name} (h : valF v = none) : thingF [a, b, n, v] = none := by
  show (if n = [] then none else (valF v).bind _) = none
  rw [h]
  split <;> rfl
theorem hd_none {a b c d : Name} (h : a = nestsL → numF b = none ∨ numF c = none ∨ numF d = none) : headF [a, b, c, d] = none := by
  show (if a = nestsL then (numF b).bind fun x => (numF c).bind fun y => (numF d).map fun z => (x, y, z) else none) = none
  by_cases e : a = nestsL
  · rw [if_pos e]
    rcases h e with z | z | z
    · rw [z]
      rfl
    · rw [z]
      cases numF b <;> rfl
    · rw [z]
      cases numF b with
      | none => rfl
      | some x => cases numF c <;> rfl
  · rw [if_neg e]
theorem fine3 {ws : List Name} (h : ∀ w ∈ ws, Fine w) {i : Nat} {x : Name} (hx : 10 ∉ x ∧ (∀ c ∈ x, c < 256) ∧ x.length ≤ 12) : ∀ w ∈ ws.set i x, 10 ∉ w ∧ (∀ c ∈ w, c < 256) ∧ w.length ≤ 12 := fun w hw => by
  rcases List.mem_or_eq_of_mem_set hw with z | z
  · exact ⟨(h w z).nl, (h w z).ch, (h w z).len⟩
  · rw [z]
    exact hx
def sp__law_spoilt (K : PySem.W.Frag) : Sp := fun vs H Q _ => ∃ (p : Addr) (cell more : Int) (rows : List Name) (c t1 t2 : Int) (ths : List Thng), vs = [.ref p, .int cell, .int more] ∧ H p = some (.lst (wlist rows)) ∧ Note rows c t1 t2 ths ∧
  ∀ T H', NoText T → Same H H' → Q (.str (tx T)) H'
theorem cut_last (l : List Nat) (h : l ≠ []) : cutS (tx l) none (some (-1)) = tx l.dropLast := by
  have e : HT.sIx (tx l).length (tx l).length (some (-1)) = l.length - 1 := by
    unfold HT.sIx
    rw [tx_len]
    have := List.length_pos_iff.mpr h
    simp
    omega
  unfold cutS
  rw [e, HT.sIx_none, List.drop_zero, Nat.sub_zero, List.dropLast_eq_take]
theorem ixN_at {n j : Nat} (h : j < n) : L2.ixN n (j : Int) = some j := by
  unfold L2.ixN
  rw [if_pos (Int.natCast_nonneg j), if_pos (by omega)]
  exact congrArg some (Int.toNat_natCast j)
theorem wordH_bad {c t1 t2 : Int} {j : Nat} {w : Name} {first : Prop} (h : HdOk c t1 t2) (f : first) (hj : j < 4) (hw : 10 ∉ w ∧ (∀ x ∈ w, x < 256) ∧ w.length ≤ 12) (h0 : j = 0 → 32 ∉ w → w ≠ nestsL) (h1 : j ≠ 0 → numF w = none) : BadRow first (TL.joinL [32] ((wordsH c t1 t2).set j w)) := by
  refine bad_words (by rw [List.length_set]; rfl) (fine3 h.fine hw) fun no => ⟨fun _ => ?_, fun z => absurd f z⟩
  match j, hj with
  | 0, _ => exact hd_none fun z => absurd z (h0 rfl (no w (by show w ∈ w :: _; exact List.mem_cons_self ..)))
  | 1, _ => exact hd_none fun _ => .inl (h1 (by decide))
  | 2, _ => exact hd_none fun _ => .inr (.inl (h1 (by decide)))
  | 3, _ => exact hd_none fun _ => .inr (.inr (h1 (by decide)))
theorem wordT_bad {x : Thng} {j : Nat} {w : Name} {first : Prop} (h : ThOk x) (f : ¬ first) (hj : j < 4) (hw : 10 ∉ w ∧ (∀ x ∈ w, x < 256) ∧ w.length ≤ 12) (h1 : j < 2 → numF w = none) (h2 : j = 2 → 32 ∉ w → w = []) (h3 : j = 3 → valF w = none) : BadRow first (TL.joinL [32] ((wordsT x).set j w)) := by
  refine bad_words (by rw [List.length_set]; rfl) (fine3 h.fine hw) fun no => ⟨fun z => absurd z f, fun _ => ?_⟩
  match j, hj with
  | 0, _ => exact th_none1 (h1 (by decide))
  | 1, _ => exact th_none2 (h1 (by decide))
  | 2, _ => exact if_pos (h2 rfl (no w (by show w ∈ [_, _, w, _]; simp)))
  | 3, _ => exact th_none4 (h3 rfl)
theorem pick_at (l : List Name) {x : Int} {n : Nat} (h : l.length = n) (n0 : 0 < n) : ∃ w ∈ l, atI (wlist l) (x % (n : Int)) = some (.str (tx w)) := by
  obtain ⟨j, hj, e⟩ := mod_nat (x := x) n0
  refine ⟨l[j]'(by omega), List.getElem_mem _, ?_⟩
  rw [e]
  exact atI_nat (wlist_get (List.getElem?_eq_getElem _))
/-- the text of all rows, one put otherwise -/
theorem fin_spoilt {K : PySem.W.Frag} {σ : L2.St} {H0 : Hp} {Q : VK} {p : Addr} {rows : List Name} {c t1 t2 : Int} {ths : List Thng} {i : Nat} {r2 : Name} {tX : TE} (s0 : σ[0]? = some (some (.ref p))) (s3 : σ[3]? = some (some (.int (i : Int)))) (hp : H0 p = some (.lst (wlist rows))) (N : Note rows c t1 t2 ths) (hi : i < rows.length) (B : BadRow (i = 0) r2)
    (hX : ∀ (H1 : Hp) (R : VK), Same H0 H1 → R (.str (tx r2)) H1 → tX σ H1 R) (k : ∀ T H', NoText T → Same H0 H' → Q (.str (tx T)) H') :
    tCall (sp__law_text K) [] E0 (tCons (tOp L2.rCat (tOp L2.rCat (tSl (rSlL K) (tVar 0) tNoPart (tPart (tVar 3))) (tLst (tCons tX tNil))) (tSl (rSlL K) (tVar 0) (tPart (tOp (rI0 fun i j => V.int (i + j)) (tVar 3) (tC (V.int 1)))) tNoPart)) tNil) σ H0 Q := by
  have rl := N.rl
  have hl := N.len
  have big := sizeLine_eq
  have e1 : (wlist (rows.take i)).length ≤ 15 := by rw [wlist_len, List.length_take]; omega
  have e2 : (wlist (rows.drop (i + 1))).length ≤ 15 := by rw [wlist_len, List.length_drop]; omega
  have e3 : (wlist [r2]).length = 1 := rfl
  have e4 : (wlist (rows.take i ++ [r2])).length ≤ 16 := by rw [← wlist_app, List.length_append]; omega
  refine ⟨_, s0, _, s3, _, rfl, p, wlist rows, rfl, SqL.of hp, fun q1 g1 => ?_⟩
  rw [cut_lo_l]
  have T1 := fun o => same_new (o := o) g1
  refine hX _ _ (T1 _) ⟨(by show 1 ≤ sizeLine; decide), fun q2 g2 => ?_⟩
  have T2 := fun o => same_new (o := o) g2
  refine ⟨q1, q2, wlist (rows.take i), wlist [r2], rfl, rfl, T2 _ _ _ upd_same, upd_same, by omega, fun q3 g3 => ?_⟩
  rw [wlist_app]
  have T3 := fun o => same_new (o := o) g3
  refine ⟨_, s0, _, s3, _, _, rfl, rfl, ((i + 1 : Nat) : Int), rfl, p, wlist rows, rfl, SqL.of (T3 _ _ _ (T2 _ _ _ (T1 _ _ _ hp))), fun q4 g4 => ?_⟩
  rw [cut_hi_l]
  have T4 := fun o => same_new (o := o) g4
  refine ⟨q3, q4, wlist (rows.take i ++ [r2]), wlist (rows.drop (i + 1)), rfl, rfl, T4 _ _ _ upd_same, upd_same, by omega, fun q5 g5 => ?_⟩
  rw [wlist_app]
  have T5 := fun o => same_new (o := o) g5
  refine ⟨q5, rows.take i ++ [r2] ++ rows.drop (i + 1), rfl, SqL.of upd_same, ?_, fun x hx => ?_, fun H' S' => k _ H' (N.spoilt hi B) fun b o z => S' _ _ (T5 _ _ _ (T4 _ _ _ (T3 _ _ _ (T2 _ _ _ (T1 _ _ _ z)))))⟩
  · rw [← wlist_len, ← wlist_app, List.length_append]
    omega
  · rcases List.mem_append.mp hx with hx | hx
    · rcases List.mem_append.mp hx with hx | hx
      · have := (N.mem (List.mem_of_mem_take hx)).2
        omega
      · rw [List.mem_singleton.mp hx]
        have := B.len
        omega
    · have := (N.mem (List.mem_of_mem_drop hx)).2
      omega
/-- words joined -/
theorem fin_join {K : PySem.W.Frag} {σ : L2.St} {H0 H1 : Hp} {R : VK} {q : Addr} {ws : List Name} (s4 : σ[4]? = some (some (.ref q))) (hq : H0 q = some (.lst (wlist ws))) (l : ∀ w ∈ ws, w.length ≤ 12) (l4 : ws.length = 4) (S : Same H0 H1) (k : R (.str (tx (TL.joinL [32] ws))) H1) :
    tM1 (fun x xs H Q => ∃ a p, ∃ ys : List Str, x = .str a ∧ xs = [.ref p] ∧ (SqL K H p (ys.map V.str) ∨ SqT K H p (ys.map V.str)) ∧ (ys.map (·.length)).sum + ys.length * a.length ≤ 16777216 ∧ Q (.str (Txt.join a ys)) H) (tC (V.str " ")) (tVar 4) σ H1 R := by
  have sm := sums l
  rw [l4] at sm
  refine ⟨⟨_, rfl⟩, _, s4, _, q, ws.map tx, rfl, rfl, .inl (SqL.of (by rw [wlist_eq]; exact S _ _ hq)), ?_, ?_⟩
  · have e0 : (" " : Str).length = 1 := rfl
    rw [e0, List.length_map, l4]
    omega
  · rw [join_sp]
    exact k
section
variable {P : Program} {w : World} {K : PySem.W.Frag} {mg : Str → Option Value} {base : Heap} {A : Ad}
theorem ok__law_spoilt (T : Tx K mg A) : FnOk P w K mg base CX0 2 A.a__law_spoilt A.d__law_spoilt ["_law_rows_here", "_law_cell", "_law_more"] (sp__law_spoilt K) := by
  refine okT T.F__law_spoilt sc__law_spoilt (by decide +kernel) (by decide) (fun vs H Q E h => ?_) (fun cdv Ar outer s H vs Q E hr h => ?_)
  · obtain ⟨p, cell, more, rows, c, t1, t2, ths, rfl, _⟩ := h
    rfl
  · obtain ⟨p, cell, more, rows, c, t1, t2, ths, rfl, hp, N, k⟩ := h
    refine ⟨_,
      (psst_cons (PST.of (ps_set (i := 3) sc__law_spoilt.nd rfl (Or.inl rfl) (pe_op op_mod (pv 2) (pe_callB call_len_seq (by rfl) T.m_len PySem.boot_len (pa_cons (pv 0) pa_nil)))))
      (psst_cons (PST.of (ps_set (i := 4) sc__law_spoilt.nd rfl (Or.inl rfl) (pe_m1 PySem.F.slot_str_split PySem.F.type_str_split mt_split (pe_ix (r := rIxL K) ix_list (pv 0) (pv 3) (fun _ _ => rfl)) pe_str)))
      (psst_cons (PST.of (ps_set (i := 5) sc__law_spoilt.nd rfl (Or.inl rfl) (pe_op op_mod (pe_op op_fdiv (pv 2) pe_int) pe_int)))
      (psst_cons (PST.of (ps_if (pt_cmpR op_eq (pe_op op_mod (pv 1) pe_int) pe_int (nomark _)) (pss_cons (ps_asg (pe_call (ok__law_number T) hr (by rfl) T.g__law_number T.F__law_number.kp T.b__law_number .nil pass0 (pa_cons (pe_op op_fdiv (pv 2) pe_int) pa_nil)) (pg_sub (pv 4) (pv 5) set_list)) (pss_cons (ps_if (PW.pt (pw_and (pt_cmpR op_gt (pv 3) pe_int (nomark _)) (pw_and1 (pt_cmpR op_eq (pv 5) pe_int (nomark _))))) (pss_one (ps_asg (pe_ix (r := rIxL K) ix_list (pe_lst (pa_cons pe_str (pa_cons pe_str (pa_cons pe_str (pa_cons pe_str (pa_cons pe_str (pa_cons pe_str (pa_cons pe_str (pa_cons pe_str pa_nil))))))))) (pe_op op_mod (pe_op op_fdiv (pv 2) pe_int) pe_int) (fun _ _ => rfl)) (pg_sub (pv 4) pe_int set_list))) pss_nil) (pss_cons (ps_if (PW.pt (pw_and (pt_cmpR op_gt (pv 3) pe_int (nomark _)) (pw_and1 (pt_cmpR op_eq (pv 5) pe_int (nomark _))))) (pss_one (ps_asg (pe_ix (r := rIxL K) ix_list (pe_lst (pa_cons pe_str (pa_cons pe_str (pa_cons pe_str (pa_cons pe_str pa_nil))))) (pe_op op_mod (pe_op op_fdiv (pv 2) pe_int) pe_int) (fun _ _ => rfl)) (pg_sub (pv 4) pe_int set_list))) pss_nil) (pss_one (ps_ret (pe_call (ok__law_text T) hr (by rfl) T.g__law_text T.F__law_text.kp T.b__law_text .nil pass0 (pa_cons (pe_op op_cat (pe_op op_cat (pe_slice sl_list (pv 0) po_none (po_some (pv 3))) (pe_lst (pa_cons (pe_m1 PySem.F.slot_str_join PySem.F.type_str_join mt_join pe_str (pv 4)) pa_nil))) (pe_slice sl_list (pv 0) (po_some (pe_op op_add (pv 3) pe_int)) po_none)) pa_nil))))))) pss_nil))
      (psst_cons (PST.of (ps_if (pt_cmpR op_eq (pe_op op_mod (pv 1) pe_int) pe_int (nomark _)) (pss_one (ps_ret (pe_op op_add_str (pe_slice sl_str (pe_call (ok__law_text T) hr (by rfl) T.g__law_text T.F__law_text.kp T.b__law_text .nil pass0 (pa_cons (pv 0) pa_nil)) po_none (po_some (pe_un un_neg pe_int))) (pe_ix (r := rIxL K) ix_list (pe_lst (pa_cons pe_str (pa_cons pe_str (pa_cons pe_str (pa_cons pe_str pa_nil))))) (pe_op op_mod (pv 2) pe_int) (fun _ _ => rfl))))) pss_nil))
      (psst_cons (CwR.pst_if (pt_cmpR op_eq (pe_op op_mod (pv 1) pe_int) pe_int (nomark _))
          (psst_cut (ib := 6) (ir := 7) (irows := 0) (iat := 3) sc__law_spoilt.nd rfl rfl rfl (Or.inl rfl) rfl (Or.inl rfl) rfl (Or.inl rfl) (pe_op op_mod (pe_op op_fdiv (pv 2) pe_int) pe_int) (pe_op op_add pe_int (pe_op op_mod (pe_op op_fdiv (pv 2) pe_int) pe_int)) (PSsT.of (pss_one (ps_ret (pe_call (ok__law_text T) hr (by rfl) T.g__law_text T.F__law_text.kp T.b__law_text .nil pass0 (pa_cons (pe_op op_cat (pe_op op_cat (pe_slice sl_list (pv 0) po_none (po_some (pv 3))) (pe_lst (pa_cons (pv 7) pa_nil))) (pe_slice sl_list (pv 0) (po_some (pe_op op_add (pv 3) pe_int)) po_none)) pa_nil)))))) (PSsT.of pss_nil))
      (PSsT.of (pss_cons (ps_if (pt_cmpR op_eq (pe_op op_mod (pv 1) pe_int) pe_int (nomark _)) (pss_one (ps_ret (pe_call (ok__law_text T) hr (by rfl) T.g__law_text T.F__law_text.kp T.b__law_text .nil pass0 (pa_cons (pe_slice sl_list (pv 0) (po_some pe_int) po_none) pa_nil)))) pss_nil)
      (pss_cons (ps_if (pt_cmpR op_eq (pe_op op_mod (pv 1) pe_int) pe_int (nomark _)) (pss_one (ps_ret (pe_call (ok__law_text T) hr (by rfl) T.g__law_text T.F__law_text.kp T.b__law_text .nil pass0 (pa_cons (pe_op op_cat (pv 0) (pe_slice sl_list (pv 0) po_none (po_some pe_int))) pa_nil)))) pss_nil)
      (pss_cons (ps_if (pt_cmpR op_eq (pe_op op_mod (pv 1) pe_int) pe_int (nomark _)) (pss_cons (ps_asg (pe_ix (r := rIxL K) ix_list (pe_lst (pa_cons (pe_ix (r := rIxL K) ix_list (pe_lst (pa_cons pe_str (pa_cons pe_str (pa_cons pe_str (pa_cons pe_str pa_nil))))) (pe_op op_mod (pe_op op_fdiv (pv 2) pe_int) pe_int) (fun _ _ => rfl)) (pa_cons pe_str (pa_cons pe_str pa_nil)))) (pe_callB (call_min2 rfl) (by rfl) T.m_min (by decide +kernel) (pa_cons (pv 3) (pa_cons (pe_op op_add pe_int (pe_op op_mod (pe_op op_fdiv (pv 2) pe_int) pe_int)) pa_nil))) (fun _ _ => rfl)) (pg_sub (pv 4) pe_int set_list)) (pss_one (ps_ret (pe_call (ok__law_text T) hr (by rfl) T.g__law_text T.F__law_text.kp T.b__law_text .nil pass0 (pa_cons (pe_op op_cat (pe_op op_cat (pe_slice sl_list (pv 0) po_none (po_some (pv 3))) (pe_lst (pa_cons (pe_m1 PySem.F.slot_str_join PySem.F.type_str_join mt_join pe_str (pv 4)) pa_nil))) (pe_slice sl_list (pv 0) (po_some (pe_op op_add (pv 3) pe_int)) po_none)) pa_nil))))) pss_nil)
      (pss_cons (ps_set (i := 7) sc__law_spoilt.nd rfl (Or.inl rfl) (pe_ix (r := rIxL K) ix_list (pe_lst (pa_cons pe_str (pa_cons pe_str (pa_cons (pe_op op_add_str (pe_ix (r := rIxL K) ix_list (pv 0) (pv 3) (fun _ _ => rfl)) pe_str) (pa_cons (pe_op op_add_str pe_str (pe_ix (r := rIxL K) ix_list (pv 0) (pv 3) (fun _ _ => rfl))) pa_nil))))) (pe_op op_mod (pe_op op_fdiv (pv 2) pe_int) pe_int) (fun _ _ => rfl)))
      (pss_one (ps_ret (pe_call (ok__law_text T) hr (by rfl) T.g__law_text T.F__law_text.kp T.b__law_text .nil pass0 (pa_cons (pe_op op_cat (pe_op op_cat (pe_slice sl_list (pv 0) po_none (po_some (pv 3))) (pe_lst (pa_cons (pv 7) pa_nil))) (pe_slice sl_list (pv 0) (po_some (pe_op op_add (pv 3) pe_int)) po_none)) pa_nil))))))))))))))), ?_⟩
    have sq := SqL.of (K := K) hp
    have rl := N.rl
    have lw : (wlist rows).length = rows.length := wlist_len rows
    refine ⟨_, rfl, _, rfl, _, _, rfl, .inl sq, ?_⟩
    obtain ⟨i, hi, ei⟩ := mod_nat (x := more) (n := rows.length) (by omega)
    refine ⟨_, _, rfl, rfl, (by rw [lw]; omega), ?_⟩
    show gName 3 (V.int (more % ((wlist rows).length : Int))) _ _ _
    rw [lw, ei]
    obtain ⟨r, er⟩ : ∃ r, rows[i]? = some r := ⟨_, List.getElem?_eq_getElem hi⟩
    obtain ⟨ws, W, w0, w1⟩ := N.get er
    have rlen : r.length ≤ 48 := (N.mem (List.mem_of_getElem? er)).2
    have rz : (tx r).length + 2 ≤ sizeLine := by rw [tx_len]; have := sizeLine_eq; omega
    refine ⟨_, rfl, _, rfl, p, _, _, _, rfl, rfl, sq, atI_nat (wlist_get er), ⟨_, rfl⟩, _, _, rfl, rfl, rfl, rz, fun q hq => ?_⟩
    rw [split_sp, W.cuts, wlist_eq]
    have S1 := fun o => same_new (o := o) hq
    have qp : q ≠ p := fun z => by rw [z, hp] at hq; cases hq
    refine ⟨_, rfl, _, _, rfl, rfl, ⟨by decide, by decide⟩, _, _, rfl, rfl, (by show (0 : Int) < 4; decide), ?_⟩
    obtain ⟨j, hj, ej⟩ := mod_nat (x := more / 61) (n := 4) (by decide)
    show gName 5 (V.int (more / 61 % 4)) _ _ _
    rw [show more / 61 % 4 = (j : Int) from ej]
    have hp1 : ∀ o, (upd H q o) p = some (.lst (wlist rows)) := fun o => S1 o _ _ hp
    obtain ⟨a, b, n, v, rfl⟩ := four_of W.four
    have fw := W.fine
    have m7 : (0 : Int) < 7 := by decide
    have nx : ∀ {x : Int} {y : Int}, x ≠ y → decide (V.int x = V.int y) = false := fun h => decide_eq_false fun z => h (V.int.inj z)
    -- a word
    refine ⟨_, rfl, _, _, rfl, rfl, m7, rfl, _, rfl, ite2 (fun e => ?_) (fun _ => ?_)⟩
    · refine ⟨_, rfl, _, _, rfl, rfl, ⟨by decide, by decide⟩, _, rfl, fun w hw H2 S2 => ?_⟩
      have hq2 := S2 _ _ (upd_same (H := H) (a := q) (o := .lst (wlist [a, b, n, v])))
      have S02 : Same H H2 := (S1 _).trans S2
      obtain ⟨b1, b2, b3⟩ := bad_num hw
      refine ⟨_, rfl, _, rfl, q, _, _, j, rfl, rfl, hq2, ixN_at hj, ?_⟩
      rw [wlist_set]
      have qn : H q = none := hq
      have S3 : ∀ o, Same H (upd H2 q o) := fun o => same_mut S02 qn
      have F0 : i = 0 → V.bl (decide ((0 : Int) < (i : Int))) = V.bl false := fun z => congrArg V.bl (decide_eq_false (by omega))
      have F1 : i ≠ 0 → V.bl (decide ((0 : Int) < (i : Int))) = V.bl true := fun z => congrArg V.bl (decide_eq_true (by omega))
      have J0 : ∀ {m : Nat}, j ≠ m → V.bl (decide (V.int (j : Int) = V.int (m : Int))) = V.bl false := fun z => congrArg V.bl (decide_eq_false fun y => by have := V.int.inj y; omega)
      have J1 : ∀ {m : Nat}, j = m → V.bl (decide (V.int (j : Int) = V.int (m : Int))) = V.bl true := fun z => congrArg V.bl (decide_eq_true (by rw [z]))
      have m8 : (0 : Int) < 8 := by decide
      have m4 : (0 : Int) < 4 := by decide
      by_cases i0 : i = 0
      · refine ⟨_, rfl, _, _, rfl, rfl, false, F0 i0, iteF (iteF ⟨_, rfl, _, _, rfl, rfl, false, F0 i0, iteF (iteF ?_)⟩)⟩
        obtain ⟨rfl, rfl, rfl, rfl⟩ : a = nestsL ∧ b = decL c ∧ n = decL t1 ∧ v = decL t2 := by
          have z := w0 i0
          unfold wordsH at z
          injection z with z1 z
          injection z with z2 z
          injection z with z3 z
          injection z with z4 z
          exact ⟨z1, z2, z3, z4⟩
        have B := wordH_bad (first := i = 0) N.hd i0 hj b3 (fun _ _ => b2) (fun _ => b1)
        refine fin_spoilt rfl rfl (S3 _ _ _ hp) N hi B (fun H5 R S5 r => fin_join (ws := (wordsH c t1 t2).set j w) rfl upd_same ?_ ?_ S5 r) fun T H' nt S' => k T H' nt ((S3 _).trans S')
        · exact fun x hx => (fine3 N.hd.fine b3 x hx).2.2
        · rw [List.length_set]
          rfl
      obtain ⟨x, hx, ex⟩ := w1 i0
      have ox := N.ok x hx
      rw [ex] at hq2
      have q8 : [V.str "-0", V.str "-0", V.str "-01", V.str "--1", V.str "-", V.str "+5", V.str "1_0", V.str "12345678901"] = wlist badVals := by
        rw [← wlist_eq, ← badVals_tx]
        rfl
      have q4 : [V.str "", V.str " a", V.str "a ", V.str "a b"] = wlist badNames := by
        rw [← wlist_eq, ← badNames_tx]
        rfl
      have lx : (wordsT x).length = 4 := rfl
      rw [ex]
      have fin : ∀ {σ : L2.St} (H3 : Hp) (y : Name) (j2 : Nat), σ[0]? = some (some (.ref p)) → σ[3]? = some (some (.int (i : Int))) → σ[4]? = some (some (.ref q)) → Same H H3 → H3 q = some (.lst (wlist ((wordsT x).set j2 y))) → (10 ∉ y ∧ (∀ c ∈ y, c < 256) ∧ y.length ≤ 12) → BadRow (i = 0) (TL.joinL [32] ((wordsT x).set j2 y)) →
          tCall (sp__law_text K) [] E0 (tCons (tOp L2.rCat (tOp L2.rCat (tSl (rSlL K) (tVar 0) tNoPart (tPart (tVar 3))) (tLst (tCons (tM1 (fun x xs H Q => ∃ a p, ∃ ys : List Str, x = .str a ∧ xs = [.ref p] ∧ (SqL K H p (ys.map V.str) ∨ SqT K H p (ys.map V.str)) ∧ (ys.map (·.length)).sum + ys.length * a.length ≤ 16777216 ∧ Q (.str (Txt.join a ys)) H) (tC (V.str " ")) (tVar 4)) tNil))) (tSl (rSlL K) (tVar 0) (tPart (tOp (rI0 fun i j => V.int (i + j)) (tVar 3) (tC (V.int 1)))) tNoPart)) tNil) σ H3 Q := by
        intro σ H3 y j2 s0 s3 s4 SH hq3 hy B
        exact fin_spoilt s0 s3 (SH _ _ hp) N hi B (fun H5 R S5 r => fin_join (ws := (wordsT x).set j2 y) s4 hq3 (fun z hz => (fine3 ox.fine hy z hz).2.2) (by rw [List.length_set]; rfl) S5 r) fun T H' nt S' => k T H' nt (SH.trans S')
      by_cases j3 : j = 3
      · refine ⟨_, rfl, _, _, rfl, rfl, true, F1 i0, iteT ⟨_, rfl, rfl, true, J1 j3, iteT ?_⟩⟩
        refine ⟨(by show 8 ≤ sizeLine; decide), fun l gl => ?_⟩
        rw [q8]
        obtain ⟨y, hy, ey⟩ := pick_at badVals (x := more / 7) (n := 8) rfl (by decide)
        obtain ⟨y1, y2⟩ := bad_val hy
        have T1 := fun o => same_new (o := o) gl
        refine ⟨_, rfl, _, _, rfl, rfl, ⟨by decide, by decide⟩, _, _, rfl, rfl, m8, l, _, _, _, rfl, rfl, SqL.of upd_same, ey, ?_⟩
        refine ⟨_, rfl, q, _, _, 3, rfl, rfl, T1 _ _ _ upd_same, ixN_at (j := 3) (by rw [wlist_len, List.length_set]; exact (by decide : 3 < 4)), ?_⟩
        rw [wlist_set, show ((wordsT x).set j w).set 3 y = (wordsT x).set 3 y by rw [j3, List.set_set]]
        have n2 : j ≠ 2 := by omega
        refine ⟨_, rfl, _, _, rfl, rfl, true, F1 i0, iteT ⟨_, rfl, rfl, false, J0 n2, iteF ?_⟩⟩
        exact fin _ y 3 rfl rfl rfl (same_mut (fun b o z => T1 _ _ _ (S3 _ _ _ z)) qn) upd_same y2 (wordT_bad (j := 3) ox i0 (by decide) y2 (fun z => absurd z (by decide)) (fun z => absurd z (by decide)) fun _ => y1)
      · refine ⟨_, rfl, _, _, rfl, rfl, true, F1 i0, iteT ⟨_, rfl, rfl, false, J0 j3, iteF ?_⟩⟩
        by_cases j2 : j = 2
        · refine ⟨_, rfl, _, _, rfl, rfl, true, F1 i0, iteT ⟨_, rfl, rfl, true, J1 j2, iteT ?_⟩⟩
          refine ⟨(by show 4 ≤ sizeLine; decide), fun l gl => ?_⟩
          rw [q4]
          obtain ⟨y, hy, ey⟩ := pick_at badNames (x := more / 7) (n := 4) rfl (by decide)
          obtain ⟨y1, y2⟩ := bad_name hy
          have T1 := fun o => same_new (o := o) gl
          refine ⟨_, rfl, _, _, rfl, rfl, ⟨by decide, by decide⟩, _, _, rfl, rfl, m4, l, _, _, _, rfl, rfl, SqL.of upd_same, ey, ?_⟩
          refine ⟨_, rfl, q, _, _, 2, rfl, rfl, T1 _ _ _ upd_same, ixN_at (j := 2) (by rw [wlist_len, List.length_set]; exact (by decide : 2 < 4)), ?_⟩
          rw [wlist_set, show ((wordsT x).set j w).set 2 y = (wordsT x).set 2 y by rw [j2, List.set_set]]
          exact fin _ y 2 rfl rfl rfl (same_mut (fun b o z => T1 _ _ _ (S3 _ _ _ z)) qn) upd_same y2 (wordT_bad (j := 2) ox i0 (by decide) y2 (fun z => absurd z (by decide)) (fun _ => y1) fun z => absurd z (by decide))
        · refine ⟨_, rfl, _, _, rfl, rfl, true, F1 i0, iteT ⟨_, rfl, rfl, false, J0 j2, iteF ?_⟩⟩
          exact fin _ w j rfl rfl rfl (S3 _) upd_same b3 (wordT_bad ox i0 hj b3 (fun _ => b1) (fun z => absurd z j2) fun z => absurd z j3)
    have m8 : (0 : Int) < 8 := by decide
    have m4 : (0 : Int) < 4 := by decide
    have S10 : Same H (upd H q (.lst (wlist [a, b, n, v]))) := S1 _
    -- the text cut
    refine ⟨_, rfl, _, _, rfl, rfl, m7, rfl, _, rfl, ite2 (fun e => ?_) (fun _ => ?_)⟩
    · have lr : ∀ x ∈ rows, x.length ≤ 200 := fun x hx => by have := (N.mem hx).2; omega
      have hl := N.len
      refine ⟨_, rfl, p, rows, rfl, SqL.of (hp1 _), by omega, lr, fun H2 S2 => ?_⟩
      have tl := textL_len (m := 48) (rows := rows) fun x hx => (N.mem hx).2
      have big := sizeLine_eq
      have q4 : [V.str "", V.str " ", V.str "\n\n", V.str "x"] = wlist tails := by
        rw [← wlist_eq, show tails.map tx = (["", " ", "\n\n", "x"] : List Str) from by decide +kernel]
        rfl
      refine ⟨1, rfl, _, rfl, _, rfl, by rw [tx_len]; omega, (by show 4 ≤ sizeLine; decide), fun l gl => ?_⟩
      rw [q4]
      obtain ⟨y, hy, ey⟩ := pick_at tails (x := more) (n := 4) rfl (by decide)
      have T1 := fun o => same_new (o := o) gl
      refine ⟨_, rfl, _, _, rfl, rfl, m4, l, _, _, _, rfl, rfl, SqL.of upd_same, ey, ?_⟩
      have tne : textL rows ≠ [] := fun z => by
        rw [N.eq, textL_cons] at z
        exact absurd (List.append_eq_nil_iff.mp z).2 (List.cons_ne_nil _ _)
      have NT := N.cut hy
      have nl := NT.len
      rw [List.length_append] at nl
      refine ⟨tx (textL rows).dropLast, tx y, congrArg V.str (cut_last _ tne), rfl, by rw [tx_len, tx_len]; omega, ?_⟩
      rw [tx_app]
      exact k _ _ NT (fun b o z => T1 _ _ _ (S2 _ _ (S1 _ _ _ z)))
    -- a blank replaced
    refine ⟨_, rfl, _, _, rfl, rfl, m7, rfl, _, rfl, ite2 (fun e => ?_) (fun _ => ?_)⟩
    · intro l o gl
      have T1 := fun o => same_new (o := o) gl
      obtain ⟨j2, hj2, ej2⟩ := mod_nat (x := more / 61) (n := 3) (by decide)
      refine ⟨_, rfl, _, _, rfl, rfl, ⟨by decide, by decide⟩, _, _, rfl, rfl, (by show (0 : Int) < 3; decide), rfl, j2, ?_⟩
      have zs : ([("  " : Str), "\t", ""] : List Str) = ([[32, 32], [9], []] : List Name).map tx := by decide +kernel
      obtain ⟨z, hz, hz2⟩ : ∃ z : Name, ([[32, 32], [9], []] : List Name)[j2]? = some z ∧ (z = [32, 32] ∨ z = [9] ∨ z = []) := by
        match j2, hj2 with
        | 0, _ => exact ⟨_, rfl, .inl rfl⟩
        | 1, _ => exact ⟨_, rfl, .inr (.inl rfl)⟩
        | 2, _ => exact ⟨_, rfl, .inr (.inr rfl)⟩
      obtain ⟨k3, hk3, ek3⟩ := mod_nat (x := more / 183) (n := 3) (by decide)
      obtain ⟨r2, er2, B⟩ := cut_bad (k := 1 + k3) W rlen (by omega) hz2
      refine ⟨tx z, congrArg V.int ej2, (by rw [zs, List.getElem?_map, hz]; rfl), p, wlist rows, i, tx r, rfl, rfl, SqL.of (T1 _ _ _ (hp1 _)), wlist_get er, ?_⟩
      have zl : z.length ≤ 2 := by rcases hz2 with rfl | rfl | rfl <;> decide
      have r3 : 3 ≤ r.length := by
        have := W.count
        have : r.count 32 ≤ r.length := List.count_le_length ..
        omega
      refine ⟨_, rfl, _, _, rfl, rfl, ⟨by decide, by decide⟩, _, _, rfl, rfl, (by show (0 : Int) < 3; decide), _, _, rfl, rfl, rfl, 1 + k3, ?_, ?_, ?_, ?_, ?_⟩
      · refine congrArg V.int ?_
        rw [show more / 183 % 3 = (k3 : Int) from ek3]
        omega
      · rw [tx_len]
        omega
      · rcases hz2 with rfl | rfl | rfl <;> decide +kernel
      · rw [tx_len, tx_len]
        have : (r.length + 1) * z.length ≤ 49 * 2 := Nat.mul_le_mul (by omega) zl
        omega
      · rw [sp_tx, er2]
        exact fin_spoilt rfl rfl (T1 _ _ _ (hp1 _)) N hi (B _) (fun H5 R S5 r => ⟨_, rfl, r⟩) fun T H' nt S' => k T H' nt fun b o z => S' _ _ (T1 _ _ _ (S1 _ _ _ z))
    -- without the first row
    refine ⟨_, rfl, _, _, rfl, rfl, m7, rfl, _, rfl, ite2 (fun e => ?_) (fun _ => ?_)⟩
    · have hl := N.len
      refine ⟨_, rfl, ((1 : Nat) : Int), rfl, p, wlist rows, rfl, SqL.of (hp1 _), fun l gl => ?_⟩
      rw [cut_hi_l]
      have T1 := fun o => same_new (o := o) gl
      refine ⟨l, rows.drop 1, rfl, SqL.of upd_same, by rw [List.length_drop]; omega, fun x hx => by have := (N.mem (List.mem_of_mem_drop hx)).2; omega, fun H2 S2 => k _ H2 N.drop1 fun b o z => S2 _ _ (T1 _ _ _ (S1 _ _ _ z))⟩
    -- the first row again
    refine ⟨_, rfl, _, _, rfl, rfl, m7, rfl, _, rfl, ite2 (fun e => ?_) (fun _ => ?_)⟩
    · have hl := N.len
      have big := sizeLine_eq
      refine ⟨_, rfl, _, rfl, ((1 : Nat) : Int), rfl, p, wlist rows, rfl, SqL.of (hp1 _), fun l gl => ?_⟩
      rw [cut_lo_l]
      have T1 := fun o => same_new (o := o) gl
      refine ⟨p, l, wlist rows, wlist (rows.take 1), rfl, rfl, T1 _ _ _ (hp1 _), upd_same, by rw [wlist_len, wlist_len, List.length_take]; omega, fun l2 gl2 => ?_⟩
      rw [wlist_app]
      have T2 := fun o => same_new (o := o) gl2
      refine ⟨l2, rows ++ rows.take 1, rfl, SqL.of upd_same, by rw [List.length_append, List.length_take]; omega, fun x hx => ?_, fun H2 S2 => k _ H2 N.twice fun b o z => S2 _ _ (T2 _ _ _ (T1 _ _ _ (S1 _ _ _ z)))⟩
      have := (N.mem (r := x) ((List.mem_append.mp hx).elim id List.mem_of_mem_take)).2
      omega
    -- the first word of a row
    refine ⟨_, rfl, _, _, rfl, rfl, m7, rfl, _, rfl, ite2 (fun e => ?_) (fun _ => ?_)⟩
    · have q4 : [V.str "Nests", V.str "nest", V.str "", V.str "nests "] = wlist badHeads := by
        rw [← wlist_eq, ← badHeads_tx]
        rfl
      refine ⟨(by show 4 ≤ sizeLine; decide), fun l gl => ?_⟩
      rw [q4]
      obtain ⟨y, hy, ey⟩ := pick_at badHeads (x := more / 7) (n := 4) rfl (by decide)
      have T1 := fun o => same_new (o := o) gl
      refine ⟨_, rfl, _, _, rfl, rfl, ⟨by decide, by decide⟩, _, _, rfl, rfl, m4, l, _, _, _, rfl, rfl, SqL.of upd_same, ey, (by show 3 ≤ sizeLine; decide), fun l2 gl2 => ?_⟩
      have T2 := fun o => same_new (o := o) gl2
      have q3 : [V.str (tx y), V.str "-1", V.str "a"] = wlist [y, [45, 49], [97]] := by
        rw [show ("-1" : Str) = tx [45, 49] from by decide +kernel, show ("a" : Str) = tx [97] from by decide +kernel]
        rfl
      rw [q3]
      obtain ⟨g, hg, eg⟩ := mod_nat (x := more / 61) (n := 2) (by decide)
      obtain ⟨m, hm, em, mm⟩ : ∃ m : Nat, m < 3 ∧ (if 1 + more / 61 % 2 < (i : Int) then 1 + more / 61 % 2 else (i : Int)) = (m : Int) ∧ (m = 0 ↔ i = 0) := by
        have eg : more / 61 % 2 = (g : Int) := eg
        rw [eg]
        by_cases z : 1 + (g : Int) < (i : Int)
        · rw [if_pos z]
          exact ⟨1 + g, by omega, by omega, by omega⟩
        · rw [if_neg z]
          exact ⟨i, by omega, rfl, Iff.rfl⟩
      obtain ⟨w, hw⟩ : ∃ w, [y, [45, 49], [97]][m]? = some w := ⟨_, List.getElem?_eq_getElem hm⟩
      refine ⟨_, rfl, _, rfl, _, _, rfl, rfl, ⟨by decide, by decide⟩, _, _, rfl, rfl, (by show (0 : Int) < 2; decide), _, _, rfl, rfl, _, _, rfl, l2, _, (m : Int), _, rfl, congrArg V.int em, SqL.of upd_same, atI_nat (wlist_get hw), ?_⟩
      have hq2 := T2 (.lst (wlist [y, [45, 49], [97]])) _ _ (T1 (.lst (wlist badHeads)) _ _ (upd_same (H := H) (a := q) (o := .lst (wlist [a, b, n, v]))))
      refine ⟨_, rfl, q, _, _, 0, rfl, rfl, hq2, ixN_at (j := 0) (by rw [wlist_len]; exact (by decide : 0 < 4)), ?_⟩
      rw [wlist_set]
      have S3 : ∀ o, Same H (upd (upd (upd (upd H q (.lst (wlist [a, b, n, v]))) l (.lst (wlist badHeads))) l2 (.lst (wlist [y, [45, 49], [97]]))) q o) := fun o => same_mut (fun b o z => T2 _ _ _ (T1 _ _ _ (S1 _ _ _ z))) hq
      have bw : (10 ∉ w ∧ (∀ c ∈ w, c < 256) ∧ w.length ≤ 12) ∧ (i = 0 → w ≠ nestsL) ∧ (i ≠ 0 → numF w = none) := by
        match m, hm, hw, mm with
        | 0, _, hw, mm =>
          obtain rfl : y = w := Option.some.inj hw
          obtain ⟨h1, h2⟩ := bad_head hy
          exact ⟨h2, fun _ => h1, fun z => absurd (mm.mp rfl) z⟩
        | 1, _, hw, mm =>
          obtain rfl : [45, 49] = w := Option.some.inj hw
          exact ⟨by decide, fun z => absurd (mm.mpr z) (by decide), fun _ => by decide +kernel⟩
        | 2, _, hw, mm =>
          obtain rfl : [97] = w := Option.some.inj hw
          exact ⟨by decide, fun z => absurd (mm.mpr z) (by decide), fun _ => by decide +kernel⟩
      obtain ⟨b1, b2, b3⟩ := bw
      have B : BadRow (i = 0) (TL.joinL [32] ([a, b, n, v].set 0 w)) := by
        by_cases i0 : i = 0
        · rw [w0 i0]
          exact wordH_bad N.hd i0 (by decide) b1 (fun _ _ => b2 i0) (fun z => absurd rfl z)
        · obtain ⟨x, hx, ex⟩ := w1 i0
          rw [ex]
          exact wordT_bad (N.ok x hx) i0 (by decide) b1 (fun _ => b3 i0) (fun z => absurd z (by decide)) fun z => absurd z (by decide)
      refine fin_spoilt rfl rfl (S3 _ _ _ hp) N hi B (fun H5 R S5 r => fin_join (ws := [a, b, n, v].set 0 w) rfl upd_same ?_ ?_ S5 r) fun T H' nt S' => k T H' nt ((S3 _).trans S')
      · exact fun x hx => (fine3 fw b1 x hx).2.2
      · rw [List.length_set]
        rfl
    -- a row that is none
    have big := sizeLine_eq
    have rz2 : (tx r).length + (" " : Str).length ≤ sizeLine := by
      rw [tx_len]
      have : (" " : Str).length = 1 := rfl
      omega
    have rz3 : (" " : Str).length + (tx r).length ≤ sizeLine := by omega
    refine ⟨_, rfl, _, rfl, p, _, _, _, rfl, rfl, SqL.of (hp1 _), atI_nat (wlist_get er), _, _, rfl, rfl, rz2, ?_⟩
    refine ⟨_, rfl, _, rfl, p, _, _, _, rfl, rfl, SqL.of (hp1 _), atI_nat (wlist_get er), _, _, rfl, rfl, rz3, (by show 4 ≤ sizeLine; decide), fun l gl => ?_⟩
    have q4 : [V.str "", V.str " ", V.str (tx r ++ " "), V.str (" " ++ tx r)] = wlist [[], [32], r ++ [32], [32] ++ r] := by
      rw [nil_tx, sp_tx, tx_app, tx_app]
      rfl
    rw [q4]
    obtain ⟨y, hy, ey⟩ := pick_at [[], [32], r ++ [32], [32] ++ r] (x := more / 61) (n := 4) rfl (by decide)
    have T1 := fun o => same_new (o := o) gl
    refine ⟨_, rfl, _, _, rfl, rfl, ⟨by decide, by decide⟩, _, _, rfl, rfl, m4, l, _, _, _, rfl, rfl, SqL.of upd_same, ey, ?_⟩
    have c3 := W.count
    have B : BadRow (i = 0) y := by
      simp only [List.mem_cons, List.not_mem_nil, or_false] at hy
      have nl := W.nl
      have ch := W.ch
      rcases hy with rfl | rfl | rfl | rfl
      · exact bad_count (by decide) (by decide) (by decide) (by decide)
      · exact bad_count (by decide) (by decide) (by decide) (by decide)
      · refine bad_count (by rw [List.count_append, c3]; decide) (fun z => ?_) (fun x hx => ?_) (by rw [List.length_append, List.length_singleton]; omega)
        · rcases List.mem_append.mp z with z | z
          · exact nl z
          · cases List.mem_singleton.mp z
        · rcases List.mem_append.mp hx with z | z
          · exact ch x z
          · rw [List.mem_singleton.mp z]
            decide
      · refine bad_count (by rw [List.count_append, c3]; decide) (fun z => ?_) (fun x hx => ?_) (by rw [List.length_append, List.length_singleton]; omega)
        · rcases List.mem_append.mp z with z | z
          · cases List.mem_singleton.mp z
          · exact nl z
        · rcases List.mem_append.mp hx with z | z
          · rw [List.mem_singleton.mp z]
            decide
          · exact ch x z
    exact fin_spoilt rfl rfl (T1 _ _ _ (hp1 _)) N hi B (fun H5 R S5 r => ⟨_, rfl, r⟩) fun T H' nt S' => k T H' nt fun b o z => S' _ _ (T1 _ _ _ (S1 _ _ _ z))
end

end K11

namespace K11
open PySem L2 Ck TS2 TX TB
/-! notes, well formed, that are refused -/
structure Loose (w : Name) : Prop where
  sp : 32 ∉ w
  nl : 10 ∉ w
  ch : ∀ c ∈ w, c < 256
theorem Fine.loose {w : Name} (h : Fine w) : Loose w := ⟨h.sp, h.nl, h.ch⟩
/-- a row that can be read -/
structure Readable (r : Name) (x : Thng) : Prop where
  nl : 10 ∉ r
  ch : ∀ c ∈ r, c < 256
  th : thingF (cutsAt 32 r) = some x
theorem readable {a b n v : Name} {x : Thng} (ha : Loose a) (hb : Loose b) (hn : Loose n) (hv : Loose v) (e : thingF [a, b, n, v] = some x) : Readable (TL.joinL [32] [a, b, n, v]) x := by
  have mem : ∀ w ∈ [a, b, n, v], Loose w := fun w hw => by
    simp only [List.mem_cons, List.not_mem_nil, or_false] at hw
    rcases hw with rfl | rfl | rfl | rfl <;> assumption
  refine ⟨fun z => ?_, fun y z => ?_, ?_⟩
  · rcases mem_join4 z with z | z | z | z | z
    · cases z
    · exact ha.nl z
    · exact hb.nl z
    · exact hn.nl z
    · exact hv.nl z
  · rcases mem_join4 z with z | z | z | z | z
    · omega
    · exact ha.ch y z
    · exact hb.ch y z
    · exact hn.ch y z
    · exact hv.ch y z
  · rw [cuts_join (List.cons_ne_nil _ _) fun w hw => (mem w hw).sp]
    exact e
theorem thing_is {a b n v : Name} {x y z : Int} (h : n ≠ []) (hv : valF v = some z) (ha : numF a = some x) (hb : numF b = some y) : thingF [a, b, n, v] = some (n, z, (x, y)) := by
  show (if n = [] then none else (valF v).bind fun z => (numF a).bind fun x => (numF b).map fun y => (n, z, (x, y))) = _
  rw [if_neg h, hv, ha, hb]
  rfl
def Wrong (A : Ad) (rows : List Name) (key : Str) : Prop := ∃ (h : Name) (rest : List Name) (c t1 t2 : Int) (ths : List Thng), rows = h :: rest ∧ headF (cutsAt 32 h) = some (c, t1, t2) ∧ allF (rest.map (cutsAt 32)) = some ths ∧ (∀ r ∈ rows, 10 ∉ r ∧ ∀ x ∈ r, x < 256) ∧ ((textL rows).length ≤ 779 ∧ rows.length ≤ 17 ∧ ∀ r ∈ rows, r.length ≤ 100) ∧
  ((¬ M.GoodC c t1 t2 ∧ key = "nests") ∨ (M.GoodC c t1 t2 ∧ ∃ (i : Nat) (hi : i < ths.length) (D : Addr), Goods c t1 t2 (ths.take i) ∧ BadPut A c t1 t2 (heldOf (ths.take i)) ths[i] D ∧ KindIs A D key))
theorem Note.heads {rows : List Name} {c t1 t2 : Int} {ths : List Thng} (h : Note rows c t1 t2 ths) : headF (cutsAt 32 (headT c t1 t2)) = some (c, t1, t2) ∧ allF ((ths.map rowOf).map (cutsAt 32)) = some ths := by
  refine ⟨by rw [h.hd.row.cuts]; exact h.hd.head, ?_⟩
  rw [List.map_map]
  have e := allF_map (l := ths) (f := cutsAt 32 ∘ rowOf) (g := id) fun x hx => by
    show thingF (cutsAt 32 (rowOf x)) = some x
    rw [(h.ok x hx).row.cuts]
    exact (h.ok x hx).thing
  rw [List.map_id] at e
  exact e
theorem Note.text_len {rows : List Name} {c t1 t2 : Int} {ths : List Thng} (h : Note rows c t1 t2 ths) : (textL rows).length ≤ 728 := by
  have e := textL_len (m := 48) (rows := ths.map rowOf) fun x hx => (h.mem (by rw [h.eq]; exact List.mem_cons_of_mem _ hx)).2
  have z := h.hd.len
  have l := h.len
  rw [List.length_map] at e
  rw [h.eq, textL_cons, List.length_append, List.length_cons]
  omega
theorem Note.row_ok {rows : List Name} {c t1 t2 : Int} {ths : List Thng} (h : Note rows c t1 t2 ths) : ∀ r ∈ rows, 10 ∉ r ∧ ∀ x ∈ r, x < 256 := fun r hr => by
  obtain ⟨⟨ws, q⟩, _⟩ := h.mem hr
  exact ⟨q.nl, q.ch⟩
theorem textL_one (r : Name) : (textL [r]).length = r.length + 1 := by
  rw [textL_cons, List.length_append, List.length_cons]
  rfl
/-- one row more, that can't be put -/
theorem wrong_add {A : Ad} {rows : List Name} {c t1 t2 : Int} {ths : List Thng} {r : Name} {x : Thng} {D : Addr} {key : Str} (N : Note rows c t1 t2 ths) (G : Goods c t1 t2 ths) (gc : M.GoodC c t1 t2) (R : Readable r x) (rl : r.length ≤ 50) (B : BadPut A c t1 t2 (heldOf ths) x D) (KI : KindIs A D key) : Wrong A (rows ++ [r]) key := by
  obtain ⟨h1, h2⟩ := N.heads
  have l1 := N.text_len
  have l2 := N.rl
  have l3 := N.len
  have e1 : (ths ++ [x]).take ths.length = ths := by rw [List.take_left' rfl]
  have e2 : (ths ++ [x])[ths.length]'(by simp) = x := by simp
  refine ⟨headT c t1 t2, ths.map rowOf ++ [r], c, t1, t2, ths ++ [x], by rw [N.eq]; rfl, h1, ?_, fun y hy => ?_, ⟨?_, ?_, fun y hy => ?_⟩, .inr ⟨gc, ths.length, by simp, D, ?_, ?_, KI⟩⟩
  · rw [List.map_append]
    refine allF_app h2 ?_
    show (thingF (cutsAt 32 r)).bind _ = _
    rw [R.th]
    rfl
  · rcases List.mem_append.mp hy with z | z
    · exact N.row_ok y z
    · rw [List.mem_singleton.mp z]
      exact ⟨R.nl, R.ch⟩
  · rw [textL_app, List.length_append, textL_one]
    omega
  · rw [List.length_append, List.length_singleton]
    omega
  · rcases List.mem_append.mp hy with z | z
    · have := (N.mem z).2
      omega
    · rw [List.mem_singleton.mp z]
      omega
  · rw [e1]
    exact G
  · rw [e1, e2]
    exact B
/-- another first row -/
theorem wrong_head {A : Ad} {rows : List Name} {c t1 t2 : Int} {ths : List Thng} {x y z : Int} (N : Note rows c t1 t2 ths) (i : (0 ≤ x ∧ x < 10000000000) ∧ (0 ≤ y ∧ y < 10000000000) ∧ 0 ≤ z ∧ z < 10000000000) (g : ¬ M.GoodC x y z) : Wrong A (TL.joinL [32] [nestsL, decL x, decL y, decL z] :: rows.drop 1) "nests" := by
  obtain ⟨⟨x0, x1⟩, ⟨y0, y1⟩, z0, z1⟩ := i
  obtain ⟨_, h2⟩ := N.heads
  have fx := (fine_dec (v := x) (by omega) x1).loose
  have fy := (fine_dec (v := y) (by omega) y1).loose
  have fz := (fine_dec (v := z) (by omega) z1).loose
  have fn : Loose nestsL := ⟨by decide, by decide, by decide⟩
  have hl : (TL.joinL [32] [nestsL, decL x, decL y, decL z]).length ≤ 41 := by
    rw [len_join4]
    have d1 := dec_len (v := x) (by omega) x1
    have d2 := dec_len (v := y) (by omega) y1
    have d3 := dec_len (v := z) (by omega) z1
    have d4 : nestsL.length = 5 := rfl
    omega
  have ed : rows.drop 1 = ths.map rowOf := by rw [N.eq]; rfl
  have tl := textL_len (m := 48) (rows := ths.map rowOf) fun x hx => (N.mem (by rw [N.eq]; exact List.mem_cons_of_mem _ hx)).2
  have l3 := N.len
  rw [List.length_map] at tl
  rw [ed]
  refine ⟨_, ths.map rowOf, x, y, z, ths, rfl, ?_, h2, fun r hr => ?_, ⟨?_, ?_, fun r hr => ?_⟩, .inl ⟨g, rfl⟩⟩
  · rw [cuts_join (List.cons_ne_nil _ _) fun w hw => by
      simp only [List.mem_cons, List.not_mem_nil, or_false] at hw
      rcases hw with rfl | rfl | rfl | rfl
      · exact fn.sp
      · exact fx.sp
      · exact fy.sp
      · exact fz.sp]
    show (if nestsL = nestsL then (numF (decL x)).bind fun x => (numF (decL y)).bind fun y => (numF (decL z)).map fun z => (x, y, z) else none) = _
    rw [if_pos rfl, num_of_dec x0 x1, num_of_dec y0 y1, num_of_dec z0 z1]
    rfl
  · rcases List.mem_cons.mp hr with rfl | hr
    · refine ⟨fun q => ?_, fun y q => ?_⟩
      · rcases mem_join4 q with q | q | q | q | q
        · cases q
        · exact fn.nl q
        · exact fx.nl q
        · exact fy.nl q
        · exact fz.nl q
      · rcases mem_join4 q with q | q | q | q | q
        · omega
        · exact fn.ch _ q
        · exact fx.ch _ q
        · exact fy.ch _ q
        · exact fz.ch _ q
    · exact N.row_ok r (by rw [N.eq]; exact List.mem_cons_of_mem _ hr)
  · rw [textL_cons, List.length_append, List.length_cons]
    omega
  · rw [List.length_cons, List.length_map]
    omega
  · rcases List.mem_cons.mp hr with rfl | hr
    · omega
    · have := (N.mem (r := r) (by rw [N.eq]; exact List.mem_cons_of_mem _ hr)).2
      omega
/-- a name twice, alone -/
theorem wrong_two {A : Ad} {c t1 t2 : Int} {n : Name} {s : Seat} {rows : List Name} (N : Note rows c t1 t2 []) (gc : M.GoodC c t1 t2) (hn : NameOk n) (hs : s = seatP (hmN c t1 t2 n) 0) : Wrong A [headT c t1 t2, rowOf (n, 1, s), rowOf (n, 2, (9, 9))] "twice" := by
  obtain ⟨h1, _⟩ := N.heads
  obtain ⟨g0, g1, _⟩ := id gc
  have i0 := (hmN_in (t1 := t1) (t2 := t2) (show 0 < c by omega) n).1
  have o1 : ThOk (n, 1, s) := by
    rw [hs]
    exact ⟨hn, ⟨by show (-1000000000 : Int) ≤ 1; decide, by show (1 : Int) ≤ 1000000000; decide⟩, by show (0 : Int) ≤ 0; decide, by show (0 : Int) ≤ 1; decide, i0.1, Int.lt_of_lt_of_le i0.2 g1⟩
  have o2 : ThOk (n, 2, (9, 9)) → True := fun _ => trivial
  have r1 := o1.row
  have f9 : Loose [57] := ⟨by decide, by decide, by decide⟩
  have R2 : Readable (rowOf (n, 2, (9, 9))) (n, 2, (9, 9)) := readable (a := decL 9) (b := decL 9) (v := decL 2) (fine_dec (by decide) (by decide)).loose (fine_dec (by decide) (by decide)).loose (fine_name hn).loose (fine_dec (by decide) (by decide)).loose (thing_is hn.ne (val_dec (by decide) (by decide)) (num_of_dec (by decide) (by decide)) (num_of_dec (by decide) (by decide)))
  have l2 : (rowOf (n, 2, (9, 9))).length ≤ 48 := by
    show (TL.joinL [32] [decL 9, decL 9, n, decL 2]).length ≤ 48
    rw [len_join4]
    have d1 := dec_len (v := 9) (by decide) (by decide)
    have d2 := dec_len (v := 2) (by decide) (by decide)
    have := hn.len
    omega
  have lh := N.hd.len
  have l1 := o1.len
  refine ⟨_, [rowOf (n, 1, s), rowOf (n, 2, (9, 9))], c, t1, t2, [(n, 1, s), (n, 2, (9, 9))], rfl, h1, ?_, fun r hr => ?_, ⟨?_, (by show 3 ≤ 17; decide), fun r hr => ?_⟩, .inr ⟨gc, 1, (by show 1 < 2; decide), A.c_Twice, ?_, ?_, .inr (.inr (.inr (.inr (.inr (.inr (.inl ⟨rfl, rfl⟩))))))⟩⟩
  · show (thingF (cutsAt 32 (rowOf (n, 1, s)))).bind (fun x => ((thingF (cutsAt 32 (rowOf (n, 2, (9, 9))))).bind fun y => some [y]).map fun t => x :: t) = _
    rw [r1.cuts, o1.thing, R2.th]
    rfl
  · simp only [List.mem_cons, List.not_mem_nil, or_false] at hr
    rcases hr with rfl | rfl | rfl
    · exact ⟨N.hd.row.nl, N.hd.row.ch⟩
    · exact ⟨r1.nl, r1.ch⟩
    · exact ⟨R2.nl, R2.ch⟩
  · rw [textL_cons, textL_cons, List.length_append, List.length_cons, List.length_append, List.length_cons, textL_one]
    omega
  · simp only [List.mem_cons, List.not_mem_nil, or_false] at hr
    rcases hr with rfl | rfl | rfl <;> omega
  · intro j hj
    obtain rfl : j = 0 := by
      have : j < 1 := hj
      omega
    exact ⟨hn, o1.val, (by intro z; cases z), .inl hs, rfl⟩
  · exact .twice n 2 (9, 9) hn ⟨by decide, by decide⟩ (by show n ∈ [n]; exact List.mem_cons_self ..)
theorem home_else {c t1 t2 : Int} {n : Name} {r d : Int} (hc : 1 < c) (hr : r = 0 ∨ r = 1) (d0 : 0 ≤ d) (d1 : d < c - 1) : InT c (r, ((seatP (hmN c t1 t2 n) r).2 + 1 + d) % c) ∧ ¬ ((r, ((seatP (hmN c t1 t2 n) r).2 + 1 + d) % c) = seatP (hmN c t1 t2 n) 0 ∨ (r, ((seatP (hmN c t1 t2 n) r).2 + 1 + d) % c) = seatP (hmN c t1 t2 n) 1) := by
  have i := (home_in (t1 := t1) (t2 := t2) (show 1 ≤ c by omega) n hr).2
  generalize eh : (seatP (hmN c t1 t2 n) r).2 = g at i
  have m0 : 0 ≤ (g + 1 + d) % c := Int.emod_nonneg _ (by omega)
  have m1 : (g + 1 + d) % c < c := Int.emod_lt_of_pos _ (by omega)
  have ne : (g + 1 + d) % c ≠ g := fun z => by
    by_cases q : g + 1 + d < c
    · rw [Int.emod_eq_of_lt (by omega) q] at z
      omega
    · rw [← Int.sub_emod_right, Int.emod_eq_of_lt (by omega) (by omega)] at z
      omega
  refine ⟨⟨hr, m0, m1⟩, fun z => ?_⟩
  have same : ∀ q : Int, (r, (g + 1 + d) % c) = seatP (hmN c t1 t2 n) q → False := fun q z => by
    have z1 : r = q := congrArg Prod.fst z
    have z2 : (g + 1 + d) % c = (seatP (hmN c t1 t2 n) q).2 := congrArg Prod.snd z
    rw [← z1, eh] at z2
    exact ne z2
  rcases z with z | z
  · exact same 0 z
  · exact same 1 z
/-! a text in a text -/
theorem join_has {r : Name} : ∀ {rows : List Name}, r ∈ rows → ∃ p s : Name, TL.joinL [32] rows = p ++ r ++ s
  | [x], h => by
    rw [List.mem_singleton.mp h]
    exact ⟨[], [], (List.append_nil _).symm⟩
  | x :: y :: l, h => by
    have e : TL.joinL [32] (x :: y :: l) = x ++ ([32] ++ TL.joinL [32] (y :: l)) := rfl
    rcases List.mem_cons.mp h with z | z
    · rw [e, z]
      exact ⟨[], _, rfl⟩
    · obtain ⟨p, s, q⟩ := join_has z
      rw [e, q]
      exact ⟨x ++ ([32] ++ p), s, by simp⟩
theorem found_in {p y s : Name} : (!(Builtin.Str.occurrences (tx (p ++ y ++ s)) (tx y) 0 (tx (p ++ y ++ s)).length 1).isEmpty) = true := by
  refine (StrLaws.found_iff _ _).mpr ⟨p.length, ?_, ?_⟩
  · rw [tx_len, tx_len, List.length_append, List.length_append]
    omega
  · rw [StrLaws.subAt_eq, tx_len]
    have e : ((tx (p ++ y ++ s)).cps.toList.drop p.length).take y.length = y := by
      show ((p ++ y ++ s).drop p.length).take y.length = y
      rw [List.append_assoc, List.drop_left' rfl, List.take_left' rfl]
    rw [e]
    exact beq_self_eq_true _
theorem name_in {rows : List Name} {c t1 t2 : Int} {ths : List Thng} (h : Note rows c t1 t2 ths) {x : Thng} (hx : x ∈ ths) : (!(Builtin.Str.occurrences (tx (TL.joinL [32] rows)) (tx ([32] ++ x.1 ++ [32])) 0 (tx (TL.joinL [32] rows)).length 1).isEmpty) = true := by
  obtain ⟨p, s, e⟩ := join_has (r := rowOf x) (rows := rows) (by rw [h.eq]; exact List.mem_cons_of_mem _ (List.mem_map.mpr ⟨x, hx, rfl⟩))
  have e2 : rowOf x = (decL x.2.2.1 ++ 32 :: decL x.2.2.2) ++ ([32] ++ x.1 ++ [32]) ++ decL x.2.1 := by
    show TL.joinL [32] [decL x.2.2.1, decL x.2.2.2, x.1, decL x.2.1] = _
    rw [join4]
    simp
  have e3 : TL.joinL [32] rows = (p ++ (decL x.2.2.1 ++ 32 :: decL x.2.2.2)) ++ ([32] ++ x.1 ++ [32]) ++ (decL x.2.1 ++ s) := by
    rw [e, e2]
    simp
  rw [e3]
  exact found_in

end K11

namespace K11
open PySem L2 Ck TS2 TX TB
/-! which rows the law puts otherwise -/
theorem fin_other {A : Ad} {tX : TE} {σ : L2.St} {H0 : Hp} {Q : VK} {p : Addr} {rows : List Name} {r : Name} {key : Str} (s0 : σ[0]? = some (some (.ref p))) (hp : H0 p = some (.lst (wlist rows))) (len : rows.length ≤ 20) (W : Wrong A (rows ++ [r]) key)
    (hX : ∀ (R : VK), (∀ H2, Same H0 H2 → R (.str (tx r)) H2) → tX σ H0 R) (k : ∀ H' q l rows', Same H0 H' → H' q = some (.tup [.ref l, .str key]) → H' l = some (.lst (wlist rows')) → Wrong A rows' key → Q (.ref q) H') :
    tTup (tCons (tOp L2.rCat (tVar 0) (tLst (tCons tX tNil))) (tCons (tC (.str key)) tNil)) σ H0 Q := by
  have big := sizeLine_eq
  refine ⟨_, s0, hX _ fun H2 S2 => ⟨(by show 1 ≤ sizeLine; decide), fun q2 g2 => ?_⟩⟩
  have T2 := fun o => same_new (o := o) g2
  have e1 : (wlist [r]).length = 1 := rfl
  refine ⟨p, q2, wlist rows, wlist [r], rfl, rfl, T2 _ _ _ (S2 _ _ hp), upd_same, by rw [wlist_len]; omega, fun q3 g3 => ?_⟩
  rw [wlist_app]
  have T3 := fun o => same_new (o := o) g3
  refine ⟨(by show 2 ≤ sizeLine; decide), fun q4 g4 => ?_⟩
  have T4 := fun o => same_new (o := o) g4
  exact k _ q4 q3 _ (fun b o z => T4 _ _ _ (T3 _ _ _ (T2 _ _ _ (S2 _ _ z)))) upd_same (T4 _ _ _ upd_same) W
theorem dec0 : decL 0 = [48] := by decide +kernel
theorem dec1 : decL 1 = [49] := by decide +kernel
theorem words_one (n : Name) (p : Int × Int) : wordsT (n, 1, seatP p 0) = [[48], decL (seatP p 0).2, n, [49]] := by
  show [decL 0, decL (seatP p 0).2, n, decL 1] = _
  rw [dec0, dec1]
theorem int_dec {v : Int} (h0 : 0 ≤ v) (h1 : v < 10000000000) : PySem.intText? (tx (decL v)) = some v ∧ (tx (decL v)).length ≤ 640 := by
  obtain ⟨n, rfl⟩ : ∃ n : Nat, v = (n : Int) := ⟨v.toNat, by omega⟩
  have l := TL.numL_len (n := n) (k := 10) (by decide) (by omega)
  rw [dec_nat, int_of (TL.numL_ne n) l (num_figs n), TL.numL_val, tx_len]
  exact ⟨rfl, by omega⟩
theorem join_bd {ws : List Name} (l : ∀ w ∈ ws, w.length ≤ 12) (l4 : ws.length = 4) : ((ws.map tx).map (·.length)).sum + (ws.map tx).length * (" " : Str).length ≤ 16777216 := by
  have sm := sums l
  rw [l4] at sm
  have e0 : (" " : Str).length = 1 := rfl
  rw [e0, List.length_map, l4]
  omega
theorem join_at {K : PySem.W.Frag} {H : Hp} {q : Addr} {ws : List Name} (h : H q = some (.lst (wlist ws))) : SqL K H q ((ws.map tx).map V.str) ∨ SqT K H q ((ws.map tx).map V.str) := .inl (SqL.of (by rw [wlist_eq]; exact h))
theorem fine4 {a b n v : Name} (ha : Fine a) (hb : Fine b) (hn : Fine n) (hv : Fine v) : ∀ w ∈ [a, b, n, v], w.length ≤ 12 := fun w hw => by
  simp only [List.mem_cons, List.not_mem_nil, or_false] at hw
  rcases hw with rfl | rfl | rfl | rfl
  · exact ha.len
  · exact hb.len
  · exact hn.len
  · exact hv.len
def sp__law_other (A : Ad) : Sp := fun vs H Q _ => ∃ (p tt hd : Addr) (nz : Name) (cell more : Int) (rows : List Name) (c t1 t2 : Int) (ths : List Thng) (nm : List Name), vs = [.ref p, .ref tt, .ref hd, .str (tx nz), .int cell, .int more] ∧ H p = some (.lst (wlist rows)) ∧ Note rows c t1 t2 ths ∧ Goods c t1 t2 ths ∧ M.GoodC c t1 t2 ∧
  H tt = some (.tup [.int c, .int t1, .int t2]) ∧ HomesAt H hd nm (hmN c t1 t2) ∧ KeysIn H hd nm ∧ (∀ n ∈ nm, NameOk n) ∧ nz ∈ nm ∧ nz ∉ ths.map (·.1) ∧ nm.length ≤ 60 ∧
  ∀ H' q l rows' key, Same H H' → H' q = some (.tup [.ref l, .str key]) → H' l = some (.lst (wlist rows')) → Wrong A rows' key → Q (.ref q) H'
theorem held_map (ths : List Thng) : (heldOf ths).map (·.2) = ths.map (·.1) := by
  unfold heldOf
  rw [List.map_map]
  rfl
def badN : List Name := [[65], [97, 98, 99, 100, 101, 102, 103, 104, 105, 106, 107, 108, 48], [97, 95, 98], [97, 46]]
theorem badN_tx : (["A", "abcdefghijkl0", "a_b", "a."] : List Str) = badN.map tx := by decide +kernel
theorem badN_no {w : Name} (h : w ∈ badN) : ¬ NameOk w ∧ Loose w ∧ w ≠ [] ∧ w.length ≤ 13 := by
  have z : ∀ w ∈ badN, TX.isN w = false ∧ (32 ∉ w ∧ 10 ∉ w ∧ ∀ c ∈ w, c < 256) ∧ w ≠ [] ∧ w.length ≤ 13 := by decide +kernel
  obtain ⟨a, ⟨b1, b2, b3⟩, c, d⟩ := z w h
  exact ⟨fun q => (by rw [q.isN] at a; cases a), ⟨b1, b2, b3⟩, c, d⟩
def badV : List Name := [[49, 48, 48, 48, 48, 48, 48, 48, 48, 49], [45, 49, 48, 48, 48, 48, 48, 48, 48, 48, 49], [57, 57, 57, 57, 57, 57, 57, 57, 57, 57]]
theorem badV_tx : (["1000000001", "-1000000001", "9999999999"] : List Str) = badV.map tx := by decide +kernel
theorem badV_no {w : Name} (h : w ∈ badV) : (∃ v, valF w = some v ∧ ¬ M.VOk v) ∧ Loose w ∧ w.length ≤ 11 := by
  have z : ∀ w ∈ badV, (valF w = some 1000000001 ∨ valF w = some (-1000000001) ∨ valF w = some 9999999999) ∧ (32 ∉ w ∧ 10 ∉ w ∧ ∀ c ∈ w, c < 256) ∧ w.length ≤ 11 := by decide +kernel
  obtain ⟨a, ⟨b1, b2, b3⟩, c⟩ := z w h
  refine ⟨?_, ⟨b1, b2, b3⟩, c⟩
  rcases a with a | a | a
  · exact ⟨_, a, fun q => absurd q.2 (by decide)⟩
  · exact ⟨_, a, fun q => absurd q.1 (by decide)⟩
  · exact ⟨_, a, fun q => absurd q.2 (by decide)⟩
section
variable {P : Program} {w : World} {K : PySem.W.Frag} {mg : Str → Option Value} {base : Heap} {A : Ad}
theorem ok__law_other (T : Tx K mg A) : FnOk P w K mg base CX0 1 A.a__law_other A.d__law_other ["_law_rows_here", "_law_told_here", "_law_homes_here", "_law_name", "_law_cell", "_law_more"] (sp__law_other A) := by
  refine T.F__law_other.ok sc__law_other (fun vs H Q E h => ?_) (fun cdv Ar outer s H vs Q E hr h => ?_)
  · obtain ⟨p, tt, hd, nz, cell, more, rows, c, t1, t2, ths, nm, rfl, _⟩ := h
    rfl
  · obtain ⟨p, tt, hd, nz, cell, more, rows, c, t1, t2, ths, nm, rfl, hp, N, G, gc, htt, hho, hke, hnm, hnz, hnew, hnl, k⟩ := h
    refine ⟨_, 
      (pss_cons (ps_set (i := 6) sc__law_other.nd rfl (Or.inl rfl) (pe_ix (r := rIxL K) ix_list (pv 0) pe_int (fun _ _ => rfl)))
      (pss_cons (ps_if (pt_cmpR op_eq (pe_op op_mod (pv 4) pe_int) pe_int (nomark _)) 
        (pss_cons (ps_set (i := 7) sc__law_other.nd rfl (Or.inl rfl) (pe_ix (r := rIxL K) ix_list (pe_lst (pa_cons (pe_tup (pa_cons pe_int (pa_cons pe_int (pa_cons pe_int pa_nil)))) (pa_cons (pe_tup (pa_cons pe_int (pa_cons pe_int (pa_cons pe_int pa_nil)))) (pa_cons (pe_tup (pa_cons pe_int (pa_cons pe_int (pa_cons pe_int pa_nil)))) (pa_cons (pe_tup (pa_cons pe_int (pa_cons pe_int (pa_cons pe_int pa_nil)))) (pa_cons (pe_tup (pa_cons pe_int (pa_cons pe_int (pa_cons pe_int pa_nil)))) pa_nil)))))) (pe_op op_mod (pv 5) pe_int) (fun _ _ => rfl)))
        (pss_cons (ps_set (i := 8) sc__law_other.nd rfl (Or.inl rfl) (pe_lst (pa_cons pe_str (pa_cons (pe_callTy call_str_int (by rfl) T.m_str (by decide +kernel) (pa_cons (pe_ix (r := rIxT K) ix_tup (pv 7) pe_int (fun _ _ => rfl)) pa_nil)) (pa_cons (pe_callTy call_str_int (by rfl) T.m_str (by decide +kernel) (pa_cons (pe_ix (r := rIxT K) ix_tup (pv 7) pe_int (fun _ _ => rfl)) pa_nil)) (pa_cons (pe_callTy call_str_int (by rfl) T.m_str (by decide +kernel) (pa_cons (pe_ix (r := rIxT K) ix_tup (pv 7) pe_int (fun _ _ => rfl)) pa_nil)) pa_nil))))))
        (pss_one (ps_ret (pe_tup (pa_cons (pe_op op_cat (pe_lst (pa_cons (pe_m1 PySem.F.slot_str_join PySem.F.type_str_join mt_join pe_str (pv 8)) pa_nil)) (pe_slice sl_list (pv 0) (po_some pe_int) po_none)) (pa_cons pe_str pa_nil))))))) pss_nil)
      (pss_cons (ps_if (pt_cmpR op_eq (pe_op op_mod (pv 4) pe_int) pe_int (nomark _)) 
        (pss_one (ps_ret (pe_tup (pa_cons (pe_op op_cat (pv 0) (pe_lst (pa_cons (pe_op op_add_str (pe_op op_add_str pe_str (pe_ix (r := rIxL K) ix_list (pe_lst (pa_cons pe_str (pa_cons pe_str (pa_cons pe_str (pa_cons pe_str pa_nil))))) (pe_op op_mod (pv 5) pe_int) (fun _ _ => rfl))) pe_str) pa_nil))) (pa_cons pe_str pa_nil))))) pss_nil)
      (pss_cons (ps_if (pt_cmpR op_eq (pe_op op_mod (pv 4) pe_int) pe_int (nomark _)) 
        (pss_one (ps_ret (pe_tup (pa_cons (pe_op op_cat (pv 0) (pe_lst (pa_cons (pe_op op_add_str (pe_op op_add_str (pe_op op_add_str pe_str (pv 3)) pe_str) (pe_ix (r := rIxL K) ix_list (pe_lst (pa_cons pe_str (pa_cons pe_str (pa_cons pe_str pa_nil)))) (pe_op op_mod (pv 5) pe_int) (fun _ _ => rfl))) pa_nil))) (pa_cons pe_str pa_nil))))) pss_nil)
      (pss_cons (ps_if (pt_cmpR op_eq (pe_op op_mod (pv 4) pe_int) pe_int (nomark _)) 
        (pss_cons (ps_set (i := 8) sc__law_other.nd rfl (Or.inl rfl) (pe_lst (pa_cons (pe_ix (r := rIxL K) ix_list (pe_lst (pa_cons pe_str (pa_cons pe_str (pa_cons pe_str pa_nil)))) (pe_op op_mod (pv 5) pe_int) (fun _ _ => rfl)) (pa_cons (pe_callTy call_str_int (by rfl) T.m_str (by decide +kernel) (pa_cons (pe_ix (r := rIxL K) ix_list (pe_lst (pa_cons pe_int (pa_cons (pe_ix (r := rIxT K) ix_tup (pv 1) pe_int (fun _ _ => rfl)) (pa_cons (pe_op op_add (pe_ix (r := rIxT K) ix_tup (pv 1) pe_int (fun _ _ => rfl)) pe_int) pa_nil)))) (pe_op op_mod (pv 5) pe_int) (fun _ _ => rfl)) pa_nil)) (pa_cons (pv 3) (pa_cons pe_str pa_nil))))))
        (pss_one (ps_ret (pe_tup (pa_cons (pe_op op_cat (pv 0) (pe_lst (pa_cons (pe_m1 PySem.F.slot_str_join PySem.F.type_str_join mt_join pe_str (pv 8)) pa_nil))) (pa_cons pe_str pa_nil)))))) pss_nil)
      (C8.pss_cut (ps_if (PW.pt (pw_and (pt_cmpR op_eq (pe_op op_mod (pv 4) pe_int) pe_int (nomark _)) (pw_and1 (pt_cmpR op_gt (pe_ix (r := rIxT K) ix_tup (pv 1) pe_int (fun _ _ => rfl)) pe_int (nomark _))))) 
        (pss_cons (ps_set (i := 9) sc__law_other.nd rfl (Or.inl rfl) (pe_ix (r := rIxT K) ix_tup (pe_dget (hu_of hr) (pv 2) (pv 3) (fun _ _ => rfl)) (pe_op op_mod (pv 5) pe_int) (fun _ _ => rfl)))
        (pss_cons (ps_set (i := 10) sc__law_other.nd rfl (Or.inl rfl) (pe_op op_mod (pe_op op_add (pe_op op_add (pe_ix (r := rIxT K) ix_tup (pv 9) pe_int (fun _ _ => rfl)) pe_int) (pe_op op_mod (pe_op op_fdiv (pv 5) pe_int) (pe_op op_sub (pe_ix (r := rIxT K) ix_tup (pv 1) pe_int (fun _ _ => rfl)) pe_int))) (pe_ix (r := rIxT K) ix_tup (pv 1) pe_int (fun _ _ => rfl))))
        (pss_cons (ps_set (i := 8) sc__law_other.nd rfl (Or.inl rfl) (pe_lst (pa_cons (pe_callTy call_str_int (by rfl) T.m_str (by decide +kernel) (pa_cons (pe_ix (r := rIxT K) ix_tup (pv 9) pe_int (fun _ _ => rfl)) pa_nil)) (pa_cons (pe_callTy call_str_int (by rfl) T.m_str (by decide +kernel) (pa_cons (pv 10) pa_nil)) (pa_cons (pv 3) (pa_cons pe_str pa_nil))))))
        (pss_one (ps_ret (pe_tup (pa_cons (pe_op op_cat (pv 0) (pe_lst (pa_cons (pe_m1 PySem.F.slot_str_join PySem.F.type_str_join mt_join pe_str (pv 8)) pa_nil))) (pa_cons pe_str pa_nil)))))))) pss_nil)
      (pss_cons (ps_if (pt_cmpR op_eq (pe_callB call_len_seq (by rfl) T.m_len PySem.boot_len (pa_cons (pv 0) pa_nil)) pe_int (nomark _)) 
        (pss_cons (ps_set (i := 8) sc__law_other.nd rfl (Or.inl rfl) (pe_lst (pa_cons pe_str (pa_cons (pe_callTy call_str_int (by rfl) T.m_str (by decide +kernel) (pa_cons (pe_ix (r := rIxT K) ix_tup (pe_ix (r := rIxT K) ix_tup (pe_dget (hu_of hr) (pv 2) (pv 3) (fun _ _ => rfl)) pe_int (fun _ _ => rfl)) pe_int (fun _ _ => rfl)) pa_nil)) (pa_cons (pv 3) (pa_cons pe_str pa_nil))))))
        (pss_one (ps_ret (pe_tup (pa_cons (pe_lst (pa_cons (pv 6) (pa_cons (pe_m1 PySem.F.slot_str_join PySem.F.type_str_join mt_join pe_str (pv 8)) (pa_cons (pe_op op_add_str (pe_op op_add_str pe_str (pv 3)) pe_str) pa_nil)))) (pa_cons pe_str pa_nil)))))) pss_nil)
      (pss_cons (ps_set (i := 8) sc__law_other.nd rfl (Or.inl rfl) (pe_m1 PySem.F.slot_str_split PySem.F.type_str_split mt_split (pe_ix (r := rIxL K) ix_list (pv 0) (pe_op op_add pe_int (pe_op op_mod (pv 5) (pe_op op_sub (pe_callB call_len_seq (by rfl) T.m_len PySem.boot_len (pa_cons (pv 0) pa_nil)) pe_int))) (fun _ _ => rfl)) pe_str))
      (pss_cons (ps_set (i := 11) sc__law_other.nd rfl (Or.inl rfl) (pe_op op_add_str (pe_op op_add_str (pe_op op_add_str (pe_ix (r := rIxL K) ix_list (pv 8) pe_int (fun _ _ => rfl)) pe_str) (pe_ix (r := rIxL K) ix_list (pv 8) pe_int (fun _ _ => rfl))) pe_str))
      (pss_cons (ps_for PassesOwn.never rfl (pi_list (pe_callTy (call_list_dK rfl) (by rfl) T.m_list (by decide +kernel) (pa_cons (pv 2) pa_nil))) (pg_name (i := 12) sc__law_other.nd rfl (Or.inl rfl)) 
        (pss_cons (ps_set (i := 13) sc__law_other.nd rfl (Or.inl rfl) (pe_cmpR op_in_str (pe_op op_add_str (pe_op op_add_str pe_str (pv 12)) pe_str) (pe_m1 PySem.F.slot_str_join PySem.F.type_str_join mt_join pe_str (pv 0)) rfl))
        (pss_one (ps_if (PW.pt (pw_and (pt_cmpR op_eq (pe_op op_mod (pv 4) pe_int) pe_int (nomark _)) (pw_and (pt_not (pt_val (pv 13))) (pw_and1 (pt_cmpR op_eq (pe_ix (r := rIxT K) ix_tup (pe_ix (r := rIxT K) ix_tup (pe_dget (hu_of hr) (pv 2) (pv 12) (fun _ _ => rfl)) (pe_callTy call_int_str (by rfl) T.m_int (by decide +kernel) (pa_cons (pe_ix (r := rIxL K) ix_list (pv 8) pe_int (fun _ _ => rfl)) pa_nil)) (fun _ _ => rfl)) pe_int (fun _ _ => rfl)) (pe_callTy call_int_str (by rfl) T.m_int (by decide +kernel) (pa_cons (pe_ix (r := rIxL K) ix_list (pv 8) pe_int (fun _ _ => rfl)) pa_nil)) (nomark _)))))) 
          (pss_one (ps_ret (pe_tup (pa_cons (pe_op op_cat (pv 0) (pe_lst (pa_cons (pe_op op_add_str (pe_op op_add_str (pv 11) (pv 12)) pe_str) pa_nil))) (pa_cons pe_str pa_nil))))) pss_nil))))
      (pss_one (ps_ret (pe_tup (pa_cons (pe_op op_cat (pv 0) (pe_lst (pa_cons (pe_op op_add_str (pe_op op_add_str (pe_ix (r := rIxL K) ix_list (pe_lst (pa_cons pe_str (pa_cons (pv 11) pa_nil))) (pe_op op_mod (pe_op op_fdiv (pv 5) pe_int) pe_int) (fun _ _ => rfl)) (pe_ix (r := rIxL K) ix_list (pv 8) pe_int (fun _ _ => rfl))) pe_str) pa_nil))) (pa_cons pe_str pa_nil))))))))))))))), ?_⟩
    have rl := N.rl
    have hl := N.len
    have big := sizeLine_eq
    have sq := SqL.of (K := K) hp
    have hz := hnm nz hnz
    have m8 : (0 : Int) < 8 := by decide
    have r0 : rows[0]? = some (headT c t1 t2) := by rw [N.eq]; rfl
    refine ⟨_, rfl, p, _, _, _, rfl, rfl, sq, atI_nat (j := 0) (wlist_get r0), ?_⟩
    -- the first row
    refine ⟨_, rfl, _, _, rfl, rfl, m8, rfl, _, rfl, ite2 (fun e => ?_) (fun _ => ?_)⟩
    · refine ⟨(by show 3 ≤ sizeLine; decide), fun b0 g0 => ?_⟩
      have U0 : Same H (upd H b0 (.tup [.int 0, .int 1, .int 1])) := same_new g0
      have v0 : upd H b0 (.tup [.int 0, .int 1, .int 1]) b0 = some (.tup [.int 0, .int 1, .int 1]) := upd_same
      generalize upd H b0 (.tup [.int 0, .int 1, .int 1]) = X0 at U0 v0 ⊢
      refine ⟨(by show 3 ≤ sizeLine; decide), fun b1 g1 => ?_⟩
      have U1 : Same X0 (upd X0 b1 (.tup [.int 1001, .int 1, .int 1])) := same_new g1
      have v1 : upd X0 b1 (.tup [.int 1001, .int 1, .int 1]) b1 = some (.tup [.int 1001, .int 1, .int 1]) := upd_same
      generalize upd X0 b1 (.tup [.int 1001, .int 1, .int 1]) = X1 at U1 v1 ⊢
      refine ⟨(by show 3 ≤ sizeLine; decide), fun b2 g2 => ?_⟩
      have U2 : Same X1 (upd X1 b2 (.tup [.int 5, .int 0, .int 1])) := same_new g2
      have v2 : upd X1 b2 (.tup [.int 5, .int 0, .int 1]) b2 = some (.tup [.int 5, .int 0, .int 1]) := upd_same
      generalize upd X1 b2 (.tup [.int 5, .int 0, .int 1]) = X2 at U2 v2 ⊢
      refine ⟨(by show 3 ≤ sizeLine; decide), fun b3 g3 => ?_⟩
      have U3 : Same X2 (upd X2 b3 (.tup [.int 5, .int 1, .int 1000001])) := same_new g3
      have v3 : upd X2 b3 (.tup [.int 5, .int 1, .int 1000001]) b3 = some (.tup [.int 5, .int 1, .int 1000001]) := upd_same
      generalize upd X2 b3 (.tup [.int 5, .int 1, .int 1000001]) = X3 at U3 v3 ⊢
      refine ⟨(by show 3 ≤ sizeLine; decide), fun b4 g4 => ?_⟩
      have U4 : Same X3 (upd X3 b4 (.tup [.int 9999999999, .int 1, .int 1])) := same_new g4
      have v4 : upd X3 b4 (.tup [.int 9999999999, .int 1, .int 1]) b4 = some (.tup [.int 9999999999, .int 1, .int 1]) := upd_same
      generalize upd X3 b4 (.tup [.int 9999999999, .int 1, .int 1]) = X4 at U4 v4 ⊢
      refine ⟨(by show 5 ≤ sizeLine; decide), fun l gl => ?_⟩
      have U5 : Same X4 (upd X4 l (.lst [.ref b0, .ref b1, .ref b2, .ref b3, .ref b4])) := same_new gl
      have v5 : upd X4 l (.lst [.ref b0, .ref b1, .ref b2, .ref b3, .ref b4]) l = some (.lst [.ref b0, .ref b1, .ref b2, .ref b3, .ref b4]) := upd_same
      generalize upd X4 l (.lst [.ref b0, .ref b1, .ref b2, .ref b3, .ref b4]) = H6 at U5 v5 ⊢
      have S6 : Same H H6 := ((((U0.trans U1).trans U2).trans U3).trans U4).trans U5
      have pick : ∃ (b : Addr) (x y z : Int), atI [V.ref b0, .ref b1, .ref b2, .ref b3, .ref b4] (more % 5) = some (.ref b) ∧ H6 b = some (.tup [.int x, .int y, .int z]) ∧ ((0 ≤ x ∧ x < 10000000000) ∧ (0 ≤ y ∧ y < 10000000000) ∧ 0 ≤ z ∧ z < 10000000000) ∧ ¬ M.GoodC x y z := by
        rcases (show more % 5 = 0 ∨ more % 5 = 1 ∨ more % 5 = 2 ∨ more % 5 = 3 ∨ more % 5 = 4 by omega) with e | e | e | e | e <;> rw [e]
        · exact ⟨b0, 0, 1, 1, atI_nat (j := 0) rfl, ((((U1.trans U2).trans U3).trans U4).trans U5) _ _ v0, by decide, fun q => absurd q.1 (by decide)⟩
        · exact ⟨b1, 1001, 1, 1, atI_nat (j := 1) rfl, (((U2.trans U3).trans U4).trans U5) _ _ v1, by decide, fun q => absurd q.2.1 (by decide)⟩
        · exact ⟨b2, 5, 0, 1, atI_nat (j := 2) rfl, ((U3.trans U4).trans U5) _ _ v2, by decide, fun q => absurd q.2.2.1 (by decide)⟩
        · exact ⟨b3, 5, 1, 1000001, atI_nat (j := 3) rfl, (U4.trans U5) _ _ v3, by decide, fun q => absurd q.2.2.2.2.2 (by decide)⟩
        · exact ⟨b4, 9999999999, 1, 1, atI_nat (j := 4) rfl, U5 _ _ v4, by decide, fun q => absurd q.2.1 (by decide)⟩
      obtain ⟨b, x, y, z, eb, hb, ib, gb⟩ := pick
      obtain ⟨⟨x0, x1⟩, ⟨y0, y1⟩, z0, z1⟩ := id ib
      refine ⟨_, rfl, _, _, rfl, rfl, (by show (0 : Int) < 5; decide), l, _, _, _, rfl, rfl, SqL.of v5, eb, ?_⟩
      refine ⟨_, rfl, b, _, _, _, rfl, rfl, SqT.of hb, atI_nat (j := 0) rfl, _, rfl, small_dec (by omega) (by omega), ?_⟩
      refine ⟨_, rfl, b, _, _, _, rfl, rfl, SqT.of hb, atI_nat (j := 1) rfl, _, rfl, small_dec (by omega) (by omega), ?_⟩
      refine ⟨_, rfl, b, _, _, _, rfl, rfl, SqT.of hb, atI_nat (j := 2) rfl, _, rfl, small_dec (by omega) (by omega), ?_⟩
      refine ⟨(by show 4 ≤ sizeLine; decide), fun lw gw => ?_⟩
      have ew : [V.str "nests", V.str ((toString x : String) : Str), V.str ((toString y : String) : Str), V.str ((toString z : String) : Str)] = wlist [nestsL, decL x, decL y, decL z] := by
        rw [nests_tx, dec_tx, dec_tx, dec_tx]
        rfl
      rw [ew]
      have U7 : Same H6 (upd H6 lw (.lst (wlist [nestsL, decL x, decL y, decL z]))) := same_new gw
      have v7 : upd H6 lw (.lst (wlist [nestsL, decL x, decL y, decL z])) lw = some (.lst (wlist [nestsL, decL x, decL y, decL z])) := upd_same
      generalize upd H6 lw (.lst (wlist [nestsL, decL x, decL y, decL z])) = H7 at U7 v7 ⊢
      have S7 := S6.trans U7
      refine ⟨⟨_, rfl⟩, _, rfl, _, lw, [nestsL, decL x, decL y, decL z].map tx, rfl, rfl, join_at v7, join_bd (fine4 ⟨by decide, by decide, by decide, by decide⟩ (fine_dec (by omega) (by omega)) (fine_dec (by omega) (by omega)) (fine_dec (by omega) (by omega))) rfl, ?_⟩
      rw [join_sp]
      refine ⟨(by show 1 ≤ sizeLine; decide), fun q2 g2 => ?_⟩
      have W2 := fun o => same_new (o := o) g2
      refine ⟨_, rfl, ((1 : Nat) : Int), rfl, p, wlist rows, rfl, SqL.of (W2 _ _ _ (S7 _ _ hp)), fun q3 g3 => ?_⟩
      rw [cut_hi_l]
      have W3 := fun o => same_new (o := o) g3
      refine ⟨q2, q3, wlist [TL.joinL [32] [nestsL, decL x, decL y, decL z]], wlist (rows.drop 1), rfl, rfl, W3 _ _ _ upd_same, upd_same, ?_, fun q4 g4 => ?_⟩
      · have e1 : (wlist [TL.joinL [32] [nestsL, decL x, decL y, decL z]]).length = 1 := rfl
        rw [e1, wlist_len, List.length_drop]
        omega
      rw [wlist_app]
      have W4 := fun o => same_new (o := o) g4
      refine ⟨(by show 2 ≤ sizeLine; decide), fun q5 g5 => ?_⟩
      have W5 := fun o => same_new (o := o) g5
      exact k _ q5 q4 _ _ (fun b o z => W5 _ _ _ (W4 _ _ _ (W3 _ _ _ (W2 _ _ _ (S7 _ _ z))))) upd_same (W5 _ _ _ upd_same) (wrong_head N ib gb)
    -- a name that is none
    refine ⟨_, rfl, _, _, rfl, rfl, m8, rfl, _, rfl, ite2 (fun e => ?_) (fun _ => ?_)⟩
    · have q4 : [V.str "A", V.str "abcdefghijkl0", V.str "a_b", V.str "a."] = wlist badN := by
        rw [← wlist_eq, ← badN_tx]
        rfl
      obtain ⟨y, hy, ey⟩ := pick_at badN (x := more) (n := 4) rfl (by decide)
      obtain ⟨y1, y2, y3, y4⟩ := badN_no hy
      have L0 : Loose [48] := ⟨by decide, by decide, by decide⟩
      have L9 : Loose [57, 57, 57, 57, 57, 57, 57, 57, 57, 57] := ⟨by decide, by decide, by decide⟩
      have R := readable L0 L0 y2 L9 (thing_is (x := 0) (y := 0) (z := 9999999999) y3 (by decide +kernel) (by decide +kernel) (by decide +kernel))
      have er : ("0 0 " : Str) ++ tx y ++ (" 9999999999" : Str) = tx (TL.joinL [32] [[48], [48], y, [57, 57, 57, 57, 57, 57, 57, 57, 57, 57]]) := by
        rw [show ("0 0 " : Str) = tx [48, 32, 48, 32] from by decide +kernel, show (" 9999999999" : Str) = tx [32, 57, 57, 57, 57, 57, 57, 57, 57, 57, 57] from by decide +kernel, tx_app, tx_app, join4]
        refine congrArg tx ?_
        simp
      have z1 : ("0 0 " : Str).length + (tx y).length ≤ sizeLine := by
        have : ("0 0 " : Str).length = 4 := by decide +kernel
        rw [tx_len y]
        omega
      have z2 : (("0 0 " : Str) ++ tx y).length + (" 9999999999" : Str).length ≤ sizeLine := by
        have : ("0 0 " : Str) = tx [48, 32, 48, 32] := by decide +kernel
        have e2 : (" 9999999999" : Str).length = 11 := by decide +kernel
        rw [this, tx_app, tx_len, List.length_append, e2]
        show 4 + y.length + 11 ≤ sizeLine
        omega
      refine fin_other rfl hp (by omega) (wrong_add N G gc R (by rw [len_join4]; show 1 + 1 + y.length + 10 + 3 ≤ 50; omega) (.name y 9999999999 (0, 0) y1) (.inr (.inl ⟨rfl, rfl⟩))) (fun R2 hR => ?_) fun H' q l rows' a b c d => k H' q l rows' _ a b c d
      refine ⟨(by show 4 ≤ sizeLine; decide), fun l gl => ?_⟩
      rw [q4]
      refine ⟨_, rfl, _, _, rfl, rfl, (by show (0 : Int) < 4; decide), l, _, _, _, rfl, rfl, SqL.of upd_same, ey, _, _, rfl, rfl, z1, _, _, rfl, rfl, z2, ?_⟩
      rw [er]
      exact hR _ (same_new gl)
    -- a value that is none
    refine ⟨_, rfl, _, _, rfl, rfl, m8, rfl, _, rfl, ite2 (fun e => ?_) (fun _ => ?_)⟩
    · have q3 : [V.str "1000000001", V.str "-1000000001", V.str "9999999999"] = wlist badV := by
        rw [← wlist_eq, ← badV_tx]
        rfl
      obtain ⟨y, hy, ey⟩ := pick_at badV (x := more) (n := 3) rfl (by decide)
      obtain ⟨⟨v, y1, y2⟩, y3, y4⟩ := badV_no hy
      have L0 : Loose [48] := ⟨by decide, by decide, by decide⟩
      have L7 : Loose [55] := ⟨by decide, by decide, by decide⟩
      have R := readable L7 L0 (fine_name hz).loose y3 (thing_is (x := 7) (y := 0) hz.ne y1 (by decide +kernel) (by decide +kernel))
      have lz := hz.len
      have e70 : ("7 0 " : Str) = tx [55, 32, 48, 32] := by decide +kernel
      have z1 : ("7 0 " : Str).length + (tx nz).length ≤ sizeLine := by
        rw [e70, tx_len, tx_len nz]
        show 4 + nz.length ≤ sizeLine
        omega
      have z2 : (("7 0 " : Str) ++ tx nz).length + (" " : Str).length ≤ sizeLine := by
        rw [e70, sp_tx, tx_app, tx_len, tx_len, List.length_append]
        show 4 + nz.length + 1 ≤ sizeLine
        omega
      have z3 : (("7 0 " : Str) ++ tx nz ++ (" " : Str)).length + (tx y).length ≤ sizeLine := by
        rw [e70, sp_tx, tx_app, tx_app, tx_len, tx_len y, List.length_append, List.length_append]
        show 4 + nz.length + 1 + y.length ≤ sizeLine
        omega
      have er : ("7 0 " : Str) ++ tx nz ++ (" " : Str) ++ tx y = tx (TL.joinL [32] [[55], [48], nz, y]) := by
        rw [e70, sp_tx, tx_app, tx_app, tx_app, join4]
        refine congrArg tx ?_
        simp
      refine fin_other rfl hp (by omega) (wrong_add N G gc R (by rw [len_join4]; show 1 + 1 + nz.length + y.length + 3 ≤ 50; omega) (.value nz v (7, 0) hz y2) (.inr (.inr (.inl ⟨rfl, rfl⟩)))) (fun R2 hR => ?_) fun H' q l rows' a b c d => k H' q l rows' _ a b c d
      refine ⟨_, rfl, _, _, rfl, rfl, z1, _, _, rfl, rfl, z2, (by show 3 ≤ sizeLine; decide), fun l gl => ?_⟩
      rw [q3]
      refine ⟨_, rfl, _, _, rfl, rfl, (by show (0 : Int) < 3; decide), l, _, _, _, rfl, rfl, SqL.of upd_same, ey, _, _, rfl, rfl, z3, ?_⟩
      rw [er]
      exact hR _ (same_new gl)
    -- a nest that is none
    refine ⟨_, rfl, _, _, rfl, rfl, m8, rfl, _, rfl, ite2 (fun e => ?_) (fun _ => ?_)⟩
    · obtain ⟨g0, g1, _⟩ := id gc
      have c2 : ("2" : Str) = tx [50] := by decide +kernel
      have c1 : ("1" : Str) = tx [49] := by decide +kernel
      obtain ⟨a, x, y, ea, ey, na, y0, y1, fa, bad⟩ : ∃ (a : Name) (x y : Int), atI [V.str "2", V.str "0", V.str "1"] (more % 3) = some (.str (tx a)) ∧ atI [V.int 0, V.int c, V.int (c + 9)] (more % 3) = some (.int y) ∧ numF a = some x ∧ 0 ≤ y ∧ y < 10000000000 ∧ Fine a ∧ ¬ InT c (x, y) := by
        rcases (show more % 3 = 0 ∨ more % 3 = 1 ∨ more % 3 = 2 by omega) with e | e | e <;> rw [e, c2, zero_tx, c1]
        · exact ⟨[50], 2, 0, atI_nat (j := 0) rfl, atI_nat (j := 0) rfl, by decide +kernel, by decide, by decide, ⟨by decide, by decide, by decide, by decide⟩, fun z => z.1.elim (fun q => absurd q (by decide)) fun q => absurd q (by decide)⟩
        · exact ⟨[48], 0, c, atI_nat (j := 1) rfl, atI_nat (j := 1) rfl, by decide +kernel, by omega, by omega, ⟨by decide, by decide, by decide, by decide⟩, fun z => absurd z.2.2 (by show ¬ c < c; omega)⟩
        · exact ⟨[49], 1, c + 9, atI_nat (j := 2) rfl, atI_nat (j := 2) rfl, by decide +kernel, by omega, by omega, ⟨by decide, by decide, by decide, by decide⟩, fun z => absurd z.2.2 (by show ¬ c + 9 < c; omega)⟩
      refine ⟨(by show 3 ≤ sizeLine; decide), fun l gl => ?_⟩
      have T1 := fun o => same_new (o := o) gl
      refine ⟨_, rfl, _, _, rfl, rfl, (by show (0 : Int) < 3; decide), l, _, _, _, rfl, rfl, SqL.of upd_same, ea, ?_⟩
      have htt1 := T1 (.lst [V.str "2", V.str "0", V.str "1"]) _ _ htt
      refine ⟨_, rfl, tt, _, _, _, rfl, rfl, SqT.of htt1, atI_nat (j := 0) rfl, _, rfl, tt, _, _, _, rfl, rfl, SqT.of htt1, atI_nat (j := 0) rfl, _, _, rfl, rfl, (by show 3 ≤ sizeLine; decide), fun l2 gl2 => ?_⟩
      have T2 := fun o => same_new (o := o) gl2
      refine ⟨_, rfl, _, _, rfl, rfl, (by show (0 : Int) < 3; decide), l2, _, _, _, rfl, rfl, SqL.of upd_same, ey, _, rfl, small_dec (by omega) (by omega), ?_⟩
      refine ⟨_, rfl, (by show 4 ≤ sizeLine; decide), fun lw gw => ?_⟩
      have ew : [V.str (tx a), V.str ((toString y : String) : Str), V.str (tx nz), V.str "1"] = wlist [a, decL y, nz, [49]] := by
        rw [dec_tx, c1]
        rfl
      rw [ew]
      have T3 := fun o => same_new (o := o) gw
      have f1 : Fine [49] := ⟨by decide, by decide, by decide, by decide⟩
      have fy := fine_dec (v := y) (by omega) (by omega)
      have R := readable fa.loose fy.loose (fine_name hz).loose f1.loose (thing_is (z := 1) hz.ne (by decide +kernel) na (num_of_dec y0 y1))
      have nh : nz ∉ (heldOf ths).map (·.2) := by rw [held_map]; exact hnew
      refine fin_other rfl (T3 _ _ _ (T2 _ _ _ (T1 _ _ _ hp))) (by omega) (wrong_add N G gc R ?_ (.nest nz 1 (x, y) hz ⟨by decide, by decide⟩ nh bad) (.inr (.inr (.inr (.inl ⟨rfl, rfl⟩))))) (fun R2 hR => ?_) fun H' q l rows' a b c d => k H' q l rows' _ (fun b o z => a _ _ (T3 _ _ _ (T2 _ _ _ (T1 _ _ _ z)))) b c d
      · rw [len_join4]
        have := fa.len
        have := fy.len
        have := hz.len
        show _ + _ + _ + 1 + 3 ≤ 50
        omega
      · refine ⟨⟨_, rfl⟩, _, rfl, _, lw, [a, decL y, nz, [49]].map tx, rfl, rfl, join_at upd_same, join_bd (fine4 fa fy (fine_name hz) f1) rfl, ?_⟩
        rw [join_sp]
        exact hR _ (Same.refl _)
    -- no home
    obtain ⟨g0, g1, _⟩ := id gc
    have c1 : ("1" : Str) = tx [49] := by decide +kernel
    have f1 : Fine [49] := ⟨by decide, by decide, by decide, by decide⟩
    have nh : nz ∉ (heldOf ths).map (·.2) := by rw [held_map]; exact hnew
    have sqt := SqT.of (K := K) htt
    have v1 : M.VOk 1 := ⟨by decide, by decide⟩
    refine ⟨fun σ H1 => σ = [some (.ref p), some (.ref tt), some (.ref hd), some (.str (tx nz)), some (.int cell), some (.int more), some (.str (tx (headT c t1 t2))), none, none, none, none, none, none, none] ∧ H1 = H, ?_, ?_⟩
    · refine ⟨_, rfl, _, _, rfl, rfl, m8, rfl, _, rfl, ite2 (fun e => ?_) (fun _ => iteF ⟨rfl, rfl⟩)⟩
      refine ⟨_, rfl, tt, _, _, _, rfl, rfl, sqt, atI_nat (j := 0) rfl, _, _, rfl, rfl, _, rfl, ite2 (fun e => ?_) (fun _ => ⟨rfl, rfl⟩)⟩
      have hc1 : 1 < c := of_decide_eq_true e
      obtain ⟨th, qa, qb, hth, h1, h2, h3⟩ := home_at hho hnz
      obtain ⟨q, s, eq, hq, r, hr, es⟩ : ∃ (q : Addr) (s : Seat), atI [V.ref qa, .ref qb] (more % 2) = some (.ref q) ∧ H q = some (.tup (sv s)) ∧ ∃ r : Int, (r = 0 ∨ r = 1) ∧ s = seatP (hmN c t1 t2 nz) r := by
        rcases two_of (V.ref qa) (.ref qb) more with ⟨_, e⟩ | ⟨_, e⟩
        · exact ⟨qa, _, e, h2, 0, .inl rfl, rfl⟩
        · exact ⟨qb, _, e, h3, 1, .inr rfl, rfl⟩
      have sqs := SqT.of (K := K) hq
      refine ⟨_, rfl, _, rfl, hd, _, rfl, hth, _, rfl, _, _, rfl, rfl, (by show (0 : Int) < 2; decide), th, _, _, _, rfl, rfl, SqT.of h1, eq, ?_⟩
      refine ⟨_, rfl, q, _, _, _, rfl, rfl, sqs, atI_nat (j := 1) rfl, ?_⟩
      have d0 : 0 ≤ more / 2 % (c - 1) := Int.emod_nonneg _ (by omega)
      have d1 : more / 2 % (c - 1) < c - 1 := Int.emod_lt_of_pos _ (by omega)
      obtain ⟨i1, i2⟩ := home_else (t1 := t1) (t2 := t2) (n := nz) hc1 hr d0 d1
      rw [← es] at i1 i2
      refine ⟨_, _, rfl, rfl, _, rfl, _, _, rfl, rfl, ⟨by decide, by decide⟩, _, rfl, tt, _, _, _, rfl, rfl, sqt, atI_nat (j := 0) rfl, _, _, rfl, rfl, _, _, rfl, rfl, (by show 0 < c - 1; omega), _, _, rfl, rfl, _, rfl, tt, _, _, _, rfl, rfl, sqt, atI_nat (j := 0) rfl, _, _, rfl, rfl, (by show 0 < c; omega), ?_⟩
      show gName 10 (V.int ((s.2 + 1 + more / 2 % (c - 1)) % c)) _ _ _
      generalize (s.2 + 1 + more / 2 % (c - 1)) % c = y at i1 i2 ⊢
      have i1' := i1
      obtain ⟨_, y0, y1⟩ := i1'
      have y0 : 0 ≤ y := y0
      have y1 : y < c := y1
      have s1 : s.1 = r := by rw [es]; rfl
      rw [← s1] at i1 i2
      refine ⟨_, rfl, q, _, _, _, rfl, rfl, sqs, atI_nat (j := 0) rfl, _, rfl, small_dec (by omega) (by omega), _, rfl, _, rfl, small_dec (by omega) (by omega), _, rfl, (by show 4 ≤ sizeLine; decide), fun lw gw => ?_⟩
      have ew : [V.str ((toString s.1 : String) : Str), V.str ((toString y : String) : Str), V.str (tx nz), V.str "1"] = wlist [decL s.1, decL y, nz, [49]] := by
        rw [dec_tx, dec_tx, c1]
        rfl
      rw [ew]
      have T3 := fun o => same_new (o := o) gw
      have fs := fine_dec (v := s.1) (by omega) (by omega)
      have fy := fine_dec (v := y) (by omega) (by omega)
      have R := readable fs.loose fy.loose (fine_name hz).loose f1.loose (thing_is (z := 1) hz.ne (by decide +kernel) (num_of_dec (v := s.1) (by omega) (by omega)) (num_of_dec (v := y) y0 (by omega)))
      refine fin_other rfl (T3 _ _ _ hp) (by omega) (wrong_add N G gc R ?_ (.home nz 1 (s.1, y) hz v1 nh i1 i2) (.inr (.inr (.inr (.inr (.inl ⟨rfl, rfl⟩)))))) (fun R2 hR => ?_) fun H' q l rows' a b c d => k H' q l rows' _ (fun b o z => a _ _ (T3 _ _ _ z)) b c d
      · rw [len_join4]
        have := fs.len
        have := fy.len
        have := hz.len
        show _ + _ + _ + 1 + 3 ≤ 50
        omega
      · refine ⟨⟨_, rfl⟩, _, rfl, _, lw, [decL s.1, decL y, nz, [49]].map tx, rfl, rfl, join_at upd_same, join_bd (fine4 fs fy (fine_name hz) f1) rfl, ?_⟩
        rw [join_sp]
        exact hR _ (Same.refl _)
    · rintro σ H0 ⟨rfl, rfl⟩
      obtain ⟨th, qa, qb, hth, h1, h2, h3⟩ := home_at hho hnz
      refine ⟨_, rfl, p, _, rfl, .inl sq, rfl, _, rfl, ite2 (fun e => ?_) (fun e => ?_)⟩
      · have e1 : ths = [] := by
          have z := V.int.inj (of_decide_eq_true e)
          rw [wlist_len] at z
          exact List.length_eq_zero_iff.mp (by omega)
        subst e1
        have i0 := (hmN_in (t1 := t1) (t2 := t2) (show 0 < c by omega) nz).1
        have y0 : 0 ≤ (seatP (hmN c t1 t2 nz) 0).2 := i0.1
        have y1 : (seatP (hmN c t1 t2 nz) 0).2 < c := i0.2
        refine ⟨_, rfl, _, rfl, hd, _, rfl, hth, th, _, _, _, rfl, rfl, SqT.of h1, atI_nat (j := 0) rfl, qa, _, _, _, rfl, rfl, SqT.of h2, atI_nat (j := 1) rfl, _, rfl, small_dec (v := (seatP (hmN c t1 t2 nz) 0).2) (by omega) (by omega), _, rfl, (by show 4 ≤ sizeLine; decide), fun lw gw => ?_⟩
        have ew : [V.str "0", V.str ((toString (seatP (hmN c t1 t2 nz) 0).2 : String) : Str), V.str (tx nz), V.str "1"] = wlist (wordsT (nz, 1, seatP (hmN c t1 t2 nz) 0)) := by
          rw [dec_tx, c1, zero_tx, words_one]
          rfl
        rw [ew]
        have T3 := fun o => same_new (o := o) gw
        have W := wrong_two (A := A) N gc hz rfl
        have f0 : Fine [48] := ⟨by decide, by decide, by decide, by decide⟩
        have lz := hz.len
        have e99 : ("9 9 " : Str) = tx [57, 32, 57, 32] := by decide +kernel
        have e2 : (" 2" : Str) = tx [32, 50] := by decide +kernel
        have z1 : ("9 9 " : Str).length + (tx nz).length ≤ sizeLine := by
          rw [e99, tx_len, tx_len nz]
          show 4 + nz.length ≤ sizeLine
          omega
        have z2 : (("9 9 " : Str) ++ tx nz).length + (" 2" : Str).length ≤ sizeLine := by
          rw [e99, e2, tx_app, tx_len, tx_len, List.length_append]
          show 4 + nz.length + 2 ≤ sizeLine
          omega
        have er : ("9 9 " : Str) ++ tx nz ++ (" 2" : Str) = tx (rowOf (nz, 2, (9, 9))) := by
          rw [e99, e2, tx_app, tx_app]
          refine congrArg tx ?_
          show _ = TL.joinL [32] [decL 9, decL 9, nz, decL 2]
          rw [join4, show decL 9 = [57] from by decide +kernel, show decL 2 = [50] from by decide +kernel]
          simp
        refine ⟨_, rfl, ⟨_, rfl⟩, _, rfl, _, lw, (wordsT (nz, 1, seatP (hmN c t1 t2 nz) 0)).map tx, rfl, rfl, join_at upd_same, join_bd ?_ rfl, ?_⟩
        · rw [words_one]
          exact fine4 f0 (fine_dec (by omega) (by omega)) (fine_name hz) f1
        rw [join_sp]
        refine ⟨_, rfl, _, _, rfl, rfl, z1, _, _, rfl, rfl, z2, (by show 3 ≤ sizeLine; decide), fun l3 g3 => ?_⟩
        rw [er]
        have T4 := fun o => same_new (o := o) g3
        refine ⟨(by show 2 ≤ sizeLine; decide), fun l4 g4 => ?_⟩
        have T5 := fun o => same_new (o := o) g4
        exact k _ l4 l3 [headT c t1 t2, rowOf (nz, 1, seatP (hmN c t1 t2 nz) 0), rowOf (nz, 2, (9, 9))] _ (fun b o z => T5 _ _ _ (T4 _ _ _ (T3 _ _ _ z))) upd_same (T5 _ _ _ upd_same) W
      -- a row's words
      have tn : 0 < ths.length := by
        rcases Nat.eq_zero_or_pos ths.length with z | z
        · refine (e (decide_eq_true ?_)).elim
          rw [wlist_len, rl, z]
          rfl
        · exact z
      have mm : 0 < ((wlist rows).length : Int) - 1 := by rw [wlist_len]; omega
      obtain ⟨j, hj, ej⟩ : ∃ j : Nat, j < ths.length ∧ 1 + more % (((wlist rows).length : Int) - 1) = ((j + 1 : Nat) : Int) := by
        have a0 := Int.emod_nonneg more (b := ((wlist rows).length : Int) - 1) (by omega)
        have a1 := Int.emod_lt_of_pos more mm
        rw [wlist_len] at a0 a1 ⊢
        exact ⟨(more % ((rows.length : Int) - 1)).toNat, by omega, by omega⟩
      have hx : ths[j] ∈ ths := List.getElem_mem hj
      have ox := N.ok _ hx
      have er : rows[j + 1]? = some (rowOf ths[j]) := by
        rw [N.eq, List.getElem?_cons_succ, List.getElem?_map, List.getElem?_eq_getElem hj]
        rfl
      have Gj := G j hj
      generalize ths[j] = x at hx ox er Gj
      have rlen := ox.len
      have rz : (tx (rowOf x)).length + 2 ≤ sizeLine := by rw [tx_len]; omega
      refine ⟨_, rfl, _, rfl, _, rfl, p, _, rfl, .inl sq, _, _, rfl, rfl, _, _, rfl, rfl, mm, _, _, rfl, rfl, p, _, ((j + 1 : Nat) : Int), _, rfl, congrArg V.int ej, sq, atI_nat (wlist_get er), ⟨_, rfl⟩, _, _, rfl, rfl, rfl, rz, fun q gq => ?_⟩
      rw [split_sp, ox.row.cuts, wlist_eq]
      have T1 := fun o => same_new (o := o) gq
      have v0 : upd H0 q (.lst (wlist (wordsT x))) q = some (.lst (wlist (wordsT x))) := upd_same
      have T1 := T1 (.lst (wlist (wordsT x)))
      generalize upd H0 q (.lst (wlist (wordsT x))) = H1 at T1 v0 ⊢
      have sw := SqL.of (K := K) v0
      refine ⟨_, rfl, q, _, _, _, rfl, rfl, sw, atI_nat (j := 0) rfl, ?_⟩
      have r0' := ox.r0
      have r1' := ox.r1
      have p0' := ox.p0
      have p1' := ox.p1
      have fr := fine_dec (v := x.2.2.1) (by omega) (by omega)
      have fp := fine_dec (v := x.2.2.2) (by omega) (by omega)
      have lr := fr.len
      have lp := fp.len
      have hzl := hz.len
      have z1 : (tx (decL x.2.2.1)).length + (" " : Str).length ≤ sizeLine := by
        rw [sp_tx, tx_len, tx_len]
        show _ + 1 ≤ sizeLine
        omega
      have z2 : (tx (decL x.2.2.1) ++ (" " : Str)).length + (tx (decL x.2.2.2)).length ≤ sizeLine := by
        rw [sp_tx, tx_app, tx_len, tx_len, List.length_append]
        show _ + 1 + _ ≤ sizeLine
        omega
      have z3 : (tx (decL x.2.2.1) ++ (" " : Str) ++ tx (decL x.2.2.2)).length + (" " : Str).length ≤ sizeLine := by
        rw [sp_tx, tx_app, tx_app, tx_len, tx_len, List.length_append, List.length_append]
        show _ + 1 + _ + 1 ≤ sizeLine
        omega
      have et : tx (decL x.2.2.1) ++ (" " : Str) ++ tx (decL x.2.2.2) ++ (" " : Str) = tx (decL x.2.2.1 ++ [32] ++ decL x.2.2.2 ++ [32]) := by
        rw [sp_tx, tx_app, tx_app, tx_app]
      have lt : (decL x.2.2.1 ++ [32] ++ decL x.2.2.2 ++ [32]).length ≤ 26 := by
        simp only [List.length_append, List.length_singleton]
        omega
      refine ⟨_, _, rfl, rfl, z1, _, rfl, q, _, _, _, rfl, rfl, sw, atI_nat (j := 1) rfl, _, _, rfl, rfl, z2, _, _, rfl, rfl, z3, ?_⟩
      show gName 11 (V.str (tx (decL x.2.2.1) ++ (" " : Str) ++ tx (decL x.2.2.2) ++ (" " : Str))) _ _ _
      rw [et]
      obtain ⟨kvs, hd0, kl, ks⟩ := hke
      refine ⟨_, rfl, hd, kvs, rfl, T1 _ _ hd0, fun l gl => ?_⟩
      have T2 : Same H1 (upd H1 l (.lst (kvs.map fun kv => kV kv.1))) := same_new gl
      refine ⟨l, rfl, ⟨_, SqL.of upd_same⟩, for_list (K := K) (a := l) (xs := kvs.map fun kv => kV kv.1) (fun i σ H2 => ∃ o12 o13, σ = [some (.ref p), some (.ref tt), some (.ref hd), some (.str (tx nz)), some (.int cell), some (.int more), some (.str (tx (headT c t1 t2))), none, some (.ref q), none, none, some (.str (tx (decL x.2.2.1 ++ [32] ++ decL x.2.2.2 ++ [32]))), o12, o13] ∧ Same H0 H2 ∧ H2 q = some (.lst (wlist (wordsT x))) ∧ H2 l = some (.lst (kvs.map fun kv => kV kv.1)))
        ⟨none, none, rfl, T1.trans T2, T2 _ _ v0, upd_same⟩ (fun i σ H2 _ ⟨_, _, _, _, _, h⟩ => SqL.of h) ?_ ?_⟩
      · rintro i y σ H2 hi ⟨o12, o13, rfl, S2, hq2, hl2⟩
        rw [List.getElem?_map] at hi
        cases ek : kvs[i]? with
        | none =>
          rw [ek] at hi
          cases hi
        | some kv =>
          rw [ek] at hi
          obtain ⟨n, hn, en⟩ := ks kv (List.mem_of_getElem? ek)
          obtain rfl : kV kv.1 = y := Option.some.inj hi
          rw [en]
          have on := hnm n hn
          have ol := on.len
          have za : (" " : Str).length + (tx n).length ≤ sizeLine := by
            rw [sp_tx, tx_len, tx_len n]
            show 1 + _ ≤ sizeLine
            omega
          have zb : ((" " : Str) ++ tx n).length + (" " : Str).length ≤ sizeLine := by
            rw [sp_tx, tx_app, tx_len, tx_len, List.length_append]
            show 1 + _ + 1 ≤ sizeLine
            omega
          have sm := sums (ws := rows) (m := 48) fun r hr => (N.mem hr).2
          have bd : ((rows.map tx).map (·.length)).sum + (rows.map tx).length * (" " : Str).length ≤ 16777216 := by
            have e0 : (" " : Str).length = 1 := rfl
            rw [e0, List.length_map]
            omega
          refine ⟨_, rfl, _, _, rfl, rfl, za, _, _, rfl, rfl, zb, ⟨_, rfl⟩, _, rfl, _, p, rows.map tx, rfl, rfl, join_at (S2 _ _ hp), bd, _, _, rfl, rfl, ?_⟩
          show gName 13 (V.bl (!(Builtin.Str.occurrences (Txt.join (" " : Str) (rows.map tx)) ((" " : Str) ++ tx n ++ (" " : Str)) 0 (Txt.join (" " : Str) (rows.map tx)).length 1).isEmpty)) _ _ _
          rw [join_sp, show (" " : Str) ++ tx n ++ (" " : Str) = tx ([32] ++ n ++ [32]) by rw [sp_tx, tx_app, tx_app]]
          have hB : ∀ y ∈ ths, y.1 = n → (!(Builtin.Str.occurrences (tx (TL.joinL [32] rows)) (tx ([32] ++ n ++ [32])) 0 (tx (TL.joinL [32] rows)).length 1).isEmpty) = true := fun y hy e => by
            rw [← e]
            exact name_in N hy
          generalize (!(Builtin.Str.occurrences (tx (TL.joinL [32] rows)) (tx ([32] ++ n ++ [32])) 0 (tx (TL.joinL [32] rows)).length 1).isEmpty) = B at hB ⊢
          refine ⟨_, rfl, _, _, rfl, rfl, m8, rfl, _, rfl, ite2 (fun _ => ?_) (fun _ => iteF ⟨_, _, rfl, S2, hq2, hl2⟩)⟩
          refine ⟨_, rfl, _, rfl, ite2 (fun eB => ?_) (fun _ => iteF ⟨_, _, rfl, S2, hq2, hl2⟩)⟩
          have nB : n ∉ ths.map (·.1) := fun z => by
            obtain ⟨y, hy, e⟩ := List.mem_map.mp z
            have := hB y hy e
            rw [this] at eB
            cases eB
          have hho2 : HomesAt H2 hd nm (hmN c t1 t2) := hho.same S2
          obtain ⟨th2, qc, qd, hth2, k1, k2, k3⟩ := home_at hho2 hn
          have sw2 := SqL.of (K := K) hq2
          obtain ⟨i1, i2⟩ := int_dec (v := x.2.2.1) r0' (by omega)
          obtain ⟨i3, i4⟩ := int_dec (v := x.2.2.2) p0' (by omega)
          obtain ⟨qe, eqe, hqe⟩ : ∃ qe, atI [V.ref qc, .ref qd] x.2.2.1 = some (.ref qe) ∧ H2 qe = some (.tup (sv (seatP (hmN c t1 t2 n) x.2.2.1))) := by
            rcases (show x.2.2.1 = 0 ∨ x.2.2.1 = 1 by omega) with e | e <;> rw [e]
            · exact ⟨qc, atI_nat (j := 0) rfl, k2⟩
            · exact ⟨qd, atI_nat (j := 1) rfl, k3⟩
          refine ⟨_, rfl, _, rfl, hd, _, rfl, hth2, _, rfl, q, _, _, _, rfl, rfl, sw2, atI_nat (j := 0) rfl, _, _, rfl, i1, i2, th2, _, _, _, rfl, rfl, SqT.of k1, eqe, qe, _, _, _, rfl, rfl, SqT.of hqe, atI_nat (j := 1) rfl, _, rfl, q, _, _, _, rfl, rfl, sw2, atI_nat (j := 1) rfl, _, _, rfl, i3, i4, rfl, _, rfl, ite2 (fun eS => ?_) (fun _ => ⟨_, _, rfl, S2, hq2, hl2⟩)⟩
          have hS : x.2.2 = seatP (hmN c t1 t2 n) x.2.2.1 := Prod.ext rfl (V.int.inj (of_decide_eq_true eS)).symm
          have hm : x.2.2 = seatP (hmN c t1 t2 n) 0 ∨ x.2.2 = seatP (hmN c t1 t2 n) 1 := by
            rcases (show x.2.2.1 = 0 ∨ x.2.2.1 = 1 by omega) with e | e
            · rw [e] at hS
              exact .inl hS
            · rw [e] at hS
              exact .inr hS
          have gN : getN (heldOf ths) x.2.2 ≠ none := fun z => getN_none.mp z (by
            unfold heldOf
            rw [List.map_map]
            exact List.mem_map.mpr ⟨x, hx, rfl⟩)
          have nH : n ∉ (heldOf ths).map (·.2) := by rw [held_map]; exact nB
          have R := readable fr.loose fp.loose (fine_name on).loose f1.loose (thing_is (z := 1) on.ne (by decide +kernel) (num_of_dec (v := x.2.2.1) r0' (by omega)) (num_of_dec (v := x.2.2.2) p0' (by omega)))
          have zc : (tx (decL x.2.2.1 ++ [32] ++ decL x.2.2.2 ++ [32])).length + (tx n).length ≤ sizeLine := by
            rw [tx_len, tx_len]
            omega
          have e1 : (" 1" : Str) = tx [32, 49] := by decide +kernel
          have zd : (tx (decL x.2.2.1 ++ [32] ++ decL x.2.2.2 ++ [32]) ++ tx n).length + (" 1" : Str).length ≤ sizeLine := by
            rw [e1, tx_app, tx_len, tx_len, List.length_append]
            show _ + _ + 2 ≤ sizeLine
            omega
          have ej : tx (decL x.2.2.1 ++ [32] ++ decL x.2.2.2 ++ [32]) ++ tx n ++ (" 1" : Str) = tx (TL.joinL [32] [decL x.2.2.1, decL x.2.2.2, n, [49]]) := by
            rw [e1, tx_app, tx_app, join4]
            refine congrArg tx ?_
            simp
          refine fin_other rfl (S2 _ _ hp) (by omega) (wrong_add N G gc R ?_ (.taken n 1 x.2.2 on v1 nH hm gN) (.inr (.inr (.inr (.inr (.inr (.inl ⟨rfl, rfl⟩))))))) (fun R2 hR => ?_) fun H' q l rows' a b c d => k H' q l rows' _ (S2.trans a) b c d
          · rw [len_join4]
            show _ + _ + _ + 1 + 3 ≤ 50
            omega
          · refine ⟨_, rfl, _, rfl, _, _, rfl, rfl, zc, _, _, rfl, rfl, zd, ?_⟩
            rw [ej]
            exact hR _ (Same.refl _)
      · rintro σ H2 ⟨o12, o13, rfl, S2, hq2, hl2⟩
        have e90 : ("9 0 " : Str) = tx [57, 32, 48, 32] := by decide +kernel
        have f9 : Fine [57] := ⟨by decide, by decide, by decide, by decide⟩
        have f0 : Fine [48] := ⟨by decide, by decide, by decide, by decide⟩
        obtain ⟨y, a, b, s0, s1, ey, eab, fa, fb, na, nb⟩ : ∃ (y a b : Name) (s0 s1 : Int), atI [V.str "9 0 ", V.str (tx (decL x.2.2.1 ++ [32] ++ decL x.2.2.2 ++ [32]))] (more / 61 % 2) = some (.str (tx y)) ∧ y = a ++ [32] ++ b ++ [32] ∧ Fine a ∧ Fine b ∧ numF a = some s0 ∧ numF b = some s1 := by
          rw [e90]
          rcases two_of (V.str (tx [57, 32, 48, 32])) (V.str (tx (decL x.2.2.1 ++ [32] ++ decL x.2.2.2 ++ [32]))) (more / 61) with ⟨_, e⟩ | ⟨_, e⟩
          · exact ⟨_, [57], [48], 9, 0, e, rfl, f9, f0, by decide +kernel, by decide +kernel⟩
          · exact ⟨_, decL x.2.2.1, decL x.2.2.2, _, _, e, rfl, fr, fp, num_of_dec r0' (by omega), num_of_dec p0' (by omega)⟩
        have ox1 := ox.name
        have R := readable fa.loose fb.loose (fine_name ox1).loose f1.loose (thing_is (z := 1) ox1.ne (by decide +kernel) na nb)
        have inH : x.1 ∈ (heldOf ths).map (·.2) := by
          rw [held_map]
          exact List.mem_map.mpr ⟨x, hx, rfl⟩
        have la := fa.len
        have lb := fb.len
        have lx := ox1.len
        have ly : y.length ≤ 26 := by
          rw [eab]
          simp only [List.length_append, List.length_singleton]
          omega
        have e1 : (" 1" : Str) = tx [32, 49] := by decide +kernel
        have zc : (tx y).length + (tx x.1).length ≤ sizeLine := by
          rw [tx_len, tx_len]
          omega
        have zd : (tx y ++ tx x.1).length + (" 1" : Str).length ≤ sizeLine := by
          rw [e1, tx_app, tx_len, tx_len, List.length_append]
          show _ + _ + 2 ≤ sizeLine
          omega
        have ej : tx y ++ tx x.1 ++ (" 1" : Str) = tx (TL.joinL [32] [a, b, x.1, [49]]) := by
          rw [e1, tx_app, tx_app, join4, eab]
          refine congrArg tx ?_
          simp
        refine fin_other rfl (S2 _ _ hp) (by omega) (wrong_add N G gc R ?_ (.twice x.1 1 (s0, s1) ox1 v1 inH) (.inr (.inr (.inr (.inr (.inr (.inr (.inl ⟨rfl, rfl⟩)))))))) (fun R2 hR => ?_) fun H' q l rows' a b c d => k H' q l rows' _ (S2.trans a) b c d
        · rw [len_join4]
          show _ + _ + _ + 1 + 3 ≤ 50
          omega
        · refine ⟨_, rfl, (by show 2 ≤ sizeLine; decide), fun l2 gl2 => ?_⟩
          have T3 := fun o => same_new (o := o) gl2
          refine ⟨_, rfl, _, _, rfl, rfl, ⟨by decide, by decide⟩, _, _, rfl, rfl, (by show (0 : Int) < 2; decide), l2, _, _, _, rfl, rfl, SqL.of upd_same, ey, _, rfl, q, _, _, _, rfl, rfl, SqL.of (T3 _ _ _ hq2), atI_nat (j := 2) rfl, _, _, rfl, rfl, zc, _, _, rfl, rfl, zd, ?_⟩
          rw [ej]
          exact hR _ (T3 _)
end

end K11

namespace K11
open PySem L2 Ck TS2 TX TB
/-! one table's rows in another order -/
def thsOf (L : Held) (vals : Name → Int) (S : List Seat) : List Thng := S.map fun s => (whoN L s, vals (whoN L s), s)
theorem who_in {L : Held} (nd : (L.map (·.1)).Nodup) {s : Seat} (h : s ∈ L.map (·.1)) : (s, whoN L s) ∈ L := by
  obtain ⟨n, hn⟩ := getN_is h
  rw [who_of hn]
  exact getN_mem hn
theorem held_ths (L : Held) (vals : Name → Int) (S : List Seat) : heldOf (thsOf L vals S) = S.map fun s => (s, whoN L s) := by
  unfold heldOf thsOf
  rw [List.map_map]
  rfl
theorem mem_ths {L : Held} {vals : Name → Int} {S : List Seat} (nd : (L.map (·.1)).Nodup) (h : ∀ s, s ∈ S ↔ s ∈ L.map (·.1)) (x : Seat × Name) : x ∈ heldOf (thsOf L vals S) ↔ x ∈ L := by
  rw [held_ths]
  constructor
  · intro z
    obtain ⟨s, hs, rfl⟩ := List.mem_map.mp z
    exact who_in nd ((h s).mp hs)
  · intro z
    have e : whoN L x.1 = x.2 := who_of (getN_of_mem nd z)
    exact List.mem_map.mpr ⟨x.1, (h x.1).mpr (List.mem_map.mpr ⟨x, z, rfl⟩), by rw [e]⟩
theorem getN_ext {L M : Held} (h1 : (L.map (·.1)).Nodup) (h2 : (M.map (·.1)).Nodup) (h : ∀ x, x ∈ L ↔ x ∈ M) : getN L = getN M := by
  funext s
  cases e : getN L s with
  | none =>
    symm
    refine getN_none.mpr fun z => ?_
    obtain ⟨x, hx, rfl⟩ := List.mem_map.mp z
    exact getN_none.mp e (List.mem_map.mpr ⟨x, (h x).mpr hx, rfl⟩)
  | some n => exact (getN_of_mem h2 ((h _).mp (getN_mem e))).symm
theorem goods_of {c t1 t2 : Int} {ths : List Thng} (ok : ∀ x ∈ ths, NameOk x.1 ∧ M.VOk x.2.1 ∧ (x.2.2 = seatP (hmN c t1 t2 x.1) 0 ∨ x.2.2 = seatP (hmN c t1 t2 x.1) 1)) (n1 : (ths.map (·.1)).Nodup) (n2 : (ths.map (·.2.2)).Nodup) : Goods c t1 t2 ths := by
  intro i hi
  obtain ⟨o1, o2, o3⟩ := ok _ (List.getElem_mem hi)
  have before : ∀ {β : Type} (f : Thng → β), (ths.map f).Nodup → f ths[i] ∉ (ths.take i).map f := fun f nd z => by
    obtain ⟨y, hy, ey⟩ := List.mem_map.mp z
    obtain ⟨j, hj, rfl⟩ := List.getElem_of_mem hy
    rw [List.length_take] at hj
    have hj2 : j < ths.length := by omega
    have e2 : (ths.take i)[j]'(by rw [List.length_take]; omega) = ths[j] := List.getElem_take
    rw [e2] at ey
    have e3 : (ths.map f)[j]'(by rw [List.length_map]; omega) = (ths.map f)[i]'(by rw [List.length_map]; omega) := by rw [List.getElem_map, List.getElem_map]; exact ey
    have := (List.getElem_inj nd).mp e3
    omega
  refine ⟨o1, o2, ?_, o3, ?_⟩
  · rw [held_map]
    exact before (·.1) n1
  · refine getN_none.mpr ?_
    have e : (heldOf (ths.take i)).map (·.1) = (ths.take i).map (·.2.2) := by
      unfold heldOf
      rw [List.map_map]
      rfl
    rw [e]
    exact before (·.2.2) n2
theorem vals_ths : ∀ {ths : List Thng} (f : Name → Int), (ths.map (·.1)).Nodup → ∀ x ∈ ths, valsOf f ths x.1 = x.2.1 := by
  intro ths
  induction ths with
  | nil => intro f _ x hx; cases hx
  | cons y r ih =>
    intro f nd x hx
    rw [List.map_cons, List.nodup_cons] at nd
    show valsOf (fun m => if m = y.1 then y.2.1 else f m) r x.1 = x.2.1
    rcases List.mem_cons.mp hx with rfl | hx
    · have keep : ∀ (l : List Thng) (f : Name → Int) (m : Name), m ∉ l.map (·.1) → valsOf f l m = f m := by
        intro l
        induction l with
        | nil => intro f m _; rfl
        | cons z l ih2 =>
          intro f m hm
          rw [List.map_cons] at hm
          show valsOf (fun k => if k = z.1 then z.2.1 else f k) l m = f m
          rw [ih2 _ m fun q => hm (List.mem_cons_of_mem _ q)]
          exact if_neg fun q => hm (by rw [q]; exact List.mem_cons_self ..)
      rw [keep r _ x.1 nd.1]
      exact if_pos rfl
    · exact ih _ nd.2 x hx
/-- what the law draws, and its nests in order -/
structure Base (c t1 t2 : Int) (L : Held) (vals : Name → Int) (S : List Seat) (rows : List Name) : Prop where
  good : GoodT c t1 t2 L
  ok : ∀ m ∈ L.map (·.2), M.VOk (vals m)
  len : L.length ≤ 14
  so : S.Pairwise LtS
  mem : ∀ s, s ∈ S ↔ s ∈ L.map (·.1)
  eq : rows = headT c t1 t2 :: S.map (rowL L vals)
section
variable {c t1 t2 : Int} {L : Held} {vals : Name → Int} {S : List Seat} {rows : List Name}
theorem Base.hd (b : Base c t1 t2 L vals S rows) : HdOk c t1 t2 := by
  have g := b.good
  have := g.c0
  have := g.c1
  have := g.a0
  have := g.a1
  have := g.b0
  have := g.b1
  exact ⟨by omega, by omega, by omega, by omega, by omega, by omega⟩
theorem Base.goodC (b : Base c t1 t2 L vals S rows) : M.GoodC c t1 t2 := ⟨b.good.c0, b.good.c1, b.good.a0, b.good.a1, b.good.b0, b.good.b1⟩
theorem Base.thing (b : Base c t1 t2 L vals S rows) {s : Seat} (h : s ∈ L.map (·.1)) : ThOk (whoN L s, vals (whoN L s), s) ∧ (s = seatP (hmN c t1 t2 (whoN L s)) 0 ∨ s = seatP (hmN c t1 t2 (whoN L s)) 1) := by
  have hm := who_in b.good.ns h
  have i := b.good.inT _ hm
  obtain ⟨i0, i1, i2⟩ := i
  have c1 := b.good.c1
  have i0 : s.1 = 0 ∨ s.1 = 1 := i0
  have i1 : 0 ≤ s.2 := i1
  have i2 : s.2 < c := i2
  exact ⟨⟨b.good.ok _ hm, b.ok _ (List.mem_map.mpr ⟨_, hm, rfl⟩), by show 0 ≤ s.1; omega, by show s.1 ≤ 1; omega, i1, by show s.2 < 1000; omega⟩, b.good.home _ hm⟩
theorem Base.nodup (b : Base c t1 t2 L vals S rows) {U : List Seat} (nd : U.Nodup) (m : ∀ s, s ∈ U ↔ s ∈ L.map (·.1)) : ((thsOf L vals U).map (·.1)).Nodup ∧ ((thsOf L vals U).map (·.2.2)).Nodup := by
  constructor
  · unfold thsOf
    rw [List.map_map]
    refine List.pairwise_map.mpr (List.Pairwise.imp_of_mem ?_ nd)
    intro s r hs hr ne e
    refine ne ?_
    have e : whoN L s = whoN L r := e
    have h1 := who_in b.good.ns ((m s).mp hs)
    have h2 := who_in b.good.ns ((m r).mp hr)
    exact nodup_fst b.good.nn h1 h2 e
  · unfold thsOf
    rw [List.map_map]
    have e : ((fun x : Thng => x.2.2) ∘ fun s : Seat => (whoN L s, vals (whoN L s), s)) = id := rfl
    rw [e, List.map_id]
    exact nd
theorem Base.goods (b : Base c t1 t2 L vals S rows) {U : List Seat} (nd : U.Nodup) (m : ∀ s, s ∈ U ↔ s ∈ L.map (·.1)) : Goods c t1 t2 (thsOf L vals U) := by
  obtain ⟨n1, n2⟩ := b.nodup nd m
  refine goods_of (fun x hx => ?_) n1 n2
  obtain ⟨s, hs, rfl⟩ := List.mem_map.mp hx
  obtain ⟨t, h⟩ := b.thing ((m s).mp hs)
  exact ⟨t.name, t.val, h⟩
theorem Base.vals_eq (b : Base c t1 t2 L vals S rows) {U : List Seat} (nd : U.Nodup) (m : ∀ s, s ∈ U ↔ s ∈ L.map (·.1)) (f : Name → Int) : ∀ n ∈ L.map (·.2), valsOf f (thsOf L vals U) n = vals n := by
  intro n hn
  obtain ⟨x, hx, rfl⟩ := List.mem_map.mp hn
  have hs : x.1 ∈ L.map (·.1) := List.mem_map.mpr ⟨x, hx, rfl⟩
  have e : whoN L x.1 = x.2 := who_of (getN_of_mem b.good.ns hx)
  have z := vals_ths f (b.nodup nd m).1 (whoN L x.1, vals (whoN L x.1), x.1) (List.mem_map.mpr ⟨x.1, (m _).mpr hs, rfl⟩)
  have z : valsOf f (thsOf L vals U) (whoN L x.1) = vals (whoN L x.1) := z
  rw [e] at z
  exact z
theorem Base.sl (b : Base c t1 t2 L vals S rows) {U : List Seat} (nd : U.Nodup) (m : ∀ s, s ∈ U ↔ s ∈ L.map (·.1)) : U.length ≤ 14 := by
  have q := nodup_len U (L.map (·.1)) nd fun s hs => (m s).mp hs
  rw [List.length_map] at q
  have := b.len
  omega
theorem Base.note (b : Base c t1 t2 L vals S rows) {U : List Seat} (nd : U.Nodup) (m : ∀ s, s ∈ U ↔ s ∈ L.map (·.1)) : Note (headT c t1 t2 :: U.map (rowL L vals)) c t1 t2 (thsOf L vals U) := by
  refine ⟨?_, b.hd, fun x hx => ?_, ?_⟩
  · unfold thsOf
    rw [List.map_map]
    rfl
  · obtain ⟨s, hs, rfl⟩ := List.mem_map.mp hx
    exact (b.thing ((m s).mp hs)).1
  · unfold thsOf
    rw [List.length_map]
    exact b.sl nd m
theorem Note.parse {rows : List Name} {c t1 t2 : Int} {ths : List Thng} (h : Note rows c t1 t2 ths) : parseT (textL rows) = some ((c, t1, t2), ths) := by
  obtain ⟨h1, h2⟩ := h.heads
  rw [parse_rows (by rw [h.eq]; exact List.cons_ne_nil _ _) fun r hr => (h.row_ok r hr).1, h.eq]
  show (headF (cutsAt 32 (headT c t1 t2))).bind (fun x => (allF ((ths.map rowOf).map (cutsAt 32))).map fun t => (x, t)) = _
  rw [h1, h2]
  rfl
theorem Note.ch {rows : List Name} {c t1 t2 : Int} {ths : List Thng} (h : Note rows c t1 t2 ths) : ∀ x ∈ textL rows, x < 256 := textL_ch fun r hr => (h.row_ok r hr).2
/-- rows of tables that tell the same -/
theorem rows_same {L M : Held} {f g : Name → Int} {S U : List Seat} (e : getN L = getN M) (nd : (M.map (·.1)).Nodup) (hS : S.Pairwise LtS) (hU : U.Pairwise LtS) (mS : ∀ s, s ∈ S ↔ s ∈ L.map (·.1)) (mU : ∀ s, s ∈ U ↔ s ∈ M.map (·.1)) (v : ∀ n ∈ M.map (·.2), f n = g n) : S.map (rowL L f) = U.map (rowL M g) := by
  have mem : ∀ s, s ∈ L.map (·.1) ↔ s ∈ M.map (·.1) := fun s => by
    have : getN L s ≠ none ↔ getN M s ≠ none := by rw [e]
    constructor
    · intro z
      by_cases q : s ∈ M.map (·.1)
      · exact q
      · exact (this.mp (fun y => getN_none.mp y z) (getN_none.mpr q)).elim
    · intro z
      by_cases q : s ∈ L.map (·.1)
      · exact q
      · exact (this.mpr (fun y => getN_none.mp y z) (getN_none.mpr q)).elim
  have eS : S = U := sorted_uniq hS hU fun s => (mS s).trans ((mem s).trans (mU s).symm)
  subst eS
  refine List.map_congr_left fun s hs => ?_
  have w : whoN L s = whoN M s := by
    unfold whoN
    rw [e]
  have hm := who_in nd ((mU s).mp hs)
  unfold rowL
  rw [w, v _ (List.mem_map.mpr ⟨_, hm, rfl⟩)]
end
theorem good_not_bad {A : Ad} {c t1 t2 : Int} {L : Held} {x : Thng} {D : Addr} (hc : 1 ≤ c) (g : GoodPut c t1 t2 L x) (b : BadPut A c t1 t2 L x D) : False := by
  cases b with
  | name n v s h => exact h g.name
  | value n v s _ h => exact h g.val
  | twice n v s _ _ h => exact g.new h
  | nest n v s _ _ _ h =>
    refine h ?_
    rcases g.home with e | e
    · have e : s = seatP (hmN c t1 t2 n) 0 := e
      rw [e]
      exact home_in hc n (.inl rfl)
    · have e : s = seatP (hmN c t1 t2 n) 1 := e
      rw [e]
      exact home_in hc n (.inr rfl)
  | home n v s _ _ _ _ h => exact h g.home
  | taken n v s _ _ _ _ h => exact h g.free
/-- a table that tells the same as L and vals -/
structure Tells (L : Held) (vals : Name → Int) (M : Held) (f : Name → Int) : Prop where
  mem : ∀ x, x ∈ M ↔ x ∈ L
  nd : (M.map (·.1)).Nodup
  get : getN L = getN M
  len : M.length = L.length
  val : ∀ n ∈ L.map (·.2), f n = vals n
theorem Tells.names {L M : Held} {vals f : Name → Int} (t : Tells L vals M f) (n : Name) : n ∈ M.map (·.2) ↔ n ∈ L.map (·.2) := by
  constructor
  · intro h
    obtain ⟨x, hx, rfl⟩ := List.mem_map.mp h
    exact List.mem_map.mpr ⟨x, (t.mem x).mp hx, rfl⟩
  · intro h
    obtain ⟨x, hx, rfl⟩ := List.mem_map.mp h
    exact List.mem_map.mpr ⟨x, (t.mem x).mpr hx, rfl⟩
theorem Tells.seats {L M : Held} {vals f : Name → Int} (t : Tells L vals M f) (s : Seat) : s ∈ M.map (·.1) ↔ s ∈ L.map (·.1) := by
  constructor
  · intro h
    obtain ⟨x, hx, rfl⟩ := List.mem_map.mp h
    exact List.mem_map.mpr ⟨x, (t.mem x).mp hx, rfl⟩
  · intro h
    obtain ⟨x, hx, rfl⟩ := List.mem_map.mp h
    exact List.mem_map.mpr ⟨x, (t.mem x).mpr hx, rfl⟩
theorem Tells.of {L M : Held} {vals f : Name → Int} (nL : (L.map (·.1)).Nodup) (nM : (M.map (·.1)).Nodup) (mem : ∀ x, x ∈ M ↔ x ∈ L) (val : ∀ n ∈ L.map (·.2), f n = vals n) : Tells L vals M f :=
  ⟨mem, nM, getN_ext nL nM fun x => (mem x).symm, get_len nM nL fun s => by rw [getN_ext nL nM fun x => (mem x).symm], val⟩
/-- its rows -/
theorem Tells.rows {L M : Held} {vals f : Name → Int} (t : Tells L vals M f) (nL : (L.map (·.1)).Nodup) {S U : List Seat} (hS : S.Pairwise LtS) (hU : U.Pairwise LtS) (mS : ∀ s, s ∈ S ↔ s ∈ L.map (·.1)) (mU : ∀ s, s ∈ U ↔ s ∈ M.map (·.1)) : U.map (rowL M f) = S.map (rowL L vals) :=
  rows_same t.get.symm nL hU hS mU mS t.val
theorem parse_inj {rows : List Name} {c t1 t2 c' t1' t2' : Int} {ths ths' : List Thng} (N : Note rows c t1 t2 ths) (h : parseT (textL rows) = some ((c', t1', t2'), ths')) : c = c' ∧ t1 = t1' ∧ t2 = t2' ∧ ths = ths' := by
  rw [N.parse] at h
  have h := Option.some.inj h
  obtain ⟨z1, z2⟩ := Prod.mk.inj h
  obtain ⟨z3, z4⟩ := Prod.mk.inj z1
  obtain ⟨z5, z6⟩ := Prod.mk.inj z4
  exact ⟨z3, z5, z6, z2⟩
theorem parse_some {rows : List Name} {c t1 t2 : Int} {ths : List Thng} (N : Note rows c t1 t2 ths) {p : Prop} (h : parseT (textL rows) = none) : p := by
  rw [N.parse] at h
  cases h
theorem turn_seats (S : List Seat) (m : Nat) (nd : S.Nodup) : ((S.drop m).reverse ++ S.take m).Nodup ∧ ∀ s, s ∈ (S.drop m).reverse ++ S.take m ↔ s ∈ S := by
  have e : S.take m ++ S.drop m = S := List.take_append_drop m S
  constructor
  · rw [← e] at nd
    obtain ⟨n1, n2, n3⟩ := List.nodup_append.mp nd
    refine List.nodup_append.mpr ⟨(List.pairwise_reverse.mpr (List.Pairwise.imp (fun h => Ne.symm h) n2)), n1, fun a ha b hb => ?_⟩
    exact fun z => n3 b hb a (List.mem_reverse.mp ha) z.symm
  · intro s
    have e2 : s ∈ S ↔ s ∈ S.take m ++ S.drop m := by rw [e]
    rw [e2, List.mem_append, List.mem_append, List.mem_reverse]
    exact Or.comm
theorem turn_rows {rows : List Name} {h : Name} {S : List Seat} {f : Seat → Name} (e : rows = h :: S.map f) (m : Nat) : rows.take 1 ++ (rows.drop (m + 1)).reverse ++ (rows.drop 1).take m = h :: ((S.drop m).reverse ++ S.take m).map f := by
  rw [e]
  show [h] ++ ((S.map f).drop m).reverse ++ (S.map f).take m = _
  rw [List.map_append, List.map_reverse, List.map_drop, List.map_take]
  simp
/-! less, and again -/
theorem good_filter {c t1 t2 : Int} {L : Held} (g : GoodT c t1 t2 L) (q : Seat × Name → Bool) : GoodT c t1 t2 (L.filter q) := by
  have sb : (L.filter q).Sublist L := List.filter_sublist
  exact ⟨(sb.map _).nodup g.ns, (sb.map _).nodup g.nn, fun x hx => g.ok x (sb.subset hx), fun x hx => g.home x (sb.subset hx), g.c0, g.c1, g.a0, g.a1, g.b0, g.b1⟩
theorem mem_names_filter {L : Held} {q : Seat × Name → Bool} {m : Name} (h : m ∈ (L.filter q).map (·.2)) : m ∈ L.map (·.2) := by
  obtain ⟨x, hx, rfl⟩ := List.mem_map.mp h
  exact List.mem_map.mpr ⟨x, (List.mem_filter.mp hx).1, rfl⟩
theorem Base.filter {c t1 t2 : Int} {L : Held} {vals : Name → Int} {S : List Seat} {rows : List Name} (b : Base c t1 t2 L vals S rows) (q : Seat × Name → Bool) {U : List Seat} (hU : U.Pairwise LtS) (mU : ∀ s, s ∈ U ↔ s ∈ (L.filter q).map (·.1)) : Base c t1 t2 (L.filter q) vals U (headT c t1 t2 :: U.map (rowL (L.filter q) vals)) :=
  ⟨good_filter b.good q, fun m hm => b.ok m (mem_names_filter hm), Nat.le_trans (List.length_filter_le ..) b.len, hU, mU, rfl⟩
theorem Base.vals {c t1 t2 : Int} {L : Held} {vals f : Name → Int} {S : List Seat} {rows : List Name} (b : Base c t1 t2 L vals S rows) (ok : ∀ m ∈ L.map (·.2), M.VOk (f m)) {U : List Seat} (hU : U.Pairwise LtS) (mU : ∀ s, s ∈ U ↔ s ∈ L.map (·.1)) : Base c t1 t2 L f U (headT c t1 t2 :: U.map (rowL L f)) :=
  ⟨b.good, ok, b.len, hU, mU, rfl⟩
theorem Base.things {c t1 t2 : Int} {L : Held} {vals : Name → Int} {S : List Seat} {rows : List Name} (b : Base c t1 t2 L vals S rows) : ∀ x ∈ L, NameOk x.2 ∧ (0 ≤ x.1.1 ∧ x.1.1 ≤ 1) ∧ (0 ≤ x.1.2 ∧ x.1.2 < 1000) ∧ M.VOk (vals x.2) := fun x hx => by
  have hs : x.1 ∈ L.map (·.1) := List.mem_map.mpr ⟨x, hx, rfl⟩
  obtain ⟨t, _⟩ := b.thing hs
  have e : whoN L x.1 = x.2 := who_of (getN_of_mem b.good.ns hx)
  rw [e] at t
  exact ⟨t.name, ⟨t.r0, t.r1⟩, ⟨t.p0, t.p1⟩, t.val⟩
theorem gone_iff {L : Held} (ns : (L.map (·.1)).Nodup) (nn : (L.map (·.2)).Nodup) {s : Seat} {n : Name} (h : (s, n) ∈ L) {x : Seat × Name} (hx : x ∈ L) : x.2 ≠ n ↔ x.1 ≠ s := by
  constructor
  · intro z e
    have e1 := getN_of_mem ns h
    have e2 : getN L s = some x.2 := e ▸ getN_of_mem ns hx
    rw [e1] at e2
    exact z (Option.some.inj e2).symm
  · intro z e
    exact z (nodup_fst nn hx h e)

end K11

namespace K11
open PySem L2 Ck TS2 TX TB
/-! a note that holds, read and written -/
theorem keep_same {F : List Addr} {H H1 H2 : Hp} (S : Same H H1) (kf : KeepF F H1 H2) (hF : ∀ b ∈ F, H b = none) : Same H H2 := fun b o e => kf b o (fun hb => by rw [hF b hb] at e; cases e) (S b o e)
def sp__law_good : Sp := fun vs H Q _ => ∃ (tt p he vd hd : Addr) (nz : Name) (more : Int) (rows : List Name) (c t1 t2 : Int) (L : Held) (vals : Name → Int) (kv : List (Key × V)) (S : List Seat) (nm : List Name), vs = [.ref tt, .ref p, .ref he, .ref vd, .ref hd, .str (tx nz), .int more] ∧ Base c t1 t2 L vals S rows ∧
  H tt = some (.tup [.int c, .int t1, .int t2]) ∧ H p = some (.lst (wlist rows)) ∧ H he = some (.dT (hk L)) ∧ H vd = some (.dK kv) ∧ (∀ m ∈ L.map (·.2), valV kv (.inr (tx m)) = some (.int (vals m))) ∧ kv.length ≤ 14 ∧ HomesAt H hd nm (hmN c t1 t2) ∧ nz ∈ nm ∧ NameOk nz ∧ nz ∉ L.map (·.2) ∧ ∀ H', Same H H' → Q (.bl true) H'
theorem tab_other {C : Addr} {H H' : Hp} {x : Addr} {F G : List Addr} {c t1 t2 : Int} {L : Held} {f : Name → Int} (t : TabAt C H x F c t1 t2 L f) (kf : KeepF G H H') (d : ∀ b ∈ F, b ∉ G) (tp : ∀ b ys, H b = some (.tup ys) → b ∉ G) : TabAt C H' x F c t1 t2 L f := t.keep (fun b hb => by
  obtain ⟨o, h, _⟩ := t.has b hb
  rw [h]
  exact kf b o (d b hb) h) fun b ys h => kf b _ (tp b ys h) h
theorem cut_mid_l (rows : List Name) (i j : Nat) : cutV (wlist rows) (some (i : Int)) (some (j : Int)) = wlist ((rows.drop i).take (j - i)) := by
  unfold cutV wlist
  rw [HT.sIx_nat, HT.sIx_nat, List.length_map, ← List.map_drop, ← List.map_take]
  refine congrArg (List.map _) ?_
  by_cases h : i ≤ rows.length
  · rw [Nat.min_eq_left h]
    by_cases h2 : j ≤ rows.length
    · rw [Nat.min_eq_left h2]
    · rw [Nat.min_eq_right (by omega), List.take_of_length_le (by rw [List.length_drop]; omega), List.take_of_length_le (by rw [List.length_drop]; omega)]
  · have e1 : rows.drop (min i rows.length) = [] := List.drop_eq_nil_of_le (by omega)
    have e2 : rows.drop i = [] := List.drop_eq_nil_of_le (by omega)
    rw [e1, e2, List.take_nil, List.take_nil]
section
variable {P : Program} {w : World} {K : PySem.W.Frag} {mg : Str → Option Value} {base : Heap} {A : Ad}
theorem ok__law_good (T : Tx K mg A) : FnOk P w K mg base CX0 7 A.a__law_good A.d__law_good ["_law_told_here", "_law_rows_here", "_law_held", "_law_values", "_law_homes_here", "_law_name", "_law_more"] sp__law_good := by
  refine T.F__law_good.ok sc__law_good (fun vs H Q E h => ?_) (fun cdv Ar outer s H vs Q E hr h => ?_)
  · obtain ⟨tt, p, he, vd, hd, nz, more, rows, c, t1, t2, L, vals, kv, S, nm, rfl, _⟩ := h
    rfl
  · obtain ⟨tt, p, he, vd, hd, nz, more, rows, c, t1, t2, L, vals, kv, S, nm, rfl, B, htt, hp, hhe, hhv, hva, hkl, hho, hnz, hok, hnew, k⟩ := h
    refine ⟨_, 
      (pss_cons (ps_set (i := 7) sc__law_good.nd rfl (Or.inl rfl) (pe_make T.k_Nests (ok_Nests_init T) (hr.mono (by decide)) (by rfl) T.g_Nests T.b_Nests_init .nil TB.passF (pa_cons (pe_ix (r := rIxT K) ix_tup (pv 0) pe_int (fun _ _ => rfl)) (pa_cons (pe_ix (r := rIxT K) ix_tup (pv 0) pe_int (fun _ _ => rfl)) (pa_cons (pe_ix (r := rIxT K) ix_tup (pv 0) pe_int (fun _ _ => rfl)) pa_nil)))))
      (pss_cons (ps_for PassesOwn.never rfl (pi_list (pe_callTy (call_list_dT rfl) (by rfl) T.m_list (by decide +kernel) (pa_cons (pv 2) pa_nil))) (pg_name (i := 8) sc__law_good.nd rfl (Or.inl rfl)) 
        (pss_one (ps_expr (pe_meth (pv 7) T.cl_Nests T.m_Nests_put_at (ok_Nests_put_at T) (hr.mono (by decide)) T.b_Nests_put_at .nil TB.passF (pa_cons (pe_dget (hu_of hr) (pv 2) (pv 8) (fun _ _ => rfl)) (pa_cons (pe_dget (hu_of hr) (pv 3) (pe_dget (hu_of hr) (pv 2) (pv 8) (fun _ _ => rfl)) (fun _ _ => rfl)) (pa_cons (pv 8) pa_nil)))))))
      (pss_cons (ps_set (i := 9) sc__law_good.nd rfl (Or.inl rfl) (pe_call (ok_written T) (hr.mono (by decide)) (by rfl) T.g_written T.F_written.kp T.b_written .nil pass0 (pa_cons (pv 7) pa_nil)))
      (pss_cons (ps_if (PW.pt (pw_or (pt_not (pt_val (pe_callB call_isi (by rfl) T.m_isinstance (by decide +kernel) (pa_cons (pv 9) (pa_cons (pe_bltn (v := .ty "str") (u := .type "str") (by rfl) T.m_str (by decide +kernel) rfl) pa_nil))))) (pw_or (pt_cmpR op_ne (pv 9) (pe_call (ok__law_text T) (hr.mono (by decide)) (by rfl) T.g__law_text T.F__law_text.kp T.b__law_text .nil pass0 (pa_cons (pv 1) pa_nil)) (nomark _)) (pw_or1 (pt_cmpR op_ne (pe_call (ok_written T) (hr.mono (by decide)) (by rfl) T.g_written T.F_written.kp T.b_written .nil pass0 (pa_cons (pv 7) pa_nil)) (pv 9) (nomark _)))))) 
        (pss_one (ps_ret pe_bl)) pss_nil)
      (pss_cons (ps_set (i := 10) sc__law_good.nd rfl (Or.inl rfl) (pe_op op_add pe_int (pe_op op_mod (pv 6) (pe_callB call_len_seq (by rfl) T.m_len PySem.boot_len (pa_cons (pv 1) pa_nil)))))
      (pss_cons (ps_set (i := 11) sc__law_good.nd rfl (Or.inl rfl) (pe_op op_cat (pe_op op_cat (pe_slice sl_list (pv 1) po_none (po_some pe_int)) (TB.pe_rev (pe_slice sl_list (pv 1) (po_some (pv 10)) po_none) (pe_un un_neg pe_int))) (pe_slice sl_list (pv 1) (po_some pe_int) (po_some (pv 10)))))
      (pss_cons (ps_set (i := 12) sc__law_good.nd rfl (Or.inl rfl) (pe_call (ok_read T) hr (by rfl) T.g_read T.F_read.kp T.b_read .nil TB.passF (pa_cons (pe_call (ok__law_text T) (hr.mono (by decide)) (by rfl) T.g__law_text T.F__law_text.kp T.b__law_text .nil pass0 (pa_cons (pv 11) pa_nil)) pa_nil)))
      (pss_cons (ps_if (PW.pt (pw_or (pt_not (pt_val (pe_call (ok__law_alike T) (hr.mono (by decide)) (by rfl) T.g__law_alike T.F__law_alike.kp T.b__law_alike .nil pass0 (pa_cons (pv 12) (pa_cons (pv 0) (pa_cons (pv 2) (pa_cons (pv 3) pa_nil))))))) (pw_or1 (pt_not (pt_val (pe_call (ok__law_alike T) (hr.mono (by decide)) (by rfl) T.g__law_alike T.F__law_alike.kp T.b__law_alike .nil pass0 (pa_cons (pe_call (ok_read T) hr (by rfl) T.g_read T.F_read.kp T.b_read .nil TB.passF (pa_cons (pv 9) pa_nil)) (pa_cons (pv 0) (pa_cons (pv 2) (pa_cons (pv 3) pa_nil)))))))))) 
        (pss_one (ps_ret pe_bl)) pss_nil)
      (pss_cons (ps_if (pt_cmpR (TB.op_neDT0 (hu_of hr)) (pv 2) pe_dnewT (nomark _)) 
        (pss_cons (ps_set (i := 13) sc__law_good.nd rfl (Or.inr rfl) (pe_ix (r := rIxL K) ix_list (pe_callTy (call_list_dT rfl) (by rfl) T.m_list (by decide +kernel) (pa_cons (pv 2) pa_nil)) (pe_op op_mod (pv 6) (pe_callB call_len_dT (by rfl) T.m_len PySem.boot_len (pa_cons (pv 2) pa_nil))) (fun _ _ => rfl)))
        (pss_cons (ps_if (pt_cmpR op_ne (pe_meth (pv 12) T.cl_Nests T.m_Nests_take_out (ok_Nests_take_out T) (hr.mono (by decide)) T.b_Nests_take_out .nil TB.passF (pa_cons (pe_dget (hu_of hr) (pv 2) (pv 13) (fun _ _ => rfl)) pa_nil)) (pe_dget (hu_of hr) (pv 3) (pe_dget (hu_of hr) (pv 2) (pv 13) (fun _ _ => rfl)) (fun _ _ => rfl)) (nomark _)) 
          (pss_one (ps_ret pe_bl)) pss_nil)
        (pss_cons (ps_set (i := 14) sc__law_good.nd rfl (Or.inl rfl) (pe_callTy (TS6.call_dictPT rfl (hu64 hr)) (by rfl) T.m_dict (by decide +kernel) (pa_cons (pe_lc (own := [("_law_one", 17)]) (g := gName 17) (by rfl) sc__law_good.nd (pi_list (pe_callTy (call_list_dT rfl) (by rfl) T.m_list (by decide +kernel) (pa_cons (pv 2) pa_nil))) (blkOk_by (own := [("_law_one", 17)]) (N := ["_law_told_here", "_law_rows_here", "_law_held", "_law_values", "_law_homes_here", "_law_name", "_law_more", "_law_table_here", "_law_nest", "_law_found", "_law_cut", "_law_turned", "_law_back", "_law_gone", "_law_less", "_law_again", "_law_words", "_law_one"]) (sc := defScope s__law_good) (by decide +kernel)) (fun _ _ _ _ _ => (pg_name (i := 17) sc__law_good.nd rfl (Or.inl rfl))) (fun _ _ _ _ _ => (pts_one (pt_cmpR (r := rNeD K) (op_neD hr.units) (pv 17) (pv 13) (nomark _)))) (fun _ _ _ _ _ => (pe_tup (pa_cons (pv 17) (pa_cons (pe_dget (hu_of hr) (pv 2) (pv 17) (fun _ _ => rfl)) pa_nil))))) pa_nil)))
        (pss_cons (ps_if (PW.pt (pw_or (pt_cmpR op_ne (pe_call (ok_written T) (hr.mono (by decide)) (by rfl) T.g_written T.F_written.kp T.b_written .nil pass0 (pa_cons (pv 12) pa_nil)) (pe_call (ok__law_text T) (hr.mono (by decide)) (by rfl) T.g__law_text T.F__law_text.kp T.b__law_text .nil pass0 (pa_cons (pe_op op_cat (pe_slice sl_list (pv 1) po_none (po_some pe_int)) (pe_call (ok__law_rows T) (hr.mono (by decide)) (by rfl) T.g__law_rows T.F__law_rows.kp T.b__law_rows .nil pass0 (pa_cons (pv 14) (pa_cons (pv 3) pa_nil)))) pa_nil)) (nomark _)) (pw_or1 (pt_cmpR op_ne (pe_call (ok_written T) (hr.mono (by decide)) (by rfl) T.g_written T.F_written.kp T.b_written .nil pass0 (pa_cons (pv 7) pa_nil)) (pv 9) (nomark _))))) 
          (pss_one (ps_ret pe_bl)) pss_nil)
        (pss_cons (ps_expr (pe_meth (pv 12) T.cl_Nests T.m_Nests_put_at (ok_Nests_put_at T) (hr.mono (by decide)) T.b_Nests_put_at .nil TB.passF (pa_cons (pe_dget (hu_of hr) (pv 2) (pv 13) (fun _ _ => rfl)) (pa_cons pe_int (pa_cons (pv 13) pa_nil)))))
        (pss_cons (ps_set (i := 15) sc__law_good.nd rfl (Or.inl rfl) (pe_callTy call_dictD (by rfl) T.m_dict (by decide +kernel) (pa_cons (pv 3) pa_nil)))
        (pss_cons (ps_dput (hu_of hr) (pv 15) (pe_dget (hu_of hr) (pv 2) (pv 13) (fun _ _ => rfl)) pe_int rfl)
        (pss_one (ps_ret (pe_cmpR op_eq (pe_call (ok_written T) (hr.mono (by decide)) (by rfl) T.g_written T.F_written.kp T.b_written .nil pass0 (pa_cons (pv 12) pa_nil)) (pe_call (ok__law_text T) (hr.mono (by decide)) (by rfl) T.g__law_text T.F__law_text.kp T.b__law_text .nil pass0 (pa_cons (pe_op op_cat (pe_slice sl_list (pv 1) po_none (po_some pe_int)) (pe_call (ok__law_rows T) (hr.mono (by decide)) (by rfl) T.g__law_rows T.F__law_rows.kp T.b__law_rows .nil pass0 (pa_cons (pv 2) (pa_cons (pv 15) pa_nil)))) pa_nil)) (nomark _))))))))))) pss_nil)
      (pss_cons (ps_expr (pe_meth (pv 7) T.cl_Nests T.m_Nests_put_at (ok_Nests_put_at T) (hr.mono (by decide)) T.b_Nests_put_at .nil TB.passF (pa_cons (pv 5) (pa_cons pe_int (pa_cons (pe_ix (r := rIxT K) ix_tup (pe_dget (hu_of hr) (pv 4) (pv 5) (fun _ _ => rfl)) pe_int (fun _ _ => rfl)) pa_nil)))))
      (pss_cons (ps_set (i := 16) sc__law_good.nd rfl (Or.inl rfl) (pe_lst (pa_cons pe_str (pa_cons (pe_callTy call_str_int (by rfl) T.m_str (by decide +kernel) (pa_cons (pe_ix (r := rIxT K) ix_tup (pe_ix (r := rIxT K) ix_tup (pe_dget (hu_of hr) (pv 4) (pv 5) (fun _ _ => rfl)) pe_int (fun _ _ => rfl)) pe_int (fun _ _ => rfl)) pa_nil)) (pa_cons (pv 5) (pa_cons pe_str pa_nil))))))
      (pss_one (ps_ret (pe_cmpR op_eq (pe_call (ok_written T) (hr.mono (by decide)) (by rfl) T.g_written T.F_written.kp T.b_written .nil pass0 (pa_cons (pv 7) pa_nil)) (pe_call (ok__law_text T) (hr.mono (by decide)) (by rfl) T.g__law_text T.F__law_text.kp T.b__law_text .nil pass0 (pa_cons (pe_lst (pa_cons (pe_ix (r := rIxL K) ix_list (pv 1) pe_int (fun _ _ => rfl)) (pa_cons (pe_m1 PySem.F.slot_str_join PySem.F.type_str_join mt_join pe_str (pv 16)) pa_nil))) pa_nil)) (nomark _))))))))))))))), ?_⟩
    have g := B.good
    have hll := B.len
    -- a table
    refine ⟨_, rfl, tt, _, _, _, rfl, rfl, SqT.of htt, atI_nat (j := 0) rfl, _, rfl, tt, _, _, _, rfl, rfl, SqT.of htt, atI_nat (j := 1) rfl, _, rfl, tt, _, _, _, rfl, rfl, SqT.of htt, atI_nat (j := 2) rfl, fun x dx hx hdx nx => ?_⟩
    have Sx : Same H (upd (upd H dx (.own x)) x (.ins A.c_Nests dx [])) := fun b o e => by
      rw [upd_ne (ne_of_none e hx), upd_ne (ne_of_none e hdx)]
      exact e
    refine ⟨x, dx, c, t1, t2, rfl, upd_same, g.c0, g.c1, g.a0, g.a1, g.b0, g.b1, fun H2 F vals0 hT keep hF => ⟨rfl, ?_⟩⟩
    have S2 : Same H H2 := fun b o e => keep b o (Sx b o e) (ne_of_none e hx)
    have hF1 : ∀ b ∈ F, H b = none := fun b hb => by
      rcases hF b hb with e | e
      · rw [e]
        exact hx
      · exact Sx.free e
    -- its things
    refine ⟨_, rfl, he, _, rfl, .inl (S2 _ _ hhe), fun l2 bs hl2 hbs => ?_⟩
    have T1 := fun o => same_new (o := o) hl2
    have hbl : bs.length = L.length := by
      have q := PySem.Paired.length hbs
      rw [hk_len] at q
      exact q.symm
    refine ⟨l2, rfl, ⟨_, SqL.of upd_same⟩, for_list (K := K) (a := l2) (xs := bs.map V.ref) (fun i σ H3 => ∃ (o8 : Option V) (F : List Addr) (f : Name → Int), σ = [some (.ref tt), some (.ref p), some (.ref he), some (.ref vd), some (.ref hd), some (.str (tx nz)), some (.int more), some (.ref x), o8, none, none, none, none, none, none, none, none, none] ∧ Same H H3 ∧ TabAt A.c_Nests H3 x F c t1 t2 (L.take i) f ∧ (∀ b ∈ F, H b = none) ∧ (∀ m ∈ (L.take i).map (·.2), f m = vals m) ∧ l2 ∉ F ∧ H3 l2 = some (.lst (bs.map V.ref)) ∧ ∀ (j : Nat) (b : Addr) (e : Seat × Name), bs[j]? = some b → L[j]? = some e → H3 b = some (.tup (sv e.1)))
      ⟨none, F, vals0, rfl, S2.trans (T1 _), hT.same (T1 _), hF1, fun m hm => (by cases hm), hT.new hl2, upd_same, fun j b e hb he => ?_⟩ (fun i σ H3 _ ⟨_, _, _, _, _, _, _, _, _, h, _⟩ => SqL.of h) ?_ ?_⟩
    · obtain ⟨b', hb1, hb2⟩ := L2.paired_get hbs (i := j) (a := (sk e.1, V.str (tx e.2))) (by unfold hk; rw [List.getElem?_map, he]; rfl)
      obtain rfl : b' = b := Option.some.inj (hb1.symm.trans hb)
      exact T1 _ _ _ hb2
    · rintro i y σ H3 hi ⟨o8, F, f, rfl, S3, hT3, hF3, hf, nl2, hl3, hb3⟩
      have hib : i < bs.length := by
        have := (List.getElem?_eq_some_iff.mp hi).1
        rwa [List.length_map] at this
      have eL : L[i]? = some L[i] := List.getElem?_eq_getElem (by omega)
      have eb : bs[i]? = some bs[i] := List.getElem?_eq_getElem hib
      obtain rfl : y = .ref bs[i] := by
        rw [List.getElem?_map, eb] at hi
        exact (Option.some.inj hi).symm
      have hq := hb3 i _ _ eb eL
      have hm : L[i] ∈ L := List.getElem_mem _
      have hg : getN L (L[i]).1 = some (L[i]).2 := getN_of_mem g.ns hm
      have eH : ∀ H4, Same H3 H4 → DGet H4 he (.ref bs[i]) (some (.str (tx (L[i]).2))) := fun H4 S4 => hk_some hg ▸ DGet.t ((S3.trans S4) _ _ hhe) (k := sk (L[i]).1) (S4 _ _ hq)
      have eV : ∀ H4, Same H3 H4 → DGet H4 vd (.str (tx (L[i]).2)) (some (.int (vals (L[i]).2))) := fun H4 S4 => (hva _ (List.mem_map.mpr ⟨_, hm, rfl⟩)) ▸ DGet.k (k := Sum.inr (tx (L[i]).2)) ((S3.trans S4) _ _ hhv)
      obtain ⟨dx3, fs3, hfi3, _, _, _, fm3⟩ := hT3.ins
      have nin : (L[i]).2 ∉ (L.take i).map (·.2) := fun z => by
        obtain ⟨y, hy, ey⟩ := List.mem_map.mp z
        obtain ⟨j, hj, rfl⟩ := List.getElem_of_mem hy
        rw [List.length_take] at hj
        have e2 : (L.take i)[j]'(by rw [List.length_take]; omega) = L[j]'(by omega) := List.getElem_take
        rw [e2] at ey
        have e3 : (L.map (·.2))[j]'(by rw [List.length_map]; omega) = (L.map (·.2))[i]'(by rw [List.length_map]; omega) := by rw [List.getElem_map, List.getElem_map]; exact ey
        have := (List.getElem_inj g.nn).mp e3
        omega
      have sin : getN (L.take i) (L[i]).1 = none := getN_none.mpr fun z => by
        obtain ⟨y, hy, ey⟩ := List.mem_map.mp z
        obtain ⟨j, hj, rfl⟩ := List.getElem_of_mem hy
        rw [List.length_take] at hj
        have e2 : (L.take i)[j]'(by rw [List.length_take]; omega) = L[j]'(by omega) := List.getElem_take
        rw [e2] at ey
        have e3 : (L.map (·.1))[j]'(by rw [List.length_map]; omega) = (L.map (·.1))[i]'(by rw [List.length_map]; omega) := by rw [List.getElem_map, List.getElem_map]; exact ey
        have := (List.getElem_inj g.ns).mp e3
        omega
      have hvo := B.ok _ (List.mem_map.mpr ⟨_, hm, rfl⟩)
      refine ⟨_, rfl, x, dx3, fs3, rfl, hfi3, fm3 _ (by simp), _, rfl, _, rfl, he, _, rfl, eH _ (Same.refl _), _, rfl, _, rfl, _, rfl, he, _, rfl, eH _ (Same.refl _), vd, _, rfl, eV _ (Same.refl _), _, rfl, x, bs[i], F, c, t1, t2, L.take i, f, (L[i]).2, vals (L[i]).2, (L[i]).1, rfl, hT3, g.ok _ hm, nin, hvo.1, hvo.2, hq, g.home _ hm, sin, by rw [List.length_take]; omega, fun H4 F4 kf hT4 hF4 => ?_⟩
      have S4 : Same H H4 := keep_same S3 kf hF3
      have hF4' : ∀ b ∈ F4, H b = none := fun b hb => (hF4 b hb).elim (hF3 b) fun z => S3.free z
      have et : L.take (i + 1) = L.take i ++ [((L[i]).1, (L[i]).2)] := by rw [List.take_add_one, eL]; rfl
      refine ⟨_, F4, _, rfl, S4, et ▸ hT4, hF4', fun m hm2 => ?_, fun z => (hF4 l2 z).elim nl2 fun q => (by rw [hl3] at q; cases q), kf _ _ nl2 hl3, fun j b e hb he2 => ?_⟩
      · rw [et, List.map_append] at hm2
        show (if m = (L[i]).2 then vals (L[i]).2 else f m) = vals m
        by_cases q : m = (L[i]).2
        · rw [if_pos q, q]
        · rw [if_neg q]
          exact hf m ((List.mem_append.mp hm2).elim id fun z => absurd (List.mem_singleton.mp z) q)
      · have z := hb3 j b e hb he2
        exact kf _ _ (hT3.tup z) z
    · rintro σ H3 ⟨o8, F, f, rfl, S3, hT3, hF3, hf, nl2, hl3, hb3⟩
      have eL : L.take (bs.map V.ref).length = L := List.take_of_length_le (by rw [List.length_map]; omega)
      rw [eL] at hT3 hf
      have big := sizeLine_eq
      have Tf : Tells L vals L f := Tells.of g.ns g.ns (fun _ => Iff.rfl) hf
      have txt : ∀ U : List Seat, U.Pairwise LtS → (∀ s, s ∈ U ↔ s ∈ L.map (·.1)) → textL (headT c t1 t2 :: U.map (rowL L f)) = textL rows := fun U hU mU => by rw [Tf.rows g.ns B.so hU B.mem mU, B.eq]
      have hfv : ∀ m ∈ L.map (·.2), M.VOk (f m) := fun m hm => by
        rw [hf m hm]
        exact B.ok m hm
      have N := B.note (sorted_nd B.so) B.mem
      rw [← B.eq] at N
      have rl := N.rl
      have hthl := N.len
      have rlen : ∀ r ∈ rows, r.length ≤ 200 := fun r hr => by have := (N.mem hr).2; omega
      -- what is written
      refine ⟨_, rfl, x, F, c, t1, t2, L, f, rfl, hT3, by omega, hfv, fun H4 U S4 hU mU => ?_⟩
      rw [txt U hU mU]
      have S04 := S3.trans S4
      have hT4 := hT3.same S4
      have sne : ∀ y : Str, V.bl (!decide (V.str y = V.str y)) = V.bl false := fun y => by rw [decide_eq_true rfl]; rfl
      refine ⟨_, rfl, _, .ty "str", .type "str", .type "str", true, rfl, .ty "str", .base (.str _), if_pos (beq_self_eq_true _), true, rfl, iteF ?_⟩
      refine ⟨_, rfl, _, rfl, p, rows, rfl, SqL.of (S04 _ _ hp), by omega, rlen, fun H5 S5 => ⟨rfl, false, sne _, iteF ?_⟩⟩
      have S05 := S04.trans S5
      have hT5 := hT4.same S5
      refine ⟨_, rfl, x, F, c, t1, t2, L, f, rfl, hT5, by omega, hfv, fun H6 U2 S6 hU2 mU2 => ?_⟩
      rw [txt U2 hU2 mU2]
      refine ⟨_, rfl, rfl, false, sne _, iteF ?_⟩
      have S06 := S05.trans S6
      have hT6 := hT5.same S6
      -- the rows turned
      have hp6 := S06 _ _ hp
      obtain ⟨m, hm, em⟩ := mod_nat (x := more) (n := rows.length) (by omega)
      refine ⟨_, rfl, _, rfl, p, _, rfl, .inl (SqL.of hp6), _, _, rfl, rfl, (by rw [wlist_len]; omega), _, _, rfl, rfl, ?_⟩
      show gName 10 (V.int (1 + more % ((wlist rows).length : Int))) _ _ _
      rw [show 1 + more % ((wlist rows).length : Int) = ((m + 1 : Nat) : Int) by rw [wlist_len, em]; omega]
      refine ⟨_, rfl, ((1 : Nat) : Int), rfl, p, wlist rows, rfl, SqL.of hp6, fun q1 g1 => ?_⟩
      rw [cut_lo_l]
      have V1 : Same H6 (upd H6 q1 (.lst (wlist (rows.take 1)))) := same_new g1
      have v1 : upd H6 q1 (.lst (wlist (rows.take 1))) q1 = some (.lst (wlist (rows.take 1))) := upd_same
      generalize upd H6 q1 (.lst (wlist (rows.take 1))) = H7 at V1 v1 ⊢
      refine ⟨_, rfl, _, rfl, ((m + 1 : Nat) : Int), rfl, p, wlist rows, rfl, SqL.of (V1 _ _ hp6), fun q2 g2 => ?_⟩
      rw [cut_hi_l]
      have V2 : Same H7 (upd H7 q2 (.lst (wlist (rows.drop (m + 1))))) := same_new g2
      have v2 : upd H7 q2 (.lst (wlist (rows.drop (m + 1)))) q2 = some (.lst (wlist (rows.drop (m + 1)))) := upd_same
      generalize upd H7 q2 (.lst (wlist (rows.drop (m + 1)))) = H8 at V2 v2 ⊢
      refine ⟨1, rfl, rfl, q2, _, rfl, SqL.of v2, fun q3 g3 => ?_⟩
      rw [show (wlist (rows.drop (m + 1))).reverse = wlist (rows.drop (m + 1)).reverse from (List.map_reverse ..).symm]
      have V3 : Same H8 (upd H8 q3 (.lst (wlist (rows.drop (m + 1)).reverse))) := same_new g3
      have v3 : upd H8 q3 (.lst (wlist (rows.drop (m + 1)).reverse)) q3 = some (.lst (wlist (rows.drop (m + 1)).reverse)) := upd_same
      generalize upd H8 q3 (.lst (wlist (rows.drop (m + 1)).reverse)) = H9 at V3 v3 ⊢
      refine ⟨q1, q3, _, _, rfl, rfl, V3 _ _ (V2 _ _ v1), v3, by rw [wlist_len, wlist_len, List.length_reverse, List.length_drop, List.length_take]; omega, fun q4 g4 => ?_⟩
      rw [wlist_app]
      have V4 : Same H9 (upd H9 q4 (.lst (wlist (rows.take 1 ++ (rows.drop (m + 1)).reverse)))) := same_new g4
      have v4 : upd H9 q4 (.lst (wlist (rows.take 1 ++ (rows.drop (m + 1)).reverse))) q4 = some (.lst (wlist (rows.take 1 ++ (rows.drop (m + 1)).reverse))) := upd_same
      generalize upd H9 q4 (.lst (wlist (rows.take 1 ++ (rows.drop (m + 1)).reverse))) = H10 at V4 v4 ⊢
      have V64 := ((V1.trans V2).trans V3).trans V4
      refine ⟨_, rfl, ((1 : Nat) : Int), rfl, _, rfl, ((m + 1 : Nat) : Int), rfl, p, wlist rows, rfl, SqL.of (V64 _ _ hp6), fun q5 g5 => ?_⟩
      rw [cut_mid_l, Nat.add_sub_cancel]
      have V5 : Same H10 (upd H10 q5 (.lst (wlist ((rows.drop 1).take m)))) := same_new g5
      have v5 : upd H10 q5 (.lst (wlist ((rows.drop 1).take m))) q5 = some (.lst (wlist ((rows.drop 1).take m))) := upd_same
      generalize upd H10 q5 (.lst (wlist ((rows.drop 1).take m))) = H11 at V5 v5 ⊢
      refine ⟨q4, q5, _, _, rfl, rfl, V5 _ _ v4, v5, by rw [wlist_len, wlist_len, List.length_append, List.length_reverse, List.length_drop, List.length_take, List.length_take, List.length_drop]; omega, fun q6 g6 => ?_⟩
      rw [wlist_app, turn_rows B.eq]
      have V6 := fun o => same_new (o := o) g6
      obtain ⟨tn, tm⟩ := turn_seats S m (sorted_nd B.so)
      have tm2 : ∀ s, s ∈ (S.drop m).reverse ++ S.take m ↔ s ∈ L.map (·.1) := fun s => (tm s).trans (B.mem s)
      generalize (S.drop m).reverse ++ S.take m = U3 at tn tm2 ⊢
      have N3 := B.note tn tm2
      have rl3 := N3.rl
      have hl3' := N3.len
      have S12 := ((S06.trans V64).trans V5).trans (V6 (.lst (wlist (headT c t1 t2 :: U3.map (rowL L vals)))))
      have hT12 := ((hT6.same V64).same V5).same (V6 (.lst (wlist (headT c t1 t2 :: U3.map (rowL L vals)))))
      -- read
      refine ⟨_, rfl, q6, headT c t1 t2 :: U3.map (rowL L vals), rfl, SqL.of upd_same, by omega, fun r hr => (by have := (N3.mem hr).2; omega), fun H13 S13 => ?_⟩
      refine ⟨_, rfl, (by have := N3.text_len; omega), N3.ch, fun z => parse_some N3 z, fun c' t1' t2' ths z => ?_⟩
      obtain ⟨rfl, rfl, rfl, rfl⟩ := parse_inj N3 z
      refine ⟨fun ng => absurd B.goodC ng, fun _ => ⟨fun i h D _ hB => (good_not_bad g.c0 (B.goods tn tm2 i h) hB).elim, fun _ H14 y Fy fy S14 hTy hFy => ?_⟩⟩
      have Ty := Tells.of g.ns hTy.good.ns (mem_ths g.ns tm2) (B.vals_eq tn tm2 fy)
      have S1214 := S13.trans S14
      have hT14 := hT12.same S1214
      have S014 := S12.trans S1214
      have alv : ∀ {M : Held} {f2 : Name → Int}, Tells L vals M f2 → ∀ n ∈ M.map (·.2), valV kv (.inr (tx n)) = some (.int (f2 n)) := fun t n hn => by
        have z := (t.names n).mp hn
        rw [hva n z, t.val n z]
      -- are they alike?
      refine ⟨_, rfl, _, rfl, _, rfl, _, rfl, y, tt, he, vd, Fy, c, t1, t2, _, L, _, kv, rfl, hTy, S014 _ _ htt, S014 _ _ hhe, S014 _ _ hhv, g.ns, Ty.get, alv Ty, by rw [Ty.len]; omega, fun H15 S15 => ⟨true, rfl, iteF ?_⟩⟩
      have S015 := S014.trans S15
      refine ⟨_, rfl, ?_⟩
      refine ⟨_, rfl, (by have := N.text_len; omega), N.ch, fun z => parse_some N z, fun c' t1' t2' ths z => ?_⟩
      obtain ⟨rfl, rfl, rfl, rfl⟩ := parse_inj N z
      refine ⟨fun ng => absurd B.goodC ng, fun _ => ⟨fun i h D _ hB => (good_not_bad g.c0 (B.goods (sorted_nd B.so) B.mem i h) hB).elim, fun _ H16 z Fz fz S16 hTz hFz => ?_⟩⟩
      have Tz := Tells.of g.ns hTz.good.ns (mem_ths g.ns B.mem) (B.vals_eq (sorted_nd B.so) B.mem fz)
      have S016 := S015.trans S16
      refine ⟨_, rfl, _, rfl, _, rfl, z, tt, he, vd, Fz, c, t1, t2, _, L, _, kv, rfl, hTz, S016 _ _ htt, S016 _ _ hhe, S016 _ _ hhv, g.ns, Tz.get, alv Tz, by rw [Tz.len]; omega, fun H17 S17 => ⟨true, rfl, iteF ?_⟩⟩
      have S017 := S016.trans S17
      have S1417 := (S15.trans S16).trans S17
      have hTy17 := hTy.same S1417
      have hTx17 := hT14.same S1417
      have hFy0 : ∀ d ∈ Fy, H d = none := fun d hd => (S12.trans S13).free (hFy d hd)
      have dxy : ∀ b ∈ F, b ∉ Fy := fun b hb hy => by
        obtain ⟨o, h1, _⟩ := (hT12.same S13).has b hb
        rw [hFy b hy] at h1
        cases h1
      -- nothing there?
      refine ⟨_, rfl, fun e0 ge0 => ?_⟩
      have W0 := fun o => same_new (o := o) ge0
      refine ⟨he, e0, _, rfl, rfl, W0 _ _ _ (S017 _ _ hhe), upd_same, _, rfl, ite2 (fun e => ?_) (fun e => ?_)⟩
      · have S018 := S017.trans (W0 (.dT []))
        have hTy18 := hTy17.same (W0 (.dT []))
        have hTx18 := hTx17.same (W0 (.dT []))
        generalize upd H17 e0 (.dT []) = H18 at S018 hTy18 hTx18 ⊢
        have Lp : 0 < L.length := by
          rw [hk_len] at e
          rcases Nat.eq_zero_or_pos L.length with z | z
          · rw [z] at e
            cases e
          · exact z
        refine ⟨_, rfl, he, _, rfl, .inl (S018 _ _ hhe), fun l3 cs gl3 hcs => ?_⟩
        have W1 := fun o => same_new (o := o) gl3
        obtain ⟨i, hi, ei⟩ := mod_nat (x := more) (n := L.length) Lp
        have eL3 : L[i]? = some L[i] := List.getElem?_eq_getElem hi
        obtain ⟨bq, hb1, hb2⟩ := L2.paired_get hcs (i := i) (a := (sk (L[i]).1, V.str (tx (L[i]).2))) (by unfold hk; rw [List.getElem?_map, eL3]; rfl)
        have hm3 : L[i] ∈ L := List.getElem_mem hi
        generalize L[i] = eN at hb2 hm3
        obtain ⟨s0, n⟩ := eN
        have hg3 : getN L s0 = some n := getN_of_mem g.ns hm3
        have hn3 : n ∈ L.map (·.2) := List.mem_map.mpr ⟨_, hm3, rfl⟩
        refine ⟨_, rfl, _, rfl, he, _, rfl, W1 _ _ _ (S018 _ _ hhe), _, _, rfl, rfl, (by rw [hk_len]; omega), l3, _, (i : Int), .ref bq, rfl, congrArg V.int (by rw [hk_len]; exact ei), SqL.of upd_same, atI_nat (by rw [List.getElem?_map, hb1]; rfl), ?_⟩
        have S019 := S018.trans (W1 (.lst (cs.map V.ref)))
        have hTy19 := hTy18.same (W1 (.lst (cs.map V.ref)))
        have hTx19 := hTx18.same (W1 (.lst (cs.map V.ref)))
        have hq19 := W1 (.lst (cs.map V.ref)) _ _ hb2
        generalize upd H18 l3 (.lst (cs.map V.ref)) = H19 at S019 hTy19 hTx19 hq19 ⊢
        have hq19 : H19 bq = some (.tup (sv s0)) := hq19
        have eH : ∀ Hb, Same H Hb → Hb bq = some (.tup (sv s0)) → DGet Hb he (.ref bq) (some (.str (tx n))) := fun Hb S' q' => hk_some hg3 ▸ DGet.t (S' _ _ hhe) (k := sk s0) q'
        have eV : ∀ Hb, Same H Hb → DGet Hb vd (.str (tx n)) (some (.int (vals n))) := fun Hb S' => hva n hn3 ▸ DGet.k (k := Sum.inr (tx n)) (S' _ _ hhv)
        obtain ⟨dy, fs, hfi, _, _, _, fm⟩ := hTy19.ins
        have ny := (Ty.names n).mpr hn3
        refine ⟨_, rfl, y, dy, fs, rfl, hfi, fm _ (by simp), _, rfl, _, rfl, he, _, rfl, eH _ S019 hq19, y, Fy, c, t1, t2, _, _, n, rfl, hTy19, by rw [Ty.len]; omega, fun q => (q ny).elim, fun _ H20 F20 M20 mem20 kf20 hT20 hF20 => ?_⟩
        have S020 : Same H H20 := keep_same S019 kf20 hFy0
        have hq20 : H20 bq = some (.tup (sv s0)) := kf20 _ _ (hTy19.tup hq19) hq19
        have hTx20 := tab_other hTx19 kf20 dxy fun b ys q => hTy19.tup q
        have hF20' : ∀ b ∈ F20, H b = none := fun b hb => (hF20 b hb).elim (hFy0 b) fun q => S019.free q
        refine ⟨_, rfl, _, rfl, _, rfl, he, _, rfl, eH _ S020 hq20, vd, _, rfl, eV _ S020, rfl, false, ?_, iteF ?_⟩
        · rw [Ty.val n hn3, decide_eq_true rfl]
          rfl
        -- without it
        refine ⟨_, rfl, he, _, rfl, .inl (S020 _ _ hhe), fun l4 ds gl4 hds => ⟨l4, rfl, ⟨_, SqL.of upd_same⟩, fun D hD => ?_⟩⟩
        have W2 : Same H20 (upd H20 l4 (.lst (ds.map V.ref))) := same_new gl4
        have v4' : upd H20 l4 (.lst (ds.map V.ref)) l4 = some (.lst (ds.map V.ref)) := upd_same
        have hds' : IsKeys (upd H20 l4 (.lst (ds.map V.ref))) (hk L) ds := L2.Paired.mapP hds fun x b e => W2 _ _ e
        have S021 := S020.trans W2
        have hT21 := hT20.same W2
        have hTx21 := hTx20.same W2
        have hq21 := W2 _ _ hq20
        generalize upd H20 l4 (.lst (ds.map V.ref)) = H21 at W2 v4' hds' S021 hT21 hTx21 hq21 hD ⊢
        have hdl : ds.length = L.length := by
          have q := PySem.Paired.length hds'
          rw [hk_len] at q
          exact q.symm
        have W3 : ∀ o, Same H21 (upd H21 D o) := fun o => same_new hD
        have keyF : ∀ x : Seat × Name, decide (x.1 ≠ s0) = !decide (x.1 = s0) := fun x => by
          by_cases q : x.1 = s0
          · rw [decide_eq_true q, decide_eq_false fun z => z q]
            rfl
          · rw [decide_eq_false q, decide_eq_true q]
            rfl
        refine lc_it (walk_list (xs := ds.map V.ref)) (fun i Hc => Same H21 Hc ∧ ∃ ps : List Addr, Hc D = some (.lst (ps.map V.ref)) ∧ ps.length ≤ i ∧ PySem.Paired (fun (p : Addr) (kv : List Key × V) => ∃ b, Hc p = some (.tup [.ref b, kv.2]) ∧ Hc b = some (.tup (kv.1.map kV))) ps (hk ((L.take i).filter fun x => decide (x.1 ≠ s0)))) ⟨W3 _, [], upd_same, Nat.le_refl _, .nil⟩ (fun i Hc _ h => SqL.of (h.1 _ _ v4')) ?_ ?_
        · rintro j yv Hc Hd hj ⟨Sc, ps, hDc, hpl, hps⟩ ⟨rfl, hyv⟩
          have hjd : j < ds.length := by
            have q : j < (ds.map V.ref).length := hj
            rwa [List.length_map] at q
          have eLj : L[j]? = some L[j] := List.getElem?_eq_getElem (by omega)
          obtain ⟨bj, hj1, hj2⟩ := L2.paired_get hds' (i := j) (a := (sk (L[j]).1, V.str (tx (L[j]).2))) (by unfold hk; rw [List.getElem?_map, eLj]; rfl)
          obtain rfl : yv = .ref bj := by
            rw [List.getElem?_map, hj1] at hyv
            exact (Option.some.inj hyv).symm
          have hmj : L[j] ∈ L := List.getElem_mem _
          have eT : L.take (j + 1) = L.take j ++ [L[j]] := by rw [List.take_add_one, eLj]; rfl
          rw [eT]
          generalize L[j] = ej at hj2 hmj
          have hjc : Hd bj = some (.tup (sv ej.1)) := Sc _ _ hj2
          have hgj : getN L ej.1 = some ej.2 := getN_of_mem g.ns hmj
          have qc : Hd bq = some (.tup (sv s0)) := Sc _ _ hq21
          refine ⟨rfl, _, rfl, _, rfl, dS ej.1, dS s0, dp_seat (SqT.of hjc), dp_seat (SqT.of qc), rfl, rfl, _, rfl, ?_⟩
          rw [eqv_seat, List.filter_append]
          by_cases q : ej.1 = s0
          · rw [decide_eq_true q]
            refine iteF ?_
            have e1 : [ej].filter (fun x => decide (x.1 ≠ s0)) = [] := by rw [List.filter_cons, keyF, decide_eq_true q]; rfl
            rw [e1, List.append_nil]
            exact ⟨Sc, ps, hDc, Nat.le_succ_of_le hpl, hps⟩
          · rw [decide_eq_false q]
            refine iteT ?_
            have e1 : [ej].filter (fun x => decide (x.1 ≠ s0)) = [ej] := by rw [List.filter_cons, keyF, decide_eq_false q]; rfl
            rw [e1]
            have eHj : DGet Hd he (.ref bj) (some (.str (tx ej.2))) := hk_some hgj ▸ DGet.t ((S021.trans Sc) _ _ hhe) (k := sk ej.1) hjc
            refine ⟨_, rfl, _, rfl, _, rfl, he, _, rfl, eHj, (by show 2 ≤ sizeLine; decide), fun pt gpt => ?_⟩
            have Wp : ∀ o, Same Hd (upd Hd pt o) := fun o => same_new gpt
            have keepT : ∀ (b : Addr) (ys : List V) (o o2 : HO), Hd b = some (.tup ys) → upd (upd Hd pt o) D o2 b = some (.tup ys) := fun b ys o o2 hb => by
              have hb2 := Wp o _ _ hb
              rw [upd_ne (ne_of hb2 (Wp o _ _ hDc) (by intro z; cases z))]
              exact hb2
            have nptD : pt ≠ D := fun z => by rw [z, hDc] at gpt; cases gpt
            refine ⟨_, Wp _ _ _ hDc, ?_, same_mut (Sc.trans (Wp _)) hD, ps ++ [pt], ?_, ?_, ?_⟩
            · rw [List.length_map]
              exact small1000 (by omega)
            · rw [upd_same, List.map_append]
              rfl
            · rw [List.length_append, List.length_singleton]
              omega
            · rw [← hk_app]
              refine PySem.Paired.snoc (L2.Paired.mapP hps fun a kv ⟨b, k1, k2⟩ => ⟨b, keepT _ _ _ _ k1, keepT _ _ _ _ k2⟩) ⟨bj, ?_, keepT _ _ _ _ hjc⟩
              rw [upd_ne nptD, upd_same]
        · rintro Hc ⟨Sc, ps, hDc, hpl, hps⟩
          have eT : L.take (ds.map V.ref).length = L := List.take_of_length_le (by rw [List.length_map]; omega)
          rw [eT] at hps
          have gF := good_filter g fun x => decide (x.1 ≠ s0)
          have lF : (L.filter fun x => decide (x.1 ≠ s0)).length ≤ L.length := List.length_filter_le ..
          have thF : ∀ x ∈ L.filter (fun x => decide (x.1 ≠ s0)), NameOk x.2 ∧ (0 ≤ x.1.1 ∧ x.1.1 ≤ 1) ∧ (0 ≤ x.1.2 ∧ x.1.2 < 1000) ∧ M.VOk (vals x.2) := fun x hx => B.things x (List.mem_filter.mp hx).1
          have vaF : ∀ m ∈ (L.filter fun x => decide (x.1 ≠ s0)).map (·.2), valV kv (.inr (tx m)) = some (.int (vals m)) := fun m hm => hva m (mem_names_filter hm)
          have BF := fun {U : List Seat} => B.filter (fun x => decide (x.1 ≠ s0)) (U := U)
          have memF : ∀ x, x ∈ M20 ↔ x ∈ L.filter (fun x => decide (x.1 ≠ s0)) := fun x => by
            rw [mem20 x, Ty.mem x, List.mem_filter]
            constructor
            · rintro ⟨z1, z2⟩
              exact ⟨z1, decide_eq_true ((gone_iff g.ns g.nn hm3 z1).mp z2)⟩
            · rintro ⟨z1, z2⟩
              exact ⟨z1, (gone_iff g.ns g.nn hm3 z1).mpr (of_decide_eq_true z2)⟩
          generalize hLF : L.filter (fun x => decide (x.1 ≠ s0)) = LF at hps gF lF thF vaF BF memF
          have T20 : Tells LF vals M20 _ := Tells.of gF.ns hT20.good.ns memF fun n2 hn2 => Ty.val n2 (by rw [← hLF] at hn2; exact mem_names_filter hn2)
          refine ⟨D, ps, hk LF, rfl, SqL.of hDc, L2.Paired.mapP hps fun a kv ⟨b, k1, k2⟩ => ⟨b, SqT.of k1, k2⟩, ?_, fun dl gdl => ?_⟩
          · rw [hk_keys]
            refine List.pairwise_map.mpr (List.Pairwise.imp (fun h e => h (sk_inj e)) gF.ns)
          have W4 : Same Hc (upd Hc dl (.dT (hk LF))) := same_new gdl
          have v5' : upd Hc dl (.dT (hk LF)) dl = some (.dT (hk LF)) := upd_same
          have S022 := (S021.trans Sc).trans W4
          have hT22 := (hT21.same Sc).same W4
          have hTx22 := (hTx21.same Sc).same W4
          have hq22 := W4 _ _ (Sc _ _ hq21)
          generalize upd Hc dl (.dT (hk LF)) = H22 at v5' S022 hT22 hTx22 hq22 ⊢
          have okF : ∀ m ∈ M20.map (·.2), M.VOk (valsOf fy (thsOf L vals U3) m) := fun m hm => by
            have z := (T20.names m).mp hm
            rw [T20.val m z]
            obtain ⟨x2, hx2, rfl⟩ := List.mem_map.mp z
            exact (thF x2 hx2).2.2.2
          -- the text without it
          refine ⟨_, rfl, y, F20, c, t1, t2, M20, _, rfl, hT22, by rw [T20.len]; omega, okF, fun H23 U4 S23 hU4 mU4 => ?_⟩
          have S023 := S022.trans S23
          refine ⟨_, rfl, ((1 : Nat) : Int), rfl, p, wlist rows, rfl, SqL.of (S023 _ _ hp), fun q7 g7 => ?_⟩
          rw [cut_lo_l]
          have W5 : Same H23 (upd H23 q7 (.lst (wlist (rows.take 1)))) := same_new g7
          have v7 : upd H23 q7 (.lst (wlist (rows.take 1))) q7 = some (.lst (wlist (rows.take 1))) := upd_same
          generalize upd H23 q7 (.lst (wlist (rows.take 1))) = H24 at W5 v7 ⊢
          have S024 := S023.trans W5
          refine ⟨_, rfl, _, rfl, dl, vd, LF, vals, kv, rfl, (S23.trans W5) _ _ v5', S024 _ _ hhv, vaF, gF.ns, by omega, thF, fun H25 pr U5 S25 gpr hpr hU5 mU5 => ?_⟩
          have B5 := BF hU5 mU5
          have N5 := B5.note (sorted_nd hU5) mU5
          have e1 : rows.take 1 = [headT c t1 t2] := by rw [B.eq]; rfl
          have l5 := N5.rl
          have l5' := N5.len
          have eR : rows.take 1 ++ U5.map (rowL LF vals) = headT c t1 t2 :: U5.map (rowL LF vals) := by rw [e1]; rfl
          have lU5 : (U5.map (rowL LF vals)).length + 1 = (thsOf LF vals U5).length + 1 := l5
          refine ⟨q7, pr, _, _, rfl, rfl, S25 _ _ v7, hpr, by rw [wlist_len, wlist_len, e1, List.length_singleton]; omega, fun q8 g8 => ?_⟩
          rw [wlist_app, eR]
          have W6 := fun o => same_new (o := o) g8
          refine ⟨q8, headT c t1 t2 :: U5.map (rowL LF vals), rfl, SqL.of upd_same, by omega, fun r hr => (by have := (N5.mem hr).2; omega), fun H26 S26 => ?_⟩
          rw [T20.rows gF.ns hU5 hU4 mU5 mU4]
          have S2226 : Same H22 H26 := (((S23.trans W5).trans S25).trans (W6 _)).trans S26
          refine ⟨rfl, false, sne _, iteF ?_⟩
          have S026 := S022.trans S2226
          have hTx26 := hTx22.same S2226
          have hT26 := hT22.same S2226
          have hq26 := S2226 _ _ hq22
          refine ⟨_, rfl, x, F, c, t1, t2, L, f, rfl, hTx26, by omega, hfv, fun H27 U6 S27 hU6 mU6 => ?_⟩
          rw [txt U6 hU6 mU6]
          refine ⟨_, rfl, rfl, false, sne _, iteF ?_⟩
          have S027 := S026.trans S27
          have hT27 := hT26.same S27
          have hq27 := S27 _ _ hq26
          -- put again
          have nin20 : n ∉ M20.map (·.2) := fun q => by
            obtain ⟨x2, hx2, ex2⟩ := List.mem_map.mp q
            exact ((mem20 x2).mp hx2).2 ex2
          have gin20 : getN M20 s0 = none := getN_none.mpr fun q => by
            obtain ⟨x2, hx2, ex2⟩ := List.mem_map.mp q
            obtain ⟨z1, z2⟩ := (mem20 x2).mp hx2
            exact (gone_iff g.ns g.nn hm3 ((Ty.mem x2).mp z1)).mp z2 ex2
          obtain ⟨dy2, fs2, hfi2, _, _, _, fm2⟩ := hT27.ins
          refine ⟨_, rfl, y, dy2, fs2, rfl, hfi2, fm2 _ (by simp), _, rfl, _, rfl, he, _, rfl, eH _ S027 hq27, _, rfl, y, bq, F20, c, t1, t2, M20, _, n, 7, s0, rfl, hT27, g.ok _ hm3, nin20, by decide, by decide, hq27, g.home _ hm3, gin20, by rw [T20.len]; omega, fun H28 F28 kf28 hT28 hF28 => ?_⟩
          have S028 : Same H H28 := keep_same S027 kf28 hF20'
          have hq28 : H28 bq = some (.tup (sv s0)) := kf28 _ _ (hT27.tup hq27) hq27
          refine ⟨_, rfl, vd, kv, rfl, .inl (S028 _ _ hhv), fun da gda => ?_⟩
          have W7 : ∀ o, Same H28 (upd H28 da o) := fun o => same_new gda
          refine ⟨_, rfl, _, rfl, _, rfl, he, _, rfl, eH _ (S028.trans (W7 _)) (W7 _ _ _ hq28), da, _, rfl, DPut.k (k := Sum.inr (tx n)) upd_same (Nat.lt_of_le_of_lt hkl (small1000 (by omega))), ?_⟩
          have W8 : Same H28 (upd (upd H28 da (.dK kv)) da (.dK (putK kv (Sum.inr (tx n)) (.int 7)))) := same_mut (W7 _) gda
          have v9 : upd (upd H28 da (.dK kv)) da (.dK (putK kv (Sum.inr (tx n)) (.int 7))) da = some (.dK (putK kv (Sum.inr (tx n)) (.int 7))) := upd_same
          generalize upd (upd H28 da (.dK kv)) da (.dK (putK kv (Sum.inr (tx n)) (.int 7))) = H29 at W8 v9 ⊢
          have S029 := S028.trans W8
          have hT29 := hT28.same W8
          have va7 : ∀ m ∈ L.map (·.2), valV (putK kv (Sum.inr (tx n)) (.int 7)) (.inr (tx m)) = some (.int (if m = n then 7 else vals m)) := fun m hm => by
            rw [valV_put]
            by_cases q : m = n
            · rw [if_pos q, if_pos (by rw [q])]
            · rw [if_neg q, if_neg fun z => q (tx_inj (Sum.inr.inj z))]
              exact hva m hm
          have ok7 : ∀ m ∈ L.map (·.2), M.VOk (if m = n then 7 else vals m) := fun m hm => by
            by_cases q : m = n
            · rw [if_pos q]
              exact ⟨by decide, by decide⟩
            · rw [if_neg q]
              exact B.ok m hm
          have T29 : Tells L (fun m => if m = n then 7 else vals m) (M20 ++ [(s0, n)]) (fun m => if m = n then 7 else valsOf fy (thsOf L vals U3) m) := Tells.of g.ns hT29.good.ns (fun x2 => by
            rw [List.mem_append, List.mem_singleton, mem20 x2, Ty.mem x2]
            constructor
            · rintro (z | z)
              · exact z.1
              · rw [z]
                exact hm3
            · intro z
              by_cases q : x2.2 = n
              · right
                have q1 : x2.1 = s0 := nodup_fst g.nn z hm3 q
                exact Prod.ext q1 q
              · exact .inl ⟨z, q⟩) fun m hm => by
            show (if m = n then (7 : Int) else valsOf fy (thsOf L vals U3) m) = if m = n then 7 else vals m
            rw [Ty.val m hm]
          have ok29 : ∀ m ∈ (M20 ++ [(s0, n)]).map (·.2), M.VOk (if m = n then 7 else valsOf fy (thsOf L vals U3) m) := fun m hm => by
            have z := (T29.names m).mp hm
            have z2 := T29.val m z
            have z2 : (if m = n then (7 : Int) else valsOf fy (thsOf L vals U3) m) = if m = n then 7 else vals m := z2
            rw [z2]
            exact ok7 m z
          refine ⟨_, rfl, y, F28, c, t1, t2, M20 ++ [(s0, n)], _, rfl, hT29, by rw [T29.len]; omega, ok29, fun H30 U7 S30 hU7 mU7 => ?_⟩
          have S030 := S029.trans S30
          refine ⟨_, rfl, ((1 : Nat) : Int), rfl, p, wlist rows, rfl, SqL.of (S030 _ _ hp), fun q9 g9 => ?_⟩
          rw [cut_lo_l]
          have W9 : Same H30 (upd H30 q9 (.lst (wlist (rows.take 1)))) := same_new g9
          have v10 : upd H30 q9 (.lst (wlist (rows.take 1))) q9 = some (.lst (wlist (rows.take 1))) := upd_same
          generalize upd H30 q9 (.lst (wlist (rows.take 1))) = H31 at W9 v10 ⊢
          have S031 := S030.trans W9
          have B7 := fun {U : List Seat} => B.vals ok7 (U := U)
          have th7 : ∀ x ∈ L, NameOk x.2 ∧ (0 ≤ x.1.1 ∧ x.1.1 ≤ 1) ∧ (0 ≤ x.1.2 ∧ x.1.2 < 1000) ∧ M.VOk (if x.2 = n then 7 else vals x.2) := fun x hx => by
            obtain ⟨z1, z2, z3, _⟩ := B.things x hx
            exact ⟨z1, z2, z3, ok7 _ (List.mem_map.mpr ⟨x, hx, rfl⟩)⟩
          refine ⟨_, rfl, _, rfl, he, da, L, (fun m => if m = n then 7 else vals m), _, rfl, S031 _ _ hhe, (S30.trans W9) _ _ v9, va7, g.ns, by omega, th7, fun H32 pr2 U8 S32 gpr2 hpr2 hU8 mU8 => ?_⟩
          have N8 := (B7 hU8 mU8).note (sorted_nd hU8) mU8
          have l8 := N8.rl
          have l8' := N8.len
          have eR2 : rows.take 1 ++ U8.map (rowL L fun m => if m = n then 7 else vals m) = headT c t1 t2 :: U8.map (rowL L fun m => if m = n then 7 else vals m) := by rw [e1]; rfl
          have lU8 : (U8.map (rowL L fun m => if m = n then 7 else vals m)).length + 1 = (thsOf L (fun m => if m = n then 7 else vals m) U8).length + 1 := l8
          refine ⟨q9, pr2, _, _, rfl, rfl, S32 _ _ v10, hpr2, by rw [wlist_len, wlist_len, e1, List.length_singleton]; omega, fun q10 g10 => ?_⟩
          rw [wlist_app, eR2]
          have W10 := fun o => same_new (o := o) g10
          refine ⟨q10, headT c t1 t2 :: U8.map (rowL L fun m => if m = n then 7 else vals m), rfl, SqL.of upd_same, by omega, fun r hr => (by have := (N8.mem hr).2; omega), fun H33 S33 => ?_⟩
          rw [T29.rows g.ns hU8 hU7 mU8 mU7]
          refine ⟨rfl, ?_⟩
          rw [decide_eq_true rfl]
          exact k _ ((((S031.trans S32).trans (W10 _)).trans S33))
      · have L0 : L = [] := by
          rw [hk_len] at e
          refine List.length_eq_zero_iff.mp ?_
          by_cases q : L.length = 0
          · exact q
          · rw [decide_eq_false q] at e
            exact absurd rfl e
        have S018 := S017.trans (W0 (.dT []))
        have hTx18 := hTx17.same (W0 (.dT []))
        generalize upd H17 e0 (.dT []) = H18 at S018 hTx18 ⊢
        obtain ⟨th, qa, qb, hth, h1, h2, h3⟩ := home_at (hho.same S018) hnz
        obtain ⟨dx2, fs2, hfi2, _, _, _, fm2⟩ := hTx18.ins
        have gx : getN L (seatP (hmN c t1 t2 nz) 0) = none := by rw [L0]; rfl
        refine ⟨_, rfl, x, dx2, fs2, rfl, hfi2, fm2 _ (by simp), _, rfl, _, rfl, _, rfl, hd, _, rfl, hth, th, _, _, _, rfl, rfl, SqT.of h1, atI_nat (j := 0) rfl, x, qa, F, c, t1, t2, L, f, nz, 1, seatP (hmN c t1 t2 nz) 0, rfl, hTx18, hok, hnew, by decide, by decide, h2, .inl rfl, gx, by omega, fun H19 F19 kf19 hT19 hF19 => ?_⟩
        have S019 : Same H H19 := keep_same S018 kf19 hF3
        obtain ⟨th2, qc, qd, hth2, k1, k2, k3⟩ := home_at (hho.same S019) hnz
        have hc0 := g.c0
        have hc1 := g.c1
        have i0 := (hmN_in (t1 := t1) (t2 := t2) (show 0 < c by omega) nz).1
        have y0 : 0 ≤ (seatP (hmN c t1 t2 nz) 0).2 := i0.1
        have y1 : (seatP (hmN c t1 t2 nz) 0).2 < c := i0.2
        have f0 : Fine [48] := ⟨by decide, by decide, by decide, by decide⟩
        have f1 : Fine [49] := ⟨by decide, by decide, by decide, by decide⟩
        have c1' : ("1" : Str) = tx [49] := by decide +kernel
        refine ⟨_, rfl, _, rfl, hd, _, rfl, hth2, th2, _, _, _, rfl, rfl, SqT.of k1, atI_nat (j := 0) rfl, qc, _, _, _, rfl, rfl, SqT.of k2, atI_nat (j := 1) rfl, _, rfl, small_dec (v := (seatP (hmN c t1 t2 nz) 0).2) (by omega) (by omega), _, rfl, (by show 4 ≤ sizeLine; decide), fun lw gw => ?_⟩
        have ew : [V.str "0", V.str ((toString (seatP (hmN c t1 t2 nz) 0).2 : String) : Str), V.str (tx nz), V.str "1"] = wlist (wordsT (nz, 1, seatP (hmN c t1 t2 nz) 0)) := by
          rw [dec_tx, c1', zero_tx, words_one]
          rfl
        rw [ew]
        have W3 : Same H19 (upd H19 lw (.lst (wlist (wordsT (nz, 1, seatP (hmN c t1 t2 nz) 0))))) := same_new gw
        have v3' : upd H19 lw (.lst (wlist (wordsT (nz, 1, seatP (hmN c t1 t2 nz) 0)))) lw = some (.lst (wlist (wordsT (nz, 1, seatP (hmN c t1 t2 nz) 0)))) := upd_same
        generalize upd H19 lw (.lst (wlist (wordsT (nz, 1, seatP (hmN c t1 t2 nz) 0)))) = H20 at W3 v3' ⊢
        have S020 := S019.trans W3
        have hT20 := hT19.same W3
        have ok20 : ∀ m ∈ (L ++ [(seatP (hmN c t1 t2 nz) 0, nz)]).map (·.2), M.VOk (if m = nz then 1 else f m) := fun m hm => by
          rw [L0] at hm
          have hm : m ∈ [nz] := hm
          rw [if_pos (List.mem_singleton.mp hm)]
          exact ⟨by decide, by decide⟩
        refine ⟨_, rfl, x, F19, c, t1, t2, L ++ [(seatP (hmN c t1 t2 nz) 0, nz)], _, rfl, hT20, by rw [List.length_append, List.length_singleton]; omega, ok20, fun H21 U S21 hU mU => ?_⟩
        have eU : U = [seatP (hmN c t1 t2 nz) 0] := sorted_uniq hU (List.pairwise_singleton _ _) fun s => (mU s).trans (by rw [L0]; exact Iff.rfl)
        have eT : U.map (rowL (L ++ [(seatP (hmN c t1 t2 nz) 0, nz)]) fun m => if m = nz then 1 else f m) = [rowOf (nz, 1, seatP (hmN c t1 t2 nz) 0)] := by
          rw [eU]
          have w0 : whoN (L ++ [(seatP (hmN c t1 t2 nz) 0, nz)]) (seatP (hmN c t1 t2 nz) 0) = nz := by
            rw [L0]
            refine who_of ?_
            exact getN_of_mem (L := [(seatP (hmN c t1 t2 nz) 0, nz)]) (List.pairwise_singleton _ _) (List.mem_singleton.mpr rfl)
          show [rowL _ _ _] = _
          unfold rowL
          rw [w0]
          show [rowT nz (if nz = nz then 1 else f nz) (seatP (hmN c t1 t2 nz) 0)] = _
          rw [if_pos rfl]
          rfl
        rw [eT]
        have S021 := S020.trans S21
        have r0 : rows[0]? = some (headT c t1 t2) := by rw [B.eq]; rfl
        have lz := hok.len
        have ly := (fine_dec (v := (seatP (hmN c t1 t2 nz) 0).2) (by omega) (by omega)).len
        have jb : ∀ w ∈ wordsT (nz, 1, seatP (hmN c t1 t2 nz) 0), w.length ≤ 12 := by
          rw [words_one]
          exact fine4 f0 (fine_dec (by omega) (by omega)) (fine_name hok) f1
        refine ⟨_, rfl, p, _, _, _, rfl, rfl, SqL.of (S021 _ _ hp), atI_nat (j := 0) (wlist_get r0), ⟨_, rfl⟩, _, rfl, _, lw, (wordsT (nz, 1, seatP (hmN c t1 t2 nz) 0)).map tx, rfl, rfl, join_at (S21 _ _ v3'), join_bd jb rfl, ?_⟩
        rw [join_sp]
        refine ⟨(by show 2 ≤ sizeLine; decide), fun q2 g2 => ?_⟩
        have W4 := fun o => same_new (o := o) g2
        have hl := B.hd.len
        have rz : (rowOf (nz, 1, seatP (hmN c t1 t2 nz) 0)).length ≤ 60 := by
          show (TL.joinL [32] (wordsT (nz, 1, seatP (hmN c t1 t2 nz) 0))).length ≤ 60
          rw [words_one, len_join4]
          show 1 + _ + _ + 1 + 3 ≤ 60
          omega
        refine ⟨q2, [headT c t1 t2, rowOf (nz, 1, seatP (hmN c t1 t2 nz) 0)], rfl, SqL.of upd_same, (by show 2 ≤ 60; decide), fun r hr => ?_, fun H22 S22 => ?_⟩
        · simp only [List.mem_cons, List.not_mem_nil, or_false] at hr
          rcases hr with rfl | rfl <;> omega
        refine ⟨rfl, ?_⟩
        rw [decide_eq_true rfl]
        exact k _ ((S021.trans (W4 _)).trans S22)
end

end K11

namespace K11
open PySem L2 Ck TS2 TX TB
/-! rows put otherwise are refused -/
theorem ne_of_q {K : PySem.W.Frag} {D X : Addr} (h : PySem.W.kitOne K (.ref D) (.ref X) = some false) : D ≠ X := fun e => by
  rw [e] at h
  unfold PySem.W.kitOne at h
  rw [if_pos (beq_self_eq_true _)] at h
  cases h
theorem bad_one {A : Ad} {c t1 t2 : Int} (hc : 1 ≤ c) {L : Held} {x : Thng} {D X : Addr} (h1 : BadPut A c t1 t2 L x D) (h2 : BadPut A c t1 t2 L x X) : D = X := by
  have hin : ∀ (n : Name) (s : Seat), (s = seatP (hmN c t1 t2 n) 0 ∨ s = seatP (hmN c t1 t2 n) 1) → InT c s := fun n s h => by
    rcases h with e | e <;> rw [e]
    · exact home_in hc n (.inl rfl)
    · exact home_in hc n (.inr rfl)
  cases h1 with
  | name n v s a => cases h2 <;> first | rfl | exact absurd ‹NameOk n› a
  | value n v s a b => cases h2 <;> first | rfl | exact absurd a ‹¬ NameOk n› | exact absurd ‹M.VOk v› b
  | twice n v s a b d => cases h2 <;> first | rfl | exact absurd a ‹¬ NameOk n› | exact absurd b ‹¬ M.VOk v› | exact absurd d ‹n ∉ L.map (·.2)›
  | nest n v s a b d e =>
    cases h2 <;> first
      | rfl
      | exact absurd a ‹¬ NameOk n›
      | exact absurd b ‹¬ M.VOk v›
      | exact absurd ‹n ∈ L.map (·.2)› d
      | exact absurd ‹InT c s› e
      | exact absurd (hin n s ‹s = seatP (hmN c t1 t2 n) 0 ∨ s = seatP (hmN c t1 t2 n) 1›) e
  | home n v s a b d e f =>
    cases h2 <;> first
      | rfl
      | exact absurd a ‹¬ NameOk n›
      | exact absurd b ‹¬ M.VOk v›
      | exact absurd ‹n ∈ L.map (·.2)› d
      | exact absurd e ‹¬ InT c s›
      | exact absurd ‹s = seatP (hmN c t1 t2 n) 0 ∨ s = seatP (hmN c t1 t2 n) 1› f
  | taken n v s a b d e f =>
    cases h2 <;> first
      | rfl
      | exact absurd a ‹¬ NameOk n›
      | exact absurd b ‹¬ M.VOk v›
      | exact absurd ‹n ∈ L.map (·.2)› d
      | exact absurd (hin n s e) ‹¬ InT c s›
      | exact absurd e ‹¬ (s = seatP (hmN c t1 t2 n) 0 ∨ s = seatP (hmN c t1 t2 n) 1)›
section
variable {P : Program} {w : World} {K : PySem.W.Frag} {mg : Str → Option Value} {base : Heap} {A : Ad}
theorem kind_fun (T : Tx K mg A) {D : Addr} {k l : Str} (h1 : KindIs A D k) (h2 : KindIs A D l) : k = l := by
  rcases h1 with ⟨rfl, rfl⟩ | ⟨rfl, rfl⟩ | ⟨rfl, rfl⟩ | ⟨rfl, rfl⟩ | ⟨rfl, rfl⟩ | ⟨rfl, rfl⟩ | ⟨rfl, rfl⟩ | ⟨rfl, rfl⟩
  · rcases h2 with ⟨e, rfl⟩ | ⟨e, rfl⟩ | ⟨e, rfl⟩ | ⟨e, rfl⟩ | ⟨e, rfl⟩ | ⟨e, rfl⟩ | ⟨e, rfl⟩ | ⟨e, rfl⟩
    · rfl
    · exact absurd e (ne_of_q T.q_NoNests_NoName)
    · exact absurd e (ne_of_q T.q_NoNests_NoValue)
    · exact absurd e (ne_of_q T.q_NoNests_NoNest)
    · exact absurd e (ne_of_q T.q_NoNests_NoHome)
    · exact absurd e (ne_of_q T.q_NoNests_Taken)
    · exact absurd e (ne_of_q T.q_NoNests_Twice)
    · exact absurd e (ne_of_q T.q_NoNests_NoNote)
  · rcases h2 with ⟨e, rfl⟩ | ⟨e, rfl⟩ | ⟨e, rfl⟩ | ⟨e, rfl⟩ | ⟨e, rfl⟩ | ⟨e, rfl⟩ | ⟨e, rfl⟩ | ⟨e, rfl⟩
    · exact absurd e (ne_of_q T.q_NoName_NoNests)
    · rfl
    · exact absurd e (ne_of_q T.q_NoName_NoValue)
    · exact absurd e (ne_of_q T.q_NoName_NoNest)
    · exact absurd e (ne_of_q T.q_NoName_NoHome)
    · exact absurd e (ne_of_q T.q_NoName_Taken)
    · exact absurd e (ne_of_q T.q_NoName_Twice)
    · exact absurd e (ne_of_q T.q_NoName_NoNote)
  · rcases h2 with ⟨e, rfl⟩ | ⟨e, rfl⟩ | ⟨e, rfl⟩ | ⟨e, rfl⟩ | ⟨e, rfl⟩ | ⟨e, rfl⟩ | ⟨e, rfl⟩ | ⟨e, rfl⟩
    · exact absurd e (ne_of_q T.q_NoValue_NoNests)
    · exact absurd e (ne_of_q T.q_NoValue_NoName)
    · rfl
    · exact absurd e (ne_of_q T.q_NoValue_NoNest)
    · exact absurd e (ne_of_q T.q_NoValue_NoHome)
    · exact absurd e (ne_of_q T.q_NoValue_Taken)
    · exact absurd e (ne_of_q T.q_NoValue_Twice)
    · exact absurd e (ne_of_q T.q_NoValue_NoNote)
  · rcases h2 with ⟨e, rfl⟩ | ⟨e, rfl⟩ | ⟨e, rfl⟩ | ⟨e, rfl⟩ | ⟨e, rfl⟩ | ⟨e, rfl⟩ | ⟨e, rfl⟩ | ⟨e, rfl⟩
    · exact absurd e (ne_of_q T.q_NoNest_NoNests)
    · exact absurd e (ne_of_q T.q_NoNest_NoName)
    · exact absurd e (ne_of_q T.q_NoNest_NoValue)
    · rfl
    · exact absurd e (ne_of_q T.q_NoNest_NoHome)
    · exact absurd e (ne_of_q T.q_NoNest_Taken)
    · exact absurd e (ne_of_q T.q_NoNest_Twice)
    · exact absurd e (ne_of_q T.q_NoNest_NoNote)
  · rcases h2 with ⟨e, rfl⟩ | ⟨e, rfl⟩ | ⟨e, rfl⟩ | ⟨e, rfl⟩ | ⟨e, rfl⟩ | ⟨e, rfl⟩ | ⟨e, rfl⟩ | ⟨e, rfl⟩
    · exact absurd e (ne_of_q T.q_NoHome_NoNests)
    · exact absurd e (ne_of_q T.q_NoHome_NoName)
    · exact absurd e (ne_of_q T.q_NoHome_NoValue)
    · exact absurd e (ne_of_q T.q_NoHome_NoNest)
    · rfl
    · exact absurd e (ne_of_q T.q_NoHome_Taken)
    · exact absurd e (ne_of_q T.q_NoHome_Twice)
    · exact absurd e (ne_of_q T.q_NoHome_NoNote)
  · rcases h2 with ⟨e, rfl⟩ | ⟨e, rfl⟩ | ⟨e, rfl⟩ | ⟨e, rfl⟩ | ⟨e, rfl⟩ | ⟨e, rfl⟩ | ⟨e, rfl⟩ | ⟨e, rfl⟩
    · exact absurd e (ne_of_q T.q_Taken_NoNests)
    · exact absurd e (ne_of_q T.q_Taken_NoName)
    · exact absurd e (ne_of_q T.q_Taken_NoValue)
    · exact absurd e (ne_of_q T.q_Taken_NoNest)
    · exact absurd e (ne_of_q T.q_Taken_NoHome)
    · rfl
    · exact absurd e (ne_of_q T.q_Taken_Twice)
    · exact absurd e (ne_of_q T.q_Taken_NoNote)
  · rcases h2 with ⟨e, rfl⟩ | ⟨e, rfl⟩ | ⟨e, rfl⟩ | ⟨e, rfl⟩ | ⟨e, rfl⟩ | ⟨e, rfl⟩ | ⟨e, rfl⟩ | ⟨e, rfl⟩
    · exact absurd e (ne_of_q T.q_Twice_NoNests)
    · exact absurd e (ne_of_q T.q_Twice_NoName)
    · exact absurd e (ne_of_q T.q_Twice_NoValue)
    · exact absurd e (ne_of_q T.q_Twice_NoNest)
    · exact absurd e (ne_of_q T.q_Twice_NoHome)
    · exact absurd e (ne_of_q T.q_Twice_Taken)
    · rfl
    · exact absurd e (ne_of_q T.q_Twice_NoNote)
  · rcases h2 with ⟨e, rfl⟩ | ⟨e, rfl⟩ | ⟨e, rfl⟩ | ⟨e, rfl⟩ | ⟨e, rfl⟩ | ⟨e, rfl⟩ | ⟨e, rfl⟩ | ⟨e, rfl⟩
    · exact absurd e (ne_of_q T.q_NoNote_NoNests)
    · exact absurd e (ne_of_q T.q_NoNote_NoName)
    · exact absurd e (ne_of_q T.q_NoNote_NoValue)
    · exact absurd e (ne_of_q T.q_NoNote_NoNest)
    · exact absurd e (ne_of_q T.q_NoNote_NoHome)
    · exact absurd e (ne_of_q T.q_NoNote_Taken)
    · exact absurd e (ne_of_q T.q_NoNote_Twice)
    · rfl
end
/-- what comes of a text that is refused -/
def Out (A : Ad) (l : List Nat) (key : Str) : Prop := ∃ (c t1 t2 : Int) (ths : List Thng), parseT l = some ((c, t1, t2), ths) ∧ (¬ M.GoodC c t1 t2 → key = "nests") ∧
  (M.GoodC c t1 t2 → ∀ (i : Nat) (h : i < ths.length) (D : Addr) (k : Str), Goods c t1 t2 (ths.take i) → BadPut A c t1 t2 (heldOf (ths.take i)) ths[i] D → KindIs A D k → k = key) ∧ (M.GoodC c t1 t2 → Goods c t1 t2 ths → False)
theorem first_bad {A : Ad} {c t1 t2 : Int} (hc : 1 ≤ c) {ths : List Thng} {i j : Nat} {D : Addr} (hi : i < ths.length) (hij : i < j) (hj : j ≤ ths.length) (G : Goods c t1 t2 (ths.take j)) (B : BadPut A c t1 t2 (heldOf (ths.take i)) ths[i] D) : False := by
  have g := G i (by rw [List.length_take]; omega)
  have e1 : (ths.take j).take i = ths.take i := by rw [List.take_take, Nat.min_eq_left (by omega)]
  have e2 : (ths.take j)[i]'(by rw [List.length_take]; omega) = ths[i] := List.getElem_take
  rw [e1, e2] at g
  exact good_not_bad hc g B
def b99 : Name := [57, 32, 57, 32, 66, 32, 49]
theorem b99_tx : ("9 9 B 1" : Str) = tx b99 := by decide +kernel
theorem b99_is : thingF (cutsAt 32 b99) = some ([66], 1, (9, 9)) := by decide +kernel
theorem wrong_out {P : Program} {w : World} {K : PySem.W.Frag} {mg : Str → Option Value} {A : Ad} (T : Tx K mg A) {rows : List Name} {key : Str} (W : Wrong A rows key) {extra : List Name} (hx : extra = [] ∨ extra = [b99]) : Out A (textL (rows ++ extra)) key ∧ (textL (rows ++ extra)).length ≤ 787 ∧ (∀ r ∈ rows ++ extra, (10 ∉ r ∧ ∀ x ∈ r, x < 256) ∧ r.length ≤ 100) ∧ (rows ++ extra).length ≤ 18 ∧ rows ≠ [] := by
  obtain ⟨h, rest, c, t1, t2, ths, er, hh, hr, ok, ⟨l1, l2, l3⟩, out⟩ := W
  have okx : ∀ r ∈ extra, (10 ∉ r ∧ ∀ x ∈ r, x < 256) ∧ r.length ≤ 100 := fun r hr => by
    rcases hx with rfl | rfl
    · cases hr
    · rw [List.mem_singleton.mp hr]
      decide
  have ok2 : ∀ r ∈ rows ++ extra, (10 ∉ r ∧ ∀ x ∈ r, x < 256) ∧ r.length ≤ 100 := fun r hr => (List.mem_append.mp hr).elim (fun z => ⟨ok r z, l3 r z⟩) (okx r)
  obtain ⟨ex, hex, lex⟩ : ∃ ex, allF (extra.map (cutsAt 32)) = some ex ∧ (textL extra).length ≤ 8 := by
    rcases hx with rfl | rfl
    · exact ⟨[], rfl, by decide⟩
    · refine ⟨[([66], 1, (9, 9))], ?_, by decide +kernel⟩
      show (thingF (cutsAt 32 b99)).bind _ = _
      rw [b99_is]
      rfl
  have hp : parseT (textL (rows ++ extra)) = some ((c, t1, t2), ths ++ ex) := by
    rw [parse_rows (by rw [er]; exact List.cons_ne_nil _ _) fun r hr => (ok2 r hr).1.1, er]
    show (headF (cutsAt 32 h)).bind (fun c => (allF ((rest ++ extra).map (cutsAt 32))).map fun t => (c, t)) = _
    rw [hh, List.map_append, allF_app hr hex]
    rfl
  refine ⟨⟨c, t1, t2, ths ++ ex, hp, ?_⟩, by rw [textL_app, List.length_append]; omega, ok2, ?_, by rw [er]; exact List.cons_ne_nil _ _⟩
  · rcases out with ⟨ng, ek⟩ | ⟨gc, i, hi, D, G, B, KI⟩
    · exact ⟨fun _ => ek, fun gc => absurd gc ng, fun gc => absurd gc ng⟩
    · have hi2 : i < (ths ++ ex).length := by rw [List.length_append]; omega
      have e1 : (ths ++ ex).take i = ths.take i := List.take_append_of_le_length (by omega)
      have e2 : (ths ++ ex)[i] = ths[i] := List.getElem_append_left hi
      have hc := gc.1
      have B2 : BadPut A c t1 t2 (heldOf ((ths ++ ex).take i)) (ths ++ ex)[i] D := by rw [e1, e2]; exact B
      have G2 : Goods c t1 t2 ((ths ++ ex).take i) := by rw [e1]; exact G
      refine ⟨fun ng => absurd gc ng, fun _ j hj X k Gj Bj Kj => ?_, fun _ Ga => ?_⟩
      · rcases Nat.lt_trichotomy i j with z | z | z
        · exact (first_bad hc hi2 z (by omega) Gj B2).elim
        · subst z
          have e := bad_one hc B2 Bj
          rw [← e] at Kj
          exact kind_fun T Kj KI
        · exact (first_bad hc hj z (by omega) G2 Bj).elim
      · exact good_not_bad hc (Ga i hi2) B2
  · rw [List.length_append]
    rcases hx with rfl | rfl
    · show _ + 0 ≤ 18
      omega
    · show _ + 1 ≤ 18
      omega
def lasts : List Name := [[120], [], [49, 32, 49, 32, 97, 32, 48, 49], [110, 101, 115, 116, 115, 32, 49, 32, 49, 32, 49]]
theorem lasts_tx : (["x", "", "1 1 a 01", "nests 1 1 1"] : List Str) = lasts.map tx := by decide +kernel
theorem last_no {r : Name} (h : r ∈ lasts) : thingF (cutsAt 32 r) = none ∧ (10 ∉ r ∧ ∀ x ∈ r, x < 256) ∧ r.length ≤ 11 := by
  have z : ∀ r ∈ lasts, thingF (cutsAt 32 r) = none ∧ (10 ∉ r ∧ ∀ x ∈ r, x < 256) ∧ r.length ≤ 11 := by decide +kernel
  exact z r h
def sp__law_refused : Sp := fun vs H Q _ => ∃ (p tt hd : Addr) (nz : Name) (cell more : Int) (rows : List Name) (c t1 t2 : Int) (ths : List Thng) (nm : List Name), vs = [.ref p, .ref tt, .ref hd, .str (tx nz), .int cell, .int more] ∧ H p = some (.lst (wlist rows)) ∧ Note rows c t1 t2 ths ∧ Goods c t1 t2 ths ∧ M.GoodC c t1 t2 ∧
  H tt = some (.tup [.int c, .int t1, .int t2]) ∧ HomesAt H hd nm (hmN c t1 t2) ∧ KeysIn H hd nm ∧ (∀ n ∈ nm, NameOk n) ∧ nz ∈ nm ∧ nz ∉ ths.map (·.1) ∧ nm.length ≤ 60 ∧ ∀ H', Same H H' → Q (.bl true) H'
section
variable {P : Program} {w : World} {K : PySem.W.Frag} {mg : Str → Option Value} {base : Heap} {A : Ad}
theorem ok__law_refused (T : Tx K mg A) : FnOk P w K mg base CX0 8 A.a__law_refused A.d__law_refused ["_law_rows_here", "_law_told_here", "_law_homes_here", "_law_name", "_law_cell", "_law_more"] sp__law_refused := by
  refine T.F__law_refused.ok sc__law_refused (fun vs H Q E h => ?_) (fun cdv Ar outer s H vs Q E hr h => ?_)
  · obtain ⟨p, tt, hd, nz, cell, more, rows, c, t1, t2, ths, nm, rfl, _⟩ := h
    rfl
  · obtain ⟨p, tt, hd, nz, cell, more, rows, c, t1, t2, ths, nm, rfl, hp, N, G, gc, htt, hho, hke, hnm, hnz, hnew, hnl, k⟩ := h
    refine ⟨_, 
      (pss_cons (ps_set (i := 6) sc__law_refused.nd rfl (Or.inl rfl) (pe_call (ok__law_other T) (hr.mono (by decide)) (by rfl) T.g__law_other T.F__law_other.kp T.b__law_other .nil pass0 (pa_cons (pv 0) (pa_cons (pv 1) (pa_cons (pv 2) (pa_cons (pv 3) (pa_cons (pv 4) (pa_cons (pv 5) pa_nil))))))))
      (pss_cons (ps_set (i := 7) sc__law_refused.nd rfl (Or.inl rfl) (pe_op op_cat (pe_ix (r := rIxT K) ix_tup (pv 6) pe_int (fun _ _ => rfl)) (pe_slice sl_list (pe_lst (pa_cons pe_str pa_nil)) po_none (po_some (pe_op op_mod (pe_op op_fdiv (pv 5) pe_int) pe_int)))))
      (C8.pss_cut (ps_if (pt_cmpR op_ne (pe_call (ok__law_told T) hr (by rfl) T.g__law_told T.F__law_told.kp T.b__law_told .nil pass0 (pa_cons (pe_call (ok__law_text T) (hr.mono (by decide)) (by rfl) T.g__law_text T.F__law_text.kp T.b__law_text .nil pass0 (pa_cons (pv 7) pa_nil)) pa_nil)) (pe_ix (r := rIxT K) ix_tup (pv 6) pe_int (fun _ _ => rfl)) (nomark _)) 
        (pss_one (ps_ret pe_bl)) pss_nil)
      (pss_cons (ps_set (i := 8) sc__law_refused.nd rfl (Or.inl rfl) (pe_ix (r := rIxL K) ix_list (pe_lst (pa_cons pe_str (pa_cons pe_str (pa_cons pe_str (pa_cons pe_str pa_nil))))) (pe_op op_mod (pe_op op_fdiv (pv 5) pe_int) pe_int) (fun _ _ => rfl)))
      (pss_one (ps_ret (pe_cmpR op_eq (pe_call (ok__law_told T) hr (by rfl) T.g__law_told T.F__law_told.kp T.b__law_told .nil pass0 (pa_cons (pe_call (ok__law_text T) (hr.mono (by decide)) (by rfl) T.g__law_text T.F__law_text.kp T.b__law_text .nil pass0 (pa_cons (pe_op op_cat (pv 7) (pe_lst (pa_cons (pv 8) pa_nil))) pa_nil)) pa_nil)) pe_str (nomark _)))))))), ?_⟩
    have big := sizeLine_eq
    refine ⟨_, rfl, _, rfl, _, rfl, _, rfl, _, rfl, _, rfl, p, tt, hd, nz, cell, more, rows, c, t1, t2, ths, nm, rfl, hp, N, G, gc, htt, hho, hke, hnm, hnz, hnew, hnl, fun H1 q l rows2 key S1 hq hl W => ?_⟩
    refine ⟨_, rfl, q, _, _, _, rfl, rfl, SqT.of hq, atI_nat (j := 0) rfl, (by show 1 ≤ sizeLine; decide), fun l1 g1 => ?_⟩
    have T1 := fun o => same_new (o := o) g1
    obtain ⟨j, hj, ej⟩ := mod_nat (x := more / 7) (n := 2) (by decide)
    refine ⟨_, rfl, _, _, rfl, rfl, ⟨by decide, by decide⟩, _, _, rfl, rfl, (by show (0 : Int) < 2; decide), (j : Int), congrArg V.int ej, l1, wlist [b99], rfl, SqL.of (by rw [show wlist [b99] = [V.str "9 9 B 1"] by rw [b99_tx]; rfl]; exact upd_same), fun q2 g2 => ?_⟩
    rw [cut_lo_l]
    have T2 := fun o => same_new (o := o) g2
    have hx : [b99].take j = [] ∨ [b99].take j = [b99] := by
      match j, hj with
      | 0, _ => exact .inl rfl
      | 1, _ => exact .inr rfl
    generalize [b99].take j = extra at hx
    obtain ⟨Ou, ol, ok, on, ne⟩ := wrong_out (P := P) (w := w) T W hx
    have lw : (wlist rows2).length + (wlist extra).length ≤ 18 := by rw [wlist_len, wlist_len, ← List.length_append]; exact on
    refine ⟨l, q2, wlist rows2, wlist extra, rfl, rfl, T2 _ _ _ (T1 _ _ _ hl), upd_same, by omega, fun q3 g3 => ?_⟩
    rw [wlist_app]
    have T3 := fun o => same_new (o := o) g3
    have hq3 := T3 (.lst (wlist (rows2 ++ extra))) _ _ (T2 (.lst (wlist extra)) _ _ (T1 (.lst [V.str "9 9 B 1"]) _ _ hq))
    have S3 : Same H1 (upd (upd (upd H1 l1 (.lst [V.str "9 9 B 1"])) q2 (.lst (wlist extra))) q3 (.lst (wlist (rows2 ++ extra)))) := fun b o z => T3 _ _ _ (T2 _ _ _ (T1 _ _ _ z))
    have v3 : upd (upd (upd H1 l1 (.lst [V.str "9 9 B 1"])) q2 (.lst (wlist extra))) q3 (.lst (wlist (rows2 ++ extra))) q3 = some (.lst (wlist (rows2 ++ extra))) := upd_same
    generalize upd (upd (upd H1 l1 (.lst [V.str "9 9 B 1"])) q2 (.lst (wlist extra))) q3 (.lst (wlist (rows2 ++ extra))) = H3 at hq3 S3 v3 ⊢
    have lens : ∀ r ∈ rows2 ++ extra, r.length ≤ 200 := fun r hr => by have := (ok r hr).2; omega
    refine ⟨fun σ H4 => σ = [some (.ref p), some (.ref tt), some (.ref hd), some (.str (tx nz)), some (.int cell), some (.int more), some (.ref q), some (.ref q3), none] ∧ Same H3 H4, ?_, ?_⟩
    · obtain ⟨oc, ot1, ot2, oth, op, o1, o2, o3⟩ := Ou
      refine ⟨_, rfl, q3, rows2 ++ extra, rfl, SqL.of v3, by omega, lens, fun H4 S4 => ?_⟩
      refine ⟨_, rfl, by omega, textL_ch fun r hr => (ok r hr).1.2, fun z => (by rw [op] at z; cases z), fun c' t1' t2' ths' z => ?_⟩
      rw [op] at z
      have z := Option.some.inj z
      obtain ⟨z1, z2⟩ := Prod.mk.inj z
      obtain ⟨z3, z4⟩ := Prod.mk.inj z1
      obtain ⟨z5, z6⟩ := Prod.mk.inj z4
      subst z2 z3 z5 z6
      have fin : ∀ H5, Same H4 H5 → SqT K H5 q [.ref l, .str key] := fun H5 S5 => SqT.of (S5 _ _ (S4 _ _ hq3))
      refine ⟨fun ng H5 S5 => ?_, fun gg => ⟨fun i h D k' Gi Bi Ki H5 S5 => ?_, fun Gg => (o3 gg Gg).elim⟩⟩
      · have e := o1 ng
        subst e
        refine ⟨_, rfl, q, _, _, _, rfl, rfl, fin _ S5, atI_nat (j := 1) rfl, rfl, false, ?_, iteF ⟨rfl, S4.trans S5⟩⟩
        rw [decide_eq_true rfl]
        rfl
      · have e := o2 gg i h D k' Gi Bi Ki
        subst e
        refine ⟨_, rfl, q, _, _, _, rfl, rfl, fin _ S5, atI_nat (j := 1) rfl, rfl, false, ?_, iteF ⟨rfl, S4.trans S5⟩⟩
        rw [decide_eq_true rfl]
        rfl
    · rintro σ H4 ⟨rfl, S4⟩
      have S04 := (S1.trans S3).trans S4
      have q4 : [V.str "x", V.str "", V.str "1 1 a 01", V.str "nests 1 1 1"] = wlist lasts := by
        rw [← wlist_eq, ← lasts_tx]
        rfl
      obtain ⟨y, hy, ey⟩ := pick_at lasts (x := more / 14) (n := 4) rfl (by decide)
      obtain ⟨y1, y2, y3⟩ := last_no hy
      refine ⟨(by show 4 ≤ sizeLine; decide), fun l2 g2 => ?_⟩
      rw [q4]
      have T4 := fun o => same_new (o := o) g2
      refine ⟨_, rfl, _, _, rfl, rfl, ⟨by decide, by decide⟩, _, _, rfl, rfl, (by show (0 : Int) < 4; decide), l2, _, _, _, rfl, rfl, SqL.of upd_same, ey, ?_⟩
      refine ⟨_, rfl, _, rfl, (by show 1 ≤ sizeLine; decide), fun l3 g3 => ?_⟩
      have T5 := fun o => same_new (o := o) g3
      have lw1 : (wlist [y]).length = 1 := rfl
      have lw2 : (wlist (rows2 ++ extra)).length ≤ 18 := by rw [wlist_len]; exact on
      refine ⟨q3, l3, wlist (rows2 ++ extra), wlist [y], rfl, rfl, T5 _ _ _ (T4 _ _ _ (S4 _ _ v3)), upd_same, by omega, fun q5 g5 => ?_⟩
      rw [wlist_app]
      have T6 := fun o => same_new (o := o) g5
      have ok2 : ∀ r ∈ rows2 ++ extra ++ [y], (10 ∉ r ∧ ∀ x ∈ r, x < 256) ∧ r.length ≤ 100 := fun r hr => by
        rcases List.mem_append.mp hr with z | z
        · exact ok r z
        · rw [List.mem_singleton.mp z]
          exact ⟨y2, by omega⟩
      have tl : (textL (rows2 ++ extra ++ [y])).length ≤ 800 := by
        rw [textL_app, List.length_append, textL_one]
        omega
      have no : parseT (textL (rows2 ++ extra ++ [y])) = none := by
        rw [parse_rows (by simp) fun r hr => (ok2 r hr).1.1]
        obtain ⟨a, as, ea⟩ : ∃ a as, rows2 = a :: as := by
          cases rows2 with
          | nil => exact absurd rfl ne
          | cons a as => exact ⟨a, as, rfl⟩
        rw [ea]
        refine parse_tail (allF_none (w := cutsAt 32 y) ?_ y1)
        refine List.mem_map.mpr ⟨y, ?_, rfl⟩
        show y ∈ as ++ extra ++ [y]
        exact List.mem_append_right _ (List.mem_singleton.mpr rfl)
      have l19 : (rows2 ++ extra ++ [y]).length ≤ 60 := by
        rw [List.length_append, List.length_singleton]
        omega
      refine ⟨q5, rows2 ++ extra ++ [y], rfl, SqL.of upd_same, l19, fun r hr => (by have := (ok2 r hr).2; omega), fun H6 S6 => ?_⟩
      refine ⟨_, rfl, tl, textL_ch fun r hr => (ok2 r hr).1.2, fun z H7 S7 => ⟨rfl, ?_⟩, fun c' t1' t2' ths' z => (by rw [no] at z; cases z)⟩
      rw [decide_eq_true rfl]
      exact k _ fun b o z => S7 _ _ (S6 _ _ (T6 _ _ _ (T5 _ _ _ (T4 _ _ _ (S04 _ _ z)))))
end

end K11

namespace K11
open PySem L2 Ck TS2 TX TB
/-! the law -/
theorem one_inj {x : Int} {i j : Nat} (hi : i < 36) (hj : j < 36) (e : one (x + (i : Int)) = one (x + (j : Int))) : i = j := by
  have a := one_get (x + (i : Int))
  have b := one_get (x + (j : Int))
  rw [e] at a
  have key : ∀ m, m < 36 → ∀ n, n < 36 → alph[m]? = alph[n]? → m = n := by decide +kernel
  have i0 : 0 ≤ (x + (i : Int)) % 36 := Int.emod_nonneg _ (by decide)
  have i1 : (x + (i : Int)) % 36 < 36 := Int.emod_lt_of_pos _ (by decide)
  have j0 : 0 ≤ (x + (j : Int)) % 36 := Int.emod_nonneg _ (by decide)
  have j1 : (x + (j : Int)) % 36 < 36 := Int.emod_lt_of_pos _ (by decide)
  have z := key _ (by omega) _ (by omega) (a.trans b.symm)
  omega
theorem nameL_inj {c : Int} {i j : Nat} (hi : i < 36) (hj : j < 36) (e : nameL c i = nameL c j) : i = j := by
  unfold nameL at e
  have e := List.append_cancel_left (List.append_cancel_right e)
  unfold mid at e
  have z := congrArg List.getLast? e
  rw [List.getLast?_concat, List.getLast?_concat] at z
  exact one_inj hi hj (Option.some.inj z)
theorem name_out (c : Int) : ((List.range 21).map (nameL c))[20]? = some (nameL c 20) ∧ nameL c 20 ∉ ((List.range 21).map (nameL c)).take 20 := by
  constructor
  · rw [List.getElem?_map]
    rfl
  · intro h
    rw [← List.map_take] at h
    obtain ⟨j, hj, e⟩ := List.mem_map.mp h
    have hj2 : j ∈ List.range 20 := by
      have q : (List.range 21).take 20 = List.range 20 := by decide
      rw [← q]
      exact hj
    have hj3 := List.mem_range.mp hj2
    have := nameL_inj (by omega) (by decide) e
    omega
def sp_law (K : PySem.W.Frag) : Sp := fun vs H Q _ => ∃ (a : Addr) (ns : List Int), vs = [.ref a] ∧ SqL K H a (ns.map V.int) ∧ ns.length ≤ 63 ∧ ∀ H', Q (.bl true) H'
section
variable {P : Program} {w : World} {K : PySem.W.Frag} {mg : Str → Option Value} {base : Heap} {A : Ad}
theorem ok_law (T : Tx K mg A) : FnOk P w K mg base CX0 9 A.a_law A.d_law ["_law_script"] (sp_law K) := by
  refine T.F_law.ok sc_law (fun vs H Q E h => ?_) (fun cdv Ar outer s H vs Q E hr h => ?_)
  · obtain ⟨a, ns, rfl, _⟩ := h
    rfl
  · obtain ⟨a, ns, rfl, hS, hlen, k⟩ := h
    refine ⟨_, 
      (pss_cons (ps_set (i := 1) sc_law.nd rfl (Or.inl rfl) (pe_call (ok__law_table T) (hr.mono (by decide)) (by rfl) T.g__law_table T.F__law_table.kp T.b__law_table .nil pass0 (pa_cons (pv 0) pa_nil)))
      (pss_cons (ps_set (i := 2) sc_law.nd rfl (Or.inl rfl) (pe_call (ok__law_names T) (hr.mono (by decide)) (by rfl) T.g__law_names T.F__law_names.kp T.b__law_names .nil pass0 (pa_cons (pe_call (ok__law_cell_at T) (hr.mono (by decide)) (by rfl) T.g__law_cell_at T.F__law_cell_at.kp T.b__law_cell_at .nil pass0 (pa_cons (pv 0) (pa_cons pe_int pa_nil))) (pa_cons pe_int pa_nil))))
      (pss_cons (ps_set (i := 3) sc_law.nd rfl (Or.inl rfl) (pe_call (ok__law_homes T) (hr.mono (by decide)) (by rfl) T.g__law_homes T.F__law_homes.kp T.b__law_homes .nil pass0 (pa_cons (pv 2) (pa_cons (pv 1) pa_nil))))
      (pss_cons (ps_asg (pe_call (ok__law_drawn T) (hr.mono (by decide)) (by rfl) T.g__law_drawn T.F__law_drawn.kp T.b__law_drawn .nil pass0 (pa_cons (pv 0) (pa_cons (pv 1) (pa_cons (pv 2) (pa_cons (pv 3) pa_nil))))) (pg_tup rfl (pgs_cons (pg_name (i := 4) sc_law.nd rfl (Or.inl rfl)) (pgs_cons (pg_name (i := 5) sc_law.nd rfl (Or.inl rfl)) pgs_nil))))
      (pss_cons (ps_set (i := 6) sc_law.nd rfl (Or.inl rfl) (pe_lst (pa_cons pe_str (pa_cons (pe_callTy call_str_int (by rfl) T.m_str (by decide +kernel) (pa_cons (pe_ix (r := rIxT K) ix_tup (pv 1) pe_int (fun _ _ => rfl)) pa_nil)) (pa_cons (pe_callTy call_str_int (by rfl) T.m_str (by decide +kernel) (pa_cons (pe_ix (r := rIxT K) ix_tup (pv 1) pe_int (fun _ _ => rfl)) pa_nil)) (pa_cons (pe_callTy call_str_int (by rfl) T.m_str (by decide +kernel) (pa_cons (pe_ix (r := rIxT K) ix_tup (pv 1) pe_int (fun _ _ => rfl)) pa_nil)) pa_nil))))))
      (pss_cons (ps_set (i := 7) sc_law.nd rfl (Or.inl rfl) (pe_op op_cat (pe_lst (pa_cons (pe_m1 PySem.F.slot_str_join PySem.F.type_str_join mt_join pe_str (pv 6)) pa_nil)) (pe_call (ok__law_rows T) (hr.mono (by decide)) (by rfl) T.g__law_rows T.F__law_rows.kp T.b__law_rows .nil pass0 (pa_cons (pv 4) (pa_cons (pv 5) pa_nil)))))
      (pss_cons (ps_set (i := 8) sc_law.nd rfl (Or.inl rfl) (pe_op op_mod (pe_call (ok__law_cell_at T) (hr.mono (by decide)) (by rfl) T.g__law_cell_at T.F__law_cell_at.kp T.b__law_cell_at .nil pass0 (pa_cons (pv 0) (pa_cons pe_int pa_nil))) pe_int))
      (pss_cons (ps_set (i := 9) sc_law.nd rfl (Or.inl rfl) (pe_ix (r := rIxL K) ix_list (pv 2) pe_int (fun _ _ => rfl)))
      (pss_cons (ps_for PassesOwn.never rfl (pi_range1 (by rfl) T.m_range (pa_cons pe_int pa_nil)) (pg_name (i := 10) sc_law.nd rfl (Or.inl rfl)) 
        (pss_cons (ps_set (i := 11) sc_law.nd rfl (Or.inl rfl) (pe_call (ok__law_mixed T) (hr.mono (by decide)) (by rfl) T.g__law_mixed T.F__law_mixed.kp T.b__law_mixed .nil pass0 (pa_cons (pe_call (ok__law_cell_at T) (hr.mono (by decide)) (by rfl) T.g__law_cell_at T.F__law_cell_at.kp T.b__law_cell_at .nil pass0 (pa_cons (pv 0) (pa_cons pe_int pa_nil))) (pa_cons (pv 10) pa_nil))))
        (pss_cons (ps_set (i := 12) sc_law.nd rfl (Or.inl rfl) (pe_call (ok__law_mixed T) (hr.mono (by decide)) (by rfl) T.g__law_mixed T.F__law_mixed.kp T.b__law_mixed .nil pass0 (pa_cons (pe_call (ok__law_cell_at T) (hr.mono (by decide)) (by rfl) T.g__law_cell_at T.F__law_cell_at.kp T.b__law_cell_at .nil pass0 (pa_cons (pv 0) (pa_cons pe_int pa_nil))) (pa_cons (pv 10) pa_nil))))
        (C8.pss_cut (ps_if (pt_cmpR op_eq (pv 8) pe_int (nomark _)) 
          (pss_one (ps_if (pt_not (pt_val (pe_call (ok__law_good T) (hr.mono (by decide)) (by rfl) T.g__law_good T.F__law_good.kp T.b__law_good .nil pass0 (pa_cons (pv 1) (pa_cons (pv 7) (pa_cons (pv 4) (pa_cons (pv 5) (pa_cons (pv 3) (pa_cons (pv 9) (pa_cons (pv 12) pa_nil)))))))))) 
            (pss_one (ps_ret pe_bl)) pss_nil)) pss_nil)
        (C8.pss_cut (ps_if (PW.pt (pw_and (pt_cmpR op_eq (pv 8) pe_int (nomark _)) (pw_and1 (pt_cmpR op_ne (pe_call (ok__law_told T) (hr.mono (by decide)) (by rfl) T.g__law_told T.F__law_told.kp T.b__law_told .nil pass0 (pa_cons (pe_call (ok__law_spoilt T) (hr.mono (by decide)) (by rfl) T.g__law_spoilt T.F__law_spoilt.kp T.b__law_spoilt .nil pass0 (pa_cons (pv 7) (pa_cons (pv 11) (pa_cons (pv 12) pa_nil)))) pa_nil)) pe_str (nomark _))))) 
          (pss_one (ps_ret pe_bl)) pss_nil)
        (pss_one (ps_if (pt_cmpR op_eq (pv 8) pe_int (nomark _)) 
          (pss_one (ps_if (pt_not (pt_val (pe_call (ok__law_refused T) hr (by rfl) T.g__law_refused T.F__law_refused.kp T.b__law_refused .nil pass0 (pa_cons (pv 7) (pa_cons (pv 1) (pa_cons (pv 3) (pa_cons (pv 9) (pa_cons (pv 11) (pa_cons (pv 12) pa_nil))))))))) 
            (pss_one (ps_ret pe_bl)) pss_nil)) pss_nil)))))))
      (pss_one (ps_ret pe_bl))))))))))), ?_⟩
    refine ⟨_, rfl, a, ns, rfl, hS, fun H1 tt c t1 t2 S1 htt ett c0 c1 a0 a1 b0 b1 => ?_⟩
    -- names, homes
    refine ⟨_, rfl, a, ns, 3, rfl, S1.seq hS, ns.getD 3 0, 21, rfl, by decide, fun H2 pn S2 hpn en => ?_⟩
    obtain ⟨n20, no20⟩ := name_out (ns.getD 3 0)
    have hok : ∀ n ∈ (List.range 21).map (nameL (ns.getD 3 0)), NameOk n := fun n hn => by
      obtain ⟨j, _, rfl⟩ := List.mem_map.mp hn
      exact nameL_ok _ _
    have hnl : ((List.range 21).map (nameL (ns.getD 3 0))).length = 21 := by rw [List.length_map, List.length_range]
    generalize nameL (ns.getD 3 0) 20 = nz at n20 no20
    generalize (List.range 21).map (nameL (ns.getD 3 0)) = nm at en hok hnl n20 no20
    have hnz : nz ∈ nm := List.mem_of_getElem? n20
    refine ⟨_, rfl, _, rfl, pn, tt, nm, c, t1, t2, rfl, SqL.of en, fun n hn => (hok n hn).al, by omega, SqT.of (S2 _ _ ett), by omega, by omega, fun H3 hd S3 hhd ehd ekd => ?_⟩
    have S03 := (S1.trans S2).trans S3
    have g0 : GoodT c t1 t2 [] := GoodT.nil c0 c1 a0 a1 b0 b1
    -- things
    refine ⟨_, rfl, _, rfl, _, rfl, _, rfl, a, tt, pn, hd, ns, nm, c, t1, t2, rfl, S03.seq hS, hlen, S3 _ _ en, hnl, hok, ehd, g0, fun H4 q he vd L vals kv S4 hq D hhe hvd => ?_⟩
    refine ⟨q, _, rfl, SqT.of hq, rfl, _, _, rfl, _, _, rfl, rfl, ?_⟩
    have S04 := S03.trans S4
    have ett4 := S4 _ _ (S3 _ _ (S2 _ _ ett))
    have sqt := SqT.of (K := K) ett4
    refine ⟨_, rfl, tt, _, _, _, rfl, rfl, sqt, atI_nat (j := 0) rfl, _, rfl, small_dec (by omega) (by omega), ?_⟩
    refine ⟨_, rfl, tt, _, _, _, rfl, rfl, sqt, atI_nat (j := 1) rfl, _, rfl, small_dec (by omega) (by omega), ?_⟩
    refine ⟨_, rfl, tt, _, _, _, rfl, rfl, sqt, atI_nat (j := 2) rfl, _, rfl, small_dec (by omega) (by omega), ?_⟩
    refine ⟨(by show 4 ≤ sizeLine; decide), fun lw gw => ?_⟩
    have hd0 : HdOk c t1 t2 := ⟨by omega, c1, by omega, a1, by omega, b1⟩
    have ew : [V.str "nests", V.str ((toString c : String) : Str), V.str ((toString t1 : String) : Str), V.str ((toString t2 : String) : Str)] = wlist (wordsH c t1 t2) := by
      rw [nests_tx, dec_tx, dec_tx, dec_tx]
      rfl
    rw [ew]
    have T1 : Same H4 (upd H4 lw (.lst (wlist (wordsH c t1 t2)))) := same_new gw
    have v1 : upd H4 lw (.lst (wlist (wordsH c t1 t2))) lw = some (.lst (wlist (wordsH c t1 t2))) := upd_same
    generalize upd H4 lw (.lst (wlist (wordsH c t1 t2))) = H5 at T1 v1 ⊢
    have D5 := D.same T1
    refine ⟨⟨_, rfl⟩, _, rfl, _, lw, (wordsH c t1 t2).map tx, rfl, rfl, join_at v1, join_bd (fun w hw => (hd0.fine w hw).len) rfl, ?_⟩
    rw [join_sp]
    refine ⟨(by show 1 ≤ sizeLine; decide), fun q1 g1 => ?_⟩
    have T2 := fun o => same_new (o := o) g1
    have D6 := D5.same (T2 (.lst [V.str (tx (TL.joinL [32] (wordsH c t1 t2)))]))
    have ll := D.len
    have thL : ∀ x ∈ L, NameOk x.2 ∧ (0 ≤ x.1.1 ∧ x.1.1 ≤ 1) ∧ (0 ≤ x.1.2 ∧ x.1.2 < 1000) ∧ M.VOk (vals x.2) := fun x hx => by
      have i := D.good.inT x hx
      obtain ⟨i0, i1, i2⟩ := i
      exact ⟨D.good.ok x hx, by omega, by omega, D.ok _ (List.mem_map.mpr ⟨x, hx, rfl⟩)⟩
    refine ⟨_, rfl, _, rfl, he, vd, L, vals, kv, rfl, D6.held, D6.valD, fun m hm => D.val hm, D.good.ns, by omega, thL, fun H6 pr S S6 gpr hpr hS' mS => ?_⟩
    have Bs : Base c t1 t2 L vals S (headT c t1 t2 :: S.map (rowL L vals)) := ⟨D.good, D.ok, ll, hS', mS, rfl⟩
    have sl := Bs.sl (sorted_nd hS') mS
    have lS : (wlist (S.map (rowL L vals))).length ≤ 14 := by rw [wlist_len, List.length_map]; exact sl
    have big := sizeLine_eq
    refine ⟨q1, pr, wlist [headT c t1 t2], wlist (S.map (rowL L vals)), rfl, rfl, S6 _ _ upd_same, hpr, (by show 1 + _ ≤ sizeLine; omega), fun p g2 => ?_⟩
    rw [wlist_app]
    have T3 : Same H6 (upd H6 p (.lst (wlist ([headT c t1 t2] ++ S.map (rowL L vals))))) := same_new g2
    have hp : upd H6 p (.lst (wlist ([headT c t1 t2] ++ S.map (rowL L vals)))) p = some (.lst (wlist (headT c t1 t2 :: S.map (rowL L vals)))) := upd_same
    have S45 : Same H4 (upd H6 p (.lst (wlist ([headT c t1 t2] ++ S.map (rowL L vals))))) := fun b o z => T3 _ _ (S6 _ _ (T2 _ _ _ (T1 _ _ z)))
    generalize upd H6 p (.lst (wlist ([headT c t1 t2] ++ S.map (rowL L vals)))) = H7 at T3 hp S45 ⊢
    have S07 := S04.trans S45
    have D7 := D.same S45
    have en7 := S45 _ _ (S4 _ _ (S3 _ _ en))
    have ett7 := S45 _ _ ett4
    have ehd7 := (ehd.same S4).same S45
    have ekd7 := (ekd.same S4).same S45
    -- which kind
    refine ⟨_, rfl, a, ns, 4, rfl, S07.seq hS, _, _, rfl, rfl, (by show (0 : Int) < 3; decide), ?_⟩
    show gName 8 (V.int (ns.getD 4 0 % 3)) _ _ _
    generalize ns.getD 4 0 % 3 = kd
    refine ⟨_, rfl, pn, _, _, _, rfl, rfl, SqL.of en7, atI_nat (j := 20) (by rw [List.getElem?_map, n20]; exact rfl), ?_⟩
    have nzn : nz ∉ L.map (·.2) := fun z => by
      obtain ⟨x, hx, ex⟩ := List.mem_map.mp z
      exact no20 (ex ▸ D.sub x hx)
    have va : ∀ m ∈ L.map (·.2), valV kv (.inr (tx m)) = some (.int (vals m)) := fun m hm => D.val hm
    have N := Bs.note (sorted_nd hS') mS
    have G := Bs.goods (sorted_nd hS') mS
    have nzt : nz ∉ (thsOf L vals S).map (·.1) := fun z => by
      rw [← held_map] at z
      obtain ⟨x, hx, ex⟩ := List.mem_map.mp z
      exact nzn (List.mem_map.mpr ⟨x, (mem_ths D.good.ns mS x).mp hx, ex⟩)
    refine ⟨_, rfl, by decide, by decide, for_range (lo := 0) (n := 6) (fun i σ H8 => ∃ o10 o11 o12, σ = [some (.ref a), some (.ref tt), some (.ref pn), some (.ref hd), some (.ref he), some (.ref vd), some (.ref lw), some (.ref p), some (.int kd), some (.str (tx nz)), o10, o11, o12] ∧ Same H7 H8) ⟨none, none, none, rfl, Same.refl _⟩ ?_ ?_⟩
    · rintro i σ H8 hi ⟨o10, o11, o12, rfl, S8⟩
      have S08 := S07.trans S8
      refine ⟨_, rfl, a, ns, 5, rfl, S08.seq hS, _, rfl, _, _, rfl, ?_⟩
      refine ⟨_, rfl, a, ns, 6, rfl, S08.seq hS, _, rfl, _, _, rfl, ?_⟩
      -- a note that holds
      refine ⟨fun σ H9 => ∃ o10 cl mo, σ = [some (.ref a), some (.ref tt), some (.ref pn), some (.ref hd), some (.ref he), some (.ref vd), some (.ref lw), some (.ref p), some (.int kd), some (.str (tx nz)), o10, some (.int cl), some (.int mo)] ∧ Same H7 H9, ?_, ?_⟩
      · refine ⟨_, rfl, rfl, _, rfl, ite2 (fun _ => ?_) (fun _ => ⟨_, _, _, rfl, S8⟩)⟩
        refine ⟨_, rfl, _, rfl, _, rfl, _, rfl, _, rfl, _, rfl, _, rfl, tt, p, he, vd, hd, nz, _, _, c, t1, t2, L, vals, kv, S, nm, rfl, Bs, S8 _ _ ett7, S8 _ _ hp, (D7.same S8).held, (D7.same S8).valD, va, D.kl, ehd7.same S8, hnz, hok nz hnz, nzn, fun H9 S9 => ⟨true, rfl, iteF ⟨_, _, _, rfl, S8.trans S9⟩⟩⟩
      rintro σ H9 ⟨o10, cl, mo, rfl, S9⟩
      -- a text that is none
      refine ⟨fun σ H9 => ∃ o10 cl mo, σ = [some (.ref a), some (.ref tt), some (.ref pn), some (.ref hd), some (.ref he), some (.ref vd), some (.ref lw), some (.ref p), some (.int kd), some (.str (tx nz)), o10, some (.int cl), some (.int mo)] ∧ Same H7 H9, ?_, ?_⟩
      · refine ⟨_, rfl, rfl, _, rfl, ite2 (fun _ => ?_) (fun _ => iteF ⟨_, _, _, rfl, S9⟩)⟩
        refine ⟨_, rfl, _, rfl, _, rfl, p, cl, mo, _, c, t1, t2, _, rfl, S9 _ _ hp, N, fun X H10 nt S10 => ?_⟩
        refine ⟨X, rfl, nt.len, nt.ch, fun _ H11 S11 => ⟨rfl, false, ?_, iteF ⟨_, _, _, rfl, (S9.trans S10).trans S11⟩⟩, fun c' t1' t2' ths z => (by rw [nt.no] at z; cases z)⟩
        rw [decide_eq_true rfl]
        rfl
      rintro σ H10 ⟨o10, cl, mo, rfl, S10⟩
      -- what is refused
      refine ⟨_, rfl, rfl, _, rfl, ite2 (fun _ => ?_) (fun _ => ⟨_, _, _, rfl, S10⟩)⟩
      exact ⟨_, rfl, _, rfl, _, rfl, _, rfl, _, rfl, _, rfl, p, tt, hd, nz, cl, mo, _, c, t1, t2, _, nm, rfl, S10 _ _ hp, N, G, Bs.goodC, S10 _ _ ett7, ehd7.same S10, ekd7.same S10, hok, hnz, nzt, by omega, fun H11 S11 => ⟨true, rfl, iteF ⟨_, _, _, rfl, S10.trans S11⟩⟩⟩
    · rintro σ H8 ⟨o10, o11, o12, rfl, S8⟩
      exact k _
end

end K11

namespace K11
open PySem L2 Ck TS2 TX TB
theorem all_mk {l : PySem.W.OpenLaw} {w : World} {K : PySem.W.Frag} {h : Heap} {mg : Str → Option Value} {fa : Addr} (X : K.In h) (G : h.Ns mainGlobals mg) (hfa : mg "law" = some (.ref fa))
    {f_is_name f_home f_Nests_init f_Nests_homes f_Nests_at f_Nests_way f_Nests_put f_Nests_put_at f_Nests_moves f_Nests_take_out f_Nests_value f_Nests_where f_Nests_names f_Nests_many f_Nests__check_nest f_Nests__thing f_Nests__stand f_Nests__other_home f_Nests__ways f_Nests__is_open f_Nests__open_way f_Nests__moves_on f__check_name f__check_value f_written f_read f__rows f__head f__thing f__number f__value f__law_cell_at f__law_mixed f__law_room f__law_names f__law_home f__law_table f__law_homes f__law_kind f__law_told f__law_drawn f__law_rows f__law_text f__law_alike f__law_number f__law_spoilt f__law_other f__law_good f__law_refused f_law c_Nests c_NestError c_NoNests c_NoName c_NoValue c_NoNest c_NoHome c_Taken c_Twice c_NoRoom c_Unknown c_NoNote : Addr}
    {od_is_name an_is_name od_home an_home od_Nests_init an_Nests_init od_Nests_homes an_Nests_homes od_Nests_at an_Nests_at od_Nests_way an_Nests_way od_Nests_put an_Nests_put od_Nests_put_at an_Nests_put_at od_Nests_moves an_Nests_moves od_Nests_take_out an_Nests_take_out od_Nests_value an_Nests_value od_Nests_where an_Nests_where od_Nests_names an_Nests_names od_Nests_many an_Nests_many od_Nests__check_nest an_Nests__check_nest od_Nests__thing an_Nests__thing od_Nests__stand an_Nests__stand od_Nests__other_home an_Nests__other_home od_Nests__ways an_Nests__ways od_Nests__is_open an_Nests__is_open od_Nests__open_way an_Nests__open_way od_Nests__moves_on an_Nests__moves_on od__check_name an__check_name od__check_value an__check_value od_written an_written od_read an_read od__rows an__rows od__head an__head od__thing an__thing od__number an__number od__value an__value od__law_cell_at an__law_cell_at od__law_mixed an__law_mixed od__law_room an__law_room od__law_names an__law_names od__law_home an__law_home od__law_table an__law_table od__law_homes an__law_homes od__law_kind an__law_kind od__law_told an__law_told od__law_drawn an__law_drawn od__law_rows an__law_rows od__law_text an__law_text od__law_alike an__law_alike od__law_number an__law_number od__law_spoilt an__law_spoilt od__law_other an__law_other od__law_good an__law_good od__law_refused an__law_refused od_law an_law : Option Addr} {sl_is_name sl_home sl_Nests_init sl_Nests_homes sl_Nests_at sl_Nests_way sl_Nests_put sl_Nests_put_at sl_Nests_moves sl_Nests_take_out sl_Nests_value sl_Nests_where sl_Nests_names sl_Nests_many sl_Nests__check_nest sl_Nests__thing sl_Nests__stand sl_Nests__other_home sl_Nests__ways sl_Nests__is_open sl_Nests__open_way sl_Nests__moves_on sl__check_name sl__check_value sl_written sl_read sl__rows sl__head sl__thing sl__number sl__value sl__law_cell_at sl__law_mixed sl__law_room sl__law_names sl__law_home sl__law_table sl__law_homes sl__law_kind sl__law_told sl__law_drawn sl__law_rows sl__law_text sl__law_alike sl__law_number sl__law_spoilt sl__law_other sl__law_good sl__law_refused sl_law : Array (Option Value)}
    {oc_is_name kV_is_name dc_is_name pm_is_name cd_is_name ct_is_name oc_home kV_home dc_home pm_home cd_home ct_home oc_Nests_init kV_Nests_init dc_Nests_init pm_Nests_init cd_Nests_init ct_Nests_init oc_Nests_homes kV_Nests_homes dc_Nests_homes pm_Nests_homes cd_Nests_homes ct_Nests_homes oc_Nests_at kV_Nests_at dc_Nests_at pm_Nests_at cd_Nests_at ct_Nests_at oc_Nests_way kV_Nests_way dc_Nests_way pm_Nests_way cd_Nests_way ct_Nests_way oc_Nests_put kV_Nests_put dc_Nests_put pm_Nests_put cd_Nests_put ct_Nests_put oc_Nests_put_at kV_Nests_put_at dc_Nests_put_at pm_Nests_put_at cd_Nests_put_at ct_Nests_put_at oc_Nests_moves kV_Nests_moves dc_Nests_moves pm_Nests_moves cd_Nests_moves ct_Nests_moves oc_Nests_take_out kV_Nests_take_out dc_Nests_take_out pm_Nests_take_out cd_Nests_take_out ct_Nests_take_out oc_Nests_value kV_Nests_value dc_Nests_value pm_Nests_value cd_Nests_value ct_Nests_value oc_Nests_where kV_Nests_where dc_Nests_where pm_Nests_where cd_Nests_where ct_Nests_where oc_Nests_names kV_Nests_names dc_Nests_names pm_Nests_names cd_Nests_names ct_Nests_names oc_Nests_many kV_Nests_many dc_Nests_many pm_Nests_many cd_Nests_many ct_Nests_many oc_Nests__check_nest kV_Nests__check_nest dc_Nests__check_nest pm_Nests__check_nest cd_Nests__check_nest ct_Nests__check_nest oc_Nests__thing kV_Nests__thing dc_Nests__thing pm_Nests__thing cd_Nests__thing ct_Nests__thing oc_Nests__stand kV_Nests__stand dc_Nests__stand pm_Nests__stand cd_Nests__stand ct_Nests__stand oc_Nests__other_home kV_Nests__other_home dc_Nests__other_home pm_Nests__other_home cd_Nests__other_home ct_Nests__other_home oc_Nests__ways kV_Nests__ways dc_Nests__ways pm_Nests__ways cd_Nests__ways ct_Nests__ways oc_Nests__is_open kV_Nests__is_open dc_Nests__is_open pm_Nests__is_open cd_Nests__is_open ct_Nests__is_open oc_Nests__open_way kV_Nests__open_way dc_Nests__open_way pm_Nests__open_way cd_Nests__open_way ct_Nests__open_way oc_Nests__moves_on kV_Nests__moves_on dc_Nests__moves_on pm_Nests__moves_on cd_Nests__moves_on ct_Nests__moves_on oc__check_name kV__check_name dc__check_name pm__check_name cd__check_name ct__check_name oc__check_value kV__check_value dc__check_value pm__check_value cd__check_value ct__check_value oc_written kV_written dc_written pm_written cd_written ct_written oc_read kV_read dc_read pm_read cd_read ct_read oc__rows kV__rows dc__rows pm__rows cd__rows ct__rows oc__head kV__head dc__head pm__head cd__head ct__head oc__thing kV__thing dc__thing pm__thing cd__thing ct__thing oc__number kV__number dc__number pm__number cd__number ct__number oc__value kV__value dc__value pm__value cd__value ct__value oc__law_cell_at kV__law_cell_at dc__law_cell_at pm__law_cell_at cd__law_cell_at ct__law_cell_at oc__law_mixed kV__law_mixed dc__law_mixed pm__law_mixed cd__law_mixed ct__law_mixed oc__law_room kV__law_room dc__law_room pm__law_room cd__law_room ct__law_room oc__law_names kV__law_names dc__law_names pm__law_names cd__law_names ct__law_names oc__law_home kV__law_home dc__law_home pm__law_home cd__law_home ct__law_home oc__law_table kV__law_table dc__law_table pm__law_table cd__law_table ct__law_table oc__law_homes kV__law_homes dc__law_homes pm__law_homes cd__law_homes ct__law_homes oc__law_kind kV__law_kind dc__law_kind pm__law_kind cd__law_kind ct__law_kind oc__law_told kV__law_told dc__law_told pm__law_told cd__law_told ct__law_told oc__law_drawn kV__law_drawn dc__law_drawn pm__law_drawn cd__law_drawn ct__law_drawn oc__law_rows kV__law_rows dc__law_rows pm__law_rows cd__law_rows ct__law_rows oc__law_text kV__law_text dc__law_text pm__law_text cd__law_text ct__law_text oc__law_alike kV__law_alike dc__law_alike pm__law_alike cd__law_alike ct__law_alike oc__law_number kV__law_number dc__law_number pm__law_number cd__law_number ct__law_number oc__law_spoilt kV__law_spoilt dc__law_spoilt pm__law_spoilt cd__law_spoilt ct__law_spoilt oc__law_other kV__law_other dc__law_other pm__law_other cd__law_other ct__law_other oc__law_good kV__law_good dc__law_good pm__law_good cd__law_good ct__law_good oc__law_refused kV__law_refused dc__law_refused pm__law_refused cd__law_refused ct__law_refused oc_law kV_law dc_law pm_law cd_law ct_law : Value}
    {t_FIGURES t_LONGEST t_MOST_FIGURES t_MOST_NESTS t_MOST_TIMES t_MOST_VALUE t_SIGNS t_WORDS : Tok}
    (g_NestError : PySem.W.nsIn K mainGlobals "NestError" = some (some (.ref c_NestError))) (bx_NestError : PySem.W.subIn K (.ref c_NestError) (.type "BaseException") = some true) (ix_NestError : PySem.W.isClsIn K c_NestError = true) (tx_NestError : PySem.W.typeIn K (.ref c_NestError) = some (.type "type"))
    (g_NoNests : PySem.W.nsIn K mainGlobals "NoNests" = some (some (.ref c_NoNests))) (bx_NoNests : PySem.W.subIn K (.ref c_NoNests) (.type "BaseException") = some true) (ix_NoNests : PySem.W.isClsIn K c_NoNests = true) (tx_NoNests : PySem.W.typeIn K (.ref c_NoNests) = some (.type "type"))
    (x_NoNests : PySem.W.excIn K c_NoNests [.type "ValueError", .type "Exception", .type "BaseException", .type "object"] "ValueError.__new__" = true) (kk_NoNests : PySem.W.keepIn K (.ref c_NoNests) = true)
    (g_NoName : PySem.W.nsIn K mainGlobals "NoName" = some (some (.ref c_NoName))) (bx_NoName : PySem.W.subIn K (.ref c_NoName) (.type "BaseException") = some true) (ix_NoName : PySem.W.isClsIn K c_NoName = true) (tx_NoName : PySem.W.typeIn K (.ref c_NoName) = some (.type "type"))
    (x_NoName : PySem.W.excIn K c_NoName [.type "ValueError", .type "Exception", .type "BaseException", .type "object"] "ValueError.__new__" = true) (kk_NoName : PySem.W.keepIn K (.ref c_NoName) = true)
    (g_NoValue : PySem.W.nsIn K mainGlobals "NoValue" = some (some (.ref c_NoValue))) (bx_NoValue : PySem.W.subIn K (.ref c_NoValue) (.type "BaseException") = some true) (ix_NoValue : PySem.W.isClsIn K c_NoValue = true) (tx_NoValue : PySem.W.typeIn K (.ref c_NoValue) = some (.type "type"))
    (x_NoValue : PySem.W.excIn K c_NoValue [.type "ValueError", .type "Exception", .type "BaseException", .type "object"] "ValueError.__new__" = true) (kk_NoValue : PySem.W.keepIn K (.ref c_NoValue) = true)
    (g_NoNest : PySem.W.nsIn K mainGlobals "NoNest" = some (some (.ref c_NoNest))) (bx_NoNest : PySem.W.subIn K (.ref c_NoNest) (.type "BaseException") = some true) (ix_NoNest : PySem.W.isClsIn K c_NoNest = true) (tx_NoNest : PySem.W.typeIn K (.ref c_NoNest) = some (.type "type"))
    (x_NoNest : PySem.W.excIn K c_NoNest [.type "ValueError", .type "Exception", .type "BaseException", .type "object"] "ValueError.__new__" = true) (kk_NoNest : PySem.W.keepIn K (.ref c_NoNest) = true)
    (g_NoHome : PySem.W.nsIn K mainGlobals "NoHome" = some (some (.ref c_NoHome))) (bx_NoHome : PySem.W.subIn K (.ref c_NoHome) (.type "BaseException") = some true) (ix_NoHome : PySem.W.isClsIn K c_NoHome = true) (tx_NoHome : PySem.W.typeIn K (.ref c_NoHome) = some (.type "type"))
    (x_NoHome : PySem.W.excIn K c_NoHome [.type "ValueError", .type "Exception", .type "BaseException", .type "object"] "ValueError.__new__" = true) (kk_NoHome : PySem.W.keepIn K (.ref c_NoHome) = true)
    (g_Taken : PySem.W.nsIn K mainGlobals "Taken" = some (some (.ref c_Taken))) (bx_Taken : PySem.W.subIn K (.ref c_Taken) (.type "BaseException") = some true) (ix_Taken : PySem.W.isClsIn K c_Taken = true) (tx_Taken : PySem.W.typeIn K (.ref c_Taken) = some (.type "type"))
    (x_Taken : PySem.W.excIn K c_Taken [.type "ValueError", .type "Exception", .type "BaseException", .type "object"] "ValueError.__new__" = true) (kk_Taken : PySem.W.keepIn K (.ref c_Taken) = true)
    (g_Twice : PySem.W.nsIn K mainGlobals "Twice" = some (some (.ref c_Twice))) (bx_Twice : PySem.W.subIn K (.ref c_Twice) (.type "BaseException") = some true) (ix_Twice : PySem.W.isClsIn K c_Twice = true) (tx_Twice : PySem.W.typeIn K (.ref c_Twice) = some (.type "type"))
    (x_Twice : PySem.W.excIn K c_Twice [.type "ValueError", .type "Exception", .type "BaseException", .type "object"] "ValueError.__new__" = true) (kk_Twice : PySem.W.keepIn K (.ref c_Twice) = true)
    (g_NoRoom : PySem.W.nsIn K mainGlobals "NoRoom" = some (some (.ref c_NoRoom))) (bx_NoRoom : PySem.W.subIn K (.ref c_NoRoom) (.type "BaseException") = some true) (ix_NoRoom : PySem.W.isClsIn K c_NoRoom = true) (tx_NoRoom : PySem.W.typeIn K (.ref c_NoRoom) = some (.type "type"))
    (x_NoRoom : PySem.W.excIn K c_NoRoom [.type "ValueError", .type "Exception", .type "BaseException", .type "object"] "ValueError.__new__" = true) (kk_NoRoom : PySem.W.keepIn K (.ref c_NoRoom) = true)
    (g_Unknown : PySem.W.nsIn K mainGlobals "Unknown" = some (some (.ref c_Unknown))) (bx_Unknown : PySem.W.subIn K (.ref c_Unknown) (.type "BaseException") = some true) (ix_Unknown : PySem.W.isClsIn K c_Unknown = true) (tx_Unknown : PySem.W.typeIn K (.ref c_Unknown) = some (.type "type"))
    (x_Unknown : PySem.W.excIn K c_Unknown [.type "ValueError", .type "Exception", .type "BaseException", .type "object"] "ValueError.__new__" = true) (kk_Unknown : PySem.W.keepIn K (.ref c_Unknown) = true)
    (g_NoNote : PySem.W.nsIn K mainGlobals "NoNote" = some (some (.ref c_NoNote))) (bx_NoNote : PySem.W.subIn K (.ref c_NoNote) (.type "BaseException") = some true) (ix_NoNote : PySem.W.isClsIn K c_NoNote = true) (tx_NoNote : PySem.W.typeIn K (.ref c_NoNote) = some (.type "type"))
    (x_NoNote : PySem.W.excIn K c_NoNote [.type "ValueError", .type "Exception", .type "BaseException", .type "object"] "ValueError.__new__" = true) (kk_NoNote : PySem.W.keepIn K (.ref c_NoNote) = true)
    (s_NoNests_NestError : PySem.W.subIn K (.ref c_NoNests) (.ref c_NestError) = some true)
    (s_NoName_NestError : PySem.W.subIn K (.ref c_NoName) (.ref c_NestError) = some true)
    (s_NoValue_NestError : PySem.W.subIn K (.ref c_NoValue) (.ref c_NestError) = some true)
    (s_NoNest_NestError : PySem.W.subIn K (.ref c_NoNest) (.ref c_NestError) = some true)
    (s_NoHome_NestError : PySem.W.subIn K (.ref c_NoHome) (.ref c_NestError) = some true)
    (s_Taken_NestError : PySem.W.subIn K (.ref c_Taken) (.ref c_NestError) = some true)
    (s_Twice_NestError : PySem.W.subIn K (.ref c_Twice) (.ref c_NestError) = some true)
    (s_NoNote_NestError : PySem.W.subIn K (.ref c_NoNote) (.ref c_NestError) = some true)
    (q_NoNests_NoNests : PySem.W.kitOne K (.ref c_NoNests) (.ref c_NoNests) = some true)
    (q_NoNests_NoName : PySem.W.kitOne K (.ref c_NoNests) (.ref c_NoName) = some false)
    (q_NoNests_NoValue : PySem.W.kitOne K (.ref c_NoNests) (.ref c_NoValue) = some false)
    (q_NoNests_NoNest : PySem.W.kitOne K (.ref c_NoNests) (.ref c_NoNest) = some false)
    (q_NoNests_NoHome : PySem.W.kitOne K (.ref c_NoNests) (.ref c_NoHome) = some false)
    (q_NoNests_Taken : PySem.W.kitOne K (.ref c_NoNests) (.ref c_Taken) = some false)
    (q_NoNests_Twice : PySem.W.kitOne K (.ref c_NoNests) (.ref c_Twice) = some false)
    (q_NoNests_NoNote : PySem.W.kitOne K (.ref c_NoNests) (.ref c_NoNote) = some false)
    (q_NoNests_NoRoom : PySem.W.kitOne K (.ref c_NoNests) (.ref c_NoRoom) = some false)
    (q_NoNests_Unknown : PySem.W.kitOne K (.ref c_NoNests) (.ref c_Unknown) = some false)
    (q_NoNests_ValueError : PySem.W.kitOne K (.ref c_NoNests) (.type "ValueError") = some true)
    (q_NoName_NoNests : PySem.W.kitOne K (.ref c_NoName) (.ref c_NoNests) = some false)
    (q_NoName_NoName : PySem.W.kitOne K (.ref c_NoName) (.ref c_NoName) = some true)
    (q_NoName_NoValue : PySem.W.kitOne K (.ref c_NoName) (.ref c_NoValue) = some false)
    (q_NoName_NoNest : PySem.W.kitOne K (.ref c_NoName) (.ref c_NoNest) = some false)
    (q_NoName_NoHome : PySem.W.kitOne K (.ref c_NoName) (.ref c_NoHome) = some false)
    (q_NoName_Taken : PySem.W.kitOne K (.ref c_NoName) (.ref c_Taken) = some false)
    (q_NoName_Twice : PySem.W.kitOne K (.ref c_NoName) (.ref c_Twice) = some false)
    (q_NoName_NoNote : PySem.W.kitOne K (.ref c_NoName) (.ref c_NoNote) = some false)
    (q_NoName_NoRoom : PySem.W.kitOne K (.ref c_NoName) (.ref c_NoRoom) = some false)
    (q_NoName_Unknown : PySem.W.kitOne K (.ref c_NoName) (.ref c_Unknown) = some false)
    (q_NoName_ValueError : PySem.W.kitOne K (.ref c_NoName) (.type "ValueError") = some true)
    (q_NoValue_NoNests : PySem.W.kitOne K (.ref c_NoValue) (.ref c_NoNests) = some false)
    (q_NoValue_NoName : PySem.W.kitOne K (.ref c_NoValue) (.ref c_NoName) = some false)
    (q_NoValue_NoValue : PySem.W.kitOne K (.ref c_NoValue) (.ref c_NoValue) = some true)
    (q_NoValue_NoNest : PySem.W.kitOne K (.ref c_NoValue) (.ref c_NoNest) = some false)
    (q_NoValue_NoHome : PySem.W.kitOne K (.ref c_NoValue) (.ref c_NoHome) = some false)
    (q_NoValue_Taken : PySem.W.kitOne K (.ref c_NoValue) (.ref c_Taken) = some false)
    (q_NoValue_Twice : PySem.W.kitOne K (.ref c_NoValue) (.ref c_Twice) = some false)
    (q_NoValue_NoNote : PySem.W.kitOne K (.ref c_NoValue) (.ref c_NoNote) = some false)
    (q_NoValue_NoRoom : PySem.W.kitOne K (.ref c_NoValue) (.ref c_NoRoom) = some false)
    (q_NoValue_Unknown : PySem.W.kitOne K (.ref c_NoValue) (.ref c_Unknown) = some false)
    (q_NoValue_ValueError : PySem.W.kitOne K (.ref c_NoValue) (.type "ValueError") = some true)
    (q_NoNest_NoNests : PySem.W.kitOne K (.ref c_NoNest) (.ref c_NoNests) = some false)
    (q_NoNest_NoName : PySem.W.kitOne K (.ref c_NoNest) (.ref c_NoName) = some false)
    (q_NoNest_NoValue : PySem.W.kitOne K (.ref c_NoNest) (.ref c_NoValue) = some false)
    (q_NoNest_NoNest : PySem.W.kitOne K (.ref c_NoNest) (.ref c_NoNest) = some true)
    (q_NoNest_NoHome : PySem.W.kitOne K (.ref c_NoNest) (.ref c_NoHome) = some false)
    (q_NoNest_Taken : PySem.W.kitOne K (.ref c_NoNest) (.ref c_Taken) = some false)
    (q_NoNest_Twice : PySem.W.kitOne K (.ref c_NoNest) (.ref c_Twice) = some false)
    (q_NoNest_NoNote : PySem.W.kitOne K (.ref c_NoNest) (.ref c_NoNote) = some false)
    (q_NoNest_NoRoom : PySem.W.kitOne K (.ref c_NoNest) (.ref c_NoRoom) = some false)
    (q_NoNest_Unknown : PySem.W.kitOne K (.ref c_NoNest) (.ref c_Unknown) = some false)
    (q_NoNest_ValueError : PySem.W.kitOne K (.ref c_NoNest) (.type "ValueError") = some true)
    (q_NoHome_NoNests : PySem.W.kitOne K (.ref c_NoHome) (.ref c_NoNests) = some false)
    (q_NoHome_NoName : PySem.W.kitOne K (.ref c_NoHome) (.ref c_NoName) = some false)
    (q_NoHome_NoValue : PySem.W.kitOne K (.ref c_NoHome) (.ref c_NoValue) = some false)
    (q_NoHome_NoNest : PySem.W.kitOne K (.ref c_NoHome) (.ref c_NoNest) = some false)
    (q_NoHome_NoHome : PySem.W.kitOne K (.ref c_NoHome) (.ref c_NoHome) = some true)
    (q_NoHome_Taken : PySem.W.kitOne K (.ref c_NoHome) (.ref c_Taken) = some false)
    (q_NoHome_Twice : PySem.W.kitOne K (.ref c_NoHome) (.ref c_Twice) = some false)
    (q_NoHome_NoNote : PySem.W.kitOne K (.ref c_NoHome) (.ref c_NoNote) = some false)
    (q_NoHome_NoRoom : PySem.W.kitOne K (.ref c_NoHome) (.ref c_NoRoom) = some false)
    (q_NoHome_Unknown : PySem.W.kitOne K (.ref c_NoHome) (.ref c_Unknown) = some false)
    (q_NoHome_ValueError : PySem.W.kitOne K (.ref c_NoHome) (.type "ValueError") = some true)
    (q_Taken_NoNests : PySem.W.kitOne K (.ref c_Taken) (.ref c_NoNests) = some false)
    (q_Taken_NoName : PySem.W.kitOne K (.ref c_Taken) (.ref c_NoName) = some false)
    (q_Taken_NoValue : PySem.W.kitOne K (.ref c_Taken) (.ref c_NoValue) = some false)
    (q_Taken_NoNest : PySem.W.kitOne K (.ref c_Taken) (.ref c_NoNest) = some false)
    (q_Taken_NoHome : PySem.W.kitOne K (.ref c_Taken) (.ref c_NoHome) = some false)
    (q_Taken_Taken : PySem.W.kitOne K (.ref c_Taken) (.ref c_Taken) = some true)
    (q_Taken_Twice : PySem.W.kitOne K (.ref c_Taken) (.ref c_Twice) = some false)
    (q_Taken_NoNote : PySem.W.kitOne K (.ref c_Taken) (.ref c_NoNote) = some false)
    (q_Taken_NoRoom : PySem.W.kitOne K (.ref c_Taken) (.ref c_NoRoom) = some false)
    (q_Taken_Unknown : PySem.W.kitOne K (.ref c_Taken) (.ref c_Unknown) = some false)
    (q_Taken_ValueError : PySem.W.kitOne K (.ref c_Taken) (.type "ValueError") = some true)
    (q_Twice_NoNests : PySem.W.kitOne K (.ref c_Twice) (.ref c_NoNests) = some false)
    (q_Twice_NoName : PySem.W.kitOne K (.ref c_Twice) (.ref c_NoName) = some false)
    (q_Twice_NoValue : PySem.W.kitOne K (.ref c_Twice) (.ref c_NoValue) = some false)
    (q_Twice_NoNest : PySem.W.kitOne K (.ref c_Twice) (.ref c_NoNest) = some false)
    (q_Twice_NoHome : PySem.W.kitOne K (.ref c_Twice) (.ref c_NoHome) = some false)
    (q_Twice_Taken : PySem.W.kitOne K (.ref c_Twice) (.ref c_Taken) = some false)
    (q_Twice_Twice : PySem.W.kitOne K (.ref c_Twice) (.ref c_Twice) = some true)
    (q_Twice_NoNote : PySem.W.kitOne K (.ref c_Twice) (.ref c_NoNote) = some false)
    (q_Twice_NoRoom : PySem.W.kitOne K (.ref c_Twice) (.ref c_NoRoom) = some false)
    (q_Twice_Unknown : PySem.W.kitOne K (.ref c_Twice) (.ref c_Unknown) = some false)
    (q_Twice_ValueError : PySem.W.kitOne K (.ref c_Twice) (.type "ValueError") = some true)
    (q_NoNote_NoNests : PySem.W.kitOne K (.ref c_NoNote) (.ref c_NoNests) = some false)
    (q_NoNote_NoName : PySem.W.kitOne K (.ref c_NoNote) (.ref c_NoName) = some false)
    (q_NoNote_NoValue : PySem.W.kitOne K (.ref c_NoNote) (.ref c_NoValue) = some false)
    (q_NoNote_NoNest : PySem.W.kitOne K (.ref c_NoNote) (.ref c_NoNest) = some false)
    (q_NoNote_NoHome : PySem.W.kitOne K (.ref c_NoNote) (.ref c_NoHome) = some false)
    (q_NoNote_Taken : PySem.W.kitOne K (.ref c_NoNote) (.ref c_Taken) = some false)
    (q_NoNote_Twice : PySem.W.kitOne K (.ref c_NoNote) (.ref c_Twice) = some false)
    (q_NoNote_NoNote : PySem.W.kitOne K (.ref c_NoNote) (.ref c_NoNote) = some true)
    (q_NoNote_NoRoom : PySem.W.kitOne K (.ref c_NoNote) (.ref c_NoRoom) = some false)
    (q_NoNote_Unknown : PySem.W.kitOne K (.ref c_NoNote) (.ref c_Unknown) = some false)
    (q_NoNote_ValueError : PySem.W.kitOne K (.ref c_NoNote) (.type "ValueError") = some true)
    (en_ : PySem.W.specialIn K (.builtin "object.__class__") "__get__" = some (some (.builtin "getset_descriptor.__get__"))) (et_ : PySem.W.takesIn K (.builtin "object.__class__") = some true)
    (eg_NoNests : PySem.W.findIn K (.ref c_NoNests) "__getattribute__" = some (some (.builtin "BaseException.__getattribute__"))) (ek_NoNests : PySem.W.findIn K (.ref c_NoNests) "__getattr__" = some none) (ed_NoNests : PySem.W.hasDictIn K c_NoNests = true) (ea_NoNests : PySem.W.findIn K (.ref c_NoNests) "__class__" = some (some (.builtin "object.__class__"))) (em_NoNests : PySem.W.mroIn K c_NoNests (.type "object") = some true)
    (eg_NoName : PySem.W.findIn K (.ref c_NoName) "__getattribute__" = some (some (.builtin "BaseException.__getattribute__"))) (ek_NoName : PySem.W.findIn K (.ref c_NoName) "__getattr__" = some none) (ed_NoName : PySem.W.hasDictIn K c_NoName = true) (ea_NoName : PySem.W.findIn K (.ref c_NoName) "__class__" = some (some (.builtin "object.__class__"))) (em_NoName : PySem.W.mroIn K c_NoName (.type "object") = some true)
    (eg_NoValue : PySem.W.findIn K (.ref c_NoValue) "__getattribute__" = some (some (.builtin "BaseException.__getattribute__"))) (ek_NoValue : PySem.W.findIn K (.ref c_NoValue) "__getattr__" = some none) (ed_NoValue : PySem.W.hasDictIn K c_NoValue = true) (ea_NoValue : PySem.W.findIn K (.ref c_NoValue) "__class__" = some (some (.builtin "object.__class__"))) (em_NoValue : PySem.W.mroIn K c_NoValue (.type "object") = some true)
    (eg_NoNest : PySem.W.findIn K (.ref c_NoNest) "__getattribute__" = some (some (.builtin "BaseException.__getattribute__"))) (ek_NoNest : PySem.W.findIn K (.ref c_NoNest) "__getattr__" = some none) (ed_NoNest : PySem.W.hasDictIn K c_NoNest = true) (ea_NoNest : PySem.W.findIn K (.ref c_NoNest) "__class__" = some (some (.builtin "object.__class__"))) (em_NoNest : PySem.W.mroIn K c_NoNest (.type "object") = some true)
    (eg_NoHome : PySem.W.findIn K (.ref c_NoHome) "__getattribute__" = some (some (.builtin "BaseException.__getattribute__"))) (ek_NoHome : PySem.W.findIn K (.ref c_NoHome) "__getattr__" = some none) (ed_NoHome : PySem.W.hasDictIn K c_NoHome = true) (ea_NoHome : PySem.W.findIn K (.ref c_NoHome) "__class__" = some (some (.builtin "object.__class__"))) (em_NoHome : PySem.W.mroIn K c_NoHome (.type "object") = some true)
    (eg_Taken : PySem.W.findIn K (.ref c_Taken) "__getattribute__" = some (some (.builtin "BaseException.__getattribute__"))) (ek_Taken : PySem.W.findIn K (.ref c_Taken) "__getattr__" = some none) (ed_Taken : PySem.W.hasDictIn K c_Taken = true) (ea_Taken : PySem.W.findIn K (.ref c_Taken) "__class__" = some (some (.builtin "object.__class__"))) (em_Taken : PySem.W.mroIn K c_Taken (.type "object") = some true)
    (eg_Twice : PySem.W.findIn K (.ref c_Twice) "__getattribute__" = some (some (.builtin "BaseException.__getattribute__"))) (ek_Twice : PySem.W.findIn K (.ref c_Twice) "__getattr__" = some none) (ed_Twice : PySem.W.hasDictIn K c_Twice = true) (ea_Twice : PySem.W.findIn K (.ref c_Twice) "__class__" = some (some (.builtin "object.__class__"))) (em_Twice : PySem.W.mroIn K c_Twice (.type "object") = some true)
    (eg_NoNote : PySem.W.findIn K (.ref c_NoNote) "__getattribute__" = some (some (.builtin "BaseException.__getattribute__"))) (ek_NoNote : PySem.W.findIn K (.ref c_NoNote) "__getattr__" = some none) (ed_NoNote : PySem.W.hasDictIn K c_NoNote = true) (ea_NoNote : PySem.W.findIn K (.ref c_NoNote) "__class__" = some (some (.builtin "object.__class__"))) (em_NoNote : PySem.W.mroIn K c_NoNote (.type "object") = some true)
    (g_Nests : PySem.W.nsIn K mainGlobals "Nests" = some (some (.ref c_Nests))) (pg_Nests : PySem.W.plainGet K c_Nests Str.empty = true) (hd_Nests : PySem.W.hasDictIn K c_Nests = true) (po_Nests : PySem.W.plainOver K c_Nests = true) (sa_Nests : PySem.W.findIn K (.ref c_Nests) "__setattr__" = some (some (.builtin "object.__setattr__"))) (mk_Nests : PySem.W.makesIn K c_Nests = true) (kc_Nests : PySem.W.keepIn K (.ref c_Nests) = true)
    (n_Nests_count : PySem.W.findIn K (.ref c_Nests) "count" = some none)
    (n_Nests_first : PySem.W.findIn K (.ref c_Nests) "first" = some none)
    (n_Nests_second : PySem.W.findIn K (.ref c_Nests) "second" = some none)
    (n_Nests__names : PySem.W.findIn K (.ref c_Nests) "_names" = some none)
    (n_Nests__things : PySem.W.findIn K (.ref c_Nests) "_things" = some none)
    (a_is_name : PySem.W.nsIn K mainGlobals "is_name" = some (some (.ref f_is_name)))
    (l_is_name : K.lookup f_is_name = some ⟨oc_is_name, od_is_name, .func (PySem.W.fnOf "is_name" "is_name" (defArgs s_is_name) (defBody s_is_name) (defScope s_is_name) .none kV_is_name dc_is_name pm_is_name an_is_name cd_is_name ct_is_name), sl_is_name⟩) (c_is_name : PySem.W.codeIn K cd_is_name "is_name" = true) (k_is_name : PySem.W.keepIn K (.ref f_is_name) = true)
    (a_home : PySem.W.nsIn K mainGlobals "home" = some (some (.ref f_home)))
    (l_home : K.lookup f_home = some ⟨oc_home, od_home, .func (PySem.W.fnOf "home" "home" (defArgs s_home) (defBody s_home) (defScope s_home) .none kV_home dc_home pm_home an_home cd_home ct_home), sl_home⟩) (c_home : PySem.W.codeIn K cd_home "home" = true) (k_home : PySem.W.keepIn K (.ref f_home) = true)
    (a_Nests_init : PySem.W.findIn K (.ref c_Nests) "__init__" = some (some (.ref f_Nests_init))) (i_Nests_init : PySem.W.isFn K (.ref f_Nests_init) = true)
    (l_Nests_init : K.lookup f_Nests_init = some ⟨oc_Nests_init, od_Nests_init, .func (PySem.W.fnOf "__init__" "Nests.__init__" (defArgs s_Nests_init) (defBody s_Nests_init) (defScope s_Nests_init) .none kV_Nests_init dc_Nests_init pm_Nests_init an_Nests_init cd_Nests_init ct_Nests_init), sl_Nests_init⟩) (c_Nests_init : PySem.W.codeIn K cd_Nests_init "Nests.__init__" = true) (k_Nests_init : PySem.W.keepIn K (.ref f_Nests_init) = true)
    (a_Nests_homes : PySem.W.findIn K (.ref c_Nests) "homes" = some (some (.ref f_Nests_homes))) (i_Nests_homes : PySem.W.isFn K (.ref f_Nests_homes) = true)
    (l_Nests_homes : K.lookup f_Nests_homes = some ⟨oc_Nests_homes, od_Nests_homes, .func (PySem.W.fnOf "homes" "Nests.homes" (defArgs s_Nests_homes) (defBody s_Nests_homes) (defScope s_Nests_homes) .none kV_Nests_homes dc_Nests_homes pm_Nests_homes an_Nests_homes cd_Nests_homes ct_Nests_homes), sl_Nests_homes⟩) (c_Nests_homes : PySem.W.codeIn K cd_Nests_homes "Nests.homes" = true) (k_Nests_homes : PySem.W.keepIn K (.ref f_Nests_homes) = true)
    (a_Nests_at : PySem.W.findIn K (.ref c_Nests) "at" = some (some (.ref f_Nests_at))) (i_Nests_at : PySem.W.isFn K (.ref f_Nests_at) = true)
    (l_Nests_at : K.lookup f_Nests_at = some ⟨oc_Nests_at, od_Nests_at, .func (PySem.W.fnOf "at" "Nests.at" (defArgs s_Nests_at) (defBody s_Nests_at) (defScope s_Nests_at) .none kV_Nests_at dc_Nests_at pm_Nests_at an_Nests_at cd_Nests_at ct_Nests_at), sl_Nests_at⟩) (c_Nests_at : PySem.W.codeIn K cd_Nests_at "Nests.at" = true) (k_Nests_at : PySem.W.keepIn K (.ref f_Nests_at) = true)
    (a_Nests_way : PySem.W.findIn K (.ref c_Nests) "way" = some (some (.ref f_Nests_way))) (i_Nests_way : PySem.W.isFn K (.ref f_Nests_way) = true)
    (l_Nests_way : K.lookup f_Nests_way = some ⟨oc_Nests_way, od_Nests_way, .func (PySem.W.fnOf "way" "Nests.way" (defArgs s_Nests_way) (defBody s_Nests_way) (defScope s_Nests_way) .none kV_Nests_way dc_Nests_way pm_Nests_way an_Nests_way cd_Nests_way ct_Nests_way), sl_Nests_way⟩) (c_Nests_way : PySem.W.codeIn K cd_Nests_way "Nests.way" = true) (k_Nests_way : PySem.W.keepIn K (.ref f_Nests_way) = true)
    (a_Nests_put : PySem.W.findIn K (.ref c_Nests) "put" = some (some (.ref f_Nests_put))) (i_Nests_put : PySem.W.isFn K (.ref f_Nests_put) = true)
    (l_Nests_put : K.lookup f_Nests_put = some ⟨oc_Nests_put, od_Nests_put, .func (PySem.W.fnOf "put" "Nests.put" (defArgs s_Nests_put) (defBody s_Nests_put) (defScope s_Nests_put) .none kV_Nests_put dc_Nests_put pm_Nests_put an_Nests_put cd_Nests_put ct_Nests_put), sl_Nests_put⟩) (c_Nests_put : PySem.W.codeIn K cd_Nests_put "Nests.put" = true) (k_Nests_put : PySem.W.keepIn K (.ref f_Nests_put) = true)
    (a_Nests_put_at : PySem.W.findIn K (.ref c_Nests) "put_at" = some (some (.ref f_Nests_put_at))) (i_Nests_put_at : PySem.W.isFn K (.ref f_Nests_put_at) = true)
    (l_Nests_put_at : K.lookup f_Nests_put_at = some ⟨oc_Nests_put_at, od_Nests_put_at, .func (PySem.W.fnOf "put_at" "Nests.put_at" (defArgs s_Nests_put_at) (defBody s_Nests_put_at) (defScope s_Nests_put_at) .none kV_Nests_put_at dc_Nests_put_at pm_Nests_put_at an_Nests_put_at cd_Nests_put_at ct_Nests_put_at), sl_Nests_put_at⟩) (c_Nests_put_at : PySem.W.codeIn K cd_Nests_put_at "Nests.put_at" = true) (k_Nests_put_at : PySem.W.keepIn K (.ref f_Nests_put_at) = true)
    (a_Nests_moves : PySem.W.findIn K (.ref c_Nests) "moves" = some (some (.ref f_Nests_moves))) (i_Nests_moves : PySem.W.isFn K (.ref f_Nests_moves) = true)
    (l_Nests_moves : K.lookup f_Nests_moves = some ⟨oc_Nests_moves, od_Nests_moves, .func (PySem.W.fnOf "moves" "Nests.moves" (defArgs s_Nests_moves) (defBody s_Nests_moves) (defScope s_Nests_moves) .none kV_Nests_moves dc_Nests_moves pm_Nests_moves an_Nests_moves cd_Nests_moves ct_Nests_moves), sl_Nests_moves⟩) (c_Nests_moves : PySem.W.codeIn K cd_Nests_moves "Nests.moves" = true) (k_Nests_moves : PySem.W.keepIn K (.ref f_Nests_moves) = true)
    (a_Nests_take_out : PySem.W.findIn K (.ref c_Nests) "take_out" = some (some (.ref f_Nests_take_out))) (i_Nests_take_out : PySem.W.isFn K (.ref f_Nests_take_out) = true)
    (l_Nests_take_out : K.lookup f_Nests_take_out = some ⟨oc_Nests_take_out, od_Nests_take_out, .func (PySem.W.fnOf "take_out" "Nests.take_out" (defArgs s_Nests_take_out) (defBody s_Nests_take_out) (defScope s_Nests_take_out) .none kV_Nests_take_out dc_Nests_take_out pm_Nests_take_out an_Nests_take_out cd_Nests_take_out ct_Nests_take_out), sl_Nests_take_out⟩) (c_Nests_take_out : PySem.W.codeIn K cd_Nests_take_out "Nests.take_out" = true) (k_Nests_take_out : PySem.W.keepIn K (.ref f_Nests_take_out) = true)
    (a_Nests_value : PySem.W.findIn K (.ref c_Nests) "value" = some (some (.ref f_Nests_value))) (i_Nests_value : PySem.W.isFn K (.ref f_Nests_value) = true)
    (l_Nests_value : K.lookup f_Nests_value = some ⟨oc_Nests_value, od_Nests_value, .func (PySem.W.fnOf "value" "Nests.value" (defArgs s_Nests_value) (defBody s_Nests_value) (defScope s_Nests_value) .none kV_Nests_value dc_Nests_value pm_Nests_value an_Nests_value cd_Nests_value ct_Nests_value), sl_Nests_value⟩) (c_Nests_value : PySem.W.codeIn K cd_Nests_value "Nests.value" = true) (k_Nests_value : PySem.W.keepIn K (.ref f_Nests_value) = true)
    (a_Nests_where : PySem.W.findIn K (.ref c_Nests) "where" = some (some (.ref f_Nests_where))) (i_Nests_where : PySem.W.isFn K (.ref f_Nests_where) = true)
    (l_Nests_where : K.lookup f_Nests_where = some ⟨oc_Nests_where, od_Nests_where, .func (PySem.W.fnOf "where" "Nests.where" (defArgs s_Nests_where) (defBody s_Nests_where) (defScope s_Nests_where) .none kV_Nests_where dc_Nests_where pm_Nests_where an_Nests_where cd_Nests_where ct_Nests_where), sl_Nests_where⟩) (c_Nests_where : PySem.W.codeIn K cd_Nests_where "Nests.where" = true) (k_Nests_where : PySem.W.keepIn K (.ref f_Nests_where) = true)
    (a_Nests_names : PySem.W.findIn K (.ref c_Nests) "names" = some (some (.ref f_Nests_names))) (i_Nests_names : PySem.W.isFn K (.ref f_Nests_names) = true)
    (l_Nests_names : K.lookup f_Nests_names = some ⟨oc_Nests_names, od_Nests_names, .func (PySem.W.fnOf "names" "Nests.names" (defArgs s_Nests_names) (defBody s_Nests_names) (defScope s_Nests_names) .none kV_Nests_names dc_Nests_names pm_Nests_names an_Nests_names cd_Nests_names ct_Nests_names), sl_Nests_names⟩) (c_Nests_names : PySem.W.codeIn K cd_Nests_names "Nests.names" = true) (k_Nests_names : PySem.W.keepIn K (.ref f_Nests_names) = true)
    (a_Nests_many : PySem.W.findIn K (.ref c_Nests) "many" = some (some (.ref f_Nests_many))) (i_Nests_many : PySem.W.isFn K (.ref f_Nests_many) = true)
    (l_Nests_many : K.lookup f_Nests_many = some ⟨oc_Nests_many, od_Nests_many, .func (PySem.W.fnOf "many" "Nests.many" (defArgs s_Nests_many) (defBody s_Nests_many) (defScope s_Nests_many) .none kV_Nests_many dc_Nests_many pm_Nests_many an_Nests_many cd_Nests_many ct_Nests_many), sl_Nests_many⟩) (c_Nests_many : PySem.W.codeIn K cd_Nests_many "Nests.many" = true) (k_Nests_many : PySem.W.keepIn K (.ref f_Nests_many) = true)
    (a_Nests__check_nest : PySem.W.findIn K (.ref c_Nests) "_check_nest" = some (some (.ref f_Nests__check_nest))) (i_Nests__check_nest : PySem.W.isFn K (.ref f_Nests__check_nest) = true)
    (l_Nests__check_nest : K.lookup f_Nests__check_nest = some ⟨oc_Nests__check_nest, od_Nests__check_nest, .func (PySem.W.fnOf "_check_nest" "Nests._check_nest" (defArgs s_Nests__check_nest) (defBody s_Nests__check_nest) (defScope s_Nests__check_nest) .none kV_Nests__check_nest dc_Nests__check_nest pm_Nests__check_nest an_Nests__check_nest cd_Nests__check_nest ct_Nests__check_nest), sl_Nests__check_nest⟩) (c_Nests__check_nest : PySem.W.codeIn K cd_Nests__check_nest "Nests._check_nest" = true) (k_Nests__check_nest : PySem.W.keepIn K (.ref f_Nests__check_nest) = true)
    (a_Nests__thing : PySem.W.findIn K (.ref c_Nests) "_thing" = some (some (.ref f_Nests__thing))) (i_Nests__thing : PySem.W.isFn K (.ref f_Nests__thing) = true)
    (l_Nests__thing : K.lookup f_Nests__thing = some ⟨oc_Nests__thing, od_Nests__thing, .func (PySem.W.fnOf "_thing" "Nests._thing" (defArgs s_Nests__thing) (defBody s_Nests__thing) (defScope s_Nests__thing) .none kV_Nests__thing dc_Nests__thing pm_Nests__thing an_Nests__thing cd_Nests__thing ct_Nests__thing), sl_Nests__thing⟩) (c_Nests__thing : PySem.W.codeIn K cd_Nests__thing "Nests._thing" = true) (k_Nests__thing : PySem.W.keepIn K (.ref f_Nests__thing) = true)
    (a_Nests__stand : PySem.W.findIn K (.ref c_Nests) "_stand" = some (some (.ref f_Nests__stand))) (i_Nests__stand : PySem.W.isFn K (.ref f_Nests__stand) = true)
    (l_Nests__stand : K.lookup f_Nests__stand = some ⟨oc_Nests__stand, od_Nests__stand, .func (PySem.W.fnOf "_stand" "Nests._stand" (defArgs s_Nests__stand) (defBody s_Nests__stand) (defScope s_Nests__stand) .none kV_Nests__stand dc_Nests__stand pm_Nests__stand an_Nests__stand cd_Nests__stand ct_Nests__stand), sl_Nests__stand⟩) (c_Nests__stand : PySem.W.codeIn K cd_Nests__stand "Nests._stand" = true) (k_Nests__stand : PySem.W.keepIn K (.ref f_Nests__stand) = true)
    (a_Nests__other_home : PySem.W.findIn K (.ref c_Nests) "_other_home" = some (some (.ref f_Nests__other_home))) (i_Nests__other_home : PySem.W.isFn K (.ref f_Nests__other_home) = true)
    (l_Nests__other_home : K.lookup f_Nests__other_home = some ⟨oc_Nests__other_home, od_Nests__other_home, .func (PySem.W.fnOf "_other_home" "Nests._other_home" (defArgs s_Nests__other_home) (defBody s_Nests__other_home) (defScope s_Nests__other_home) .none kV_Nests__other_home dc_Nests__other_home pm_Nests__other_home an_Nests__other_home cd_Nests__other_home ct_Nests__other_home), sl_Nests__other_home⟩) (c_Nests__other_home : PySem.W.codeIn K cd_Nests__other_home "Nests._other_home" = true) (k_Nests__other_home : PySem.W.keepIn K (.ref f_Nests__other_home) = true)
    (a_Nests__ways : PySem.W.findIn K (.ref c_Nests) "_ways" = some (some (.ref f_Nests__ways))) (i_Nests__ways : PySem.W.isFn K (.ref f_Nests__ways) = true)
    (l_Nests__ways : K.lookup f_Nests__ways = some ⟨oc_Nests__ways, od_Nests__ways, .func (PySem.W.fnOf "_ways" "Nests._ways" (defArgs s_Nests__ways) (defBody s_Nests__ways) (defScope s_Nests__ways) .none kV_Nests__ways dc_Nests__ways pm_Nests__ways an_Nests__ways cd_Nests__ways ct_Nests__ways), sl_Nests__ways⟩) (c_Nests__ways : PySem.W.codeIn K cd_Nests__ways "Nests._ways" = true) (k_Nests__ways : PySem.W.keepIn K (.ref f_Nests__ways) = true)
    (a_Nests__is_open : PySem.W.findIn K (.ref c_Nests) "_is_open" = some (some (.ref f_Nests__is_open))) (i_Nests__is_open : PySem.W.isFn K (.ref f_Nests__is_open) = true)
    (l_Nests__is_open : K.lookup f_Nests__is_open = some ⟨oc_Nests__is_open, od_Nests__is_open, .func (PySem.W.fnOf "_is_open" "Nests._is_open" (defArgs s_Nests__is_open) (defBody s_Nests__is_open) (defScope s_Nests__is_open) .none kV_Nests__is_open dc_Nests__is_open pm_Nests__is_open an_Nests__is_open cd_Nests__is_open ct_Nests__is_open), sl_Nests__is_open⟩) (c_Nests__is_open : PySem.W.codeIn K cd_Nests__is_open "Nests._is_open" = true) (k_Nests__is_open : PySem.W.keepIn K (.ref f_Nests__is_open) = true)
    (a_Nests__open_way : PySem.W.findIn K (.ref c_Nests) "_open_way" = some (some (.ref f_Nests__open_way))) (i_Nests__open_way : PySem.W.isFn K (.ref f_Nests__open_way) = true)
    (l_Nests__open_way : K.lookup f_Nests__open_way = some ⟨oc_Nests__open_way, od_Nests__open_way, .func (PySem.W.fnOf "_open_way" "Nests._open_way" (defArgs s_Nests__open_way) (defBody s_Nests__open_way) (defScope s_Nests__open_way) .none kV_Nests__open_way dc_Nests__open_way pm_Nests__open_way an_Nests__open_way cd_Nests__open_way ct_Nests__open_way), sl_Nests__open_way⟩) (c_Nests__open_way : PySem.W.codeIn K cd_Nests__open_way "Nests._open_way" = true) (k_Nests__open_way : PySem.W.keepIn K (.ref f_Nests__open_way) = true)
    (a_Nests__moves_on : PySem.W.findIn K (.ref c_Nests) "_moves_on" = some (some (.ref f_Nests__moves_on))) (i_Nests__moves_on : PySem.W.isFn K (.ref f_Nests__moves_on) = true)
    (l_Nests__moves_on : K.lookup f_Nests__moves_on = some ⟨oc_Nests__moves_on, od_Nests__moves_on, .func (PySem.W.fnOf "_moves_on" "Nests._moves_on" (defArgs s_Nests__moves_on) (defBody s_Nests__moves_on) (defScope s_Nests__moves_on) .none kV_Nests__moves_on dc_Nests__moves_on pm_Nests__moves_on an_Nests__moves_on cd_Nests__moves_on ct_Nests__moves_on), sl_Nests__moves_on⟩) (c_Nests__moves_on : PySem.W.codeIn K cd_Nests__moves_on "Nests._moves_on" = true) (k_Nests__moves_on : PySem.W.keepIn K (.ref f_Nests__moves_on) = true)
    (a__check_name : PySem.W.nsIn K mainGlobals "_check_name" = some (some (.ref f__check_name)))
    (l__check_name : K.lookup f__check_name = some ⟨oc__check_name, od__check_name, .func (PySem.W.fnOf "_check_name" "_check_name" (defArgs s__check_name) (defBody s__check_name) (defScope s__check_name) .none kV__check_name dc__check_name pm__check_name an__check_name cd__check_name ct__check_name), sl__check_name⟩) (c__check_name : PySem.W.codeIn K cd__check_name "_check_name" = true) (k__check_name : PySem.W.keepIn K (.ref f__check_name) = true)
    (a__check_value : PySem.W.nsIn K mainGlobals "_check_value" = some (some (.ref f__check_value)))
    (l__check_value : K.lookup f__check_value = some ⟨oc__check_value, od__check_value, .func (PySem.W.fnOf "_check_value" "_check_value" (defArgs s__check_value) (defBody s__check_value) (defScope s__check_value) .none kV__check_value dc__check_value pm__check_value an__check_value cd__check_value ct__check_value), sl__check_value⟩) (c__check_value : PySem.W.codeIn K cd__check_value "_check_value" = true) (k__check_value : PySem.W.keepIn K (.ref f__check_value) = true)
    (a_written : PySem.W.nsIn K mainGlobals "written" = some (some (.ref f_written)))
    (l_written : K.lookup f_written = some ⟨oc_written, od_written, .func (PySem.W.fnOf "written" "written" (defArgs s_written) (defBody s_written) (defScope s_written) .none kV_written dc_written pm_written an_written cd_written ct_written), sl_written⟩) (c_written : PySem.W.codeIn K cd_written "written" = true) (k_written : PySem.W.keepIn K (.ref f_written) = true)
    (a_read : PySem.W.nsIn K mainGlobals "read" = some (some (.ref f_read)))
    (l_read : K.lookup f_read = some ⟨oc_read, od_read, .func (PySem.W.fnOf "read" "read" (defArgs s_read) (defBody s_read) (defScope s_read) .none kV_read dc_read pm_read an_read cd_read ct_read), sl_read⟩) (c_read : PySem.W.codeIn K cd_read "read" = true) (k_read : PySem.W.keepIn K (.ref f_read) = true)
    (a__rows : PySem.W.nsIn K mainGlobals "_rows" = some (some (.ref f__rows)))
    (l__rows : K.lookup f__rows = some ⟨oc__rows, od__rows, .func (PySem.W.fnOf "_rows" "_rows" (defArgs s__rows) (defBody s__rows) (defScope s__rows) .none kV__rows dc__rows pm__rows an__rows cd__rows ct__rows), sl__rows⟩) (c__rows : PySem.W.codeIn K cd__rows "_rows" = true) (k__rows : PySem.W.keepIn K (.ref f__rows) = true)
    (a__head : PySem.W.nsIn K mainGlobals "_head" = some (some (.ref f__head)))
    (l__head : K.lookup f__head = some ⟨oc__head, od__head, .func (PySem.W.fnOf "_head" "_head" (defArgs s__head) (defBody s__head) (defScope s__head) .none kV__head dc__head pm__head an__head cd__head ct__head), sl__head⟩) (c__head : PySem.W.codeIn K cd__head "_head" = true) (k__head : PySem.W.keepIn K (.ref f__head) = true)
    (a__thing : PySem.W.nsIn K mainGlobals "_thing" = some (some (.ref f__thing)))
    (l__thing : K.lookup f__thing = some ⟨oc__thing, od__thing, .func (PySem.W.fnOf "_thing" "_thing" (defArgs s__thing) (defBody s__thing) (defScope s__thing) .none kV__thing dc__thing pm__thing an__thing cd__thing ct__thing), sl__thing⟩) (c__thing : PySem.W.codeIn K cd__thing "_thing" = true) (k__thing : PySem.W.keepIn K (.ref f__thing) = true)
    (a__number : PySem.W.nsIn K mainGlobals "_number" = some (some (.ref f__number)))
    (l__number : K.lookup f__number = some ⟨oc__number, od__number, .func (PySem.W.fnOf "_number" "_number" (defArgs s__number) (defBody s__number) (defScope s__number) .none kV__number dc__number pm__number an__number cd__number ct__number), sl__number⟩) (c__number : PySem.W.codeIn K cd__number "_number" = true) (k__number : PySem.W.keepIn K (.ref f__number) = true)
    (a__value : PySem.W.nsIn K mainGlobals "_value" = some (some (.ref f__value)))
    (l__value : K.lookup f__value = some ⟨oc__value, od__value, .func (PySem.W.fnOf "_value" "_value" (defArgs s__value) (defBody s__value) (defScope s__value) .none kV__value dc__value pm__value an__value cd__value ct__value), sl__value⟩) (c__value : PySem.W.codeIn K cd__value "_value" = true) (k__value : PySem.W.keepIn K (.ref f__value) = true)
    (a__law_cell_at : PySem.W.nsIn K mainGlobals "_law_cell_at" = some (some (.ref f__law_cell_at)))
    (l__law_cell_at : K.lookup f__law_cell_at = some ⟨oc__law_cell_at, od__law_cell_at, .func (PySem.W.fnOf "_law_cell_at" "_law_cell_at" (defArgs s__law_cell_at) (defBody s__law_cell_at) (defScope s__law_cell_at) .none kV__law_cell_at dc__law_cell_at pm__law_cell_at an__law_cell_at cd__law_cell_at ct__law_cell_at), sl__law_cell_at⟩) (c__law_cell_at : PySem.W.codeIn K cd__law_cell_at "_law_cell_at" = true) (k__law_cell_at : PySem.W.keepIn K (.ref f__law_cell_at) = true)
    (a__law_mixed : PySem.W.nsIn K mainGlobals "_law_mixed" = some (some (.ref f__law_mixed)))
    (l__law_mixed : K.lookup f__law_mixed = some ⟨oc__law_mixed, od__law_mixed, .func (PySem.W.fnOf "_law_mixed" "_law_mixed" (defArgs s__law_mixed) (defBody s__law_mixed) (defScope s__law_mixed) .none kV__law_mixed dc__law_mixed pm__law_mixed an__law_mixed cd__law_mixed ct__law_mixed), sl__law_mixed⟩) (c__law_mixed : PySem.W.codeIn K cd__law_mixed "_law_mixed" = true) (k__law_mixed : PySem.W.keepIn K (.ref f__law_mixed) = true)
    (a__law_room : PySem.W.nsIn K mainGlobals "_law_room" = some (some (.ref f__law_room)))
    (l__law_room : K.lookup f__law_room = some ⟨oc__law_room, od__law_room, .func (PySem.W.fnOf "_law_room" "_law_room" (defArgs s__law_room) (defBody s__law_room) (defScope s__law_room) .none kV__law_room dc__law_room pm__law_room an__law_room cd__law_room ct__law_room), sl__law_room⟩) (c__law_room : PySem.W.codeIn K cd__law_room "_law_room" = true) (k__law_room : PySem.W.keepIn K (.ref f__law_room) = true)
    (a__law_names : PySem.W.nsIn K mainGlobals "_law_names" = some (some (.ref f__law_names)))
    (l__law_names : K.lookup f__law_names = some ⟨oc__law_names, od__law_names, .func (PySem.W.fnOf "_law_names" "_law_names" (defArgs s__law_names) (defBody s__law_names) (defScope s__law_names) .none kV__law_names dc__law_names pm__law_names an__law_names cd__law_names ct__law_names), sl__law_names⟩) (c__law_names : PySem.W.codeIn K cd__law_names "_law_names" = true) (k__law_names : PySem.W.keepIn K (.ref f__law_names) = true)
    (a__law_home : PySem.W.nsIn K mainGlobals "_law_home" = some (some (.ref f__law_home)))
    (l__law_home : K.lookup f__law_home = some ⟨oc__law_home, od__law_home, .func (PySem.W.fnOf "_law_home" "_law_home" (defArgs s__law_home) (defBody s__law_home) (defScope s__law_home) .none kV__law_home dc__law_home pm__law_home an__law_home cd__law_home ct__law_home), sl__law_home⟩) (c__law_home : PySem.W.codeIn K cd__law_home "_law_home" = true) (k__law_home : PySem.W.keepIn K (.ref f__law_home) = true)
    (a__law_table : PySem.W.nsIn K mainGlobals "_law_table" = some (some (.ref f__law_table)))
    (l__law_table : K.lookup f__law_table = some ⟨oc__law_table, od__law_table, .func (PySem.W.fnOf "_law_table" "_law_table" (defArgs s__law_table) (defBody s__law_table) (defScope s__law_table) .none kV__law_table dc__law_table pm__law_table an__law_table cd__law_table ct__law_table), sl__law_table⟩) (c__law_table : PySem.W.codeIn K cd__law_table "_law_table" = true) (k__law_table : PySem.W.keepIn K (.ref f__law_table) = true)
    (a__law_homes : PySem.W.nsIn K mainGlobals "_law_homes" = some (some (.ref f__law_homes)))
    (l__law_homes : K.lookup f__law_homes = some ⟨oc__law_homes, od__law_homes, .func (PySem.W.fnOf "_law_homes" "_law_homes" (defArgs s__law_homes) (defBody s__law_homes) (defScope s__law_homes) .none kV__law_homes dc__law_homes pm__law_homes an__law_homes cd__law_homes ct__law_homes), sl__law_homes⟩) (c__law_homes : PySem.W.codeIn K cd__law_homes "_law_homes" = true) (k__law_homes : PySem.W.keepIn K (.ref f__law_homes) = true)
    (a__law_kind : PySem.W.nsIn K mainGlobals "_law_kind" = some (some (.ref f__law_kind)))
    (l__law_kind : K.lookup f__law_kind = some ⟨oc__law_kind, od__law_kind, .func (PySem.W.fnOf "_law_kind" "_law_kind" (defArgs s__law_kind) (defBody s__law_kind) (defScope s__law_kind) .none kV__law_kind dc__law_kind pm__law_kind an__law_kind cd__law_kind ct__law_kind), sl__law_kind⟩) (c__law_kind : PySem.W.codeIn K cd__law_kind "_law_kind" = true) (k__law_kind : PySem.W.keepIn K (.ref f__law_kind) = true)
    (a__law_told : PySem.W.nsIn K mainGlobals "_law_told" = some (some (.ref f__law_told)))
    (l__law_told : K.lookup f__law_told = some ⟨oc__law_told, od__law_told, .func (PySem.W.fnOf "_law_told" "_law_told" (defArgs s__law_told) (defBody s__law_told) (defScope s__law_told) .none kV__law_told dc__law_told pm__law_told an__law_told cd__law_told ct__law_told), sl__law_told⟩) (c__law_told : PySem.W.codeIn K cd__law_told "_law_told" = true) (k__law_told : PySem.W.keepIn K (.ref f__law_told) = true)
    (a__law_drawn : PySem.W.nsIn K mainGlobals "_law_drawn" = some (some (.ref f__law_drawn)))
    (l__law_drawn : K.lookup f__law_drawn = some ⟨oc__law_drawn, od__law_drawn, .func (PySem.W.fnOf "_law_drawn" "_law_drawn" (defArgs s__law_drawn) (defBody s__law_drawn) (defScope s__law_drawn) .none kV__law_drawn dc__law_drawn pm__law_drawn an__law_drawn cd__law_drawn ct__law_drawn), sl__law_drawn⟩) (c__law_drawn : PySem.W.codeIn K cd__law_drawn "_law_drawn" = true) (k__law_drawn : PySem.W.keepIn K (.ref f__law_drawn) = true)
    (a__law_rows : PySem.W.nsIn K mainGlobals "_law_rows" = some (some (.ref f__law_rows)))
    (l__law_rows : K.lookup f__law_rows = some ⟨oc__law_rows, od__law_rows, .func (PySem.W.fnOf "_law_rows" "_law_rows" (defArgs s__law_rows) (defBody s__law_rows) (defScope s__law_rows) .none kV__law_rows dc__law_rows pm__law_rows an__law_rows cd__law_rows ct__law_rows), sl__law_rows⟩) (c__law_rows : PySem.W.codeIn K cd__law_rows "_law_rows" = true) (k__law_rows : PySem.W.keepIn K (.ref f__law_rows) = true)
    (a__law_text : PySem.W.nsIn K mainGlobals "_law_text" = some (some (.ref f__law_text)))
    (l__law_text : K.lookup f__law_text = some ⟨oc__law_text, od__law_text, .func (PySem.W.fnOf "_law_text" "_law_text" (defArgs s__law_text) (defBody s__law_text) (defScope s__law_text) .none kV__law_text dc__law_text pm__law_text an__law_text cd__law_text ct__law_text), sl__law_text⟩) (c__law_text : PySem.W.codeIn K cd__law_text "_law_text" = true) (k__law_text : PySem.W.keepIn K (.ref f__law_text) = true)
    (a__law_alike : PySem.W.nsIn K mainGlobals "_law_alike" = some (some (.ref f__law_alike)))
    (l__law_alike : K.lookup f__law_alike = some ⟨oc__law_alike, od__law_alike, .func (PySem.W.fnOf "_law_alike" "_law_alike" (defArgs s__law_alike) (defBody s__law_alike) (defScope s__law_alike) .none kV__law_alike dc__law_alike pm__law_alike an__law_alike cd__law_alike ct__law_alike), sl__law_alike⟩) (c__law_alike : PySem.W.codeIn K cd__law_alike "_law_alike" = true) (k__law_alike : PySem.W.keepIn K (.ref f__law_alike) = true)
    (a__law_number : PySem.W.nsIn K mainGlobals "_law_number" = some (some (.ref f__law_number)))
    (l__law_number : K.lookup f__law_number = some ⟨oc__law_number, od__law_number, .func (PySem.W.fnOf "_law_number" "_law_number" (defArgs s__law_number) (defBody s__law_number) (defScope s__law_number) .none kV__law_number dc__law_number pm__law_number an__law_number cd__law_number ct__law_number), sl__law_number⟩) (c__law_number : PySem.W.codeIn K cd__law_number "_law_number" = true) (k__law_number : PySem.W.keepIn K (.ref f__law_number) = true)
    (a__law_spoilt : PySem.W.nsIn K mainGlobals "_law_spoilt" = some (some (.ref f__law_spoilt)))
    (l__law_spoilt : K.lookup f__law_spoilt = some ⟨oc__law_spoilt, od__law_spoilt, .func (PySem.W.fnOf "_law_spoilt" "_law_spoilt" (defArgs s__law_spoilt) (defBody s__law_spoilt) (defScope s__law_spoilt) .none kV__law_spoilt dc__law_spoilt pm__law_spoilt an__law_spoilt cd__law_spoilt ct__law_spoilt), sl__law_spoilt⟩) (c__law_spoilt : PySem.W.codeIn K cd__law_spoilt "_law_spoilt" = true) (k__law_spoilt : PySem.W.keepIn K (.ref f__law_spoilt) = true)
    (a__law_other : PySem.W.nsIn K mainGlobals "_law_other" = some (some (.ref f__law_other)))
    (l__law_other : K.lookup f__law_other = some ⟨oc__law_other, od__law_other, .func (PySem.W.fnOf "_law_other" "_law_other" (defArgs s__law_other) (defBody s__law_other) (defScope s__law_other) .none kV__law_other dc__law_other pm__law_other an__law_other cd__law_other ct__law_other), sl__law_other⟩) (c__law_other : PySem.W.codeIn K cd__law_other "_law_other" = true) (k__law_other : PySem.W.keepIn K (.ref f__law_other) = true)
    (a__law_good : PySem.W.nsIn K mainGlobals "_law_good" = some (some (.ref f__law_good)))
    (l__law_good : K.lookup f__law_good = some ⟨oc__law_good, od__law_good, .func (PySem.W.fnOf "_law_good" "_law_good" (defArgs s__law_good) (defBody s__law_good) (defScope s__law_good) .none kV__law_good dc__law_good pm__law_good an__law_good cd__law_good ct__law_good), sl__law_good⟩) (c__law_good : PySem.W.codeIn K cd__law_good "_law_good" = true) (k__law_good : PySem.W.keepIn K (.ref f__law_good) = true)
    (a__law_refused : PySem.W.nsIn K mainGlobals "_law_refused" = some (some (.ref f__law_refused)))
    (l__law_refused : K.lookup f__law_refused = some ⟨oc__law_refused, od__law_refused, .func (PySem.W.fnOf "_law_refused" "_law_refused" (defArgs s__law_refused) (defBody s__law_refused) (defScope s__law_refused) .none kV__law_refused dc__law_refused pm__law_refused an__law_refused cd__law_refused ct__law_refused), sl__law_refused⟩) (c__law_refused : PySem.W.codeIn K cd__law_refused "_law_refused" = true) (k__law_refused : PySem.W.keepIn K (.ref f__law_refused) = true)
    (a_law : PySem.W.nsIn K mainGlobals "law" = some (some (.ref f_law)))
    (l_law : K.lookup f_law = some ⟨oc_law, od_law, .func (PySem.W.fnOf "law" "law" (defArgs s_law) (defBody s_law) (defScope s_law) .none kV_law dc_law pm_law an_law cd_law ct_law), sl_law⟩) (c_law : PySem.W.codeIn K cd_law "law" = true) (k_law : PySem.W.keepIn K (.ref f_law) = true)
    (u_FIGURES : PySem.W.nsIn K mainGlobals "FIGURES" = some (some (.str "0123456789" t_FIGURES)))
    (u_LONGEST : PySem.W.nsIn K mainGlobals "LONGEST" = some (some (.int 12 t_LONGEST)))
    (u_MOST_FIGURES : PySem.W.nsIn K mainGlobals "MOST_FIGURES" = some (some (.int 10 t_MOST_FIGURES)))
    (u_MOST_NESTS : PySem.W.nsIn K mainGlobals "MOST_NESTS" = some (some (.int 1000 t_MOST_NESTS)))
    (u_MOST_TIMES : PySem.W.nsIn K mainGlobals "MOST_TIMES" = some (some (.int 1000000 t_MOST_TIMES)))
    (u_MOST_VALUE : PySem.W.nsIn K mainGlobals "MOST_VALUE" = some (some (.int 1000000000 t_MOST_VALUE)))
    (u_SIGNS : PySem.W.nsIn K mainGlobals "SIGNS" = some (some (.str "abcdefghijklmnopqrstuvwxyz0123456789" t_SIGNS)))
    (u_WORDS : PySem.W.nsIn K mainGlobals "WORDS" = some (some (.int 4 t_WORDS)))
    (z_ValueError : PySem.W.nsIn K mainGlobals "ValueError" = some none)
    (z_dict : PySem.W.nsIn K mainGlobals "dict" = some none)
    (z_int : PySem.W.nsIn K mainGlobals "int" = some none)
    (z_isinstance : PySem.W.nsIn K mainGlobals "isinstance" = some none)
    (z_len : PySem.W.nsIn K mainGlobals "len" = some none)
    (z_list : PySem.W.nsIn K mainGlobals "list" = some none)
    (z_min : PySem.W.nsIn K mainGlobals "min" = some none)
    (z_range : PySem.W.nsIn K mainGlobals "range" = some none)
    (z_sorted : PySem.W.nsIn K mainGlobals "sorted" = some none)
    (z_str : PySem.W.nsIn K mainGlobals "str" = some none)
    : ∃ fd : FuncData, (∀ (s : Shared) (v : Value), BindsTo s fd ⟨[v], []⟩ [("_law_script", v)]) ∧ ∀ base : Heap, K.In base → base.Ns mainGlobals mg → FnOk l.prog w K mg base CX0 9 fa fd ["_law_script"] (sp_law K) := by
  have e := hfa.symm.trans (PySem.W.mg_of X G a_law)
  cases e
  have F_is_name := fun_mk (st := s_is_name) l_is_name c_is_name k_is_name
  have b_is_name := F_is_name.binds (ps := ["name"]) fun _ _ _ _ _ _ us hl => match us, hl with | [_], _ => rfl
  have F_home := fun_mk (st := s_home) l_home c_home k_home
  have b_home := F_home.binds (ps := ["name", "times", "count"]) fun _ _ _ _ _ _ us hl => match us, hl with | [_, _, _], _ => rfl
  have F_Nests_init := fun_mk (st := s_Nests_init) l_Nests_init c_Nests_init k_Nests_init
  have b_Nests_init := F_Nests_init.binds (ps := ["self", "count", "first", "second"]) fun _ _ _ _ _ _ us hl => match us, hl with | [_, _, _, _], _ => rfl
  have F_Nests_homes := fun_mk (st := s_Nests_homes) l_Nests_homes c_Nests_homes k_Nests_homes
  have b_Nests_homes := F_Nests_homes.binds (ps := ["self", "name"]) fun _ _ _ _ _ _ us hl => match us, hl with | [_, _], _ => rfl
  have F_Nests_at := fun_mk (st := s_Nests_at) l_Nests_at c_Nests_at k_Nests_at
  have b_Nests_at := F_Nests_at.binds (ps := ["self", "nest"]) fun _ _ _ _ _ _ us hl => match us, hl with | [_, _], _ => rfl
  have F_Nests_way := fun_mk (st := s_Nests_way) l_Nests_way c_Nests_way k_Nests_way
  have b_Nests_way := F_Nests_way.binds (ps := ["self", "nest"]) fun _ _ _ _ _ _ us hl => match us, hl with | [_, _], _ => rfl
  have F_Nests_put := fun_mk (st := s_Nests_put) l_Nests_put c_Nests_put k_Nests_put
  have b_Nests_put := F_Nests_put.binds (ps := ["self", "name", "value"]) fun _ _ _ _ _ _ us hl => match us, hl with | [_, _, _], _ => rfl
  have F_Nests_put_at := fun_mk (st := s_Nests_put_at) l_Nests_put_at c_Nests_put_at k_Nests_put_at
  have b_Nests_put_at := F_Nests_put_at.binds (ps := ["self", "name", "value", "nest"]) fun _ _ _ _ _ _ us hl => match us, hl with | [_, _, _, _], _ => rfl
  have F_Nests_moves := fun_mk (st := s_Nests_moves) l_Nests_moves c_Nests_moves k_Nests_moves
  have b_Nests_moves := F_Nests_moves.binds (ps := ["self", "name"]) fun _ _ _ _ _ _ us hl => match us, hl with | [_, _], _ => rfl
  have F_Nests_take_out := fun_mk (st := s_Nests_take_out) l_Nests_take_out c_Nests_take_out k_Nests_take_out
  have b_Nests_take_out := F_Nests_take_out.binds (ps := ["self", "name"]) fun _ _ _ _ _ _ us hl => match us, hl with | [_, _], _ => rfl
  have F_Nests_value := fun_mk (st := s_Nests_value) l_Nests_value c_Nests_value k_Nests_value
  have b_Nests_value := F_Nests_value.binds (ps := ["self", "name"]) fun _ _ _ _ _ _ us hl => match us, hl with | [_, _], _ => rfl
  have F_Nests_where := fun_mk (st := s_Nests_where) l_Nests_where c_Nests_where k_Nests_where
  have b_Nests_where := F_Nests_where.binds (ps := ["self", "name"]) fun _ _ _ _ _ _ us hl => match us, hl with | [_, _], _ => rfl
  have F_Nests_names := fun_mk (st := s_Nests_names) l_Nests_names c_Nests_names k_Nests_names
  have b_Nests_names := F_Nests_names.binds (ps := ["self"]) fun _ _ _ _ _ _ us hl => match us, hl with | [_], _ => rfl
  have F_Nests_many := fun_mk (st := s_Nests_many) l_Nests_many c_Nests_many k_Nests_many
  have b_Nests_many := F_Nests_many.binds (ps := ["self"]) fun _ _ _ _ _ _ us hl => match us, hl with | [_], _ => rfl
  have F_Nests__check_nest := fun_mk (st := s_Nests__check_nest) l_Nests__check_nest c_Nests__check_nest k_Nests__check_nest
  have b_Nests__check_nest := F_Nests__check_nest.binds (ps := ["self", "nest"]) fun _ _ _ _ _ _ us hl => match us, hl with | [_, _], _ => rfl
  have F_Nests__thing := fun_mk (st := s_Nests__thing) l_Nests__thing c_Nests__thing k_Nests__thing
  have b_Nests__thing := F_Nests__thing.binds (ps := ["self", "name"]) fun _ _ _ _ _ _ us hl => match us, hl with | [_, _], _ => rfl
  have F_Nests__stand := fun_mk (st := s_Nests__stand) l_Nests__stand c_Nests__stand k_Nests__stand
  have b_Nests__stand := F_Nests__stand.binds (ps := ["self", "name", "value", "nest"]) fun _ _ _ _ _ _ us hl => match us, hl with | [_, _, _, _], _ => rfl
  have F_Nests__other_home := fun_mk (st := s_Nests__other_home) l_Nests__other_home c_Nests__other_home k_Nests__other_home
  have b_Nests__other_home := F_Nests__other_home.binds (ps := ["self", "nest"]) fun _ _ _ _ _ _ us hl => match us, hl with | [_, _], _ => rfl
  have F_Nests__ways := fun_mk (st := s_Nests__ways) l_Nests__ways c_Nests__ways k_Nests__ways
  have b_Nests__ways := F_Nests__ways.binds (ps := ["self", "name"]) fun _ _ _ _ _ _ us hl => match us, hl with | [_, _], _ => rfl
  have F_Nests__is_open := fun_mk (st := s_Nests__is_open) l_Nests__is_open c_Nests__is_open k_Nests__is_open
  have b_Nests__is_open := F_Nests__is_open.binds (ps := ["self", "way"]) fun _ _ _ _ _ _ us hl => match us, hl with | [_, _], _ => rfl
  have F_Nests__open_way := fun_mk (st := s_Nests__open_way) l_Nests__open_way c_Nests__open_way k_Nests__open_way
  have b_Nests__open_way := F_Nests__open_way.binds (ps := ["self", "name"]) fun _ _ _ _ _ _ us hl => match us, hl with | [_, _], _ => rfl
  have F_Nests__moves_on := fun_mk (st := s_Nests__moves_on) l_Nests__moves_on c_Nests__moves_on k_Nests__moves_on
  have b_Nests__moves_on := F_Nests__moves_on.binds (ps := ["self", "way"]) fun _ _ _ _ _ _ us hl => match us, hl with | [_, _], _ => rfl
  have F__check_name := fun_mk (st := s__check_name) l__check_name c__check_name k__check_name
  have b__check_name := F__check_name.binds (ps := ["name"]) fun _ _ _ _ _ _ us hl => match us, hl with | [_], _ => rfl
  have F__check_value := fun_mk (st := s__check_value) l__check_value c__check_value k__check_value
  have b__check_value := F__check_value.binds (ps := ["value"]) fun _ _ _ _ _ _ us hl => match us, hl with | [_], _ => rfl
  have F_written := fun_mk (st := s_written) l_written c_written k_written
  have b_written := F_written.binds (ps := ["table"]) fun _ _ _ _ _ _ us hl => match us, hl with | [_], _ => rfl
  have F_read := fun_mk (st := s_read) l_read c_read k_read
  have b_read := F_read.binds (ps := ["text"]) fun _ _ _ _ _ _ us hl => match us, hl with | [_], _ => rfl
  have F__rows := fun_mk (st := s__rows) l__rows c__rows k__rows
  have b__rows := F__rows.binds (ps := ["text"]) fun _ _ _ _ _ _ us hl => match us, hl with | [_], _ => rfl
  have F__head := fun_mk (st := s__head) l__head c__head k__head
  have b__head := F__head.binds (ps := ["words"]) fun _ _ _ _ _ _ us hl => match us, hl with | [_], _ => rfl
  have F__thing := fun_mk (st := s__thing) l__thing c__thing k__thing
  have b__thing := F__thing.binds (ps := ["words"]) fun _ _ _ _ _ _ us hl => match us, hl with | [_], _ => rfl
  have F__number := fun_mk (st := s__number) l__number c__number k__number
  have b__number := F__number.binds (ps := ["word"]) fun _ _ _ _ _ _ us hl => match us, hl with | [_], _ => rfl
  have F__value := fun_mk (st := s__value) l__value c__value k__value
  have b__value := F__value.binds (ps := ["word"]) fun _ _ _ _ _ _ us hl => match us, hl with | [_], _ => rfl
  have F__law_cell_at := fun_mk (st := s__law_cell_at) l__law_cell_at c__law_cell_at k__law_cell_at
  have b__law_cell_at := F__law_cell_at.binds (ps := ["_law_script", "_law_k"]) fun _ _ _ _ _ _ us hl => match us, hl with | [_, _], _ => rfl
  have F__law_mixed := fun_mk (st := s__law_mixed) l__law_mixed c__law_mixed k__law_mixed
  have b__law_mixed := F__law_mixed.binds (ps := ["_law_cell", "_law_k"]) fun _ _ _ _ _ _ us hl => match us, hl with | [_, _], _ => rfl
  have F__law_room := fun_mk (st := s__law_room) l__law_room c__law_room k__law_room
  have b__law_room := F__law_room.binds (ps := ["_law_script", "_law_few", "_law_many"]) fun _ _ _ _ _ _ us hl => match us, hl with | [_, _, _], _ => rfl
  have F__law_names := fun_mk (st := s__law_names) l__law_names c__law_names k__law_names
  have b__law_names := F__law_names.binds (ps := ["_law_cell", "_law_many"]) fun _ _ _ _ _ _ us hl => match us, hl with | [_, _], _ => rfl
  have F__law_home := fun_mk (st := s__law_home) l__law_home c__law_home k__law_home
  have b__law_home := F__law_home.binds (ps := ["_law_name", "_law_times", "_law_count"]) fun _ _ _ _ _ _ us hl => match us, hl with | [_, _, _], _ => rfl
  have F__law_table := fun_mk (st := s__law_table) l__law_table c__law_table k__law_table
  have b__law_table := F__law_table.binds (ps := ["_law_script"]) fun _ _ _ _ _ _ us hl => match us, hl with | [_], _ => rfl
  have F__law_homes := fun_mk (st := s__law_homes) l__law_homes c__law_homes k__law_homes
  have b__law_homes := F__law_homes.binds (ps := ["_law_names_here", "_law_told_here"]) fun _ _ _ _ _ _ us hl => match us, hl with | [_, _], _ => rfl
  have F__law_kind := fun_mk (st := s__law_kind) l__law_kind c__law_kind k__law_kind
  have b__law_kind := F__law_kind.binds (ps := ["_law_e"]) fun _ _ _ _ _ _ us hl => match us, hl with | [_], _ => rfl
  have F__law_told := fun_mk (st := s__law_told) l__law_told c__law_told k__law_told
  have b__law_told := F__law_told.binds (ps := ["_law_text_here"]) fun _ _ _ _ _ _ us hl => match us, hl with | [_], _ => rfl
  have F__law_drawn := fun_mk (st := s__law_drawn) l__law_drawn c__law_drawn k__law_drawn
  have b__law_drawn := F__law_drawn.binds (ps := ["_law_script", "_law_told_here", "_law_names_here", "_law_homes_here"]) fun _ _ _ _ _ _ us hl => match us, hl with | [_, _, _, _], _ => rfl
  have F__law_rows := fun_mk (st := s__law_rows) l__law_rows c__law_rows k__law_rows
  have b__law_rows := F__law_rows.binds (ps := ["_law_held", "_law_values"]) fun _ _ _ _ _ _ us hl => match us, hl with | [_, _], _ => rfl
  have F__law_text := fun_mk (st := s__law_text) l__law_text c__law_text k__law_text
  have b__law_text := F__law_text.binds (ps := ["_law_rows_here"]) fun _ _ _ _ _ _ us hl => match us, hl with | [_], _ => rfl
  have F__law_alike := fun_mk (st := s__law_alike) l__law_alike c__law_alike k__law_alike
  have b__law_alike := F__law_alike.binds (ps := ["_law_table_here", "_law_told_here", "_law_held", "_law_values"]) fun _ _ _ _ _ _ us hl => match us, hl with | [_, _, _, _], _ => rfl
  have F__law_number := fun_mk (st := s__law_number) l__law_number c__law_number k__law_number
  have b__law_number := F__law_number.binds (ps := ["_law_cell"]) fun _ _ _ _ _ _ us hl => match us, hl with | [_], _ => rfl
  have F__law_spoilt := fun_mk (st := s__law_spoilt) l__law_spoilt c__law_spoilt k__law_spoilt
  have b__law_spoilt := F__law_spoilt.binds (ps := ["_law_rows_here", "_law_cell", "_law_more"]) fun _ _ _ _ _ _ us hl => match us, hl with | [_, _, _], _ => rfl
  have F__law_other := fun_mk (st := s__law_other) l__law_other c__law_other k__law_other
  have b__law_other := F__law_other.binds (ps := ["_law_rows_here", "_law_told_here", "_law_homes_here", "_law_name", "_law_cell", "_law_more"]) fun _ _ _ _ _ _ us hl => match us, hl with | [_, _, _, _, _, _], _ => rfl
  have F__law_good := fun_mk (st := s__law_good) l__law_good c__law_good k__law_good
  have b__law_good := F__law_good.binds (ps := ["_law_told_here", "_law_rows_here", "_law_held", "_law_values", "_law_homes_here", "_law_name", "_law_more"]) fun _ _ _ _ _ _ us hl => match us, hl with | [_, _, _, _, _, _, _], _ => rfl
  have F__law_refused := fun_mk (st := s__law_refused) l__law_refused c__law_refused k__law_refused
  have b__law_refused := F__law_refused.binds (ps := ["_law_rows_here", "_law_told_here", "_law_homes_here", "_law_name", "_law_cell", "_law_more"]) fun _ _ _ _ _ _ us hl => match us, hl with | [_, _, _, _, _, _], _ => rfl
  have F_law := fun_mk (st := s_law) l_law c_law k_law
  have b_law := F_law.binds (ps := ["_law_script"]) fun _ _ _ _ _ _ us hl => match us, hl with | [_], _ => rfl
  have T : Tx K mg ⟨f_is_name, _, f_home, _, f_Nests_init, _, f_Nests_homes, _, f_Nests_at, _, f_Nests_way, _, f_Nests_put, _, f_Nests_put_at, _, f_Nests_moves, _, f_Nests_take_out, _, f_Nests_value, _, f_Nests_where, _, f_Nests_names, _, f_Nests_many, _, f_Nests__check_nest, _, f_Nests__thing, _, f_Nests__stand, _, f_Nests__other_home, _, f_Nests__ways, _, f_Nests__is_open, _, f_Nests__open_way, _, f_Nests__moves_on, _, f__check_name, _, f__check_value, _, f_written, _, f_read, _, f__rows, _, f__head, _, f__thing, _, f__number, _, f__value, _, f__law_cell_at, _, f__law_mixed, _, f__law_room, _, f__law_names, _, f__law_home, _, f__law_table, _, f__law_homes, _, f__law_kind, _, f__law_told, _, f__law_drawn, _, f__law_rows, _, f__law_text, _, f__law_alike, _, f__law_number, _, f__law_spoilt, _, f__law_other, _, f__law_good, _, f__law_refused, _, fa, _, c_Nests, c_NestError, c_NoNests, c_NoName, c_NoValue, c_NoNest, c_NoHome, c_Taken, c_Twice, c_NoRoom, c_Unknown, c_NoNote, t_FIGURES, t_LONGEST, t_MOST_FIGURES, t_MOST_NESTS, t_MOST_TIMES, t_MOST_VALUE, t_SIGNS, t_WORDS⟩ := ⟨F_is_name, PySem.W.mg_of X G a_is_name, b_is_name, F_home, PySem.W.mg_of X G a_home, b_home, F_Nests_init, b_Nests_init, ⟨mk_Nests, a_Nests_init, i_Nests_init, kc_Nests⟩, F_Nests_homes, b_Nests_homes, ⟨a_Nests_homes, i_Nests_homes, k_Nests_homes⟩, F_Nests_at, b_Nests_at, ⟨a_Nests_at, i_Nests_at, k_Nests_at⟩, F_Nests_way, b_Nests_way, ⟨a_Nests_way, i_Nests_way, k_Nests_way⟩, F_Nests_put, b_Nests_put, ⟨a_Nests_put, i_Nests_put, k_Nests_put⟩, F_Nests_put_at, b_Nests_put_at, ⟨a_Nests_put_at, i_Nests_put_at, k_Nests_put_at⟩, F_Nests_moves, b_Nests_moves, ⟨a_Nests_moves, i_Nests_moves, k_Nests_moves⟩, F_Nests_take_out, b_Nests_take_out, ⟨a_Nests_take_out, i_Nests_take_out, k_Nests_take_out⟩, F_Nests_value, b_Nests_value, ⟨a_Nests_value, i_Nests_value, k_Nests_value⟩, F_Nests_where, b_Nests_where, ⟨a_Nests_where, i_Nests_where, k_Nests_where⟩, F_Nests_names, b_Nests_names, ⟨a_Nests_names, i_Nests_names, k_Nests_names⟩, F_Nests_many, b_Nests_many, ⟨a_Nests_many, i_Nests_many, k_Nests_many⟩, F_Nests__check_nest, b_Nests__check_nest, ⟨a_Nests__check_nest, i_Nests__check_nest, k_Nests__check_nest⟩, F_Nests__thing, b_Nests__thing, ⟨a_Nests__thing, i_Nests__thing, k_Nests__thing⟩, F_Nests__stand, b_Nests__stand, ⟨a_Nests__stand, i_Nests__stand, k_Nests__stand⟩, F_Nests__other_home, b_Nests__other_home, ⟨a_Nests__other_home, i_Nests__other_home, k_Nests__other_home⟩, F_Nests__ways, b_Nests__ways, ⟨a_Nests__ways, i_Nests__ways, k_Nests__ways⟩, F_Nests__is_open, b_Nests__is_open, ⟨a_Nests__is_open, i_Nests__is_open, k_Nests__is_open⟩, F_Nests__open_way, b_Nests__open_way, ⟨a_Nests__open_way, i_Nests__open_way, k_Nests__open_way⟩, F_Nests__moves_on, b_Nests__moves_on, ⟨a_Nests__moves_on, i_Nests__moves_on, k_Nests__moves_on⟩, F__check_name, PySem.W.mg_of X G a__check_name, b__check_name, F__check_value, PySem.W.mg_of X G a__check_value, b__check_value, F_written, PySem.W.mg_of X G a_written, b_written, F_read, PySem.W.mg_of X G a_read, b_read, F__rows, PySem.W.mg_of X G a__rows, b__rows, F__head, PySem.W.mg_of X G a__head, b__head, F__thing, PySem.W.mg_of X G a__thing, b__thing, F__number, PySem.W.mg_of X G a__number, b__number, F__value, PySem.W.mg_of X G a__value, b__value, F__law_cell_at, PySem.W.mg_of X G a__law_cell_at, b__law_cell_at, F__law_mixed, PySem.W.mg_of X G a__law_mixed, b__law_mixed, F__law_room, PySem.W.mg_of X G a__law_room, b__law_room, F__law_names, PySem.W.mg_of X G a__law_names, b__law_names, F__law_home, PySem.W.mg_of X G a__law_home, b__law_home, F__law_table, PySem.W.mg_of X G a__law_table, b__law_table, F__law_homes, PySem.W.mg_of X G a__law_homes, b__law_homes, F__law_kind, PySem.W.mg_of X G a__law_kind, b__law_kind, F__law_told, PySem.W.mg_of X G a__law_told, b__law_told, F__law_drawn, PySem.W.mg_of X G a__law_drawn, b__law_drawn, F__law_rows, PySem.W.mg_of X G a__law_rows, b__law_rows, F__law_text, PySem.W.mg_of X G a__law_text, b__law_text, F__law_alike, PySem.W.mg_of X G a__law_alike, b__law_alike, F__law_number, PySem.W.mg_of X G a__law_number, b__law_number, F__law_spoilt, PySem.W.mg_of X G a__law_spoilt, b__law_spoilt, F__law_other, PySem.W.mg_of X G a__law_other, b__law_other, F__law_good, PySem.W.mg_of X G a__law_good, b__law_good, F__law_refused, PySem.W.mg_of X G a__law_refused, b__law_refused, F_law, PySem.W.mg_of X G a_law, b_law, PySem.W.mg_of X G g_NestError, PySem.W.mg_of X G g_NoNests, PySem.W.mg_of X G g_NoName, PySem.W.mg_of X G g_NoValue, PySem.W.mg_of X G g_NoNest, PySem.W.mg_of X G g_NoHome, PySem.W.mg_of X G g_Taken, PySem.W.mg_of X G g_Twice, PySem.W.mg_of X G g_NoRoom, PySem.W.mg_of X G g_Unknown, PySem.W.mg_of X G g_NoNote, x_NoNests, kk_NoNests, bx_NoNests, tx_NoNests, x_NoName, kk_NoName, bx_NoName, tx_NoName, x_NoValue, kk_NoValue, bx_NoValue, tx_NoValue, x_NoNest, kk_NoNest, bx_NoNest, tx_NoNest, x_NoHome, kk_NoHome, bx_NoHome, tx_NoHome, x_Taken, kk_Taken, bx_Taken, tx_Taken, x_Twice, kk_Twice, bx_Twice, tx_Twice, x_NoRoom, kk_NoRoom, bx_NoRoom, tx_NoRoom, x_Unknown, kk_Unknown, bx_Unknown, tx_Unknown, x_NoNote, kk_NoNote, bx_NoNote, tx_NoNote, TB.exm_of bx_NestError ix_NestError tx_NestError s_NoNests_NestError, TB.exm_of bx_NestError ix_NestError tx_NestError s_NoName_NestError, TB.exm_of bx_NestError ix_NestError tx_NestError s_NoValue_NestError, TB.exm_of bx_NestError ix_NestError tx_NestError s_NoNest_NestError, TB.exm_of bx_NestError ix_NestError tx_NestError s_NoHome_NestError, TB.exm_of bx_NestError ix_NestError tx_NestError s_Taken_NestError, TB.exm_of bx_NestError ix_NestError tx_NestError s_Twice_NestError, TB.exm_of bx_NestError ix_NestError tx_NestError s_NoNote_NestError, q_NoNests_NoNests, q_NoNests_NoName, q_NoNests_NoValue, q_NoNests_NoNest, q_NoNests_NoHome, q_NoNests_Taken, q_NoNests_Twice, q_NoNests_NoNote, q_NoNests_NoRoom, q_NoNests_Unknown, q_NoNests_ValueError, q_NoName_NoNests, q_NoName_NoName, q_NoName_NoValue, q_NoName_NoNest, q_NoName_NoHome, q_NoName_Taken, q_NoName_Twice, q_NoName_NoNote, q_NoName_NoRoom, q_NoName_Unknown, q_NoName_ValueError, q_NoValue_NoNests, q_NoValue_NoName, q_NoValue_NoValue, q_NoValue_NoNest, q_NoValue_NoHome, q_NoValue_Taken, q_NoValue_Twice, q_NoValue_NoNote, q_NoValue_NoRoom, q_NoValue_Unknown, q_NoValue_ValueError, q_NoNest_NoNests, q_NoNest_NoName, q_NoNest_NoValue, q_NoNest_NoNest, q_NoNest_NoHome, q_NoNest_Taken, q_NoNest_Twice, q_NoNest_NoNote, q_NoNest_NoRoom, q_NoNest_Unknown, q_NoNest_ValueError, q_NoHome_NoNests, q_NoHome_NoName, q_NoHome_NoValue, q_NoHome_NoNest, q_NoHome_NoHome, q_NoHome_Taken, q_NoHome_Twice, q_NoHome_NoNote, q_NoHome_NoRoom, q_NoHome_Unknown, q_NoHome_ValueError, q_Taken_NoNests, q_Taken_NoName, q_Taken_NoValue, q_Taken_NoNest, q_Taken_NoHome, q_Taken_Taken, q_Taken_Twice, q_Taken_NoNote, q_Taken_NoRoom, q_Taken_Unknown, q_Taken_ValueError, q_Twice_NoNests, q_Twice_NoName, q_Twice_NoValue, q_Twice_NoNest, q_Twice_NoHome, q_Twice_Taken, q_Twice_Twice, q_Twice_NoNote, q_Twice_NoRoom, q_Twice_Unknown, q_Twice_ValueError, q_NoNote_NoNests, q_NoNote_NoName, q_NoNote_NoValue, q_NoNote_NoNest, q_NoNote_NoHome, q_NoNote_Taken, q_NoNote_Twice, q_NoNote_NoNote, q_NoNote_NoRoom, q_NoNote_Unknown, q_NoNote_ValueError, ⟨eg_NoNests, ek_NoNests, bx_NoNests, ed_NoNests, ea_NoNests, en_, et_, em_NoNests⟩, ⟨eg_NoName, ek_NoName, bx_NoName, ed_NoName, ea_NoName, en_, et_, em_NoName⟩, ⟨eg_NoValue, ek_NoValue, bx_NoValue, ed_NoValue, ea_NoValue, en_, et_, em_NoValue⟩, ⟨eg_NoNest, ek_NoNest, bx_NoNest, ed_NoNest, ea_NoNest, en_, et_, em_NoNest⟩, ⟨eg_NoHome, ek_NoHome, bx_NoHome, ed_NoHome, ea_NoHome, en_, et_, em_NoHome⟩, ⟨eg_Taken, ek_Taken, bx_Taken, ed_Taken, ea_Taken, en_, et_, em_Taken⟩, ⟨eg_Twice, ek_Twice, bx_Twice, ed_Twice, ea_Twice, en_, et_, em_Twice⟩, ⟨eg_NoNote, ek_NoNote, bx_NoNote, ed_NoNote, ea_NoNote, en_, et_, em_NoNote⟩, ⟨pg_Nests, hd_Nests, po_Nests, sa_Nests⟩, PySem.W.mg_of X G g_Nests, n_Nests_count, n_Nests_first, n_Nests_second, n_Nests__names, n_Nests__things, PySem.W.mg_of X G u_FIGURES, PySem.W.mg_of X G u_LONGEST, PySem.W.mg_of X G u_MOST_FIGURES, PySem.W.mg_of X G u_MOST_NESTS, PySem.W.mg_of X G u_MOST_TIMES, PySem.W.mg_of X G u_MOST_VALUE, PySem.W.mg_of X G u_SIGNS, PySem.W.mg_of X G u_WORDS, PySem.W.mg_none_of X G z_ValueError, PySem.W.mg_none_of X G z_dict, PySem.W.mg_none_of X G z_int, PySem.W.mg_none_of X G z_isinstance, PySem.W.mg_none_of X G z_len, PySem.W.mg_none_of X G z_list, PySem.W.mg_none_of X G z_min, PySem.W.mg_none_of X G z_range, PySem.W.mg_none_of X G z_sorted, PySem.W.mg_none_of X G z_str⟩
  exact ⟨_, fun s v => .of_eq rfl, fun base _ _ => ok_law T⟩
end K11
open PySem PySem.W PyProof.Rows
set_option maxRecDepth 100000 in
set_option maxHeartbeats 0 in
theorem PySem.Challenge.cw_twonests_k11_whole_notes_holds : PySem.Challenge.rw_twonests_k11_whole_notes.Holds := by
  w_on; o_law; k_head; (case hw => w_witness2)
  k_fill
  refine L2.walk_of (l := PySem.Challenge.rw_twonests_k11_whole_notes) (n := 63) (k := 9) (x := "_law_script") (CX := fun _ => L2.CX0) (sp := fun w => K11.sp_law _) rfl (by decide) rfl ⟨rfl, by decide, by decide⟩ (fun w h Y => PySem.W.kIn_of Y) ?F (fun _ _ a ns hl _ hS => ⟨a, ns, rfl, hS, hl, fun _ => rfl⟩) (fun _ _ _ _ _ h => h)
  case F =>
    intro w mg fa h KX G hmg
    refine' K11.all_mk KX G hmg ?g_NestError ?bx_NestError ?ix_NestError ?tx_NestError ?g_NoNests ?bx_NoNests ?ix_NoNests ?tx_NoNests ?x_NoNests ?kk_NoNests ?g_NoName ?bx_NoName ?ix_NoName ?tx_NoName ?x_NoName ?kk_NoName ?g_NoValue ?bx_NoValue ?ix_NoValue ?tx_NoValue ?x_NoValue ?kk_NoValue ?g_NoNest ?bx_NoNest ?ix_NoNest ?tx_NoNest ?x_NoNest ?kk_NoNest ?g_NoHome ?bx_NoHome ?ix_NoHome ?tx_NoHome ?x_NoHome ?kk_NoHome ?g_Taken ?bx_Taken ?ix_Taken ?tx_Taken ?x_Taken ?kk_Taken ?g_Twice ?bx_Twice ?ix_Twice ?tx_Twice ?x_Twice ?kk_Twice ?g_NoRoom ?bx_NoRoom ?ix_NoRoom ?tx_NoRoom ?x_NoRoom ?kk_NoRoom ?g_Unknown ?bx_Unknown ?ix_Unknown ?tx_Unknown ?x_Unknown ?kk_Unknown ?g_NoNote ?bx_NoNote ?ix_NoNote ?tx_NoNote ?x_NoNote ?kk_NoNote ?s_NoNests_NestError ?s_NoName_NestError ?s_NoValue_NestError ?s_NoNest_NestError ?s_NoHome_NestError ?s_Taken_NestError ?s_Twice_NestError ?s_NoNote_NestError ?q_NoNests_NoNests ?q_NoNests_NoName ?q_NoNests_NoValue ?q_NoNests_NoNest ?q_NoNests_NoHome ?q_NoNests_Taken ?q_NoNests_Twice ?q_NoNests_NoNote ?q_NoNests_NoRoom ?q_NoNests_Unknown ?q_NoNests_ValueError ?q_NoName_NoNests ?q_NoName_NoName ?q_NoName_NoValue ?q_NoName_NoNest ?q_NoName_NoHome ?q_NoName_Taken ?q_NoName_Twice ?q_NoName_NoNote ?q_NoName_NoRoom ?q_NoName_Unknown ?q_NoName_ValueError ?q_NoValue_NoNests ?q_NoValue_NoName ?q_NoValue_NoValue ?q_NoValue_NoNest ?q_NoValue_NoHome ?q_NoValue_Taken ?q_NoValue_Twice ?q_NoValue_NoNote ?q_NoValue_NoRoom ?q_NoValue_Unknown ?q_NoValue_ValueError ?q_NoNest_NoNests ?q_NoNest_NoName ?q_NoNest_NoValue ?q_NoNest_NoNest ?q_NoNest_NoHome ?q_NoNest_Taken ?q_NoNest_Twice ?q_NoNest_NoNote ?q_NoNest_NoRoom ?q_NoNest_Unknown ?q_NoNest_ValueError ?q_NoHome_NoNests ?q_NoHome_NoName ?q_NoHome_NoValue ?q_NoHome_NoNest ?q_NoHome_NoHome ?q_NoHome_Taken ?q_NoHome_Twice ?q_NoHome_NoNote ?q_NoHome_NoRoom ?q_NoHome_Unknown ?q_NoHome_ValueError ?q_Taken_NoNests ?q_Taken_NoName ?q_Taken_NoValue ?q_Taken_NoNest ?q_Taken_NoHome ?q_Taken_Taken ?q_Taken_Twice ?q_Taken_NoNote ?q_Taken_NoRoom ?q_Taken_Unknown ?q_Taken_ValueError ?q_Twice_NoNests ?q_Twice_NoName ?q_Twice_NoValue ?q_Twice_NoNest ?q_Twice_NoHome ?q_Twice_Taken ?q_Twice_Twice ?q_Twice_NoNote ?q_Twice_NoRoom ?q_Twice_Unknown ?q_Twice_ValueError ?q_NoNote_NoNests ?q_NoNote_NoName ?q_NoNote_NoValue ?q_NoNote_NoNest ?q_NoNote_NoHome ?q_NoNote_Taken ?q_NoNote_Twice ?q_NoNote_NoNote ?q_NoNote_NoRoom ?q_NoNote_Unknown ?q_NoNote_ValueError ?en_ ?et_ ?eg_NoNests ?ek_NoNests ?ed_NoNests ?ea_NoNests ?em_NoNests ?eg_NoName ?ek_NoName ?ed_NoName ?ea_NoName ?em_NoName ?eg_NoValue ?ek_NoValue ?ed_NoValue ?ea_NoValue ?em_NoValue ?eg_NoNest ?ek_NoNest ?ed_NoNest ?ea_NoNest ?em_NoNest ?eg_NoHome ?ek_NoHome ?ed_NoHome ?ea_NoHome ?em_NoHome ?eg_Taken ?ek_Taken ?ed_Taken ?ea_Taken ?em_Taken ?eg_Twice ?ek_Twice ?ed_Twice ?ea_Twice ?em_Twice ?eg_NoNote ?ek_NoNote ?ed_NoNote ?ea_NoNote ?em_NoNote ?g_Nests ?pg_Nests ?hd_Nests ?po_Nests ?sa_Nests ?mk_Nests ?kc_Nests ?n_Nests_count ?n_Nests_first ?n_Nests_second ?n_Nests__names ?n_Nests__things ?a_is_name ?l_is_name ?c_is_name ?k_is_name ?a_home ?l_home ?c_home ?k_home ?a_Nests_init ?i_Nests_init ?l_Nests_init ?c_Nests_init ?k_Nests_init ?a_Nests_homes ?i_Nests_homes ?l_Nests_homes ?c_Nests_homes ?k_Nests_homes ?a_Nests_at ?i_Nests_at ?l_Nests_at ?c_Nests_at ?k_Nests_at ?a_Nests_way ?i_Nests_way ?l_Nests_way ?c_Nests_way ?k_Nests_way ?a_Nests_put ?i_Nests_put ?l_Nests_put ?c_Nests_put ?k_Nests_put ?a_Nests_put_at ?i_Nests_put_at ?l_Nests_put_at ?c_Nests_put_at ?k_Nests_put_at ?a_Nests_moves ?i_Nests_moves ?l_Nests_moves ?c_Nests_moves ?k_Nests_moves ?a_Nests_take_out ?i_Nests_take_out ?l_Nests_take_out ?c_Nests_take_out ?k_Nests_take_out ?a_Nests_value ?i_Nests_value ?l_Nests_value ?c_Nests_value ?k_Nests_value ?a_Nests_where ?i_Nests_where ?l_Nests_where ?c_Nests_where ?k_Nests_where ?a_Nests_names ?i_Nests_names ?l_Nests_names ?c_Nests_names ?k_Nests_names ?a_Nests_many ?i_Nests_many ?l_Nests_many ?c_Nests_many ?k_Nests_many ?a_Nests__check_nest ?i_Nests__check_nest ?l_Nests__check_nest ?c_Nests__check_nest ?k_Nests__check_nest ?a_Nests__thing ?i_Nests__thing ?l_Nests__thing ?c_Nests__thing ?k_Nests__thing ?a_Nests__stand ?i_Nests__stand ?l_Nests__stand ?c_Nests__stand ?k_Nests__stand ?a_Nests__other_home ?i_Nests__other_home ?l_Nests__other_home ?c_Nests__other_home ?k_Nests__other_home ?a_Nests__ways ?i_Nests__ways ?l_Nests__ways ?c_Nests__ways ?k_Nests__ways ?a_Nests__is_open ?i_Nests__is_open ?l_Nests__is_open ?c_Nests__is_open ?k_Nests__is_open ?a_Nests__open_way ?i_Nests__open_way ?l_Nests__open_way ?c_Nests__open_way ?k_Nests__open_way ?a_Nests__moves_on ?i_Nests__moves_on ?l_Nests__moves_on ?c_Nests__moves_on ?k_Nests__moves_on ?a__check_name ?l__check_name ?c__check_name ?k__check_name ?a__check_value ?l__check_value ?c__check_value ?k__check_value ?a_written ?l_written ?c_written ?k_written ?a_read ?l_read ?c_read ?k_read ?a__rows ?l__rows ?c__rows ?k__rows ?a__head ?l__head ?c__head ?k__head ?a__thing ?l__thing ?c__thing ?k__thing ?a__number ?l__number ?c__number ?k__number ?a__value ?l__value ?c__value ?k__value ?a__law_cell_at ?l__law_cell_at ?c__law_cell_at ?k__law_cell_at ?a__law_mixed ?l__law_mixed ?c__law_mixed ?k__law_mixed ?a__law_room ?l__law_room ?c__law_room ?k__law_room ?a__law_names ?l__law_names ?c__law_names ?k__law_names ?a__law_home ?l__law_home ?c__law_home ?k__law_home ?a__law_table ?l__law_table ?c__law_table ?k__law_table ?a__law_homes ?l__law_homes ?c__law_homes ?k__law_homes ?a__law_kind ?l__law_kind ?c__law_kind ?k__law_kind ?a__law_told ?l__law_told ?c__law_told ?k__law_told ?a__law_drawn ?l__law_drawn ?c__law_drawn ?k__law_drawn ?a__law_rows ?l__law_rows ?c__law_rows ?k__law_rows ?a__law_text ?l__law_text ?c__law_text ?k__law_text ?a__law_alike ?l__law_alike ?c__law_alike ?k__law_alike ?a__law_number ?l__law_number ?c__law_number ?k__law_number ?a__law_spoilt ?l__law_spoilt ?c__law_spoilt ?k__law_spoilt ?a__law_other ?l__law_other ?c__law_other ?k__law_other ?a__law_good ?l__law_good ?c__law_good ?k__law_good ?a__law_refused ?l__law_refused ?c__law_refused ?k__law_refused ?a_law ?l_law ?c_law ?k_law ?u_FIGURES ?u_LONGEST ?u_MOST_FIGURES ?u_MOST_NESTS ?u_MOST_TIMES ?u_MOST_VALUE ?u_SIGNS ?u_WORDS ?z_ValueError ?z_dict ?z_int ?z_isinstance ?z_len ?z_list ?z_min ?z_range ?z_sorted ?z_str
    (case g_NestError => k_is)
    (case bx_NestError => k_is)
    (case ix_NestError => k_is)
    (case tx_NestError => k_is)
    (case g_NoNests => k_is)
    (case bx_NoNests => k_is)
    (case ix_NoNests => k_is)
    (case tx_NoNests => k_is)
    (case x_NoNests => k_exc)
    (case kk_NoNests => k_is)
    (case g_NoName => k_is)
    (case bx_NoName => k_is)
    (case ix_NoName => k_is)
    (case tx_NoName => k_is)
    (case x_NoName => k_exc)
    (case kk_NoName => k_is)
    (case g_NoValue => k_is)
    (case bx_NoValue => k_is)
    (case ix_NoValue => k_is)
    (case tx_NoValue => k_is)
    (case x_NoValue => k_exc)
    (case kk_NoValue => k_is)
    (case g_NoNest => k_is)
    (case bx_NoNest => k_is)
    (case ix_NoNest => k_is)
    (case tx_NoNest => k_is)
    (case x_NoNest => k_exc)
    (case kk_NoNest => k_is)
    (case g_NoHome => k_is)
    (case bx_NoHome => k_is)
    (case ix_NoHome => k_is)
    (case tx_NoHome => k_is)
    (case x_NoHome => k_exc)
    (case kk_NoHome => k_is)
    (case g_Taken => k_is)
    (case bx_Taken => k_is)
    (case ix_Taken => k_is)
    (case tx_Taken => k_is)
    (case x_Taken => k_exc)
    (case kk_Taken => k_is)
    (case g_Twice => k_is)
    (case bx_Twice => k_is)
    (case ix_Twice => k_is)
    (case tx_Twice => k_is)
    (case x_Twice => k_exc)
    (case kk_Twice => k_is)
    (case g_NoRoom => k_is)
    (case bx_NoRoom => k_is)
    (case ix_NoRoom => k_is)
    (case tx_NoRoom => k_is)
    (case x_NoRoom => k_exc)
    (case kk_NoRoom => k_is)
    (case g_Unknown => k_is)
    (case bx_Unknown => k_is)
    (case ix_Unknown => k_is)
    (case tx_Unknown => k_is)
    (case x_Unknown => k_exc)
    (case kk_Unknown => k_is)
    (case g_NoNote => k_is)
    (case bx_NoNote => k_is)
    (case ix_NoNote => k_is)
    (case tx_NoNote => k_is)
    (case x_NoNote => k_exc)
    (case kk_NoNote => k_is)
    (case s_NoNests_NestError => k_is)
    (case s_NoName_NestError => k_is)
    (case s_NoValue_NestError => k_is)
    (case s_NoNest_NestError => k_is)
    (case s_NoHome_NestError => k_is)
    (case s_Taken_NestError => k_is)
    (case s_Twice_NestError => k_is)
    (case s_NoNote_NestError => k_is)
    (case q_NoNests_NoNests => kit_is)
    (case q_NoNests_NoName => kit_is)
    (case q_NoNests_NoValue => kit_is)
    (case q_NoNests_NoNest => kit_is)
    (case q_NoNests_NoHome => kit_is)
    (case q_NoNests_Taken => kit_is)
    (case q_NoNests_Twice => kit_is)
    (case q_NoNests_NoNote => kit_is)
    (case q_NoNests_NoRoom => kit_is)
    (case q_NoNests_Unknown => kit_is)
    (case q_NoNests_ValueError => kit_is)
    (case q_NoName_NoNests => kit_is)
    (case q_NoName_NoName => kit_is)
    (case q_NoName_NoValue => kit_is)
    (case q_NoName_NoNest => kit_is)
    (case q_NoName_NoHome => kit_is)
    (case q_NoName_Taken => kit_is)
    (case q_NoName_Twice => kit_is)
    (case q_NoName_NoNote => kit_is)
    (case q_NoName_NoRoom => kit_is)
    (case q_NoName_Unknown => kit_is)
    (case q_NoName_ValueError => kit_is)
    (case q_NoValue_NoNests => kit_is)
    (case q_NoValue_NoName => kit_is)
    (case q_NoValue_NoValue => kit_is)
    (case q_NoValue_NoNest => kit_is)
    (case q_NoValue_NoHome => kit_is)
    (case q_NoValue_Taken => kit_is)
    (case q_NoValue_Twice => kit_is)
    (case q_NoValue_NoNote => kit_is)
    (case q_NoValue_NoRoom => kit_is)
    (case q_NoValue_Unknown => kit_is)
    (case q_NoValue_ValueError => kit_is)
    (case q_NoNest_NoNests => kit_is)
    (case q_NoNest_NoName => kit_is)
    (case q_NoNest_NoValue => kit_is)
    (case q_NoNest_NoNest => kit_is)
    (case q_NoNest_NoHome => kit_is)
    (case q_NoNest_Taken => kit_is)
    (case q_NoNest_Twice => kit_is)
    (case q_NoNest_NoNote => kit_is)
    (case q_NoNest_NoRoom => kit_is)
    (case q_NoNest_Unknown => kit_is)
    (case q_NoNest_ValueError => kit_is)
    (case q_NoHome_NoNests => kit_is)
    (case q_NoHome_NoName => kit_is)
    (case q_NoHome_NoValue => kit_is)
    (case q_NoHome_NoNest => kit_is)
    (case q_NoHome_NoHome => kit_is)
    (case q_NoHome_Taken => kit_is)
    (case q_NoHome_Twice => kit_is)
    (case q_NoHome_NoNote => kit_is)
    (case q_NoHome_NoRoom => kit_is)
    (case q_NoHome_Unknown => kit_is)
    (case q_NoHome_ValueError => kit_is)
    (case q_Taken_NoNests => kit_is)
    (case q_Taken_NoName => kit_is)
    (case q_Taken_NoValue => kit_is)
    (case q_Taken_NoNest => kit_is)
    (case q_Taken_NoHome => kit_is)
    (case q_Taken_Taken => kit_is)
    (case q_Taken_Twice => kit_is)
    (case q_Taken_NoNote => kit_is)
    (case q_Taken_NoRoom => kit_is)
    (case q_Taken_Unknown => kit_is)
    (case q_Taken_ValueError => kit_is)
    (case q_Twice_NoNests => kit_is)
    (case q_Twice_NoName => kit_is)
    (case q_Twice_NoValue => kit_is)
    (case q_Twice_NoNest => kit_is)
    (case q_Twice_NoHome => kit_is)
    (case q_Twice_Taken => kit_is)
    (case q_Twice_Twice => kit_is)
    (case q_Twice_NoNote => kit_is)
    (case q_Twice_NoRoom => kit_is)
    (case q_Twice_Unknown => kit_is)
    (case q_Twice_ValueError => kit_is)
    (case q_NoNote_NoNests => kit_is)
    (case q_NoNote_NoName => kit_is)
    (case q_NoNote_NoValue => kit_is)
    (case q_NoNote_NoNest => kit_is)
    (case q_NoNote_NoHome => kit_is)
    (case q_NoNote_Taken => kit_is)
    (case q_NoNote_Twice => kit_is)
    (case q_NoNote_NoNote => kit_is)
    (case q_NoNote_NoRoom => kit_is)
    (case q_NoNote_Unknown => kit_is)
    (case q_NoNote_ValueError => kit_is)
    (case en_ => k_is)
    (case et_ => k_is)
    (case eg_NoNests => k_is)
    (case ek_NoNests => k_is)
    (case ed_NoNests => k_is)
    (case ea_NoNests => k_is)
    (case em_NoNests => k_is)
    (case eg_NoName => k_is)
    (case ek_NoName => k_is)
    (case ed_NoName => k_is)
    (case ea_NoName => k_is)
    (case em_NoName => k_is)
    (case eg_NoValue => k_is)
    (case ek_NoValue => k_is)
    (case ed_NoValue => k_is)
    (case ea_NoValue => k_is)
    (case em_NoValue => k_is)
    (case eg_NoNest => k_is)
    (case ek_NoNest => k_is)
    (case ed_NoNest => k_is)
    (case ea_NoNest => k_is)
    (case em_NoNest => k_is)
    (case eg_NoHome => k_is)
    (case ek_NoHome => k_is)
    (case ed_NoHome => k_is)
    (case ea_NoHome => k_is)
    (case em_NoHome => k_is)
    (case eg_Taken => k_is)
    (case ek_Taken => k_is)
    (case ed_Taken => k_is)
    (case ea_Taken => k_is)
    (case em_Taken => k_is)
    (case eg_Twice => k_is)
    (case ek_Twice => k_is)
    (case ed_Twice => k_is)
    (case ea_Twice => k_is)
    (case em_Twice => k_is)
    (case eg_NoNote => k_is)
    (case ek_NoNote => k_is)
    (case ed_NoNote => k_is)
    (case ea_NoNote => k_is)
    (case em_NoNote => k_is)
    (case g_Nests => k_is)
    (case pg_Nests => k_is)
    (case hd_Nests => k_is)
    (case po_Nests => k_is)
    (case sa_Nests => k_is)
    (case mk_Nests => k_is)
    (case kc_Nests => k_is)
    (case n_Nests_count => k_is)
    (case n_Nests_first => k_is)
    (case n_Nests_second => k_is)
    (case n_Nests__names => k_is)
    (case n_Nests__things => k_is)
    (case a_is_name => k_is)
    (case l_is_name => k_is)
    (case c_is_name => k_is)
    (case k_is_name => k_is)
    (case a_home => k_is)
    (case l_home => k_is)
    (case c_home => k_is)
    (case k_home => k_is)
    (case a_Nests_init => k_is)
    (case i_Nests_init => k_is)
    (case l_Nests_init => k_is)
    (case c_Nests_init => k_is)
    (case k_Nests_init => k_is)
    (case a_Nests_homes => k_is)
    (case i_Nests_homes => k_is)
    (case l_Nests_homes => k_is)
    (case c_Nests_homes => k_is)
    (case k_Nests_homes => k_is)
    (case a_Nests_at => k_is)
    (case i_Nests_at => k_is)
    (case l_Nests_at => k_is)
    (case c_Nests_at => k_is)
    (case k_Nests_at => k_is)
    (case a_Nests_way => k_is)
    (case i_Nests_way => k_is)
    (case l_Nests_way => k_is)
    (case c_Nests_way => k_is)
    (case k_Nests_way => k_is)
    (case a_Nests_put => k_is)
    (case i_Nests_put => k_is)
    (case l_Nests_put => k_is)
    (case c_Nests_put => k_is)
    (case k_Nests_put => k_is)
    (case a_Nests_put_at => k_is)
    (case i_Nests_put_at => k_is)
    (case l_Nests_put_at => k_is)
    (case c_Nests_put_at => k_is)
    (case k_Nests_put_at => k_is)
    (case a_Nests_moves => k_is)
    (case i_Nests_moves => k_is)
    (case l_Nests_moves => k_is)
    (case c_Nests_moves => k_is)
    (case k_Nests_moves => k_is)
    (case a_Nests_take_out => k_is)
    (case i_Nests_take_out => k_is)
    (case l_Nests_take_out => k_is)
    (case c_Nests_take_out => k_is)
    (case k_Nests_take_out => k_is)
    (case a_Nests_value => k_is)
    (case i_Nests_value => k_is)
    (case l_Nests_value => k_is)
    (case c_Nests_value => k_is)
    (case k_Nests_value => k_is)
    (case a_Nests_where => k_is)
    (case i_Nests_where => k_is)
    (case l_Nests_where => k_is)
    (case c_Nests_where => k_is)
    (case k_Nests_where => k_is)
    (case a_Nests_names => k_is)
    (case i_Nests_names => k_is)
    (case l_Nests_names => k_is)
    (case c_Nests_names => k_is)
    (case k_Nests_names => k_is)
    (case a_Nests_many => k_is)
    (case i_Nests_many => k_is)
    (case l_Nests_many => k_is)
    (case c_Nests_many => k_is)
    (case k_Nests_many => k_is)
    (case a_Nests__check_nest => k_is)
    (case i_Nests__check_nest => k_is)
    (case l_Nests__check_nest => k_is)
    (case c_Nests__check_nest => k_is)
    (case k_Nests__check_nest => k_is)
    (case a_Nests__thing => k_is)
    (case i_Nests__thing => k_is)
    (case l_Nests__thing => k_is)
    (case c_Nests__thing => k_is)
    (case k_Nests__thing => k_is)
    (case a_Nests__stand => k_is)
    (case i_Nests__stand => k_is)
    (case l_Nests__stand => k_is)
    (case c_Nests__stand => k_is)
    (case k_Nests__stand => k_is)
    (case a_Nests__other_home => k_is)
    (case i_Nests__other_home => k_is)
    (case l_Nests__other_home => k_is)
    (case c_Nests__other_home => k_is)
    (case k_Nests__other_home => k_is)
    (case a_Nests__ways => k_is)
    (case i_Nests__ways => k_is)
    (case l_Nests__ways => k_is)
    (case c_Nests__ways => k_is)
    (case k_Nests__ways => k_is)
    (case a_Nests__is_open => k_is)
    (case i_Nests__is_open => k_is)
    (case l_Nests__is_open => k_is)
    (case c_Nests__is_open => k_is)
    (case k_Nests__is_open => k_is)
    (case a_Nests__open_way => k_is)
    (case i_Nests__open_way => k_is)
    (case l_Nests__open_way => k_is)
    (case c_Nests__open_way => k_is)
    (case k_Nests__open_way => k_is)
    (case a_Nests__moves_on => k_is)
    (case i_Nests__moves_on => k_is)
    (case l_Nests__moves_on => k_is)
    (case c_Nests__moves_on => k_is)
    (case k_Nests__moves_on => k_is)
    (case a__check_name => k_is)
    (case l__check_name => k_is)
    (case c__check_name => k_is)
    (case k__check_name => k_is)
    (case a__check_value => k_is)
    (case l__check_value => k_is)
    (case c__check_value => k_is)
    (case k__check_value => k_is)
    (case a_written => k_is)
    (case l_written => k_is)
    (case c_written => k_is)
    (case k_written => k_is)
    (case a_read => k_is)
    (case l_read => k_is)
    (case c_read => k_is)
    (case k_read => k_is)
    (case a__rows => k_is)
    (case l__rows => k_is)
    (case c__rows => k_is)
    (case k__rows => k_is)
    (case a__head => k_is)
    (case l__head => k_is)
    (case c__head => k_is)
    (case k__head => k_is)
    (case a__thing => k_is)
    (case l__thing => k_is)
    (case c__thing => k_is)
    (case k__thing => k_is)
    (case a__number => k_is)
    (case l__number => k_is)
    (case c__number => k_is)
    (case k__number => k_is)
    (case a__value => k_is)
    (case l__value => k_is)
    (case c__value => k_is)
    (case k__value => k_is)
    (case a__law_cell_at => k_is)
    (case l__law_cell_at => k_is)
    (case c__law_cell_at => k_is)
    (case k__law_cell_at => k_is)
    (case a__law_mixed => k_is)
    (case l__law_mixed => k_is)
    (case c__law_mixed => k_is)
    (case k__law_mixed => k_is)
    (case a__law_room => k_is)
    (case l__law_room => k_is)
    (case c__law_room => k_is)
    (case k__law_room => k_is)
    (case a__law_names => k_is)
    (case l__law_names => k_is)
    (case c__law_names => k_is)
    (case k__law_names => k_is)
    (case a__law_home => k_is)
    (case l__law_home => k_is)
    (case c__law_home => k_is)
    (case k__law_home => k_is)
    (case a__law_table => k_is)
    (case l__law_table => k_is)
    (case c__law_table => k_is)
    (case k__law_table => k_is)
    (case a__law_homes => k_is)
    (case l__law_homes => k_is)
    (case c__law_homes => k_is)
    (case k__law_homes => k_is)
    (case a__law_kind => k_is)
    (case l__law_kind => k_is)
    (case c__law_kind => k_is)
    (case k__law_kind => k_is)
    (case a__law_told => k_is)
    (case l__law_told => k_is)
    (case c__law_told => k_is)
    (case k__law_told => k_is)
    (case a__law_drawn => k_is)
    (case l__law_drawn => k_is)
    (case c__law_drawn => k_is)
    (case k__law_drawn => k_is)
    (case a__law_rows => k_is)
    (case l__law_rows => k_is)
    (case c__law_rows => k_is)
    (case k__law_rows => k_is)
    (case a__law_text => k_is)
    (case l__law_text => k_is)
    (case c__law_text => k_is)
    (case k__law_text => k_is)
    (case a__law_alike => k_is)
    (case l__law_alike => k_is)
    (case c__law_alike => k_is)
    (case k__law_alike => k_is)
    (case a__law_number => k_is)
    (case l__law_number => k_is)
    (case c__law_number => k_is)
    (case k__law_number => k_is)
    (case a__law_spoilt => k_is)
    (case l__law_spoilt => k_is)
    (case c__law_spoilt => k_is)
    (case k__law_spoilt => k_is)
    (case a__law_other => k_is)
    (case l__law_other => k_is)
    (case c__law_other => k_is)
    (case k__law_other => k_is)
    (case a__law_good => k_is)
    (case l__law_good => k_is)
    (case c__law_good => k_is)
    (case k__law_good => k_is)
    (case a__law_refused => k_is)
    (case l__law_refused => k_is)
    (case c__law_refused => k_is)
    (case k__law_refused => k_is)
    (case a_law => k_is)
    (case l_law => k_is)
    (case c_law => k_is)
    (case k_law => k_is)
    (case u_FIGURES => k_is)
    (case u_LONGEST => k_is)
    (case u_MOST_FIGURES => k_is)
    (case u_MOST_NESTS => k_is)
    (case u_MOST_TIMES => k_is)
    (case u_MOST_VALUE => k_is)
    (case u_SIGNS => k_is)
    (case u_WORDS => k_is)
    (case z_ValueError => k_is)
    (case z_dict => k_is)
    (case z_int => k_is)
    (case z_isinstance => k_is)
    (case z_len => k_is)
    (case z_list => k_is)
    (case z_min => k_is)
    (case z_range => k_is)
    (case z_sorted => k_is)
    (case z_str => k_is)

